/-
  rectoref14.Stage: the files of a stage.
-/
import Derived.Test.YtkdoccmflknipaaSRefA
namespace Go.Proofs.Ytkdoccmflknipaa
open Go.RowKit

def EntCells (ad : Addr) (i : Nat) (p : ByteArray) (st m : Int) (d : ByteArray) (W : World) : Prop :=
  W.cell? (ad.add (i * 6)) = some (.string p) ∧ W.cell? ⟨(ad.add (i * 6)).block, (ad.add (i * 6)).off + 1, none⟩ = some (.int .i64 st) ∧ W.cell? ⟨(ad.add (i * 6)).block, (ad.add (i * 6)).off + 2, none⟩ = some (.int .i64 m) ∧ W.cell? ⟨(ad.add (i * 6)).block, (ad.add (i * 6)).off + 3, none⟩ = some (.string d)

set_option maxHeartbeats 2000000 in
theorem refStage_any (w : World) (v : Value) (l : List En) (n : Int) (h : Reads 6 cE w v l) (hl : l.length ≤ 100000) :
    Calls Try.prog 33 #[v, .int .i64 n] w (OwnTo 77 3 cF (stageE l n) w) := by
  obtain ⟨A, c, rfl⟩ := h.form
  have hn := h.len
  have hnm : l.length ≤ 9223372036854775807 := by omega
  have HO := Lib.hid h
  obtain ⟨i0, hi, hz0, hz1, hz2⟩ := info_parts refFileInfo
  clear h hn
  go_enter Try.func33, Try.ntmps33
  go_wp2
  go_loopw [5, 6] (fun s5 s6 wr => ∃ i : Nat, i ≤ l.length ∧ s6 = .int .i64 i ∧ Hid (wr.ownsRow w.heap.size 77 3 s5 (stageE (l.take i) n).length ((stageE (l.take i) n).flatMap cF)) ∧ Below w.heap.size w wr) (fun _ s6 _ => l.length - (intOf s6).toNat)
  case atStart => exact ⟨0, Nat.zero_le _, rfl, Lib.hid (World.ownsRow_nil _ _ _ _), Below.refl _ _⟩
  case round =>
    obtain ⟨i, hil, rfl, hown, hb⟩ := hrel
    by_cases hlt : i < l.length
    · obtain ⟨e, he⟩ : ∃ e, l[i]? = some e := ⟨_, List.getElem?_eq_getElem hlt⟩
      obtain ⟨ad, rfl, c0, c1, c2, c3, c4, c5⟩ := Ents.at_ HO.out he
      have HT := Lib.hid (show stageE (l.take (i + 1)) n = stageE (l.take i) n ++ (if e.2.1 = n then [toF e] else []) by rw [take_snoc he, stageE_snoc])
      have hsl := Nat.le_trans (stageE_len (l.take i) n) (by rw [List.length_take]; omega : (l.take i).length ≤ 100000)
      obtain ⟨p, st, m, d, tm, sz⟩ := e
      have ZZ := Lib.hid fun W (hW : Below w.heap.size w W) => (⟨(hW.cell (World.block_lt_of_cell? _ _ c0)).trans c0, (hW.cell (World.block_lt_of_cell? _ _ c1)).trans c1, (hW.cell (World.block_lt_of_cell? _ _ c2)).trans c2, (hW.cell (World.block_lt_of_cell? _ _ c3)).trans c3⟩ : EntCells ad i p st m d W)
      unfold EntCells at ZZ
      have y1 := (ZZ.out _ hb).2.1
      have z0 := ZZ.out _ hb.drew
      have i0' : (0 : Int) ≤ (i : Int) := Int.natCast_nonneg _
      have hi1 : (i : Int) < (l.length : Int) := by omega
      have hsz := hb.size
      obtain ⟨acc, hacc⟩ : ∃ acc, acc = stageE (l.take i) n := ⟨_, rfl⟩
      rw [← hacc] at hown HT hsl
      clear he c0 c1 c2 c3 c4 c5 hacc
      by_cases hst : st = n
      · subst hst
        have hst : Hid ((if st = st then [toF (p, st, m, d, tm, sz)] else []) = [(p, m, d)]) := Lib.hid (by rw [if_pos rfl]; rfl)
        go_wp2
        clear y1
        go_region_held3 (fun w' => w'.cell? (ad.add (i * 6)) = some (.string p) ∧ w'.cell? ⟨(ad.add (i * 6)).block, (ad.add (i * 6)).off + 1, none⟩ = some (.int .i64 st) ∧ w'.cell? ⟨(ad.add (i * 6)).block, (ad.add (i * 6)).off + 2, none⟩ = some (.int .i64 m) ∧ w'.cell? ⟨(ad.add (i * 6)).block, (ad.add (i * 6)).off + 3, none⟩ = some (.string d))
          (first | exact z0 | exact ZZ.out _ (hb.drew.alloc hsz _) | exact z5)
          ((refine step_append_lies _ (by rfl) _ _ 38 (by rfl) w.heap.size 77 i0 (.agg #[.string ⟨#[]⟩, .int .i64 0, .string ⟨#[]⟩]) 3 40 Try.underlying38 hi hz0 hz1 hz2 rfl (by omega) _ acc.length _ (by rfl) (hown.out.drew.alloc _)
              ⟨wr.heap.size, 0, none⟩ 1 1 [.string p, .int .i64 m, .string d] (by rfl) (by rfl) (World.news_of_block (cs := #[.string p, .int .i64 m, .string d]) (t := 77) (fr := (0, 0)) (heap_alloc_new wr.drew _)) (by simp [Value.oneCell'])
              (by omega) (by unfold maxLen; omega) (by omega) (by simp; omega) (wr.heap.size + 1) (by simp) ?_; intro gg cap w5 hown5 hg5 hat hlt5; have hb5 := (hb.drew.alloc hsz (.cells #[.string p, .int .i64 m, .string d] 77)).grown hg5 (by simp; omega) (fun k hk => (hown.out.lt k hk).1); have z5 := ZZ.out _ hb5))
        go_wp2
        go_roundw
        case rel => exact ⟨i + 1, by omega, by go_num, Lib.hid (by rw [HT.out, hst.out, List.length_append, flat_snoc]; exact hown5), hb5⟩
        case measure => simp [intOf]; omega
      · have hst' : Hid ((if st = n then [toF (p, st, m, d, tm, sz)] else []) = ([] : List Fl)) := Lib.hid (if_neg hst)
        have hbe : (st == n) = false := by simpa using hst
        go_wp2
        go_roundw
        case rel => exact ⟨i + 1, by omega, by go_num, Lib.hid (by rw [HT.out, hst'.out, List.append_nil]; exact hown.out), hb⟩
        case measure => simp [intOf]; omega
    · obtain rfl : i = l.length := by omega
      have HL : Hid (stageE (l.take l.length) n = stageE l n) := Lib.hid (by rw [List.take_length])
      go_wp2
      go_ret
      exact ⟨_, rfl, by rw [← HL.out]; exact hown.out, hb⟩
end Go.Proofs.Ytkdoccmflknipaa
