/-
  rectolaw15.Of, rectoref14.CheckIndex: entries as the document's, and whether they may be.
-/
import Derived.Test.YtkdoccmflknipaaSEntry
namespace Go.Proofs.Ytkdoccmflknipaa
open Go.RowKit

theorem refEntryInfo : (Try.prog.info? 64).map (fun i => (i.zero, i.size, i.bytes)) = some (some (.agg #[.string ⟨#[]⟩, .int .i64 0, .int .i64 0, .string ⟨#[]⟩, .int .i64 0, .int .i64 0]), 6, 64) := by kernel_rfl
set_option maxHeartbeats 2000000 in
theorem ofE_any (w : World) (v : Value) (l : List En) (h : Reads 6 cE w v l) (hl : l.length ≤ 100000) :
    Calls Try.prog 11 #[v] w (OwnTo 64 6 cE l w) := by
  obtain ⟨A, c, rfl⟩ := h.form
  have hn := h.len
  have hnm : l.length ≤ 9223372036854775807 := by omega
  have HO := Lib.hid h
  obtain ⟨i0, hi, hz0, hz1, hz2⟩ := info_parts refEntryInfo
  clear h hn
  go_enter Try.func11, Try.ntmps11
  go_wp2
  go_loopw [3, 4] (fun s3 s4 wr => ∃ i : Nat, i ≤ l.length ∧ s4 = .int .i64 i ∧ Hid (wr.ownsRow w.heap.size 64 6 s3 i ((l.take i).flatMap cE)) ∧ Below w.heap.size w wr) (fun _ s4 _ => l.length - (intOf s4).toNat)
  case atStart => exact ⟨0, Nat.zero_le _, rfl, Lib.hid (World.ownsRow_nil _ _ _ _), Below.refl _ _⟩
  case round =>
    obtain ⟨i, hil, rfl, hown, hb⟩ := hrel
    by_cases hlt : i < l.length
    · obtain ⟨e, he⟩ : ∃ e, l[i]? = some e := ⟨_, List.getElem?_eq_getElem hlt⟩
      obtain ⟨ad, rfl, c0, c1, c2, c3, c4, c5⟩ := Ents.at_ (HO.out.below hb) he
      obtain ⟨p, st, m, d, tm, sz⟩ := e
      have HF := Lib.hid he
      have i0' : (0 : Int) ≤ (i : Int) := Int.natCast_nonneg _
      have hi1 : (i : Int) < (l.length : Int) := by omega
      have hcl := World.block_lt_of_cell? _ _ c0
      have hsz := hb.size
      have hown4 := ((hown.out.alloc (.cells #[.string p, .int .i64 st, .int .i64 m, .string d, .int .i64 tm, .int .i64 sz] 61)).alloc (.cells #[.string p, .int .i64 st, .int .i64 m, .string d, .int .i64 tm, .int .i64 sz] 64))
      have hnews := news_one (wr.alloc (.cells #[.string p, .int .i64 st, .int .i64 m, .string d, .int .i64 tm, .int .i64 sz] 61)) #[.string p, .int .i64 st, .int .i64 m, .string d, .int .i64 tm, .int .i64 sz] 64 (wr.heap.size + 1) (by simp)
      clear he
      go_wp2_with (at_builtin; refine wpList_append_own _ rfl _ _ 32 rfl w.heap.size 64 i0 (.agg #[.string ⟨#[]⟩, .int .i64 0, .int .i64 0, .string ⟨#[]⟩, .int .i64 0, .int .i64 0]) 6 64 Try.underlying32 hi hz0 hz1 hz2 rfl (by decide) _ _ _ rfl hown4 ⟨wr.heap.size + 1, 0, none⟩ 1 1 [.string p, .int .i64 st, .int .i64 m, .string d, .int .i64 tm, .int .i64 sz] rfl rfl hnews (by simp [Value.oneCell']) (by unfold maxLen; omega) (by omega) (by simp; omega) ?_; intro v5 w5 hown5 hg5 _)
      have hb5 : Below w.heap.size w w5 := ((hb.alloc hsz _).alloc (by simp; omega) _).grown hg5 (by simp; omega) (fun k hk => (hown.out.lt k hk).1)
      clear hnews hown4 hg5
      go_roundw
      case rel => exact ⟨i + 1, by omega, by go_num, Lib.hid (by rw [take_snoc HF.out, flat_snoc]; exact hown5), hb5⟩
      case measure => simp [intOf]; omega
    · obtain rfl : i = l.length := by omega
      have HL : Hid ((l.take l.length).flatMap cE = l.flatMap cE) := Lib.hid (by rw [List.take_length])
      go_wp2
      go_ret
      exact ⟨_, rfl, by rw [← HL.out]; exact hown.out, hb⟩

theorem wrongSize : (Try.prog.info? 30).map (·.size) = some 2 := by kernel_rfl
def WrongTo (n : Int) (w : World) (e : Ending) (w' : World) : Prop := ∃ A k c, e = .returned (.agg #[.slice A k c, .int .i64 n]) ∧ Below w.heap.size w w'
set_option maxHeartbeats 1000000 in
theorem at_any (s : ByteArray) (i n : Int) (w : World) : Calls Try.prog 25 #[.string s, .int .i64 i, .int .i64 n] w (WrongTo n w) := by
  go_enter Try.func25, Try.ntmps25
  go_wp2
  refine bodyPost_ret (results_cell_row (fn := Try.f25) rfl _ _ w.heap.size 30 #[.slice (some ⟨w.heap.size + 1, 0, none⟩) 1 1, .int .i64 n] (0, 0) _ rfl (heap_alloc2_old w _ _) Try.underlying30 rfl wrongSize) rfl ⟨_, _, _, rfl, ?_⟩
  exact ((Below.refl _ _).alloc (Nat.le_refl _) _).alloc (by simp) _

/-- What CheckIndex tells: where it is nothing, each entry stands right. -/
def CheckTo (l : List En) (w : World) (e : Ending) (w' : World) : Prop := ∃ A k c n, e = .returned (.agg #[.slice A k c, .int .i64 n]) ∧ (n = 0 → ∀ i, i < l.length → okAt l i) ∧ Below w.heap.size w w'
set_option maxRecDepth 100000 in
set_option maxHeartbeats 4000000 in
theorem checkIndex_any (w : World) (v : Value) (l : List En) (h : Reads 6 cE w v l) (hl : l.length ≤ 256) (hs : ∀ x ∈ l, x.1.size ≤ 1000000) :
    Calls Try.prog 10 #[v] w (CheckTo l w) := by
  have EN := Lib.hid fun W i (hW : Below w.heap.size w W) hi => entry_any W v l i (h.below hW) hi (by omega) hs
  obtain ⟨A, c, rfl⟩ := h.form
  have hn0 : ¬ (256 : Int) < (l.length : Int) := by omega
  obtain ⟨w1, hw1⟩ : ∃ w1, w1 = w.alloc (.cells #[.slice none 0 0, .int .i64 0] 30) := ⟨_, rfl⟩
  have B1 : Below w.heap.size w w1 := by rw [hw1]; exact (Below.refl _ _).alloc (Nat.le_refl _) _
  obtain ⟨G, hG⟩ : ∃ G, G = w.heap.size := ⟨_, rfl⟩
  have k1 : w1.heap[G]? = some (.cells #[.slice none 0 0, .int .i64 0] 30 (0, 0)) := by rw [hw1, hG]; exact heap_alloc_new w _
  have HG : Hid (w.heap.size ≤ G) := Lib.hid (by rw [hG]; exact Nat.le_refl _)
  have K1 := Lib.hid k1
  have s1 := B1.size
  clear h hs k1
  go_enter Try.func10, Try.ntmps10
  go_wp2
  rw [← hw1, ← hG]
  clear hw1 hG
  go_loopw [3] (fun s3 wr => ∃ i : Nat, i ≤ l.length ∧ s3 = .int .i64 i ∧ Hid (∀ j, j < i → okAt l j) ∧ Below w1.heap.size w1 wr) (fun s3 _ => l.length - (intOf s3).toNat)
  case atStart => exact ⟨0, Nat.zero_le _, rfl, Lib.hid (fun j hj => absurd hj (Nat.not_lt_zero _)), Below.refl _ _⟩
  case round =>
    obtain ⟨i, hil, rfl, hp, hb⟩ := hrel
    have Bw : Below w.heap.size w wr := B1.trans (hb.mono s1)
    have sw := Bw.size
    have k2 : wr.heap[G]? = some (.cells #[.slice none 0 0, .int .i64 0] 30 (0, 0)) := (hb.block G (Array.getElem?_eq_some_iff.1 K1.out).1).trans K1.out
    have i0 : (0 : Int) ≤ (i : Int) := Int.natCast_nonneg _
    by_cases hlt : i < l.length
    · have i1 : (i : Int) < (l.length : Int) := by omega
      have E := Lib.hid (EN.out wr i Bw hlt)
      have K2 := Lib.hid k2
      clear k2
      go_wp2_with fail
      refine E.out.mono ?_
      rintro e w2 ⟨n, rfl, hok, b2⟩
      have K3 := Lib.hid ((b2.block G (Array.getElem?_eq_some_iff.1 K2.out).1).trans K2.out)
      have B2 := Bw.trans (b2.mono sw)
      have s2 := B2.size
      by_cases hn : n = 0
      · have HK := Lib.hid (hok hn)
        subst hn
        clear hok
        go_wp2_with fail
        go_roundw
        case rel => exact ⟨i + 1, by omega, by go_num, Lib.hid (fun j hj => by
          rcases Nat.lt_or_ge j i with h1 | h1
          · exact hp.out j h1
          · obtain rfl : j = i := by omega
            exact HK.out), hb.trans (b2.mono hb.size)⟩
        case measure => simp [intOf]; omega
      · have hnb : (n == 0) = false := by simpa using hn
        have HN := Lib.hid hn
        clear hok hn
        go_wp2_with fail
        refine (at_any _ _ _ w2).mono ?_
        rintro e w3 ⟨A', k', c', rfl, b3⟩
        have B3 := B2.trans (b3.mono s2)
        have k3 := (b3.block G (Array.getElem?_eq_some_iff.1 K3.out).1).trans K3.out
        have d0 : w3.cell? ⟨G, 0, none⟩ = some (.slice none 0 0) := cell_of_row w3 G 0 _ _ (0, 0) k3
        have d1 : w3.cell? ⟨G, 1, none⟩ = some (.int .i64 0) := cell_of_row w3 G 1 _ _ (0, 0) k3
        have e0 : w3.frozen? ⟨G, 0, none⟩ = false := by simp [World.frozen?, k3]
        have e1 : w3.frozen? ⟨G, 1, none⟩ = false := by simp [World.frozen?, k3]
        have K4 := Lib.hid k3
        clear k3
        go_wp2_with fail
        refine bodyPost_ret (results_cell_row (fn := Try.f10) rfl _ _ G 30 #[.slice A' k' c', .int .i64 n] (0, 0) _ rfl (by first | exact set_row _ _ _ _ _ _ _ (set_row _ _ _ _ _ _ _ K4.out) | simpa using set_row _ _ _ _ _ _ _ (set_row _ _ _ _ _ _ _ K4.out)) Try.underlying30 rfl wrongSize) rfl ⟨_, _, _, n, rfl, (fun h => absurd h HN.out), ?_⟩
        exact (B3.setCell (p := ⟨G, 0, none⟩) HG.out _).setCell (p := ⟨G, 1, none⟩) HG.out _
    · obtain rfl : i = l.length := by omega
      have d0 : wr.cell? ⟨G, 0, none⟩ = some (.slice none 0 0) := cell_of_row wr G 0 _ _ (0, 0) k2
      have d1 : wr.cell? ⟨G, 1, none⟩ = some (.int .i64 0) := cell_of_row wr G 1 _ _ (0, 0) k2
      have e0 : wr.frozen? ⟨G, 0, none⟩ = false := by simp [World.frozen?, k2]
      have e1 : wr.frozen? ⟨G, 1, none⟩ = false := by simp [World.frozen?, k2]
      have K4 := Lib.hid k2
      clear k2
      go_wp2_with fail
      refine bodyPost_ret (results_cell_row (fn := Try.f10) rfl _ _ G 30 #[.slice none 0 0, .int .i64 0] (0, 0) _ rfl (by first | exact set_row _ _ _ _ _ _ _ (set_row _ _ _ _ _ _ _ K4.out) | simpa using set_row _ _ _ _ _ _ _ (set_row _ _ _ _ _ _ _ K4.out)) Try.underlying30 rfl wrongSize) rfl ⟨_, _, _, 0, rfl, (fun _ j hj => hp.out j hj), ?_⟩
      exact (Bw.setCell (p := ⟨G, 0, none⟩) HG.out _).setCell (p := ⟨G, 1, none⟩) HG.out _
end Go.Proofs.Ytkdoccmflknipaa
