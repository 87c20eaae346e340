/-
  rectolaw11.Of: edits as the document's.
-/
import Derived.Test.YtdpoeagmeiedcaaDoorP6
import Derived.Deep.AppendLies
import Derived.Deep.RegionLaw
namespace Go.Proofs.YtdpoeagmeiedcaaDoor
open Go Go.RowKit

/-- A row of the call's own. -/
def OwnTo {α : Type} (e : TypeId) (k : Nat) (enc : α → List Value) (l : List α) (w : World) (x : Ending) (w' : World) : Prop := ∃ v, x = .returned v ∧ w'.ownsRow w.heap.size e k v l.length (l.flatMap enc) ∧ Below w.heap.size w w'
theorem flat_snocP {α : Type} (enc : α → List Value) (l : List α) (x : α) : (l ++ [x]).flatMap enc = l.flatMap enc ++ enc x := by simp

set_option maxRecDepth 100000 in
set_option maxHeartbeats 4000000 in
theorem ofEd_any (w : World) (v : Value) (l : List EdI) (h : Reads 2 cEd w v l) (hl : l.length ≤ 1000) :
    Calls Tryd.prog 60 #[v] w (OwnTo 91 2 cEd l w) := by
  obtain ⟨A, c, rfl⟩ := h.form
  have hnm : c ≤ 9223372036854775807 := by have := h.len.2.2; unfold maxLen at this; omega
  have HO := Lib.hid h
  obtain ⟨i0, hi, hz0, hz1, hz2⟩ := info_parts refEditInfo
  clear h
  go_enter Tryd.func60, Tryd.ntmps60
  go_wp2_with fail
  go_loopw [3, 4] (fun s3 s4 wr => ∃ i : Nat, i ≤ l.length ∧ s4 = .int .i64 i ∧ Hid (wr.ownsRow w.heap.size 91 2 s3 i ((l.take i).flatMap cEd)) ∧ Hid (Below w.heap.size w wr)) (fun _ s4 _ => l.length - (intOf s4).toNat)
  case atStart => exact ⟨0, Nat.zero_le _, rfl, Lib.hid (World.ownsRow_nil _ _ _ _), Below.refl _ _⟩
  case round =>
    obtain ⟨i, hil, rfl, hown, hb⟩ := hrel
    have i0' : (0 : Int) ≤ (i : Int) := Int.natCast_nonneg _
    by_cases hlt : i < l.length
    · obtain ⟨x, hx⟩ : ∃ x, l[i]? = some x := ⟨_, List.getElem?_eq_getElem hlt⟩
      obtain ⟨ad, rfl, c0, c1⟩ := Eds.at_ (HO.out.below hb.out) hx
      obtain ⟨o, s⟩ := x
      have HF := Lib.hid hx
      have hi1 : (i : Int) < (l.length : Int) := by omega
      have hsz := hb.out.size
      obtain ⟨vals, hvals⟩ : ∃ vs, vs = (l.take i).flatMap cEd := ⟨_, rfl⟩
      rw [← hvals] at hown
      have HV := Lib.hid hvals
      clear hx hvals
      go_upto_block 1 with fail
      go_cut [3] (fun x3 wy => Hid (wy.ownsRow w.heap.size 91 2 x3 (i + 1) ((l.take (i + 1)).flatMap cEd)) ∧ Hid (Below w.heap.size w wy))
      case first =>
        go_wp2_with fail
        go_region_law ((refine step_append_lies _ (by rfl) _ _ _ (by rfl) w.heap.size 91 i0 _ 2 24 Tryd.underlying30 hi hz0 hz1 hz2 rfl (by omega) _ i vals (by rfl) ((hown.out.alloc _).drew) ⟨wr.heap.size, 0, none⟩ 1 1 [.int .i64 o, .string s] (by rfl) (by rfl) (World.news_of_block (cs := #[.int .i64 o, .string s]) (t := 91) (fr := (0, 0)) (heap_alloc_new wr _)) (by simp [Value.oneCell']) (by omega) (by unfold maxLen; omega) (by omega) (by simp; omega) (wr.heap.size + 1) (by simp) ?_; intro gg cap w3 hown1 hgrow hat hlt2))
        all_goals
          go_wp2_with fail
          change Met _ (Act.put _ (some 3) _) _
          simp only [Act.put, List.setIfInBounds_toArray, List.set_cons_zero, List.set_cons_succ]
          go_meet
          exact ⟨Lib.hid (by rw [take_snocP HF.out, flat_snocP, ← HV.out]; exact hown1), Lib.hid (((hb.out.alloc hsz _).drew).grown hgrow (by simp; omega) (fun z hz => (hown.out.lt z hz).1))⟩
      case rest =>
        obtain ⟨h1, h2⟩ := hcut
        go_wp2
        go_roundw
        case rel => exact ⟨i + 1, by omega, by go_num, h1, h2⟩
        case measure => simp [intOf]; omega
    · obtain rfl : i = l.length := by omega
      have HL : Hid ((l.take l.length).flatMap cEd = l.flatMap cEd) := Lib.hid (by rw [List.take_length])
      go_wp2
      go_ret
      exact ⟨_, rfl, by rw [← HL.out]; exact hown.out, hb.out⟩
end Go.Proofs.YtdpoeagmeiedcaaDoor
