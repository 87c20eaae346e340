/-
  path.Parts with its cells told; the comparing of two rows of texts.
-/
import Derived.Test.YtkhdjlakclidoaaDoorRefD
import Derived.Test.YtkhdjlakclidoaaDoorFoldWalk
import Derived.BigQuiet
import Derived.Deep.QuietTactic
namespace Go.Proofs.YtkhdjlakclidoaaDoor
open Go Go.RowKit Go.Shelf

theorem ptsB_eq (p : ByteArray) : ptsB p = (spl p.data.toList).map mk := by
  have h1 : (ptsB p).map (·.data.toList) = spl p.data.toList := by
    unfold ptsB
    rw [Lib.splitB_data]
    have e : Lib.countB p ⟨#[47]⟩ = p.data.toList.count 47 := Lib.count_one 47 p.data.toList
    rw [e]
    exact splitK_spl _ _ (Nat.le_refl _)
  rw [← h1, List.map_map]
  conv => lhs; rw [← List.map_id (ptsB p)]
  exact List.map_congr_left fun y _ => (mk_toList y).symm

theorem parts_full (p : ByteArray) (m : Int) (w : World) (hp : p.size ≤ 1000000) (hne : ¬ p.size = 0) (hm : w.cell? ⟨0, 0, none⟩ = some (.int .i64 m)) (n : Nat) (hn : (spl p.data.toList).length = n) :
    Calls Tryd.prog 12 #[.string p] w fun e w' => e = .returned (.slice (some ⟨w.heap.size, 0, none⟩) n n) ∧ Below w.heap.size w w' ∧ w.heap.size < w'.heap.size ∧
      ∀ (k : Nat) (x : List UInt8), (spl p.data.toList)[k]? = some x → w'.cell? ⟨w.heap.size, k, none⟩ = some (.string (mk x)) := by
  have P := parts_any p m w hp hne hm
  rw [count_parts, hn, ptsB_eq] at P
  refine P.mono ?_
  rintro e w' ⟨rfl, rfl⟩
  refine ⟨rfl, (Below.refl _ _).alloc (Nat.le_refl _) _, by simp, fun k x hk => ?_⟩
  refine (cell_of_row _ w.heap.size k _ 9 (0, 0) (heap_alloc_new w _)).trans ?_
  rw [List.getElem?_toArray, List.getElem?_map, List.getElem?_map, hk]; rfl

theorem texts_nil (w : World) : Calls Tryd.prog 11 #[.slice none 0 0, .slice none 0 0] w (YesB w) := by
  go_enter Tryd.func11, Tryd.ntmps11
  go_wp2_with fail
  go_loopw [5] (fun i wr => i = .int .i64 0 ∧ SameW wr w) (fun _ _ => 0)
  case atStart => exact ⟨rfl, rfl⟩
  case round =>
    obtain ⟨rfl, hw⟩ := hrel
    unfold SameW at hw
    subst hw
    go_wp2
    go_ret
    exact ⟨rfl, Below.refl _ _⟩

set_option maxHeartbeats 1000000 in
theorem texts_yes (w : World) (ga gb n ca cb : Nat) (_hn : n ≤ 1000000) (ha : n ≤ ca) (_hb : n ≤ cb) (hca : ca ≤ 9223372036854775807) (_hcb : cb ≤ 9223372036854775807)
    (hs : ∀ k, k < n → ∃ s, w.cell? ⟨ga, k, none⟩ = some (.string s) ∧ w.cell? ⟨gb, k, none⟩ = some (.string s)) :
    Calls Tryd.prog 11 #[.slice (some ⟨ga, 0, none⟩) n ca, .slice (some ⟨gb, 0, none⟩) n cb] w (YesB w) := by
  have HS := Lib.hid hs
  clear hs
  go_enter Tryd.func11, Tryd.ntmps11
  go_wp2_with fail
  go_loopw [5] (fun i wr => ∃ k : Nat, i = .int .i64 k ∧ k ≤ n ∧ Below w.heap.size w wr) (fun i _ => n - (intOf i).toNat)
  case atStart => exact ⟨0, rfl, Nat.zero_le _, Below.refl _ _⟩
  case round =>
    obtain ⟨k, rfl, hk, hB⟩ := hrel
    by_cases hlt : k < n
    · obtain ⟨s, h1, h2⟩ := HS.out k hlt
      have c1 := (hB.cell (World.block_lt_of_cell? w _ h1)).trans h1
      have c2 := (hB.cell (World.block_lt_of_cell? w _ h2)).trans h2
      have k0 : (0 : Int) ≤ (k : Int) := Int.natCast_nonneg _
      have k1 : (k : Int) < (n : Int) := by omega
      clear h1 h2
      go_wp2_with fail
      go_quiet (fail)
      go_wp2
      go_roundw
      case rel => exact ⟨k + 1, by go_num, hlt, ⟨hB.os, hB.tape, hB.output, hB.size, hB.block⟩⟩
      case measure => simp [intOf]; omega
    · go_wp2
      go_ret
      exact ⟨rfl, hB⟩
#print axioms texts_yes
#print axioms parts_full
end Go.Proofs.YtkhdjlakclidoaaDoor
