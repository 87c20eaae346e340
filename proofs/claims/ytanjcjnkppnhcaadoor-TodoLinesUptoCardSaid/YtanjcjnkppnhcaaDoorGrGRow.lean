/-
  row: the numbers that are marked; Ancestors, Is, Base, Only.
-/
import Derived.Test.YtanjcjnkppnhcaaDoorGrGReach
import Derived.Outline
namespace Go.Proofs.YtanjcjnkppnhcaaDoor.G
open Go.RowKit

/-- Numbers come back in a row of the call's own. -/
def Nums (w : World) (xs : List Int) (e : Ending) (w' : World) : Prop :=
  ∃ v, e = .returned v ∧ w'.ownsRow w.heap.size 3 1 v xs.length (ivs xs) ∧ Below w.heap.size w w'

set_option maxHeartbeats 2000000 in
theorem row_any (w : World) (base g n : Nat) (f : Nat → Bool) (h : w.ownsRow base 4 1 (sl g n) n (bv (mkL n f))) (hn : n ≤ 2001) :
    Calls Tryd.prog 22 #[sl g n] w (Nums w (rowF n f)) := by
  obtain ⟨i0, hi, hz0, hz1, hz2⟩ := info_parts intInfo
  have HH := Lib.hid h
  clear h
  go_enter Tryd.func22, Tryd.ntmps22
  go_wp2
  go_loopw [3, 8] (fun s3 s8 wr => ∃ k : Nat, k ≤ n ∧ s8 = .int .i64 k ∧ wr.ownsRow w.heap.size 3 1 s3 (rowF k f).length (ivs (rowF k f)) ∧ Below w.heap.size w wr) (fun _ s8 _ => n - (intOf s8).toNat)
  case atStart => exact ⟨0, Nat.zero_le _, rfl, World.ownsRow_nil _ _ _ _, Below.refl _ _⟩
  case round =>
    obtain ⟨k, hk, rfl, hown, hb⟩ := hrel
    have k0 : (0 : Int) ≤ (k : Int) := Int.natCast_nonneg _
    have hl := rowF_len k f
    by_cases hlt : k < n
    · have k1 : (k : Int) < (n : Int) := by omega
      have c1 := (own_keep HH.out hb).cellAt k (by omega)
      have hm : (bv (mkL n f))[k]? = some (.bool (f k)) := by simp [mkL_at hlt]
      rw [hm] at c1
      have HN := Lib.hid (rowF_succ k f)
      clear hm
      generalize rowF k f = R at *
      cases hf : f k with
      | true =>
        rw [hf] at c1
        have HE : Hid (rowF (k + 1) f = R ++ [(k : Int)]) := Lib.hid (by rw [HN.out, hf]; rfl)
        clear hf HN
        have hbase : w.heap.size ≤ (wr.alloc (.cells #[.int .i64 (k : Int)] 3)).heap.size := by have := hb.size; simp; omega
        have hown4 := hown.alloc (.cells #[.int .i64 (k : Int)] 3)
        have hb4 := hb.alloc hb.size (.cells #[.int .i64 (k : Int)] 3)
        have hlo := hown.lt
        go_wp2_with (at_builtin; refine wpList_append_own _ rfl _ _ 42 rfl w.heap.size 3 i0 (.int .i64 0) 1 8 Tryd.underlying42 hi hz0 hz1 hz2 rfl (by decide) _ _ _ rfl hown4 ⟨wr.heap.size, 0, none⟩ 1 1 [.int .i64 (k : Int)] rfl rfl (World.news_of_block (cs := #[.int .i64 (k : Int)]) (t := 3) (fr := (0, 0)) (heap_alloc_new wr _)) (by simp [Value.oneCell']) (by unfold maxLen; omega) (by omega) hbase ?_; intro v5 w5 hown5 hg5 _; have hb5 : Below w.heap.size w w5 := hb4.grown hg5 hbase (fun z hz => (hlo z hz).1))
        go_roundw
        case rel => exact ⟨k + 1, by omega, by go_num, by rw [HE.out, List.length_append]; simpa [ivs] using hown5, hb5⟩
        case measure => simp [intOf]; omega
      | false =>
        rw [hf] at c1
        have HE : Hid (rowF (k + 1) f = R) := Lib.hid (by rw [HN.out, hf]; simp)
        clear hf HN
        go_wp2
        go_roundw
        case rel => exact ⟨k + 1, by omega, by go_num, by rw [HE.out]; exact hown, hb⟩
        case measure => simp [intOf]; omega
    · obtain rfl : k = n := by omega
      go_wp2
      go_ret
      exact ⟨_, rfl, hown, hb⟩

/-- A bool; nothing that was there has changed. -/
def Tells (w : World) (b : Bool) (e : Ending) (w' : World) : Prop := e = .returned (.bool b) ∧ Below w.heap.size w w'

/-- One mark is written. -/
theorem bools_set {w : World} {base g n k : Nat} {f : Nat → Bool} (h : w.ownsRow base 4 1 (sl g n) n (bv (mkL n f))) (b : Bool) :
    (w.setCell ⟨g, k, none⟩ (.bool b)).ownsRow base 4 1 (sl g n) n (bv (mkL n fun i => if i = k then b else f i)) ∧ w.grownBy (w.setCell ⟨g, k, none⟩ (.bool b)) (some g) := by
  obtain ⟨h1, h2⟩ := h.stored k (.bool b)
  have hs : (bv (mkL n f)).set k (.bool b) = bv (mkL n fun i => if i = k then b else f i) := by unfold bv; rw [← List.map_set, mkL_set]
  rw [hs] at h1
  exact ⟨h1, h2⟩

theorem bools_at {w : World} {base g n k : Nat} {f : Nat → Bool} (h : w.ownsRow base 4 1 (sl g n) n (bv (mkL n f))) (hk : k < n) : w.cell? ⟨g, k, none⟩ = some (.bool (f k)) := by
  rw [h.cellAt k (by omega)]
  simp [mkL_at hk]

theorem bools_ne {w : World} {base' g g' n' : Nat} {xs' : List Value} (h' : w.ownsRow base' 4 1 (sl g' n') n' xs') (hlt : g < base') : g ≠ g' := by
  have := (h'.lt g' rfl).1
  omega

end Go.Proofs.YtanjcjnkppnhcaaDoor.G
