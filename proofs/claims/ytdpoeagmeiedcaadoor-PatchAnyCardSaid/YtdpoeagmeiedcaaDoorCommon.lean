/-
  diff.Common, diff.Cost.
-/
import Derived.Test.YtdpoeagmeiedcaaDoorEdits
namespace Go.Proofs.YtdpoeagmeiedcaaDoor
open Go.RowKit

/-- How much is the same. -/
def Counted (w : World) (n : Nat) (e : Ending) (w' : World) : Prop := e = .returned (.tuple #[.int .i64 (n : Int), .nilIface]) ∧ Below w.heap.size w w'

set_option maxRecDepth 100000 in
set_option maxHeartbeats 1000000 in
theorem common_good (w : World) (v u : Value) (xs ys : List ByteArray) (h : Strs w v xs) (g : Strs w u ys) (hx : ∀ s ∈ xs, s.size ≤ maxLen) (hy : ∀ s ∈ ys, s.size ≤ maxLen) (hxl : xs.length ≤ 256) (hyl : ys.length ≤ 256) :
    Calls Tryd.prog 13 #[v, u] w (Counted w (lc xs ys)) := by
  obtain ⟨A, n, c, rfl⟩ := h.form
  obtain ⟨B, m, d, rfl⟩ := g.form
  obtain rfl := h.len.1
  obtain rfl := g.len.1
  have E1 := (Below.refl w.heap.size w).alloc (Nat.le_refl _) (.cells #[.slice A xs.length c, .slice B ys.length d] 22)
  have h1 := h.below E1
  have g1 := g.below E1
  have hh := heap_alloc_new w (.cells #[.slice A xs.length c, .slice B ys.length d] 22)
  have CK := Lib.hid (check_good w.heap.size xs.length c ys.length d A B hxl hyl (w.alloc (.cells #[.slice A xs.length c, .slice B ys.length d] 22)) (cell_of_row _ _ 0 _ 22 (0, 0) hh) (cell_of_row _ _ 1 _ 22 (0, 0) hh))
  have CM := Lib.hid (measure_any (w.alloc (.cells #[.slice A xs.length c, .slice B ys.length d] 22)) _ _ xs ys h1 g1 hx hy hxl hyl)
  have hz1' : (w.alloc (.cells #[.slice A xs.length c, .slice B ys.length d] 22)).heap.size = w.heap.size + 1 := by simp
  clear hx hy h g h1 g1 hh
  go_enter Tryd.func13, Tryd.ntmps13
  go_wp2_with fail
  refine CK.out.mono ?_
  rintro e w' ⟨rfl, rfl⟩
  go_wp2_with fail
  refine CM.out.mono ?_
  rintro e w2 ⟨ga, gb, gr, R, zs, us, cs, D, rfl, hR, hG, hNa, hNb, ra, rb, rr, hT, hb2⟩
  have E2 := E1.trans (hb2.mono (by rw [hz1']; omega))
  have hp : pl ys.length 0 0 < R := by rw [hR]; exact plc_lt (by omega) (by omega)
  have q : cs[pl ys.length 0 0]? = some (lc xs ys) := hT.at (i := 0) (j := 0) (by omega) (by omega)
  have b1 := lc_le_left xs ys
  have rr0 := own_le rr (Nat.zero_le _)
  have LG := Lib.hid (longest_any ga gb gr xs.length ys.length R 0 0 ((lc xs ys : Nat) : Int) (by omega) (by omega) (by omega) hp w2 (own_at rr0 (by simp [u16s, q])))
  clear CK CM E1 hb2 hz1' hR hG hNa hNb ra rb rr hT hp q rr0
  generalize lc xs ys = k at *
  go_wp2_with fail
  refine LG.out.mono ?_
  rintro e w3 ⟨rfl, hb3⟩
  have E3 := E2.trans (hb3.mono E2.size)
  go_wp2
  go_ret2
  exact ⟨rfl, E3⟩

theorem edCells_at {l : List (Nat × ByteArray)} : ∀ {i k : Nat} {s : ByteArray}, l[i]? = some (k, s) → (edCells l)[i * 2]? = some (.int .i64 (k : Int)) ∧ (edCells l)[i * 2 + 1]? = some (.string s) := by
  induction l with
  | nil => intro i k s h; simp at h
  | cons x l ih =>
    intro i k s h
    have hc : edCells (x :: l) = .int .i64 (x.1 : Int) :: .string x.2 :: edCells l := rfl
    rw [hc]
    cases i with
    | zero => simp at h; subst h; exact ⟨rfl, rfl⟩
    | succ i =>
      rw [show (i + 1) * 2 = i * 2 + 1 + 1 by omega]
      simp only [List.getElem?_cons_succ] at h ⊢
      exact ih h

/-- Edits in a row of the call's own. -/
theorem own2_at {w : World} {base g cap : Nat} {e : TypeId} {n : Nat} {xs : List Value} (h : w.ownsRow base e 2 (.slice (some ⟨g, 0, none⟩) n cap) n xs) {i : Nat} {x : Value} (hi : xs[i]? = some x) : w.cell? ⟨g, i, none⟩ = some x := by
  rw [h.cellAt i (by rw [← h.1]; exact (List.getElem?_eq_some_iff.1 hi).1)]
  exact hi

/-- An int; what was there stands. -/
def Costs (w : World) (n : Nat) (e : Ending) (w' : World) : Prop := e = .returned (.int .i64 (n : Int)) ∧ Below w.heap.size w w'

theorem edCost_take (l : List (Nat × ByteArray)) (k : Nat) {op : Nat} {s : ByteArray} (h : l[k]? = some (op, s)) : edCost (l.take (k + 1)) = edCost (l.take k) + (if op = 1 then 0 else 1) := by
  rw [List.take_add_one, h]
  unfold edCost
  rw [List.filter_append, List.length_append]
  congr 1
  by_cases e : op = 1 <;> simp [e]

set_option maxHeartbeats 1000000 in
theorem cost_any (w : World) (base : Nat) (v : Value) (l : List (Nat × ByteArray)) (h : w.ownsRow base 66 2 v l.length (edCells l)) (hl : l.length ≤ 1000) :
    Calls Tryd.prog 18 #[v] w (Costs w (edCost l)) := by
  have HH := Lib.hid h
  obtain ⟨A, m, c, rfl⟩ : ∃ A m c, v = .slice A m c := by
    rcases h.2 with ⟨rfl, _⟩ | ⟨g, cap, cur, rfl, _⟩
    · exact ⟨_, _, _, rfl⟩
    · exact ⟨_, _, _, rfl⟩
  obtain rfl : m = l.length := by
    rcases h.2 with ⟨e, e2⟩ | ⟨g, cap, cur, e, _⟩
    · cases e; exact e2.symm
    · cases e; rfl
  clear h
  go_enter Tryd.func18, Tryd.ntmps18
  go_wp2
  go_loopw [3, 8] (fun s3 s8 wr => ∃ k : Nat, k ≤ l.length ∧ s8 = .int .i64 k ∧ s3 = .int .i64 (edCost (l.take k) : Nat) ∧ Below w.heap.size w wr) (fun _ s8 _ => l.length - (intOf s8).toNat)
  case atStart => exact ⟨0, Nat.zero_le _, rfl, rfl, Below.refl _ _⟩
  case round =>
    obtain ⟨k, hk, rfl, rfl, hb⟩ := hrel
    have k0 : (0 : Int) ≤ (k : Int) := Int.natCast_nonneg _
    have hcost : edCost (l.take k) ≤ 1000 := by
      unfold edCost
      have := List.length_filter_le (fun e : Nat × ByteArray => e.1 != 1) (l.take k)
      rw [List.length_take] at this
      omega
    by_cases hlt : k < l.length
    · obtain ⟨⟨op, s⟩, hs⟩ : ∃ x, l[k]? = some x := ⟨_, List.getElem?_eq_getElem hlt⟩
      have ho := own2_keep HH.out hb
      obtain ⟨g, rfl⟩ : ∃ g, A = some ⟨g, 0, none⟩ := by
        rcases ho.2 with ⟨_, e2⟩ | ⟨g, cap, cur, e, _⟩
        · omega
        · cases e; exact ⟨_, rfl⟩
      have k1 : (k : Int) < (l.length : Int) := by omega
      obtain ⟨x1, x2⟩ := edCells_at hs
      have c1 := own2_at ho x1
      have c2 := own2_at ho x2
      have e1 := Lib.hid (edCost_take l k hs)
      clear ho x1 x2 hs
      generalize edCost (l.take k) = q at *
      by_cases h1 : op = 1
      · subst h1
        go_wp2
        go_roundw
        case rel => exact ⟨k + 1, by omega, by go_num, by rw [e1.out]; simp, hb.alloc hb.size _⟩
        case measure => simp [intOf]; omega
      · have hne : ((op : Int) != 1) = true := by rw [bne_iff_ne]; omega
        go_wp2
        go_roundw
        case rel => exact ⟨k + 1, by omega, by go_num, by rw [e1.out, if_neg h1]; go_num, hb.alloc hb.size _⟩
        case measure => simp [intOf]; omega
    · obtain rfl : k = l.length := by omega
      have e1 := Lib.hid (show edCost (l.take l.length) = edCost l by rw [List.take_length])
      generalize edCost (l.take l.length) = q at *
      go_wp2
      go_ret
      exact ⟨congrArg (fun z : Nat => Ending.returned (.int .i64 (z : Int))) e1.out, hb⟩

end Go.Proofs.YtdpoeagmeiedcaaDoor
