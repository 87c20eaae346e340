/-
  Stack.Same on alike shelves without files.
-/
import Derived.Test.YtkhdjlakclidoaaDoorSfD
namespace Go.Proofs.YtkhdjlakclidoaaDoor
open Go Go.RowKit

theorem sf_rows_same (w : World) : Calls Tryd.prog 61 #[.slice none 0 0, .slice none 0 0] w fun e w' => e = .returned (.bool true) ∧ w' = w := by
  go_enter Tryd.func61, Tryd.ntmps61
  go_wp2_with fail
  go_loopw [13] (fun i wr => i = .int .i64 0 ∧ wr = w) (fun _ _ => 0)
  case atStart => exact ⟨rfl, rfl⟩
  case round =>
    obtain ⟨rfl, rfl⟩ := hrel
    go_wp2_with fail
    go_ret
    exact ⟨rfl, rfl⟩
theorem sf_row_same (w : World) : Calls Tryd.prog 49 #[.slice none 0 0, .slice none 0 0] w fun e w' => e = .returned (.bool true) ∧ w' = w := by
  go_enter Tryd.func49, Tryd.ntmps49
  go_wp2_with fail
  refine (sf_rows_same w).mono ?_
  rintro e w' ⟨rfl, rfl⟩
  go_wp2_with fail
  go_ret
  exact ⟨rfl, rfl⟩

set_option maxRecDepth 100000 in
set_option maxHeartbeats 2000000 in
theorem sf_one_same (w : World) (b : Int) (s : ByteArray) : Calls Tryd.prog 48 #[.agg #[.int .i64 b, .slice none 0 0, .slice none 0 0, .string s], .agg #[.int .i64 b, .slice none 0 0, .slice none 0 0, .string s]] w fun e w' => e = .returned (.bool true) ∧ Below w.heap.size w w' := by
  have d1 : decide (b = b) = true := by simp
  have d2 : decide (s = s) = true := by simp
  go_enter Tryd.func48, Tryd.ntmps48
  go_wp2_with fail
  refine (sf_row_same _).mono ?_
  rintro e w' ⟨rfl, rfl⟩
  go_wp2_with fail
  refine (sf_row_same _).mono ?_
  rintro e w' ⟨rfl, rfl⟩
  go_wp2_with fail
  go_ret
  exact ⟨rfl, ((Below.refl _ _).alloc (Nat.le_refl _) _).alloc (by simp) _⟩

theorem Wk.zero {w : World} {v : Value} (h : Wk w v) (h0 : vlen v = 0) : v = .slice none 0 0 := by
  rcases h with h | ⟨xs, h, _⟩
  · exact h
  · obtain ⟨A, c, rfl⟩ := own_form h
    cases h0

/-- The cells of an element without files. -/
theorem Stk.at0 {w : World} {B : Nat} {A : Option Addr} {c : Nat} {K : List Ky} (h : Stk w B (.slice A K.length c) K) {k : Nat} {b : Int} {s : ByteArray} (hk : K[k]? = some (b, 0, s)) :
    ∃ g, A = some ⟨g, 0, none⟩ ∧ w.cell? ⟨g, k * 4, none⟩ = some (.int .i64 b) ∧ w.cell? ⟨g, k * 4 + 1, none⟩ = some (.slice none 0 0) ∧ w.cell? ⟨g, k * 4 + 2, none⟩ = some (.slice none 0 0) ∧ w.cell? ⟨g, k * 4 + 3, none⟩ = some (.string s) ∧ K.length ≤ c ∧ c ≤ maxLen ∧ g < w.heap.size := by
  obtain ⟨l, hO, hW, rfl⟩ := h
  rw [List.getElem?_map] at hk
  obtain ⟨⟨b', wv, s'⟩, hx, he⟩ : ∃ r, l[k]? = some r ∧ key r = (b, 0, s) := by
    cases e : l[k]? with
    | none => rw [e] at hk; cases hk
    | some r => rw [e] at hk; exact ⟨r, rfl, by simpa using hk⟩
  obtain ⟨rfl, h0, rfl⟩ : b' = b ∧ vlen wv = 0 ∧ s' = s := by unfold key at he; injection he with a b; injection b with b c; exact ⟨a, b, c⟩
  rw [List.length_map] at hO ⊢
  have hz := (hW _ (List.mem_of_getElem? hx)).zero h0
  simp only at hz
  subst hz
  obtain ⟨g, cap, hv, x0, x1, x2, x3, hn, hm, hg⟩ := SOwn.at_ hO hx
  injection hv with e1 _ e3
  subst e1; subst e3
  exact ⟨g, rfl, x0, x1, x2, x3, hn, hm, hg⟩

set_option maxRecDepth 100000 in
set_option maxHeartbeats 2000000 in
theorem sf_equal (w : World) (B B' : Nat) (v v' : Value) (K : List Ky) (h : Stk w B v K) (h' : Stk w B' v' K) (hK : K.length ≤ 1000) (hz : ∀ r ∈ K, r.2.1 = 0) :
    Calls Tryd.prog 47 #[v, v', .func (.func 48) #[] #[]] w fun e w' => e = .returned (.bool true) ∧ Below w.heap.size w w' := by
  obtain ⟨A, c, rfl⟩ := h.form
  obtain ⟨A', c', rfl⟩ := h'.form
  have H := Lib.hid h
  have H' := Lib.hid h'
  have HZ := Lib.hid hz
  clear h h' hz
  go_enter Tryd.func47, Tryd.ntmps47
  go_wp2_with fail
  go_loopw [17] (fun i wr => ∃ k : Nat, i = .int .i64 k ∧ k ≤ K.length ∧ Below w.heap.size w wr) (fun i _ => K.length - (intOf i).toNat)
  case atStart => exact ⟨0, rfl, Nat.zero_le _, Below.refl _ _⟩
  case round =>
    obtain ⟨k, rfl, hk, hb⟩ := hrel
    by_cases hlt : k < K.length
    · obtain ⟨⟨b, z, s⟩, hx⟩ : ∃ r, K[k]? = some r := ⟨_, List.getElem?_eq_getElem hlt⟩
      obtain rfl : z = 0 := HZ.out _ (List.mem_of_getElem? hx)
      obtain ⟨g, rfl, x0, x1, x2, x3, hn, hm, hg⟩ := (H.out.below hb).at0 hx
      obtain ⟨g', rfl, y0, y1, y2, y3, hn', hm', hg'⟩ := (H'.out.below hb).at0 hx
      have k0 : (0 : Int) ≤ (k : Int) := Int.natCast_nonneg _
      have k1 : (k : Int) < (K.length : Int) := by omega
      have HB := Lib.hid hb
      clear hx hb
      go_wp2_with fail
      refine (sf_one_same _ b s).mono ?_
      rintro e w5 ⟨rfl, b5⟩
      have HB5 := Lib.hid (HB.out.trans ((((Below.refl wr.heap.size wr).alloc (Nat.le_refl _) (.cells #[.int .i64 b, .slice none 0 0, .slice none 0 0, .string s] 40)).alloc (by simp) (.cells #[.int .i64 b, .slice none 0 0, .slice none 0 0, .string s] 40)).trans (b5.mono (by simp; omega)) |>.mono HB.out.size))
      clear b5
      go_wp2_with fail
      go_roundw
      case rel => exact ⟨k + 1, by go_num, hlt, HB5.out⟩
      case measure => simp [intOf]; omega
    · obtain rfl : k = K.length := by omega
      go_wp2
      go_ret
      exact ⟨rfl, hb⟩

theorem sf_same (w : World) (B B' : Nat) (v v' : Value) (K : List Ky) (h : Stk w B v K) (h' : Stk w B' v' K) (hK : K.length ≤ 1000) (hz : ∀ r ∈ K, r.2.1 = 0) :
    Calls Tryd.prog 33 #[v, v'] w fun e w' => e = .returned (.bool true) ∧ Below w.heap.size w w' := by
  have S := Lib.hid (sf_equal w B B' v v' K h h' hK hz)
  clear h h' hK hz
  go_enter Tryd.func33, Tryd.ntmps33
  go_wp2_with fail
  refine S.out.mono ?_
  rintro e w' ⟨rfl, hb⟩
  go_wp2_with fail
  go_ret
  exact ⟨rfl, hb⟩
#print axioms sf_same
end Go.Proofs.YtkhdjlakclidoaaDoor
