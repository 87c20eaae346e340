/-
  Equal and Join over slices that came in.
-/
import Derived.Test.YtojjhnjkibpfeaaAnyWalk
import Derived.OpenShut
namespace Go.Proofs.Ytojjhnjkibpfeaa
open Go.RowKit

/-- A bool; at most draws. -/
def Flag (b : Bool) (w : World) (e : Ending) (w' : World) : Prop := ∃ n, e = .returned (.bool b) ∧ w' = w.drewN n

theorem prefix_eq {xs ys : List ByteArray} {k : Nat} (hp : ∀ i, i < k → xs[i]? = ys[i]?) (h1 : xs.length = k) (h2 : ys.length = k) : xs = ys := by
  apply List.ext_getElem?
  intro i
  by_cases h : i < k
  · exact hp i h
  · rw [List.getElem?_eq_none (by omega), List.getElem?_eq_none (by omega)]

set_option maxHeartbeats 2000000 in
theorem equal_any (w : World) (v u : Value) (xs ys : List ByteArray) (h : Strs w v xs) (g : Strs w u ys) :
    Calls Try.prog 27 #[v, u] w (Flag (decide (xs = ys)) w) := by
  obtain ⟨A, n, c, rfl⟩ := h.form
  obtain ⟨B, m, d, rfl⟩ := g.form
  have hn := h.len
  have gn := g.len
  have hb1 : n ≤ 9223372036854775807 := by have := hn.2; unfold maxLen at this; omega
  have hb2 : m ≤ 9223372036854775807 := by have := gn.2; unfold maxLen at this; omega
  have H := fun k (hk : k < n) => h.cell hk
  have HH := Lib.hid H
  have G := fun k (hk : k < m) => g.cell hk
  have GG := Lib.hid G
  have HN := Lib.hid hn.1
  have GN := Lib.hid gn.1
  clear H G h g hn gn
  by_cases hnm : n = m
  · subst hnm
    go_enter Try.func27, Try.ntmps27
    go_wp2
    go_loopw [5, 13] (fun _ i wr => ∃ k q : Nat, k ≤ n ∧ i = .int .i64 k ∧ Hid (∀ i, i < k → xs[i]? = ys[i]?) ∧ wr = w.drewN q) (fun _ i _ => n - (intOf i).toNat)
    case atStart => exact ⟨0, 0, Nat.zero_le _, rfl, fun i hi => absurd hi (by omega), rfl⟩
    case round =>
      obtain ⟨k, q, hk, rfl, hp, rfl⟩ := hrel
      have HP := Lib.hid hp
      clear hp
      by_cases hlt : k < n
      · obtain ⟨a, x, rfl, hx, hc1⟩ := HH.out k hlt
        obtain ⟨b, y, rfl, hy, hc2⟩ := GG.out k hlt
        have hi0 : (0 : Int) ≤ (k : Int) := Int.natCast_nonneg _
        have hi1 : (k : Int) < (n : Int) := by omega
        have HX := Lib.hid hx
        have HY := Lib.hid hy
        clear hx hy
        have hs : (x.toList == y.toList) = decide (x = y) := by
          rw [ByteArray.toList_eq, ByteArray.toList_eq]
          by_cases e : x = y
          · simp [e]
          · simp [e]
            intro h
            exact e (ByteArray.ext h)
        by_cases hxy : x = y
        · subst hxy
          clear hs
          go_wp2_with fail
          go_quiet (fail)
          go_wp2
          go_roundw
          case rel =>
            refine ⟨k + 1, _, by omega, by go_num, fun i hi => ?_, rfl⟩
            by_cases hik : i < k
            · exact HP.out.out i hik
            · obtain rfl : i = k := by omega
              rw [HX.out, HY.out]
          case measure => simp [intOf]; omega
        · rw [decide_eq_false hxy] at hs
          go_wp2_with fail
          go_quiet (fail)
          go_wp2
          go_ret
          have hd : decide (xs = ys) = false := decide_eq_false fun e => by
            have := HX.out
            rw [e, HY.out] at this
            exact hxy (Option.some.inj this).symm
          refine ⟨_, ?_, World.drewN_drewN _ _ _⟩
          rw [hd]
          rfl
      · obtain rfl : k = n := by omega
        go_wp2
        go_ret
        refine ⟨q, ?_, rfl⟩
        rw [decide_eq_true (prefix_eq HP.out.out HN.out.symm GN.out.symm)]
        rfl
  · have hne : ((n : Int) == (m : Int)) = false := by rw [beq_eq_false_iff_ne]; omega
    go_enter Try.func27, Try.ntmps27
    go_wp2
    go_ret
    have hd : decide (xs = ys) = false := decide_eq_false fun e => by
      have := HN.out
      rw [e, ← GN.out] at this
      exact hnm this
    refine ⟨0, ?_, rfl⟩
    rw [hd]
    rfl

set_option maxHeartbeats 2000000 in
theorem refEqual_any (w : World) (v u : Value) (xs ys : List ByteArray) (h : Strs w v xs) (g : Strs w u ys) :
    Calls Try.prog 18 #[v, u] w (Flag (decide (xs = ys)) w) := by
  obtain ⟨A, n, c, rfl⟩ := h.form
  obtain ⟨B, m, d, rfl⟩ := g.form
  have hn := h.len
  have gn := g.len
  have hb1 : n ≤ 9223372036854775807 := by have := hn.2; unfold maxLen at this; omega
  have hb2 : m ≤ 9223372036854775807 := by have := gn.2; unfold maxLen at this; omega
  have H := fun k (hk : k < n) => h.cell hk
  have HH := Lib.hid H
  have G := fun k (hk : k < m) => g.cell hk
  have GG := Lib.hid G
  have HN := Lib.hid hn.1
  have GN := Lib.hid gn.1
  clear H G h g hn gn
  by_cases hnm : n = m
  · subst hnm
    go_enter Try.func18, Try.ntmps18
    go_wp2
    go_loopw [5] (fun i wr => ∃ k q : Nat, k ≤ n ∧ i = .int .i64 k ∧ Hid (∀ i, i < k → xs[i]? = ys[i]?) ∧ wr = w.drewN q) (fun i _ => n - (intOf i).toNat)
    case atStart => exact ⟨0, 0, Nat.zero_le _, rfl, fun i hi => absurd hi (by omega), rfl⟩
    case round =>
      obtain ⟨k, q, hk, rfl, hp, rfl⟩ := hrel
      have HP := Lib.hid hp
      clear hp
      by_cases hlt : k < n
      · obtain ⟨a, x, rfl, hx, hc1⟩ := HH.out k hlt
        obtain ⟨b, y, rfl, hy, hc2⟩ := GG.out k hlt
        have hi0 : (0 : Int) ≤ (k : Int) := Int.natCast_nonneg _
        have hi1 : (k : Int) < (n : Int) := by omega
        have HX := Lib.hid hx
        have HY := Lib.hid hy
        clear hx hy
        have hs : (x.toList == y.toList) = decide (x = y) := by
          rw [ByteArray.toList_eq, ByteArray.toList_eq]
          by_cases e : x = y
          · simp [e]
          · simp [e]
            intro h
            exact e (ByteArray.ext h)
        by_cases hxy : x = y
        · subst hxy
          clear hs
          go_wp2_with fail
          go_quiet (fail)
          go_wp2
          go_roundw
          case rel =>
            refine ⟨k + 1, _, by omega, by go_num, fun i hi => ?_, rfl⟩
            by_cases hik : i < k
            · exact HP.out.out i hik
            · obtain rfl : i = k := by omega
              rw [HX.out, HY.out]
          case measure => simp [intOf]; omega
        · rw [decide_eq_false hxy] at hs
          go_wp2_with fail
          go_quiet (fail)
          go_wp2
          go_ret
          have hd : decide (xs = ys) = false := decide_eq_false fun e => by
            have := HX.out
            rw [e, HY.out] at this
            exact hxy (Option.some.inj this).symm
          refine ⟨_, ?_, World.drewN_drewN _ _ _⟩
          rw [hd]
          rfl
      · obtain rfl : k = n := by omega
        go_wp2
        go_ret
        refine ⟨q, ?_, rfl⟩
        rw [decide_eq_true (prefix_eq HP.out.out HN.out.symm GN.out.symm)]
        rfl
  · have hne : ((n : Int) == (m : Int)) = false := by rw [beq_eq_false_iff_ne]; omega
    go_enter Try.func18, Try.ntmps18
    go_wp2
    go_ret
    have hd : decide (xs = ys) = false := decide_eq_false fun e => by
      have := HN.out
      rw [e, ← GN.out] at this
      exact hnm this
    refine ⟨0, ?_, rfl⟩
    rw [hd]
    rfl

theorem linesEqual_any (w : World) (v u : Value) (xs ys : List ByteArray) (h : Strs w v xs) (g : Strs w u ys) :
    Calls Try.prog 17 #[v, u] w (Flag (decide (xs = ys)) w) := by
  go_enter Try.func17, Try.ntmps17
  go_wp2_with (go_at_call 27; refine (equal_any w v u xs ys h g).mono ?_; rintro e w1 ⟨q, rfl, rfl⟩)
  go_ret
  exact ⟨q, rfl, rfl⟩

/-- All bytes of a row, one behind the other. -/
def cat (xs : List ByteArray) : List UInt8 := (xs.map (·.data.toList)).flatten

/-- Join of what came in. -/
theorem join_any (w : World) (v : Value) (xs : List ByteArray) (h : Strs w v xs) (hl : (cat xs).length ≤ 2000000) (hc : xs.length ≤ 2000000) :
    Calls Try.prog 14 #[v] w fun e w' => e = .returned (.string (mk (cat xs))) ∧ Below w.heap.size w w' := by
  obtain ⟨A, c, rfl, h1, h2, h3, h4⟩ := h
  by_cases h0 : xs.length = 0
  · have : xs = [] := List.eq_nil_of_length_eq_zero h0
    subst this
    go_enter Try.func14, Try.ntmps14
    go_wp2_with (go_at_call 26; refine (Try.strings_Join_none _ _ _ _).mono ?_; rintro e w1 ⟨rfl, rfl⟩)
    go_ret
    exact ⟨rfl, Below.refl _ _⟩
  · obtain ⟨ad, rfl⟩ : ∃ ad, A = some ad := by
      cases A with
      | none => have := h3 rfl; omega
      | some ad => exact ⟨ad, rfl⟩
    have hc0 := h4 ad rfl 0 xs[0] (List.getElem?_eq_getElem (by omega))
    obtain ⟨g, o, spot⟩ := ad
    have hspot : spot = none := by simpa [Addr.add] using World.cell?_spot hc0
    subst hspot
    have hcells : ∀ (j : Nat) x, xs[j]? = some x → w.cell? ⟨g, o + j, none⟩ = some (.string x) := by
      intro j x hx
      have := h4 _ rfl j x hx
      rw [Go.WideShapes.add_plain] at this
      exact this
    have hg : g < w.heap.size := by
      have := World.block_lt_of_cell? w _ (hcells 0 xs[0] (List.getElem?_eq_getElem (by omega)))
      exact this
    have e : Lib.join (xs.map (·.data.toList)) (⟨#[]⟩ : ByteArray).data.toList = cat xs := intercalate_none _
    have J := Try.strings_Join g o c xs ⟨#[]⟩ w hcells hg (by omega) h1 (by rw [e]; omega)
    rw [e] at J
    have JJ := Lib.hid J
    clear J e hcells hc0 h4 h3
    go_enter Try.func14, Try.ntmps14
    go_wp2_with (go_at_call 26; refine JJ.out.mono ?_; rintro e w1 ⟨rfl, hb1⟩)
    go_ret
    exact ⟨rfl, hb1⟩

theorem cat_take (xs : List ByteArray) (k : Nat) (x : ByteArray) (h : xs[k]? = some x) : mk (cat (xs.take (k + 1))) = mk (cat (xs.take k)) ++ x := by
  apply ByteArray.ext
  apply Array.toList_inj.1
  rw [List.take_add_one, h]
  simp [mk, cat]

theorem cat_le (xs : List ByteArray) (k : Nat) : (cat (xs.take k)).length ≤ (cat xs).length := by
  have : cat xs = cat (xs.take k) ++ cat (xs.drop k) := by
    conv => lhs; rw [← List.take_append_drop k xs]
    simp only [cat, List.map_append, List.flatten_append]
  rw [this, List.length_append]
  omega

set_option maxHeartbeats 2000000 in
/-- The document's Join. -/
theorem refJoin_any (w : World) (v : Value) (xs : List ByteArray) (h : Strs w v xs) (hl : (cat xs).length ≤ 2000000) :
    Calls Try.prog 19 #[v] w fun e w' => e = .returned (.string (mk (cat xs))) ∧ w = w' := by
  obtain ⟨A, n, c, rfl⟩ := h.form
  have hn := h.len
  have hb1 : n ≤ 9223372036854775807 := by have := hn.2; unfold maxLen at this; omega
  have HH := Lib.hid (fun k (hk : k < n) => h.cell hk)
  have HN := Lib.hid hn.1
  clear h hn
  go_enter Try.func19, Try.ntmps19
  go_wp2
  go_loopw [3, 4] (fun s i wr => ∃ k : Nat, k ≤ n ∧ i = .int .i64 k ∧ s = .string (mk (cat (xs.take k))) ∧ wr = w) (fun _ i _ => n - (intOf i).toNat)
  case atStart => exact ⟨0, Nat.zero_le _, rfl, rfl, rfl⟩
  case round =>
    obtain ⟨k, hk, rfl, rfl, rfl⟩ := hrel
    by_cases hlt : k < n
    · obtain ⟨a, x, rfl, hx, hc1⟩ := HH.out k hlt
      have hi0 : (0 : Int) ≤ (k : Int) := Int.natCast_nonneg _
      have hi1 : (k : Int) < (n : Int) := by omega
      have ht := cat_take xs k x hx
      have hs1 : (mk (cat (xs.take k))).size ≤ 2000000 := by rw [mk_size]; have := cat_le xs k; omega
      have hs2 : x.size ≤ 2000000 := by
        have h2 : (mk (cat (xs.take (k + 1)))).size ≤ 2000000 := by rw [mk_size]; have := cat_le xs (k + 1); omega
        rw [ht, ByteArray.size_append] at h2
        omega
      have HT := Lib.hid ht
      clear ht hx
      generalize mk (cat (xs.take k)) = p at *
      go_wp2
      go_roundw
      case rel => exact ⟨k + 1, by omega, by go_num, by rw [HT.out], trivial⟩
      case measure => simp [intOf]; omega
    · obtain rfl : k = n := by omega
      have hall : xs.take k = xs := List.take_of_length_le (by rw [← HN.out]; omega)
      rw [hall]
      clear hall
      go_wp2
      go_ret
      exact ⟨rfl, rfl⟩

end Go.Proofs.Ytojjhnjkibpfeaa
