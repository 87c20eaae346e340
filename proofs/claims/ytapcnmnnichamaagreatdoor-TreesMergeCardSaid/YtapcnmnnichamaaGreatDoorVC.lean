/-
  More of lines: Whole, Equal, Join.
  Clone of any slice of texts; whole; what a chunk decides.
  decide: what one side changed, or both alike.
  take, the plain part: what stands while the chunk is laid.
  The cutter's row of chunks, and what stands between two steps.
  Behind take and decide, the plain part.
-/
import Derived.Test.YtapcnmnnichamaaGreatDoorVA
import Derived.Test.YtapcnmnnichamaaGreatDoorShelfM
import Derived.BigQuiet
import Derived.Deep.QuietTactic
import Derived.OpenShut
import Derived.Test.YtapcnmnnichamaaGreatDoorVB

namespace Go.Proofs.YtapcnmnnichamaaGreatDoor.Mg
open Go.RowKit

set_option maxHeartbeats 1000000 in
theorem whole_any (w : World) (s : ByteArray) (hs : s.size ≤ 1000000) :
    Calls Tryz.prog 111 #[.string s] w fun e w' => e = .returned (.bool (wholeL s.data.toList)) ∧ w = w' := by
  have hsz : s.data.toList.length = s.size := by rw [Array.length_toList]; rfl
  by_cases h0 : s.size = 0
  · have e : s = ⟨#[]⟩ := by
      have : s.data.toList = [] := List.eq_nil_of_length_eq_zero (by omega)
      cases s
      simp at this
      simp [this]
    subst e
    go_enter Tryz.func111, Tryz.ntmps111
    go_wp2
    go_ret
    exact ⟨rfl, rfl⟩
  · have hlast : s.data.toList.getLast? = some s[s.size - 1] := by
      rw [List.getLast?_eq_getElem?, hsz]
      exact List.getElem?_eq_getElem (by omega)
    have hw : wholeL s.data.toList = (s[s.size - 1] == 10) := by simp [wholeL, hlast]
    have HW := Lib.hid hw
    have hne : ¬ s.toList = [] := by
      rw [ByteArray.toList_eq]
      intro e
      rw [e] at hsz
      exact h0 hsz.symm
    have hne2 : s.toList.isEmpty = false := by rw [List.isEmpty_eq_false_iff]; exact hne
    clear hw hlast
    obtain ⟨n, hn⟩ : ∃ n, s.size = n + 1 := ⟨s.size - 1, by omega⟩
    go_enter Tryz.func111, Tryz.ntmps111
    go_wp2
    go_ret
    refine ⟨?_, rfl⟩
    rw [HW.out]
    simp only [hn, Nat.add_sub_cancel]
    have : (((s[n].toNat : Nat) : Int) == 10) = (s[n] == 10) := by
      rw [Bool.eq_iff_iff, beq_iff_eq, beq_iff_eq, ← UInt8.toNat_inj]
      show ((s[n].toNat : Nat) : Int) = 10 ↔ s[n].toNat = 10
      omega
    rw [← this]
    simp

theorem intercalate_none (xs : List (List UInt8)) : Lib.join xs [] = xs.flatten := by
  cases xs with
  | nil => rfl
  | cons x r => rw [Lib.join_cons]; simp [Lib.joinTail]

theorem cutL_len (l : List UInt8) : (cutL l).length ≤ l.length + 1 := by
  unfold cutL close
  have := st_len l l.length
  rw [List.take_length] at this
  split
  · omega
  · simp; omega

set_option maxHeartbeats 2000000 in
theorem equal_any (w : World) (v u : Value) (xs ys : List ByteArray) (h : Strs w v xs) (g : Strs w u ys) :
    Calls Tryz.prog 149 #[v, u] w (Flag (decide (xs = ys)) w) := by
  obtain ⟨A, n, c, rfl⟩ := h.form
  obtain ⟨B, m, d, rfl⟩ := g.form
  have hn := h.len
  have gn := g.len
  have hb1 : n ≤ 9223372036854775807 := by have := hn.2; unfold maxLen at this; omega
  have hb2 : m ≤ 9223372036854775807 := by have := gn.2; unfold maxLen at this; omega
  have H := fun k (hk : k < n) => h.cell hk
  have HH := Lib.hid H
  have G := fun k (hk : k < m) => g.cell hk
  have GG := Lib.hid G
  have HN := Lib.hid hn.1
  have GN := Lib.hid gn.1
  clear H G h g hn gn
  by_cases hnm : n = m
  · subst hnm
    go_enter Tryz.func149, Tryz.ntmps149
    go_wp2
    go_loopw [5, 13] (fun _ i wr => ∃ k q : Nat, k ≤ n ∧ i = .int .i64 k ∧ Hid (∀ i, i < k → xs[i]? = ys[i]?) ∧ wr = w.drewN q) (fun _ i _ => n - (intOf i).toNat)
    case atStart => exact ⟨0, 0, Nat.zero_le _, rfl, fun i hi => absurd hi (by omega), rfl⟩
    case round =>
      obtain ⟨k, q, hk, rfl, hp, rfl⟩ := hrel
      have HP := Lib.hid hp
      clear hp
      by_cases hlt : k < n
      · obtain ⟨a, x, rfl, hx, hc1⟩ := HH.out k hlt
        obtain ⟨b, y, rfl, hy, hc2⟩ := GG.out k hlt
        have hi0 : (0 : Int) ≤ (k : Int) := Int.natCast_nonneg _
        have hi1 : (k : Int) < (n : Int) := by omega
        have HX := Lib.hid hx
        have HY := Lib.hid hy
        clear hx hy
        have hs : (x.toList == y.toList) = decide (x = y) := by
          rw [ByteArray.toList_eq, ByteArray.toList_eq]
          by_cases e : x = y
          · simp [e]
          · simp [e]
            intro h
            exact e (ByteArray.ext h)
        by_cases hxy : x = y
        · subst hxy
          clear hs
          go_wp2_with fail
          go_quiet (fail)
          go_wp2
          go_roundw
          case rel =>
            refine ⟨k + 1, _, by omega, by go_num, fun i hi => ?_, rfl⟩
            by_cases hik : i < k
            · exact HP.out.out i hik
            · obtain rfl : i = k := by omega
              rw [HX.out, HY.out]
          case measure => simp [intOf]; omega
        · rw [decide_eq_false hxy] at hs
          go_wp2_with fail
          go_quiet (fail)
          go_wp2
          go_ret
          have hd : decide (xs = ys) = false := decide_eq_false fun e => by
            have := HX.out
            rw [e, HY.out] at this
            exact hxy (Option.some.inj this).symm
          refine ⟨_, ?_, World.drewN_drewN _ _ _⟩
          rw [hd]
          rfl
      · obtain rfl : k = n := by omega
        go_wp2
        go_ret
        refine ⟨q, ?_, rfl⟩
        rw [decide_eq_true (prefix_eq HP.out.out HN.out.symm GN.out.symm)]
        rfl
  · have hne : ((n : Int) == (m : Int)) = false := by rw [beq_eq_false_iff_ne]; omega
    go_enter Tryz.func149, Tryz.ntmps149
    go_wp2
    go_ret
    have hd : decide (xs = ys) = false := decide_eq_false fun e => by
      have := HN.out
      rw [e, ← GN.out] at this
      exact hnm this
    refine ⟨0, ?_, rfl⟩
    rw [hd]
    rfl

theorem linesEqual_any (w : World) (v u : Value) (xs ys : List ByteArray) (h : Strs w v xs) (g : Strs w u ys) :
    Calls Tryz.prog 143 #[v, u] w (Flag (decide (xs = ys)) w) := by
  go_enter Tryz.func143, Tryz.ntmps143
  go_wp2_with (go_at_call 149; refine (equal_any w v u xs ys h g).mono ?_; rintro e w1 ⟨q, rfl, rfl⟩)
  go_ret
  exact ⟨q, rfl, rfl⟩

/-- All bytes of a row, one behind the other. -/
def cat (xs : List ByteArray) : List UInt8 := (xs.map (·.data.toList)).flatten

/-- Join of what came in. -/
theorem join_any (w : World) (v : Value) (xs : List ByteArray) (h : Strs w v xs) (hl : (cat xs).length ≤ 2000000) (hc : xs.length ≤ 2000000) :
    Calls Tryz.prog 79 #[v] w fun e w' => e = .returned (.string (mk (cat xs))) ∧ Below w.heap.size w w' := by
  obtain ⟨A, c, rfl, h1, h2, h3, h4⟩ := h
  by_cases h0 : xs.length = 0
  · have : xs = [] := List.eq_nil_of_length_eq_zero h0
    subst this
    go_enter Tryz.func79, Tryz.ntmps79
    go_wp2_with (go_at_call 110; refine (Tryz.strings_Join_none _ _ _ _).mono ?_; rintro e w1 ⟨rfl, rfl⟩)
    go_ret
    exact ⟨rfl, Below.refl _ _⟩
  · obtain ⟨ad, rfl⟩ : ∃ ad, A = some ad := by
      cases A with
      | none => have := h3 rfl; omega
      | some ad => exact ⟨ad, rfl⟩
    have hc0 := h4 ad rfl 0 xs[0] (List.getElem?_eq_getElem (by omega))
    obtain ⟨g, o, spot⟩ := ad
    have hspot : spot = none := by simpa [Addr.add] using World.cell?_spot hc0
    subst hspot
    have hcells : ∀ (j : Nat) x, xs[j]? = some x → w.cell? ⟨g, o + j, none⟩ = some (.string x) := by
      intro j x hx
      have := h4 _ rfl j x hx
      rw [Go.WideShapes.add_plain] at this
      exact this
    have hg : g < w.heap.size := by
      have := World.block_lt_of_cell? w _ (hcells 0 xs[0] (List.getElem?_eq_getElem (by omega)))
      exact this
    have e : Lib.join (xs.map (·.data.toList)) (⟨#[]⟩ : ByteArray).data.toList = cat xs := intercalate_none _
    have J := Tryz.strings_Join g o c xs ⟨#[]⟩ w hcells hg (by omega) h1 (by rw [e]; omega)
    rw [e] at J
    have JJ := Lib.hid J
    clear J e hcells hc0 h4 h3
    go_enter Tryz.func79, Tryz.ntmps79
    go_wp2_with (go_at_call 110; refine JJ.out.mono ?_; rintro e w1 ⟨rfl, hb1⟩)
    go_ret
    exact ⟨rfl, hb1⟩

theorem cat_take (xs : List ByteArray) (k : Nat) (x : ByteArray) (h : xs[k]? = some x) : mk (cat (xs.take (k + 1))) = mk (cat (xs.take k)) ++ x := by
  apply ByteArray.ext
  apply Array.toList_inj.1
  rw [List.take_add_one, h]
  simp [mk, cat]

theorem cat_le (xs : List ByteArray) (k : Nat) : (cat (xs.take k)).length ≤ (cat xs).length := by
  have : cat xs = cat (xs.take k) ++ cat (xs.drop k) := by
    conv => lhs; rw [← List.take_append_drop k xs]
    simp only [cat, List.map_append, List.flatten_append]
  rw [this, List.length_append]
  omega

end Go.Proofs.YtapcnmnnichamaaGreatDoor.Mg


namespace Go.Proofs.YtapcnmnnichamaaGreatDoor.Mg
open Go.RowKit

def Cloned (w : World) (xs : List ByteArray) (e : Ending) (w' : World) : Prop := ∃ v, e = .returned v ∧ w'.ownsRow w.heap.size 9 1 v xs.length (xs.map Value.string) ∧ Below w.heap.size w w'

theorem clone_any (w : World) (v : Value) (xs : List ByteArray) (h : Strs w v xs) (hl : xs.length ≤ 1000000) : Calls Tryz.prog 131 #[v] w (Cloned w xs) := by
  obtain ⟨A, c, rfl, h1, h2, h3, h4⟩ := h
  cases A with
  | none =>
    have : xs = [] := List.eq_nil_of_length_eq_zero (by have := h3 rfl; omega)
    subst this
    exact (Tryz.slices_Clone_string_nil _ _ _).mono fun e w' ⟨he, hw⟩ => ⟨_, he, by rw [hw]; exact World.ownsRow_nil _ _ _ _, by rw [hw]; exact Below.refl _ _⟩
  | some ad =>
    by_cases h0 : xs.length = 0
    · have : xs = [] := List.eq_nil_of_length_eq_zero h0
      subst this
      exact (Tryz.slices_Clone_string_zero _ _ _).mono fun e w' ⟨v', he, ho, _, hb⟩ => ⟨v', he, ho, hb⟩
    · obtain ⟨g, o, spot⟩ := ad
      have hc0 := h4 _ rfl 0 xs[0] (List.getElem?_eq_getElem (by omega))
      have hspot : spot = none := by simpa [Addr.add] using World.cell?_spot hc0
      subst hspot
      have J := Tryz.slices_Clone_string g o xs.length c xs w (Nat.le_refl _) (by omega) (fun j hj => by
        have := h4 _ rfl j xs[j] (List.getElem?_eq_getElem hj)
        rw [Go.WideShapes.add_plain] at this
        rw [this, List.getD, List.getElem?_eq_getElem hj]
        rfl)
      rw [List.take_length] at J
      exact J.mono fun e w' ⟨v', he, ho, _, hb⟩ => ⟨v', he, ho, hb⟩

/-- A text whose last line has its end. -/
def endL (l : List UInt8) : List UInt8 := if wholeL l = true then l else l ++ [10]

set_option maxHeartbeats 1000000 in
theorem wholeText_any (w : World) (v : Value) (xs : List ByteArray) (h : Strs w v xs) (hl : (cat xs).length ≤ 900000) (hc : xs.length ≤ 1000000) :
    Calls Tryz.prog 80 #[v] w fun e w' => e = .returned (.string (mk (endL (cat xs)))) ∧ Below w.heap.size w w' := by
  have J := Lib.hid (join_any w v xs h (by omega) (by omega))
  have hsz : (mk (cat xs)).size ≤ 1000000 := by show (cat xs).toArray.size ≤ _; simp; omega
  have W := fun w1 => whole_any w1 (mk (cat xs)) hsz
  have hd : (mk (cat xs)).data.toList = cat xs := by simp [mk]
  rw [hd] at W
  have hadd : mk (cat xs) ++ (⟨#[10]⟩ : ByteArray) = mk (cat xs ++ [10]) := by apply ByteArray.ext; apply Array.toList_inj.1; simp [mk]
  cases hw : wholeL (cat xs) with
  | true =>
    have he : endL (cat xs) = cat xs := by unfold endL; rw [if_pos hw]
    rw [he]
    rw [hw] at W
    have HW := Lib.hid W
    clear W hw he h hd hadd
    generalize mk (cat xs) = s at *
    go_enter Tryz.func80, Tryz.ntmps80
    go_wp2_with fail
    refine J.out.mono ?_
    rintro e w1 ⟨rfl, hb1⟩
    go_wp2_with fail
    refine (HW.out w1).mono ?_
    rintro e w2 ⟨rfl, rfl⟩
    go_wp2
    go_ret
    exact ⟨rfl, hb1⟩
  | false =>
    have he : endL (cat xs) = cat xs ++ [10] := by unfold endL; rw [if_neg (by simp [hw])]
    rw [he, ← hadd]
    rw [hw] at W
    have HW := Lib.hid W
    clear W hw he h hd hadd
    generalize mk (cat xs) = s at *
    go_enter Tryz.func80, Tryz.ntmps80
    go_wp2_with fail
    refine J.out.mono ?_
    rintro e w1 ⟨rfl, hb1⟩
    go_wp2_with fail
    refine (HW.out w1).mono ?_
    rintro e w2 ⟨rfl, rfl⟩
    go_wp2
    go_ret
    exact ⟨rfl, hb1⟩

theorem row_set {w : World} {g : Nat} {cur : Array Value} {t : TypeId} (h : w.heap[g]? = some (.cells cur t (0, 0))) (k : Nat) (v : Value) : (w.setCell ⟨g, k, none⟩ v).heap[g]? = some (.cells (cur.setIfInBounds k v) t (0, 0)) := by
  simp [World.setCell, Array.getElem?_modify, h]

/-- A chunk's five cells. -/
structure Five (w : World) (X : Nat) (v0 v1 v2 v3 v4 : Value) : Prop where
  c0 : w.cell? ⟨X, 0, none⟩ = some v0
  c1 : w.cell? ⟨X, 1, none⟩ = some v1
  c2 : w.cell? ⟨X, 2, none⟩ = some v2
  c3 : w.cell? ⟨X, 3, none⟩ = some v3
  c4 : w.cell? ⟨X, 4, none⟩ = some v4
  z : ∀ k : Nat, w.frozen? ⟨X, k, none⟩ = false
  row : w.heap[X]? = some (.cells #[v0, v1, v2, v3, v4] 161 (0, 0))

theorem Five.lt {w : World} {X : Nat} {v0 v1 v2 v3 v4 : Value} (h : Five w X v0 v1 v2 v3 v4) : X < w.heap.size := World.block_lt_of_cell? w _ h.c0
theorem Five.ty {w : World} {X : Nat} {v0 v1 v2 v3 v4 : Value} (h : Five w X v0 v1 v2 v3 v4) : Ty w X 161 := ⟨_, h.row⟩
theorem Five.same {w w' : World} {X : Nat} {v0 v1 v2 v3 v4 : Value} (h : Five w X v0 v1 v2 v3 v4) (hc : w'.heap[X]? = w.heap[X]?) : Five w' X v0 v1 v2 v3 v4 := by
  have cc : ∀ k : Nat, w'.cell? ⟨X, k, none⟩ = w.cell? ⟨X, k, none⟩ := fun k => World.cell?_of_block (w := w) hc
  exact ⟨(cc 0).trans h.c0, (cc 1).trans h.c1, (cc 2).trans h.c2, (cc 3).trans h.c3, (cc 4).trans h.c4, fun k => (World.frozen?_of_block (w := w) hc).trans (h.z k), hc.trans h.row⟩
theorem Five.below {w w' : World} {X : Nat} {v0 v1 v2 v3 v4 : Value} (h : Five w X v0 v1 v2 v3 v4) (hb : Below w.heap.size w w') : Five w' X v0 v1 v2 v3 v4 := h.same (hb.block X h.lt)
theorem Five.new (w : World) (v0 v1 v2 v3 v4 : Value) : Five (w.alloc (.cells #[v0, v1, v2, v3, v4] 161)) w.heap.size v0 v1 v2 v3 v4 := by
  have hh := heap_alloc_new w (.cells #[v0, v1, v2, v3, v4] 161)
  exact ⟨cell_of_row _ _ 0 _ 161 (0, 0) hh, cell_of_row _ _ 1 _ 161 (0, 0) hh, cell_of_row _ _ 2 _ 161 (0, 0) hh, cell_of_row _ _ 3 _ 161 (0, 0) hh, cell_of_row _ _ 4 _ 161 (0, 0) hh, fun k => by unfold World.frozen?; rw [hh]; rfl, hh⟩

end Go.Proofs.YtapcnmnnichamaaGreatDoor.Mg

namespace Go.Proofs.YtapcnmnnichamaaGreatDoor.Mg
open Go.RowKit

/-- What a chunk has decided: its clash and its Out stand in its cells. -/
def Decided (w : World) (X : Nat) (v0 v1 v2 : Value) (d : Ck ByteArray) (e : Ending) (w' : World) : Prop :=
  ∃ v4, e = .returned (.tuple #[]) ∧ Five w' X v0 v1 v2 (.bool d.clash) v4 ∧ w'.ownsRow w.heap.size 9 1 v4 d.out.length (d.out.map Value.string) ∧ w.grownBy w' (some X)

theorem Five.drewN {w : World} {X : Nat} {v0 v1 v2 v3 v4 : Value} (h : Five w X v0 v1 v2 v3 v4) (n : Nat) : Five (w.drewN n) X v0 v1 v2 v3 v4 := ⟨h.c0, h.c1, h.c2, h.c3, h.c4, h.z, h.row⟩

theorem flag_quiet {f : FuncId} {args : Array Value} {w : World} {n : Nat} {b : Bool} (h : Calls Tryz.prog f args (w.drewN n) (Flag b (w.drewN n))) : Calls Tryz.prog f args (w.drewN n) fun e w'' => e = .returned (.bool b) ∧ ∃ m, w'' = w.drewN m :=
  Calls.quiet_of (h.mono fun _ _ ⟨q, he, hw⟩ => ⟨he, q, hw⟩)

theorem grown_drewN (w : World) (n : Nat) (b : Option Nat) : w.grownBy (w.drewN n) b := ⟨rfl, rfl, rfl, Nat.le_refl _, fun _ _ _ => rfl⟩

theorem grown_store (w : World) (X k : Nat) (v : Value) : w.grownBy (w.setCell ⟨X, k, none⟩ v) (some X) :=
  ⟨rfl, rfl, rfl, by simp [World.setCell], fun j _ hne => Below.heap_setCell _ _ _ _ (fun e : j = X => hne (by rw [e]))⟩

theorem Five.out {w : World} {X : Nat} {v0 v1 v2 v3 v4 : Value} (h : Five w X v0 v1 v2 v3 v4) (v : Value) : Five (w.setCell ⟨X, 4, none⟩ v) X v0 v1 v2 v3 v := by
  have o : ∀ k : Nat, k ≠ 4 → (w.setCell ⟨X, 4, none⟩ v).cell? ⟨X, k, none⟩ = w.cell? ⟨X, k, none⟩ := fun k hk => World.cell?_setCell_other w _ _ v (by simp)
  exact ⟨(o 0 (by omega)).trans h.c0, (o 1 (by omega)).trans h.c1, (o 2 (by omega)).trans h.c2, (o 3 (by omega)).trans h.c3, set_same h.c4, fun k => (World.frozen?_setCell w _ _ _).trans (h.z k), row_set h.row _ _⟩

theorem grown_below {w w' : World} (h : Below w.heap.size w w') (b : Option Nat) : w.grownBy w' b := ⟨h.os, h.tape, h.output, h.size, fun k hk _ => h.block k hk⟩

theorem decided_store {w wq w2 : World} {X : Nat} {v0 v1 v2 v4 : Value} {xs ys zs out : List ByteArray} (hG : w.grownBy wq (some X)) (hs : w.heap.size ≤ wq.heap.size) (hB : Below wq.heap.size wq w2) (hX : Five w2 X v0 v1 v2 (.bool false) (.slice none 0 0)) (hO : w2.ownsRow wq.heap.size 9 1 v4 out.length (out.map Value.string)) :
    Decided w X v0 v1 v2 ⟨xs, ys, zs, false, out⟩ (.returned (.tuple #[])) (w2.setCell ⟨X, 4, none⟩ v4) :=
  ⟨v4, rfl, hX.out v4, own_le (hO.kept (grown_store w2 X 4 v4) (.inr (own_apart hO hX.ty (by decide)))) hs, (hG.trans (grown_below hB _)).trans (grown_store w2 X 4 v4)⟩

/-- What stands while it decides. -/
structure De (w0 w : World) (X : Nat) (v0 v1 v2 : Value) (xs ys zs : List ByteArray) : Prop where
  x : Five w X v0 v1 v2 (.bool false) (.slice none 0 0)
  g : w0.grownBy w (some X)
  s0 : Strs w v0 xs
  s1 : Strs w v1 ys
  s2 : Strs w v2 zs

theorem De.drewN {w0 w : World} {X : Nat} {v0 v1 v2 : Value} {xs ys zs : List ByteArray} (h : De w0 w X v0 v1 v2 xs ys zs) (n : Nat) : De w0 (w.drewN n) X v0 v1 v2 xs ys zs :=
  ⟨h.x.drewN n, h.g.trans (grown_drewN w n _), h.s0.drewN n, h.s1.drewN n, h.s2.drewN n⟩

theorem De.clash {w0 w : World} {X : Nat} {v0 v1 v2 : Value} {xs ys zs : List ByteArray} (h : De w0 w X v0 v1 v2 xs ys zs) : Decided w0 X v0 v1 v2 ⟨xs, ys, zs, true, []⟩ (.returned (.tuple #[])) (w.setCell ⟨X, 3, none⟩ (.bool true)) := by
  have o : ∀ k : Nat, k ≠ 3 → (w.setCell ⟨X, 3, none⟩ (.bool true)).cell? ⟨X, k, none⟩ = w.cell? ⟨X, k, none⟩ := fun k hk => World.cell?_setCell_other w _ _ _ (by simp)
  exact ⟨.slice none 0 0, rfl, ⟨(o 0 (by omega)).trans h.x.c0, (o 1 (by omega)).trans h.x.c1, (o 2 (by omega)).trans h.x.c2, set_same h.x.c3, (o 4 (by omega)).trans h.x.c4, fun k => (World.frozen?_setCell w _ _ _).trans (h.x.z k), row_set h.x.row _ _⟩,
    World.ownsRow_nil _ _ _ _, h.g.trans (grown_store w X 3 _)⟩

set_option maxHeartbeats 2000000 in
theorem decide_any (w : World) (X : Nat) (v0 v1 v2 : Value) (xs ys zs : List ByteArray) (h : Five w X v0 v1 v2 (.bool false) (.slice none 0 0)) (h0 : Strs w v0 xs) (h1 : Strs w v1 ys) (h2 : Strs w v2 zs)
    (ly : ys.length ≤ 1000) (lz : zs.length ≤ 1000) :
    Calls Tryz.prog 129 #[.pointer (some ⟨X, 0, none⟩)] w (Decided w X v0 v1 v2 (decideC xs ys zs)) := by
  have hDe : Hid (De w w X v0 v1 v2 xs ys zs) := Lib.hid ⟨h, grown_drewN w 0 _, h0, h1, h2⟩
  clear h h0 h1 h2
  have t0 := hDe.out.x.c0
  have t1 := hDe.out.x.c1
  have t2 := hDe.out.x.c2
  have t3 := hDe.out.x.c3
  have z3 := hDe.out.x.z 3
  go_enter Tryz.func129, Tryz.ntmps129
  by_cases e1 : ys = xs
  · have HD : Hid (decideC xs ys zs = ⟨xs, ys, zs, false, zs⟩) := by unfold decideC; rw [if_pos e1]; rfl
    have E1 := Lib.hid (decide_eq_true e1)
    clear e1
    go_wp2_with fail
    go_quiet ((go_at_call 143; exact flag_quiet (E1.out ▸ linesEqual_any _ _ _ _ _ (hDe.out.s1.drewN _) (hDe.out.s0.drewN _))))
    obtain ⟨wq, hwq⟩ : ∃ x, x = w.drewN nq := ⟨_, rfl⟩
    rw [← hwq]
    have hDe : Hid (De w wq X v0 v1 v2 xs ys zs) := Lib.hid (hwq ▸ hDe.out.drewN nq)
    clear hwq t0 t1 t2 t3 z3
    have t0 := hDe.out.x.c0
    have t1 := hDe.out.x.c1
    have t2 := hDe.out.x.c2
    have t3 := hDe.out.x.c3
    have z3 := hDe.out.x.z 3
    go_wp2_with fail
    refine (clone_any wq v2 zs hDe.out.s2 (by omega)).mono ?_
    rintro e w2 ⟨v4, rfl, hO, hB⟩
    obtain ⟨A4, m4, d4, rfl⟩ := own_form hO
    have hX2 := hDe.out.x.below hB
    have z4 := hX2.z 4
    have t4 := hX2.c4
    have hX2 := Lib.hid hX2
    have hO := Lib.hid hO
    go_wp2_with fail
    go_end0
    rw [HD.out]
    exact decided_store hDe.out.g hDe.out.g.size hB hX2.out hO.out
  · have E1 := Lib.hid (decide_eq_false e1)
    by_cases e2 : zs = xs
    · have HD : Hid (decideC xs ys zs = ⟨xs, ys, zs, false, ys⟩) := by unfold decideC; rw [if_neg e1, if_pos (.inl e2)]; rfl
      have E2 := Lib.hid (decide_eq_true e2)
      clear e1 e2
      go_wp2_with fail
      go_quiet ((go_at_call 143; exact flag_quiet (E1.out ▸ linesEqual_any _ _ _ _ _ (hDe.out.s1.drewN _) (hDe.out.s0.drewN _))))
      obtain ⟨wq, hwq⟩ : ∃ x, x = w.drewN nq := ⟨_, rfl⟩
      rw [← hwq]
      have hDe : Hid (De w wq X v0 v1 v2 xs ys zs) := Lib.hid (hwq ▸ hDe.out.drewN nq)
      clear hwq t0 t1 t2 t3 z3
      have t0 := hDe.out.x.c0
      have t1 := hDe.out.x.c1
      have t2 := hDe.out.x.c2
      have t3 := hDe.out.x.c3
      have z3 := hDe.out.x.z 3
      go_wp2_with fail
      go_quiet ((go_at_call 143; exact flag_quiet (E2.out ▸ linesEqual_any _ _ _ _ _ (hDe.out.s2.drewN _) (hDe.out.s0.drewN _))))
      obtain ⟨wq, hwq⟩ : ∃ x, x = wq.drewN nq := ⟨_, rfl⟩
      rw [← hwq]
      have hDe : Hid (De w wq X v0 v1 v2 xs ys zs) := Lib.hid (hwq ▸ hDe.out.drewN nq)
      clear hwq t0 t1 t2 t3 z3
      have t0 := hDe.out.x.c0
      have t1 := hDe.out.x.c1
      have t2 := hDe.out.x.c2
      have t3 := hDe.out.x.c3
      have z3 := hDe.out.x.z 3
      go_wp2_with fail
      refine (clone_any wq v1 ys hDe.out.s1 (by omega)).mono ?_
      rintro e w2 ⟨v4, rfl, hO, hB⟩
      obtain ⟨A4, m4, d4, rfl⟩ := own_form hO
      have hX2 := hDe.out.x.below hB
      have z4 := hX2.z 4
      have t4 := hX2.c4
      have hX2 := Lib.hid hX2
      have hO := Lib.hid hO
      go_wp2_with fail
      go_end0
      rw [HD.out]
      exact decided_store hDe.out.g hDe.out.g.size hB hX2.out hO.out
    · have E2 := Lib.hid (decide_eq_false e2)
      by_cases e3 : ys = zs
      · have HD : Hid (decideC xs ys zs = ⟨xs, ys, zs, false, ys⟩) := by unfold decideC; rw [if_neg e1, if_pos (.inr e3)]; rfl
        have E3 := Lib.hid (decide_eq_true e3)
        clear e1 e2 e3
        go_wp2_with fail
        go_quiet ((go_at_call 143; exact flag_quiet (E1.out ▸ linesEqual_any _ _ _ _ _ (hDe.out.s1.drewN _) (hDe.out.s0.drewN _))))
        obtain ⟨wq, hwq⟩ : ∃ x, x = w.drewN nq := ⟨_, rfl⟩
        rw [← hwq]
        have hDe : Hid (De w wq X v0 v1 v2 xs ys zs) := Lib.hid (hwq ▸ hDe.out.drewN nq)
        clear hwq t0 t1 t2 t3 z3
        have t0 := hDe.out.x.c0
        have t1 := hDe.out.x.c1
        have t2 := hDe.out.x.c2
        have t3 := hDe.out.x.c3
        have z3 := hDe.out.x.z 3
        go_wp2_with fail
        go_quiet ((go_at_call 143; exact flag_quiet (E2.out ▸ linesEqual_any _ _ _ _ _ (hDe.out.s2.drewN _) (hDe.out.s0.drewN _))))
        obtain ⟨wq, hwq⟩ : ∃ x, x = wq.drewN nq := ⟨_, rfl⟩
        rw [← hwq]
        have hDe : Hid (De w wq X v0 v1 v2 xs ys zs) := Lib.hid (hwq ▸ hDe.out.drewN nq)
        clear hwq t0 t1 t2 t3 z3
        have t0 := hDe.out.x.c0
        have t1 := hDe.out.x.c1
        have t2 := hDe.out.x.c2
        have t3 := hDe.out.x.c3
        have z3 := hDe.out.x.z 3
        go_wp2_with fail
        go_quiet ((go_at_call 143; exact flag_quiet (E3.out ▸ linesEqual_any _ _ _ _ _ (hDe.out.s1.drewN _) (hDe.out.s2.drewN _))))
        obtain ⟨wq, hwq⟩ : ∃ x, x = wq.drewN nq := ⟨_, rfl⟩
        rw [← hwq]
        have hDe : Hid (De w wq X v0 v1 v2 xs ys zs) := Lib.hid (hwq ▸ hDe.out.drewN nq)
        clear hwq t0 t1 t2 t3 z3
        have t0 := hDe.out.x.c0
        have t1 := hDe.out.x.c1
        have t2 := hDe.out.x.c2
        have t3 := hDe.out.x.c3
        have z3 := hDe.out.x.z 3
        go_wp2_with fail
        refine (clone_any wq v1 ys hDe.out.s1 (by omega)).mono ?_
        rintro e w2 ⟨v4, rfl, hO, hB⟩
        obtain ⟨A4, m4, d4, rfl⟩ := own_form hO
        have hX2 := hDe.out.x.below hB
        have z4 := hX2.z 4
        have t4 := hX2.c4
        have hX2 := Lib.hid hX2
        have hO := Lib.hid hO
        go_wp2_with fail
        go_end0
        rw [HD.out]
        exact decided_store hDe.out.g hDe.out.g.size hB hX2.out hO.out
      · have HD : Hid (decideC xs ys zs = ⟨xs, ys, zs, true, []⟩) := by unfold decideC; rw [if_neg e1, if_neg (fun h => h.elim e2 e3)]; rfl
        have E3 := Lib.hid (decide_eq_false e3)
        clear e1 e2 e3
        go_wp2_with fail
        go_quiet ((go_at_call 143; exact flag_quiet (E1.out ▸ linesEqual_any _ _ _ _ _ (hDe.out.s1.drewN _) (hDe.out.s0.drewN _))))
        obtain ⟨wq, hwq⟩ : ∃ x, x = w.drewN nq := ⟨_, rfl⟩
        rw [← hwq]
        have hDe : Hid (De w wq X v0 v1 v2 xs ys zs) := Lib.hid (hwq ▸ hDe.out.drewN nq)
        clear hwq t0 t1 t2 t3 z3
        have t0 := hDe.out.x.c0
        have t1 := hDe.out.x.c1
        have t2 := hDe.out.x.c2
        have t3 := hDe.out.x.c3
        have z3 := hDe.out.x.z 3
        go_wp2_with fail
        go_quiet ((go_at_call 143; exact flag_quiet (E2.out ▸ linesEqual_any _ _ _ _ _ (hDe.out.s2.drewN _) (hDe.out.s0.drewN _))))
        obtain ⟨wq, hwq⟩ : ∃ x, x = wq.drewN nq := ⟨_, rfl⟩
        rw [← hwq]
        have hDe : Hid (De w wq X v0 v1 v2 xs ys zs) := Lib.hid (hwq ▸ hDe.out.drewN nq)
        clear hwq t0 t1 t2 t3 z3
        have t0 := hDe.out.x.c0
        have t1 := hDe.out.x.c1
        have t2 := hDe.out.x.c2
        have t3 := hDe.out.x.c3
        have z3 := hDe.out.x.z 3
        go_wp2_with fail
        go_quiet ((go_at_call 143; exact flag_quiet (E3.out ▸ linesEqual_any _ _ _ _ _ (hDe.out.s1.drewN _) (hDe.out.s2.drewN _))))
        obtain ⟨wq, hwq⟩ : ∃ x, x = wq.drewN nq := ⟨_, rfl⟩
        rw [← hwq]
        have hDe : Hid (De w wq X v0 v1 v2 xs ys zs) := Lib.hid (hwq ▸ hDe.out.drewN nq)
        clear hwq t0 t1 t2 t3 z3
        have t0 := hDe.out.x.c0
        have t1 := hDe.out.x.c1
        have t2 := hDe.out.x.c2
        have t3 := hDe.out.x.c3
        have z3 := hDe.out.x.z 3
        go_wp2_with fail
        go_end0
        rw [HD.out]
        exact hDe.out.clash

end Go.Proofs.YtapcnmnnichamaaGreatDoor.Mg

namespace Go.Proofs.YtapcnmnnichamaaGreatDoor.Mg
open Go.RowKit

abbrev nilv : Value := .slice none 0 0

/-- The five cells written anew. -/
theorem five_fill {w : World} {X : Nat} {v0 v1 v2 v3 v4 : Value} (h : Five w X v0 v1 v2 v3 v4) (a b c d e : Value) : Five (((((w.setCell ⟨X, 0, none⟩ a).setCell ⟨X, 1, none⟩ b).setCell ⟨X, 2, none⟩ c).setCell ⟨X, 3, none⟩ d).setCell ⟨X, 4, none⟩ e) X a b c d e := by
  refine ⟨?_, ?_, ?_, ?_, set_same (u := v4) ?_, fun k => ?_, ?_⟩
  · rw [World.cell?_setCell_other _ _ _ _ (by simp), World.cell?_setCell_other _ _ _ _ (by simp), World.cell?_setCell_other _ _ _ _ (by simp), World.cell?_setCell_other _ _ _ _ (by simp)]; exact set_same h.c0
  · rw [World.cell?_setCell_other _ _ _ _ (by simp), World.cell?_setCell_other _ _ _ _ (by simp), World.cell?_setCell_other _ _ _ _ (by simp)]; exact set_same (by rw [World.cell?_setCell_other _ _ _ _ (by simp)]; exact h.c1)
  · rw [World.cell?_setCell_other _ _ _ _ (by simp), World.cell?_setCell_other _ _ _ _ (by simp)]; exact set_same (by rw [World.cell?_setCell_other _ _ _ _ (by simp), World.cell?_setCell_other _ _ _ _ (by simp)]; exact h.c2)
  · rw [World.cell?_setCell_other _ _ _ _ (by simp)]; exact set_same (by rw [World.cell?_setCell_other _ _ _ _ (by simp), World.cell?_setCell_other _ _ _ _ (by simp), World.cell?_setCell_other _ _ _ _ (by simp)]; exact h.c3)
  · rw [World.cell?_setCell_other _ _ _ _ (by simp), World.cell?_setCell_other _ _ _ _ (by simp), World.cell?_setCell_other _ _ _ _ (by simp), World.cell?_setCell_other _ _ _ _ (by simp)]; exact h.c4
  · simp [h.z k]
  · exact row_set (row_set (row_set (row_set (row_set h.row _ _) _ _) _ _) _ _) _ _

theorem fill_grown (w : World) (X : Nat) (a b c d e : Value) : w.grownBy (((((w.setCell ⟨X, 0, none⟩ a).setCell ⟨X, 1, none⟩ b).setCell ⟨X, 2, none⟩ c).setCell ⟨X, 3, none⟩ d).setCell ⟨X, 4, none⟩ e) (some X) :=
  ((((grown_store w X 0 a).trans (grown_store _ X 1 b)).trans (grown_store _ X 2 c)).trans (grown_store _ X 3 d)).trans (grown_store _ X 4 e)

theorem Five.apart {w w' : World} {X Y : Nat} {v0 v1 v2 v3 v4 : Value} (h : Five w X v0 v1 v2 v3 v4) (hg : w.grownBy w' (some Y)) (hne : X ≠ Y) : Five w' X v0 v1 v2 v3 v4 :=
  h.same (hg.block X h.lt (fun e => hne (Option.some.inj e)))
theorem Cutr.apart {w w' : World} {C Y : Nat} {v0 v1 v2 v3 v4 v5 v6 v7 v8 : Value} (h : Cutr w C v0 v1 v2 v3 v4 v5 v6 v7 v8) (hg : w.grownBy w' (some Y)) (hne : C ≠ Y) : Cutr w' C v0 v1 v2 v3 v4 v5 v6 v7 v8 := by
  have hb := hg.block C h.lt (fun e => hne (Option.some.inj e))
  have hc : ∀ k : Nat, w'.cell? ⟨C, k, none⟩ = w.cell? ⟨C, k, none⟩ := fun k => World.cell?_of_block (w := w) hb
  exact ⟨(hc 0).trans h.c0, (hc 1).trans h.c1, (hc 2).trans h.c2, (hc 3).trans h.c3, (hc 4).trans h.c4, (hc 5).trans h.c5, (hc 6).trans h.c6, (hc 7).trans h.c7, (hc 8).trans h.c8, fun k => (World.frozen?_of_block (w := w) hb).trans (h.z k), h.ty.same hb⟩

/-- What stands while the chunk is laid: the cutter, the three pieces, the copies so far, the block so far. -/
structure Tk (w0 w : World) (T C : Nat) (v0 v1 v2 v3 v4 v5 v6 v7 v8 u1 u2 u3 : Value) (l1 l2 l3 : List ByteArray) (o1 o2 o3 : Option Value) (oX : Option Nat) : Prop where
  q : Cutr w C v0 v1 v2 v3 v4 v5 v6 v7 v8
  a : Strs w u1 l1
  b : Strs w u2 l2
  d : Strs w u3 l3
  g : Below w0.heap.size w0 w
  cl : C < w0.heap.size
  tl : w0.heap.size ≤ T
  t : Five w T (.slice none 0 0) (.slice none 0 0) (.slice none 0 0) (.bool false) (.slice none 0 0)
  r1 : ∀ v, o1 = some v → w.ownsRow w0.heap.size 9 1 v l1.length (l1.map Value.string)
  r2 : ∀ v, o2 = some v → w.ownsRow w0.heap.size 9 1 v l2.length (l2.map Value.string)
  r3 : ∀ v, o3 = some v → w.ownsRow w0.heap.size 9 1 v l3.length (l3.map Value.string)
  x : ∀ X, oX = some X → w0.heap.size ≤ X ∧ T ≠ X ∧ Five w X (.slice none 0 0) (.slice none 0 0) (.slice none 0 0) (.bool false) (.slice none 0 0)

theorem tk_start {w : World} {C : Nat} {v0 v1 v2 v3 v4 v5 v6 v7 v8 u1 u2 u3 : Value} {l1 l2 l3 : List ByteArray} (h : Cutr w C v0 v1 v2 v3 v4 v5 v6 v7 v8) (a : Strs w u1 l1) (b : Strs w u2 l2) (d : Strs w u3 l3) :
    Tk w (w.alloc (.cells #[.slice none 0 0, .slice none 0 0, .slice none 0 0, .bool false, .slice none 0 0] 161)) w.heap.size C v0 v1 v2 v3 v4 v5 v6 v7 v8 u1 u2 u3 l1 l2 l3 none none none none := by
  have hb := (Below.refl w.heap.size w).alloc (Nat.le_refl _) (.cells #[.slice none 0 0, .slice none 0 0, .slice none 0 0, .bool false, .slice none 0 0] 161)
  exact ⟨h.below hb, a.below hb, b.below hb, d.below hb, hb, h.lt, Nat.le_refl _, Five.new w _ _ _ _ _, (fun v hv => by cases hv), (fun v hv => by cases hv), (fun v hv => by cases hv), (fun v hv => by cases hv)⟩

/-- The chunk is laid in a block of its own. -/
def TkMid (w0 : World) (T C : Nat) (v0 v1 v2 v3 v4 v5 v6 v7 v8 : Value) (l1 l2 l3 : List ByteArray) (v : Value) (w : World) : Prop :=
  ∃ (X : Nat) (A1 A2 A3 : Option Addr) (n1 n2 n3 c1 c2 c3 : Nat), v = .pointer (some ⟨X, 0, none⟩) ∧ w0.heap.size ≤ X ∧ T ≠ X ∧ Five w X (.slice A1 n1 c1) (.slice A2 n2 c2) (.slice A3 n3 c3) (.bool false) (.slice none 0 0) ∧
    w.ownsRow w0.heap.size 9 1 (.slice A1 n1 c1) l1.length (l1.map Value.string) ∧ w.ownsRow w0.heap.size 9 1 (.slice A2 n2 c2) l2.length (l2.map Value.string) ∧ w.ownsRow w0.heap.size 9 1 (.slice A3 n3 c3) l3.length (l3.map Value.string) ∧ Cutr w C v0 v1 v2 v3 v4 v5 v6 v7 v8 ∧ Below w0.heap.size w0 w ∧ C < w0.heap.size ∧ w0.heap.size ≤ T ∧ Five w T (.slice none 0 0) (.slice none 0 0) (.slice none 0 0) (.bool false) (.slice none 0 0)

section
variable {w0 w : World} {T C : Nat} {v0 v1 v2 v3 v4 v5 v6 v7 v8 u1 u2 u3 : Value} {l1 l2 l3 : List ByteArray} {o1 o2 o3 : Option Value} {oX : Option Nat}

theorem Tk.below {w' : World} (h : Tk w0 w T C v0 v1 v2 v3 v4 v5 v6 v7 v8 u1 u2 u3 l1 l2 l3 o1 o2 o3 oX) (hb : Below w.heap.size w w') : Tk w0 w' T C v0 v1 v2 v3 v4 v5 v6 v7 v8 u1 u2 u3 l1 l2 l3 o1 o2 o3 oX :=
  ⟨h.q.below hb, h.a.below hb, h.b.below hb, h.d.below hb, h.g.trans (hb.mono h.g.size), h.cl, h.tl, h.t.below hb, fun v hv => own_keep (h.r1 v hv) hb, fun v hv => own_keep (h.r2 v hv) hb, fun v hv => own_keep (h.r3 v hv) hb, fun X hX => ⟨(h.x X hX).1, (h.x X hX).2.1, (h.x X hX).2.2.below hb⟩⟩
theorem Tk.drew (h : Tk w0 w T C v0 v1 v2 v3 v4 v5 v6 v7 v8 u1 u2 u3 l1 l2 l3 o1 o2 o3 oX) : Tk w0 w.drew T C v0 v1 v2 v3 v4 v5 v6 v7 v8 u1 u2 u3 l1 l2 l3 o1 o2 o3 oX := h.below (Below.refl _ w).drew
theorem Tk.lay (h : Tk w0 w T C v0 v1 v2 v3 v4 v5 v6 v7 v8 u1 u2 u3 l1 l2 l3 o1 o2 o3 none) : Tk w0 (w.alloc (.cells #[.slice none 0 0, .slice none 0 0, .slice none 0 0, .bool false, .slice none 0 0] 161)) T C v0 v1 v2 v3 v4 v5 v6 v7 v8 u1 u2 u3 l1 l2 l3 o1 o2 o3 (some w.heap.size) := by
  have h1 := h.below ((Below.refl w.heap.size w).alloc (Nat.le_refl _) (.cells #[.slice none 0 0, .slice none 0 0, .slice none 0 0, .bool false, .slice none 0 0] 161))
  exact ⟨h1.q, h1.a, h1.b, h1.d, h1.g, h1.cl, h1.tl, h1.t, h1.r1, h1.r2, h1.r3, fun X hX => by obtain rfl := Option.some.inj hX; exact ⟨h.g.size, Nat.ne_of_lt h.t.lt, Five.new w _ _ _ _ _⟩⟩
theorem tk_call1 (h : Tk w0 w T C v0 v1 v2 v3 v4 v5 v6 v7 v8 u1 u2 u3 l1 l2 l3 none o2 o3 oX) (hl : l1.length ≤ 1000) : Calls Tryz.prog 131 #[u1] w fun e w' => ∃ v, e = .returned v ∧ Tk w0 w' T C v0 v1 v2 v3 v4 v5 v6 v7 v8 u1 u2 u3 l1 l2 l3 (some v) o2 o3 oX :=
  (clone_any w u1 l1 h.a (by omega)).mono fun e w' ⟨v, he, ho, hb⟩ => by
    have h1 := h.below hb
    exact ⟨v, he, h1.q, h1.a, h1.b, h1.d, h1.g, h1.cl, h1.tl, h1.t, fun u hu => by obtain rfl := Option.some.inj hu; exact own_le ho h.g.size, h1.r2, h1.r3, h1.x⟩
theorem tk_call2 (h : Tk w0 w T C v0 v1 v2 v3 v4 v5 v6 v7 v8 u1 u2 u3 l1 l2 l3 o1 none o3 oX) (hl : l2.length ≤ 1000) : Calls Tryz.prog 131 #[u2] w fun e w' => ∃ v, e = .returned v ∧ Tk w0 w' T C v0 v1 v2 v3 v4 v5 v6 v7 v8 u1 u2 u3 l1 l2 l3 o1 (some v) o3 oX :=
  (clone_any w u2 l2 h.b (by omega)).mono fun e w' ⟨v, he, ho, hb⟩ => by
    have h1 := h.below hb
    exact ⟨v, he, h1.q, h1.a, h1.b, h1.d, h1.g, h1.cl, h1.tl, h1.t, h1.r1, fun u hu => by obtain rfl := Option.some.inj hu; exact own_le ho h.g.size, h1.r3, h1.x⟩
theorem tk_call3 (h : Tk w0 w T C v0 v1 v2 v3 v4 v5 v6 v7 v8 u1 u2 u3 l1 l2 l3 o1 o2 none oX) (hl : l3.length ≤ 1000) : Calls Tryz.prog 131 #[u3] w fun e w' => ∃ v, e = .returned v ∧ Tk w0 w' T C v0 v1 v2 v3 v4 v5 v6 v7 v8 u1 u2 u3 l1 l2 l3 o1 o2 (some v) oX :=
  (clone_any w u3 l3 h.d (by omega)).mono fun e w' ⟨v, he, ho, hb⟩ => by
    have h1 := h.below hb
    exact ⟨v, he, h1.q, h1.a, h1.b, h1.d, h1.g, h1.cl, h1.tl, h1.t, h1.r1, h1.r2, fun u hu => by obtain rfl := Option.some.inj hu; exact own_le ho h.g.size, h1.x⟩

theorem Tk.sq (h : Tk w0 w T C v0 v1 v2 v3 v4 v5 v6 v7 v8 u1 u2 u3 l1 l2 l3 o1 o2 o3 oX) : w.cell? ⟨C, 0, none⟩ = some v0 ∧ w.cell? ⟨C, 1, none⟩ = some v1 ∧ w.cell? ⟨C, 2, none⟩ = some v2 ∧ w.cell? ⟨C, 5, none⟩ = some v5 ∧ w.cell? ⟨C, 6, none⟩ = some v6 ∧ w.cell? ⟨C, 7, none⟩ = some v7 := ⟨h.q.c0, h.q.c1, h.q.c2, h.q.c5, h.q.c6, h.q.c7⟩
theorem mid_sq {v : Value} (h : TkMid w0 T C v0 v1 v2 v3 v4 v5 v6 v7 v8 l1 l2 l3 v w) : w.cell? ⟨C, 0, none⟩ = some v0 ∧ w.cell? ⟨C, 1, none⟩ = some v1 ∧ w.cell? ⟨C, 2, none⟩ = some v2 ∧ w.cell? ⟨C, 5, none⟩ = some v5 ∧ w.cell? ⟨C, 6, none⟩ = some v6 ∧ w.cell? ⟨C, 7, none⟩ = some v7 := by
  obtain ⟨_, _, _, _, _, _, _, _, _, _, _, _, _, _, _, _, _, q, _⟩ := h
  exact ⟨q.c0, q.c1, q.c2, q.c5, q.c6, q.c7⟩

variable {A1 A2 A3 : Option Addr} {n1 n2 n3 c1 c2 c3 X : Nat}
theorem tk_close (h : Tk w0 w T C v0 v1 v2 v3 v4 v5 v6 v7 v8 u1 u2 u3 l1 l2 l3 (some (.slice A1 n1 c1)) (some (.slice A2 n2 c2)) (some (.slice A3 n3 c3)) (some X)) :
    TkMid w0 T C v0 v1 v2 v3 v4 v5 v6 v7 v8 l1 l2 l3 (.pointer (some ⟨X, 0, none⟩)) (((((w.setCell ⟨X, 0, none⟩ (.slice A1 n1 c1)).setCell ⟨X, 1, none⟩ (.slice A2 n2 c2)).setCell ⟨X, 2, none⟩ (.slice A3 n3 c3)).setCell ⟨X, 3, none⟩ (.bool false)).setCell ⟨X, 4, none⟩ (.slice none 0 0)) := by
  obtain ⟨x1, x2, x3⟩ := h.x X rfl
  have hg := fill_grown w X (.slice A1 n1 c1) (.slice A2 n2 c2) (.slice A3 n3 c3) (.bool false) (.slice none 0 0)
  exact ⟨X, A1, A2, A3, n1, n2, n3, c1, c2, c3, rfl, x1, x2, five_fill x3 _ _ _ _ _, (h.r1 _ rfl).kept hg (.inr (own_apart (h.r1 _ rfl) x3.ty (by decide))), (h.r2 _ rfl).kept hg (.inr (own_apart (h.r2 _ rfl) x3.ty (by decide))), (h.r3 _ rfl).kept hg (.inr (own_apart (h.r3 _ rfl) x3.ty (by decide))), h.q.apart hg (by have := h.cl; omega), h.g.grown hg h.g.size (fun k hk => by injection hk with hk; omega), h.cl, h.tl, h.t.apart hg x2⟩
theorem tk_close_whole (h : Tk w0 w T C v0 v1 v2 v3 v4 v5 v6 v7 v8 u1 u2 u3 l1 l2 l3 (some (.slice A1 n1 c1)) (some (.slice A2 n2 c2)) (some (.slice A3 n3 c3)) none) :
    TkMid w0 T C v0 v1 v2 v3 v4 v5 v6 v7 v8 l1 l2 l3 (.pointer (some ⟨w.heap.size, 0, none⟩)) (w.alloc (.cells #[.slice A1 n1 c1, .slice A2 n2 c2, .slice A3 n3 c3, .bool false, .slice none 0 0] 161)) := by
  have h1 := h.below ((Below.refl w.heap.size w).alloc (Nat.le_refl _) (.cells #[.slice A1 n1 c1, .slice A2 n2 c2, .slice A3 n3 c3, .bool false, .slice none 0 0] 161))
  exact ⟨w.heap.size, A1, A2, A3, n1, n2, n3, c1, c2, c3, rfl, h.g.size, Nat.ne_of_lt h.t.lt, Five.new w _ _ _ _ _, h1.r1 _ rfl, h1.r2 _ rfl, h1.r3 _ rfl, h1.q, h1.g, h1.cl, h1.tl, h1.t⟩
end

/-- The cutter goes on. -/
theorem Cutr.move {w : World} {C : Nat} {v0 v1 v2 v3 v4 v5 v6 v7 v8 : Value} (h : Cutr w C v0 v1 v2 v3 v4 v5 v6 v7 v8) (a b c : Value) : Cutr (((w.setCell ⟨C, 5, none⟩ a).setCell ⟨C, 6, none⟩ b).setCell ⟨C, 7, none⟩ c) C v0 v1 v2 v3 v4 a b c v8 := by
  have o : ∀ k : Nat, k ≠ 5 → k ≠ 6 → k ≠ 7 → (((w.setCell ⟨C, 5, none⟩ a).setCell ⟨C, 6, none⟩ b).setCell ⟨C, 7, none⟩ c).cell? ⟨C, k, none⟩ = w.cell? ⟨C, k, none⟩ := fun k h5 h6 h7 => by
    rw [World.cell?_setCell_other _ _ _ _ (by simp), World.cell?_setCell_other _ _ _ _ (by simp), World.cell?_setCell_other _ _ _ _ (by simp)]
  refine ⟨(o 0 (by omega) (by omega) (by omega)).trans h.c0, (o 1 (by omega) (by omega) (by omega)).trans h.c1, (o 2 (by omega) (by omega) (by omega)).trans h.c2, (o 3 (by omega) (by omega) (by omega)).trans h.c3, (o 4 (by omega) (by omega) (by omega)).trans h.c4, ?_, ?_, set_same (u := v7) ?_, (o 8 (by omega) (by omega) (by omega)).trans h.c8, fun k => by simp [h.z k], ((h.ty.set _ _ _).set _ _ _).set _ _ _⟩
  · rw [World.cell?_setCell_other _ _ _ _ (by simp), World.cell?_setCell_other _ _ _ _ (by simp)]; exact set_same h.c5
  · rw [World.cell?_setCell_other _ _ _ _ (by simp)]; exact set_same (u := v6) (by rw [World.cell?_setCell_other _ _ _ _ (by simp)]; exact h.c6)
  · rw [World.cell?_setCell_other _ _ _ _ (by simp), World.cell?_setCell_other _ _ _ _ (by simp)]; exact h.c7

/-- What take answers: the chunk, undecided; the cutter stands behind it. -/
def Taken (w : World) (C : Nat) (v0 v1 v2 v3 v4 v8 : Value) (i2 j2 k2 : Nat) (l1 l2 l3 : List ByteArray) (e : Ending) (w' : World) : Prop :=
  ∃ (A1 A2 A3 : Option Addr) (n1 n2 n3 c1 c2 c3 : Nat), e = .returned (.agg #[.slice A1 n1 c1, .slice A2 n2 c2, .slice A3 n3 c3, .bool false, .slice none 0 0]) ∧
    w'.ownsRow w.heap.size 9 1 (.slice A1 n1 c1) l1.length (l1.map Value.string) ∧ w'.ownsRow w.heap.size 9 1 (.slice A2 n2 c2) l2.length (l2.map Value.string) ∧ w'.ownsRow w.heap.size 9 1 (.slice A3 n3 c3) l3.length (l3.map Value.string) ∧
    Cutr w' C v0 v1 v2 v3 v4 (.int .i64 (i2 : Int)) (.int .i64 (j2 : Int)) (.int .i64 (k2 : Int)) v8 ∧ w.grownBy w' (some C)

theorem fill_row {w : World} {T : Nat} {v0 v1 v2 v3 v4 a b c d e : Value} (h : Five w T v0 v1 v2 v3 v4) : (((((w.setCell ⟨T, 0, none⟩ a).setCell ⟨T, 1, none⟩ b).setCell ⟨T, 2, none⟩ c).setCell ⟨T, 3, none⟩ d).setCell ⟨T, 4, none⟩ e).heap[T]? = some (.cells #[a, b, c, d, e] 161 (0, 0)) :=
  row_set (row_set (row_set (row_set (row_set h.row _ _) _ _) _ _) _ _) _ _

theorem taken_close {w wx : World} {T C : Nat} {v0 v1 v2 v3 v4 v5 v6 v7 v8 : Value} {l1 l2 l3 : List ByteArray} {A1 A2 A3 : Option Addr} {n1 n2 n3 c1 c2 c3 : Nat} (i2 j2 k2 : Nat)
    (o1 : wx.ownsRow w.heap.size 9 1 (.slice A1 n1 c1) l1.length (l1.map Value.string)) (o2 : wx.ownsRow w.heap.size 9 1 (.slice A2 n2 c2) l2.length (l2.map Value.string)) (o3 : wx.ownsRow w.heap.size 9 1 (.slice A3 n3 c3) l3.length (l3.map Value.string))
    (q : Cutr wx C v0 v1 v2 v3 v4 v5 v6 v7 v8) (g : Below w.heap.size w wx) (hC : C < w.heap.size) (hT : w.heap.size ≤ T) (t : Five wx T (.slice none 0 0) (.slice none 0 0) (.slice none 0 0) (.bool false) (.slice none 0 0)) :
    Taken w C v0 v1 v2 v3 v4 v8 i2 j2 k2 l1 l2 l3 (.returned (.agg #[.slice A1 n1 c1, .slice A2 n2 c2, .slice A3 n3 c3, .bool false, .slice none 0 0]))
      ((((((((wx.setCell ⟨C, 5, none⟩ (.int .i64 (i2 : Int))).setCell ⟨C, 6, none⟩ (.int .i64 (j2 : Int))).setCell ⟨C, 7, none⟩ (.int .i64 (k2 : Int))).setCell ⟨T, 0, none⟩ (.slice A1 n1 c1)).setCell ⟨T, 1, none⟩ (.slice A2 n2 c2)).setCell ⟨T, 2, none⟩ (.slice A3 n3 c3)).setCell ⟨T, 3, none⟩ (.bool false)).setCell ⟨T, 4, none⟩ (.slice none 0 0)) := by
  have q1 := q.move (.int .i64 (i2 : Int)) (.int .i64 (j2 : Int)) (.int .i64 (k2 : Int))
  have g1 : wx.grownBy (((wx.setCell ⟨C, 5, none⟩ (.int .i64 (i2 : Int))).setCell ⟨C, 6, none⟩ (.int .i64 (j2 : Int))).setCell ⟨C, 7, none⟩ (.int .i64 (k2 : Int))) (some C) := ((grown_store wx C 5 _).trans (grown_store _ C 6 _)).trans (grown_store _ C 7 _)
  have t1 := t.apart g1 (by omega)
  have a1 := o1.kept g1 (.inr (own_apart o1 q.ty (by decide)))
  have a2 := o2.kept g1 (.inr (own_apart o2 q.ty (by decide)))
  have a3 := o3.kept g1 (.inr (own_apart o3 q.ty (by decide)))
  have hs := g.size
  generalize (((wx.setCell ⟨C, 5, none⟩ (.int .i64 (i2 : Int))).setCell ⟨C, 6, none⟩ (.int .i64 (j2 : Int))).setCell ⟨C, 7, none⟩ (.int .i64 (k2 : Int))) = w1 at *
  have g2 := fill_grown w1 T (.slice A1 n1 c1) (.slice A2 n2 c2) (.slice A3 n3 c3) (.bool false) (.slice none 0 0)
  refine ⟨A1, A2, A3, n1, n2, n3, c1, c2, c3, rfl, a1.kept g2 (.inr (own_apart a1 t1.ty (by decide))), a2.kept g2 (.inr (own_apart a2 t1.ty (by decide))), a3.kept g2 (.inr (own_apart a3 t1.ty (by decide))), q1.apart g2 (by omega), ?_⟩
  have g3 := (grown_below g (some C)).trans g1
  exact ⟨g2.os.trans g3.os, g2.tape.trans g3.tape, g2.output.trans g3.output, Nat.le_trans g3.size g2.size, fun k hk hne => (g2.block k (Nat.lt_of_lt_of_le hk g3.size) (fun e => by injection e with e; omega)).trans (g3.block k hk hne)⟩

end Go.Proofs.YtapcnmnnichamaaGreatDoor.Mg

namespace Go.Proofs.YtapcnmnnichamaaGreatDoor.Mg
open Go.RowKit

abbrev Tx (w : World) (B : Nat) (v : Value) (ss : List ByteArray) : Prop := w.ownsRow B 9 1 v ss.length (ss.map Value.string)

/-- Five values a chunk. -/
def CkV (w : World) (B : Nat) : List Value → List (Ck ByteArray) → Prop
  | vals, [] => vals = []
  | vals, c :: cs => ∃ a b d e rest, vals = a :: b :: d :: .bool c.clash :: e :: rest ∧ Tx w B a c.base ∧ Tx w B b c.ours ∧ Tx w B d c.theirs ∧ Tx w B e c.out ∧ CkV w B rest cs

theorem CkV.keep {w w' : World} {B : Nat} (hk : ∀ v ss, Tx w B v ss → Tx w' B v ss) : ∀ {cs : List (Ck ByteArray)} {vals : List Value}, CkV w B vals cs → CkV w' B vals cs
  | [], _, h => h
  | _ :: _, _, ⟨a, b, d, e, rest, hv, h1, h2, h3, h4, h5⟩ => ⟨a, b, d, e, rest, hv, hk _ _ h1, hk _ _ h2, hk _ _ h3, hk _ _ h4, h5.keep hk⟩

theorem CkV.snoc {w : World} {B : Nat} {c : Ck ByteArray} {a b d e : Value} (h1 : Tx w B a c.base) (h2 : Tx w B b c.ours) (h3 : Tx w B d c.theirs) (h4 : Tx w B e c.out) : ∀ {cs : List (Ck ByteArray)} {vals : List Value}, CkV w B vals cs → CkV w B (vals ++ [a, b, d, .bool c.clash, e]) (cs ++ [c])
  | [], _, h => by rw [show _ = [] from h]; exact ⟨a, b, d, e, [], rfl, h1, h2, h3, h4, rfl⟩
  | _ :: _, _, ⟨a', b', d', e', rest, hv, g1, g2, g3, g4, g5⟩ => ⟨a', b', d', e', _, by rw [hv]; rfl, g1, g2, g3, g4, CkV.snoc h1 h2 h3 h4 g5⟩

theorem CkV.len {w : World} {B : Nat} : ∀ {cs : List (Ck ByteArray)} {vals : List Value}, CkV w B vals cs → vals.length = cs.length * 5
  | [], _, h => by rw [show _ = [] from h]; rfl
  | _ :: cs, _, ⟨_, _, _, _, rest, hv, _, _, _, _, g5⟩ => by rw [hv]; have := g5.len; simp only [List.length_cons]; omega

theorem CkV.at {w : World} {B : Nat} : ∀ {cs : List (Ck ByteArray)} {vals : List Value} {i : Nat} {c : Ck ByteArray}, CkV w B vals cs → cs[i]? = some c →
    ∃ a b d e, vals[i * 5]? = some a ∧ vals[i * 5 + 1]? = some b ∧ vals[i * 5 + 2]? = some d ∧ vals[i * 5 + 3]? = some (.bool c.clash) ∧ vals[i * 5 + 4]? = some e ∧ Tx w B a c.base ∧ Tx w B b c.ours ∧ Tx w B d c.theirs ∧ Tx w B e c.out
  | [], _, _, _, _, hi => by simp at hi
  | c0 :: cs, _, 0, c, ⟨a, b, d, e, rest, hv, g1, g2, g3, g4, _⟩, hi => by
    simp at hi
    subst hi
    rw [hv]
    exact ⟨a, b, d, e, rfl, rfl, rfl, rfl, rfl, g1, g2, g3, g4⟩
  | c0 :: cs, _, i + 1, c, ⟨a, b, d, e, rest, hv, _, _, _, _, g5⟩, hi => by
    rw [List.getElem?_cons_succ] at hi
    obtain ⟨a', b', d', e', k0, k1, k2, k3, k4, r⟩ := g5.at hi
    rw [hv]
    refine ⟨a', b', d', e', ?_, ?_, ?_, ?_, ?_, r⟩
    · rw [show (i + 1) * 5 = i * 5 + 5 by omega]; exact k0
    · rw [show (i + 1) * 5 + 1 = i * 5 + 1 + 5 by omega]; exact k1
    · rw [show (i + 1) * 5 + 2 = i * 5 + 2 + 5 by omega]; exact k2
    · rw [show (i + 1) * 5 + 3 = i * 5 + 3 + 5 by omega]; exact k3
    · rw [show (i + 1) * 5 + 4 = i * 5 + 4 + 5 by omega]; exact k4

/-- The row of chunks. -/
def OutR (w : World) (B : Nat) (v : Value) (cs : List (Ck ByteArray)) : Prop := ∃ vals, w.ownsRow B 161 5 v cs.length vals ∧ CkV w B vals cs

theorem OutR.kept {w w' : World} {B g : Nat} {t : TypeId} {v : Value} {cs : List (Ck ByteArray)} (h : OutR w B v cs) (hg : w.grownBy w' (some g)) (ty : Ty w g t) (h9 : t ≠ 9) (hne : v.ownBlock ≠ some g) : OutR w' B v cs := by
  obtain ⟨vals, h1, h2⟩ := h
  exact ⟨vals, h1.kept hg (.inr hne), h2.keep fun v ss ho => ho.kept hg (.inr (own_apart ho ty (Ne.symm h9)))⟩
theorem OutR.below {w w' : World} {B : Nat} {v : Value} {cs : List (Ck ByteArray)} (h : OutR w B v cs) (hb : Below w.heap.size w w') : OutR w' B v cs := by
  obtain ⟨vals, h1, h2⟩ := h
  exact ⟨vals, own2_keep h1 hb, h2.keep fun v ss ho => own_keep ho hb⟩
theorem OutR.ne {w : World} {B g : Nat} {t : TypeId} {v : Value} {cs : List (Ck ByteArray)} (h : OutR w B v cs) (ty : Ty w g t) (hne : t ≠ 161) : v.ownBlock ≠ some g := by
  obtain ⟨vals, h1, _⟩ := h
  exact own_apart h1 ty (Ne.symm hne)

/-- What stands between two steps of the cutter. -/
structure Cs (w0 w : World) (C : Nat) (v0 v1 v2 vp vq : Value) (xs ys zs : List ByteArray) (p q : List (Option Nat)) (i j k : Nat) (cs : List (Ck ByteArray)) : Prop where
  c : ∃ v8, Cutr w C v0 v1 v2 vp vq (.int .i64 (i : Int)) (.int .i64 (j : Int)) (.int .i64 (k : Int)) v8 ∧ OutR w w0.heap.size v8 cs
  a : Strs w0 v0 xs
  b : Strs w0 v1 ys
  d : Strs w0 v2 zs
  p1 : Pl w vp p
  p2 : Pl w vq q
  g : Below w0.heap.size w0 w
  cb : w0.heap.size ≤ C

end Go.Proofs.YtapcnmnnichamaaGreatDoor.Mg

namespace Go.Proofs.YtapcnmnnichamaaGreatDoor.Mg
open Go.RowKit

theorem Cs.below {w0 w w' : World} {C : Nat} {v0 v1 v2 vp vq : Value} {xs ys zs : List ByteArray} {p q : List (Option Nat)} {i j k : Nat} {cs : List (Ck ByteArray)} (h : Cs w0 w C v0 v1 v2 vp vq xs ys zs p q i j k cs) (hb : Below w.heap.size w w') : Cs w0 w' C v0 v1 v2 vp vq xs ys zs p q i j k cs := by
  obtain ⟨v8, h1, h2⟩ := h.c
  exact ⟨⟨v8, h1.below hb, h2.below hb⟩, h.a, h.b, h.d, h.p1.below hb, h.p2.below hb, h.g.trans (hb.mono h.g.size), h.cb⟩

/-- Behind take and decide: the chunk in a block of its own. -/
structure Bt (w0 w : World) (C X : Nat) (v0 v1 v2 vp vq v8 a b d e : Value) (xs ys zs : List ByteArray) (p q : List (Option Nat)) (i j k : Nat) (cs : List (Ck ByteArray)) (ck : Ck ByteArray) : Prop where
  c : Cutr w C v0 v1 v2 vp vq (.int .i64 (i : Int)) (.int .i64 (j : Int)) (.int .i64 (k : Int)) v8
  o : OutR w w0.heap.size v8 cs
  x : Five w X a b d (.bool ck.clash) e
  nx : v8.ownBlock ≠ some X
  o1 : Tx w w0.heap.size a ck.base
  o2 : Tx w w0.heap.size b ck.ours
  o3 : Tx w w0.heap.size d ck.theirs
  o4 : Tx w w0.heap.size e ck.out
  a : Strs w0 v0 xs
  b : Strs w0 v1 ys
  d : Strs w0 v2 zs
  p1 : Pl w vp p
  p2 : Pl w vq q
  g : Below w0.heap.size w0 w
  cb : w0.heap.size ≤ C

theorem bt_of {w0 w w1 w2 : World} {C : Nat} {v0 v1 v2 vp vq v8 : Value} {A1 A2 A3 : Option Addr} {n1 n2 n3 c1 c2 c3 : Nat} {xs ys zs l1 l2 l3 : List ByteArray} {p q : List (Option Nat)} {i j k i2 j2 k2 : Nat} {cs : List (Ck ByteArray)} {e : Ending}
    (h : Cs w0 w C v0 v1 v2 vp vq xs ys zs p q i j k cs) (hv : Cutr w C v0 v1 v2 vp vq (.int .i64 (i : Int)) (.int .i64 (j : Int)) (.int .i64 (k : Int)) v8) (ho : OutR w w0.heap.size v8 cs)
    (o1 : Tx w1 w.heap.size (.slice A1 n1 c1) l1) (o2 : Tx w1 w.heap.size (.slice A2 n2 c2) l2) (o3 : Tx w1 w.heap.size (.slice A3 n3 c3) l3)
    (hq : Cutr w1 C v0 v1 v2 vp vq (.int .i64 (i2 : Int)) (.int .i64 (j2 : Int)) (.int .i64 (k2 : Int)) v8) (hg : w.grownBy w1 (some C))
    (hd : Decided (w1.alloc (.cells #[.slice A1 n1 c1, .slice A2 n2 c2, .slice A3 n3 c3, .bool false, .slice none 0 0] 161)) w1.heap.size (.slice A1 n1 c1) (.slice A2 n2 c2) (.slice A3 n3 c3) (decideC l1 l2 l3) e w2) :
    ∃ v4, e = .returned (.tuple #[]) ∧ Bt w0 w2 C w1.heap.size v0 v1 v2 vp vq v8 (.slice A1 n1 c1) (.slice A2 n2 c2) (.slice A3 n3 c3) v4 xs ys zs p q i2 j2 k2 cs (decideC l1 l2 l3) := by
  obtain ⟨v4, he, hx, h4, hgx⟩ := hd
  have hle := h.g.size
  have hB1 : Below w1.heap.size w1 (w1.alloc (.cells #[.slice A1 n1 c1, .slice A2 n2 c2, .slice A3 n3 c3, .bool false, .slice none 0 0] 161)) := (Below.refl _ _).alloc (Nat.le_refl _) _
  have hB : Below w1.heap.size w1 w2 := hB1.grown hgx (by simp) (fun k hk => by injection hk with hk; omega)
  have e1 : (decideC l1 l2 l3).base = l1 := by
    unfold decideC
    split
    · rfl
    · split <;> rfl
  have e2 : (decideC l1 l2 l3).ours = l2 := by
    unfold decideC
    split
    · rfl
    · split <;> rfl
  have e3 : (decideC l1 l2 l3).theirs = l3 := by
    unfold decideC
    split
    · rfl
    · split <;> rfl
  have ho1 : OutR w1 w0.heap.size v8 cs := ho.kept hg hv.ty (by decide) (ho.ne hv.ty (by decide))
  refine ⟨v4, he, hq.below hB, ho1.below hB, hx, ?_, ?_, ?_, ?_, ?_, h.a, h.b, h.d, (own_keep (h.p1.kept hg (.inr (own_apart h.p1 hv.ty (by decide)))) hB), (own_keep (h.p2.kept hg (.inr (own_apart h.p2 hv.ty (by decide)))) hB), ?_, h.cb⟩
  · intro hc
    obtain ⟨vals, g1, _⟩ := ho1
    have := (g1.lt _ hc).2
    omega
  · rw [e1]; exact own_le (own_keep o1 hB) hle
  · rw [e2]; exact own_le (own_keep o2 hB) hle
  · rw [e3]; exact own_le (own_keep o3 hB) hle
  · exact own_le h4 (by have := hg.size; simp; omega)
  · exact (h.g.grown hg hle (fun k hk => by injection hk with hk; have := h.cb; omega)).trans (hB.mono (Nat.le_trans hle hg.size))

theorem chunkInfo : (Tryz.prog.info? 161).map (fun i => (i.zero, i.size, i.bytes)) = some (some (.agg #[.slice none 0 0, .slice none 0 0, .slice none 0 0, .bool false, .slice none 0 0]), 5, 104) := by kernel_rfl

section
variable {w0 w w1 : World} {C X : Nat} {v0 v1 v2 vp vq v8 a b d e v9 : Value} {xs ys zs : List ByteArray} {p q : List (Option Nat)} {i j k : Nat} {cs : List (Ck ByteArray)} {ck : Ck ByteArray} {vals : List Value} {us : Array Value}

/-- Behind the append: what the store needs; the chunk's cells. -/
theorem bt_grown (h : Bt w0 w C X v0 v1 v2 vp vq v8 a b d e xs ys zs p q i j k cs ck) (hg : (w.alloc (.cells us 161)).drew.grownBy w1 v8.ownBlock) :
    w1.cell? ⟨C, 8, none⟩ = some v8 ∧ w1.frozen? ⟨C, 8, none⟩ = false ∧ Five w1 X a b d (.bool ck.clash) e := by
  have hB : Below w.heap.size w (w.alloc (.cells us 161)).drew := ((Below.refl _ _).alloc (Nat.le_refl _) _).drew
  have hc := h.c.below hB
  have hb := hg.block C hc.lt (Ne.symm (h.o.ne h.c.ty (by decide)))
  exact ⟨(World.cell?_of_block (w := (w.alloc (.cells us 161)).drew) (a := ⟨C, 8, none⟩) hb).trans hc.c8, (World.frozen?_of_block (w := (w.alloc (.cells us 161)).drew) (a := ⟨C, 8, none⟩) hb).trans (hc.z 8), (h.x.below hB).same (hg.block X (h.x.below hB).lt (Ne.symm h.nx))⟩

theorem bt_close (h : Bt w0 w C X v0 v1 v2 vp vq v8 a b d e xs ys zs p q i j k cs ck) (ho : w.ownsRow w0.heap.size 161 5 v8 cs.length vals) (hv : CkV w w0.heap.size vals cs) (hg : (w.alloc (.cells us 161)).drew.grownBy w1 v8.ownBlock)
    (h9 : w1.ownsRow w0.heap.size 161 5 v9 (cs.length + 1) (vals ++ [a, b, d, .bool ck.clash, e])) : Cs w0 (w1.setCell ⟨C, 8, none⟩ v9) C v0 v1 v2 vp vq xs ys zs p q i j k (cs ++ [ck]) := by
  have hB : Below w.heap.size w (w.alloc (.cells us 161)).drew := ((Below.refl _ _).alloc (Nat.le_refl _) _).drew
  have hne : ∀ {t : TypeId} {g : Nat}, Ty w g t → t ≠ 161 → some g ≠ v8.ownBlock := fun ty hn => Ne.symm (h.o.ne ty hn)
  have hc1 : Cutr w1 C v0 v1 v2 vp vq (.int .i64 (i : Int)) (.int .i64 (j : Int)) (.int .i64 (k : Int)) v8 := by
    have hc := h.c.below hB
    have hb := hg.block C hc.lt (hne h.c.ty (by decide))
    have cc : ∀ k : Nat, w1.cell? ⟨C, k, none⟩ = (w.alloc (.cells us 161)).drew.cell? ⟨C, k, none⟩ := fun k => World.cell?_of_block (w := (w.alloc (.cells us 161)).drew) hb
    exact ⟨(cc 0).trans hc.c0, (cc 1).trans hc.c1, (cc 2).trans hc.c2, (cc 3).trans hc.c3, (cc 4).trans hc.c4, (cc 5).trans hc.c5, (cc 6).trans hc.c6, (cc 7).trans hc.c7, (cc 8).trans hc.c8, fun k => (World.frozen?_of_block (w := (w.alloc (.cells us 161)).drew) hb).trans (hc.z k), hc.ty.same hb⟩
  have gs := grown_store w1 C 8 v9
  have own9 : ∀ {ve : Value} {bs n : Nat} {et : TypeId} {vs : List Value}, et ≠ 161 → et ≠ 190 → w.ownsRow bs et 1 ve n vs → (w1.setCell ⟨C, 8, none⟩ v9).ownsRow bs et 1 ve n vs := fun {ve bs n et vs} h34 h54 hr => by
    have r1 := own_keep hr hB
    have r2 : w1.ownsRow bs et 1 ve n vs := r1.kept hg (by
      cases hve : ve.ownBlock with
      | none => exact .inl rfl
      | some g =>
        refine .inr fun hh => ?_
        obtain ⟨_, o1, _⟩ := h.o
        have ty := own_ty o1 hh.symm
        exact own_apart r1 (ty.same (hB.block g ty.lt)) h34 hve)
    exact r2.kept gs (.inr (own_apart r2 hc1.ty h54))
  have tx9 : ∀ v ss, Tx w w0.heap.size v ss → Tx (w1.setCell ⟨C, 8, none⟩ v9) w0.heap.size v ss := fun v ss hr => own9 (by decide) (by decide) hr
  have o : ∀ k : Nat, k ≠ 8 → (w1.setCell ⟨C, 8, none⟩ v9).cell? ⟨C, k, none⟩ = w1.cell? ⟨C, k, none⟩ := fun k hk => World.cell?_setCell_other w1 _ _ v9 (by simp)
  refine ⟨⟨v9, ⟨(o 0 (by omega)).trans hc1.c0, (o 1 (by omega)).trans hc1.c1, (o 2 (by omega)).trans hc1.c2, (o 3 (by omega)).trans hc1.c3, (o 4 (by omega)).trans hc1.c4, (o 5 (by omega)).trans hc1.c5, (o 6 (by omega)).trans hc1.c6, (o 7 (by omega)).trans hc1.c7, set_same hc1.c8, fun k => by simp [hc1.z k], hc1.ty.set _ _ _⟩, ?_⟩, h.a, h.b, h.d, own9 (by decide) (by decide) h.p1, own9 (by decide) (by decide) h.p2, ?_, h.cb⟩
  · exact ⟨_, by rw [List.length_append]; exact h9.kept gs (.inr (own_apart h9 hc1.ty (by decide))), CkV.snoc (tx9 _ _ h.o1) (tx9 _ _ h.o2) (tx9 _ _ h.o3) (tx9 _ _ h.o4) (hv.keep tx9)⟩
  · exact (((h.g.trans (hB.mono h.g.size)).grown hg (by have := h.g.size; have := hB.size; omega) (fun k hk => (ho.lt k hk).1))).setCell h.cb v9
end

end Go.Proofs.YtapcnmnnichamaaGreatDoor.Mg
