/-
  cmd.Same, the document's Same: whether all of two commands is alike.
  rectolaw22: a command as the document's; whether it is short.
  rectolaw22.Few: whether a command is short.
-/
import Derived.Test.YtanjcjnkppnhcaaGreatDoorQAU
import Derived.Deep.QuietTactic
import Derived.BigQuiet
import Derived.Test.YtanjcjnkppnhcaaGreatDoorQAT

namespace Go.Proofs.YtanjcjnkppnhcaaGreatDoor
open Go Go.RowKit

theorem tl_eq {x y : ByteArray} (h : x.toList = y.toList) : x = y := bytesB_eq (by rw [← ByteArray.toList_eq, h, ByteArray.toList_eq])
theorem drewN_two (w : World) (a b : Nat) : (w.drewN a).drewN b = w.drewN (a + b) := by simp [World.drewN, Nat.add_assoc]
def BoolTo (b : Bool) (w : World) (e : Ending) (w' : World) : Prop := e = .returned (.bool b) ∧ ∃ q, w' = w.drewN q

theorem prefix_all {α : Type} {a b : List α} {n : Nat} (h : ∀ i, i < n → a[i]? = b[i]?) (ha : a.length = n) (hb : b.length = n) : a = b := by
  apply List.ext_getElem?
  intro i
  by_cases hi : i < n
  · exact h i hi
  · rw [List.getElem?_eq_none (by omega), List.getElem?_eq_none (by omega)]

set_option maxHeartbeats 4000000 in
theorem equalF_any (w : World) (v u : Value) (a b : List Fl) (h : Reads 3 cF w v a) (g : Reads 3 cF w u b) :
    Calls Tryz.prog 71 #[v, u] w (BoolTo (decide (a = b)) w) := by
  obtain ⟨A, c, rfl⟩ := h.form
  obtain ⟨B, d, rfl⟩ := g.form
  have hn := h.len
  have gn := g.len
  have hm1 : a.length ≤ 9223372036854775807 := by have := hn.2; unfold maxLen at this; omega
  have hm2 : b.length ≤ 9223372036854775807 := by have := gn.2; unfold maxLen at this; omega
  have HA := Lib.hid h
  have HB := Lib.hid g
  clear h g hn gn
  by_cases hnm : a.length = b.length
  · have hi0 : (a.length : Int) = (b.length : Int) := by omega
    have HN := Lib.hid hnm
    clear hnm
    go_enter Tryz.func71, Tryz.ntmps71
    go_wp2
    go_loopw [5, 13] (fun _ s13 wr => ∃ k q : Nat, k ≤ b.length ∧ s13 = .int .i64 k ∧ Hid (∀ i, i < k → a[i]? = b[i]?) ∧ wr = w.drewN q) (fun _ s13 _ => b.length - (intOf s13).toNat)
    case atStart => exact ⟨0, 0, Nat.zero_le _, rfl, Lib.hid (fun i hi => absurd hi (Nat.not_lt_zero _)), rfl⟩
    case round =>
      obtain ⟨k, q, hk, rfl, hp, rfl⟩ := hrel
      by_cases hlt : k < b.length
      · obtain ⟨x, hx⟩ : ∃ x, a[k]? = some x := ⟨_, List.getElem?_eq_getElem (by rw [HN.out]; exact hlt)⟩
        obtain ⟨y, hy⟩ : ∃ y, b[k]? = some y := ⟨_, List.getElem?_eq_getElem hlt⟩
        obtain ⟨ad, rfl, c0, c1, c2⟩ := Fils.at_ HA.out hx
        obtain ⟨ad2, rfl, d0, d1, d2⟩ := Fils.at_ HB.out hy
        have HX := Lib.hid hx
        have HY := Lib.hid hy
        have k0 : (0 : Int) ≤ (k : Int) := Int.natCast_nonneg _
        have k1 : (k : Int) < (b.length : Int) := by omega
        have HNE := Lib.hid (show x ≠ y → decide (a = b) = false from fun hne => decide_eq_false fun e => by
          rw [e, hy] at hx
          exact hne (Option.some.inj hx).symm)
        clear hx hy
        by_cases hxy : x = y
        · subst hxy
          obtain ⟨p, m, s⟩ := x
          go_wp2_with fail
          go_quiet (fail)
          go_wp2
          go_roundw
          case rel => exact ⟨k + 1, _, by omega, by go_num, Lib.hid (fun i hi => by
            rcases Nat.lt_or_ge i k with h1 | h1
            · exact hp.out i h1
            · obtain rfl : i = k := by omega
              rw [HX.out, HY.out]), rfl⟩
          case measure => simp [intOf]; omega
        · have HC := Lib.hid (HNE.out hxy)
          obtain ⟨p, m, s⟩ := x
          obtain ⟨p', m', s'⟩ := y
          by_cases h1 : p = p'
          · subst h1
            by_cases h2 : m = m'
            · subst h2
              have h3 : ¬ s = s' := fun e => hxy (by rw [e])
              have e3 : ¬ s.toList = s'.toList := fun e => h3 (tl_eq e)
              have e3' : (s.toList == s'.toList) = false := by simpa using e3
              clear h3 hxy
              go_wp2_with fail
              go_quiet (fail)
              go_wp2
              go_ret
              exact ⟨by rw [HC.out]; rfl, _, drewN_two _ _ _⟩
            · have e2' : (m == m') = false := by simpa using h2
              clear hxy
              go_wp2_with fail
              go_quiet (fail)
              go_wp2
              go_ret
              exact ⟨by rw [HC.out]; rfl, _, drewN_two _ _ _⟩
          · have e1 : ¬ p.toList = p'.toList := fun e => h1 (tl_eq e)
            have e1' : (p.toList == p'.toList) = false := by simpa using e1
            clear hxy h1
            go_wp2_with fail
            go_quiet (fail)
            go_wp2
            go_ret
            exact ⟨by rw [HC.out]; rfl, _, drewN_two _ _ _⟩
      · obtain rfl : k = b.length := by omega
        have HC : Hid (decide (a = b) = true) := Lib.hid (decide_eq_true (prefix_all hp.out HN.out rfl))
        go_wp2
        go_ret
        exact ⟨by rw [HC.out]; rfl, _, rfl⟩
  · have hi0 : ¬ (a.length : Int) = (b.length : Int) := by omega
    have HC : Hid (decide (a = b) = false) := Lib.hid (decide_eq_false fun e => hnm (by rw [e]))
    clear hnm
    go_enter Tryz.func71, Tryz.ntmps71
    go_wp2
    go_ret
    exact ⟨by rw [HC.out]; rfl, 0, rfl⟩


/-- A command by its parts. -/
abbrev CP := ByteArray × ByteArray × Int × ByteArray × Bool × List Fl
abbrev cpV (x : CP) (A : Option Addr) (c : Nat) : Value := .agg #[.string x.1, .string x.2.1, .int .i64 x.2.2.1, .string x.2.2.2.1, .bool x.2.2.2.2.1, .slice A x.2.2.2.2.2.length c]
/-- Is all of two commands alike? -/
def eqCP (x y : CP) : Bool := decide (x.1 = y.1) && (decide (x.2.1 = y.2.1) && (decide (x.2.2.1 = y.2.2.1) && (decide (x.2.2.2.1 = y.2.2.2.1) && (decide (x.2.2.2.2.1 = y.2.2.2.2.1) && decide (x.2.2.2.2.2 = y.2.2.2.2.2)))))
theorem eqCP_refl (x : CP) : eqCP x x = true := by unfold eqCP; simp
theorem neS {a b : ByteArray} (h : a ≠ b) : ¬ a.toList = b.toList ∧ (a.toList == b.toList) = false := by
  have : ¬ a.toList = b.toList := fun e => h (tl_eq e)
  exact ⟨this, by simpa using this⟩
theorem ret_bb {a b : Bool} (h : a = b) : Ending.returned (.bool a) = .returned (.bool b) := by rw [h]
set_option maxRecDepth 100000 in
set_option maxHeartbeats 16000000 in
theorem cmdSame_any (w : World) (x y : CP) (A B : Option Addr) (c d : Nat) (hx : Reads 3 cF w (.slice A x.2.2.2.2.2.length c) x.2.2.2.2.2) (hy : Reads 3 cF w (.slice B y.2.2.2.2.2.length d) y.2.2.2.2.2) :
    Calls Tryz.prog 34 #[cpV x A c, cpV y B d] w fun e w' => e = .returned (.bool (eqCP x y)) ∧ Below w.heap.size w w' := by
  obtain ⟨v1, m1, n1, t1, f1, l1⟩ := x
  obtain ⟨v2, m2, n2, t2, f2, l2⟩ := y
  have hb1 := (Below.refl w.heap.size w).alloc (Nat.le_refl _) (.cells #[.string v1, .string m1, .int .i64 n1, .string t1, .bool f1, .slice A l1.length c] 52)
  have HB := Lib.hid (hb1.alloc hb1.size (.cells #[.string v2, .string m2, .int .i64 n2, .string t2, .bool f2, .slice B l2.length d] 52))
  have HX := Lib.hid fun W (hW : Below w.heap.size w W) => hx.below hW
  have HY := Lib.hid fun W (hW : Below w.heap.size w W) => hy.below hW
  have a0 : (0 : Int) ≤ (l1.length : Int) := Int.natCast_nonneg _
  have b0 : (0 : Int) ≤ (l2.length : Int) := Int.natCast_nonneg _
  have a9 : (l1.length : Int) ≤ 9223372036854775807 := by have := hx.len.2; unfold maxLen at this; dsimp only at this; omega
  have b9 : (l2.length : Int) ≤ 9223372036854775807 := by have := hy.len.2; unfold maxLen at this; dsimp only at this; omega
  clear hb1 hx hy
  dsimp only at HX HY
  unfold cpV
  dsimp only
  by_cases h1 : v1 = v2
  case neg =>
    have HV := Lib.hid (show false = eqCP (v1, m1, n1, t1, f1, l1) (v2, m2, n2, t2, f2, l2) from (by unfold eqCP; simp [h1]))
    obtain ⟨e1, e2⟩ := neS h1
    clear h1
    go_enter Tryz.func34, Tryz.ntmps34
    go_wp2
    go_ret
    exact ⟨ret_bb HV.out, HB.out⟩
  subst h1
  by_cases h2 : m1 = m2
  case neg =>
    have HV := Lib.hid (show false = eqCP (v1, m1, n1, t1, f1, l1) (v1, m2, n2, t2, f2, l2) from (by unfold eqCP; simp [h2]))
    obtain ⟨e1, e2⟩ := neS h2
    clear h2
    go_enter Tryz.func34, Tryz.ntmps34
    go_wp2
    go_ret
    exact ⟨ret_bb HV.out, HB.out⟩
  subst h2
  by_cases h3 : n1 = n2
  case neg =>
    have HV := Lib.hid (show false = eqCP (v1, m1, n1, t1, f1, l1) (v1, m1, n2, t2, f2, l2) from (by unfold eqCP; simp [h3]))
    have e1 : (n1 == n2) = false := by simpa using h3
    have e2 : (n1 != n2) = true := by simpa using h3
    clear h3
    go_enter Tryz.func34, Tryz.ntmps34
    go_wp2
    go_ret
    exact ⟨ret_bb HV.out, HB.out⟩
  subst h3
  by_cases h4 : t1 = t2
  case neg =>
    have HV := Lib.hid (show false = eqCP (v1, m1, n1, t1, f1, l1) (v1, m1, n1, t2, f2, l2) from (by unfold eqCP; simp [h4]))
    obtain ⟨e1, e2⟩ := neS h4
    clear h4
    go_enter Tryz.func34, Tryz.ntmps34
    go_wp2
    go_ret
    exact ⟨ret_bb HV.out, HB.out⟩
  subst h4
  by_cases h5 : f1 = f2
  case neg =>
    have HV := Lib.hid (show false = eqCP (v1, m1, n1, t1, f1, l1) (v1, m1, n1, t1, f2, l2) from (by unfold eqCP; simp [h5]))
    have e1 : (f1 == f2) = false := by simpa using h5
    clear h5
    go_enter Tryz.func34, Tryz.ntmps34
    go_wp2
    go_ret
    exact ⟨ret_bb HV.out, HB.out⟩
  subst h5
  have EQ := Lib.hid fun W (hW : Below w.heap.size w W) => equalF_any W _ _ l1 l2 (HX.out W hW) (HY.out W hW)
  have HV := Lib.hid (show decide (l1 = l2) = eqCP (v1, m1, n1, t1, f1, l1) (v1, m1, n1, t1, f1, l2) from (by unfold eqCP; simp))
  have e3 : (n1 == n1) = true := by simp
  have e5 : (f1 == f1) = true := by simp
  go_enter Tryz.func34, Tryz.ntmps34
  go_wp2_with fail
  refine (EQ.out _ HB.out).mono ?_
  rintro e w1 ⟨rfl, q, rfl⟩
  have B1 := Lib.hid (below_drewN HB.out q)
  go_wp2
  go_ret
  exact ⟨ret_bb HV.out, B1.out⟩
set_option maxRecDepth 100000 in
set_option maxHeartbeats 16000000 in
theorem refSame_any (w : World) (x y : CP) (A B : Option Addr) (c d : Nat) (hx : Reads 3 cF w (.slice A x.2.2.2.2.2.length c) x.2.2.2.2.2) (hy : Reads 3 cF w (.slice B y.2.2.2.2.2.length d) y.2.2.2.2.2) :
    Calls Tryz.prog 33 #[cpV x A c, cpV y B d] w fun e w' => e = .returned (.bool (eqCP x y)) ∧ Below w.heap.size w w' := by
  obtain ⟨v1, m1, n1, t1, f1, l1⟩ := x
  obtain ⟨v2, m2, n2, t2, f2, l2⟩ := y
  have hb1 := (Below.refl w.heap.size w).alloc (Nat.le_refl _) (.cells #[.string v1, .string m1, .int .i64 n1, .string t1, .bool f1, .slice A l1.length c] 56)
  have HB := Lib.hid (hb1.alloc hb1.size (.cells #[.string v2, .string m2, .int .i64 n2, .string t2, .bool f2, .slice B l2.length d] 56))
  have HX := Lib.hid fun W (hW : Below w.heap.size w W) => hx.below hW
  have HY := Lib.hid fun W (hW : Below w.heap.size w W) => hy.below hW
  have a0 : (0 : Int) ≤ (l1.length : Int) := Int.natCast_nonneg _
  have b0 : (0 : Int) ≤ (l2.length : Int) := Int.natCast_nonneg _
  have a9 : (l1.length : Int) ≤ 9223372036854775807 := by have := hx.len.2; unfold maxLen at this; dsimp only at this; omega
  have b9 : (l2.length : Int) ≤ 9223372036854775807 := by have := hy.len.2; unfold maxLen at this; dsimp only at this; omega
  clear hb1 hx hy
  dsimp only at HX HY
  unfold cpV
  dsimp only
  by_cases h1 : v1 = v2
  case neg =>
    have HV := Lib.hid (show false = eqCP (v1, m1, n1, t1, f1, l1) (v2, m2, n2, t2, f2, l2) from (by unfold eqCP; simp [h1]))
    obtain ⟨e1, e2⟩ := neS h1
    clear h1
    go_enter Tryz.func33, Tryz.ntmps33
    go_wp2
    go_ret
    exact ⟨ret_bb HV.out, HB.out⟩
  subst h1
  by_cases h2 : m1 = m2
  case neg =>
    have HV := Lib.hid (show false = eqCP (v1, m1, n1, t1, f1, l1) (v1, m2, n2, t2, f2, l2) from (by unfold eqCP; simp [h2]))
    obtain ⟨e1, e2⟩ := neS h2
    clear h2
    go_enter Tryz.func33, Tryz.ntmps33
    go_wp2
    go_ret
    exact ⟨ret_bb HV.out, HB.out⟩
  subst h2
  by_cases h3 : n1 = n2
  case neg =>
    have HV := Lib.hid (show false = eqCP (v1, m1, n1, t1, f1, l1) (v1, m1, n2, t2, f2, l2) from (by unfold eqCP; simp [h3]))
    have e1 : (n1 == n2) = false := by simpa using h3
    have e2 : (n1 != n2) = true := by simpa using h3
    clear h3
    go_enter Tryz.func33, Tryz.ntmps33
    go_wp2
    go_ret
    exact ⟨ret_bb HV.out, HB.out⟩
  subst h3
  by_cases h4 : t1 = t2
  case neg =>
    have HV := Lib.hid (show false = eqCP (v1, m1, n1, t1, f1, l1) (v1, m1, n1, t2, f2, l2) from (by unfold eqCP; simp [h4]))
    obtain ⟨e1, e2⟩ := neS h4
    clear h4
    go_enter Tryz.func33, Tryz.ntmps33
    go_wp2
    go_ret
    exact ⟨ret_bb HV.out, HB.out⟩
  subst h4
  by_cases h5 : f1 = f2
  case neg =>
    have HV := Lib.hid (show false = eqCP (v1, m1, n1, t1, f1, l1) (v1, m1, n1, t1, f2, l2) from (by unfold eqCP; simp [h5]))
    have e1 : (f1 == f2) = false := by simpa using h5
    clear h5
    go_enter Tryz.func33, Tryz.ntmps33
    go_wp2
    go_ret
    exact ⟨ret_bb HV.out, HB.out⟩
  subst h5
  have e3 : (n1 != n1) = false := by simp
  have e5 : (f1 != f1) = false := by simp
  by_cases hn : l1.length = l2.length
  case neg =>
    have HV := Lib.hid (show false = eqCP (v1, m1, n1, t1, f1, l1) (v1, m1, n1, t1, f1, l2) from (by unfold eqCP; simp; intro e; exact hn (by rw [e])))
    have en : ((l1.length : Int) != (l2.length : Int)) = true := by simp; omega
    have en2 : ¬ (l1.length : Int) = (l2.length : Int) := by omega
    clear hn
    go_enter Tryz.func33, Tryz.ntmps33
    go_wp2
    go_ret
    exact ⟨ret_bb HV.out, HB.out⟩
  have en : ((l1.length : Int) != (l2.length : Int)) = false := by rw [hn]; simp
  have eni : (l1.length : Int) = (l2.length : Int) := by rw [hn]
  have HN := Lib.hid hn
  have HZ := Lib.hid (Blk.new w 56 #[.string v1, .string m1, .int .i64 n1, .string t1, .bool f1, .slice A l1.length c])
  have HZ1 := Lib.hid (HZ.out.alloc (.cells #[.string v1, .string m1, .int .i64 n1, .string t1, .bool f1, .slice B l2.length d] 56))
  have HY1 := Lib.hid (Blk.new (w.alloc (.cells #[.string v1, .string m1, .int .i64 n1, .string t1, .bool f1, .slice A l1.length c] 56)) 56 #[.string v1, .string m1, .int .i64 n1, .string t1, .bool f1, .slice B l2.length d])
  rw [show (w.alloc (.cells #[.string v1, .string m1, .int .i64 n1, .string t1, .bool f1, .slice A l1.length c] 56)).heap.size = w.heap.size + 1 by simp] at HY1
  obtain ⟨g, hg⟩ : ∃ g, g = w.heap.size := ⟨_, rfl⟩
  rw [← hg] at HZ1 HY1
  clear hn HZ
  go_enter Tryz.func33, Tryz.ntmps33
  go_wp2_with fail
  rw [← hg]
  clear hg eni
  go_loopw [5] (fun s5 wr => ∃ k : Nat, k ≤ l1.length ∧ s5 = .int .i64 k ∧ Hid (∀ i, i < k → l1[i]? = l2[i]?) ∧ Hid (Blk wr g 56 #[.string v1, .string m1, .int .i64 n1, .string t1, .bool f1, .slice A l1.length c]) ∧ Hid (Blk wr (g + 1) 56 #[.string v1, .string m1, .int .i64 n1, .string t1, .bool f1, .slice B l2.length d]) ∧ Hid (Below w.heap.size w wr)) (fun s5 _ => l1.length - (intOf s5).toNat)
  case atStart => exact ⟨0, Nat.zero_le _, rfl, Lib.hid (fun i hi => absurd hi (Nat.not_lt_zero _)), HZ1, HY1, HB⟩
  case round =>
    clear HZ1 HY1 HB
    obtain ⟨k, hk, rfl, HP, HZ, HQ, HB⟩ := hrel
    have k0 : (0 : Int) ≤ (k : Int) := Int.natCast_nonneg _
    have z5 := HZ.out.cell 5
    have q5 := HQ.out.cell 5
    by_cases hlt : k < l1.length
    · obtain ⟨x, hx⟩ : ∃ x, l1[k]? = some x := ⟨_, List.getElem?_eq_getElem hlt⟩
      obtain ⟨y, hy⟩ : ∃ y, l2[k]? = some y := ⟨_, List.getElem?_eq_getElem (by rw [← HN.out]; exact hlt)⟩
      obtain ⟨ad, rfl, c0, c1, c2⟩ := Fils.at_ (HX.out wr HB.out) hx
      obtain ⟨ad2, rfl, d0, d1, d2⟩ := Fils.at_ (HY.out wr HB.out) hy
      have HXX := Lib.hid hx
      have HYY := Lib.hid hy
      have k1 : (k : Int) < (l1.length : Int) := by omega
      have k2 : (k : Int) < (l2.length : Int) := by have := HN.out; omega
      have HLT := Lib.hid hlt
      have HNE := Lib.hid (show x ≠ y → false = eqCP (v1, m1, n1, t1, f1, l1) (v1, m1, n1, t1, f1, l2) from fun hne => by
        unfold eqCP
        simp
        intro e
        rw [e, hy] at hx
        exact hne (Option.some.inj hx).symm)
      clear hx hy hlt hk
      by_cases hxy : x = y
      · subst hxy
        obtain ⟨p, m, s⟩ := x
        go_wp2_with fail
        go_quiet (fail)
        go_wp2
        go_roundw
        case rel => exact ⟨k + 1, by have := HLT.out; omega, by go_num, Lib.hid (fun i hi => by
          rcases Nat.lt_or_ge i k with h1 | h1
          · exact HP.out i h1
          · obtain rfl : i = k := by omega
            rw [HXX.out, HYY.out]), Lib.hid (HZ.out.below (below_drewN (Below.refl _ _) _) HZ.out.lt), Lib.hid (HQ.out.below (below_drewN (Below.refl _ _) _) HQ.out.lt), Lib.hid (below_drewN HB.out _)⟩
        case measure => have := HLT.out; simp [intOf]; omega
      · have HC := Lib.hid (HNE.out hxy)
        obtain ⟨p, m, s⟩ := x
        obtain ⟨p', m', s'⟩ := y
        by_cases h1 : p = p'
        · subst h1
          by_cases h2 : m = m'
          · subst h2
            obtain ⟨e3, e3'⟩ := neS (fun e => hxy (by rw [e]) : s ≠ s')
            clear hxy
            go_wp2_with fail
            go_quiet (fail)
            go_wp2
            go_ret
            exact ⟨ret_bb HC.out, below_drewN HB.out _⟩
          · have e2' : (m == m') = false := by simpa using h2
            clear hxy
            go_wp2_with fail
            go_quiet (fail)
            go_wp2
            go_ret
            exact ⟨ret_bb HC.out, below_drewN HB.out _⟩
        · obtain ⟨e1, e1'⟩ := neS h1
          clear hxy h1
          go_wp2_with fail
          go_quiet (fail)
          go_wp2
          go_ret
          exact ⟨ret_bb HC.out, below_drewN HB.out _⟩
    · obtain rfl : k = l1.length := by omega
      have HC := Lib.hid (show true = eqCP (v1, m1, n1, t1, f1, l1) (v1, m1, n1, t1, f1, l2) from (by rw [prefix_all HP.out rfl HN.out.symm, eqCP_refl]))
      clear hlt
      go_wp2
      go_ret
      exact ⟨ret_bb HC.out, HB.out⟩
end Go.Proofs.YtanjcjnkppnhcaaGreatDoor

namespace Go.Proofs.YtanjcjnkppnhcaaGreatDoor
open Go Go.RowKit

theorem row6w {w : World} {g : Nat} {cs : Array Value} (h : Blk w g 56 cs) (hs : cs.size = 6) (a b c d e f : Value) :
    Blk ((((((w.setCell ⟨g, 0, none⟩ a).setCell ⟨g, 1, none⟩ b).setCell ⟨g, 2, none⟩ c).setCell ⟨g, 3, none⟩ d).setCell ⟨g, 4, none⟩ e).setCell ⟨g, 5, none⟩ f) g 56 #[a, b, c, d, e, f] := by
  match cs, hs with
  | ⟨[x0, x1, x2, x3, x4, x5]⟩, _ =>
    have h0 := h.set_ 0 a
    simp only [List.setIfInBounds_toArray, List.set_cons_zero] at h0
    generalize w.setCell ⟨g, 0, none⟩ a = w0 at *
    have h1 := h0.set_ 1 b
    simp only [List.setIfInBounds_toArray, List.set_cons_zero, List.set_cons_succ] at h1
    generalize w0.setCell ⟨g, 1, none⟩ b = w1 at *
    have h2 := h1.set_ 2 c
    simp only [List.setIfInBounds_toArray, List.set_cons_zero, List.set_cons_succ] at h2
    generalize w1.setCell ⟨g, 2, none⟩ c = w2 at *
    have h3 := h2.set_ 3 d
    simp only [List.setIfInBounds_toArray, List.set_cons_zero, List.set_cons_succ] at h3
    generalize w2.setCell ⟨g, 3, none⟩ d = w3 at *
    have h4 := h3.set_ 4 e
    simp only [List.setIfInBounds_toArray, List.set_cons_zero, List.set_cons_succ] at h4
    generalize w3.setCell ⟨g, 4, none⟩ e = w4 at *
    have h5 := h4.set_ 5 f
    simp only [List.setIfInBounds_toArray, List.set_cons_zero, List.set_cons_succ] at h5
    exact h5
theorem below6 {B : Nat} {w v : World} {g : Nat} (h : Below B w v) (hg : B ≤ g) (a b c d e f : Value) :
    Below B w ((((((v.setCell ⟨g, 0, none⟩ a).setCell ⟨g, 1, none⟩ b).setCell ⟨g, 2, none⟩ c).setCell ⟨g, 3, none⟩ d).setCell ⟨g, 4, none⟩ e).setCell ⟨g, 5, none⟩ f) :=
  (((((h.setCell (p := ⟨g, 0, none⟩) hg a).setCell (p := ⟨g, 1, none⟩) hg b).setCell (p := ⟨g, 2, none⟩) hg c).setCell (p := ⟨g, 3, none⟩) hg d).setCell (p := ⟨g, 4, none⟩) hg e).setCell (p := ⟨g, 5, none⟩) hg f
theorem far6 {w : World} {g h : Nat} {t : TypeId} {cs : Array Value} (hb : Blk w g t cs) (hne : g ≠ h) (a b c d e f : Value) :
    Blk ((((((w.setCell ⟨h, 0, none⟩ a).setCell ⟨h, 1, none⟩ b).setCell ⟨h, 2, none⟩ c).setCell ⟨h, 3, none⟩ d).setCell ⟨h, 4, none⟩ e).setCell ⟨h, 5, none⟩ f) g t cs :=
  (((((hb.far (p := ⟨h, 0, none⟩) hne a).far (p := ⟨h, 1, none⟩) hne b).far (p := ⟨h, 2, none⟩) hne c).far (p := ⟨h, 3, none⟩) hne d).far (p := ⟨h, 4, none⟩) hne e).far (p := ⟨h, 5, none⟩) hne f
theorem own6 {w : World} {B g n : Nat} {v : Value} {xs : List Value} (h : w.ownsRow B 81 3 v n xs) {cs : Array Value} (hg : Blk w g 56 cs) (a b c d e f : Value) :
    ((((((w.setCell ⟨g, 0, none⟩ a).setCell ⟨g, 1, none⟩ b).setCell ⟨g, 2, none⟩ c).setCell ⟨g, 3, none⟩ d).setCell ⟨g, 4, none⟩ e).setCell ⟨g, 5, none⟩ f).ownsRow B 81 3 v n xs := by
  have hne := own_blk_ne h hg (by decide)
  exact ownsRow_setCell_other (ownsRow_setCell_other (ownsRow_setCell_other (ownsRow_setCell_other (ownsRow_setCell_other (ownsRow_setCell_other h (a := ⟨g, 0, none⟩) hne a) (a := ⟨g, 1, none⟩) hne b) (a := ⟨g, 2, none⟩) hne c) (a := ⟨g, 3, none⟩) hne d) (a := ⟨g, 4, none⟩) hne e) (a := ⟨g, 5, none⟩) hne f
def OfTo (x : CP) (w : World) (e : Ending) (w' : World) : Prop := ∃ A c, e = .returned (cpV x A c) ∧ Reads 3 cF w' (.slice A x.2.2.2.2.2.length c) x.2.2.2.2.2 ∧ Below w.heap.size w w'
set_option maxRecDepth 100000 in
set_option maxHeartbeats 16000000 in
theorem ofCmd_any (w : World) (x : CP) (A : Option Addr) (c : Nat) (hx : Reads 3 cF w (.slice A x.2.2.2.2.2.length c) x.2.2.2.2.2) (hl : x.2.2.2.2.2.length ≤ 100000) :
    Calls Tryz.prog 24 #[cpV x A c] w (OfTo x w) := by
  obtain ⟨v, m, n, t, f, l⟩ := x
  have hb1 := (Below.refl w.heap.size w).alloc (Nat.le_refl _) (.cells #[.string v, .string m, .int .i64 n, .string t, .bool f, .slice A l.length c] 52)
  have hb2 := hb1.alloc hb1.size (.cells #[.string ⟨#[]⟩, .string ⟨#[]⟩, .int .i64 0, .string ⟨#[]⟩, .bool false, .slice none 0 0] 56)
  have LO := Lib.hid fun W (hW : Below w.heap.size w W) => (show Calls Tryz.prog 18 #[.slice A l.length c] W fun e W' => ∃ A2 c2, e = .returned (.slice A2 l.length c2) ∧ W'.ownsRow W.heap.size 81 3 (.slice A2 l.length c2) l.length (l.flatMap cF) ∧ Below W.heap.size W W' from (lawOf_any W _ l (hx.below hW) hl).mono fun e W' ⟨u, h1, h2, h3⟩ => by
    obtain ⟨A2, c2, rfl⟩ := own_form h2
    exact ⟨A2, c2, h1, h2, h3⟩)
  have HZ := Lib.hid ((Blk.new w 52 #[.string v, .string m, .int .i64 n, .string t, .bool f, .slice A l.length c]).alloc (.cells #[.string ⟨#[]⟩, .string ⟨#[]⟩, .int .i64 0, .string ⟨#[]⟩, .bool false, .slice none 0 0] 56))
  have HY := Lib.hid (Blk.new (w.alloc (.cells #[.string v, .string m, .int .i64 n, .string t, .bool f, .slice A l.length c] 52)) 56 #[.string ⟨#[]⟩, .string ⟨#[]⟩, .int .i64 0, .string ⟨#[]⟩, .bool false, .slice none 0 0])
  rw [show (w.alloc (.cells #[.string v, .string m, .int .i64 n, .string t, .bool f, .slice A l.length c] 52)).heap.size = w.heap.size + 1 by simp] at HY
  obtain ⟨g, hg⟩ : ∃ g, g = w.heap.size := ⟨_, rfl⟩
  have HG := Lib.hid hg
  have HB := Lib.hid hb2
  rw [← hg] at HZ HY
  unfold cpV
  dsimp only at LO ⊢
  clear hb1 hb2 hx
  go_enter Tryz.func24, Tryz.ntmps24
  go_wp2_with fail
  rw [← hg]
  clear hg
  generalize (w.alloc (.cells #[.string v, .string m, .int .i64 n, .string t, .bool f, .slice A l.length c] 52)).alloc (.cells #[.string ⟨#[]⟩, .string ⟨#[]⟩, .int .i64 0, .string ⟨#[]⟩, .bool false, .slice none 0 0] 56) = w1 at *
  have Bd := Lib.hid (HB.out.drew)
  have Yd : Hid (Blk w1.drew (g + 1) 56 #[.string ⟨#[]⟩, .string ⟨#[]⟩, .int .i64 0, .string ⟨#[]⟩, .bool false, .slice none 0 0]) := Lib.hid HY.out
  have Zd : Hid (Blk w1.drew g 52 #[.string v, .string m, .int .i64 n, .string t, .bool f, .slice A l.length c]) := Lib.hid HZ.out
  have CC := Lib.hid fun V (h : Blk V g 52 #[.string v, .string m, .int .i64 n, .string t, .bool f, .slice A l.length c]) => (⟨h.cell 0, h.cell 1, h.cell 2, h.cell 3, h.cell 4, h.cell 5⟩ : V.cell? ⟨g, 0, none⟩ = some (.string v) ∧ V.cell? ⟨g, 1, none⟩ = some (.string m) ∧ V.cell? ⟨g, 2, none⟩ = some (.int .i64 n) ∧ V.cell? ⟨g, 3, none⟩ = some (.string t) ∧ V.cell? ⟨g, 4, none⟩ = some (.bool f) ∧ V.cell? ⟨g, 5, none⟩ = some (.slice A l.length c))
  go_region_held3 (fun V => V.cell? ⟨g, 0, none⟩ = some (.string v) ∧ V.cell? ⟨g, 1, none⟩ = some (.string m) ∧ V.cell? ⟨g, 2, none⟩ = some (.int .i64 n) ∧ V.cell? ⟨g, 3, none⟩ = some (.string t) ∧ V.cell? ⟨g, 4, none⟩ = some (.bool f) ∧ V.cell? ⟨g, 5, none⟩ = some (.slice A l.length c)) (first | with_reducible exact CC.out _ Zd.out | with_reducible exact CC.out _ Z2.out | with_reducible exact CC.out _ Z8.out)
    (first
      | (go_at_call 18; refine (LO.out _ Bd.out).mono ?_; rintro e w2 ⟨A2, c2, rfl, o2, d2⟩; have Z2 := Lib.hid (Zd.out.below d2 Zd.out.lt); have Y2 := Lib.hid (Yd.out.below d2 Yd.out.lt); have B2 := Lib.hid (Bd.out.trans (d2.mono Bd.out.size)); have O2 := Lib.hid o2; have Z8 := Lib.hid (far6 Z2.out (show g ≠ g + 1 by omega) (.string v) (.string m) (.int .i64 n) (.string t) (.bool f) (.slice A2 l.length c2)); have y0 := Y2.out.cell 0; have y1 := Y2.out.cell 1; have y2 := Y2.out.cell 2; have y3 := Y2.out.cell 3; have y4 := Y2.out.cell 4; have y5 := Y2.out.cell 5; have f0 := Y2.out.frozen 0; have f1 := Y2.out.frozen 1; have f2 := Y2.out.frozen 2; have f3 := Y2.out.frozen 3; have f4 := Y2.out.frozen 4; have f5 := Y2.out.frozen 5))
  all_goals go_wp2_with fail
  all_goals exact bodyPost_ret (results_cell_row (fn := Tryz.f24) rfl _ _ (g + 1) 56 _ (0, 0) _ rfl (row6w Y2.out rfl (.string v) (.string m) (.int .i64 n) (.string t) (.bool f) (.slice A2 l.length c2)) Tryz.underlying56 rfl (by kernel_rfl)) rfl ⟨A2, c2, rfl, Reads.of_own (enc := cF) cF_len (own6 O2.out Y2.out _ _ _ _ _ _), below6 B2.out (by rw [HG.out]; exact Nat.le_succ _) _ _ _ _ _ _⟩
end Go.Proofs.YtanjcjnkppnhcaaGreatDoor

namespace Go.Proofs.YtanjcjnkppnhcaaGreatDoor
open Go Go.RowKit

def fewS (x : Fl) : Bool := decide (x.2.2.size ≤ 400) && decide (x.1.size ≤ 50)
def fewC (x : CP) : Bool := decide (x.1.size ≤ 50) && (decide (x.2.1.size ≤ 100) && (decide (x.2.2.2.1.size ≤ 400) && (decide (x.2.2.2.2.2.length ≤ 40) && x.2.2.2.2.2.all fewS)))
set_option maxRecDepth 100000 in
set_option maxHeartbeats 16000000 in
theorem few_any (w : World) (x : CP) (A : Option Addr) (c : Nat) (hx : Reads 3 cF w (.slice A x.2.2.2.2.2.length c) x.2.2.2.2.2) :
    Calls Tryz.prog 22 #[cpV x A c] w fun e w' => e = .returned (.bool (fewC x)) ∧ Below w.heap.size w w' := by
  obtain ⟨v, m, n, t, f, l⟩ := x
  have hb1 := (Below.refl w.heap.size w).alloc (Nat.le_refl _) (.cells #[.string v, .string m, .int .i64 n, .string t, .bool f, .slice A l.length c] 52)
  have HZ := Lib.hid (Blk.new w 52 #[.string v, .string m, .int .i64 n, .string t, .bool f, .slice A l.length c])
  have HX := Lib.hid fun W (hW : Below w.heap.size w W) => hx.below hW
  have HB := Lib.hid hb1
  have a0 : (0 : Int) ≤ (l.length : Int) := Int.natCast_nonneg _
  have s1 : (0 : Int) ≤ (v.size : Int) := Int.natCast_nonneg _
  have s2 : (0 : Int) ≤ (m.size : Int) := Int.natCast_nonneg _
  have s3 : (0 : Int) ≤ (t.size : Int) := Int.natCast_nonneg _
  obtain ⟨R, hR⟩ : ∃ R, R = fewC (v, m, n, t, f, l) := ⟨_, rfl⟩
  have HR := Lib.hid (show R = (decide (v.size ≤ 50) && (decide (m.size ≤ 100) && (decide (t.size ≤ 400) && (decide (l.length ≤ 40) && l.all fewS)))) from hR)
  rw [← hR]
  unfold cpV
  dsimp only at HX ⊢
  clear hb1 hx hR
  by_cases h1 : v.size ≤ 50
  case neg =>
    have HV := Lib.hid (show false = R by rw [HR.out]; simp [h1])
    have h1i : (50 : Int) < (v.size : Int) := by omega
    clear h1 HR
    go_enter Tryz.func22, Tryz.ntmps22
    go_wp2
    go_ret
    exact ⟨ret_bb HV.out, HB.out⟩
  have h1i : ¬ (50 : Int) < (v.size : Int) := by omega
  by_cases h2 : m.size ≤ 100
  case neg =>
    have HV := Lib.hid (show false = R by rw [HR.out]; simp [h2])
    have h2i : (100 : Int) < (m.size : Int) := by omega
    clear h1 h2 HR
    go_enter Tryz.func22, Tryz.ntmps22
    go_wp2
    go_ret
    exact ⟨ret_bb HV.out, HB.out⟩
  have h2i : ¬ (100 : Int) < (m.size : Int) := by omega
  by_cases h3 : t.size ≤ 400
  case neg =>
    have HV := Lib.hid (show false = R by rw [HR.out]; simp [h3])
    have h3i : (400 : Int) < (t.size : Int) := by omega
    clear h1 h2 h3 HR
    go_enter Tryz.func22, Tryz.ntmps22
    go_wp2
    go_ret
    exact ⟨ret_bb HV.out, HB.out⟩
  have h3i : ¬ (400 : Int) < (t.size : Int) := by omega
  by_cases h4 : l.length ≤ 40
  case neg =>
    have HV := Lib.hid (show false = R by rw [HR.out]; simp [h4])
    have h4i : (40 : Int) < (l.length : Int) := by omega
    clear h1 h2 h3 h4 HR
    go_enter Tryz.func22, Tryz.ntmps22
    go_wp2
    go_ret
    exact ⟨ret_bb HV.out, HB.out⟩
  have h4i : ¬ (40 : Int) < (l.length : Int) := by omega
  have a9 : (l.length : Int) ≤ 40 := by omega
  have HR2 := Lib.hid (show (l.drop 0).all fewS = R by rw [HR.out]; simp [h1, h2, h3, h4])
  obtain ⟨g, hg⟩ : ∃ g, g = w.heap.size := ⟨_, rfl⟩
  rw [← hg] at HZ
  clear h1 h2 h3 h4 HR
  go_enter Tryz.func22, Tryz.ntmps22
  go_wp2_with fail
  rw [← hg]
  clear hg
  go_loopw [3] (fun s3 wr => ∃ k : Nat, k ≤ l.length ∧ s3 = .int .i64 k ∧ Hid ((l.drop k).all fewS = R) ∧ Hid (Blk wr g 52 #[.string v, .string m, .int .i64 n, .string t, .bool f, .slice A l.length c]) ∧ Hid (Below w.heap.size w wr)) (fun s3 _ => l.length - (intOf s3).toNat)
  case atStart => exact ⟨0, Nat.zero_le _, rfl, HR2, HZ, HB⟩
  case round =>
    clear HR2 HZ HB
    obtain ⟨k, hk, rfl, HP, HZ, HB⟩ := hrel
    have k0 : (0 : Int) ≤ (k : Int) := Int.natCast_nonneg _
    have z5 := HZ.out.cell 5
    by_cases hlt : k < l.length
    · obtain ⟨x, hx⟩ : ∃ x, l[k]? = some x := ⟨_, List.getElem?_eq_getElem hlt⟩
      obtain ⟨ad, rfl, c0, c1, c2⟩ := Fils.at_ (HX.out wr HB.out) hx
      have k1 : (k : Int) < (l.length : Int) := by omega
      have HLT := Lib.hid hlt
      have HQ := Lib.hid (show (fewS x && (l.drop (k + 1)).all fewS) = R by have := HP.out; rw [drop_consB hx, List.all_cons] at this; exact this)
      obtain ⟨xv, xc, xt⟩ := x
      dsimp only at c0 c1 c2
      have y1 : (0 : Int) ≤ (xv.size : Int) := Int.natCast_nonneg _
      have y2 : (0 : Int) ≤ (xt.size : Int) := Int.natCast_nonneg _
      clear hx hlt hk
      by_cases q1 : xt.size ≤ 400
      case neg =>
        have HV := Lib.hid (show false = R by rw [← HQ.out]; unfold fewS; simp [q1])
        have q1i : (400 : Int) < (xt.size : Int) := by omega
        clear q1 HQ HP
        go_wp2
        go_ret
        exact ⟨ret_bb HV.out, HB.out⟩
      have q1i : ¬ (400 : Int) < (xt.size : Int) := by omega
      by_cases q2 : xv.size ≤ 50
      case neg =>
        have HV := Lib.hid (show false = R by rw [← HQ.out]; unfold fewS; simp [q2])
        have q2i : (50 : Int) < (xv.size : Int) := by omega
        clear q1 q2 HQ HP
        go_wp2
        go_ret
        exact ⟨ret_bb HV.out, HB.out⟩
      have q2i : ¬ (50 : Int) < (xv.size : Int) := by omega
      have HP2 := Lib.hid (show (l.drop (k + 1)).all fewS = R by rw [← HQ.out]; unfold fewS; simp [q1, q2])
      clear q1 q2 HQ HP
      go_wp2
      go_roundw
      case rel => exact ⟨k + 1, by have := HLT.out; omega, by go_num, HP2, HZ, HB⟩
      case measure => have := HLT.out; simp [intOf]; omega
    · obtain rfl : k = l.length := by omega
      have HV := Lib.hid (show true = R by rw [← HP.out, List.drop_length]; rfl)
      clear hlt
      go_wp2
      go_ret
      exact ⟨ret_bb HV.out, HB.out⟩
end Go.Proofs.YtanjcjnkppnhcaaGreatDoor
