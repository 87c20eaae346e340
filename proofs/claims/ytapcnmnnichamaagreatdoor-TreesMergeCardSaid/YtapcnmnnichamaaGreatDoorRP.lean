/-
  The document's own functions on paths: Parts, Check, Under, Clash: what they answer, at any text.
-/
import Derived.Test.YtapcnmnnichamaaGreatDoorSMem
import Derived.Lib.SplitLaws
import Derived.Laws.OwnMore
import Derived.Laws.Cover1
import Derived.Deep.RegionHeld3
import Derived.Deep.RegionWith
import Derived.WalkLawsBesides
import Derived.Outline
namespace Go.Proofs.YtapcnmnnichamaaGreatDoor
open Go Go.RowKit

theorem ret_b {p q : Bool} (h : p = q) : Ending.returned (.bool p) = .returned (.bool q) := by rw [h]
def gbv (c : Int) : Bool := (decide (97 ≤ c) && decide (c ≤ 122)) || ((decide (48 ≤ c) && decide (c ≤ 57)) || (decide (c = 46) || (decide (c = 45) || decide (c = 95))))
/-- May it be a part of a path? -/
def gp (l : List UInt8) : Bool := !(l == []) && !(l == [46]) && !(l == [46, 46]) && l.all fun c => gbv (c.toNat : Int)
theorem gp_bad {l : List UInt8} {j : Nat} (h : j < l.length) (hb : gbv (l[j].toNat : Int) = false) : gp l = false := by
  have : l.all (fun c => gbv (c.toNat : Int)) = false := by
    rw [Bool.eq_false_iff]
    intro ha
    rw [List.all_eq_true] at ha
    rw [ha _ (List.getElem_mem h)] at hb
    cases hb
  unfold gp
  rw [this, Bool.and_false]
theorem gp_all {l : List UInt8} (h0 : l ≠ []) (h1 : l ≠ [46]) (h2 : l ≠ [46, 46]) (h : ∀ j (hj : j < l.length), gbv (l[j].toNat : Int) = true) : gp l = true := by
  have ha : l.all (fun c => gbv (c.toNat : Int)) = true := by
    rw [List.all_eq_true]
    intro x hx
    obtain ⟨j, hj, rfl⟩ := List.getElem_of_mem hx
    exact h j hj
  unfold gp
  rw [ha]
  simp [h0, h1, h2]
theorem bytes_eq {a b : ByteArray} (h : a.data.toList = b.data.toList) : a = b := by
  obtain ⟨⟨a⟩⟩ := a
  obtain ⟨⟨b⟩⟩ := b
  simpa using h
/-- A text cut at each stroke. -/
def spl : List UInt8 → List (List UInt8)
  | [] => [[]]
  | c :: r => if c = 47 then [] :: spl r else ((c :: (spl r).headD []) :: (spl r).tail)
theorem spl_ne : ∀ l : List UInt8, spl l ≠ []
  | [] => by simp [spl]
  | c :: r => by unfold spl; split <;> simp
theorem spl_len : ∀ l : List UInt8, (spl l).length ≤ l.length + 1
  | [] => by simp [spl]
  | c :: r => by
    have ih := spl_len r
    unfold spl
    split
    · simp; exact ih
    · simp; omega
/-- What Check says of a text. -/
def chk (l : List UInt8) : Int := if 64 < l.length then 4 else if l = [] then 5 else if (spl l).all gp then 0 else 5
theorem chk_long {l : List UInt8} (h : 64 < l.length) : chk l = 4 := if_pos h
theorem chk_empty : chk [] = 5 := rfl
theorem chk_good {l : List UInt8} (h : ¬ 64 < l.length) (h0 : l ≠ []) (ha : (spl l).all gp = true) : chk l = 0 := by unfold chk; rw [if_neg h, if_neg h0, if_pos ha]
theorem chk_bad {l : List UInt8} (h : ¬ 64 < l.length) (h0 : l ≠ []) (ha : (spl l).all gp = false) : chk l = 5 := by unfold chk; rw [if_neg h, if_neg h0, ha]; rfl
def Checked (s : ByteArray) (w : World) (e : Ending) (w' : World) : Prop := e = .returned (.int .i64 (chk s.data.toList)) ∧ Below w.heap.size w w'
theorem size_list (s : ByteArray) : s.data.toList.length = s.size := by rw [Array.length_toList]; rfl
theorem nil_of {s : ByteArray} (h : s.size = 0) : s = ⟨#[]⟩ := bytes_eq (List.eq_nil_of_length_eq_zero (by rw [size_list]; exact h))
theorem not_nil {s : ByteArray} (h : ¬ s.size = 0) : ¬ s.toList = [] ∧ s.toList.isEmpty = false := by
  have h1 : ¬ s.toList = [] := by
    rw [ByteArray.toList_eq]
    intro e
    have := size_list s
    rw [e] at this
    exact h this.symm
  exact ⟨h1, by rw [List.isEmpty_eq_false_iff]; exact h1⟩
/-- Does p lie in the folder d? -/
def und (p d : List UInt8) : Bool := if d = [] then !(p == []) else decide (d.length + 1 < p.length) && (p[d.length]? == some 47 && p.take d.length == d)
theorem und_root {p : List UInt8} (h : p ≠ []) : und p [] = true := by unfold und; rw [if_pos rfl]; simp [h]
theorem und_short {p d : List UInt8} (h : d ≠ []) (hl : ¬ d.length + 1 < p.length) : und p d = false := by unfold und; rw [if_neg h, decide_eq_false hl]; rfl
theorem und_long {p d : List UInt8} (h : d ≠ []) (hl : d.length + 1 < p.length) : und p d = (p[d.length]? == some 47 && p.take d.length == d) := by unfold und; rw [if_neg h, decide_eq_true hl]; rfl
set_option maxHeartbeats 1000000 in
theorem refUnder_any (p d : ByteArray) (w : World) (hp : p.size ≤ 1000000) (hd : d.size ≤ 1000000) : Calls Tryz.prog 49 #[.string p, .string d] w fun e w' => e = .returned (.bool (und p.data.toList d.data.toList)) ∧ w = w' := by
  by_cases hd0 : d.size = 0
  · obtain rfl := nil_of hd0
    by_cases hp0 : p.size = 0
    · obtain rfl := nil_of hp0
      go_enter Tryz.func49, Tryz.ntmps49
      go_wp2
      go_ret
      exact ⟨rfl, rfl⟩
    · obtain ⟨q1, q2⟩ := not_nil hp0
      have HU : Hid (und p.data.toList [] = true) := Lib.hid (und_root (by rw [← ByteArray.toList_eq]; exact q1))
      go_enter Tryz.func49, Tryz.ntmps49
      go_wp2
      go_ret
      exact ⟨ret_b HU.out.symm, rfl⟩
  · obtain ⟨q1, q2⟩ := not_nil hd0
    have hne : d.data.toList ≠ [] := by rw [← ByteArray.toList_eq]; exact q1
    by_cases hl : d.size + 1 < p.size
    · have hli : (d.size : Int) + 1 < (p.size : Int) := by omega
      have hli2 : (d.size : Int) < (p.size : Int) := by omega
      have hlt : d.size < p.size := by omega
      have hU := und_long (p := p.data.toList) hne (by rw [size_list, size_list]; exact hl)
      have hget : p.data.toList[d.data.toList.length]? = some p[d.size] := by rw [size_list]; exact List.getElem?_eq_getElem (by rw [size_list]; exact hlt)
      have htk : (p.extract 0 d.size).data.toList = p.data.toList.take d.data.toList.length := by rw [size_list]; exact Lib.extract_from_zero p d.size
      rw [hget, ← htk] at hU
      have HU := Lib.hid hU
      clear hU hget htk
      by_cases h47 : p[d.size] = 47
      · have b1 : ((p[d.size].toNat : Int) == 47) = true := by rw [h47]; rfl
        have b1' : (p[d.size].toNat : Int) = 47 := by rw [h47]; rfl
        by_cases he : p.extract 0 d.size = d
        · have c1 : (p.extract 0 d.size).toList = d.toList := by rw [he]
          have c2 : ((p.extract 0 d.size).toList == d.toList) = true := by rw [c1]; simp
          have HE : Hid (und p.data.toList d.data.toList = true) := by show und _ _ = true; rw [HU.out, h47, he]; simp
          clear HU h47 he
          go_enter Tryz.func49, Tryz.ntmps49
          go_wp2
          go_ret
          exact ⟨ret_b HE.out.symm, rfl⟩
        · have c1 : ¬ (p.extract 0 d.size).toList = d.toList := by rw [ByteArray.toList_eq, ByteArray.toList_eq]; exact fun e => he (bytes_eq e)
          have c2 : ((p.extract 0 d.size).toList == d.toList) = false := by rw [beq_eq_false_iff_ne]; exact c1
          have HE : Hid (und p.data.toList d.data.toList = false) := by
            show und _ _ = false
            rw [HU.out]
            have : ((p.extract 0 d.size).data.toList == d.data.toList) = false := by rw [beq_eq_false_iff_ne]; exact fun e => he (bytes_eq e)
            rw [this, Bool.and_false]
          clear HU h47 he
          go_enter Tryz.func49, Tryz.ntmps49
          go_wp2
          go_ret
          exact ⟨ret_b HE.out.symm, rfl⟩
      · have b1' : ¬ (p[d.size].toNat : Int) = 47 := fun e => h47 (UInt8.toNat_inj.1 (by show p[d.size].toNat = 47; omega))
        have b1 : ((p[d.size].toNat : Int) == 47) = false := by rw [beq_eq_false_iff_ne]; exact b1'
        have HE : Hid (und p.data.toList d.data.toList = false) := by
          show und _ _ = false
          rw [HU.out]
          have : (some p[d.size] == some (47 : UInt8)) = false := by rw [beq_eq_false_iff_ne]; exact fun e => h47 (Option.some.inj e)
          rw [this, Bool.false_and]
        clear HU h47
        by_cases he : (p.extract 0 d.size).toList = d.toList
        · have c2 : ((p.extract 0 d.size).toList == d.toList) = true := by rw [he]; simp
          go_enter Tryz.func49, Tryz.ntmps49
          go_wp2
          go_ret
          exact ⟨ret_b HE.out.symm, rfl⟩
        · have c2 : ((p.extract 0 d.size).toList == d.toList) = false := by rw [beq_eq_false_iff_ne]; exact he
          go_enter Tryz.func49, Tryz.ntmps49
          go_wp2
          go_ret
          exact ⟨ret_b HE.out.symm, rfl⟩
    · have hli : ¬ (d.size : Int) + 1 < (p.size : Int) := by omega
      have HE : Hid (und p.data.toList d.data.toList = false) := Lib.hid (und_short hne (by rw [size_list, size_list]; exact hl))
      go_enter Tryz.func49, Tryz.ntmps49
      go_wp2
      go_ret
      exact ⟨ret_b HE.out.symm, rfl⟩
theorem ret_i {a b : Int} (h : a = b) : Ending.returned (.int .i64 a) = .returned (.int .i64 b) := by rw [h]
def cls (a b : List UInt8) : Bool := !(a == []) && (!(b == []) && (und a b || und b a))
theorem cls_of {a b : List UInt8} (ha : a ≠ []) (hb : b ≠ []) : cls a b = (und a b || und b a) := by
  have h1 : (a == []) = false := by rw [beq_eq_false_iff_ne]; exact ha
  have h2 : (b == []) = false := by rw [beq_eq_false_iff_ne]; exact hb
  unfold cls
  rw [h1, h2]; rfl
set_option maxHeartbeats 1000000 in
theorem refClash_any (a b : ByteArray) (w : World) (ha : a.size ≤ 1000000) (hb : b.size ≤ 1000000) : Calls Tryz.prog 27 #[.string a, .string b] w fun e w' => e = .returned (.bool (cls a.data.toList b.data.toList)) ∧ w = w' := by
  by_cases ha0 : a.size = 0
  · obtain rfl := nil_of ha0
    go_enter Tryz.func27, Tryz.ntmps27
    go_wp2
    go_ret
    exact ⟨rfl, rfl⟩
  · obtain ⟨q1, q2⟩ := not_nil ha0
    have n1 : a.data.toList ≠ [] := by rw [← ByteArray.toList_eq]; exact q1
    by_cases hb0 : b.size = 0
    · obtain rfl := nil_of hb0
      have HE : Hid (cls a.data.toList [] = false) := by show cls _ [] = false; unfold cls; simp
      go_enter Tryz.func27, Tryz.ntmps27
      go_wp2
      go_ret
      exact ⟨ret_b HE.out.symm, rfl⟩
    · obtain ⟨q3, q4⟩ := not_nil hb0
      have n2 : b.data.toList ≠ [] := by rw [← ByteArray.toList_eq]; exact q3
      have HE : Hid (cls a.data.toList b.data.toList = (und a.data.toList b.data.toList || und b.data.toList a.data.toList)) := Lib.hid (cls_of n1 n2)
      have U1 := Lib.hid fun W => refUnder_any a b W ha hb
      have U2 := Lib.hid fun W => refUnder_any b a W hb ha
      generalize und a.data.toList b.data.toList = x at *
      generalize und b.data.toList a.data.toList = y at *
      cases x with
      | true =>
        go_enter Tryz.func27, Tryz.ntmps27
        go_wp2_with fail
        refine (U1.out _).mono ?_
        rintro e w' ⟨rfl, rfl⟩
        go_wp2_with fail
        go_ret
        exact ⟨ret_b HE.out.symm, rfl⟩
      | false =>
        go_enter Tryz.func27, Tryz.ntmps27
        go_wp2_with fail
        refine (U1.out _).mono ?_
        rintro e w' ⟨rfl, rfl⟩
        go_wp2_with fail
        refine (U2.out _).mono ?_
        rintro e w' ⟨rfl, rfl⟩
        go_wp2_with fail
        go_ret
        exact ⟨ret_b HE.out.symm, rfl⟩
/-- The world is as it was. -/
def SameW (a b : World) : Prop := a = b
end Go.Proofs.YtapcnmnnichamaaGreatDoor
