/-
  The document's own functions on paths: Parts, Check, Under, Clash: what they answer, at any text.
-/
import Derived.Test.YtcnmlgmlijgmhaaDoorSMem
import Derived.Lib.SplitLaws
import Derived.Laws.OwnMore
import Derived.Laws.Cover1
import Derived.Deep.RegionHeld3
import Derived.Deep.RegionWith
import Derived.WalkLawsBesides
import Derived.Outline
namespace Go.Proofs.YtcnmlgmlijgmhaaDoor
open Go Go.RowKit

theorem ret_b {p q : Bool} (h : p = q) : Ending.returned (.bool p) = .returned (.bool q) := by rw [h]
def gbv (c : Int) : Bool := (decide (97 ≤ c) && decide (c ≤ 122)) || ((decide (48 ≤ c) && decide (c ≤ 57)) || (decide (c = 46) || (decide (c = 45) || decide (c = 95))))
/-- May it be a part of a path? -/
def gp (l : List UInt8) : Bool := !(l == []) && !(l == [46]) && !(l == [46, 46]) && l.all fun c => gbv (c.toNat : Int)
theorem gp_bad {l : List UInt8} {j : Nat} (h : j < l.length) (hb : gbv (l[j].toNat : Int) = false) : gp l = false := by
  have : l.all (fun c => gbv (c.toNat : Int)) = false := by
    rw [Bool.eq_false_iff]
    intro ha
    rw [List.all_eq_true] at ha
    rw [ha _ (List.getElem_mem h)] at hb
    cases hb
  unfold gp
  rw [this, Bool.and_false]
theorem gp_all {l : List UInt8} (h0 : l ≠ []) (h1 : l ≠ [46]) (h2 : l ≠ [46, 46]) (h : ∀ j (hj : j < l.length), gbv (l[j].toNat : Int) = true) : gp l = true := by
  have ha : l.all (fun c => gbv (c.toNat : Int)) = true := by
    rw [List.all_eq_true]
    intro x hx
    obtain ⟨j, hj, rfl⟩ := List.getElem_of_mem hx
    exact h j hj
  unfold gp
  rw [ha]
  simp [h0, h1, h2]
theorem bytes_eq {a b : ByteArray} (h : a.data.toList = b.data.toList) : a = b := by
  obtain ⟨⟨a⟩⟩ := a
  obtain ⟨⟨b⟩⟩ := b
  simpa using h
/-- A text cut at each stroke. -/
def spl : List UInt8 → List (List UInt8)
  | [] => [[]]
  | c :: r => if c = 47 then [] :: spl r else ((c :: (spl r).headD []) :: (spl r).tail)
theorem spl_ne : ∀ l : List UInt8, spl l ≠ []
  | [] => by simp [spl]
  | c :: r => by unfold spl; split <;> simp
theorem spl_len : ∀ l : List UInt8, (spl l).length ≤ l.length + 1
  | [] => by simp [spl]
  | c :: r => by
    have ih := spl_len r
    unfold spl
    split
    · simp; exact ih
    · simp; omega
/-- What Check says of a text. -/
def chk (l : List UInt8) : Int := if 64 < l.length then 4 else if l = [] then 5 else if (spl l).all gp then 0 else 5
theorem chk_long {l : List UInt8} (h : 64 < l.length) : chk l = 4 := if_pos h
theorem chk_empty : chk [] = 5 := rfl
theorem chk_good {l : List UInt8} (h : ¬ 64 < l.length) (h0 : l ≠ []) (ha : (spl l).all gp = true) : chk l = 0 := by unfold chk; rw [if_neg h, if_neg h0, if_pos ha]
theorem chk_bad {l : List UInt8} (h : ¬ 64 < l.length) (h0 : l ≠ []) (ha : (spl l).all gp = false) : chk l = 5 := by unfold chk; rw [if_neg h, if_neg h0, ha]; rfl
def Checked (s : ByteArray) (w : World) (e : Ending) (w' : World) : Prop := e = .returned (.int .i64 (chk s.data.toList)) ∧ Below w.heap.size w w'
theorem size_list (s : ByteArray) : s.data.toList.length = s.size := by rw [Array.length_toList]; rfl
theorem nil_of {s : ByteArray} (h : s.size = 0) : s = ⟨#[]⟩ := bytes_eq (List.eq_nil_of_length_eq_zero (by rw [size_list]; exact h))
theorem not_nil {s : ByteArray} (h : ¬ s.size = 0) : ¬ s.toList = [] ∧ s.toList.isEmpty = false := by
  have h1 : ¬ s.toList = [] := by
    rw [ByteArray.toList_eq]
    intro e
    have := size_list s
    rw [e] at this
    exact h this.symm
  exact ⟨h1, by rw [List.isEmpty_eq_false_iff]; exact h1⟩
/-- Does p lie in the folder d? -/
def und (p d : List UInt8) : Bool := if d = [] then !(p == []) else decide (d.length + 1 < p.length) && (p[d.length]? == some 47 && p.take d.length == d)
theorem und_root {p : List UInt8} (h : p ≠ []) : und p [] = true := by unfold und; rw [if_pos rfl]; simp [h]
theorem und_short {p d : List UInt8} (h : d ≠ []) (hl : ¬ d.length + 1 < p.length) : und p d = false := by unfold und; rw [if_neg h, decide_eq_false hl]; rfl
theorem und_long {p d : List UInt8} (h : d ≠ []) (hl : d.length + 1 < p.length) : und p d = (p[d.length]? == some 47 && p.take d.length == d) := by unfold und; rw [if_neg h, decide_eq_true hl]; rfl
set_option maxHeartbeats 1000000 in
theorem refUnder_any (p d : ByteArray) (w : World) (hp : p.size ≤ 1000000) (hd : d.size ≤ 1000000) : Calls Tryd.prog 82 #[.string p, .string d] w fun e w' => e = .returned (.bool (und p.data.toList d.data.toList)) ∧ w = w' := by
  by_cases hd0 : d.size = 0
  · obtain rfl := nil_of hd0
    by_cases hp0 : p.size = 0
    · obtain rfl := nil_of hp0
      go_enter Tryd.func82, Tryd.ntmps82
      go_wp2
      go_ret
      exact ⟨rfl, rfl⟩
    · obtain ⟨q1, q2⟩ := not_nil hp0
      have HU : Hid (und p.data.toList [] = true) := Lib.hid (und_root (by rw [← ByteArray.toList_eq]; exact q1))
      go_enter Tryd.func82, Tryd.ntmps82
      go_wp2
      go_ret
      exact ⟨ret_b HU.out.symm, rfl⟩
  · obtain ⟨q1, q2⟩ := not_nil hd0
    have hne : d.data.toList ≠ [] := by rw [← ByteArray.toList_eq]; exact q1
    by_cases hl : d.size + 1 < p.size
    · have hli : (d.size : Int) + 1 < (p.size : Int) := by omega
      have hli2 : (d.size : Int) < (p.size : Int) := by omega
      have hlt : d.size < p.size := by omega
      have hU := und_long (p := p.data.toList) hne (by rw [size_list, size_list]; exact hl)
      have hget : p.data.toList[d.data.toList.length]? = some p[d.size] := by rw [size_list]; exact List.getElem?_eq_getElem (by rw [size_list]; exact hlt)
      have htk : (p.extract 0 d.size).data.toList = p.data.toList.take d.data.toList.length := by rw [size_list]; exact Lib.extract_from_zero p d.size
      rw [hget, ← htk] at hU
      have HU := Lib.hid hU
      clear hU hget htk
      by_cases h47 : p[d.size] = 47
      · have b1 : ((p[d.size].toNat : Int) == 47) = true := by rw [h47]; rfl
        have b1' : (p[d.size].toNat : Int) = 47 := by rw [h47]; rfl
        by_cases he : p.extract 0 d.size = d
        · have c1 : (p.extract 0 d.size).toList = d.toList := by rw [he]
          have c2 : ((p.extract 0 d.size).toList == d.toList) = true := by rw [c1]; simp
          have HE : Hid (und p.data.toList d.data.toList = true) := by show und _ _ = true; rw [HU.out, h47, he]; simp
          clear HU h47 he
          go_enter Tryd.func82, Tryd.ntmps82
          go_wp2
          go_ret
          exact ⟨ret_b HE.out.symm, rfl⟩
        · have c1 : ¬ (p.extract 0 d.size).toList = d.toList := by rw [ByteArray.toList_eq, ByteArray.toList_eq]; exact fun e => he (bytes_eq e)
          have c2 : ((p.extract 0 d.size).toList == d.toList) = false := by rw [beq_eq_false_iff_ne]; exact c1
          have HE : Hid (und p.data.toList d.data.toList = false) := by
            show und _ _ = false
            rw [HU.out]
            have : ((p.extract 0 d.size).data.toList == d.data.toList) = false := by rw [beq_eq_false_iff_ne]; exact fun e => he (bytes_eq e)
            rw [this, Bool.and_false]
          clear HU h47 he
          go_enter Tryd.func82, Tryd.ntmps82
          go_wp2
          go_ret
          exact ⟨ret_b HE.out.symm, rfl⟩
      · have b1' : ¬ (p[d.size].toNat : Int) = 47 := fun e => h47 (UInt8.toNat_inj.1 (by show p[d.size].toNat = 47; omega))
        have b1 : ((p[d.size].toNat : Int) == 47) = false := by rw [beq_eq_false_iff_ne]; exact b1'
        have HE : Hid (und p.data.toList d.data.toList = false) := by
          show und _ _ = false
          rw [HU.out]
          have : (some p[d.size] == some (47 : UInt8)) = false := by rw [beq_eq_false_iff_ne]; exact fun e => h47 (Option.some.inj e)
          rw [this, Bool.false_and]
        clear HU h47
        by_cases he : (p.extract 0 d.size).toList = d.toList
        · have c2 : ((p.extract 0 d.size).toList == d.toList) = true := by rw [he]; simp
          go_enter Tryd.func82, Tryd.ntmps82
          go_wp2
          go_ret
          exact ⟨ret_b HE.out.symm, rfl⟩
        · have c2 : ((p.extract 0 d.size).toList == d.toList) = false := by rw [beq_eq_false_iff_ne]; exact he
          go_enter Tryd.func82, Tryd.ntmps82
          go_wp2
          go_ret
          exact ⟨ret_b HE.out.symm, rfl⟩
    · have hli : ¬ (d.size : Int) + 1 < (p.size : Int) := by omega
      have HE : Hid (und p.data.toList d.data.toList = false) := Lib.hid (und_short hne (by rw [size_list, size_list]; exact hl))
      go_enter Tryd.func82, Tryd.ntmps82
      go_wp2
      go_ret
      exact ⟨ret_b HE.out.symm, rfl⟩
theorem ret_i {a b : Int} (h : a = b) : Ending.returned (.int .i64 a) = .returned (.int .i64 b) := by rw [h]
def cls (a b : List UInt8) : Bool := !(a == []) && (!(b == []) && (und a b || und b a))
theorem cls_of {a b : List UInt8} (ha : a ≠ []) (hb : b ≠ []) : cls a b = (und a b || und b a) := by
  have h1 : (a == []) = false := by rw [beq_eq_false_iff_ne]; exact ha
  have h2 : (b == []) = false := by rw [beq_eq_false_iff_ne]; exact hb
  unfold cls
  rw [h1, h2]; rfl
set_option maxHeartbeats 1000000 in
theorem refClash_any (a b : ByteArray) (w : World) (ha : a.size ≤ 1000000) (hb : b.size ≤ 1000000) : Calls Tryd.prog 73 #[.string a, .string b] w fun e w' => e = .returned (.bool (cls a.data.toList b.data.toList)) ∧ w = w' := by
  by_cases ha0 : a.size = 0
  · obtain rfl := nil_of ha0
    go_enter Tryd.func73, Tryd.ntmps73
    go_wp2
    go_ret
    exact ⟨rfl, rfl⟩
  · obtain ⟨q1, q2⟩ := not_nil ha0
    have n1 : a.data.toList ≠ [] := by rw [← ByteArray.toList_eq]; exact q1
    by_cases hb0 : b.size = 0
    · obtain rfl := nil_of hb0
      have HE : Hid (cls a.data.toList [] = false) := by show cls _ [] = false; unfold cls; simp
      go_enter Tryd.func73, Tryd.ntmps73
      go_wp2
      go_ret
      exact ⟨ret_b HE.out.symm, rfl⟩
    · obtain ⟨q3, q4⟩ := not_nil hb0
      have n2 : b.data.toList ≠ [] := by rw [← ByteArray.toList_eq]; exact q3
      have HE : Hid (cls a.data.toList b.data.toList = (und a.data.toList b.data.toList || und b.data.toList a.data.toList)) := Lib.hid (cls_of n1 n2)
      have U1 := Lib.hid fun W => refUnder_any a b W ha hb
      have U2 := Lib.hid fun W => refUnder_any b a W hb ha
      generalize und a.data.toList b.data.toList = x at *
      generalize und b.data.toList a.data.toList = y at *
      cases x with
      | true =>
        go_enter Tryd.func73, Tryd.ntmps73
        go_wp2_with fail
        refine (U1.out _).mono ?_
        rintro e w' ⟨rfl, rfl⟩
        go_wp2_with fail
        go_ret
        exact ⟨ret_b HE.out.symm, rfl⟩
      | false =>
        go_enter Tryd.func73, Tryd.ntmps73
        go_wp2_with fail
        refine (U1.out _).mono ?_
        rintro e w' ⟨rfl, rfl⟩
        go_wp2_with fail
        refine (U2.out _).mono ?_
        rintro e w' ⟨rfl, rfl⟩
        go_wp2_with fail
        go_ret
        exact ⟨ret_b HE.out.symm, rfl⟩
theorem good_any (c : Int) (w : World) (h0 : 0 ≤ c) (h1 : c ≤ 255) : Calls Tryd.prog 72 #[.int .u8 c] w fun e w' => e = .returned (.bool (gbv c)) ∧ w = w' := by
  by_cases h46 : c = 46
  · subst h46
    have hg : Hid (true = gbv 46) := by show true = gbv 46; rfl
    go_enter Tryd.func72, Tryd.ntmps72
    go_wp2
    all_goals
      go_ret
      exact ⟨ret_b hg.out, rfl⟩
  · by_cases h45 : c = 45
    · subst h45
      have hg : Hid (true = gbv 45) := by show true = gbv 45; rfl
      go_enter Tryd.func72, Tryd.ntmps72
      go_wp2
      all_goals
        go_ret
        exact ⟨ret_b hg.out, rfl⟩
    · by_cases h95 : c = 95
      · subst h95
        have hg : Hid (true = gbv 95) := by show true = gbv 95; rfl
        go_enter Tryd.func72, Tryd.ntmps72
        go_wp2
        all_goals
          go_ret
          exact ⟨ret_b hg.out, rfl⟩
      · have b1 : (c == 46) = false := by rw [beq_eq_false_iff_ne]; exact h46
        have b2 : (c == 45) = false := by rw [beq_eq_false_iff_ne]; exact h45
        have b3 : (c == 95) = false := by rw [beq_eq_false_iff_ne]; exact h95
        go_enter Tryd.func72, Tryd.ntmps72
        go_wp2
        all_goals
          go_ret
          exact ⟨ret_b (by unfold gbv; rw [Bool.eq_iff_iff]; simp only [Bool.or_eq_true, Bool.and_eq_true, decide_eq_true_eq, Bool.false_eq_true, true_iff, false_iff] <;> omega), rfl⟩
theorem spl_snoc : ∀ (l : List UInt8) (f : List (List UInt8)) (x : List UInt8) (c : UInt8), spl l = f ++ [x] → spl (l ++ [c]) = if c = 47 then f ++ [x] ++ [[]] else f ++ [x ++ [c]]
  | [], f, x, c, h => by
    have h' : [[]] = f ++ [x] := h
    cases f with
    | nil => simp at h'; subst h'; by_cases hc : c = 47 <;> simp [spl, hc]
    | cons a f => simp at h'
  | d :: r, f, x, c, h => by
    rw [List.cons_append]
    by_cases hd : d = 47
    · rw [spl, if_pos hd] at h ⊢
      cases f with
      | nil =>
        have h2 : spl r = [] := (List.cons.inj h).2
        exact absurd h2 (spl_ne r)
      | cons a f =>
        rw [List.cons_append, List.cons.injEq] at h
        obtain ⟨rfl, h2⟩ := h
        rw [spl_snoc r f x c h2]
        split <;> rfl
    · rw [spl, if_neg hd] at h ⊢
      cases hs : spl r with
      | nil => exact absurd hs (spl_ne r)
      | cons y ys =>
        rw [hs] at h
        simp only [List.headD_cons, List.tail_cons] at h
        cases f with
        | nil =>
          rw [List.nil_append, List.cons.injEq] at h
          obtain ⟨rfl, rfl⟩ := h
          rw [spl_snoc r [] y c hs]; split <;> rfl
        | cons a f =>
          rw [List.cons_append, List.cons.injEq] at h
          obtain ⟨rfl, h2⟩ := h
          rw [spl_snoc r (y :: f) x c (by rw [hs, h2]; rfl)]
          split <;> rfl
/-- Bytes as a string. -/
def mk (l : List UInt8) : ByteArray := ⟨l.toArray⟩
theorem mk_toList (s : ByteArray) : mk s.data.toList = s := by cases s; simp [mk]
theorem toList_mk (l : List UInt8) : (mk l).data.toList = l := by simp [mk]
theorem mk_size (l : List UInt8) : (mk l).size = l.length := by rw [← size_list, toList_mk]
theorem take_one (l : List UInt8) (k : Nat) (h : k < l.length) : l.take (k + 1) = l.take k ++ [l[k]] := by
  rw [List.take_succ_eq_append_getElem h]
theorem extract_mk (s : ByteArray) (a b : Nat) : s.extract a b = mk ((s.data.toList.take b).drop a) := by
  apply bytes_eq
  rw [ByteArray.data_extract, Array.toList_extract, List.extract_eq_take_drop, toList_mk]
  simp [List.drop_take]
/-- A text's parts, put together again with strokes. -/
def jn : List (List UInt8) → List UInt8
  | [] => []
  | [x] => x
  | x :: y :: r => x ++ 47 :: jn (y :: r)
theorem jn_front (c : UInt8) (y : List UInt8) (ys : List (List UInt8)) : jn ((c :: y) :: ys) = c :: jn (y :: ys) := by
  cases ys <;> rfl
theorem jn_spl : ∀ l : List UInt8, jn (spl l) = l
  | [] => rfl
  | c :: r => by
    have ih := jn_spl r
    cases hs : spl r with
    | nil => exact absurd hs (spl_ne r)
    | cons y ys =>
      rw [hs] at ih
      by_cases hc : c = 47
      · subst hc
        rw [spl, if_pos rfl, hs]
        show [] ++ 47 :: jn (y :: ys) = _
        rw [ih]; rfl
      · rw [spl, if_neg hc, hs]
        show jn ((c :: y) :: ys) = _
        rw [jn_front, ih]
theorem jn_snoc (x : List UInt8) : ∀ f : List (List UInt8), f ≠ [] → jn (f ++ [x]) = jn f ++ 47 :: x
  | [], h => absurd rfl h
  | [y], _ => rfl
  | y :: z :: r, _ => by
    have ih := jn_snoc x (z :: r) (by simp)
    show y ++ 47 :: jn ((z :: r) ++ [x]) = (y ++ 47 :: jn (z :: r)) ++ 47 :: x
    rw [ih]; simp
theorem jn_len : ∀ f : List (List UInt8), ∀ x ∈ f, x.length ≤ (jn f).length
  | [], x, h => by cases h
  | [y], x, h => by simp at h; subst h; exact Nat.le_refl _
  | y :: z :: r, x, h => by
    show x.length ≤ (y ++ 47 :: jn (z :: r)).length
    rw [List.length_append, List.length_cons]
    rcases List.mem_cons.1 h with rfl | h
    · omega
    · have := jn_len (z :: r) x h
      omega
theorem spl_part {l x : List UInt8} (h : x ∈ spl l) : x.length ≤ l.length := by
  have := jn_len (spl l) x h
  rwa [jn_spl] at this
theorem row_set {w : World} {g : Nat} {cur : Array Value} {t : TypeId} (h : w.heap[g]? = some (.cells cur t (0, 0))) (k : Nat) (v : Value) : (w.setCell ⟨g, k, none⟩ v).heap[g]? = some (.cells (cur.setIfInBounds k v) t (0, 0)) := by
  simp [World.setCell, Array.getElem?_modify, h]
/-- A row of the call's own, its last cell: what is in it; what becomes of the row when it is written. -/
theorem own_last {w : World} {B n : Nat} {v : Value} {xs : List Value} {u : Value} (h : w.ownsRow B 9 1 v (n + 1) (xs ++ [u])) :
    ∃ g cap, v = .slice (some ⟨g, 0, none⟩) (n + 1) cap ∧ n + 1 ≤ cap ∧ cap ≤ maxLen ∧ B ≤ g ∧ w.cell? ⟨g, n, none⟩ = some u ∧ w.frozen? ⟨g, n, none⟩ = false ∧
      ∀ u', (w.setCell ⟨g, n, none⟩ u').ownsRow B 9 1 v (n + 1) (xs ++ [u']) := by
  obtain ⟨hl, h⟩ := h
  rcases h with ⟨_, h⟩ | ⟨g, cap, cur, rfl, hB, hh, hn, hm, hs, ht⟩
  · omega
  simp only [Nat.mul_one] at hl hs ht
  have hxl : xs.length = n := by simpa using hl
  have hcl : cur.toList.length = cap := by rw [Array.length_toList]; exact hs
  have hcell : cur[n]? = some u := by
    have : (cur.toList.take (n + 1))[n]? = some u := by rw [ht, List.getElem?_append_right (by omega), hxl]; simp
    rw [List.getElem?_take, if_pos (by omega)] at this
    rwa [Array.getElem?_toList] at this
  refine ⟨g, cap, rfl, hn, hm, hB, (cell_of_row w g n cur 9 (0, 0) hh).trans hcell, by simp [World.frozen?, hh], fun u' => ⟨by simpa using hl, .inr ⟨g, cap, cur.setIfInBounds n u', rfl, hB, row_set hh n u', hn, hm, by simpa using hs, ?_⟩⟩⟩
  rw [Nat.mul_one, Array.toList_setIfInBounds, List.take_set, ht, List.set_append_right _ _ (by omega), hxl]
  simp
/-- Texts in new memory of the call's own, or nil. -/
def StrsTo (B : Nat) (w : World) (ls : List ByteArray) (e : Ending) (w' : World) : Prop :=
  ∃ v, e = .returned v ∧ w'.ownsRow B 9 1 v ls.length (ls.map Value.string) ∧ Below w.heap.size w w'
/-- The state of the cutting behind k bytes. -/
def Cut (p : ByteArray) (k n : Nat) (f : List ByteArray) (x : ByteArray) : Prop := f.length = n ∧ n ≤ k ∧ x.size ≤ k ∧ spl (p.data.toList.take k) = f.map (·.data.toList) ++ [x.data.toList]
theorem cut_zero (p : ByteArray) : Cut p 0 0 [] ⟨#[]⟩ := ⟨rfl, Nat.le_refl _, Nat.le_refl _, rfl⟩
theorem cut_stroke {p : ByteArray} {k n : Nat} {f : List ByteArray} {x : ByteArray} (h : Cut p k n f x) (hk : k < p.data.toList.length) (hc : p.data.toList[k] = 47) : Cut p (k + 1) (n + 1) (f ++ [x]) ⟨#[]⟩ := by
  obtain ⟨h1, h2, h3, h4⟩ := h
  refine ⟨by simp [h1], by omega, Nat.zero_le _, ?_⟩
  rw [take_one _ _ hk, spl_snoc _ _ _ _ h4, if_pos hc]
  simp
theorem cut_byte {p : ByteArray} {k n : Nat} {f : List ByteArray} {x : ByteArray} (h : Cut p k n f x) (hk : k < p.data.toList.length) (hc : ¬ p.data.toList[k] = 47) : Cut p (k + 1) n f (x ++ p.extract k (k + 1)) := by
  obtain ⟨h1, h2, h3, h4⟩ := h
  have e : (p.extract k (k + 1)).data.toList = [p.data.toList[k]] := by
    rw [extract_mk, toList_mk, take_one _ _ hk, List.drop_append_of_le_length (by rw [List.length_take]; omega), List.drop_eq_nil_of_le (by rw [List.length_take]; omega)]; rfl
  have e2 : (x ++ p.extract k (k + 1)).data.toList = x.data.toList ++ [p.data.toList[k]] := by rw [ByteArray.data_append, Array.toList_append, e]
  refine ⟨h1, by omega, ?_, ?_⟩
  · rw [← size_list, e2, List.length_append, size_list]; simp; omega
  · rw [take_one _ _ hk, spl_snoc _ _ _ _ h4, if_neg hc, e2]
theorem refParts_none (w : World) : Calls Tryd.prog 71 #[.string ⟨#[]⟩] w fun e w' => e = .returned (.slice none 0 0) ∧ w = w' := by
  go_enter Tryd.func71, Tryd.ntmps71
  go_wp2
  go_ret
  exact ⟨rfl, rfl⟩
set_option maxRecDepth 100000 in
set_option maxHeartbeats 2000000 in
theorem refParts_any (p : ByteArray) (w : World) (hp : p.size ≤ 1000000) (hne : ¬ p.size = 0) :
    Calls Tryd.prog 71 #[.string p] w (StrsTo w.heap.size w ((spl p.data.toList).map mk)) := by
  obtain ⟨i0, hi, hz0, hz1, hz2⟩ := info_parts strInfo
  obtain ⟨q1, q2⟩ := not_nil hne
  have HSZ := Lib.hid (size_list p)
  go_enter Tryd.func71, Tryd.ntmps71
  go_wp2_with fail
  go_loopw [3, 4] (fun v i wr => ∃ (k n : Nat) (f : List ByteArray) (x : ByteArray), k ≤ p.size ∧ i = .int .i64 k ∧ Hid (Cut p k n f x) ∧ wr.ownsRow w.heap.size 9 1 v (n + 1) (f.map Value.string ++ [.string x]) ∧ Below w.heap.size w wr) (fun _ i _ => p.size - (intOf i).toNat)
  case atStart =>
    refine ⟨0, 0, [], ⟨#[]⟩, Nat.zero_le _, rfl, Lib.hid (cut_zero p), ?_, (Below.refl _ _).alloc (Nat.le_refl _) _⟩
    exact ⟨rfl, .inr ⟨w.heap.size, 1, #[.string ⟨#[]⟩], rfl, Nat.le_refl _, heap_alloc_new w _, Nat.le_refl _, by decide, rfl, rfl⟩⟩
  case round =>
    obtain ⟨k, n, f, x, hk, rfl, hat, hown, hb⟩ := hrel
    by_cases hlt : k < p.size
    · have hl : k < p.data.toList.length := by rw [HSZ.out]; exact hlt
      have hnk : n ≤ k := hat.out.2.1
      have hxk : x.size ≤ k := hat.out.2.2.1
      by_cases hc : p[k] = 47
      · have hc' : p.data.toList[k] = 47 := hc
        have HE := Lib.hid (cut_stroke hat.out hl hc')
        have ht : ((p[k].toNat : Int) == 47) = true := by rw [hc]; rfl
        clear hat hc hc'
        go_wp2_with (at_builtin; refine wpList_append_own _ rfl _ _ 46 rfl w.heap.size 9 i0 (.string { data := #[] }) 1 16 Tryd.underlying46 hi hz0 hz1 hz2 rfl (by decide) _ _ _ rfl (hown.alloc _) ⟨wr.heap.size, 0, none⟩ 1 1 [.string ⟨#[]⟩] rfl ?c1 ?c2 ?c3 ?c4 ?c5 ?c6 ?_)
        case c1 => rfl
        case c2 => exact cell_one_new _ _ _
        case c3 => intro u hu; simp at hu; subst hu; rfl
        case c4 => unfold maxLen; omega
        case c5 => omega
        case c6 => have := hb.size; simp; omega
        intro v' w2 hown2 hg2 _
        have hb2 := (hb.alloc hb.size _).grown hg2 (by have := hb.size; simp; omega) fun z hz => (hown.lt z hz).1
        clear hg2 hown hb
        go_wp2
        go_roundw
        case rel =>
          refine ⟨k + 1, n + 1, f ++ [x], ⟨#[]⟩, by omega, by go_num, HE, ?_, hb2⟩
          simpa using hown2
        case measure => simp [intOf]; omega
      · have hc' : ¬ p.data.toList[k] = 47 := hc
        have HE := Lib.hid (cut_byte hat.out hl hc')
        have ht : ((p[k].toNat : Int) == 47) = false := by
          rw [beq_eq_false_iff_ne]
          intro e
          exact hc (UInt8.toNat_inj.1 (show p[k].toNat = 47 by omega))
        obtain ⟨g, cap, rfl, hn1, hmx, hBg, hcell, hfz, hset⟩ := own_last hown
        have HS := Lib.hid hset
        unfold maxLen at hmx
        clear hat hc hc' hset hown
        have hkp : k + 1 ≤ p.size := hlt
        generalize hm : n + 1 = m at *
        have HM := Lib.hid hm
        have z1 : (0 : Int) ≤ (n : Int) := Int.natCast_nonneg _
        have z2 : (n : Int) < (m : Int) := by omega
        have z3 : IntKind.i64.wrap ((m : Int) - 1) = (n : Int) := by rw [IntKind.wrap_i64]; omega
        have z4 : (0 : Int) ≤ (k : Int) := Int.natCast_nonneg _
        have z5 : IntKind.i64.wrap ((k : Int) + 1) = ((k + 1 : Nat) : Int) := by rw [IntKind.wrap_i64]; omega
        have z6 : (k : Int) ≤ ((k + 1 : Nat) : Int) := by omega
        have z7 : ((k + 1 : Nat) : Int) ≤ (p.size : Int) := by omega
        have z8 : k ≤ k + 1 := by omega
        clear hm
        go_wp2_with fail
        go_region
        all_goals go_wp2
        all_goals go_roundw
        case rel =>
          refine ⟨k + 1, n, f, x ++ p.extract k (k + 1), hkp, by go_num, HE, ?_, ?_⟩
          · rw [HM.out]
            have h2 := HS.out (.string (x ++ p.extract k (k + 1)))
            exact h2
          · exact (hb.setCell (p := ⟨g, n, none⟩) hBg _).drew
        case measure => simp [intOf]; omega
    · obtain rfl : k = p.size := by omega
      have hall : p.data.toList.take p.size = p.data.toList := List.take_of_length_le (by rw [HSZ.out]; omega)
      have hat := hat.out
      unfold Cut at hat
      rw [hall] at hat
      have HR : Hid ((spl p.data.toList).map mk = f ++ [x]) := by
        show (spl p.data.toList).map mk = f ++ [x]
        rw [hat.2.2.2, List.map_append, List.map_map]
        congr 1
        · rw [List.map_congr_left (g := id) (fun y _ => by show mk _ = _; exact mk_toList y), List.map_id]
      have HN := Lib.hid hat.1
      clear hat hall
      go_wp2
      go_ret
      refine ⟨_, rfl, ?_, hb⟩
      rw [HR.out, List.length_append, HN.out]
      simpa using hown
/-- A row of texts that isn't empty: where it lies; what its cells hold. -/
theorem own_cells {w : World} {B : Nat} {v : Value} {ls : List ByteArray} (h : w.ownsRow B 9 1 v ls.length (ls.map Value.string)) (h0 : 0 < ls.length) :
    ∃ g cap, v = .slice (some ⟨g, 0, none⟩) ls.length cap ∧ ls.length ≤ cap ∧ cap ≤ maxLen ∧ g < w.heap.size ∧ ∀ k x, ls[k]? = some x → w.cell? ⟨g, k, none⟩ = some (.string x) := by
  obtain ⟨hl, h⟩ := h
  rcases h with ⟨_, h⟩ | ⟨g, cap, cur, rfl, hB, hh, hn, hm, hs, ht⟩
  · omega
  simp only [Nat.mul_one] at hl hs ht
  refine ⟨g, cap, rfl, hn, hm, (Array.getElem?_eq_some_iff.1 hh).1, fun k x hk => (cell_of_row w g k cur 9 (0, 0) hh).trans ?_⟩
  have hlt := (List.getElem?_eq_some_iff.1 hk).1
  have : (cur.toList.take ls.length)[k]? = some (.string x) := by rw [ht, List.getElem?_map, hk]; rfl
  rw [List.getElem?_take, if_pos hlt] at this
  rwa [Array.getElem?_toList] at this
/-- The world is as it was. -/
def SameW (a b : World) : Prop := a = b
theorem refCheck_long (p : ByteArray) (w : World) (hp : p.size ≤ 9223372036854775807) (h : 64 < p.size) : Calls Tryd.prog 45 #[.string p] w fun e w' => e = .returned (.int .i64 4) ∧ Below w.heap.size w w' := by
  have hi : (64 : Int) < (p.size : Int) := by omega
  go_enter Tryd.func45, Tryd.ntmps45
  go_wp2
  go_ret
  exact ⟨rfl, Below.refl _ _⟩
theorem refCheck_none (w : World) : Calls Tryd.prog 45 #[.string ⟨#[]⟩] w fun e w' => e = .returned (.int .i64 5) ∧ Below w.heap.size w w' := by
  go_enter Tryd.func45, Tryd.ntmps45
  go_wp2_with (go_at_call 71; refine (refParts_none _).mono ?_; rintro e w' ⟨rfl, rfl⟩)
  go_ret
  exact ⟨rfl, Below.refl _ _⟩
theorem ret_5 {p : ByteArray} {k : Nat} {x : List UInt8} (h : ¬ 64 < p.data.toList.length) (h0 : p.data.toList ≠ []) (hk : (spl p.data.toList)[k]? = some x) (hg : gp x = false) : chk p.data.toList = 5 :=
  chk_bad h h0 (by
    rw [Bool.eq_false_iff]
    intro ha
    have := List.all_eq_true.1 ha x (List.mem_of_getElem? hk)
    rw [hg] at this
    cases this)
set_option maxRecDepth 100000 in
set_option maxHeartbeats 4000000 in
theorem refCheck_main (p : ByteArray) (w : World) (h : ¬ 64 < p.size) (hne : ¬ p.size = 0) : Calls Tryd.prog 45 #[.string p] w (Checked p w) := by
  have hi : ¬ (64 : Int) < (p.size : Int) := by omega
  have hi2 : (p.size : Int) ≤ 64 := by omega
  obtain ⟨n, hn⟩ : ∃ n, (spl p.data.toList).length = n := ⟨_, rfl⟩
  have hsz := size_list p
  have hn1 : n ≤ 65 := by have := spl_len p.data.toList; omega
  have hn0 : 0 < n := by have := List.length_pos_iff.2 (spl_ne p.data.toList); omega
  have hnz : ((n : Int) == 0) = false := by rw [beq_eq_false_iff_ne]; omega
  have B5 : Hid (∀ (k : Nat) (x : List UInt8), (spl p.data.toList)[k]? = some x → gp x = false → chk p.data.toList = 5) := Lib.hid fun k x hk hg => ret_5 (by omega) (fun e => hne (by rw [← hsz, e]; rfl)) hk hg
  have B0 : Hid ((spl p.data.toList).all gp = true → chk p.data.toList = 0) := Lib.hid fun ha => chk_good (by omega) (fun e => hne (by rw [← hsz, e]; rfl)) ha
  have PL : Hid (∀ x ∈ spl p.data.toList, x.length ≤ 64) := Lib.hid fun x hx => by have := spl_part hx; omega
  go_enter Tryd.func45, Tryd.ntmps45
  go_wp2_with fail
  refine (refParts_any p w (by omega) hne).mono ?_
  rintro e w1 ⟨v, rfl, hown, hb1⟩
  obtain ⟨g, cap, rfl, hcap, hmx, hg, hcs⟩ := own_cells hown (by rw [List.length_map, hn]; exact hn0)
  rw [List.length_map, hn] at hcap ⊢
  have HN := Lib.hid hn
  have HB := Lib.hid hb1
  have HC : Hid (∀ (k : Nat) (x : List UInt8), (spl p.data.toList)[k]? = some x → w1.cell? ⟨g, k, none⟩ = some (.string (mk x))) := Lib.hid fun k x hk => hcs k (mk x) (by rw [List.getElem?_map, hk]; rfl)
  unfold maxLen at hmx
  clear hcs hown hb1 hn hsz
  go_wp2_with fail
  go_loopw [4] (fun i wr => ∃ k : Nat, i = .int .i64 k ∧ k ≤ n ∧ SameW wr w1 ∧ Hid (∀ j x, j < k → (spl p.data.toList)[j]? = some x → gp x = true)) (fun i _ => n - (intOf i).toNat)
  case atStart => exact ⟨0, rfl, Nat.zero_le _, rfl, Lib.hid fun j x hj => absurd hj (Nat.not_lt_zero _)⟩
  case round =>
    obtain ⟨k, rfl, hk, hw, hall⟩ := hrel
    unfold SameW at hw
    subst hw
    by_cases hlt : k < n
    · obtain ⟨x, hx⟩ : ∃ x, (spl p.data.toList)[k]? = some x := ⟨_, List.getElem?_eq_getElem (by rw [HN.out]; exact hlt)⟩
      have hcell := HC.out k x hx
      have hxl := PL.out x (List.mem_of_getElem? hx)
      have HX := Lib.hid hx
      clear hx
      obtain ⟨y, hy⟩ : ∃ y, mk x = y := ⟨_, rfl⟩
      have hyx : y.data.toList = x := by rw [← hy, toList_mk]
      rw [hy] at hcell
      have hys : y.size ≤ 64 := by rw [← hy, mk_size]; exact hxl
      clear hy hxl
      by_cases e0 : y.data.toList = []
      · obtain rfl := bytes_eq (b := ⟨#[]⟩) e0
        have H5 := Lib.hid (B5.out k x HX.out (by rw [← hyx]; rfl))
        clear e0 hyx
        go_wp2
        go_ret
        exact ⟨ret_i H5.out.symm, HB.out⟩
      by_cases e1 : y.data.toList = [46]
      · obtain rfl := bytes_eq (b := ⟨#[46]⟩) e1
        have H5 := Lib.hid (B5.out k x HX.out (by rw [← hyx]; rfl))
        clear e0 e1 hyx
        go_wp2
        go_ret
        exact ⟨ret_i H5.out.symm, HB.out⟩
      by_cases e2 : y.data.toList = [46, 46]
      · obtain rfl := bytes_eq (b := ⟨#[46, 46]⟩) e2
        have H5 := Lib.hid (B5.out k x HX.out (by rw [← hyx]; rfl))
        clear e0 e1 e2 hyx
        go_wp2
        go_ret
        exact ⟨ret_i H5.out.symm, HB.out⟩
      have q0 : ¬ y.toList = [] := by rw [ByteArray.toList_eq]; exact e0
      have q0' : y.toList.isEmpty = false := by rw [List.isEmpty_eq_false_iff]; exact q0
      have q1 : ¬ y.toList = [46] := by rw [ByteArray.toList_eq]; exact e1
      have q1' : (y.toList == [46]) = false := by rw [beq_eq_false_iff_ne]; exact q1
      have q2 : ¬ y.toList = [46, 46] := by rw [ByteArray.toList_eq]; exact e2
      have q2' : (y.toList == [46, 46]) = false := by rw [beq_eq_false_iff_ne]; exact q2
      have E := Lib.hid (And.intro e0 (And.intro e1 e2))
      have HYX := Lib.hid hyx
      have HYS := Lib.hid (size_list y)
      clear e0 e1 e2 hyx
      go_wp2_with fail
      go_loopw [5] (fun i wq => ∃ j : Nat, i = .int .i64 j ∧ j ≤ y.size ∧ SameW wq wr ∧ Hid (∀ i (hi : i < y.data.toList.length), i < j → gbv (y.data.toList[i].toNat : Int) = true)) (fun i _ => y.size - (intOf i).toNat)
      case atStart => exact ⟨0, rfl, Nat.zero_le _, rfl, Lib.hid fun i hi hj => absurd hj (Nat.not_lt_zero _)⟩
      case round =>
        obtain ⟨j, rfl, hj, hw, hgood⟩ := hrel
        unfold SameW at hw
        subst hw
        by_cases hjy : j < y.size
        · have hjl : j < y.data.toList.length := by rw [HYS.out]; exact hjy
          have hc0 : (0 : Int) ≤ (y[j].toNat : Int) := Int.natCast_nonneg _
          have hc1 : (y[j].toNat : Int) ≤ 255 := by have := y[j].toNat_lt; omega
          have GA := Lib.hid (good_any (y[j].toNat : Int) wr hc0 hc1)
          cases hgb : gbv (y[j].toNat : Int) with
          | false =>
            rw [hgb] at GA
            have H5 := Lib.hid (B5.out k x HX.out (by rw [← HYX.out]; exact gp_bad hjl hgb))
            clear hgb
            go_wp2_with (go_at_call 72; refine GA.out.mono ?_; rintro e w' ⟨rfl, rfl⟩)
            go_ret
            exact ⟨ret_i H5.out.symm, HB.out⟩
          | true =>
            rw [hgb] at GA
            have HG : Hid (∀ i (hi : i < y.data.toList.length), i < j + 1 → gbv (y.data.toList[i].toNat : Int) = true) := Lib.hid fun i hi hij => by
              by_cases e : i = j
              · subst e; exact hgb
              · exact hgood.out i hi (by omega)
            clear hgb hgood
            go_wp2_with (go_at_call 72; refine GA.out.mono ?_; rintro e w' ⟨rfl, rfl⟩)
            go_roundw
            case rel => exact ⟨j + 1, by go_num, hjy, rfl, HG⟩
            case measure => simp [intOf]; omega
        · have HP : Hid (∀ j x, j < k + 1 → (spl p.data.toList)[j]? = some x → gp x = true) := Lib.hid fun i z hi hz => by
            by_cases e : i = k
            · subst e
              obtain rfl : x = z := Option.some.inj (HX.out.symm.trans hz)
              rw [← HYX.out]
              exact gp_all E.out.1 E.out.2.1 E.out.2.2 fun t ht => hgood.out t ht (by rw [HYS.out] at ht; omega)
            · exact hall.out i z (by omega) hz
          clear hgood hall
          go_wp2
          go_roundw
          case rel => exact ⟨k + 1, by go_num, hlt, rfl, HP⟩
          case measure => simp [intOf]; omega
    · have H0 := Lib.hid (B0.out (by
        rw [List.all_eq_true]
        intro x hx
        obtain ⟨j, hj, rfl⟩ := List.getElem_of_mem hx
        exact hall.out j _ (by rw [HN.out] at hj; omega) (List.getElem?_eq_getElem hj)))
      clear hall
      go_wp2
      go_ret
      exact ⟨ret_i H0.out.symm, HB.out⟩
theorem refCheck_any (p : ByteArray) (w : World) (hp : p.size ≤ 9223372036854775807) : Calls Tryd.prog 45 #[.string p] w (Checked p w) := by
  by_cases h : 64 < p.size
  · refine (refCheck_long p w hp h).mono ?_
    rintro e w' ⟨rfl, hb⟩
    exact ⟨ret_i (chk_long (by rw [size_list]; exact h)).symm, hb⟩
  · by_cases h0 : p.size = 0
    · obtain rfl := nil_of h0
      exact refCheck_none w
    · exact refCheck_main p w h h0
end Go.Proofs.YtcnmlgmlijgmhaaDoor
