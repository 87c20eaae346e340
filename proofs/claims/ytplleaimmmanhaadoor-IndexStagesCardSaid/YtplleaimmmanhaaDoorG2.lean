/-
  appends of entries; slices.Clone of entries.
  The document's own functions on paths: Parts, Check, Under, Clash: what they answer, at any text.
  path.Under, path.Clash.
  rectolaw14.Rises: whether a tree rises.
  (Row).Same: whether two trees are one.
  slices.IndexFunc, slices.ContainsFunc at entries, over whatever closure with one captured thing.
  slices.DeleteFunc on entries of the call's own.
  index.compare, excludes; the closures of index.Put, Drop, (Entry).wrong.
  slices.Clone of a tree; rectoref14.Same.
  The plain theory of a file put, of a path cut, of what differs between two trees.
  slices.IndexFunc, slices.ContainsFunc at a tree, over whatever closure with one captured thing; the closures of (Row).Cut, (Row).Clear, (Row).refuses.
  slices.DeleteFunc on a tree of the call's own; (Row).without, Cut, Clear.
-/
import Derived.Test.YtplleaimmmanhaaDoorG1
import Derived.Lib.SliceRun
import Derived.Lib.SplitLaws
import Derived.Laws.OwnMore
import Derived.Laws.Cover1
import Derived.Deep.RegionHeld3
import Derived.Deep.RegionWith
import Derived.WalkLawsBesides
import Derived.Outline
import Derived.Laws.Rows
import Derived.Deep.Draws
namespace Go.Proofs.YtplleaimmmanhaaDoor
open Go.RowKit

theorem cE_one (l : List En) : ∀ u ∈ l.flatMap cE, u.oneCell' = true := fun u hu => by
  obtain ⟨f, _, hf⟩ := List.mem_flatMap.1 hu
  simp [cE] at hf
  rcases hf with rfl | rfl | rfl | rfl | rfl | rfl <;> rfl

theorem run_append_ents (w : World) (ty : TypeId) (base : Nat) (v : Value) (xs ys : List En) (hown : w.ownsRow base 57 6 v xs.length (xs.flatMap cE)) (A : Option Addr) (m c : Nat) (h : Reads 6 cE w (.slice A m c) ys) (hl : xs.length + ys.length ≤ 1000000) (hbase : base ≤ w.heap.size) :
    ∃ A' c' w', (Builtin.append_ #[54, 54] ty #[v, .slice A m c]).run Tryd.prog w = .ok (.slice A' (xs ++ ys).length c') w' ∧ w'.ownsRow base 57 6 (.slice A' (xs ++ ys).length c') (xs ++ ys).length ((xs ++ ys).flatMap cE) ∧ Below base w w' ∧ w.grownBy w' v.ownBlock := by
  obtain ⟨i0, hi, hz0, hz1, hz2⟩ := info_parts entryInfo
  obtain ⟨hm, hmc, hcm⟩ := h.len
  cases A with
  | none =>
    obtain ⟨A', c', hv, h1, h2, h3, h4⟩ := h
    injection hv with e1 e2 e3
    subst e1; subst e3
    have hc := h3 rfl
    subst hc
    have hm0 : m = 0 := by omega
    subst hm0
    have : ys = [] := List.eq_nil_of_length_eq_zero (by omega)
    subst this
    obtain ⟨A', c', rfl⟩ := own_form hown
    have hr := run_append_owned_none (P := Tryd.prog) (w := w) base 54 ty 57 i0 6 Tryd.underlying54 hi _ _ _ hown
    rw [List.append_nil]
    exact ⟨A', c', w, hr, hown, Below.refl _ _, World.grownBy.refl _ _⟩
  | some ad =>
    obtain ⟨v', w', hr, ho, hg, _⟩ := run_append_own (P := Tryd.prog) w base 54 ty 57 i0 (.agg #[.string ⟨#[]⟩, .int .i64 0, .int .i64 0, .string ⟨#[]⟩, .int .i64 0, .int .i64 0]) 6 64 Tryd.underlying54 hi hz0 hz1 hz2 rfl (by decide) v xs.length (xs.flatMap cE) hown ad m c (ys.flatMap cE) (by rw [flat_len cE_len, hm]) (reads_flat cE_len (by decide) h) (cE_one ys) (by unfold maxLen; omega) (by omega) hbase
    have ho2 : w'.ownsRow base 57 6 v' (xs ++ ys).length ((xs ++ ys).flatMap cE) := by rw [List.length_append, List.flatMap_append, ← hm]; exact ho
    obtain ⟨A', c', rfl⟩ := own_form ho2
    exact ⟨A', c', w', hr, ho2, (Below.refl base w).grown hg hbase fun k hk => (hown.lt k hk).1, hg⟩

theorem wpList_append_ents (w : World) {ops : Array Oper} {rest : List Oper} {o : Oper} {a : Act} {Q : Exit → Act → World → Prop} (hgd : o.guard = none) (s x : Operand)
    (ho : o.op = .call { callee := .builtin .append, args := #[s, x], argTypes := #[54, 54] })
    (base : Nat) (v : Value) (xs ys : List En) (hs : a.eval s = v) (hown : w.ownsRow base 57 6 v xs.length (xs.flatMap cE)) (A : Option Addr) (m c : Nat) (hx : a.eval x = .slice A m c) (h : Reads 6 cE w (.slice A m c) ys) (hl : xs.length + ys.length ≤ 1000000) (hbase : base ≤ w.heap.size)
    (hk : ∀ A' c' w', w'.ownsRow base 57 6 (.slice A' (xs ++ ys).length c') (xs ++ ys).length ((xs ++ ys).flatMap cE) → Below base w w' → w.grownBy w' v.ownBlock → wpList Tryd.prog ops Q rest (a.put o.dst (.slice A' (xs ++ ys).length c')) w') : wpList Tryd.prog ops Q (o :: rest) a w := by
  obtain ⟨A', c', w', hr, h2, h3, h4⟩ := run_append_ents w o.type base v xs ys hown A m c h hl hbase
  exact Lib.wpList_append_run w hgd s x _ _ ho _ _ hs hx _ _ hr (hk A' c' w' h2 h3 h4)


set_option maxHeartbeats 2000000 in
theorem cloneE_any (w : World) (v : Value) (l : List En) (h : Reads 6 cE w v l) (hl : l.length ≤ 100000) :
    Calls Tryd.prog 89 #[v] w (OwnTo 57 6 cE l w) := by
  have q : ∀ (w : World) (a : Option Addr) (n c n' c' : Nat), (binOp .eql 54 (.slice a n c) (.slice none n' c')).run Tryd.prog w = .ok (.bool a.isNone) w := fun w a n c n' c' => Lib.run_eql_slice_nil w _ _ a n c n' c' Tryd.underlying54
  obtain ⟨A, c, rfl⟩ := h.form
  have HR := Lib.hid h
  cases A with
  | none =>
    have h0 : l = [] := by
      obtain ⟨A', c', hv, h1, h2, h3, _⟩ := h
      injection hv with e1 e2 e3
      subst e1; subst e3
      have := h3 rfl
      exact List.eq_nil_of_length_eq_zero (by omega)
    subst h0
    clear h
    go_enter Tryd.func89, Tryd.ntmps89
    go_wp2
    go_ret
    exact ⟨_, rfl, World.ownsRow_nil _ _ _ _, Below.refl _ _⟩
  | some ad =>
    have hm : w.heap.size ≤ (w.alloc (.cells #[] 57)).heap.size := by simp
    have hll : ([] : List En).length + l.length ≤ 1000000 := by simp; omega
    have O0 := Lib.hid (show (w.alloc (.cells #[] 57)).ownsRow w.heap.size 57 6 (.slice (some ⟨w.heap.size, 0, none⟩) 0 0) ([] : List En).length (([] : List En).flatMap cE) from World.ownsRow_made w #[] 0 (Nat.le_refl _) (Nat.zero_le _) rfl)
    clear h
    go_enter Tryd.func89, Tryd.ntmps89
    go_wp2_with (at_builtin; refine wpList_append_ents _ rfl _ _ rfl w.heap.size _ [] l rfl O0.out _ _ _ rfl (HR.out.alloc _) hll hm ?_; intro A' c' w5 own5 b5 hg5)
    rw [List.nil_append] at own5
    have O5 := Lib.hid own5
    have B5 := Lib.hid (Below.trans ((Below.refl _ _).alloc (Nat.le_refl _) (.cells #[] 57)) b5)
    clear own5 b5 hg5
    go_ret
    exact ⟨_, rfl, O5.out, B5.out⟩
end Go.Proofs.YtplleaimmmanhaaDoor
namespace Go.Proofs.YtplleaimmmanhaaDoor
open Go Go.RowKit

theorem ret_b {p q : Bool} (h : p = q) : Ending.returned (.bool p) = .returned (.bool q) := by rw [h]
def gbv (c : Int) : Bool := (decide (97 ≤ c) && decide (c ≤ 122)) || ((decide (48 ≤ c) && decide (c ≤ 57)) || (decide (c = 46) || (decide (c = 45) || decide (c = 95))))
/-- May it be a part of a path? -/
def gp (l : List UInt8) : Bool := !(l == []) && !(l == [46]) && !(l == [46, 46]) && l.all fun c => gbv (c.toNat : Int)
theorem gp_bad {l : List UInt8} {j : Nat} (h : j < l.length) (hb : gbv (l[j].toNat : Int) = false) : gp l = false := by
  have : l.all (fun c => gbv (c.toNat : Int)) = false := by
    rw [Bool.eq_false_iff]
    intro ha
    rw [List.all_eq_true] at ha
    rw [ha _ (List.getElem_mem h)] at hb
    cases hb
  unfold gp
  rw [this, Bool.and_false]
theorem gp_all {l : List UInt8} (h0 : l ≠ []) (h1 : l ≠ [46]) (h2 : l ≠ [46, 46]) (h : ∀ j (hj : j < l.length), gbv (l[j].toNat : Int) = true) : gp l = true := by
  have ha : l.all (fun c => gbv (c.toNat : Int)) = true := by
    rw [List.all_eq_true]
    intro x hx
    obtain ⟨j, hj, rfl⟩ := List.getElem_of_mem hx
    exact h j hj
  unfold gp
  rw [ha]
  simp [h0, h1, h2]
theorem bytes_eq {a b : ByteArray} (h : a.data.toList = b.data.toList) : a = b := by
  obtain ⟨⟨a⟩⟩ := a
  obtain ⟨⟨b⟩⟩ := b
  simpa using h
/-- A text cut at each stroke. -/
def spl : List UInt8 → List (List UInt8)
  | [] => [[]]
  | c :: r => if c = 47 then [] :: spl r else ((c :: (spl r).headD []) :: (spl r).tail)
theorem spl_ne : ∀ l : List UInt8, spl l ≠ []
  | [] => by simp [spl]
  | c :: r => by unfold spl; split <;> simp
theorem spl_len : ∀ l : List UInt8, (spl l).length ≤ l.length + 1
  | [] => by simp [spl]
  | c :: r => by
    have ih := spl_len r
    unfold spl
    split
    · simp; exact ih
    · simp; omega
/-- What Check says of a text. -/
def chk (l : List UInt8) : Int := if 64 < l.length then 4 else if l = [] then 5 else if (spl l).all gp then 0 else 5
theorem chk_long {l : List UInt8} (h : 64 < l.length) : chk l = 4 := if_pos h
theorem chk_empty : chk [] = 5 := rfl
theorem chk_good {l : List UInt8} (h : ¬ 64 < l.length) (h0 : l ≠ []) (ha : (spl l).all gp = true) : chk l = 0 := by unfold chk; rw [if_neg h, if_neg h0, if_pos ha]
theorem chk_bad {l : List UInt8} (h : ¬ 64 < l.length) (h0 : l ≠ []) (ha : (spl l).all gp = false) : chk l = 5 := by unfold chk; rw [if_neg h, if_neg h0, ha]; rfl
def Checked (s : ByteArray) (w : World) (e : Ending) (w' : World) : Prop := e = .returned (.int .i64 (chk s.data.toList)) ∧ Below w.heap.size w w'
theorem size_list (s : ByteArray) : s.data.toList.length = s.size := by rw [Array.length_toList]; rfl
theorem nil_of {s : ByteArray} (h : s.size = 0) : s = ⟨#[]⟩ := bytes_eq (List.eq_nil_of_length_eq_zero (by rw [size_list]; exact h))
theorem not_nil {s : ByteArray} (h : ¬ s.size = 0) : ¬ s.toList = [] ∧ s.toList.isEmpty = false := by
  have h1 : ¬ s.toList = [] := by
    rw [ByteArray.toList_eq]
    intro e
    have := size_list s
    rw [e] at this
    exact h this.symm
  exact ⟨h1, by rw [List.isEmpty_eq_false_iff]; exact h1⟩
/-- Does p lie in the folder d? -/
def und (p d : List UInt8) : Bool := if d = [] then !(p == []) else decide (d.length + 1 < p.length) && (p[d.length]? == some 47 && p.take d.length == d)
theorem und_root {p : List UInt8} (h : p ≠ []) : und p [] = true := by unfold und; rw [if_pos rfl]; simp [h]
theorem und_short {p d : List UInt8} (h : d ≠ []) (hl : ¬ d.length + 1 < p.length) : und p d = false := by unfold und; rw [if_neg h, decide_eq_false hl]; rfl
theorem und_long {p d : List UInt8} (h : d ≠ []) (hl : d.length + 1 < p.length) : und p d = (p[d.length]? == some 47 && p.take d.length == d) := by unfold und; rw [if_neg h, decide_eq_true hl]; rfl
set_option maxHeartbeats 1000000 in
theorem refUnder_any (p d : ByteArray) (w : World) (hp : p.size ≤ 1000000) (hd : d.size ≤ 1000000) : Calls Tryd.prog 46 #[.string p, .string d] w fun e w' => e = .returned (.bool (und p.data.toList d.data.toList)) ∧ w = w' := by
  by_cases hd0 : d.size = 0
  · obtain rfl := nil_of hd0
    by_cases hp0 : p.size = 0
    · obtain rfl := nil_of hp0
      go_enter Tryd.func46, Tryd.ntmps46
      go_wp2
      go_ret
      exact ⟨rfl, rfl⟩
    · obtain ⟨q1, q2⟩ := not_nil hp0
      have HU : Hid (und p.data.toList [] = true) := Lib.hid (und_root (by rw [← ByteArray.toList_eq]; exact q1))
      go_enter Tryd.func46, Tryd.ntmps46
      go_wp2
      go_ret
      exact ⟨ret_b HU.out.symm, rfl⟩
  · obtain ⟨q1, q2⟩ := not_nil hd0
    have hne : d.data.toList ≠ [] := by rw [← ByteArray.toList_eq]; exact q1
    by_cases hl : d.size + 1 < p.size
    · have hli : (d.size : Int) + 1 < (p.size : Int) := by omega
      have hli2 : (d.size : Int) < (p.size : Int) := by omega
      have hlt : d.size < p.size := by omega
      have hU := und_long (p := p.data.toList) hne (by rw [size_list, size_list]; exact hl)
      have hget : p.data.toList[d.data.toList.length]? = some p[d.size] := by rw [size_list]; exact List.getElem?_eq_getElem (by rw [size_list]; exact hlt)
      have htk : (p.extract 0 d.size).data.toList = p.data.toList.take d.data.toList.length := by rw [size_list]; exact Lib.extract_from_zero p d.size
      rw [hget, ← htk] at hU
      have HU := Lib.hid hU
      clear hU hget htk
      by_cases h47 : p[d.size] = 47
      · have b1 : ((p[d.size].toNat : Int) == 47) = true := by rw [h47]; rfl
        have b1' : (p[d.size].toNat : Int) = 47 := by rw [h47]; rfl
        by_cases he : p.extract 0 d.size = d
        · have c1 : (p.extract 0 d.size).toList = d.toList := by rw [he]
          have c2 : ((p.extract 0 d.size).toList == d.toList) = true := by rw [c1]; simp
          have HE : Hid (und p.data.toList d.data.toList = true) := by show und _ _ = true; rw [HU.out, h47, he]; simp
          clear HU h47 he
          go_enter Tryd.func46, Tryd.ntmps46
          go_wp2
          go_ret
          exact ⟨ret_b HE.out.symm, rfl⟩
        · have c1 : ¬ (p.extract 0 d.size).toList = d.toList := by rw [ByteArray.toList_eq, ByteArray.toList_eq]; exact fun e => he (bytes_eq e)
          have c2 : ((p.extract 0 d.size).toList == d.toList) = false := by rw [beq_eq_false_iff_ne]; exact c1
          have HE : Hid (und p.data.toList d.data.toList = false) := by
            show und _ _ = false
            rw [HU.out]
            have : ((p.extract 0 d.size).data.toList == d.data.toList) = false := by rw [beq_eq_false_iff_ne]; exact fun e => he (bytes_eq e)
            rw [this, Bool.and_false]
          clear HU h47 he
          go_enter Tryd.func46, Tryd.ntmps46
          go_wp2
          go_ret
          exact ⟨ret_b HE.out.symm, rfl⟩
      · have b1' : ¬ (p[d.size].toNat : Int) = 47 := fun e => h47 (UInt8.toNat_inj.1 (by show p[d.size].toNat = 47; omega))
        have b1 : ((p[d.size].toNat : Int) == 47) = false := by rw [beq_eq_false_iff_ne]; exact b1'
        have HE : Hid (und p.data.toList d.data.toList = false) := by
          show und _ _ = false
          rw [HU.out]
          have : (some p[d.size] == some (47 : UInt8)) = false := by rw [beq_eq_false_iff_ne]; exact fun e => h47 (Option.some.inj e)
          rw [this, Bool.false_and]
        clear HU h47
        by_cases he : (p.extract 0 d.size).toList = d.toList
        · have c2 : ((p.extract 0 d.size).toList == d.toList) = true := by rw [he]; simp
          go_enter Tryd.func46, Tryd.ntmps46
          go_wp2
          go_ret
          exact ⟨ret_b HE.out.symm, rfl⟩
        · have c2 : ((p.extract 0 d.size).toList == d.toList) = false := by rw [beq_eq_false_iff_ne]; exact he
          go_enter Tryd.func46, Tryd.ntmps46
          go_wp2
          go_ret
          exact ⟨ret_b HE.out.symm, rfl⟩
    · have hli : ¬ (d.size : Int) + 1 < (p.size : Int) := by omega
      have HE : Hid (und p.data.toList d.data.toList = false) := Lib.hid (und_short hne (by rw [size_list, size_list]; exact hl))
      go_enter Tryd.func46, Tryd.ntmps46
      go_wp2
      go_ret
      exact ⟨ret_b HE.out.symm, rfl⟩
theorem ret_i {a b : Int} (h : a = b) : Ending.returned (.int .i64 a) = .returned (.int .i64 b) := by rw [h]
def cls (a b : List UInt8) : Bool := !(a == []) && (!(b == []) && (und a b || und b a))
theorem cls_of {a b : List UInt8} (ha : a ≠ []) (hb : b ≠ []) : cls a b = (und a b || und b a) := by
  have h1 : (a == []) = false := by rw [beq_eq_false_iff_ne]; exact ha
  have h2 : (b == []) = false := by rw [beq_eq_false_iff_ne]; exact hb
  unfold cls
  rw [h1, h2]; rfl
set_option maxHeartbeats 1000000 in
theorem refClash_any (a b : ByteArray) (w : World) (ha : a.size ≤ 1000000) (hb : b.size ≤ 1000000) : Calls Tryd.prog 23 #[.string a, .string b] w fun e w' => e = .returned (.bool (cls a.data.toList b.data.toList)) ∧ w = w' := by
  by_cases ha0 : a.size = 0
  · obtain rfl := nil_of ha0
    go_enter Tryd.func23, Tryd.ntmps23
    go_wp2
    go_ret
    exact ⟨rfl, rfl⟩
  · obtain ⟨q1, q2⟩ := not_nil ha0
    have n1 : a.data.toList ≠ [] := by rw [← ByteArray.toList_eq]; exact q1
    by_cases hb0 : b.size = 0
    · obtain rfl := nil_of hb0
      have HE : Hid (cls a.data.toList [] = false) := by show cls _ [] = false; unfold cls; simp
      go_enter Tryd.func23, Tryd.ntmps23
      go_wp2
      go_ret
      exact ⟨ret_b HE.out.symm, rfl⟩
    · obtain ⟨q3, q4⟩ := not_nil hb0
      have n2 : b.data.toList ≠ [] := by rw [← ByteArray.toList_eq]; exact q3
      have HE : Hid (cls a.data.toList b.data.toList = (und a.data.toList b.data.toList || und b.data.toList a.data.toList)) := Lib.hid (cls_of n1 n2)
      have U1 := Lib.hid fun W => refUnder_any a b W ha hb
      have U2 := Lib.hid fun W => refUnder_any b a W hb ha
      generalize und a.data.toList b.data.toList = x at *
      generalize und b.data.toList a.data.toList = y at *
      cases x with
      | true =>
        go_enter Tryd.func23, Tryd.ntmps23
        go_wp2_with fail
        refine (U1.out _).mono ?_
        rintro e w' ⟨rfl, rfl⟩
        go_wp2_with fail
        go_ret
        exact ⟨ret_b HE.out.symm, rfl⟩
      | false =>
        go_enter Tryd.func23, Tryd.ntmps23
        go_wp2_with fail
        refine (U1.out _).mono ?_
        rintro e w' ⟨rfl, rfl⟩
        go_wp2_with fail
        refine (U2.out _).mono ?_
        rintro e w' ⟨rfl, rfl⟩
        go_wp2_with fail
        go_ret
        exact ⟨ret_b HE.out.symm, rfl⟩
theorem good_any (c : Int) (w : World) (h0 : 0 ≤ c) (h1 : c ≤ 255) : Calls Tryd.prog 67 #[.int .u8 c] w fun e w' => e = .returned (.bool (gbv c)) ∧ w = w' := by
  by_cases h46 : c = 46
  · subst h46
    have hg : Hid (true = gbv 46) := by show true = gbv 46; rfl
    go_enter Tryd.func67, Tryd.ntmps67
    go_wp2
    all_goals
      go_ret
      exact ⟨ret_b hg.out, rfl⟩
  · by_cases h45 : c = 45
    · subst h45
      have hg : Hid (true = gbv 45) := by show true = gbv 45; rfl
      go_enter Tryd.func67, Tryd.ntmps67
      go_wp2
      all_goals
        go_ret
        exact ⟨ret_b hg.out, rfl⟩
    · by_cases h95 : c = 95
      · subst h95
        have hg : Hid (true = gbv 95) := by show true = gbv 95; rfl
        go_enter Tryd.func67, Tryd.ntmps67
        go_wp2
        all_goals
          go_ret
          exact ⟨ret_b hg.out, rfl⟩
      · have b1 : (c == 46) = false := by rw [beq_eq_false_iff_ne]; exact h46
        have b2 : (c == 45) = false := by rw [beq_eq_false_iff_ne]; exact h45
        have b3 : (c == 95) = false := by rw [beq_eq_false_iff_ne]; exact h95
        go_enter Tryd.func67, Tryd.ntmps67
        go_wp2
        all_goals
          go_ret
          exact ⟨ret_b (by unfold gbv; rw [Bool.eq_iff_iff]; simp only [Bool.or_eq_true, Bool.and_eq_true, decide_eq_true_eq, Bool.false_eq_true, true_iff, false_iff] <;> omega), rfl⟩
theorem spl_snoc : ∀ (l : List UInt8) (f : List (List UInt8)) (x : List UInt8) (c : UInt8), spl l = f ++ [x] → spl (l ++ [c]) = if c = 47 then f ++ [x] ++ [[]] else f ++ [x ++ [c]]
  | [], f, x, c, h => by
    have h' : [[]] = f ++ [x] := h
    cases f with
    | nil => simp at h'; subst h'; by_cases hc : c = 47 <;> simp [spl, hc]
    | cons a f => simp at h'
  | d :: r, f, x, c, h => by
    rw [List.cons_append]
    by_cases hd : d = 47
    · rw [spl, if_pos hd] at h ⊢
      cases f with
      | nil =>
        have h2 : spl r = [] := (List.cons.inj h).2
        exact absurd h2 (spl_ne r)
      | cons a f =>
        rw [List.cons_append, List.cons.injEq] at h
        obtain ⟨rfl, h2⟩ := h
        rw [spl_snoc r f x c h2]
        split <;> rfl
    · rw [spl, if_neg hd] at h ⊢
      cases hs : spl r with
      | nil => exact absurd hs (spl_ne r)
      | cons y ys =>
        rw [hs] at h
        simp only [List.headD_cons, List.tail_cons] at h
        cases f with
        | nil =>
          rw [List.nil_append, List.cons.injEq] at h
          obtain ⟨rfl, rfl⟩ := h
          rw [spl_snoc r [] y c hs]; split <;> rfl
        | cons a f =>
          rw [List.cons_append, List.cons.injEq] at h
          obtain ⟨rfl, h2⟩ := h
          rw [spl_snoc r (y :: f) x c (by rw [hs, h2]; rfl)]
          split <;> rfl
/-- Bytes as a string. -/
def mk (l : List UInt8) : ByteArray := ⟨l.toArray⟩
theorem mk_toList (s : ByteArray) : mk s.data.toList = s := by cases s; simp [mk]
theorem toList_mk (l : List UInt8) : (mk l).data.toList = l := by simp [mk]
theorem mk_size (l : List UInt8) : (mk l).size = l.length := by rw [← size_list, toList_mk]
theorem take_one (l : List UInt8) (k : Nat) (h : k < l.length) : l.take (k + 1) = l.take k ++ [l[k]] := by
  rw [List.take_succ_eq_append_getElem h]
theorem extract_mk (s : ByteArray) (a b : Nat) : s.extract a b = mk ((s.data.toList.take b).drop a) := by
  apply bytes_eq
  rw [ByteArray.data_extract, Array.toList_extract, List.extract_eq_take_drop, toList_mk]
  simp [List.drop_take]
/-- A text's parts, put together again with strokes. -/
def jn : List (List UInt8) → List UInt8
  | [] => []
  | [x] => x
  | x :: y :: r => x ++ 47 :: jn (y :: r)
theorem jn_front (c : UInt8) (y : List UInt8) (ys : List (List UInt8)) : jn ((c :: y) :: ys) = c :: jn (y :: ys) := by
  cases ys <;> rfl
theorem jn_spl : ∀ l : List UInt8, jn (spl l) = l
  | [] => rfl
  | c :: r => by
    have ih := jn_spl r
    cases hs : spl r with
    | nil => exact absurd hs (spl_ne r)
    | cons y ys =>
      rw [hs] at ih
      by_cases hc : c = 47
      · subst hc
        rw [spl, if_pos rfl, hs]
        show [] ++ 47 :: jn (y :: ys) = _
        rw [ih]; rfl
      · rw [spl, if_neg hc, hs]
        show jn ((c :: y) :: ys) = _
        rw [jn_front, ih]
theorem jn_snoc (x : List UInt8) : ∀ f : List (List UInt8), f ≠ [] → jn (f ++ [x]) = jn f ++ 47 :: x
  | [], h => absurd rfl h
  | [y], _ => rfl
  | y :: z :: r, _ => by
    have ih := jn_snoc x (z :: r) (by simp)
    show y ++ 47 :: jn ((z :: r) ++ [x]) = (y ++ 47 :: jn (z :: r)) ++ 47 :: x
    rw [ih]; simp
theorem jn_len : ∀ f : List (List UInt8), ∀ x ∈ f, x.length ≤ (jn f).length
  | [], x, h => by cases h
  | [y], x, h => by simp at h; subst h; exact Nat.le_refl _
  | y :: z :: r, x, h => by
    show x.length ≤ (y ++ 47 :: jn (z :: r)).length
    rw [List.length_append, List.length_cons]
    rcases List.mem_cons.1 h with rfl | h
    · omega
    · have := jn_len (z :: r) x h
      omega
theorem spl_part {l x : List UInt8} (h : x ∈ spl l) : x.length ≤ l.length := by
  have := jn_len (spl l) x h
  rwa [jn_spl] at this
theorem row_set {w : World} {g : Nat} {cur : Array Value} {t : TypeId} (h : w.heap[g]? = some (.cells cur t (0, 0))) (k : Nat) (v : Value) : (w.setCell ⟨g, k, none⟩ v).heap[g]? = some (.cells (cur.setIfInBounds k v) t (0, 0)) := by
  simp [World.setCell, Array.getElem?_modify, h]
/-- A row of the call's own, its last cell: what is in it; what becomes of the row when it is written. -/
theorem own_last {w : World} {B n : Nat} {v : Value} {xs : List Value} {u : Value} (h : w.ownsRow B 9 1 v (n + 1) (xs ++ [u])) :
    ∃ g cap, v = .slice (some ⟨g, 0, none⟩) (n + 1) cap ∧ n + 1 ≤ cap ∧ cap ≤ maxLen ∧ B ≤ g ∧ w.cell? ⟨g, n, none⟩ = some u ∧ w.frozen? ⟨g, n, none⟩ = false ∧
      ∀ u', (w.setCell ⟨g, n, none⟩ u').ownsRow B 9 1 v (n + 1) (xs ++ [u']) := by
  obtain ⟨hl, h⟩ := h
  rcases h with ⟨_, h⟩ | ⟨g, cap, cur, rfl, hB, hh, hn, hm, hs, ht⟩
  · omega
  simp only [Nat.mul_one] at hl hs ht
  have hxl : xs.length = n := by simpa using hl
  have hcl : cur.toList.length = cap := by rw [Array.length_toList]; exact hs
  have hcell : cur[n]? = some u := by
    have : (cur.toList.take (n + 1))[n]? = some u := by rw [ht, List.getElem?_append_right (by omega), hxl]; simp
    rw [List.getElem?_take, if_pos (by omega)] at this
    rwa [Array.getElem?_toList] at this
  refine ⟨g, cap, rfl, hn, hm, hB, (cell_of_row w g n cur 9 (0, 0) hh).trans hcell, by simp [World.frozen?, hh], fun u' => ⟨by simpa using hl, .inr ⟨g, cap, cur.setIfInBounds n u', rfl, hB, row_set hh n u', hn, hm, by simpa using hs, ?_⟩⟩⟩
  rw [Nat.mul_one, Array.toList_setIfInBounds, List.take_set, ht, List.set_append_right _ _ (by omega), hxl]
  simp
/-- Texts in new memory of the call's own, or nil. -/
def StrsTo (B : Nat) (w : World) (ls : List ByteArray) (e : Ending) (w' : World) : Prop :=
  ∃ v, e = .returned v ∧ w'.ownsRow B 9 1 v ls.length (ls.map Value.string) ∧ Below w.heap.size w w'
/-- The state of the cutting behind k bytes. -/
def Cut (p : ByteArray) (k n : Nat) (f : List ByteArray) (x : ByteArray) : Prop := f.length = n ∧ n ≤ k ∧ x.size ≤ k ∧ spl (p.data.toList.take k) = f.map (·.data.toList) ++ [x.data.toList]
theorem cut_zero (p : ByteArray) : Cut p 0 0 [] ⟨#[]⟩ := ⟨rfl, Nat.le_refl _, Nat.le_refl _, rfl⟩
theorem cut_stroke {p : ByteArray} {k n : Nat} {f : List ByteArray} {x : ByteArray} (h : Cut p k n f x) (hk : k < p.data.toList.length) (hc : p.data.toList[k] = 47) : Cut p (k + 1) (n + 1) (f ++ [x]) ⟨#[]⟩ := by
  obtain ⟨h1, h2, h3, h4⟩ := h
  refine ⟨by simp [h1], by omega, Nat.zero_le _, ?_⟩
  rw [take_one _ _ hk, spl_snoc _ _ _ _ h4, if_pos hc]
  simp
theorem cut_byte {p : ByteArray} {k n : Nat} {f : List ByteArray} {x : ByteArray} (h : Cut p k n f x) (hk : k < p.data.toList.length) (hc : ¬ p.data.toList[k] = 47) : Cut p (k + 1) n f (x ++ p.extract k (k + 1)) := by
  obtain ⟨h1, h2, h3, h4⟩ := h
  have e : (p.extract k (k + 1)).data.toList = [p.data.toList[k]] := by
    rw [extract_mk, toList_mk, take_one _ _ hk, List.drop_append_of_le_length (by rw [List.length_take]; omega), List.drop_eq_nil_of_le (by rw [List.length_take]; omega)]; rfl
  have e2 : (x ++ p.extract k (k + 1)).data.toList = x.data.toList ++ [p.data.toList[k]] := by rw [ByteArray.data_append, Array.toList_append, e]
  refine ⟨h1, by omega, ?_, ?_⟩
  · rw [← size_list, e2, List.length_append, size_list]; simp; omega
  · rw [take_one _ _ hk, spl_snoc _ _ _ _ h4, if_neg hc, e2]
theorem refParts_none (w : World) : Calls Tryd.prog 66 #[.string ⟨#[]⟩] w fun e w' => e = .returned (.slice none 0 0) ∧ w = w' := by
  go_enter Tryd.func66, Tryd.ntmps66
  go_wp2
  go_ret
  exact ⟨rfl, rfl⟩
set_option maxRecDepth 100000 in
set_option maxHeartbeats 2000000 in
theorem refParts_any (p : ByteArray) (w : World) (hp : p.size ≤ 1000000) (hne : ¬ p.size = 0) :
    Calls Tryd.prog 66 #[.string p] w (StrsTo w.heap.size w ((spl p.data.toList).map mk)) := by
  obtain ⟨i0, hi, hz0, hz1, hz2⟩ := info_parts strInfo
  obtain ⟨q1, q2⟩ := not_nil hne
  have HSZ := Lib.hid (size_list p)
  go_enter Tryd.func66, Tryd.ntmps66
  go_wp2_with fail
  go_loopw [3, 4] (fun v i wr => ∃ (k n : Nat) (f : List ByteArray) (x : ByteArray), k ≤ p.size ∧ i = .int .i64 k ∧ Hid (Cut p k n f x) ∧ wr.ownsRow w.heap.size 9 1 v (n + 1) (f.map Value.string ++ [.string x]) ∧ Below w.heap.size w wr) (fun _ i _ => p.size - (intOf i).toNat)
  case atStart =>
    refine ⟨0, 0, [], ⟨#[]⟩, Nat.zero_le _, rfl, Lib.hid (cut_zero p), ?_, (Below.refl _ _).alloc (Nat.le_refl _) _⟩
    exact ⟨rfl, .inr ⟨w.heap.size, 1, #[.string ⟨#[]⟩], rfl, Nat.le_refl _, heap_alloc_new w _, Nat.le_refl _, by decide, rfl, rfl⟩⟩
  case round =>
    obtain ⟨k, n, f, x, hk, rfl, hat, hown, hb⟩ := hrel
    by_cases hlt : k < p.size
    · have hl : k < p.data.toList.length := by rw [HSZ.out]; exact hlt
      have hnk : n ≤ k := hat.out.2.1
      have hxk : x.size ≤ k := hat.out.2.2.1
      by_cases hc : p[k] = 47
      · have hc' : p.data.toList[k] = 47 := hc
        have HE := Lib.hid (cut_stroke hat.out hl hc')
        have ht : ((p[k].toNat : Int) == 47) = true := by rw [hc]; rfl
        clear hat hc hc'
        go_wp2_with (at_builtin; refine wpList_append_own _ rfl _ _ 28 rfl w.heap.size 9 i0 (.string { data := #[] }) 1 16 Tryd.underlying28 hi hz0 hz1 hz2 rfl (by decide) _ _ _ rfl (hown.alloc _) ⟨wr.heap.size, 0, none⟩ 1 1 [.string ⟨#[]⟩] rfl ?c1 ?c2 ?c3 ?c4 ?c5 ?c6 ?_)
        case c1 => rfl
        case c2 => exact cell_one_new _ _ _
        case c3 => intro u hu; simp at hu; subst hu; rfl
        case c4 => unfold maxLen; omega
        case c5 => omega
        case c6 => have := hb.size; simp; omega
        intro v' w2 hown2 hg2 _
        have hb2 := (hb.alloc hb.size _).grown hg2 (by have := hb.size; simp; omega) fun z hz => (hown.lt z hz).1
        clear hg2 hown hb
        go_wp2
        go_roundw
        case rel =>
          refine ⟨k + 1, n + 1, f ++ [x], ⟨#[]⟩, by omega, by go_num, HE, ?_, hb2⟩
          simpa using hown2
        case measure => simp [intOf]; omega
      · have hc' : ¬ p.data.toList[k] = 47 := hc
        have HE := Lib.hid (cut_byte hat.out hl hc')
        have ht : ((p[k].toNat : Int) == 47) = false := by
          rw [beq_eq_false_iff_ne]
          intro e
          exact hc (UInt8.toNat_inj.1 (show p[k].toNat = 47 by omega))
        obtain ⟨g, cap, rfl, hn1, hmx, hBg, hcell, hfz, hset⟩ := own_last hown
        have HS := Lib.hid hset
        unfold maxLen at hmx
        clear hat hc hc' hset hown
        have hkp : k + 1 ≤ p.size := hlt
        generalize hm : n + 1 = m at *
        have HM := Lib.hid hm
        have z1 : (0 : Int) ≤ (n : Int) := Int.natCast_nonneg _
        have z2 : (n : Int) < (m : Int) := by omega
        have z3 : IntKind.i64.wrap ((m : Int) - 1) = (n : Int) := by rw [IntKind.wrap_i64]; omega
        have z4 : (0 : Int) ≤ (k : Int) := Int.natCast_nonneg _
        have z5 : IntKind.i64.wrap ((k : Int) + 1) = ((k + 1 : Nat) : Int) := by rw [IntKind.wrap_i64]; omega
        have z6 : (k : Int) ≤ ((k + 1 : Nat) : Int) := by omega
        have z7 : ((k + 1 : Nat) : Int) ≤ (p.size : Int) := by omega
        have z8 : k ≤ k + 1 := by omega
        clear hm
        go_wp2_with fail
        go_region
        all_goals go_wp2
        all_goals go_roundw
        case rel =>
          refine ⟨k + 1, n, f, x ++ p.extract k (k + 1), hkp, by go_num, HE, ?_, ?_⟩
          · rw [HM.out]
            have h2 := HS.out (.string (x ++ p.extract k (k + 1)))
            exact h2
          · exact (hb.setCell (p := ⟨g, n, none⟩) hBg _).drew
        case measure => simp [intOf]; omega
    · obtain rfl : k = p.size := by omega
      have hall : p.data.toList.take p.size = p.data.toList := List.take_of_length_le (by rw [HSZ.out]; omega)
      have hat := hat.out
      unfold Cut at hat
      rw [hall] at hat
      have HR : Hid ((spl p.data.toList).map mk = f ++ [x]) := by
        show (spl p.data.toList).map mk = f ++ [x]
        rw [hat.2.2.2, List.map_append, List.map_map]
        congr 1
        · rw [List.map_congr_left (g := id) (fun y _ => by show mk _ = _; exact mk_toList y), List.map_id]
      have HN := Lib.hid hat.1
      clear hat hall
      go_wp2
      go_ret
      refine ⟨_, rfl, ?_, hb⟩
      rw [HR.out, List.length_append, HN.out]
      simpa using hown
/-- A row of texts that isn't empty: where it lies; what its cells hold. -/
theorem own_cells {w : World} {B : Nat} {v : Value} {ls : List ByteArray} (h : w.ownsRow B 9 1 v ls.length (ls.map Value.string)) (h0 : 0 < ls.length) :
    ∃ g cap, v = .slice (some ⟨g, 0, none⟩) ls.length cap ∧ ls.length ≤ cap ∧ cap ≤ maxLen ∧ g < w.heap.size ∧ ∀ k x, ls[k]? = some x → w.cell? ⟨g, k, none⟩ = some (.string x) := by
  obtain ⟨hl, h⟩ := h
  rcases h with ⟨_, h⟩ | ⟨g, cap, cur, rfl, hB, hh, hn, hm, hs, ht⟩
  · omega
  simp only [Nat.mul_one] at hl hs ht
  refine ⟨g, cap, rfl, hn, hm, (Array.getElem?_eq_some_iff.1 hh).1, fun k x hk => (cell_of_row w g k cur 9 (0, 0) hh).trans ?_⟩
  have hlt := (List.getElem?_eq_some_iff.1 hk).1
  have : (cur.toList.take ls.length)[k]? = some (.string x) := by rw [ht, List.getElem?_map, hk]; rfl
  rw [List.getElem?_take, if_pos hlt] at this
  rwa [Array.getElem?_toList] at this
/-- The world is as it was. -/
def SameW (a b : World) : Prop := a = b
theorem refCheck_long (p : ByteArray) (w : World) (hp : p.size ≤ 9223372036854775807) (h : 64 < p.size) : Calls Tryd.prog 39 #[.string p] w fun e w' => e = .returned (.int .i64 4) ∧ Below w.heap.size w w' := by
  have hi : (64 : Int) < (p.size : Int) := by omega
  go_enter Tryd.func39, Tryd.ntmps39
  go_wp2
  go_ret
  exact ⟨rfl, Below.refl _ _⟩
theorem refCheck_none (w : World) : Calls Tryd.prog 39 #[.string ⟨#[]⟩] w fun e w' => e = .returned (.int .i64 5) ∧ Below w.heap.size w w' := by
  go_enter Tryd.func39, Tryd.ntmps39
  go_wp2_with (go_at_call 66; refine (refParts_none _).mono ?_; rintro e w' ⟨rfl, rfl⟩)
  go_ret
  exact ⟨rfl, Below.refl _ _⟩
theorem ret_5 {p : ByteArray} {k : Nat} {x : List UInt8} (h : ¬ 64 < p.data.toList.length) (h0 : p.data.toList ≠ []) (hk : (spl p.data.toList)[k]? = some x) (hg : gp x = false) : chk p.data.toList = 5 :=
  chk_bad h h0 (by
    rw [Bool.eq_false_iff]
    intro ha
    have := List.all_eq_true.1 ha x (List.mem_of_getElem? hk)
    rw [hg] at this
    cases this)
set_option maxRecDepth 100000 in
set_option maxHeartbeats 4000000 in
theorem refCheck_main (p : ByteArray) (w : World) (h : ¬ 64 < p.size) (hne : ¬ p.size = 0) : Calls Tryd.prog 39 #[.string p] w (Checked p w) := by
  have hi : ¬ (64 : Int) < (p.size : Int) := by omega
  have hi2 : (p.size : Int) ≤ 64 := by omega
  obtain ⟨n, hn⟩ : ∃ n, (spl p.data.toList).length = n := ⟨_, rfl⟩
  have hsz := size_list p
  have hn1 : n ≤ 65 := by have := spl_len p.data.toList; omega
  have hn0 : 0 < n := by have := List.length_pos_iff.2 (spl_ne p.data.toList); omega
  have hnz : ((n : Int) == 0) = false := by rw [beq_eq_false_iff_ne]; omega
  have B5 : Hid (∀ (k : Nat) (x : List UInt8), (spl p.data.toList)[k]? = some x → gp x = false → chk p.data.toList = 5) := Lib.hid fun k x hk hg => ret_5 (by omega) (fun e => hne (by rw [← hsz, e]; rfl)) hk hg
  have B0 : Hid ((spl p.data.toList).all gp = true → chk p.data.toList = 0) := Lib.hid fun ha => chk_good (by omega) (fun e => hne (by rw [← hsz, e]; rfl)) ha
  have PL : Hid (∀ x ∈ spl p.data.toList, x.length ≤ 64) := Lib.hid fun x hx => by have := spl_part hx; omega
  go_enter Tryd.func39, Tryd.ntmps39
  go_wp2_with fail
  refine (refParts_any p w (by omega) hne).mono ?_
  rintro e w1 ⟨v, rfl, hown, hb1⟩
  obtain ⟨g, cap, rfl, hcap, hmx, hg, hcs⟩ := own_cells hown (by rw [List.length_map, hn]; exact hn0)
  rw [List.length_map, hn] at hcap ⊢
  have HN := Lib.hid hn
  have HB := Lib.hid hb1
  have HC : Hid (∀ (k : Nat) (x : List UInt8), (spl p.data.toList)[k]? = some x → w1.cell? ⟨g, k, none⟩ = some (.string (mk x))) := Lib.hid fun k x hk => hcs k (mk x) (by rw [List.getElem?_map, hk]; rfl)
  unfold maxLen at hmx
  clear hcs hown hb1 hn hsz
  go_wp2_with fail
  go_loopw [4] (fun i wr => ∃ k : Nat, i = .int .i64 k ∧ k ≤ n ∧ SameW wr w1 ∧ Hid (∀ j x, j < k → (spl p.data.toList)[j]? = some x → gp x = true)) (fun i _ => n - (intOf i).toNat)
  case atStart => exact ⟨0, rfl, Nat.zero_le _, rfl, Lib.hid fun j x hj => absurd hj (Nat.not_lt_zero _)⟩
  case round =>
    obtain ⟨k, rfl, hk, hw, hall⟩ := hrel
    unfold SameW at hw
    subst hw
    by_cases hlt : k < n
    · obtain ⟨x, hx⟩ : ∃ x, (spl p.data.toList)[k]? = some x := ⟨_, List.getElem?_eq_getElem (by rw [HN.out]; exact hlt)⟩
      have hcell := HC.out k x hx
      have hxl := PL.out x (List.mem_of_getElem? hx)
      have HX := Lib.hid hx
      clear hx
      obtain ⟨y, hy⟩ : ∃ y, mk x = y := ⟨_, rfl⟩
      have hyx : y.data.toList = x := by rw [← hy, toList_mk]
      rw [hy] at hcell
      have hys : y.size ≤ 64 := by rw [← hy, mk_size]; exact hxl
      clear hy hxl
      by_cases e0 : y.data.toList = []
      · obtain rfl := bytes_eq (b := ⟨#[]⟩) e0
        have H5 := Lib.hid (B5.out k x HX.out (by rw [← hyx]; rfl))
        clear e0 hyx
        go_wp2
        go_ret
        exact ⟨ret_i H5.out.symm, HB.out⟩
      by_cases e1 : y.data.toList = [46]
      · obtain rfl := bytes_eq (b := ⟨#[46]⟩) e1
        have H5 := Lib.hid (B5.out k x HX.out (by rw [← hyx]; rfl))
        clear e0 e1 hyx
        go_wp2
        go_ret
        exact ⟨ret_i H5.out.symm, HB.out⟩
      by_cases e2 : y.data.toList = [46, 46]
      · obtain rfl := bytes_eq (b := ⟨#[46, 46]⟩) e2
        have H5 := Lib.hid (B5.out k x HX.out (by rw [← hyx]; rfl))
        clear e0 e1 e2 hyx
        go_wp2
        go_ret
        exact ⟨ret_i H5.out.symm, HB.out⟩
      have q0 : ¬ y.toList = [] := by rw [ByteArray.toList_eq]; exact e0
      have q0' : y.toList.isEmpty = false := by rw [List.isEmpty_eq_false_iff]; exact q0
      have q1 : ¬ y.toList = [46] := by rw [ByteArray.toList_eq]; exact e1
      have q1' : (y.toList == [46]) = false := by rw [beq_eq_false_iff_ne]; exact q1
      have q2 : ¬ y.toList = [46, 46] := by rw [ByteArray.toList_eq]; exact e2
      have q2' : (y.toList == [46, 46]) = false := by rw [beq_eq_false_iff_ne]; exact q2
      have E := Lib.hid (And.intro e0 (And.intro e1 e2))
      have HYX := Lib.hid hyx
      have HYS := Lib.hid (size_list y)
      clear e0 e1 e2 hyx
      go_wp2_with fail
      go_loopw [5] (fun i wq => ∃ j : Nat, i = .int .i64 j ∧ j ≤ y.size ∧ SameW wq wr ∧ Hid (∀ i (hi : i < y.data.toList.length), i < j → gbv (y.data.toList[i].toNat : Int) = true)) (fun i _ => y.size - (intOf i).toNat)
      case atStart => exact ⟨0, rfl, Nat.zero_le _, rfl, Lib.hid fun i hi hj => absurd hj (Nat.not_lt_zero _)⟩
      case round =>
        obtain ⟨j, rfl, hj, hw, hgood⟩ := hrel
        unfold SameW at hw
        subst hw
        by_cases hjy : j < y.size
        · have hjl : j < y.data.toList.length := by rw [HYS.out]; exact hjy
          have hc0 : (0 : Int) ≤ (y[j].toNat : Int) := Int.natCast_nonneg _
          have hc1 : (y[j].toNat : Int) ≤ 255 := by have := y[j].toNat_lt; omega
          have GA := Lib.hid (good_any (y[j].toNat : Int) wr hc0 hc1)
          cases hgb : gbv (y[j].toNat : Int) with
          | false =>
            rw [hgb] at GA
            have H5 := Lib.hid (B5.out k x HX.out (by rw [← HYX.out]; exact gp_bad hjl hgb))
            clear hgb
            go_wp2_with (go_at_call 67; refine GA.out.mono ?_; rintro e w' ⟨rfl, rfl⟩)
            go_ret
            exact ⟨ret_i H5.out.symm, HB.out⟩
          | true =>
            rw [hgb] at GA
            have HG : Hid (∀ i (hi : i < y.data.toList.length), i < j + 1 → gbv (y.data.toList[i].toNat : Int) = true) := Lib.hid fun i hi hij => by
              by_cases e : i = j
              · subst e; exact hgb
              · exact hgood.out i hi (by omega)
            clear hgb hgood
            go_wp2_with (go_at_call 67; refine GA.out.mono ?_; rintro e w' ⟨rfl, rfl⟩)
            go_roundw
            case rel => exact ⟨j + 1, by go_num, hjy, rfl, HG⟩
            case measure => simp [intOf]; omega
        · have HP : Hid (∀ j x, j < k + 1 → (spl p.data.toList)[j]? = some x → gp x = true) := Lib.hid fun i z hi hz => by
            by_cases e : i = k
            · subst e
              obtain rfl : x = z := Option.some.inj (HX.out.symm.trans hz)
              rw [← HYX.out]
              exact gp_all E.out.1 E.out.2.1 E.out.2.2 fun t ht => hgood.out t ht (by rw [HYS.out] at ht; omega)
            · exact hall.out i z (by omega) hz
          clear hgood hall
          go_wp2
          go_roundw
          case rel => exact ⟨k + 1, by go_num, hlt, rfl, HP⟩
          case measure => simp [intOf]; omega
    · have H0 := Lib.hid (B0.out (by
        rw [List.all_eq_true]
        intro x hx
        obtain ⟨j, hj, rfl⟩ := List.getElem_of_mem hx
        exact hall.out j _ (by rw [HN.out] at hj; omega) (List.getElem?_eq_getElem hj)))
      clear hall
      go_wp2
      go_ret
      exact ⟨ret_i H0.out.symm, HB.out⟩
theorem refCheck_any (p : ByteArray) (w : World) (hp : p.size ≤ 9223372036854775807) : Calls Tryd.prog 39 #[.string p] w (Checked p w) := by
  by_cases h : 64 < p.size
  · refine (refCheck_long p w hp h).mono ?_
    rintro e w' ⟨rfl, hb⟩
    exact ⟨ret_i (chk_long (by rw [size_list]; exact h)).symm, hb⟩
  · by_cases h0 : p.size = 0
    · obtain rfl := nil_of h0
      exact refCheck_none w
    · exact refCheck_main p w h h0
end Go.Proofs.YtplleaimmmanhaaDoor
namespace Go.Proofs.YtplleaimmmanhaaDoor
open Go Go.RowKit
set_option maxHeartbeats 1000000 in
theorem under_any (p d : ByteArray) (w : World) (hp : p.size ≤ 1000000) (hd : d.size ≤ 1000000) : Calls Tryd.prog 70 #[.string p, .string d] w fun e w' => e = .returned (.bool (und p.data.toList d.data.toList)) ∧ w = w' := by
  by_cases hd0 : d.size = 0
  · obtain rfl := nil_of hd0
    by_cases hp0 : p.size = 0
    · obtain rfl := nil_of hp0
      go_enter Tryd.func70, Tryd.ntmps70
      go_wp2
      go_ret
      exact ⟨rfl, rfl⟩
    · obtain ⟨q1, q2⟩ := not_nil hp0
      have HU : Hid (und p.data.toList [] = true) := Lib.hid (und_root (by rw [← ByteArray.toList_eq]; exact q1))
      go_enter Tryd.func70, Tryd.ntmps70
      go_wp2
      go_ret
      exact ⟨ret_b HU.out.symm, rfl⟩
  · obtain ⟨q1, q2⟩ := not_nil hd0
    have hne : d.data.toList ≠ [] := by rw [← ByteArray.toList_eq]; exact q1
    by_cases hl : d.size + 1 < p.size
    · have hli : (d.size : Int) + 1 < (p.size : Int) := by omega
      have hli2 : (d.size : Int) < (p.size : Int) := by omega
      have hlt : d.size < p.size := by omega
      have hU := und_long (p := p.data.toList) hne (by rw [size_list, size_list]; exact hl)
      have hget : p.data.toList[d.data.toList.length]? = some p[d.size] := by rw [size_list]; exact List.getElem?_eq_getElem (by rw [size_list]; exact hlt)
      have htk : (p.extract 0 d.size).data.toList = p.data.toList.take d.data.toList.length := by rw [size_list]; exact Lib.extract_from_zero p d.size
      rw [hget, ← htk] at hU
      have HU := Lib.hid hU
      clear hU hget htk
      by_cases h47 : p[d.size] = 47
      · have b1 : ((p[d.size].toNat : Int) == 47) = true := by rw [h47]; rfl
        have b1' : (p[d.size].toNat : Int) = 47 := by rw [h47]; rfl
        by_cases he : p.extract 0 d.size = d
        · have c1 : (p.extract 0 d.size).toList = d.toList := by rw [he]
          have c2 : ((p.extract 0 d.size).toList == d.toList) = true := by rw [c1]; simp
          have HE : Hid (und p.data.toList d.data.toList = true) := by show und _ _ = true; rw [HU.out, h47, he]; simp
          clear HU h47 he
          go_enter Tryd.func70, Tryd.ntmps70
          go_wp2
          go_ret
          exact ⟨ret_b HE.out.symm, rfl⟩
        · have c1 : ¬ (p.extract 0 d.size).toList = d.toList := by rw [ByteArray.toList_eq, ByteArray.toList_eq]; exact fun e => he (bytes_eq e)
          have c2 : ((p.extract 0 d.size).toList == d.toList) = false := by rw [beq_eq_false_iff_ne]; exact c1
          have HE : Hid (und p.data.toList d.data.toList = false) := by
            show und _ _ = false
            rw [HU.out]
            have : ((p.extract 0 d.size).data.toList == d.data.toList) = false := by rw [beq_eq_false_iff_ne]; exact fun e => he (bytes_eq e)
            rw [this, Bool.and_false]
          clear HU h47 he
          go_enter Tryd.func70, Tryd.ntmps70
          go_wp2
          go_ret
          exact ⟨ret_b HE.out.symm, rfl⟩
      · have b1' : ¬ (p[d.size].toNat : Int) = 47 := fun e => h47 (UInt8.toNat_inj.1 (by show p[d.size].toNat = 47; omega))
        have b1 : ((p[d.size].toNat : Int) == 47) = false := by rw [beq_eq_false_iff_ne]; exact b1'
        have HE : Hid (und p.data.toList d.data.toList = false) := by
          show und _ _ = false
          rw [HU.out]
          have : (some p[d.size] == some (47 : UInt8)) = false := by rw [beq_eq_false_iff_ne]; exact fun e => h47 (Option.some.inj e)
          rw [this, Bool.false_and]
        clear HU h47
        by_cases he : (p.extract 0 d.size).toList = d.toList
        · have c2 : ((p.extract 0 d.size).toList == d.toList) = true := by rw [he]; simp
          go_enter Tryd.func70, Tryd.ntmps70
          go_wp2
          go_ret
          exact ⟨ret_b HE.out.symm, rfl⟩
        · have c2 : ((p.extract 0 d.size).toList == d.toList) = false := by rw [beq_eq_false_iff_ne]; exact he
          go_enter Tryd.func70, Tryd.ntmps70
          go_wp2
          go_ret
          exact ⟨ret_b HE.out.symm, rfl⟩
    · have hli : ¬ (d.size : Int) + 1 < (p.size : Int) := by omega
      have HE : Hid (und p.data.toList d.data.toList = false) := Lib.hid (und_short hne (by rw [size_list, size_list]; exact hl))
      go_enter Tryd.func70, Tryd.ntmps70
      go_wp2
      go_ret
      exact ⟨ret_b HE.out.symm, rfl⟩

set_option maxHeartbeats 1000000 in
theorem clash_any (a b : ByteArray) (w : World) (ha : a.size ≤ 1000000) (hb : b.size ≤ 1000000) : Calls Tryd.prog 43 #[.string a, .string b] w fun e w' => e = .returned (.bool (cls a.data.toList b.data.toList)) ∧ w = w' := by
  by_cases ha0 : a.size = 0
  · obtain rfl := nil_of ha0
    go_enter Tryd.func43, Tryd.ntmps43
    go_wp2
    go_ret
    exact ⟨rfl, rfl⟩
  · obtain ⟨q1, q2⟩ := not_nil ha0
    have n1 : a.data.toList ≠ [] := by rw [← ByteArray.toList_eq]; exact q1
    by_cases hb0 : b.size = 0
    · obtain rfl := nil_of hb0
      have HE : Hid (cls a.data.toList [] = false) := by show cls _ [] = false; unfold cls; simp
      go_enter Tryd.func43, Tryd.ntmps43
      go_wp2
      go_ret
      exact ⟨ret_b HE.out.symm, rfl⟩
    · obtain ⟨q3, q4⟩ := not_nil hb0
      have n2 : b.data.toList ≠ [] := by rw [← ByteArray.toList_eq]; exact q3
      have HE : Hid (cls a.data.toList b.data.toList = (und a.data.toList b.data.toList || und b.data.toList a.data.toList)) := Lib.hid (cls_of n1 n2)
      have U1 := Lib.hid fun W => under_any a b W ha hb
      have U2 := Lib.hid fun W => under_any b a W hb ha
      generalize und a.data.toList b.data.toList = x at *
      generalize und b.data.toList a.data.toList = y at *
      cases x with
      | true =>
        go_enter Tryd.func43, Tryd.ntmps43
        go_wp2_with fail
        refine (U1.out _).mono ?_
        rintro e w' ⟨rfl, rfl⟩
        go_wp2_with fail
        go_ret
        exact ⟨ret_b HE.out.symm, rfl⟩
      | false =>
        go_enter Tryd.func43, Tryd.ntmps43
        go_wp2_with fail
        refine (U1.out _).mono ?_
        rintro e w' ⟨rfl, rfl⟩
        go_wp2_with fail
        refine (U2.out _).mono ?_
        rintro e w' ⟨rfl, rfl⟩
        go_wp2_with fail
        go_ret
        exact ⟨ret_b HE.out.symm, rfl⟩

end Go.Proofs.YtplleaimmmanhaaDoor
namespace Go.Proofs.YtplleaimmmanhaaDoor
open Go.RowKit

def RiseTo (l : List Fl) (w : World) (e : Ending) (w' : World) : Prop := ∃ b : Bool, e = .returned (.bool b) ∧ (b = true ↔ RiseF l) ∧ ∃ q, w' = w.drewN q
set_option maxHeartbeats 4000000 in
theorem rises_any (w : World) (v : Value) (l : List Fl) (h : Reads 3 cF w v l) (hl : l.length ≤ 100000) :
    Calls Tryd.prog 9 #[v] w (RiseTo l w) := by
  obtain ⟨A, c, rfl⟩ := h.form
  have HO := Lib.hid h
  clear h
  go_enter Tryd.func9, Tryd.ntmps9
  go_wp2
  go_loopw [3] (fun s3 wr => ∃ k q : Nat, k ≤ l.length ∧ s3 = .int .i64 ((k + 1 : Nat) : Int) ∧ Hid (∀ (t : Nat) (x y : Fl), t < k → l[t]? = some x → l[t + 1]? = some y → cb x.1 y.1 < 0) ∧ wr = w.drewN q) (fun s3 _ => l.length + 1 - (intOf s3).toNat)
  case atStart => exact ⟨0, 0, Nat.zero_le _, rfl, Lib.hid (fun t x y ht => absurd ht (Nat.not_lt_zero _)), rfl⟩
  case round =>
    obtain ⟨k, q, hk, rfl, hp, rfl⟩ := hrel
    obtain ⟨m, hm⟩ : ∃ m, m = k + 1 := ⟨_, rfl⟩
    rw [← hm]
    have HM := Lib.hid hm
    by_cases hlt : k + 1 < l.length
    · obtain ⟨x, hx⟩ : ∃ x, l[k]? = some x := ⟨_, List.getElem?_eq_getElem (by omega)⟩
      obtain ⟨y, hy⟩ : ∃ y, l[k + 1]? = some y := ⟨_, List.getElem?_eq_getElem hlt⟩
      obtain ⟨ad, rfl, c0, c1, c2⟩ := Fils.at_ HO.out hx
      obtain ⟨ad', had, d0, d1, d2⟩ := Fils.at_ HO.out hy
      obtain rfl := Option.some.inj had
      have HX := Lib.hid hx
      have HY := Lib.hid hy
      obtain ⟨px, mx, sx⟩ := x
      obtain ⟨py, my, sy⟩ := y
      have hw : IntKind.i64.wrap ((m : Int) - 1) = (k : Int) := by rw [IntKind.wrap_i64] <;> omega
      rw [← hm] at d0 d1 d2
      have k0 : (0 : Int) ≤ (k : Int) := Int.natCast_nonneg _
      have k1 : (m : Int) < (l.length : Int) := by omega
      have k3 : (0 : Int) ≤ (m : Int) := Int.natCast_nonneg _
      have k2 : (k : Int) < (l.length : Int) := by omega
      have hlc := less_cb px py
      clear hx hy hm
      by_cases hc : cb px py < 0
      · have hls : Op.bytesLess px.toList py.toList = true := by rw [hlc]; exact decide_eq_true hc
        have HC := Lib.hid hc
        clear hlc
        go_wp2_with fail
        go_quiet (fail)
        go_wp2
        go_roundw
        case rel => exact ⟨k + 1, _, by omega, by rw [← HM.out]; go_num, Lib.hid (fun t a b ht ha hb => by
          rcases Nat.lt_or_ge t k with h1 | h1
          · exact hp.out t a b h1 ha hb
          · obtain rfl : t = k := by omega
            rw [HX.out] at ha
            rw [HY.out] at hb
            rw [← Option.some.inj ha, ← Option.some.inj hb]
            exact HC.out), rfl⟩
        case measure => have := HM.out; simp [intOf]; omega
      · have hls : Op.bytesLess px.toList py.toList = false := by rw [hlc]; exact decide_eq_false hc
        have HC := Lib.hid hc
        clear hlc
        go_wp2_with fail
        go_quiet (fail)
        go_wp2
        go_ret
        exact ⟨_, rfl, ⟨(fun h => by cases h), fun hr => absurd (rise_at hr HX.out HY.out) (Int.not_lt.2 HC.out)⟩, q + nq, drewN_two w q nq⟩
    · have hlt' : ¬ (m : Int) < (l.length : Int) := by omega
      clear hm
      go_wp2
      go_ret
      exact ⟨_, rfl, ⟨fun _ => rise_adj l fun t x y hx hy => hp.out t x y (by have := (List.getElem?_eq_some_iff.1 hy).1; omega) hx hy, fun _ => rfl⟩, _, rfl⟩
end Go.Proofs.YtplleaimmmanhaaDoor
namespace Go.Proofs.YtplleaimmmanhaaDoor
open Go.RowKit

def BoolTo (b : Bool) (w : World) (e : Ending) (w' : World) : Prop := e = .returned (.bool b) ∧ ∃ q, w' = w.drewN q

theorem prefix_all {α : Type} {a b : List α} {n : Nat} (h : ∀ i, i < n → a[i]? = b[i]?) (ha : a.length = n) (hb : b.length = n) : a = b := by
  apply List.ext_getElem?
  intro i
  by_cases hi : i < n
  · exact h i hi
  · rw [List.getElem?_eq_none (by omega), List.getElem?_eq_none (by omega)]

set_option maxHeartbeats 4000000 in
theorem equalF_any (w : World) (v u : Value) (a b : List Fl) (h : Reads 3 cF w v a) (g : Reads 3 cF w u b) :
    Calls Tryd.prog 33 #[v, u] w (BoolTo (decide (a = b)) w) := by
  obtain ⟨A, c, rfl⟩ := h.form
  obtain ⟨B, d, rfl⟩ := g.form
  have hn := h.len
  have gn := g.len
  have hm1 : a.length ≤ 9223372036854775807 := by have := hn.2; unfold maxLen at this; omega
  have hm2 : b.length ≤ 9223372036854775807 := by have := gn.2; unfold maxLen at this; omega
  have HA := Lib.hid h
  have HB := Lib.hid g
  clear h g hn gn
  by_cases hnm : a.length = b.length
  · have hi0 : (a.length : Int) = (b.length : Int) := by omega
    have HN := Lib.hid hnm
    clear hnm
    go_enter Tryd.func33, Tryd.ntmps33
    go_wp2
    go_loopw [5, 13] (fun _ s13 wr => ∃ k q : Nat, k ≤ b.length ∧ s13 = .int .i64 k ∧ Hid (∀ i, i < k → a[i]? = b[i]?) ∧ wr = w.drewN q) (fun _ s13 _ => b.length - (intOf s13).toNat)
    case atStart => exact ⟨0, 0, Nat.zero_le _, rfl, Lib.hid (fun i hi => absurd hi (Nat.not_lt_zero _)), rfl⟩
    case round =>
      obtain ⟨k, q, hk, rfl, hp, rfl⟩ := hrel
      by_cases hlt : k < b.length
      · obtain ⟨x, hx⟩ : ∃ x, a[k]? = some x := ⟨_, List.getElem?_eq_getElem (by rw [HN.out]; exact hlt)⟩
        obtain ⟨y, hy⟩ : ∃ y, b[k]? = some y := ⟨_, List.getElem?_eq_getElem hlt⟩
        obtain ⟨ad, rfl, c0, c1, c2⟩ := Fils.at_ HA.out hx
        obtain ⟨ad2, rfl, d0, d1, d2⟩ := Fils.at_ HB.out hy
        have HX := Lib.hid hx
        have HY := Lib.hid hy
        have k0 : (0 : Int) ≤ (k : Int) := Int.natCast_nonneg _
        have k1 : (k : Int) < (b.length : Int) := by omega
        have HNE := Lib.hid (show x ≠ y → decide (a = b) = false from fun hne => decide_eq_false fun e => by
          rw [e, hy] at hx
          exact hne (Option.some.inj hx).symm)
        clear hx hy
        by_cases hxy : x = y
        · subst hxy
          obtain ⟨p, m, s⟩ := x
          go_wp2_with fail
          go_quiet (fail)
          go_wp2
          go_roundw
          case rel => exact ⟨k + 1, _, by omega, by go_num, Lib.hid (fun i hi => by
            rcases Nat.lt_or_ge i k with h1 | h1
            · exact hp.out i h1
            · obtain rfl : i = k := by omega
              rw [HX.out, HY.out]), rfl⟩
          case measure => simp [intOf]; omega
        · have HC := Lib.hid (HNE.out hxy)
          obtain ⟨p, m, s⟩ := x
          obtain ⟨p', m', s'⟩ := y
          by_cases h1 : p = p'
          · subst h1
            by_cases h2 : m = m'
            · subst h2
              have h3 : ¬ s = s' := fun e => hxy (by rw [e])
              have e3 : ¬ s.toList = s'.toList := fun e => h3 (tl_eq e)
              have e3' : (s.toList == s'.toList) = false := by simpa using e3
              clear h3 hxy
              go_wp2_with fail
              go_quiet (fail)
              go_wp2
              go_ret
              exact ⟨by rw [HC.out]; rfl, _, drewN_two _ _ _⟩
            · have e2' : (m == m') = false := by simpa using h2
              clear hxy
              go_wp2_with fail
              go_quiet (fail)
              go_wp2
              go_ret
              exact ⟨by rw [HC.out]; rfl, _, drewN_two _ _ _⟩
          · have e1 : ¬ p.toList = p'.toList := fun e => h1 (tl_eq e)
            have e1' : (p.toList == p'.toList) = false := by simpa using e1
            clear hxy h1
            go_wp2_with fail
            go_quiet (fail)
            go_wp2
            go_ret
            exact ⟨by rw [HC.out]; rfl, _, drewN_two _ _ _⟩
      · obtain rfl : k = b.length := by omega
        have HC : Hid (decide (a = b) = true) := Lib.hid (decide_eq_true (prefix_all hp.out HN.out rfl))
        go_wp2
        go_ret
        exact ⟨by rw [HC.out]; rfl, _, rfl⟩
  · have hi0 : ¬ (a.length : Int) = (b.length : Int) := by omega
    have HC : Hid (decide (a = b) = false) := Lib.hid (decide_eq_false fun e => hnm (by rw [e]))
    clear hnm
    go_enter Tryd.func33, Tryd.ntmps33
    go_wp2
    go_ret
    exact ⟨by rw [HC.out]; rfl, 0, rfl⟩

theorem sameF_any (w : World) (v u : Value) (a b : List Fl) (h : Reads 3 cF w v a) (g : Reads 3 cF w u b) :
    Calls Tryd.prog 14 #[v, u] w (BoolTo (decide (a = b)) w) := by
  have E := Lib.hid (equalF_any w v u a b h g)
  clear h g
  go_enter Tryd.func14, Tryd.ntmps14
  go_wp2_with fail
  refine E.out.mono ?_
  rintro e w' ⟨rfl, q, rfl⟩
  go_wp2
  go_ret
  exact ⟨rfl, q, rfl⟩
end Go.Proofs.YtplleaimmmanhaaDoor
namespace Go.Proofs.YtplleaimmmanhaaDoor
open Go Go.RowKit

/-- A closure that takes a file and has captured one thing: what it says, wherever all below B is as it was in w0. -/
def PBE (B : Nat) (w0 : World) (g : Nat) (c : Value) (p : En → Bool) : Prop :=
  ∀ (W : World) (x : En), Below B w0 W → x.1.size ≤ 1000000 → Calls Tryd.prog g #[.agg #[.string x.1, .int .i64 x.2.1, .int .i64 x.2.2.1, .string x.2.2.2.1, .int .i64 x.2.2.2.2.1, .int .i64 x.2.2.2.2.2], c] W fun e w' => e = .returned (.bool (p x)) ∧ Below W.heap.size W w'
def IdxToE (p : En → Bool) (l : List En) (w : World) (e : Ending) (w' : World) : Prop :=
  ∃ n : Int, e = .returned (.int .i64 n) ∧ Below w.heap.size w w' ∧ ((n = -1 ∧ l.any p = false) ∨ ∃ (i : Nat) (x : En), n = i ∧ l[i]? = some x ∧ p x = true ∧ (l.take i).any p = false)
def SizedE (l : List En) : Prop := ∀ x ∈ l, x.1.size ≤ 1000000
theorem SizedE.at_ {l : List En} (h : SizedE l) {i : Nat} {x : En} (hx : l[i]? = some x) : x.1.size ≤ 1000000 := h x (List.mem_of_getElem? hx)

set_option maxHeartbeats 2000000 in
theorem indexE_any (w0 w : World) (B : Nat) (hb : Below B w0 w) (hB : B ≤ w.heap.size) (v : Value) (l : List En) (g : Nat) (c : Value) (p : En → Bool) (h : Reads 6 cE w v l) (hs : SizedE l) (hl : l.length ≤ 100000)
    (eg : ∀ args w, (callFunc g args).run Tryd.prog w = .ok (.enter g args) w) (hp : PBE B w0 g c p) :
    Calls Tryd.prog 115 #[v, .func (.func g) #[] #[c]] w (IdxToE p l w) := by
  obtain ⟨A, cap, rfl⟩ := h.form
  have hn := h.len
  have HO := Lib.hid h
  have HP := Lib.hid hp
  have HS := Lib.hid hs
  clear h hn hp hs
  go_enter Tryd.func115, Tryd.ntmps115
  go_wp2
  go_loopw [5, 8] (fun _ s8 wr => ∃ k : Nat, k ≤ l.length ∧ s8 = .int .i64 k ∧ Below w.heap.size w wr ∧ Hid ((l.take k).any p = false)) (fun _ s8 _ => l.length - (intOf s8).toNat)
  case atStart => exact ⟨0, Nat.zero_le _, rfl, Below.refl _ _, Lib.hid (by simp)⟩
  case round =>
    obtain ⟨k, hk, rfl, hb1, A1⟩ := hrel
    by_cases hlt : k < l.length
    · obtain ⟨x, hx⟩ : ∃ x, l[k]? = some x := ⟨_, List.getElem?_eq_getElem hlt⟩
      obtain ⟨ad, rfl, c0, c1, c2, c3, c4, c5⟩ := Ents.at_ (HO.out.below hb1) hx
      have hcall := HP.out wr x (hb.trans (hb1.mono hB)) (HS.out.at_ hx)
      have HX := Lib.hid hx
      have HT : Hid (p x = false → (l.take (k + 1)).any p = false) := Lib.hid fun hq => by
        rw [take_snoc hx, List.any_append, A1.out]; simp [hq]
      clear hx
      cases hq : p x with
      | true =>
        rw [hq] at hcall
        have HQ := Lib.hid hq
        clear hq
        go_wp2_with (go_at_fn g; refine hcall.mono ?_; rintro e w' ⟨rfl, hb2⟩)
        go_ret
        exact ⟨_, rfl, hb1.trans (hb2.mono hb1.size), .inr ⟨k, x, rfl, HX.out, HQ.out, A1.out⟩⟩
      | false =>
        rw [hq] at hcall
        have HQ := Lib.hid hq
        clear hq
        go_wp2_with (go_at_fn g; refine hcall.mono ?_; rintro e w' ⟨rfl, hb2⟩)
        go_roundw
        case rel => exact ⟨k + 1, by omega, by go_num, hb1.trans (hb2.mono hb1.size), Lib.hid (HT.out HQ.out)⟩
        case measure => simp [intOf]; omega
    · obtain rfl : k = l.length := by omega
      go_wp2
      go_ret
      exact ⟨_, rfl, hb1, .inl ⟨rfl, by have := A1.out; rwa [List.take_length] at this⟩⟩

theorem any_hitE {l : List En} {p : En → Bool} {i : Nat} {x : En} (hx : l[i]? = some x) (hp : p x = true) : l.any p = true := List.any_eq_true.2 ⟨x, List.mem_of_getElem? hx, hp⟩

set_option maxHeartbeats 1000000 in
theorem containsE_any (w0 w : World) (B : Nat) (hb : Below B w0 w) (hB : B ≤ w.heap.size) (v : Value) (l : List En) (g : Nat) (c : Value) (p : En → Bool) (h : Reads 6 cE w v l) (hs : SizedE l) (hl : l.length ≤ 100000)
    (eg : ∀ args w, (callFunc g args).run Tryd.prog w = .ok (.enter g args) w) (hp : PBE B w0 g c p) :
    Calls Tryd.prog 94 #[v, .func (.func g) #[] #[c]] w (FlagTo (l.any p) w) := by
  have S := Lib.hid (indexE_any w0 w B hb hB v l g c p h hs hl eg hp)
  obtain ⟨A, cap, rfl⟩ := h.form
  clear h hs hp
  go_enter Tryd.func94, Tryd.ntmps94
  go_wp2_with fail
  refine S.out.mono ?_
  rintro e w' ⟨n, rfl, hb1, hn⟩
  rcases hn with ⟨rfl, hn⟩ | ⟨i, x, rfl, hx, hpx, -⟩
  · have HN := Lib.hid hn
    clear hn
    go_wp2_with fail
    go_ret
    exact ⟨ret_b HN.out.symm, hb1⟩
  · have HN := Lib.hid (any_hitE hx hpx)
    clear hx hpx
    go_wp2_with fail
    go_ret
    exact ⟨ret_b HN.out.symm, hb1⟩

end Go.Proofs.YtplleaimmmanhaaDoor
namespace Go.Proofs.YtplleaimmmanhaaDoor
open Go Go.RowKit

theorem flat_setE : ∀ (m : List En) (i : Nat) (x : En), i < m.length → (((((((m.flatMap cE).set (i * 6) (.string x.1)).set (i * 6 + 1) (.int .i64 x.2.1)).set (i * 6 + 2) (.int .i64 x.2.2.1)).set (i * 6 + 3) (.string x.2.2.2.1)).set (i * 6 + 4) (.int .i64 x.2.2.2.2.1)).set (i * 6 + 5) (.int .i64 x.2.2.2.2.2)) = (m.set i x).flatMap cE
  | [], _, _, h => by simp at h
  | y :: r, 0, x, _ => by simp [cE]
  | y :: r, i + 1, x, h => by
    have ih := flat_setE r i x (by simpa using h)
    rw [List.set_cons_succ, List.flatMap_cons, List.flatMap_cons, ← ih]
    have hc : (cE y).length = 6 := rfl
    rw [List.set_append_right _ _ (by rw [hc]; omega), List.set_append_right _ _ (by rw [hc]; omega), List.set_append_right _ _ (by rw [hc]; omega), List.set_append_right _ _ (by rw [hc]; omega), List.set_append_right _ _ (by rw [hc]; omega), List.set_append_right _ _ (by rw [hc]; omega), hc]
    congr 1
    rw [show (i + 1) * 6 - 6 = i * 6 by omega, show (i + 1) * 6 + 1 - 6 = i * 6 + 1 by omega, show (i + 1) * 6 + 2 - 6 = i * 6 + 2 by omega, show (i + 1) * 6 + 3 - 6 = i * 6 + 3 by omega, show (i + 1) * 6 + 4 - 6 = i * 6 + 4 by omega, show (i + 1) * 6 + 5 - 6 = i * 6 + 5 by omega]

def RowOwnE (B g cap n : Nat) (m : List En) (W : World) : Prop := W.ownsRow B 57 6 (.slice (some ⟨g, 0, none⟩) n cap) n (m.flatMap cE)
theorem RowOwnE.set {B g cap n : Nat} {m : List En} {W : World} (h : RowOwnE B g cap n m W) (hm : m.length = n) (i : Nat) (hi : i < n) (x : En) :
    RowOwnE B g cap n (m.set i x) ((((((W.setCell ⟨g, i * 6, none⟩ (.string x.1)).setCell ⟨g, i * 6 + 1, none⟩ (.int .i64 x.2.1)).setCell ⟨g, i * 6 + 2, none⟩ (.int .i64 x.2.2.1)).setCell ⟨g, i * 6 + 3, none⟩ (.string x.2.2.2.1)).setCell ⟨g, i * 6 + 4, none⟩ (.int .i64 x.2.2.2.2.1)).setCell ⟨g, i * 6 + 5, none⟩ (.int .i64 x.2.2.2.2.2)) := by
  unfold RowOwnE
  rw [← flat_setE m i x (by omega)]
  have h1 := (World.ownsRow.stored h (i * 6) (.string x.1)).1
  have h2 := (World.ownsRow.stored h1 (i * 6 + 1) (.int .i64 x.2.1)).1
  have h3 := (World.ownsRow.stored h2 (i * 6 + 2) (.int .i64 x.2.2.1)).1
  have h4 := (World.ownsRow.stored h3 (i * 6 + 3) (.string x.2.2.2.1)).1
  have h5 := (World.ownsRow.stored h4 (i * 6 + 4) (.int .i64 x.2.2.2.2.1)).1
  have h6 := (World.ownsRow.stored h5 (i * 6 + 5) (.int .i64 x.2.2.2.2.2)).1
  exact h6
theorem RowOwnE.below {B g cap n : Nat} {m : List En} {W W' : World} (h : RowOwnE B g cap n m W) (hb : Below W.heap.size W W') : RowOwnE B g cap n m W' := own_keep h hb
theorem RowOwnE.cellAt {B g cap n : Nat} {m : List En} {W : World} (h : RowOwnE B g cap n m W) {i : Nat} {x : En} (hx : m[i]? = some x) :
    W.cell? ⟨g, i * 6, none⟩ = some (.string x.1) ∧ W.cell? ⟨g, i * 6 + 1, none⟩ = some (.int .i64 x.2.1) ∧ W.cell? ⟨g, i * 6 + 2, none⟩ = some (.int .i64 x.2.2.1) ∧ W.cell? ⟨g, i * 6 + 3, none⟩ = some (.string x.2.2.2.1) ∧ W.cell? ⟨g, i * 6 + 4, none⟩ = some (.int .i64 x.2.2.2.2.1) ∧ W.cell? ⟨g, i * 6 + 5, none⟩ = some (.int .i64 x.2.2.2.2.2) := by
  have key : ∀ j u, (cE x)[j]? = some u → W.cell? ⟨g, i * 6 + j, none⟩ = some u := fun j u hu => by
    have hj : j < 6 := (List.getElem?_eq_some_iff.1 hu).1
    have := World.ownsRow.cells h rfl (i * 6 + j) u (by rw [flat_at cE_len m i j x hx hj]; exact hu)
    rwa [add_zero_addr] at this
  exact ⟨key 0 _ rfl, key 1 _ rfl, key 2 _ rfl, key 3 _ rfl, key 4 _ rfl, key 5 _ rfl⟩
theorem RowOwnE.frozenAt {B g cap n : Nat} {m : List En} {W : World} (h : RowOwnE B g cap n m W) (j : Nat) : W.frozen? ⟨g, j, none⟩ = false := World.ownsRow.frozenAt h j
theorem RowOwnE.isCell {B g cap n : Nat} {m : List En} {W : World} (h : RowOwnE B g cap n m W) (j : Nat) (hj : j < n * 6) : (W.cell? ⟨g, j, none⟩).isSome = true := by
  rw [World.ownsRow.cellAt h j hj, List.getElem?_eq_getElem (by rw [h.1]; exact hj)]; rfl

/-- The cells of n files that are none. -/
def zsE (n : Nat) : List Value := (Builtin.zeroCells #[.string ⟨#[]⟩, .int .i64 0, .int .i64 0, .string ⟨#[]⟩, .int .i64 0, .int .i64 0] n).toList
theorem zs_lenE (n : Nat) : (zsE n).length = n * 6 := by simp [zsE, Builtin.zeroCells]
theorem zs_oneE (n : Nat) : ∀ u ∈ zsE n, u.oneCell' = true := fun u hu => by
  simp [zsE, Builtin.zeroCells] at hu
  obtain ⟨i, _, rfl⟩ := hu
  have : i % 6 = 0 ∨ i % 6 = 1 ∨ i % 6 = 2 ∨ i % 6 = 3 ∨ i % 6 = 4 ∨ i % 6 = 5 := by omega
  rcases this with h | h | h | h | h | h <;> rw [h] <;> rfl
theorem run_clear_filesE (w : World) (ty : TypeId) (b o n c : Nat) (hn : 0 < n) (hc : ∀ j, j < n * 6 → (w.cell? ⟨b, o + j, none⟩).isSome = true) (hf : ∀ j, j < n * 6 → w.frozen? ⟨b, o + j, none⟩ = false) :
    (Builtin.clear_ #[54] ty #[.slice (some ⟨b, o, none⟩) n c]).run Tryd.prog w = .ok (.tuple #[]) (w.setCells b o (zsE n)) := by
  have hst := run_storeCells_cells (P := Tryd.prog) b o (zsE n) 0 w (by rw [zs_lenE]; simpa using hc) (by rw [zs_lenE]; simpa using hf) (zs_oneE n)
  simp only [Nat.add_zero] at hst
  obtain ⟨m, rfl⟩ : ∃ m, n = m + 1 := ⟨n - 1, by omega⟩
  unfold zsE at hst ⊢
  simp [Builtin.clear_, run_underlying Tryd.underlying54, Tryd.zeroValue57, Value.cells, hst]

/-- The files ahead, where those behind are cleared. -/
theorem reads_frontE {B g cap n : Nat} {m : List En} {W : World} (h : RowOwnE B g cap n m W) (hm : m.length = n) (i : Nat) (hi : i ≤ n) (k : Nat) :
    Reads 6 cE (W.setCells g (i * 6) (zsE k)) (.slice (some ⟨g, 0, none⟩) i cap) (m.take i) := by
  have hl : (m.take i).length = i := by rw [List.length_take]; omega
  have h2 := own_len h
  refine ⟨some ⟨g, 0, none⟩, cap, by rw [hl], by omega, h2.2.2, (fun e => by cases e), fun ad ha t x hx j u hu => ?_⟩
  obtain rfl := Option.some.inj ha
  have ht : t < i := by have := (List.getElem?_eq_some_iff.1 hx).1; omega
  have hj : j < 6 := (List.getElem?_eq_some_iff.1 hu).1
  have hx' : m[t]? = some x := by rwa [List.getElem?_take, if_pos ht] at hx
  have hc := World.ownsRow.cells h rfl (t * 6 + j) u (by rw [flat_at cE_len m t j x hx' hj]; exact hu)
  rw [add_zero_addr] at hc
  have := (World.cell?_setCells_out g (zsE k) (i * 6) W ⟨g, t * 6 + j, none⟩ (fun _ _ => .inl (by show t * 6 + j < i * 6; omega))).trans hc
  cases j with
  | zero => unfold adr; rw [add_zero_addr]; exact this
  | succ j => unfold adr; rw [add_zero_addr]; exact this
theorem below_setCellsE {N g : Nat} (hg : N ≤ g) {a : World} : ∀ (vs : List Value) (o : Nat) (w : World), Below N a w → Below N a (w.setCells g o vs)
  | [], _, _, h => h
  | v :: r, o, _, h => below_setCellsE hg r (o + 1) _ (h.setCell (p := ⟨g, o, none⟩) hg v)

theorem setCells_blkE {g : Nat} {t : TypeId} : ∀ (vs : List Value) (o : Nat) {w : World} {cs : Array Value}, w.heap[g]? = some (.cells cs t (0, 0)) →
    ∃ cs' : Array Value, (w.setCells g o vs).heap[g]? = some (.cells cs' t (0, 0)) ∧ cs'.size = cs.size ∧ ∀ j, j < o → cs'[j]? = cs[j]?
  | [], _, _, cs, h => ⟨cs, h, rfl, fun _ _ => rfl⟩
  | v :: r, o, w, cs, h => by
    have h1 : (w.setCell ⟨g, o, none⟩ v).heap[g]? = some (.cells (cs.setIfInBounds o v) t (0, 0)) := by
      simp [World.setCell, Array.getElem?_modify, h]
    obtain ⟨cs', k1, k2, k3⟩ := setCells_blkE r (o + 1) h1
    refine ⟨cs', k1, by rw [k2, Array.size_setIfInBounds], fun j hj => ?_⟩
    rw [k3 j (by omega), Array.getElem?_setIfInBounds_ne (by omega)]
theorem own_frontE {B g cap n : Nat} {m : List En} {W : World} (h : RowOwnE B g cap n m W) (hm : m.length = n) (i : Nat) (hi : i ≤ n) (vs : List Value) :
    (W.setCells g (i * 6) vs).ownsRow B 57 6 (.slice (some ⟨g, 0, none⟩) i cap) i ((m.take i).flatMap cE) := by
  have hA : ((m.take i).flatMap cE).length = i * 6 := by rw [flat_len cE_len, List.length_take, Nat.min_eq_left (by omega)]
  rcases h.2 with ⟨h1, _⟩ | ⟨g', cap', cur, hv, hB, hb, hn, hmx, hs, ht⟩
  · cases h1
  injection hv with e1 _ e3
  injection e1 with e1
  injection e1 with e1
  subst e1; subst e3
  obtain ⟨cs', k1, k2, k3⟩ := setCells_blkE vs (i * 6) hb
  refine ⟨hA, .inr ⟨g, cap, cs', rfl, hB, k1, by omega, hmx, by rw [k2, hs], ?_⟩⟩
  apply List.ext_getElem?
  intro j
  rw [List.getElem?_take]
  by_cases hj : j < i * 6
  · rw [if_pos hj, Array.getElem?_toList, k3 j hj]
    have h4 : (m.flatMap cE)[j]? = ((m.take i).flatMap cE)[j]? := by
      conv => lhs; rw [← List.take_append_drop i m, List.flatMap_append]
      rw [List.getElem?_append_left (by rw [hA]; exact hj)]
    rw [← h4, ← ht, List.getElem?_take, if_pos (by omega), Array.getElem?_toList]
  · rw [if_neg hj, List.getElem?_eq_none (by rw [hA]; omega)]

def KeptToE (B : Nat) (w0 : World) (l : List En) (e : Ending) (w' : World) : Prop := ∃ v, e = .returned v ∧ Reads 6 cE w' v l ∧ Below B w0 w' ∧ w'.ownsRow B 57 6 v l.length (l.flatMap cE)
theorem keep_snocE {p : En → Bool} {l : List En} {j : Nat} {x : En} (hx : l[j]? = some x) : (l.take (j + 1)).filter (fun x => !p x) = (l.take j).filter (fun x => !p x) ++ (if p x then [] else [x]) := by
  rw [take_snoc hx, List.filter_append]
  cases h : p x <;> simp [h]
theorem any_keepE {p : En → Bool} {l : List En} (h : l.any p = false) : l.filter (fun x => !p x) = l := List.filter_eq_self.2 fun x hx => by
  have : p x = false := by
    rw [Bool.eq_false_iff]
    intro e
    have := List.any_eq_true.2 ⟨x, hx, e⟩
    rw [h] at this; cases this
  simp [this]
theorem take_set_snocE {m : List En} {i : Nat} {x : En} (hi : i < m.length) : (m.set i x).take (i + 1) = m.take i ++ [x] := by
  have h : (m.set i x)[i]? = some x := by simp [hi]
  rw [take_snoc h, List.take_set_of_le (Nat.le_refl i)]
theorem drop_setE {m : List En} {i j : Nat} {x : En} (hij : i < j) : (m.set i x).drop j = m.drop j := List.drop_set_of_lt hij

set_option maxRecDepth 100000 in
set_option maxHeartbeats 4000000 in
theorem deleteE_any (w0 w : World) (B : Nat) (hb : Below B w0 w) (hB : B ≤ w.heap.size) (v : Value) (l : List En) (g : Nat) (c : Value) (p : En → Bool) (ho : w.ownsRow B 57 6 v l.length (l.flatMap cE)) (hs : SizedE l) (hl : l.length ≤ 100000)
    (eg : ∀ args w, (callFunc g args).run Tryd.prog w = .ok (.enter g args) w) (hp : PBE B w0 g c p) :
    Calls Tryd.prog 88 #[v, .func (.func g) #[] #[c]] w (KeptToE B w0 (l.filter fun x => !p x)) := by
  have R := Lib.hid (Reads.of_own cE_len ho)
  have S := Lib.hid (indexE_any w0 w B hb hB v l g c p R.out hs hl eg hp)
  have HP := Lib.hid hp
  have HS := Lib.hid hs
  have HO := Lib.hid ho
  obtain ⟨A, cap, rfl⟩ := own_form ho
  clear ho hp hs
  go_enter Tryd.func88, Tryd.ntmps88
  go_wp2_with fail
  refine S.out.mono ?_
  rintro e w1 ⟨n, rfl, hb1, hn⟩
  have B1 := hb.trans (hb1.mono hB)
  rcases hn with ⟨rfl, hn⟩ | ⟨i0, x0, rfl, hx0, hpx, hno⟩
  · have HN := Lib.hid hn
    clear hn
    go_wp2_with fail
    go_ret
    exact ⟨_, rfl, by rw [any_keepE HN.out]; exact R.out.below hb1, B1, by rw [any_keepE HN.out]; exact own_keep HO.out hb1⟩
  · have hi0 : i0 < l.length := (List.getElem?_eq_some_iff.1 hx0).1
    obtain ⟨gb, rfl, hgB⟩ : ∃ gb, A = some ⟨gb, 0, none⟩ ∧ B ≤ gb := by
      rcases HO.out.2 with ⟨_, h0⟩ | ⟨gb, cap', cur, hv, hgB, _⟩
      · omega
      · injection hv with e1; exact ⟨gb, e1, hgB⟩
    have K0 : Hid ((l.take (i0 + 1)).filter (fun x => !p x) = l.take i0) := Lib.hid (by rw [keep_snocE hx0, any_keepE hno, hpx]; simp)
    have O1 : Hid (RowOwnE B gb cap l.length l w1) := Lib.hid (own_keep HO.out hb1)
    have hm1 : ((i0 : Int) == -1) = false := by rw [beq_eq_false_iff_ne]; omega
    clear hx0 hpx hno S R HO
    go_wp2_with fail
    go_loopw [5, 6, 7] (fun s5 s6 _ wr => ∃ (i j : Nat) (m : List En), s5 = .int .i64 i ∧ s6 = .int .i64 j ∧ i < j ∧ j ≤ l.length ∧ Below B w0 wr ∧ B ≤ wr.heap.size ∧ Hid (m.length = l.length) ∧ Hid (RowOwnE B gb cap l.length m wr) ∧ Hid (m.take i = (l.take j).filter (fun x => !p x)) ∧ Hid (m.drop j = l.drop j)) (fun _ s6 _ _ => l.length - (intOf s6).toNat)
    case atStart => exact ⟨i0, i0 + 1, l, rfl, by go_num, by omega, by omega, B1, by have := B1.size; have := hb1.size; omega, Lib.hid rfl, O1, Lib.hid K0.out.symm, Lib.hid rfl⟩
    case round =>
      obtain ⟨i, j, m, rfl, rfl, hij, hj, hbr, hBr, HM, OM, HT, HD⟩ := hrel
      by_cases hlt : j < l.length
      · obtain ⟨x, hx⟩ : ∃ x, l[j]? = some x := ⟨_, List.getElem?_eq_getElem hlt⟩
        have hxm : m[j]? = some x := by
          have h1 : (m.drop j)[0]? = (l.drop j)[0]? := by rw [HD.out]
          rw [List.getElem?_drop, List.getElem?_drop] at h1
          simpa [hx] using h1
        obtain ⟨c0, c1, c2, c3, c4, c5⟩ := OM.out.cellAt hxm
        have HK := Lib.hid (keep_snocE (p := p) hx)
        have hsx := HS.out.at_ hx
        clear hx hxm
        obtain ⟨W2, hW2⟩ : ∃ W2, W2 = wr.alloc (.cells #[.string x.1, .int .i64 x.2.1, .int .i64 x.2.2.1, .string x.2.2.2.1, .int .i64 x.2.2.2.2.1, .int .i64 x.2.2.2.2.2] 57) := ⟨_, rfl⟩
        have b2 : Below wr.heap.size wr W2 := by rw [hW2]; exact (Below.refl _ _).alloc (Nat.le_refl _) _
        have BW2 : Below B w0 W2 := hbr.trans (b2.mono hBr)
        have hcall := HP.out W2 x BW2 hsx
        obtain ⟨q, hQ⟩ : ∃ q, q = wr.heap.size := ⟨_, rfl⟩
        have k2 : W2.heap[q]? = some (.cells #[.string x.1, .int .i64 x.2.1, .int .i64 x.2.2.1, .string x.2.2.2.1, .int .i64 x.2.2.2.2.1, .int .i64 x.2.2.2.2.2] 57 (0, 0)) := by rw [hW2, hQ]; exact heap_alloc_new wr _
        have hq2 : q < W2.heap.size := by rw [hW2, hQ]; simp
        have O2 := Lib.hid (OM.out.below b2)
        have hs2 : B ≤ W2.heap.size := Nat.le_trans hBr b2.size
        have HK2 := Lib.hid k2
        have HBW2 := Lib.hid BW2
        go_wp2_with fail
        rw [← hW2, ← hQ]
        clear hW2 hQ b2 BW2 k2 c0 c1 c2 c3 c4 c5 hbr hBr OM
        cases hpx : p x with
        | true =>
          rw [hpx] at hcall
          have HPX := Lib.hid hpx
          clear hpx
          refine hcall.mono ?_
          rintro e w3 ⟨rfl, b3⟩
          go_wp2_with fail
          go_roundw
          case rel => exact ⟨i, j + 1, m, rfl, by go_num, by omega, by omega, HBW2.out.trans (b3.mono hs2), by have := b3.size; omega, HM, Lib.hid (O2.out.below b3), Lib.hid (by rw [HK.out, HPX.out, HT.out]; simp), Lib.hid (by rw [← List.drop_drop, HD.out, List.drop_drop])⟩
          case measure => simp [intOf]; omega
        | false =>
          rw [hpx] at hcall
          have HPX := Lib.hid hpx
          clear hpx
          refine hcall.mono ?_
          rintro e w3 ⟨rfl, b3⟩
          have k3 : w3.heap[q]? = some (.cells #[.string x.1, .int .i64 x.2.1, .int .i64 x.2.2.1, .string x.2.2.2.1, .int .i64 x.2.2.2.2.1, .int .i64 x.2.2.2.2.2] 57 (0, 0)) := (b3.block q hq2).trans HK2.out
          have y0 := cell_of_row w3 q 0 _ 57 (0, 0) k3
          have y1 := cell_of_row w3 q 1 _ 57 (0, 0) k3
          have y2 := cell_of_row w3 q 2 _ 57 (0, 0) k3
          have y3 := cell_of_row w3 q 3 _ 57 (0, 0) k3
          have y4 := cell_of_row w3 q 4 _ 57 (0, 0) k3
          have y5 := cell_of_row w3 q 5 _ 57 (0, 0) k3
          have O3 := Lib.hid (O2.out.below b3)
          have him : i < m.length := by have := HM.out; omega
          obtain ⟨y, hy⟩ : ∃ y, m[i]? = some y := ⟨_, List.getElem?_eq_getElem him⟩
          obtain ⟨d0, d1, d2, d3, d4, d5⟩ := O3.out.cellAt hy
          have f0 := O3.out.frozenAt (i * 6)
          have f1 := O3.out.frozenAt (i * 6 + 1)
          have f2 := O3.out.frozenAt (i * 6 + 2)
          have f3 := O3.out.frozenAt (i * 6 + 3)
          have f4 := O3.out.frozenAt (i * 6 + 4)
          have f5 := O3.out.frozenAt (i * 6 + 5)
          have O4 := Lib.hid (O3.out.set HM.out i (by have := HM.out; omega) x)
          have hi1 : (i : Int) < (l.length : Int) := by omega
          have B3 := Lib.hid (HBW2.out.trans (b3.mono hs2))
          have hs3 : B ≤ w3.heap.size := by have := b3.size; omega
          have HIM := Lib.hid him
          clear hy k3 b3 hcall him
          go_wp2_with fail
          go_roundw
          case rel => exact ⟨i + 1, j + 1, m.set i x, by go_num, by go_num, by omega, by omega, ((((((B3.out.setCell (p := ⟨gb, i * 6, none⟩) hgB _).setCell (p := ⟨gb, i * 6 + 1, none⟩) hgB _).setCell (p := ⟨gb, i * 6 + 2, none⟩) hgB _).setCell (p := ⟨gb, i * 6 + 3, none⟩) hgB _).setCell (p := ⟨gb, i * 6 + 4, none⟩) hgB _).setCell (p := ⟨gb, i * 6 + 5, none⟩) hgB _), by simp; omega, Lib.hid (by rw [List.length_set]; exact HM.out), O4, Lib.hid (by rw [take_set_snocE HIM.out, HK.out, HPX.out, HT.out]; simp), Lib.hid (by rw [drop_setE (by omega), ← List.drop_drop, HD.out, List.drop_drop])⟩
          case measure => simp [intOf]; omega
      · obtain rfl : j = l.length := by omega
        have hcap : l.length ≤ cap := (own_len OM.out).2.1
        have hcm : cap ≤ 9223372036854775807 := by have := (own_len OM.out).2.2; unfold maxLen at this; omega
        have hci : ¬ cap = i := by omega
        have hic : (i : Int) ≤ (cap : Int) := by omega
        have hi1 : (i : Int) ≤ (l.length : Int) := by omega
        have hlc : (l.length : Int) ≤ (cap : Int) := by omega
        have hcl : ∀ ty c, (Builtin.clear_ #[54] ty #[.slice (some ⟨gb, i * 6, none⟩) (l.length - i) c]).run Tryd.prog wr = .ok (.tuple #[]) (wr.setCells gb (i * 6) (zsE (l.length - i))) := fun ty c =>
          run_clear_filesE wr ty gb (i * 6) (l.length - i) c (by omega) (fun t ht => OM.out.isCell _ (by omega)) (fun t _ => OM.out.frozenAt _)
        have HR := Lib.hid (reads_frontE OM.out HM.out i (by omega) (l.length - i))
        have HW2 := Lib.hid (own_frontE OM.out HM.out i (by omega) (zsE (l.length - i)))
        have HL := Lib.hid (show (l.filter fun x => !p x).length = i by
          have h := congrArg List.length HT.out
          rw [List.length_take, List.take_length, HM.out, Nat.min_eq_left (by omega)] at h
          exact h.symm)
        rw [HT.out, List.take_length] at HR HW2
        have HB2 := Lib.hid (below_setCellsE hgB (zsE (l.length - i)) (i * 6) wr hbr)
        clear hbr
        go_wp2_with fail
        go_ret
        exact ⟨_, rfl, HR.out, HB2.out, by rw [HL.out]; exact HW2.out⟩
end Go.Proofs.YtplleaimmmanhaaDoor
namespace Go.Proofs.YtplleaimmmanhaaDoor
open Go Go.RowKit

/-- The cells of an entry as a value. -/
abbrev eV (x : En) : Value := .agg #[.string x.1, .int .i64 x.2.1, .int .i64 x.2.2.1, .string x.2.2.2.1, .int .i64 x.2.2.2.2.1, .int .i64 x.2.2.2.2.2]
/-- By path, then by stage. -/
def ci (a b : Int) : Int := if a < b then -1 else if b < a then 1 else 0
def ec (a b : En) : Int := if cb a.1 b.1 ≠ 0 then cb a.1 b.1 else ci a.2.1 b.2.1
theorem nan_any (a : Int) (w : World) : Calls Tryd.prog 116 #[.int .i64 a] w fun e w' => e = .returned (.bool false) ∧ w = w' := by
  go_enter Tryd.func116, Tryd.ntmps116
  go_wp2
  go_ret
  exact ⟨ret_b (by simp), rfl⟩
set_option maxHeartbeats 1000000 in
theorem cmpInt_any (a b : Int) (w : World) : Calls Tryd.prog 91 #[.int .i64 a, .int .i64 b] w fun e w' => e = .returned (.int .i64 (ci a b)) ∧ w = w' := by
  have NA := Lib.hid fun x W => nan_any x W
  by_cases h1 : a < b
  · have HV := Lib.hid (show ci a b = -1 from if_pos h1)
    go_enter Tryd.func91, Tryd.ntmps91
    go_wp2_with fail
    refine (NA.out _ _).mono ?_
    rintro e w' ⟨rfl, rfl⟩
    go_wp2_with fail
    refine (NA.out _ _).mono ?_
    rintro e w' ⟨rfl, rfl⟩
    go_wp2_with fail
    go_ret
    exact ⟨ret_i HV.out.symm, rfl⟩
  · by_cases h2 : b < a
    · have HV := Lib.hid (show ci a b = 1 by unfold ci; rw [if_neg h1, if_pos h2])
      go_enter Tryd.func91, Tryd.ntmps91
      go_wp2_with fail
      refine (NA.out _ _).mono ?_
      rintro e w' ⟨rfl, rfl⟩
      go_wp2_with fail
      refine (NA.out _ _).mono ?_
      rintro e w' ⟨rfl, rfl⟩
      go_wp2_with fail
      go_ret
      exact ⟨ret_i HV.out.symm, rfl⟩
    · have HV := Lib.hid (show ci a b = 0 by unfold ci; rw [if_neg h1, if_neg h2])
      go_enter Tryd.func91, Tryd.ntmps91
      go_wp2_with fail
      refine (NA.out _ _).mono ?_
      rintro e w' ⟨rfl, rfl⟩
      go_wp2_with fail
      refine (NA.out _ _).mono ?_
      rintro e w' ⟨rfl, rfl⟩
      go_wp2_with fail
      go_ret
      exact ⟨ret_i HV.out.symm, rfl⟩

/-- cmp.Or of two: the first that is not 0. -/
def orV (a b : Int) : Int := if a ≠ 0 then a else b
set_option maxHeartbeats 1000000 in
theorem or_two (a b : Int) (g : Nat) (w : World) (hg : w.heap[g]? = some (.cells #[.int .i64 a, .int .i64 b] 3 (0, 0))) :
    Calls Tryd.prog 90 #[.slice (some ⟨g, 0, none⟩) 2 2] w fun e w' => e = .returned (.int .i64 (orV a b)) ∧ w = w' := by
  have c0 : w.cell? ⟨g, 0, none⟩ = some (.int .i64 a) := cell_of_row w g 0 _ 3 (0, 0) hg
  have c1 : w.cell? ⟨g, 1, none⟩ = some (.int .i64 b) := cell_of_row w g 1 _ 3 (0, 0) hg
  clear hg
  by_cases ha : a = 0
  · subst ha
    by_cases hb : b = 0
    · subst hb
      go_enter Tryd.func90, Tryd.ntmps90
      go_wp2
      refine wp_loop_rounds 3 ?_
      rw [rounds_succ]
      go_wp2
      rw [rounds_succ]
      go_wp2
      rw [rounds_succ]
      go_wp2
      go_ret
      exact ⟨rfl, rfl⟩
    · have hb1 : (b == 0) = false := by simpa using hb
      go_enter Tryd.func90, Tryd.ntmps90
      go_wp2
      refine wp_loop_rounds 3 ?_
      rw [rounds_succ]
      go_wp2
      rw [rounds_succ]
      go_wp2
      go_ret
      exact ⟨rfl, rfl⟩
  · have ha1 : (a == 0) = false := by simpa using ha
    have HV := Lib.hid (show orV a b = a from if_pos ha)
    go_enter Tryd.func90, Tryd.ntmps90
    go_wp2
    refine wp_loop_rounds 3 ?_
    rw [rounds_succ]
    go_wp2
    go_ret
    exact ⟨ret_i HV.out.symm, rfl⟩
/-! ### compare -/
def NumE (n : Int) (w : World) (e : Ending) (w' : World) : Prop := e = .returned (.int .i64 n) ∧ Below w.heap.size w w'
set_option maxRecDepth 100000 in
set_option maxHeartbeats 4000000 in
theorem ecmp_any (x y : En) (w : World) : Calls Tryd.prog 57 #[eV x, eV y] w (NumE (ec x y) w) := by
  obtain ⟨W2, hW2⟩ : ∃ W2, W2 = (w.alloc (.cells #[.string x.1, .int .i64 x.2.1, .int .i64 x.2.2.1, .string x.2.2.2.1, .int .i64 x.2.2.2.2.1, .int .i64 x.2.2.2.2.2] 57)).alloc (.cells #[.string y.1, .int .i64 y.2.1, .int .i64 y.2.2.1, .string y.2.2.2.1, .int .i64 y.2.2.2.2.1, .int .i64 y.2.2.2.2.2] 57) := ⟨_, rfl⟩
  have B2 := Lib.hid (show Below w.heap.size w W2 by rw [hW2]; exact ((Below.refl _ _).alloc (Nat.le_refl _) _).alloc (by simp) _)
  obtain ⟨A, hA⟩ : ∃ A, A = w.heap.size := ⟨_, rfl⟩
  obtain ⟨B, hB⟩ : ∃ B, B = w.heap.size + 1 := ⟨_, rfl⟩
  have kA : W2.heap[A]? = some (.cells #[.string x.1, .int .i64 x.2.1, .int .i64 x.2.2.1, .string x.2.2.2.1, .int .i64 x.2.2.2.2.1, .int .i64 x.2.2.2.2.2] 57 (0, 0)) := by rw [hW2, hA]; exact heap_alloc2_old w _ _
  have kB : W2.heap[B]? = some (.cells #[.string y.1, .int .i64 y.2.1, .int .i64 y.2.2.1, .string y.2.2.2.1, .int .i64 y.2.2.2.2.1, .int .i64 y.2.2.2.2.2] 57 (0, 0)) := by rw [hW2, hB]; exact heap_alloc2_new w _ _
  have lA : A < W2.heap.size := by rw [hW2, hA]; simp; omega
  have lB : B < W2.heap.size := by rw [hW2, hB]; simp
  have HSS : Hid (∀ W, Below W2.heap.size W2 W → (fun w' => w'.cell? ⟨A, 0, none⟩ = some (.string x.1) ∧ w'.cell? ⟨A, 1, none⟩ = some (.int .i64 x.2.1) ∧ w'.cell? ⟨B, 0, none⟩ = some (.string y.1) ∧ w'.cell? ⟨B, 1, none⟩ = some (.int .i64 y.2.1)) W) := Lib.hid fun W hW =>
    ⟨cell_of_row W A 0 _ 57 (0, 0) ((hW.block A lA).trans kA), cell_of_row W A 1 _ 57 (0, 0) ((hW.block A lA).trans kA), cell_of_row W B 0 _ 57 (0, 0) ((hW.block B lB).trans kB), cell_of_row W B 1 _ 57 (0, 0) ((hW.block B lB).trans kB)⟩
  have CP := Lib.hid fun W => (show Calls Tryd.prog 36 #[.string x.1, .string y.1] W fun e w' => e = .returned (.int .i64 (cb x.1 y.1)) ∧ W = w' from (comp_any x.1 y.1 W).mono fun _ _ h => ⟨h.1, h.2.symm⟩)
  have CI := Lib.hid fun W => cmpInt_any x.2.1 y.2.1 W
  have OR := Lib.hid fun W (h : W.heap[W2.heap.size]? = some (.cells #[.int .i64 (cb x.1 y.1), .int .i64 (ci x.2.1 y.2.1)] 3 (0, 0))) => or_two (cb x.1 y.1) (ci x.2.1 y.2.1) W2.heap.size W h
  have HEC : Hid (orV (cb x.1 y.1) (ci x.2.1 y.2.1) = ec x y) := Lib.hid rfl
  obtain ⟨z0, z1, z2, z3⟩ := HSS.out W2 (Below.refl _ _)
  have HA := Lib.hid hA
  have b2s := B2.out.size
  clear kA kB
  go_enter Tryd.func57, Tryd.ntmps57
  go_wp2_with fail
  rw [← hW2, ← hB, ← hA]
  clear hW2 hB hA
  refine wp_region_held_drew (S := fun w' => w'.cell? ⟨A, 0, none⟩ = some (.string x.1) ∧ w'.cell? ⟨A, 1, none⟩ = some (.int .i64 x.2.1) ∧ w'.cell? ⟨B, 0, none⟩ = some (.string y.1) ∧ w'.cell? ⟨B, 1, none⟩ = some (.int .i64 y.2.1)) (by kernel_rfl) (HSS.out W2 (Below.refl _ _)) (fun hHeld => ?_)
  refine wpAnyH_take (i := 0) (oi := { dst := some 5, op := Op.fieldAddr 57 (Operand.tmp 2) 0, type := 0, pos := "index.go:63", after := #[], guard := none }) (v := ?vp0) rfl (by kernel_rfl) (by kernel_rfl) (by kernel_rfl) (fun _ _ _ h => h) (Or.inl ⟨by rfl, ?yp0⟩) (by assumption) ?rp0
  case yp0 => (intro w' hSw; (try dsimp only at hSw); go_simp; try with_reducible rfl)
  try simp only [Act.put, List.setIfInBounds_toArray, List.set_cons_zero, List.set_cons_succ]
  refine wpAnyH_take (i := 1) (oi := { dst := some 6, op := Op.load 9 (Operand.tmp 5), type := 9, pos := "index.go:63", after := #[{ on := 0, ground := Ground.data }], guard := none }) (v := ?vp1) rfl (by kernel_rfl) (by kernel_rfl) (by kernel_rfl) (fun _ _ _ h => h) (Or.inl ⟨by rfl, ?yp1⟩) (by assumption) ?rp1
  case yp1 => (intro w' hSw; (try dsimp only at hSw); go_simp; try with_reducible rfl)
  try simp only [Act.put, List.setIfInBounds_toArray, List.set_cons_zero, List.set_cons_succ]
  refine wpAnyH_take (i := 2) (oi := { dst := some 7, op := Op.fieldAddr 57 (Operand.tmp 3) 0, type := 0, pos := "index.go:63", after := #[], guard := none }) (v := ?vp2) rfl (by kernel_rfl) (by kernel_rfl) (by kernel_rfl) (fun _ _ _ h => h) (Or.inl ⟨by rfl, ?yp2⟩) (by assumption) ?rp2
  case yp2 => (intro w' hSw; (try dsimp only at hSw); go_simp; try with_reducible rfl)
  try simp only [Act.put, List.setIfInBounds_toArray, List.set_cons_zero, List.set_cons_succ]
  refine wpAnyH_take (i := 3) (oi := { dst := some 8, op := Op.load 9 (Operand.tmp 7), type := 9, pos := "index.go:63", after := #[{ on := 2, ground := Ground.data }], guard := none }) (v := ?vp3) rfl (by kernel_rfl) (by kernel_rfl) (by kernel_rfl) (fun _ _ _ h => h) (Or.inl ⟨by rfl, ?yp3⟩) (by assumption) ?rp3
  case yp3 => (intro w' hSw; (try dsimp only at hSw); go_simp; try with_reducible rfl)
  try simp only [Act.put, List.setIfInBounds_toArray, List.set_cons_zero, List.set_cons_succ]
  refine wpAnyH_take (i := 5) (oi := { dst := some 10, op := Op.fieldAddr 57 (Operand.tmp 2) 1, type := 0, pos := "index.go:63", after := #[], guard := none }) (v := ?vp5) rfl (by kernel_rfl) (by kernel_rfl) (by kernel_rfl) (fun _ _ _ h => h) (Or.inl ⟨by rfl, ?yp5⟩) (by assumption) ?rp5
  case yp5 => (intro w' hSw; (try dsimp only at hSw); go_simp; try with_reducible rfl)
  try simp only [Act.put, List.setIfInBounds_toArray, List.set_cons_zero, List.set_cons_succ]
  refine wpAnyH_take (i := 6) (oi := { dst := some 11, op := Op.load 3 (Operand.tmp 10), type := 3, pos := "index.go:63", after := #[{ on := 5, ground := Ground.data }], guard := none }) (v := ?vp6) rfl (by kernel_rfl) (by kernel_rfl) (by kernel_rfl) (fun _ _ _ h => h) (Or.inl ⟨by rfl, ?yp6⟩) (by assumption) ?rp6
  case yp6 => (intro w' hSw; (try dsimp only at hSw); go_simp; try with_reducible rfl)
  try simp only [Act.put, List.setIfInBounds_toArray, List.set_cons_zero, List.set_cons_succ]
  refine wpAnyH_take (i := 7) (oi := { dst := some 12, op := Op.fieldAddr 57 (Operand.tmp 3) 1, type := 0, pos := "index.go:63", after := #[], guard := none }) (v := ?vp7) rfl (by kernel_rfl) (by kernel_rfl) (by kernel_rfl) (fun _ _ _ h => h) (Or.inl ⟨by rfl, ?yp7⟩) (by assumption) ?rp7
  case yp7 => (intro w' hSw; (try dsimp only at hSw); go_simp; try with_reducible rfl)
  try simp only [Act.put, List.setIfInBounds_toArray, List.set_cons_zero, List.set_cons_succ]
  refine wpAnyH_take (i := 8) (oi := { dst := some 13, op := Op.load 3 (Operand.tmp 12), type := 3, pos := "index.go:63", after := #[{ on := 7, ground := Ground.data }], guard := none }) (v := ?vp8) rfl (by kernel_rfl) (by kernel_rfl) (by kernel_rfl) (fun _ _ _ h => h) (Or.inl ⟨by rfl, ?yp8⟩) (by assumption) ?rp8
  case yp8 => (intro w' hSw; (try dsimp only at hSw); go_simp; try with_reducible rfl)
  try simp only [Act.put, List.setIfInBounds_toArray, List.set_cons_zero, List.set_cons_succ]
  refine wpAnyH_ready (rs := [4]) (by kernel_rfl) (by simp) ?_
  refine AllReadyH.cons (o := { dst := some 9, op := Op.call { callee := Callee.value (Operand.func 36), args := #[Operand.tmp 6, Operand.tmp 8], argTypes := #[9, 9] }, type := 3, pos := "index.go:63", after := #[{ on := 1, ground := Ground.data }, { on := 3, ground := Ground.data }], guard := none }) rfl (fun K hK => ?_) AllReadyH.nil
  go_simp
  refine (CP.out _).mono ?_
  rintro e w' ⟨rfl, rfl⟩
  go_wp2_with fail
  refine hK.out _ _ (HSS.out W2 (Below.refl _ _)) (fun hHeldp4 => ?_)
  clear hK K hHeld
  try simp only [Act.put, List.setIfInBounds_toArray, List.set_cons_zero, List.set_cons_succ]
  refine wpAnyH_ready (rs := [9]) (by kernel_rfl) (by simp) ?_
  refine AllReadyH.cons (o := { dst := some 14, op := Op.call { callee := Callee.value (Operand.func 91), args := #[Operand.tmp 11, Operand.tmp 13], argTypes := #[3, 3] }, type := 3, pos := "index.go:63", after := #[{ on := 6, ground := Ground.data }, { on := 8, ground := Ground.data }, { on := 4, ground := Ground.chain }], guard := none }) rfl (fun K hK => ?_) AllReadyH.nil
  go_simp
  refine (CI.out _).mono ?_
  rintro e w' ⟨rfl, rfl⟩
  go_wp2_with fail
  refine hK.out _ _ (HSS.out W2 (Below.refl _ _)) (fun hHeldp9 => ?_)
  clear hK K hHeldp4
  try simp only [Act.put, List.setIfInBounds_toArray, List.set_cons_zero, List.set_cons_succ]
  refine wpAnyH_ready (rs := [10]) (by kernel_rfl) (by simp) ?_
  refine AllReadyH.cons (o := { dst := some 15, op := Op.buildSlice 143 2 #[(0, Operand.tmp 9), (1, Operand.tmp 14)], type := 143, pos := "index.go:63", after := #[{ on := 4, ground := Ground.data }, { on := 9, ground := Ground.data }], guard := none }) rfl (fun K hK => ?_) AllReadyH.nil
  go_simp
  refine hK.out _ _ (HSS.out _ (((Below.refl _ _).alloc (Nat.le_refl _) _).drew)) (fun hHeldp10 => ?_)
  clear hK K hHeldp9
  try simp only [Act.put, List.setIfInBounds_toArray, List.set_cons_zero, List.set_cons_succ]
  refine wpAnyH_ready (rs := [11]) (by kernel_rfl) (by simp) ?_
  refine AllReadyH.cons (o := { dst := some 16, op := Op.call { callee := Callee.value (Operand.func 90), args := #[Operand.tmp 15], argTypes := #[143] }, type := 3, pos := "index.go:63", after := #[{ on := 10, ground := Ground.data }, { on := 9, ground := Ground.chain }], guard := none }) rfl (fun K hK => ?_) AllReadyH.nil
  go_simp
  refine (OR.out (World.drew (W2.alloc (.cells #[.int .i64 (cb x.1 y.1), .int .i64 (ci x.2.1 y.2.1)] 3))) (heap_alloc_new W2 _)).mono ?_
  rintro e w' ⟨rfl, rfl⟩
  go_wp2_with fail
  refine hK.out _ _ (HSS.out _ (((Below.refl _ _).alloc (Nat.le_refl _) _).drew)) (fun hHeldp11 => ?_)
  clear hK K hHeldp10
  try simp only [Act.put, List.setIfInBounds_toArray, List.set_cons_zero, List.set_cons_succ]
  refine wpAnyH_take (i := 12) (oi := { dst := some 4, op := Op.assign (Operand.tmp 16), type := 3, pos := "index.go:63", after := #[{ on := 11, ground := Ground.data }, { on := 11, ground := Ground.chain }, { on := 0, ground := Ground.phase }, { on := 1, ground := Ground.phase }, { on := 2, ground := Ground.phase }, { on := 3, ground := Ground.phase }, { on := 4, ground := Ground.phase }, { on := 5, ground := Ground.phase }, { on := 6, ground := Ground.phase }, { on := 7, ground := Ground.phase }, { on := 8, ground := Ground.phase }, { on := 9, ground := Ground.phase }, { on := 10, ground := Ground.phase }, { on := 11, ground := Ground.phase }], guard := none }) (v := ?vp12) rfl (by kernel_rfl) (by kernel_rfl) (by kernel_rfl) (fun _ _ _ h => h) (Or.inl ⟨by rfl, ?yp12⟩) (by assumption) ?rp12
  case yp12 => (intro w' hSw; (try dsimp only at hSw); go_simp; try with_reducible rfl)
  try simp only [Act.put, List.setIfInBounds_toArray, List.set_cons_zero, List.set_cons_succ]
  refine wpAnyH_done (by kernel_rfl) ?_ _
  go_wp2_with fail
  go_ret
  exact ⟨ret_i HEC.out, (B2.out.trans (((Below.refl _ _).alloc (Nat.le_refl _) _).mono b2s)).drew⟩
end Go.Proofs.YtplleaimmmanhaaDoor
namespace Go.Proofs.YtplleaimmmanhaaDoor
open Go.RowKit

set_option maxHeartbeats 2000000 in
theorem cloneF_any (w : World) (v : Value) (l : List Fl) (h : Reads 3 cF w v l) (hl : l.length ≤ 100000) :
    Calls Tryd.prog 69 #[v] w (OwnTo 42 3 cF l w) := by
  have q : ∀ (w : World) (a : Option Addr) (n c n' c' : Nat), (binOp .eql 23 (.slice a n c) (.slice none n' c')).run Tryd.prog w = .ok (.bool a.isNone) w := fun w a n c n' c' => Lib.run_eql_slice_nil w _ _ a n c n' c' Tryd.underlying23
  obtain ⟨A, c, rfl⟩ := h.form
  have HR := Lib.hid h
  cases A with
  | none =>
    have h0 : l = [] := by
      obtain ⟨A', c', hv, h1, h2, h3, _⟩ := h
      injection hv with e1 e2 e3
      subst e1; subst e3
      have := h3 rfl
      exact List.eq_nil_of_length_eq_zero (by omega)
    subst h0
    clear h
    go_enter Tryd.func69, Tryd.ntmps69
    go_wp2
    go_ret
    exact ⟨_, rfl, World.ownsRow_nil _ _ _ _, Below.refl _ _⟩
  | some ad =>
    have hm : w.heap.size ≤ (w.alloc (.cells #[] 42)).heap.size := by simp
    have hll : ([] : List Fl).length + l.length ≤ 1000000 := by simp; omega
    have O0 := Lib.hid (show (w.alloc (.cells #[] 42)).ownsRow w.heap.size 42 3 (.slice (some ⟨w.heap.size, 0, none⟩) 0 0) ([] : List Fl).length (([] : List Fl).flatMap cF) from World.ownsRow_made w #[] 0 (Nat.le_refl _) (Nat.zero_le _) rfl)
    clear h
    go_enter Tryd.func69, Tryd.ntmps69
    go_wp2_with (at_builtin; refine wpList_append_files _ rfl _ _ rfl w.heap.size _ [] l rfl O0.out _ _ _ rfl (HR.out.alloc _) hll hm ?_; intro A' c' w5 own5 b5 hg5)
    rw [List.nil_append] at own5
    have O5 := Lib.hid own5
    have B5 := Lib.hid (Below.trans ((Below.refl _ _).alloc (Nat.le_refl _) (.cells #[] 42)) b5)
    clear own5 b5 hg5
    go_ret
    exact ⟨_, rfl, O5.out, B5.out⟩
end Go.Proofs.YtplleaimmmanhaaDoor
namespace Go.Proofs.YtplleaimmmanhaaDoor
open Go.RowKit

theorem nrm_congr {a b : List ByteArray} (h : ∀ s, s ∈ a ↔ s ∈ b) : nrm a = nrm b := nrm_of (nrm_rise b) fun s => by rw [nrm_mem]; exact h s
/-- A tree with a file, instead of what was at its path. -/
def putF (l : List Fl) (f : Fl) : List Fl := (l.filter fun x => decide (cb x.1 f.1 < 0)) ++ f :: (l.filter fun x => decide (0 < cb x.1 f.1))
/-- A tree without the file at a path. -/
def cutF (l : List Fl) (p : ByteArray) : List Fl := l.filter fun x => decide (x.1 ≠ p)

section
variable {l : List Fl} {s : ByteArray} {i : Nat}
theorem split_take (h : SplitF l s i) : l.take i = l.filter fun x => decide (cb x.1 s < 0) := by
  conv => rhs; rw [← List.take_append_drop i l, List.filter_append]
  rw [List.filter_eq_self.2 (fun x hx => ?_), List.filter_eq_nil_iff.2 (fun x hx => ?_), List.append_nil]
  · obtain ⟨t, ht, rfl⟩ := List.getElem_of_mem hx
    rw [List.getElem_drop]
    rw [List.length_drop] at ht
    have := h.2 (i + t) _ (by omega) (List.getElem?_eq_getElem (by omega))
    simp; omega
  · obtain ⟨t, ht, rfl⟩ := List.getElem_of_mem hx
    rw [List.getElem_take]
    rw [List.length_take] at ht
    exact decide_eq_true (h.1 t _ (by omega) (List.getElem?_eq_getElem (by omega)))
theorem split_drop (h : SplitF l s i) {j : Nat} (hij : i ≤ j) (h1 : ∀ t x, i ≤ t → t < j → l[t]? = some x → cb x.1 s = 0) (h2 : ∀ t x, j ≤ t → l[t]? = some x → cb x.1 s ≠ 0) : l.drop j = l.filter fun x => decide (0 < cb x.1 s) := by
  conv => rhs; rw [← List.take_append_drop j l, List.filter_append]
  rw [List.filter_eq_nil_iff.2 (fun x hx => ?_), List.filter_eq_self.2 (fun x hx => ?_), List.nil_append]
  · obtain ⟨t, ht, rfl⟩ := List.getElem_of_mem hx
    rw [List.getElem_drop]
    rw [List.length_drop] at ht
    have a := h.2 (j + t) _ (by omega) (List.getElem?_eq_getElem (by omega))
    have b := h2 (j + t) _ (by omega) (List.getElem?_eq_getElem (by omega))
    simp; omega
  · obtain ⟨t, ht, rfl⟩ := List.getElem_of_mem hx
    rw [List.getElem_take]
    rw [List.length_take] at ht
    rcases Nat.lt_or_ge t i with hti | hti
    · have := h.1 t _ hti (List.getElem?_eq_getElem (by omega))
      simp; omega
    · have := h1 t _ hti (by omega) (List.getElem?_eq_getElem (by omega))
      simp [this]
end
theorem put_none {l : List Fl} {f : Fl} {i : Nat} (h : SplitF l f.1 i) (hg : getF l f.1 = none) : putF l f = l.take i ++ f :: l.drop i := by
  unfold putF
  rw [split_take h, split_drop h (Nat.le_refl i) (fun t x h1 h2 => by omega) fun t x ht hx e => ?_]
  unfold getF at hg
  rw [List.find?_eq_none] at hg
  exact hg x (List.mem_of_getElem? hx) (by simpa using cb_zero e)
theorem put_some {l : List Fl} {f g : Fl} {i : Nat} (hr : RiseF l) (h : SplitF l f.1 i) (hx : l[i]? = some g) (hg : getF l f.1 = some g) : putF l f = l.take i ++ f :: l.drop (i + 1) := by
  unfold putF
  have hp := getF_path hg
  rw [split_take h, split_drop h (Nat.le_succ i) (fun t x h1 h2 hx2 => ?_) fun t x ht hx2 e => ?_]
  · obtain rfl : t = i := by omega
    rw [hx] at hx2
    rw [← Option.some.inj hx2, hp, cb_self]
  · obtain ⟨hi, e1⟩ := List.getElem?_eq_some_iff.1 hx
    obtain ⟨hj, e2⟩ := List.getElem?_eq_some_iff.1 hx2
    have := List.pairwise_iff_getElem.1 hr i t hi hj (by omega)
    rw [e1, e2, hp, ← cb_zero e, cb_self] at this
    omega
theorem put_rise {l : List Fl} (hr : RiseF l) (f : Fl) : RiseF (putF l f) := by
  unfold putF RiseF
  refine List.pairwise_append.2 ⟨hr.filter _, List.pairwise_cons.2 ⟨fun x hx => ?_, hr.filter _⟩, fun x hx y hy => ?_⟩
  · have := (List.mem_filter.1 hx).2
    have := of_decide_eq_true this
    rw [cb_swap x.1 f.1]
    omega
  · have h1 := of_decide_eq_true (List.mem_filter.1 hx).2
    rcases List.mem_cons.1 hy with rfl | hy
    · exact h1
    · have h2 := of_decide_eq_true (List.mem_filter.1 hy).2
      exact cb_trans h1 (by rw [cb_swap y.1 f.1]; omega)
theorem put_mem {l : List Fl} {f x : Fl} : x ∈ putF l f ↔ x = f ∨ (x ∈ l ∧ x.1 ≠ f.1) := by
  unfold putF
  rw [List.mem_append, List.mem_cons, List.mem_filter, List.mem_filter, decide_eq_true_iff, decide_eq_true_iff]
  constructor
  · rintro (⟨h1, h2⟩ | h | ⟨h1, h2⟩)
    · exact .inr ⟨h1, cb_ne h2⟩
    · exact .inl h
    · exact .inr ⟨h1, fun e => by rw [e, cb_self] at h2; omega⟩
  · rintro (h | ⟨h1, h2⟩)
    · exact .inr (.inl h)
    · have h0 : cb x.1 f.1 ≠ 0 := fun e => h2 (cb_zero e)
      rcases Int.lt_or_le (cb x.1 f.1) 0 with h | h
      · exact .inl ⟨h1, h⟩
      · exact .inr (.inr ⟨h1, by omega⟩)
theorem getF_iff {l : List Fl} (hr : RiseF l) {p : ByteArray} {f : Fl} : getF l p = some f ↔ f ∈ l ∧ f.1 = p := by
  constructor
  · intro h
    exact ⟨getF_mem h, getF_path h⟩
  · rintro ⟨h, rfl⟩
    exact mem_getF hr h
theorem opt_ext {a b : Option Fl} (h : ∀ f, a = some f ↔ b = some f) : a = b := by
  cases a with
  | none => cases b with
    | none => rfl
    | some g => exact absurd ((h g).2 rfl) (by simp)
  | some f => exact ((h f).1 rfl).symm
theorem get_put {l : List Fl} (hr : RiseF l) (f : Fl) (p : ByteArray) : getF (putF l f) p = if p = f.1 then some f else getF l p := by
  refine opt_ext fun g => ?_
  rw [getF_iff (put_rise hr f), put_mem]
  by_cases hp : p = f.1
  · rw [if_pos hp]
    constructor
    · rintro ⟨h | ⟨h1, h2⟩, h3⟩
      · rw [h]
      · exact absurd (h3.trans hp) h2
    · intro h
      rw [← Option.some.inj h]
      exact ⟨.inl rfl, hp.symm⟩
  · rw [if_neg hp, getF_iff hr]
    constructor
    · rintro ⟨h | ⟨h1, h2⟩, h3⟩
      · exact absurd (h3.symm.trans (by rw [h])) hp
      · exact ⟨h1, h3⟩
    · rintro ⟨h1, h2⟩
      exact ⟨.inr ⟨h1, fun e => hp (h2.symm.trans e)⟩, h2⟩
theorem cut_rise {l : List Fl} (hr : RiseF l) (p : ByteArray) : RiseF (cutF l p) := hr.filter _
theorem get_cut {l : List Fl} (hr : RiseF l) (p q : ByteArray) : getF (cutF l p) q = if q = p then none else getF l q := by
  refine opt_ext fun g => ?_
  rw [getF_iff (cut_rise hr p)]
  unfold cutF
  rw [List.mem_filter, decide_eq_true_iff]
  by_cases hq : q = p
  · rw [if_pos hq]
    constructor
    · rintro ⟨⟨h1, h2⟩, h3⟩
      exact absurd (h3.trans hq) h2
    · intro h; cases h
  · rw [if_neg hq, getF_iff hr]
    constructor
    · rintro ⟨⟨h1, h2⟩, h3⟩
      exact ⟨h1, h3⟩
    · rintro ⟨h1, h2⟩
      exact ⟨⟨h1, fun e => hq (h2.symm.trans e)⟩, h2⟩
theorem put_len (l : List Fl) (f : Fl) : (putF l f).length ≤ l.length + 1 := by
  unfold putF
  rw [List.length_append, List.length_cons]
  have h : ∀ l : List Fl, (l.filter fun x => decide (cb x.1 f.1 < 0)).length + (l.filter fun x => decide (0 < cb x.1 f.1)).length ≤ l.length := fun l => by
    induction l with
    | nil => simp
    | cons x l ih =>
      by_cases h1 : cb x.1 f.1 < 0
      · have h2 : ¬ 0 < cb x.1 f.1 := by omega
        simp only [List.filter_cons, h1, h2, decide_true, decide_false, if_true, List.length_cons]
        simp only [Bool.false_eq_true, if_false]
        omega
      · by_cases h2 : 0 < cb x.1 f.1
        · simp only [List.filter_cons, h1, h2, decide_true, decide_false, if_true, List.length_cons]
          simp only [Bool.false_eq_true, if_false]
          omega
        · simp only [List.filter_cons, h1, h2, decide_false, List.length_cons]
          simp only [Bool.false_eq_true, if_false]
          omega
  have := h l
  omega
theorem cut_len (l : List Fl) (p : ByteArray) : (cutF l p).length ≤ l.length := List.length_filter_le _ _

/-! ### What differs -/
abbrev Dl := ByteArray × Int
/-- The paths of two trees. -/
def paths2 (a b : List Fl) : List ByteArray := nrm (a.map (·.1) ++ b.map (·.1))
def diffOf (f : ByteArray → Int) (ps : List ByteArray) : List Dl := (ps.map fun p => (p, f p)).filter fun x => decide (x.2 ≠ 32)
def diffF (a b : List Fl) : List Dl := diffOf (fun p => unl (getF a p) (getF b p)) (paths2 a b)
theorem diffOf_snoc (f : ByteArray → Int) (ps : List ByteArray) (p : ByteArray) : diffOf f (ps ++ [p]) = diffOf f ps ++ (if f p ≠ 32 then [(p, f p)] else []) := by
  unfold diffOf
  rw [List.map_append, List.filter_append]
  congr 1
  by_cases h : f p = 32 <;> simp [h]
theorem diffOf_len (f : ByteArray → Int) (ps : List ByteArray) : (diffOf f ps).length ≤ ps.length := by
  unfold diffOf
  exact Nat.le_trans (List.length_filter_le _ _) (by rw [List.length_map]; exact Nat.le_refl _)
theorem paths2_len (a b : List Fl) : (paths2 a b).length ≤ a.length + b.length := by
  unfold paths2
  refine Nat.le_trans (nrm_len _) ?_
  rw [List.length_append, List.length_map, List.length_map]
  exact Nat.le_refl _
theorem paths2_mem (a b : List Fl) (p : ByteArray) : p ∈ paths2 a b ↔ p ∈ a.map (·.1) ∨ p ∈ b.map (·.1) := by unfold paths2; rw [nrm_mem, List.mem_append]
theorem diff_mem {a b : List Fl} {x : Dl} : x ∈ diffF a b ↔ x.2 = unl (getF a x.1) (getF b x.1) ∧ x.2 ≠ 32 := by
  unfold diffF diffOf
  rw [List.mem_filter, List.mem_map, decide_eq_true_iff]
  constructor
  · rintro ⟨⟨p, _, rfl⟩, h⟩
    exact ⟨rfl, h⟩
  · rintro ⟨h1, h2⟩
    refine ⟨⟨x.1, ?_, Prod.ext rfl h1.symm⟩, h2⟩
    rw [paths2_mem]
    by_cases h3 : hasP (a.map (·.1)) x.1 = true
    · exact .inl (hasP_iff.1 h3)
    · by_cases h4 : hasP (b.map (·.1)) x.1 = true
      · exact .inr (hasP_iff.1 h4)
      · rw [getF_none (fun e => h3 (hasP_iff.2 e)), getF_none (fun e => h4 (hasP_iff.2 e))] at h1
        exact absurd h1 h2
theorem diff_none {a b : List Fl} (ha : RiseF a) (hb : RiseF b) : diffF a b = [] ↔ a = b := by
  constructor
  · intro h
    refine tree_ext ha hb fun p => ?_
    refine Decidable.byContradiction fun hne => ?_
    have : (p, unl (getF a p) (getF b p)) ∈ diffF a b := diff_mem.2 ⟨rfl, fun e => hne (unl_eq e)⟩
    rw [h] at this
    cases this
  · rintro rfl
    refine List.eq_nil_iff_forall_not_mem.2 fun x hx => ?_
    obtain ⟨h1, h2⟩ := diff_mem.1 hx
    rw [unl_same] at h1
    exact h2 h1
theorem unl_turn (a b : Option Fl) : unl a b ≠ 32 ↔ unl b a ≠ 32 := by
  constructor
  · intro h e
    exact h (by rw [unl_eq e, unl_same])
  · intro h e
    exact h (by rw [unl_eq e, unl_same])
theorem diff_turn (a b : List Fl) : (diffF b a).length = (diffF a b).length := by
  have e : paths2 b a = paths2 a b := nrm_congr fun s => by rw [List.mem_append, List.mem_append, Or.comm]
  unfold diffF
  rw [e]
  generalize paths2 a b = ps
  have e2 : ∀ f g : ByteArray → Int, (∀ p, f p ≠ 32 ↔ g p ≠ 32) → (diffOf f ps).length = (diffOf g ps).length := fun f g h => by
    unfold diffOf
    induction ps with
    | nil => rfl
    | cons p ps ih =>
      rw [List.map_cons, List.map_cons, List.filter_cons, List.filter_cons]
      by_cases hf : f p ≠ 32
      · rw [if_pos (decide_eq_true hf), if_pos (decide_eq_true ((h p).1 hf)), List.length_cons, List.length_cons, ih]
      · rw [if_neg (by simpa using hf), if_neg (by have := fun e => hf ((h p).2 e); simpa using this), ih]
  exact e2 _ _ fun p => unl_turn _ _
/-- What is done of a difference: the tree has of b what was done, of a the rest. -/
def DoneTo (a b r : List Fl) (d : List Dl) : Prop := RiseF r ∧ ∀ p, getF r p = if hasP (d.map (·.1)) p = true then getF b p else getF a p
theorem done_start {a b : List Fl} (ha : RiseF a) : DoneTo a b a [] := ⟨ha, fun p => by simp [hasP]⟩
theorem hasP_snoc (d : List Dl) (x : Dl) (p : ByteArray) : hasP ((d ++ [x]).map (·.1)) p = true ↔ hasP (d.map (·.1)) p = true ∨ p = x.1 := by
  rw [hasP_iff, hasP_iff, List.map_append, List.mem_append, List.map_cons, List.map_nil, List.mem_singleton]
theorem done_cut {a b r : List Fl} {d : List Dl} {x : Dl} (h : DoneTo a b r d) (hx : getF b x.1 = none) : DoneTo a b (cutF r x.1) (d ++ [x]) := by
  refine ⟨cut_rise h.1 _, fun p => ?_⟩
  rw [get_cut h.1, h.2 p]
  by_cases hp : p = x.1
  · rw [if_pos hp, if_pos ((hasP_snoc d x p).2 (.inr hp)), hp, hx]
  · rw [if_neg hp]
    by_cases hd : hasP (d.map (·.1)) p = true
    · rw [if_pos hd, if_pos ((hasP_snoc d x p).2 (.inl hd))]
    · rw [if_neg hd, if_neg fun h => ((hasP_snoc d x p).1 h).elim hd hp]
theorem done_put {a b r : List Fl} {d : List Dl} {x : Dl} {f : Fl} (h : DoneTo a b r d) (hx : getF b x.1 = some f) : DoneTo a b (putF r f) (d ++ [x]) := by
  have hf := getF_path hx
  refine ⟨put_rise h.1 _, fun p => ?_⟩
  rw [get_put h.1, h.2 p]
  by_cases hp : p = x.1
  · rw [if_pos (by rw [hp, hf]), if_pos ((hasP_snoc d x p).2 (.inr hp)), hp, hx]
  · rw [if_neg (by rw [hf]; exact hp)]
    by_cases hd : hasP (d.map (·.1)) p = true
    · rw [if_pos hd, if_pos ((hasP_snoc d x p).2 (.inl hd))]
    · rw [if_neg hd, if_neg fun h => ((hasP_snoc d x p).1 h).elim hd hp]
theorem done_end {a b r : List Fl} (hb : RiseF b) (h : DoneTo a b r (diffF a b)) : r = b := by
  refine tree_ext h.1 hb fun p => ?_
  rw [h.2 p]
  by_cases hp : hasP ((diffF a b).map (·.1)) p = true
  · rw [if_pos hp]
  · rw [if_neg hp]
    refine Decidable.byContradiction fun hne => hp (hasP_iff.2 <| List.mem_map.2 ⟨(p, unl (getF a p) (getF b p)), diff_mem.2 ⟨rfl, fun e => hne (unl_eq e)⟩, rfl⟩)
end Go.Proofs.YtplleaimmmanhaaDoor
namespace Go.Proofs.YtplleaimmmanhaaDoor
open Go Go.RowKit

/-- A closure that takes a file and has captured one thing: what it says, wherever all below B is as it was in w0. -/
def PB (B : Nat) (w0 : World) (g : Nat) (c : Value) (p : Fl → Bool) : Prop :=
  ∀ (W : World) (x : Fl), Below B w0 W → x.1.size ≤ 1000000 → Calls Tryd.prog g #[.agg #[.string x.1, .int .i64 x.2.1, .string x.2.2], c] W fun e w' => e = .returned (.bool (p x)) ∧ Below W.heap.size W w'
def IdxTo (p : Fl → Bool) (l : List Fl) (w : World) (e : Ending) (w' : World) : Prop :=
  ∃ n : Int, e = .returned (.int .i64 n) ∧ Below w.heap.size w w' ∧ ((n = -1 ∧ l.any p = false) ∨ ∃ (i : Nat) (x : Fl), n = i ∧ l[i]? = some x ∧ p x = true ∧ (l.take i).any p = false)
def Sized (l : List Fl) : Prop := ∀ x ∈ l, x.1.size ≤ 1000000
theorem Sized.at_ {l : List Fl} (h : Sized l) {i : Nat} {x : Fl} (hx : l[i]? = some x) : x.1.size ≤ 1000000 := h x (List.mem_of_getElem? hx)

set_option maxHeartbeats 2000000 in
theorem indexF_any (w0 w : World) (B : Nat) (hb : Below B w0 w) (hB : B ≤ w.heap.size) (v : Value) (l : List Fl) (g : Nat) (c : Value) (p : Fl → Bool) (h : Reads 3 cF w v l) (hs : Sized l) (hl : l.length ≤ 100000)
    (eg : ∀ args w, (callFunc g args).run Tryd.prog w = .ok (.enter g args) w) (hp : PB B w0 g c p) :
    Calls Tryd.prog 109 #[v, .func (.func g) #[] #[c]] w (IdxTo p l w) := by
  obtain ⟨A, cap, rfl⟩ := h.form
  have hn := h.len
  have HO := Lib.hid h
  have HP := Lib.hid hp
  have HS := Lib.hid hs
  clear h hn hp hs
  go_enter Tryd.func109, Tryd.ntmps109
  go_wp2
  go_loopw [5, 8] (fun _ s8 wr => ∃ k : Nat, k ≤ l.length ∧ s8 = .int .i64 k ∧ Below w.heap.size w wr ∧ Hid ((l.take k).any p = false)) (fun _ s8 _ => l.length - (intOf s8).toNat)
  case atStart => exact ⟨0, Nat.zero_le _, rfl, Below.refl _ _, Lib.hid (by simp)⟩
  case round =>
    obtain ⟨k, hk, rfl, hb1, A1⟩ := hrel
    by_cases hlt : k < l.length
    · obtain ⟨x, hx⟩ : ∃ x, l[k]? = some x := ⟨_, List.getElem?_eq_getElem hlt⟩
      obtain ⟨ad, rfl, c0, c1, c2⟩ := Fils.at_ (HO.out.below hb1) hx
      have hcall := HP.out wr x (hb.trans (hb1.mono hB)) (HS.out.at_ hx)
      have HX := Lib.hid hx
      have HT : Hid (p x = false → (l.take (k + 1)).any p = false) := Lib.hid fun hq => by
        rw [take_snoc hx, List.any_append, A1.out]; simp [hq]
      clear hx
      cases hq : p x with
      | true =>
        rw [hq] at hcall
        have HQ := Lib.hid hq
        clear hq
        go_wp2_with (go_at_fn g; refine hcall.mono ?_; rintro e w' ⟨rfl, hb2⟩)
        go_ret
        exact ⟨_, rfl, hb1.trans (hb2.mono hb1.size), .inr ⟨k, x, rfl, HX.out, HQ.out, A1.out⟩⟩
      | false =>
        rw [hq] at hcall
        have HQ := Lib.hid hq
        clear hq
        go_wp2_with (go_at_fn g; refine hcall.mono ?_; rintro e w' ⟨rfl, hb2⟩)
        go_roundw
        case rel => exact ⟨k + 1, by omega, by go_num, hb1.trans (hb2.mono hb1.size), Lib.hid (HT.out HQ.out)⟩
        case measure => simp [intOf]; omega
    · obtain rfl : k = l.length := by omega
      go_wp2
      go_ret
      exact ⟨_, rfl, hb1, .inl ⟨rfl, by have := A1.out; rwa [List.take_length] at this⟩⟩

theorem any_hit {l : List Fl} {p : Fl → Bool} {i : Nat} {x : Fl} (hx : l[i]? = some x) (hp : p x = true) : l.any p = true := List.any_eq_true.2 ⟨x, List.mem_of_getElem? hx, hp⟩

set_option maxHeartbeats 1000000 in
theorem containsF_any (w0 w : World) (B : Nat) (hb : Below B w0 w) (hB : B ≤ w.heap.size) (v : Value) (l : List Fl) (g : Nat) (c : Value) (p : Fl → Bool) (h : Reads 3 cF w v l) (hs : Sized l) (hl : l.length ≤ 100000)
    (eg : ∀ args w, (callFunc g args).run Tryd.prog w = .ok (.enter g args) w) (hp : PB B w0 g c p) :
    Calls Tryd.prog 64 #[v, .func (.func g) #[] #[c]] w (FlagTo (l.any p) w) := by
  have S := Lib.hid (indexF_any w0 w B hb hB v l g c p h hs hl eg hp)
  obtain ⟨A, cap, rfl⟩ := h.form
  clear h hs hp
  go_enter Tryd.func64, Tryd.ntmps64
  go_wp2_with fail
  refine S.out.mono ?_
  rintro e w' ⟨n, rfl, hb1, hn⟩
  rcases hn with ⟨rfl, hn⟩ | ⟨i, x, rfl, hx, hpx, -⟩
  · have HN := Lib.hid hn
    clear hn
    go_wp2_with fail
    go_ret
    exact ⟨ret_b HN.out.symm, hb1⟩
  · have HN := Lib.hid (any_hit hx hpx)
    clear hx hpx
    go_wp2_with fail
    go_ret
    exact ⟨ret_b HN.out.symm, hb1⟩

/-! ### The closures -/
theorem enters_cut (args : Array Value) (w : World) : (callFunc 47 args).run Tryd.prog w = .ok (.enter 47 args) w := enters_of Tryd.func47 (by kernel_rfl) rfl args w
theorem enters_clear (args : Array Value) (w : World) : (callFunc 42 args).run Tryd.prog w = .ok (.enter 42 args) w := enters_of Tryd.func42 (by kernel_rfl) rfl args w
theorem enters_refuses (args : Array Value) (w : World) : (callFunc 65 args).run Tryd.prog w = .ok (.enter 65 args) w := enters_of Tryd.func65 (by kernel_rfl) rfl args w

set_option maxHeartbeats 1000000 in
theorem cut_pred (w0 : World) (B b : Nat) (q : ByteArray) (hc : w0.cell? ⟨b, 0, none⟩ = some (.string q)) (hb : b < B) (hB : B ≤ w0.heap.size) :
    PB B w0 47 (.pointer (some ⟨b, 0, none⟩)) (fun x => decide (x.1 = q)) := by
  intro W x hW _
  have c0 : W.cell? ⟨b, 0, none⟩ = some (.string q) := (hW.cell (p := ⟨b, 0, none⟩) hb).trans hc
  have hlt : b < W.heap.size := Nat.lt_of_lt_of_le hb (Nat.le_trans hB hW.size)
  obtain ⟨p, m, d⟩ := x
  clear hc hW hb hB
  by_cases h : p = q
  · subst h
    go_enter Tryd.func47, Tryd.ntmps47
    go_wp2
    go_ret
    exact ⟨by simp, (Below.refl _ _).alloc (Nat.le_refl _) _⟩
  · have e1 : ¬ p.toList = q.toList := fun e => h (tl_eq e)
    have e1' : (p.toList == q.toList) = false := by simpa using e1
    have HD := Lib.hid (decide_eq_false h)
    clear h
    go_enter Tryd.func47, Tryd.ntmps47
    go_wp2
    go_ret
    exact ⟨ret_b HD.out.symm, (Below.refl _ _).alloc (Nat.le_refl _) _⟩

set_option maxHeartbeats 1000000 in
theorem clear_pred (w0 : World) (B b : Nat) (q : ByteArray) (hq : q.size ≤ 1000000) (hc : w0.cell? ⟨b, 0, none⟩ = some (.string q)) (hb : b < B) (hB : B ≤ w0.heap.size) :
    PB B w0 42 (.pointer (some ⟨b, 0, none⟩)) (fun x => cls x.1.data.toList q.data.toList) := by
  intro W x hW hx
  have c0 : W.cell? ⟨b, 0, none⟩ = some (.string q) := (hW.cell (p := ⟨b, 0, none⟩) hb).trans hc
  have hlt : b < W.heap.size := Nat.lt_of_lt_of_le hb (Nat.le_trans hB hW.size)
  obtain ⟨p, m, d⟩ := x
  have CL := Lib.hid fun W => clash_any p q W hx hq
  clear hc hW hb hB hx
  go_enter Tryd.func42, Tryd.ntmps42
  go_wp2_with fail
  refine (CL.out _).mono ?_
  rintro e w' ⟨rfl, rfl⟩
  go_wp2_with fail
  go_ret
  exact ⟨rfl, (Below.refl _ _).alloc (Nat.le_refl _) _⟩

set_option maxHeartbeats 1000000 in
theorem refuses_pred (w0 : World) (B b : Nat) (q : ByteArray) (hq : q.size ≤ 1000000) (hc : w0.cell? ⟨b, 0, none⟩ = some (.string q)) (hb : b < B) (hB : B ≤ w0.heap.size) :
    PB B w0 65 (.pointer (some ⟨b, 0, none⟩)) (fun x => cls x.1.data.toList q.data.toList) := by
  intro W x hW hx
  have c0 : W.cell? ⟨b, 0, none⟩ = some (.string q) := (hW.cell (p := ⟨b, 0, none⟩) hb).trans hc
  have hlt : b < W.heap.size := Nat.lt_of_lt_of_le hb (Nat.le_trans hB hW.size)
  obtain ⟨p, m, d⟩ := x
  have CL := Lib.hid fun W => clash_any p q W hx hq
  clear hc hW hb hB hx
  go_enter Tryd.func65, Tryd.ntmps65
  go_wp2_with fail
  refine (CL.out _).mono ?_
  rintro e w' ⟨rfl, rfl⟩
  go_wp2_with fail
  go_ret
  exact ⟨rfl, (Below.refl _ _).alloc (Nat.le_refl _) _⟩
end Go.Proofs.YtplleaimmmanhaaDoor
namespace Go.Proofs.YtplleaimmmanhaaDoor
open Go Go.RowKit

theorem flat_set : ∀ (m : List Fl) (i : Nat) (x : Fl), i < m.length → (((m.flatMap cF).set (i * 3) (.string x.1)).set (i * 3 + 1) (.int .i64 x.2.1)).set (i * 3 + 2) (.string x.2.2) = (m.set i x).flatMap cF
  | [], _, _, h => by simp at h
  | y :: r, 0, x, _ => by simp [cF]
  | y :: r, i + 1, x, h => by
    have ih := flat_set r i x (by simpa using h)
    rw [List.set_cons_succ, List.flatMap_cons, List.flatMap_cons, ← ih]
    have hc : (cF y).length = 3 := rfl
    rw [List.set_append_right _ _ (by rw [hc]; omega), List.set_append_right _ _ (by rw [hc]; omega), List.set_append_right _ _ (by rw [hc]; omega), hc]
    congr 1
    rw [show (i + 1) * 3 - 3 = i * 3 by omega, show (i + 1) * 3 + 1 - 3 = i * 3 + 1 by omega, show (i + 1) * 3 + 2 - 3 = i * 3 + 2 by omega]

def RowOwn (B g cap n : Nat) (m : List Fl) (W : World) : Prop := W.ownsRow B 42 3 (.slice (some ⟨g, 0, none⟩) n cap) n (m.flatMap cF)
theorem RowOwn.set {B g cap n : Nat} {m : List Fl} {W : World} (h : RowOwn B g cap n m W) (hm : m.length = n) (i : Nat) (hi : i < n) (x : Fl) :
    RowOwn B g cap n (m.set i x) (((W.setCell ⟨g, i * 3, none⟩ (.string x.1)).setCell ⟨g, i * 3 + 1, none⟩ (.int .i64 x.2.1)).setCell ⟨g, i * 3 + 2, none⟩ (.string x.2.2)) := by
  unfold RowOwn
  rw [← flat_set m i x (by omega)]
  have h1 := (World.ownsRow.stored h (i * 3) (.string x.1)).1
  have h2 := (World.ownsRow.stored h1 (i * 3 + 1) (.int .i64 x.2.1)).1
  exact (World.ownsRow.stored h2 (i * 3 + 2) (.string x.2.2)).1
theorem RowOwn.below {B g cap n : Nat} {m : List Fl} {W W' : World} (h : RowOwn B g cap n m W) (hb : Below W.heap.size W W') : RowOwn B g cap n m W' := own_keep h hb
theorem RowOwn.cellAt {B g cap n : Nat} {m : List Fl} {W : World} (h : RowOwn B g cap n m W) {i : Nat} {x : Fl} (hx : m[i]? = some x) :
    W.cell? ⟨g, i * 3, none⟩ = some (.string x.1) ∧ W.cell? ⟨g, i * 3 + 1, none⟩ = some (.int .i64 x.2.1) ∧ W.cell? ⟨g, i * 3 + 2, none⟩ = some (.string x.2.2) := by
  have key : ∀ j u, (cF x)[j]? = some u → W.cell? ⟨g, i * 3 + j, none⟩ = some u := fun j u hu => by
    have hj : j < 3 := (List.getElem?_eq_some_iff.1 hu).1
    have := World.ownsRow.cells h rfl (i * 3 + j) u (by rw [flat_at cF_len m i j x hx hj]; exact hu)
    rwa [add_zero_addr] at this
  exact ⟨key 0 _ rfl, key 1 _ rfl, key 2 _ rfl⟩
theorem RowOwn.frozenAt {B g cap n : Nat} {m : List Fl} {W : World} (h : RowOwn B g cap n m W) (j : Nat) : W.frozen? ⟨g, j, none⟩ = false := World.ownsRow.frozenAt h j
theorem RowOwn.isCell {B g cap n : Nat} {m : List Fl} {W : World} (h : RowOwn B g cap n m W) (j : Nat) (hj : j < n * 3) : (W.cell? ⟨g, j, none⟩).isSome = true := by
  rw [World.ownsRow.cellAt h j hj, List.getElem?_eq_getElem (by rw [h.1]; exact hj)]; rfl

/-- The cells of n files that are none. -/
def zs (n : Nat) : List Value := (Builtin.zeroCells #[.string ⟨#[]⟩, .int .i64 0, .string ⟨#[]⟩] n).toList
theorem zs_len (n : Nat) : (zs n).length = n * 3 := by simp [zs, Builtin.zeroCells]
theorem zs_one (n : Nat) : ∀ u ∈ zs n, u.oneCell' = true := fun u hu => by
  simp [zs, Builtin.zeroCells] at hu
  obtain ⟨i, _, rfl⟩ := hu
  have : i % 3 = 0 ∨ i % 3 = 1 ∨ i % 3 = 2 := by omega
  rcases this with h | h | h <;> rw [h] <;> rfl
theorem run_clear_files (w : World) (ty : TypeId) (b o n c : Nat) (hn : 0 < n) (hc : ∀ j, j < n * 3 → (w.cell? ⟨b, o + j, none⟩).isSome = true) (hf : ∀ j, j < n * 3 → w.frozen? ⟨b, o + j, none⟩ = false) :
    (Builtin.clear_ #[23] ty #[.slice (some ⟨b, o, none⟩) n c]).run Tryd.prog w = .ok (.tuple #[]) (w.setCells b o (zs n)) := by
  have hst := run_storeCells_cells (P := Tryd.prog) b o (zs n) 0 w (by rw [zs_len]; simpa using hc) (by rw [zs_len]; simpa using hf) (zs_one n)
  simp only [Nat.add_zero] at hst
  obtain ⟨m, rfl⟩ : ∃ m, n = m + 1 := ⟨n - 1, by omega⟩
  unfold zs at hst ⊢
  simp [Builtin.clear_, run_underlying Tryd.underlying23, Tryd.zeroValue42, Value.cells, hst]

/-- The files ahead, where those behind are cleared. -/
theorem reads_front {B g cap n : Nat} {m : List Fl} {W : World} (h : RowOwn B g cap n m W) (hm : m.length = n) (i : Nat) (hi : i ≤ n) (k : Nat) :
    Reads 3 cF (W.setCells g (i * 3) (zs k)) (.slice (some ⟨g, 0, none⟩) i cap) (m.take i) := by
  have hl : (m.take i).length = i := by rw [List.length_take]; omega
  have h2 := own_len h
  refine ⟨some ⟨g, 0, none⟩, cap, by rw [hl], by omega, h2.2.2, (fun e => by cases e), fun ad ha t x hx j u hu => ?_⟩
  obtain rfl := Option.some.inj ha
  have ht : t < i := by have := (List.getElem?_eq_some_iff.1 hx).1; omega
  have hj : j < 3 := (List.getElem?_eq_some_iff.1 hu).1
  have hx' : m[t]? = some x := by rwa [List.getElem?_take, if_pos ht] at hx
  have hc := World.ownsRow.cells h rfl (t * 3 + j) u (by rw [flat_at cF_len m t j x hx' hj]; exact hu)
  rw [add_zero_addr] at hc
  have := (World.cell?_setCells_out g (zs k) (i * 3) W ⟨g, t * 3 + j, none⟩ (fun _ _ => .inl (by show t * 3 + j < i * 3; omega))).trans hc
  cases j with
  | zero => unfold adr; rw [add_zero_addr]; exact this
  | succ j => unfold adr; rw [add_zero_addr]; exact this
theorem below_setCells {N g : Nat} (hg : N ≤ g) {a : World} : ∀ (vs : List Value) (o : Nat) (w : World), Below N a w → Below N a (w.setCells g o vs)
  | [], _, _, h => h
  | v :: r, o, _, h => below_setCells hg r (o + 1) _ (h.setCell (p := ⟨g, o, none⟩) hg v)

def KeptTo (B : Nat) (w0 : World) (l : List Fl) (e : Ending) (w' : World) : Prop := ∃ v, e = .returned v ∧ Reads 3 cF w' v l ∧ Below B w0 w'
theorem keep_snoc {p : Fl → Bool} {l : List Fl} {j : Nat} {x : Fl} (hx : l[j]? = some x) : (l.take (j + 1)).filter (fun x => !p x) = (l.take j).filter (fun x => !p x) ++ (if p x then [] else [x]) := by
  rw [take_snoc hx, List.filter_append]
  cases h : p x <;> simp [h]
theorem any_keep {p : Fl → Bool} {l : List Fl} (h : l.any p = false) : l.filter (fun x => !p x) = l := List.filter_eq_self.2 fun x hx => by
  have : p x = false := by
    rw [Bool.eq_false_iff]
    intro e
    have := List.any_eq_true.2 ⟨x, hx, e⟩
    rw [h] at this; cases this
  simp [this]
theorem take_set_snoc {m : List Fl} {i : Nat} {x : Fl} (hi : i < m.length) : (m.set i x).take (i + 1) = m.take i ++ [x] := by
  have h : (m.set i x)[i]? = some x := by simp [hi]
  rw [take_snoc h, List.take_set_of_le (Nat.le_refl i)]
theorem drop_set {m : List Fl} {i j : Nat} {x : Fl} (hij : i < j) : (m.set i x).drop j = m.drop j := List.drop_set_of_lt hij

set_option maxRecDepth 100000 in
set_option maxHeartbeats 4000000 in
theorem deleteF_any (w0 w : World) (B : Nat) (hb : Below B w0 w) (hB : B ≤ w.heap.size) (v : Value) (l : List Fl) (g : Nat) (c : Value) (p : Fl → Bool) (ho : w.ownsRow B 42 3 v l.length (l.flatMap cF)) (hs : Sized l) (hl : l.length ≤ 100000)
    (eg : ∀ args w, (callFunc g args).run Tryd.prog w = .ok (.enter g args) w) (hp : PB B w0 g c p) :
    Calls Tryd.prog 68 #[v, .func (.func g) #[] #[c]] w (KeptTo B w0 (l.filter fun x => !p x)) := by
  have R := Lib.hid (Reads.of_own cF_len ho)
  have S := Lib.hid (indexF_any w0 w B hb hB v l g c p R.out hs hl eg hp)
  have HP := Lib.hid hp
  have HS := Lib.hid hs
  have HO := Lib.hid ho
  obtain ⟨A, cap, rfl⟩ := own_form ho
  clear ho hp hs
  go_enter Tryd.func68, Tryd.ntmps68
  go_wp2_with fail
  refine S.out.mono ?_
  rintro e w1 ⟨n, rfl, hb1, hn⟩
  have B1 := hb.trans (hb1.mono hB)
  rcases hn with ⟨rfl, hn⟩ | ⟨i0, x0, rfl, hx0, hpx, hno⟩
  · have HN := Lib.hid hn
    clear hn
    go_wp2_with fail
    go_ret
    exact ⟨_, rfl, by rw [any_keep HN.out]; exact R.out.below hb1, B1⟩
  · have hi0 : i0 < l.length := (List.getElem?_eq_some_iff.1 hx0).1
    obtain ⟨gb, rfl, hgB⟩ : ∃ gb, A = some ⟨gb, 0, none⟩ ∧ B ≤ gb := by
      rcases HO.out.2 with ⟨_, h0⟩ | ⟨gb, cap', cur, hv, hgB, _⟩
      · omega
      · injection hv with e1; exact ⟨gb, e1, hgB⟩
    have K0 : Hid ((l.take (i0 + 1)).filter (fun x => !p x) = l.take i0) := Lib.hid (by rw [keep_snoc hx0, any_keep hno, hpx]; simp)
    have O1 : Hid (RowOwn B gb cap l.length l w1) := Lib.hid (own_keep HO.out hb1)
    have hm1 : ((i0 : Int) == -1) = false := by rw [beq_eq_false_iff_ne]; omega
    clear hx0 hpx hno S R HO
    go_wp2_with fail
    go_loopw [5, 6, 7] (fun s5 s6 _ wr => ∃ (i j : Nat) (m : List Fl), s5 = .int .i64 i ∧ s6 = .int .i64 j ∧ i < j ∧ j ≤ l.length ∧ Below B w0 wr ∧ B ≤ wr.heap.size ∧ Hid (m.length = l.length) ∧ Hid (RowOwn B gb cap l.length m wr) ∧ Hid (m.take i = (l.take j).filter (fun x => !p x)) ∧ Hid (m.drop j = l.drop j)) (fun _ s6 _ _ => l.length - (intOf s6).toNat)
    case atStart => exact ⟨i0, i0 + 1, l, rfl, by go_num, by omega, by omega, B1, by have := B1.size; have := hb1.size; omega, Lib.hid rfl, O1, Lib.hid K0.out.symm, Lib.hid rfl⟩
    case round =>
      obtain ⟨i, j, m, rfl, rfl, hij, hj, hbr, hBr, HM, OM, HT, HD⟩ := hrel
      by_cases hlt : j < l.length
      · obtain ⟨x, hx⟩ : ∃ x, l[j]? = some x := ⟨_, List.getElem?_eq_getElem hlt⟩
        have hxm : m[j]? = some x := by
          have h1 : (m.drop j)[0]? = (l.drop j)[0]? := by rw [HD.out]
          rw [List.getElem?_drop, List.getElem?_drop] at h1
          simpa [hx] using h1
        obtain ⟨c0, c1, c2⟩ := OM.out.cellAt hxm
        have HK := Lib.hid (keep_snoc (p := p) hx)
        have hsx := HS.out.at_ hx
        clear hx hxm
        obtain ⟨W2, hW2⟩ : ∃ W2, W2 = wr.alloc (.cells #[.string x.1, .int .i64 x.2.1, .string x.2.2] 42) := ⟨_, rfl⟩
        have b2 : Below wr.heap.size wr W2 := by rw [hW2]; exact (Below.refl _ _).alloc (Nat.le_refl _) _
        have BW2 : Below B w0 W2 := hbr.trans (b2.mono hBr)
        have hcall := HP.out W2 x BW2 hsx
        obtain ⟨q, hQ⟩ : ∃ q, q = wr.heap.size := ⟨_, rfl⟩
        have k2 : W2.heap[q]? = some (.cells #[.string x.1, .int .i64 x.2.1, .string x.2.2] 42 (0, 0)) := by rw [hW2, hQ]; exact heap_alloc_new wr _
        have hq2 : q < W2.heap.size := by rw [hW2, hQ]; simp
        have O2 := Lib.hid (OM.out.below b2)
        have hs2 : B ≤ W2.heap.size := Nat.le_trans hBr b2.size
        have HK2 := Lib.hid k2
        have HBW2 := Lib.hid BW2
        go_wp2_with fail
        rw [← hW2, ← hQ]
        clear hW2 hQ b2 BW2 k2 c0 c1 c2 hbr hBr OM
        cases hpx : p x with
        | true =>
          rw [hpx] at hcall
          have HPX := Lib.hid hpx
          clear hpx
          refine hcall.mono ?_
          rintro e w3 ⟨rfl, b3⟩
          go_wp2_with fail
          go_roundw
          case rel => exact ⟨i, j + 1, m, rfl, by go_num, by omega, by omega, HBW2.out.trans (b3.mono hs2), by have := b3.size; omega, HM, Lib.hid (O2.out.below b3), Lib.hid (by rw [HK.out, HPX.out, HT.out]; simp), Lib.hid (by rw [← List.drop_drop, HD.out, List.drop_drop])⟩
          case measure => simp [intOf]; omega
        | false =>
          rw [hpx] at hcall
          have HPX := Lib.hid hpx
          clear hpx
          refine hcall.mono ?_
          rintro e w3 ⟨rfl, b3⟩
          have k3 : w3.heap[q]? = some (.cells #[.string x.1, .int .i64 x.2.1, .string x.2.2] 42 (0, 0)) := (b3.block q hq2).trans HK2.out
          have y0 := cell_of_row w3 q 0 _ 42 (0, 0) k3
          have y1 := cell_of_row w3 q 1 _ 42 (0, 0) k3
          have y2 := cell_of_row w3 q 2 _ 42 (0, 0) k3
          have O3 := Lib.hid (O2.out.below b3)
          have him : i < m.length := by have := HM.out; omega
          obtain ⟨y, hy⟩ : ∃ y, m[i]? = some y := ⟨_, List.getElem?_eq_getElem him⟩
          obtain ⟨d0, d1, d2⟩ := O3.out.cellAt hy
          have f0 := O3.out.frozenAt (i * 3)
          have f1 := O3.out.frozenAt (i * 3 + 1)
          have f2 := O3.out.frozenAt (i * 3 + 2)
          have O4 := Lib.hid (O3.out.set HM.out i (by have := HM.out; omega) x)
          have hi1 : (i : Int) < (l.length : Int) := by omega
          have B3 := Lib.hid (HBW2.out.trans (b3.mono hs2))
          have hs3 : B ≤ w3.heap.size := by have := b3.size; omega
          have HIM := Lib.hid him
          clear hy k3 b3 hcall him
          go_wp2_with fail
          go_roundw
          case rel => exact ⟨i + 1, j + 1, m.set i x, by go_num, by go_num, by omega, by omega, (((B3.out.setCell (p := ⟨gb, i * 3, none⟩) hgB _).setCell (p := ⟨gb, i * 3 + 1, none⟩) hgB _).setCell (p := ⟨gb, i * 3 + 2, none⟩) hgB _), by simp; omega, Lib.hid (by rw [List.length_set]; exact HM.out), O4, Lib.hid (by rw [take_set_snoc HIM.out, HK.out, HPX.out, HT.out]; simp), Lib.hid (by rw [drop_set (by omega), ← List.drop_drop, HD.out, List.drop_drop])⟩
          case measure => simp [intOf]; omega
      · obtain rfl : j = l.length := by omega
        have hcap : l.length ≤ cap := (own_len OM.out).2.1
        have hcm : cap ≤ 9223372036854775807 := by have := (own_len OM.out).2.2; unfold maxLen at this; omega
        have hci : ¬ cap = i := by omega
        have hic : (i : Int) ≤ (cap : Int) := by omega
        have hi1 : (i : Int) ≤ (l.length : Int) := by omega
        have hlc : (l.length : Int) ≤ (cap : Int) := by omega
        have hcl : ∀ ty c, (Builtin.clear_ #[23] ty #[.slice (some ⟨gb, i * 3, none⟩) (l.length - i) c]).run Tryd.prog wr = .ok (.tuple #[]) (wr.setCells gb (i * 3) (zs (l.length - i))) := fun ty c =>
          run_clear_files wr ty gb (i * 3) (l.length - i) c (by omega) (fun t ht => OM.out.isCell _ (by omega)) (fun t _ => OM.out.frozenAt _)
        have HR := Lib.hid (reads_front OM.out HM.out i (by omega) (l.length - i))
        rw [HT.out, List.take_length] at HR
        have HB2 := Lib.hid (below_setCells hgB (zs (l.length - i)) (i * 3) wr hbr)
        clear hbr
        go_wp2_with fail
        go_ret
        exact ⟨_, rfl, HR.out, HB2.out⟩
end Go.Proofs.YtplleaimmmanhaaDoor
