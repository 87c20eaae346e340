/-
  slices.DeleteFunc on a tree of the call's own; (Row).without, Cut, Clear.
  (Row).Cut, (Row).Clear: a tree without a file, without what clashes with a path.
  Trees that may be: what Check asks, said at once; a tree cleared of what clashes, with a file put.
  The document's own functions on paths: Parts, Check, Under, Clash: what they answer, at any text.
  rectoref14.Cause: what is wrong of a file by itself.
  The document's refusal as a value: one part, in a block of its own.
  rectoref3.At at any part; rectoref14.Check: the first file that may not be, and why, as the document's.
  rectoref14.Put: a file put into a row that rises: by paths alone.
  rectoref14.Paths: the paths of trees, rising, each once.
  rectoref14.Merge: the result as it grows.
  rectoref14.Merge: appends of the document's files and entries; three trees in a row.
-/
import Derived.Test.YtapcnmnnichamaaGreatDoorFIdx
import Derived.Test.YtapcnmnnichamaaGreatDoorPCheck
import Derived.Test.YtapcnmnnichamaaGreatDoorFChk
import Derived.Test.YtapcnmnnichamaaGreatDoorRP
import Derived.Test.YtapcnmnnichamaaGreatDoorSMem
import Derived.Lib.SplitLaws
import Derived.Laws.OwnMore
import Derived.Laws.Cover1
import Derived.Deep.RegionHeld3
import Derived.Deep.RegionWith
import Derived.WalkLawsBesides
import Derived.Outline
import Derived.Test.YtapcnmnnichamaaGreatDoorFRef
import Derived.Test.YtapcnmnnichamaaGreatDoorKMem
import Derived.Test.YtapcnmnnichamaaGreatDoorUG
import Derived.Test.YtapcnmnnichamaaGreatDoorFCheck
import Derived.Test.YtapcnmnnichamaaGreatDoorFGen
import Derived.Test.YtapcnmnnichamaaGreatDoorSPaths
import Derived.Test.YtapcnmnnichamaaGreatDoorTB
import Derived.Test.YtapcnmnnichamaaGreatDoorUC

namespace Go.Proofs.YtapcnmnnichamaaGreatDoor
open Go Go.RowKit

theorem flat_set : ∀ (m : List Fl) (i : Nat) (x : Fl), i < m.length → (((m.flatMap cF).set (i * 3) (.string x.1)).set (i * 3 + 1) (.int .i64 x.2.1)).set (i * 3 + 2) (.string x.2.2) = (m.set i x).flatMap cF
  | [], _, _, h => by simp at h
  | y :: r, 0, x, _ => by simp [cF]
  | y :: r, i + 1, x, h => by
    have ih := flat_set r i x (by simpa using h)
    rw [List.set_cons_succ, List.flatMap_cons, List.flatMap_cons, ← ih]
    have hc : (cF y).length = 3 := rfl
    rw [List.set_append_right _ _ (by rw [hc]; omega), List.set_append_right _ _ (by rw [hc]; omega), List.set_append_right _ _ (by rw [hc]; omega), hc]
    congr 1
    rw [show (i + 1) * 3 - 3 = i * 3 by omega, show (i + 1) * 3 + 1 - 3 = i * 3 + 1 by omega, show (i + 1) * 3 + 2 - 3 = i * 3 + 2 by omega]

def RowOwn (B g cap n : Nat) (m : List Fl) (W : World) : Prop := W.ownsRow B 49 3 (.slice (some ⟨g, 0, none⟩) n cap) n (m.flatMap cF)
theorem RowOwn.set {B g cap n : Nat} {m : List Fl} {W : World} (h : RowOwn B g cap n m W) (hm : m.length = n) (i : Nat) (hi : i < n) (x : Fl) :
    RowOwn B g cap n (m.set i x) (((W.setCell ⟨g, i * 3, none⟩ (.string x.1)).setCell ⟨g, i * 3 + 1, none⟩ (.int .i64 x.2.1)).setCell ⟨g, i * 3 + 2, none⟩ (.string x.2.2)) := by
  unfold RowOwn
  rw [← flat_set m i x (by omega)]
  have h1 := (World.ownsRow.stored h (i * 3) (.string x.1)).1
  have h2 := (World.ownsRow.stored h1 (i * 3 + 1) (.int .i64 x.2.1)).1
  exact (World.ownsRow.stored h2 (i * 3 + 2) (.string x.2.2)).1
theorem RowOwn.below {B g cap n : Nat} {m : List Fl} {W W' : World} (h : RowOwn B g cap n m W) (hb : Below W.heap.size W W') : RowOwn B g cap n m W' := own_keep h hb
theorem RowOwn.cellAt {B g cap n : Nat} {m : List Fl} {W : World} (h : RowOwn B g cap n m W) {i : Nat} {x : Fl} (hx : m[i]? = some x) :
    W.cell? ⟨g, i * 3, none⟩ = some (.string x.1) ∧ W.cell? ⟨g, i * 3 + 1, none⟩ = some (.int .i64 x.2.1) ∧ W.cell? ⟨g, i * 3 + 2, none⟩ = some (.string x.2.2) := by
  have key : ∀ j u, (cF x)[j]? = some u → W.cell? ⟨g, i * 3 + j, none⟩ = some u := fun j u hu => by
    have hj : j < 3 := (List.getElem?_eq_some_iff.1 hu).1
    have := World.ownsRow.cells h rfl (i * 3 + j) u (by rw [flat_at cF_len m i j x hx hj]; exact hu)
    rwa [add_zero_addr] at this
  exact ⟨key 0 _ rfl, key 1 _ rfl, key 2 _ rfl⟩
theorem RowOwn.frozenAt {B g cap n : Nat} {m : List Fl} {W : World} (h : RowOwn B g cap n m W) (j : Nat) : W.frozen? ⟨g, j, none⟩ = false := World.ownsRow.frozenAt h j
theorem RowOwn.isCell {B g cap n : Nat} {m : List Fl} {W : World} (h : RowOwn B g cap n m W) (j : Nat) (hj : j < n * 3) : (W.cell? ⟨g, j, none⟩).isSome = true := by
  rw [World.ownsRow.cellAt h j hj, List.getElem?_eq_getElem (by rw [h.1]; exact hj)]; rfl

/-- The cells of n files that are none. -/
def zs (n : Nat) : List Value := (Builtin.zeroCells #[.string ⟨#[]⟩, .int .i64 0, .string ⟨#[]⟩] n).toList
theorem zs_len (n : Nat) : (zs n).length = n * 3 := by simp [zs, Builtin.zeroCells]
theorem zs_one (n : Nat) : ∀ u ∈ zs n, u.oneCell' = true := fun u hu => by
  simp [zs, Builtin.zeroCells] at hu
  obtain ⟨i, _, rfl⟩ := hu
  have : i % 3 = 0 ∨ i % 3 = 1 ∨ i % 3 = 2 := by omega
  rcases this with h | h | h <;> rw [h] <;> rfl
theorem run_clear_files (w : World) (ty : TypeId) (b o n c : Nat) (hn : 0 < n) (hc : ∀ j, j < n * 3 → (w.cell? ⟨b, o + j, none⟩).isSome = true) (hf : ∀ j, j < n * 3 → w.frozen? ⟨b, o + j, none⟩ = false) :
    (Builtin.clear_ #[23] ty #[.slice (some ⟨b, o, none⟩) n c]).run Tryz.prog w = .ok (.tuple #[]) (w.setCells b o (zs n)) := by
  have hst := run_storeCells_cells (P := Tryz.prog) b o (zs n) 0 w (by rw [zs_len]; simpa using hc) (by rw [zs_len]; simpa using hf) (zs_one n)
  simp only [Nat.add_zero] at hst
  obtain ⟨m, rfl⟩ : ∃ m, n = m + 1 := ⟨n - 1, by omega⟩
  unfold zs at hst ⊢
  simp [Builtin.clear_, run_underlying Tryz.underlying23, Tryz.zeroValue49, Value.cells, hst]

/-- The files ahead, where those behind are cleared. -/
theorem reads_front {B g cap n : Nat} {m : List Fl} {W : World} (h : RowOwn B g cap n m W) (hm : m.length = n) (i : Nat) (hi : i ≤ n) (k : Nat) :
    Reads 3 cF (W.setCells g (i * 3) (zs k)) (.slice (some ⟨g, 0, none⟩) i cap) (m.take i) := by
  have hl : (m.take i).length = i := by rw [List.length_take]; omega
  have h2 := own_len h
  refine ⟨some ⟨g, 0, none⟩, cap, by rw [hl], by omega, h2.2.2, (fun e => by cases e), fun ad ha t x hx j u hu => ?_⟩
  obtain rfl := Option.some.inj ha
  have ht : t < i := by have := (List.getElem?_eq_some_iff.1 hx).1; omega
  have hj : j < 3 := (List.getElem?_eq_some_iff.1 hu).1
  have hx' : m[t]? = some x := by rwa [List.getElem?_take, if_pos ht] at hx
  have hc := World.ownsRow.cells h rfl (t * 3 + j) u (by rw [flat_at cF_len m t j x hx' hj]; exact hu)
  rw [add_zero_addr] at hc
  have := (World.cell?_setCells_out g (zs k) (i * 3) W ⟨g, t * 3 + j, none⟩ (fun _ _ => .inl (by show t * 3 + j < i * 3; omega))).trans hc
  cases j with
  | zero => unfold adr; rw [add_zero_addr]; exact this
  | succ j => unfold adr; rw [add_zero_addr]; exact this
theorem below_setCells {N g : Nat} (hg : N ≤ g) {a : World} : ∀ (vs : List Value) (o : Nat) (w : World), Below N a w → Below N a (w.setCells g o vs)
  | [], _, _, h => h
  | v :: r, o, _, h => below_setCells hg r (o + 1) _ (h.setCell (p := ⟨g, o, none⟩) hg v)

def KeptTo (B : Nat) (w0 : World) (l : List Fl) (e : Ending) (w' : World) : Prop := ∃ v, e = .returned v ∧ Reads 3 cF w' v l ∧ Below B w0 w'
theorem keep_snoc {p : Fl → Bool} {l : List Fl} {j : Nat} {x : Fl} (hx : l[j]? = some x) : (l.take (j + 1)).filter (fun x => !p x) = (l.take j).filter (fun x => !p x) ++ (if p x then [] else [x]) := by
  rw [take_snoc hx, List.filter_append]
  cases h : p x <;> simp [h]
theorem any_keep {p : Fl → Bool} {l : List Fl} (h : l.any p = false) : l.filter (fun x => !p x) = l := List.filter_eq_self.2 fun x hx => by
  have : p x = false := by
    rw [Bool.eq_false_iff]
    intro e
    have := List.any_eq_true.2 ⟨x, hx, e⟩
    rw [h] at this; cases this
  simp [this]
theorem take_set_snoc {m : List Fl} {i : Nat} {x : Fl} (hi : i < m.length) : (m.set i x).take (i + 1) = m.take i ++ [x] := by
  have h : (m.set i x)[i]? = some x := by simp [hi]
  rw [take_snoc h, List.take_set_of_le (Nat.le_refl i)]
theorem drop_set {m : List Fl} {i j : Nat} {x : Fl} (hij : i < j) : (m.set i x).drop j = m.drop j := List.drop_set_of_lt hij

end Go.Proofs.YtapcnmnnichamaaGreatDoor

namespace Go.Proofs.YtapcnmnnichamaaGreatDoor
open Go Go.RowKit

def clearF (l : List Fl) (p : ByteArray) : List Fl := l.filter fun x => !cls x.1.data.toList p.data.toList
theorem clear_rise {l : List Fl} (hr : RiseF l) (p : ByteArray) : RiseF (clearF l p) := hr.filter _
theorem cut_eq (l : List Fl) (p : ByteArray) : (l.filter fun x => !decide (x.1 = p)) = cutF l p := by unfold cutF; congr 1; funext x; simp

def ReadTo (l : List Fl) (w : World) (e : Ending) (w' : World) : Prop := KeptTo w.heap.size w l e w'

end Go.Proofs.YtapcnmnnichamaaGreatDoor

namespace Go.Proofs.YtapcnmnnichamaaGreatDoor
open Go Go.RowKit

theorem cls_symm (a b : List UInt8) : cls a b = cls b a := by
  unfold cls
  cases h1 : (a == []) <;> cases h2 : (b == []) <;> simp [Bool.or_comm]
theorem cls_self (a : List UInt8) : cls a a = false := by
  unfold cls
  cases h : (a == []) with
  | true => rfl
  | false =>
    have h0 : a ≠ [] := by simpa using h
    rw [und_short h0 (by omega)]
    rfl
def ApartF (l : List Fl) : Prop := ∀ x ∈ l, ∀ y ∈ l, cls x.1.data.toList y.1.data.toList = false
theorem clashF_iff {a : List Fl} {p : ByteArray} : clashF a p = false ↔ ∀ y ∈ a, cls y.1.data.toList p.data.toList = false := by
  unfold clashF
  rw [List.any_eq_false]
  constructor
  · intro h y hy
    have := h y hy
    simpa using this
  · intro h y hy
    rw [h y hy]; simp
theorem chkF_apart {l : List Fl} (h : chkF l = none) : ApartF l := fun x hx y hy => by
  obtain ⟨i, hi, rfl⟩ := List.getElem_of_mem hx
  obtain ⟨j, hj, rfl⟩ := List.getElem_of_mem hy
  have key : ∀ (i j : Nat) (hi : i < l.length) (hj : j < l.length), i < j → cls l[i].1.data.toList l[j].1.data.toList = false := fun i j hi hj hij => by
    have h1 := refF_clash (chkF_at h (List.getElem?_eq_getElem hj))
    refine clashF_iff.1 h1 l[i] (List.mem_of_getElem? (i := i) ?_)
    rw [List.getElem?_take, if_pos hij, List.getElem?_eq_getElem hi]
  rcases Nat.lt_trichotomy i j with hij | hij | hij
  · exact key i j hi hj hij
  · subst hij; exact cls_self _
  · rw [cls_symm]; exact key j i hj hi hij
theorem chkF_cause {l : List Fl} (h : chkF l = none) : ∀ x ∈ l, causeF x = 0 := fun x hx => by
  obtain ⟨i, hi, rfl⟩ := List.getElem_of_mem hx
  exact refF_cause (chkF_at h (List.getElem?_eq_getElem hi))
theorem chkF_of {l : List Fl} (hl : l.length ≤ 64) (hr : RiseF l) (hc : ∀ x ∈ l, causeF x = 0) (ha : ApartF l) : chkF l = none := by
  refine chkF_good (by omega) fun i f hf => refF_zero (hc f (List.mem_of_getElem? hf)) ?_ ?_
  · unfold lateF
    rw [List.getLast?_take]
    by_cases hi : i = 0
    · rw [if_pos hi]
    · rw [if_neg hi]
      have hil := (List.getElem?_eq_some_iff.1 hf).1
      obtain ⟨g, hg⟩ : ∃ g, l[i - 1]? = some g := ⟨_, List.getElem?_eq_getElem (by omega)⟩
      have := rise_at hr hg (by rw [Nat.sub_add_cancel (by omega)]; exact hf)
      rw [hg]
      show decide (0 ≤ cb g.1 f.1) = false
      exact decide_eq_false (by omega)
  · exact clashF_iff.2 fun y hy => ha y (List.mem_of_mem_take hy) f (List.mem_of_getElem? hf)
/-- A tree cleared of what clashes, with the file. -/
def clrPut (l : List Fl) (f : Fl) : List Fl := putF (clearF l f.1) f
theorem clrPut_mem {l : List Fl} {f x : Fl} (h : x ∈ clrPut l f) : x = f ∨ (x ∈ l ∧ cls x.1.data.toList f.1.data.toList = false) := by
  rcases put_mem.1 h with h | ⟨h, _⟩
  · exact .inl h
  · unfold clearF at h
    rw [List.mem_filter] at h
    exact .inr ⟨h.1, by simpa using h.2⟩
theorem clrPut_rise {l : List Fl} (hr : RiseF l) (f : Fl) : RiseF (clrPut l f) := put_rise (clear_rise hr _) f
theorem clrPut_check {l : List Fl} {f : Fl} (h : chkF l = none) (hf : causeF f = 0) (hl : (clrPut l f).length ≤ 64) : chkF (clrPut l f) = none := by
  refine chkF_of hl (clrPut_rise (chkF_rise h) f) (fun x hx => ?_) fun x hx y hy => ?_
  · rcases clrPut_mem hx with rfl | ⟨hx, _⟩
    · exact hf
    · exact chkF_cause h x hx
  · rcases clrPut_mem hx with rfl | ⟨hx, hxf⟩
    · rcases clrPut_mem hy with rfl | ⟨_, hyf⟩
      · exact cls_self _
      · rw [cls_symm]; exact hyf
    · rcases clrPut_mem hy with rfl | ⟨hy, _⟩
      · exact hxf
      · exact chkF_apart h x hx y hy
theorem clrPut_get {l : List Fl} (hr : RiseF l) (f : Fl) : getF (clrPut l f) f.1 = some f := by
  unfold clrPut
  rw [get_put (clear_rise hr _), if_pos rfl]
theorem clrPut_stays {l : List Fl} (hr : RiseF l) {f x : Fl} (hx : x ∈ l) : (getF (clrPut l f) x.1).isSome = !cls x.1.data.toList f.1.data.toList := by
  unfold clrPut
  rw [get_put (clear_rise hr _)]
  by_cases h : x.1 = f.1
  · rw [if_pos h, h, cls_self]; rfl
  · rw [if_neg h]
    cases hc : cls x.1.data.toList f.1.data.toList with
    | false =>
      have hm : x ∈ clearF l f.1 := List.mem_filter.2 ⟨hx, by simp [hc]⟩
      rw [mem_getF (clear_rise hr _) hm]; rfl
    | true =>
      have : getF (clearF l f.1) x.1 = none := getF_none fun hm => by
        obtain ⟨y, hy, he⟩ := List.mem_map.1 hm
        have h2 := (List.mem_filter.1 hy).2
        rw [he, hc] at h2
        cases h2
      rw [this]; rfl
theorem clrPut_len (l : List Fl) (f : Fl) : (clrPut l f).length ≤ l.length + 1 := Nat.le_trans (put_len _ _) (by have := List.length_filter_le (fun x : Fl => !cls x.1.data.toList f.1.data.toList) l; unfold clearF; omega)
end Go.Proofs.YtapcnmnnichamaaGreatDoor

namespace Go.Proofs.YtapcnmnnichamaaGreatDoor
open Go Go.RowKit

theorem good_any (c : Int) (w : World) (h0 : 0 ≤ c) (h1 : c ≤ 255) : Calls Tryz.prog 100 #[.int .u8 c] w fun e w' => e = .returned (.bool (gbv c)) ∧ w = w' := by
  by_cases h46 : c = 46
  · subst h46
    have hg : Hid (true = gbv 46) := by show true = gbv 46; rfl
    go_enter Tryz.func100, Tryz.ntmps100
    go_wp2
    all_goals
      go_ret
      exact ⟨ret_b hg.out, rfl⟩
  · by_cases h45 : c = 45
    · subst h45
      have hg : Hid (true = gbv 45) := by show true = gbv 45; rfl
      go_enter Tryz.func100, Tryz.ntmps100
      go_wp2
      all_goals
        go_ret
        exact ⟨ret_b hg.out, rfl⟩
    · by_cases h95 : c = 95
      · subst h95
        have hg : Hid (true = gbv 95) := by show true = gbv 95; rfl
        go_enter Tryz.func100, Tryz.ntmps100
        go_wp2
        all_goals
          go_ret
          exact ⟨ret_b hg.out, rfl⟩
      · have b1 : (c == 46) = false := by rw [beq_eq_false_iff_ne]; exact h46
        have b2 : (c == 45) = false := by rw [beq_eq_false_iff_ne]; exact h45
        have b3 : (c == 95) = false := by rw [beq_eq_false_iff_ne]; exact h95
        go_enter Tryz.func100, Tryz.ntmps100
        go_wp2
        all_goals
          go_ret
          exact ⟨ret_b (by unfold gbv; rw [Bool.eq_iff_iff]; simp only [Bool.or_eq_true, Bool.and_eq_true, decide_eq_true_eq, Bool.false_eq_true, true_iff, false_iff] <;> omega), rfl⟩
theorem spl_snoc : ∀ (l : List UInt8) (f : List (List UInt8)) (x : List UInt8) (c : UInt8), spl l = f ++ [x] → spl (l ++ [c]) = if c = 47 then f ++ [x] ++ [[]] else f ++ [x ++ [c]]
  | [], f, x, c, h => by
    have h' : [[]] = f ++ [x] := h
    cases f with
    | nil => simp at h'; subst h'; by_cases hc : c = 47 <;> simp [spl, hc]
    | cons a f => simp at h'
  | d :: r, f, x, c, h => by
    rw [List.cons_append]
    by_cases hd : d = 47
    · rw [spl, if_pos hd] at h ⊢
      cases f with
      | nil =>
        have h2 : spl r = [] := (List.cons.inj h).2
        exact absurd h2 (spl_ne r)
      | cons a f =>
        rw [List.cons_append, List.cons.injEq] at h
        obtain ⟨rfl, h2⟩ := h
        rw [spl_snoc r f x c h2]
        split <;> rfl
    · rw [spl, if_neg hd] at h ⊢
      cases hs : spl r with
      | nil => exact absurd hs (spl_ne r)
      | cons y ys =>
        rw [hs] at h
        simp only [List.headD_cons, List.tail_cons] at h
        cases f with
        | nil =>
          rw [List.nil_append, List.cons.injEq] at h
          obtain ⟨rfl, rfl⟩ := h
          rw [spl_snoc r [] y c hs]; split <;> rfl
        | cons a f =>
          rw [List.cons_append, List.cons.injEq] at h
          obtain ⟨rfl, h2⟩ := h
          rw [spl_snoc r (y :: f) x c (by rw [hs, h2]; rfl)]
          split <;> rfl
/-- Bytes as a string. -/
def mk (l : List UInt8) : ByteArray := ⟨l.toArray⟩
theorem mk_toList (s : ByteArray) : mk s.data.toList = s := by cases s; simp [mk]
theorem toList_mk (l : List UInt8) : (mk l).data.toList = l := by simp [mk]
theorem mk_size (l : List UInt8) : (mk l).size = l.length := by rw [← size_list, toList_mk]
theorem take_one (l : List UInt8) (k : Nat) (h : k < l.length) : l.take (k + 1) = l.take k ++ [l[k]] := by
  rw [List.take_succ_eq_append_getElem h]
theorem extract_mk (s : ByteArray) (a b : Nat) : s.extract a b = mk ((s.data.toList.take b).drop a) := by
  apply bytes_eq
  rw [ByteArray.data_extract, Array.toList_extract, List.extract_eq_take_drop, toList_mk]
  simp [List.drop_take]
/-- A text's parts, put together again with strokes. -/
def jn : List (List UInt8) → List UInt8
  | [] => []
  | [x] => x
  | x :: y :: r => x ++ 47 :: jn (y :: r)
theorem jn_front (c : UInt8) (y : List UInt8) (ys : List (List UInt8)) : jn ((c :: y) :: ys) = c :: jn (y :: ys) := by
  cases ys <;> rfl
theorem jn_spl : ∀ l : List UInt8, jn (spl l) = l
  | [] => rfl
  | c :: r => by
    have ih := jn_spl r
    cases hs : spl r with
    | nil => exact absurd hs (spl_ne r)
    | cons y ys =>
      rw [hs] at ih
      by_cases hc : c = 47
      · subst hc
        rw [spl, if_pos rfl, hs]
        show [] ++ 47 :: jn (y :: ys) = _
        rw [ih]; rfl
      · rw [spl, if_neg hc, hs]
        show jn ((c :: y) :: ys) = _
        rw [jn_front, ih]
theorem jn_snoc (x : List UInt8) : ∀ f : List (List UInt8), f ≠ [] → jn (f ++ [x]) = jn f ++ 47 :: x
  | [], h => absurd rfl h
  | [y], _ => rfl
  | y :: z :: r, _ => by
    have ih := jn_snoc x (z :: r) (by simp)
    show y ++ 47 :: jn ((z :: r) ++ [x]) = (y ++ 47 :: jn (z :: r)) ++ 47 :: x
    rw [ih]; simp
theorem jn_len : ∀ f : List (List UInt8), ∀ x ∈ f, x.length ≤ (jn f).length
  | [], x, h => by cases h
  | [y], x, h => by simp at h; subst h; exact Nat.le_refl _
  | y :: z :: r, x, h => by
    show x.length ≤ (y ++ 47 :: jn (z :: r)).length
    rw [List.length_append, List.length_cons]
    rcases List.mem_cons.1 h with rfl | h
    · omega
    · have := jn_len (z :: r) x h
      omega
theorem spl_part {l x : List UInt8} (h : x ∈ spl l) : x.length ≤ l.length := by
  have := jn_len (spl l) x h
  rwa [jn_spl] at this
theorem row_set {w : World} {g : Nat} {cur : Array Value} {t : TypeId} (h : w.heap[g]? = some (.cells cur t (0, 0))) (k : Nat) (v : Value) : (w.setCell ⟨g, k, none⟩ v).heap[g]? = some (.cells (cur.setIfInBounds k v) t (0, 0)) := by
  simp [World.setCell, Array.getElem?_modify, h]
/-- A row of the call's own, its last cell: what is in it; what becomes of the row when it is written. -/
theorem own_last {w : World} {B n : Nat} {v : Value} {xs : List Value} {u : Value} (h : w.ownsRow B 9 1 v (n + 1) (xs ++ [u])) :
    ∃ g cap, v = .slice (some ⟨g, 0, none⟩) (n + 1) cap ∧ n + 1 ≤ cap ∧ cap ≤ maxLen ∧ B ≤ g ∧ w.cell? ⟨g, n, none⟩ = some u ∧ w.frozen? ⟨g, n, none⟩ = false ∧
      ∀ u', (w.setCell ⟨g, n, none⟩ u').ownsRow B 9 1 v (n + 1) (xs ++ [u']) := by
  obtain ⟨hl, h⟩ := h
  rcases h with ⟨_, h⟩ | ⟨g, cap, cur, rfl, hB, hh, hn, hm, hs, ht⟩
  · omega
  simp only [Nat.mul_one] at hl hs ht
  have hxl : xs.length = n := by simpa using hl
  have hcl : cur.toList.length = cap := by rw [Array.length_toList]; exact hs
  have hcell : cur[n]? = some u := by
    have : (cur.toList.take (n + 1))[n]? = some u := by rw [ht, List.getElem?_append_right (by omega), hxl]; simp
    rw [List.getElem?_take, if_pos (by omega)] at this
    rwa [Array.getElem?_toList] at this
  refine ⟨g, cap, rfl, hn, hm, hB, (cell_of_row w g n cur 9 (0, 0) hh).trans hcell, by simp [World.frozen?, hh], fun u' => ⟨by simpa using hl, .inr ⟨g, cap, cur.setIfInBounds n u', rfl, hB, row_set hh n u', hn, hm, by simpa using hs, ?_⟩⟩⟩
  rw [Nat.mul_one, Array.toList_setIfInBounds, List.take_set, ht, List.set_append_right _ _ (by omega), hxl]
  simp
/-- Texts in new memory of the call's own, or nil. -/
def StrsTo (B : Nat) (w : World) (ls : List ByteArray) (e : Ending) (w' : World) : Prop :=
  ∃ v, e = .returned v ∧ w'.ownsRow B 9 1 v ls.length (ls.map Value.string) ∧ Below w.heap.size w w'
/-- The state of the cutting behind k bytes. -/
def Cut (p : ByteArray) (k n : Nat) (f : List ByteArray) (x : ByteArray) : Prop := f.length = n ∧ n ≤ k ∧ x.size ≤ k ∧ spl (p.data.toList.take k) = f.map (·.data.toList) ++ [x.data.toList]
theorem cut_zero (p : ByteArray) : Cut p 0 0 [] ⟨#[]⟩ := ⟨rfl, Nat.le_refl _, Nat.le_refl _, rfl⟩
theorem cut_stroke {p : ByteArray} {k n : Nat} {f : List ByteArray} {x : ByteArray} (h : Cut p k n f x) (hk : k < p.data.toList.length) (hc : p.data.toList[k] = 47) : Cut p (k + 1) (n + 1) (f ++ [x]) ⟨#[]⟩ := by
  obtain ⟨h1, h2, h3, h4⟩ := h
  refine ⟨by simp [h1], by omega, Nat.zero_le _, ?_⟩
  rw [take_one _ _ hk, spl_snoc _ _ _ _ h4, if_pos hc]
  simp
theorem cut_byte {p : ByteArray} {k n : Nat} {f : List ByteArray} {x : ByteArray} (h : Cut p k n f x) (hk : k < p.data.toList.length) (hc : ¬ p.data.toList[k] = 47) : Cut p (k + 1) n f (x ++ p.extract k (k + 1)) := by
  obtain ⟨h1, h2, h3, h4⟩ := h
  have e : (p.extract k (k + 1)).data.toList = [p.data.toList[k]] := by
    rw [extract_mk, toList_mk, take_one _ _ hk, List.drop_append_of_le_length (by rw [List.length_take]; omega), List.drop_eq_nil_of_le (by rw [List.length_take]; omega)]; rfl
  have e2 : (x ++ p.extract k (k + 1)).data.toList = x.data.toList ++ [p.data.toList[k]] := by rw [ByteArray.data_append, Array.toList_append, e]
  refine ⟨h1, by omega, ?_, ?_⟩
  · rw [← size_list, e2, List.length_append, size_list]; simp; omega
  · rw [take_one _ _ hk, spl_snoc _ _ _ _ h4, if_neg hc, e2]
theorem refParts_none (w : World) : Calls Tryz.prog 99 #[.string ⟨#[]⟩] w fun e w' => e = .returned (.slice none 0 0) ∧ w = w' := by
  go_enter Tryz.func99, Tryz.ntmps99
  go_wp2
  go_ret
  exact ⟨rfl, rfl⟩
set_option maxRecDepth 100000 in
set_option maxHeartbeats 2000000 in
theorem refParts_any (p : ByteArray) (w : World) (hp : p.size ≤ 1000000) (hne : ¬ p.size = 0) :
    Calls Tryz.prog 99 #[.string p] w (StrsTo w.heap.size w ((spl p.data.toList).map mk)) := by
  obtain ⟨i0, hi, hz0, hz1, hz2⟩ := info_parts strInfo
  obtain ⟨q1, q2⟩ := not_nil hne
  have HSZ := Lib.hid (size_list p)
  go_enter Tryz.func99, Tryz.ntmps99
  go_wp2_with fail
  go_loopw [3, 4] (fun v i wr => ∃ (k n : Nat) (f : List ByteArray) (x : ByteArray), k ≤ p.size ∧ i = .int .i64 k ∧ Hid (Cut p k n f x) ∧ wr.ownsRow w.heap.size 9 1 v (n + 1) (f.map Value.string ++ [.string x]) ∧ Below w.heap.size w wr) (fun _ i _ => p.size - (intOf i).toNat)
  case atStart =>
    refine ⟨0, 0, [], ⟨#[]⟩, Nat.zero_le _, rfl, Lib.hid (cut_zero p), ?_, (Below.refl _ _).alloc (Nat.le_refl _) _⟩
    exact ⟨rfl, .inr ⟨w.heap.size, 1, #[.string ⟨#[]⟩], rfl, Nat.le_refl _, heap_alloc_new w _, Nat.le_refl _, by decide, rfl, rfl⟩⟩
  case round =>
    obtain ⟨k, n, f, x, hk, rfl, hat, hown, hb⟩ := hrel
    by_cases hlt : k < p.size
    · have hl : k < p.data.toList.length := by rw [HSZ.out]; exact hlt
      have hnk : n ≤ k := hat.out.2.1
      have hxk : x.size ≤ k := hat.out.2.2.1
      by_cases hc : p[k] = 47
      · have hc' : p.data.toList[k] = 47 := hc
        have HE := Lib.hid (cut_stroke hat.out hl hc')
        have ht : ((p[k].toNat : Int) == 47) = true := by rw [hc]; rfl
        clear hat hc hc'
        go_wp2_with (at_builtin; refine wpList_append_own _ rfl _ _ 27 rfl w.heap.size 9 i0 (.string { data := #[] }) 1 16 Tryz.underlying27 hi hz0 hz1 hz2 rfl (by decide) _ _ _ rfl (hown.alloc _) ⟨wr.heap.size, 0, none⟩ 1 1 [.string ⟨#[]⟩] rfl ?c1 ?c2 ?c3 ?c4 ?c5 ?c6 ?_)
        case c1 => rfl
        case c2 => exact cell_one_new _ _ _
        case c3 => intro u hu; simp at hu; subst hu; rfl
        case c4 => unfold maxLen; omega
        case c5 => omega
        case c6 => have := hb.size; simp; omega
        intro v' w2 hown2 hg2 _
        have hb2 := (hb.alloc hb.size _).grown hg2 (by have := hb.size; simp; omega) fun z hz => (hown.lt z hz).1
        clear hg2 hown hb
        go_wp2
        go_roundw
        case rel =>
          refine ⟨k + 1, n + 1, f ++ [x], ⟨#[]⟩, by omega, by go_num, HE, ?_, hb2⟩
          simpa using hown2
        case measure => simp [intOf]; omega
      · have hc' : ¬ p.data.toList[k] = 47 := hc
        have HE := Lib.hid (cut_byte hat.out hl hc')
        have ht : ((p[k].toNat : Int) == 47) = false := by
          rw [beq_eq_false_iff_ne]
          intro e
          exact hc (UInt8.toNat_inj.1 (show p[k].toNat = 47 by omega))
        obtain ⟨g, cap, rfl, hn1, hmx, hBg, hcell, hfz, hset⟩ := own_last hown
        have HS := Lib.hid hset
        unfold maxLen at hmx
        clear hat hc hc' hset hown
        have hkp : k + 1 ≤ p.size := hlt
        generalize hm : n + 1 = m at *
        have HM := Lib.hid hm
        have z1 : (0 : Int) ≤ (n : Int) := Int.natCast_nonneg _
        have z2 : (n : Int) < (m : Int) := by omega
        have z3 : IntKind.i64.wrap ((m : Int) - 1) = (n : Int) := by rw [IntKind.wrap_i64]; omega
        have z4 : (0 : Int) ≤ (k : Int) := Int.natCast_nonneg _
        have z5 : IntKind.i64.wrap ((k : Int) + 1) = ((k + 1 : Nat) : Int) := by rw [IntKind.wrap_i64]; omega
        have z6 : (k : Int) ≤ ((k + 1 : Nat) : Int) := by omega
        have z7 : ((k + 1 : Nat) : Int) ≤ (p.size : Int) := by omega
        have z8 : k ≤ k + 1 := by omega
        clear hm
        go_wp2_with fail
        go_region
        all_goals go_wp2
        all_goals go_roundw
        case rel =>
          refine ⟨k + 1, n, f, x ++ p.extract k (k + 1), hkp, by go_num, HE, ?_, ?_⟩
          · rw [HM.out]
            have h2 := HS.out (.string (x ++ p.extract k (k + 1)))
            exact h2
          · exact (hb.setCell (p := ⟨g, n, none⟩) hBg _).drew
        case measure => simp [intOf]; omega
    · obtain rfl : k = p.size := by omega
      have hall : p.data.toList.take p.size = p.data.toList := List.take_of_length_le (by rw [HSZ.out]; omega)
      have hat := hat.out
      unfold Cut at hat
      rw [hall] at hat
      have HR : Hid ((spl p.data.toList).map mk = f ++ [x]) := by
        show (spl p.data.toList).map mk = f ++ [x]
        rw [hat.2.2.2, List.map_append, List.map_map]
        congr 1
        · rw [List.map_congr_left (g := id) (fun y _ => by show mk _ = _; exact mk_toList y), List.map_id]
      have HN := Lib.hid hat.1
      clear hat hall
      go_wp2
      go_ret
      refine ⟨_, rfl, ?_, hb⟩
      rw [HR.out, List.length_append, HN.out]
      simpa using hown
/-- A row of texts that isn't empty: where it lies; what its cells hold. -/
theorem own_cells {w : World} {B : Nat} {v : Value} {ls : List ByteArray} (h : w.ownsRow B 9 1 v ls.length (ls.map Value.string)) (h0 : 0 < ls.length) :
    ∃ g cap, v = .slice (some ⟨g, 0, none⟩) ls.length cap ∧ ls.length ≤ cap ∧ cap ≤ maxLen ∧ g < w.heap.size ∧ ∀ k x, ls[k]? = some x → w.cell? ⟨g, k, none⟩ = some (.string x) := by
  obtain ⟨hl, h⟩ := h
  rcases h with ⟨_, h⟩ | ⟨g, cap, cur, rfl, hB, hh, hn, hm, hs, ht⟩
  · omega
  simp only [Nat.mul_one] at hl hs ht
  refine ⟨g, cap, rfl, hn, hm, (Array.getElem?_eq_some_iff.1 hh).1, fun k x hk => (cell_of_row w g k cur 9 (0, 0) hh).trans ?_⟩
  have hlt := (List.getElem?_eq_some_iff.1 hk).1
  have : (cur.toList.take ls.length)[k]? = some (.string x) := by rw [ht, List.getElem?_map, hk]; rfl
  rw [List.getElem?_take, if_pos hlt] at this
  rwa [Array.getElem?_toList] at this
theorem refCheck_long (p : ByteArray) (w : World) (hp : p.size ≤ 9223372036854775807) (h : 64 < p.size) : Calls Tryz.prog 70 #[.string p] w fun e w' => e = .returned (.int .i64 4) ∧ Below w.heap.size w w' := by
  have hi : (64 : Int) < (p.size : Int) := by omega
  go_enter Tryz.func70, Tryz.ntmps70
  go_wp2
  go_ret
  exact ⟨rfl, Below.refl _ _⟩
theorem refCheck_none (w : World) : Calls Tryz.prog 70 #[.string ⟨#[]⟩] w fun e w' => e = .returned (.int .i64 5) ∧ Below w.heap.size w w' := by
  go_enter Tryz.func70, Tryz.ntmps70
  go_wp2_with (go_at_call 99; refine (refParts_none _).mono ?_; rintro e w' ⟨rfl, rfl⟩)
  go_ret
  exact ⟨rfl, Below.refl _ _⟩
theorem ret_5 {p : ByteArray} {k : Nat} {x : List UInt8} (h : ¬ 64 < p.data.toList.length) (h0 : p.data.toList ≠ []) (hk : (spl p.data.toList)[k]? = some x) (hg : gp x = false) : chk p.data.toList = 5 :=
  chk_bad h h0 (by
    rw [Bool.eq_false_iff]
    intro ha
    have := List.all_eq_true.1 ha x (List.mem_of_getElem? hk)
    rw [hg] at this
    cases this)
set_option maxRecDepth 100000 in
set_option maxHeartbeats 4000000 in
theorem refCheck_main (p : ByteArray) (w : World) (h : ¬ 64 < p.size) (hne : ¬ p.size = 0) : Calls Tryz.prog 70 #[.string p] w (Checked p w) := by
  have hi : ¬ (64 : Int) < (p.size : Int) := by omega
  have hi2 : (p.size : Int) ≤ 64 := by omega
  obtain ⟨n, hn⟩ : ∃ n, (spl p.data.toList).length = n := ⟨_, rfl⟩
  have hsz := size_list p
  have hn1 : n ≤ 65 := by have := spl_len p.data.toList; omega
  have hn0 : 0 < n := by have := List.length_pos_iff.2 (spl_ne p.data.toList); omega
  have hnz : ((n : Int) == 0) = false := by rw [beq_eq_false_iff_ne]; omega
  have B5 : Hid (∀ (k : Nat) (x : List UInt8), (spl p.data.toList)[k]? = some x → gp x = false → chk p.data.toList = 5) := Lib.hid fun k x hk hg => ret_5 (by omega) (fun e => hne (by rw [← hsz, e]; rfl)) hk hg
  have B0 : Hid ((spl p.data.toList).all gp = true → chk p.data.toList = 0) := Lib.hid fun ha => chk_good (by omega) (fun e => hne (by rw [← hsz, e]; rfl)) ha
  have PL : Hid (∀ x ∈ spl p.data.toList, x.length ≤ 64) := Lib.hid fun x hx => by have := spl_part hx; omega
  go_enter Tryz.func70, Tryz.ntmps70
  go_wp2_with fail
  refine (refParts_any p w (by omega) hne).mono ?_
  rintro e w1 ⟨v, rfl, hown, hb1⟩
  obtain ⟨g, cap, rfl, hcap, hmx, hg, hcs⟩ := own_cells hown (by rw [List.length_map, hn]; exact hn0)
  rw [List.length_map, hn] at hcap ⊢
  have HN := Lib.hid hn
  have HB := Lib.hid hb1
  have HC : Hid (∀ (k : Nat) (x : List UInt8), (spl p.data.toList)[k]? = some x → w1.cell? ⟨g, k, none⟩ = some (.string (mk x))) := Lib.hid fun k x hk => hcs k (mk x) (by rw [List.getElem?_map, hk]; rfl)
  unfold maxLen at hmx
  clear hcs hown hb1 hn hsz
  go_wp2_with fail
  go_loopw [4] (fun i wr => ∃ k : Nat, i = .int .i64 k ∧ k ≤ n ∧ SameW wr w1 ∧ Hid (∀ j x, j < k → (spl p.data.toList)[j]? = some x → gp x = true)) (fun i _ => n - (intOf i).toNat)
  case atStart => exact ⟨0, rfl, Nat.zero_le _, rfl, Lib.hid fun j x hj => absurd hj (Nat.not_lt_zero _)⟩
  case round =>
    obtain ⟨k, rfl, hk, hw, hall⟩ := hrel
    unfold SameW at hw
    subst hw
    by_cases hlt : k < n
    · obtain ⟨x, hx⟩ : ∃ x, (spl p.data.toList)[k]? = some x := ⟨_, List.getElem?_eq_getElem (by rw [HN.out]; exact hlt)⟩
      have hcell := HC.out k x hx
      have hxl := PL.out x (List.mem_of_getElem? hx)
      have HX := Lib.hid hx
      clear hx
      obtain ⟨y, hy⟩ : ∃ y, mk x = y := ⟨_, rfl⟩
      have hyx : y.data.toList = x := by rw [← hy, toList_mk]
      rw [hy] at hcell
      have hys : y.size ≤ 64 := by rw [← hy, mk_size]; exact hxl
      clear hy hxl
      by_cases e0 : y.data.toList = []
      · obtain rfl := bytes_eq (b := ⟨#[]⟩) e0
        have H5 := Lib.hid (B5.out k x HX.out (by rw [← hyx]; rfl))
        clear e0 hyx
        go_wp2
        go_ret
        exact ⟨ret_i H5.out.symm, HB.out⟩
      by_cases e1 : y.data.toList = [46]
      · obtain rfl := bytes_eq (b := ⟨#[46]⟩) e1
        have H5 := Lib.hid (B5.out k x HX.out (by rw [← hyx]; rfl))
        clear e0 e1 hyx
        go_wp2
        go_ret
        exact ⟨ret_i H5.out.symm, HB.out⟩
      by_cases e2 : y.data.toList = [46, 46]
      · obtain rfl := bytes_eq (b := ⟨#[46, 46]⟩) e2
        have H5 := Lib.hid (B5.out k x HX.out (by rw [← hyx]; rfl))
        clear e0 e1 e2 hyx
        go_wp2
        go_ret
        exact ⟨ret_i H5.out.symm, HB.out⟩
      have q0 : ¬ y.toList = [] := by rw [ByteArray.toList_eq]; exact e0
      have q0' : y.toList.isEmpty = false := by rw [List.isEmpty_eq_false_iff]; exact q0
      have q1 : ¬ y.toList = [46] := by rw [ByteArray.toList_eq]; exact e1
      have q1' : (y.toList == [46]) = false := by rw [beq_eq_false_iff_ne]; exact q1
      have q2 : ¬ y.toList = [46, 46] := by rw [ByteArray.toList_eq]; exact e2
      have q2' : (y.toList == [46, 46]) = false := by rw [beq_eq_false_iff_ne]; exact q2
      have E := Lib.hid (And.intro e0 (And.intro e1 e2))
      have HYX := Lib.hid hyx
      have HYS := Lib.hid (size_list y)
      clear e0 e1 e2 hyx
      go_wp2_with fail
      go_loopw [5] (fun i wq => ∃ j : Nat, i = .int .i64 j ∧ j ≤ y.size ∧ SameW wq wr ∧ Hid (∀ i (hi : i < y.data.toList.length), i < j → gbv (y.data.toList[i].toNat : Int) = true)) (fun i _ => y.size - (intOf i).toNat)
      case atStart => exact ⟨0, rfl, Nat.zero_le _, rfl, Lib.hid fun i hi hj => absurd hj (Nat.not_lt_zero _)⟩
      case round =>
        obtain ⟨j, rfl, hj, hw, hgood⟩ := hrel
        unfold SameW at hw
        subst hw
        by_cases hjy : j < y.size
        · have hjl : j < y.data.toList.length := by rw [HYS.out]; exact hjy
          have hc0 : (0 : Int) ≤ (y[j].toNat : Int) := Int.natCast_nonneg _
          have hc1 : (y[j].toNat : Int) ≤ 255 := by have := y[j].toNat_lt; omega
          have GA := Lib.hid (good_any (y[j].toNat : Int) wr hc0 hc1)
          cases hgb : gbv (y[j].toNat : Int) with
          | false =>
            rw [hgb] at GA
            have H5 := Lib.hid (B5.out k x HX.out (by rw [← HYX.out]; exact gp_bad hjl hgb))
            clear hgb
            go_wp2_with (go_at_call 100; refine GA.out.mono ?_; rintro e w' ⟨rfl, rfl⟩)
            go_ret
            exact ⟨ret_i H5.out.symm, HB.out⟩
          | true =>
            rw [hgb] at GA
            have HG : Hid (∀ i (hi : i < y.data.toList.length), i < j + 1 → gbv (y.data.toList[i].toNat : Int) = true) := Lib.hid fun i hi hij => by
              by_cases e : i = j
              · subst e; exact hgb
              · exact hgood.out i hi (by omega)
            clear hgb hgood
            go_wp2_with (go_at_call 100; refine GA.out.mono ?_; rintro e w' ⟨rfl, rfl⟩)
            go_roundw
            case rel => exact ⟨j + 1, by go_num, hjy, rfl, HG⟩
            case measure => simp [intOf]; omega
        · have HP : Hid (∀ j x, j < k + 1 → (spl p.data.toList)[j]? = some x → gp x = true) := Lib.hid fun i z hi hz => by
            by_cases e : i = k
            · subst e
              obtain rfl : x = z := Option.some.inj (HX.out.symm.trans hz)
              rw [← HYX.out]
              exact gp_all E.out.1 E.out.2.1 E.out.2.2 fun t ht => hgood.out t ht (by rw [HYS.out] at ht; omega)
            · exact hall.out i z (by omega) hz
          clear hgood hall
          go_wp2
          go_roundw
          case rel => exact ⟨k + 1, by go_num, hlt, rfl, HP⟩
          case measure => simp [intOf]; omega
    · have H0 := Lib.hid (B0.out (by
        rw [List.all_eq_true]
        intro x hx
        obtain ⟨j, hj, rfl⟩ := List.getElem_of_mem hx
        exact hall.out j _ (by rw [HN.out] at hj; omega) (List.getElem?_eq_getElem hj)))
      clear hall
      go_wp2
      go_ret
      exact ⟨ret_i H0.out.symm, HB.out⟩
theorem refCheck_any (p : ByteArray) (w : World) (hp : p.size ≤ 9223372036854775807) : Calls Tryz.prog 70 #[.string p] w (Checked p w) := by
  by_cases h : 64 < p.size
  · refine (refCheck_long p w hp h).mono ?_
    rintro e w' ⟨rfl, hb⟩
    exact ⟨ret_i (chk_long (by rw [size_list]; exact h)).symm, hb⟩
  · by_cases h0 : p.size = 0
    · obtain rfl := nil_of h0
      exact refCheck_none w
    · exact refCheck_main p w h h0
end Go.Proofs.YtapcnmnnichamaaGreatDoor

namespace Go.Proofs.YtapcnmnnichamaaGreatDoor
open Go Go.RowKit

theorem refMode_any (m : Int) (w : World) : Calls Tryz.prog 71 #[.int .i64 m] w fun e w' => e = .returned (.bool (decide (m = 1) || decide (m = 2))) ∧ w = w' := by
  by_cases h1 : m = 1
  · subst h1
    go_enter Tryz.func71, Tryz.ntmps71
    go_wp2
    go_ret
    exact ⟨rfl, rfl⟩
  · have e1 : (m == 1) = false := by simpa using h1
    by_cases h2 : m = 2
    · subst h2
      go_enter Tryz.func71, Tryz.ntmps71
      go_wp2
      go_ret
      exact ⟨rfl, rfl⟩
    · have e2 : (m == 2) = false := by simpa using h2
      have HV := Lib.hid (show (decide (m = 1) || decide (m = 2)) = false by simp [h1, h2])
      go_enter Tryz.func71, Tryz.ntmps71
      go_wp2
      go_ret
      exact ⟨ret_b HV.out.symm, rfl⟩

set_option maxRecDepth 100000 in
set_option maxHeartbeats 2000000 in
theorem refCause_any (w : World) (p : ByteArray) (m : Int) (d : ByteArray) (hp : p.size ≤ 9223372036854775807) (hd : d.size ≤ 9223372036854775807) :
    Calls Tryz.prog 48 #[.agg #[.string p, .int .i64 m, .string d]] w (NumTo (causeF (p, m, d)) w) := by
  obtain ⟨W1, hW1⟩ : ∃ W1, W1 = w.alloc (.cells #[.string p, .int .i64 m, .string d] 52) := ⟨_, rfl⟩
  have B1 : Below w.heap.size w W1 := by rw [hW1]; exact (Below.refl _ _).alloc (Nat.le_refl _) _
  have K1 : W1.heap[w.heap.size]? = some (.cells #[.string p, .int .i64 m, .string d] 52 (0, 0)) := by rw [hW1]; exact heap_alloc_new w _
  have CK := Lib.hid (refCheck_any p W1 hp)
  obtain ⟨G, hG⟩ : ∃ G, G = w.heap.size := ⟨_, rfl⟩
  have hG1 : G < W1.heap.size := by rw [hG, hW1]; simp
  rw [← hG] at K1
  have ZZ := Lib.hid fun W (hW : Below W1.heap.size W1 W) => (show W.cell? ⟨G, 0, none⟩ = some (.string p) ∧ W.cell? ⟨G, 1, none⟩ = some (.int .i64 m) ∧ W.cell? ⟨G, 2, none⟩ = some (.string d) from
    ⟨cell_of_row W G 0 _ 52 (0, 0) ((hW.block G hG1).trans K1), cell_of_row W G 1 _ 52 (0, 0) ((hW.block G hG1).trans K1), cell_of_row W G 2 _ 52 (0, 0) ((hW.block G hG1).trans K1)⟩)
  obtain ⟨y0, y1, y2⟩ := ZZ.out W1 (Below.refl _ _)
  have HB1 := Lib.hid B1
  have MD := Lib.hid fun W => refMode_any m W
  have b1s := B1.size
  clear K1 B1
  go_enter Tryz.func48, Tryz.ntmps48
  go_wp2_with fail
  rw [← hW1, ← hG]
  clear hW1
  have HG := Lib.hid hG
  clear hG
  refine CK.out.mono ?_
  rintro e w2 ⟨rfl, b2⟩
  obtain ⟨z0, z1, z2⟩ := ZZ.out w2 b2
  have hGl : G < w2.heap.size := Nat.lt_of_lt_of_le hG1 b2.size
  have HB2 := Lib.hid (HB1.out.trans (b2.mono b1s))
  clear y0 y1 y2 CK HB1 b2
  by_cases hc : chk p.data.toList = 0
  · have hc1 : (chk p.data.toList == 0) = true := by simpa using hc
    have hc2 : (chk p.data.toList != 0) = false := by simpa using hc
    have HC := Lib.hid hc
    clear hc
    by_cases hm : m = 1 ∨ m = 2
    · have hmd : (decide (m = 1) || decide (m = 2)) = true := by simpa using hm
      rw [hmd] at MD
      by_cases hd1 : 4096 < d.size
      · have HV : Hid (causeF (p, m, d) = 4) := Lib.hid (by unfold causeF; simp [HC.out, hm, hd1])
        have hdi : (4096 : Int) < (d.size : Int) := by omega
        clear hm hmd
        go_wp2_with fail
        refine (MD.out _).mono ?_
        rintro e w' ⟨rfl, rfl⟩
        go_wp2_with fail
        go_ret
        exact ⟨ret_i HV.out.symm, HB2.out⟩
      · have HV : Hid (causeF (p, m, d) = 0) := Lib.hid (by unfold causeF; simp [HC.out, hm, hd1])
        have hdi : ¬ (4096 : Int) < (d.size : Int) := by omega
        clear hm hmd
        go_wp2_with fail
        refine (MD.out _).mono ?_
        rintro e w' ⟨rfl, rfl⟩
        go_wp2_with fail
        go_ret
        exact ⟨ret_i HV.out.symm, HB2.out⟩
    · have HV : Hid (causeF (p, m, d) = 1) := Lib.hid (by unfold causeF; simp [HC.out, hm])
      have hmd : (decide (m = 1) || decide (m = 2)) = false := by simpa using hm
      rw [hmd] at MD
      clear hm hmd
      go_wp2_with fail
      refine (MD.out _).mono ?_
      rintro e w' ⟨rfl, rfl⟩
      go_wp2_with fail
      go_ret
      exact ⟨ret_i HV.out.symm, HB2.out⟩
  · have HV : Hid (causeF (p, m, d) = chk p.data.toList) := Lib.hid (by unfold causeF; simp [hc])
    have hne : (chk p.data.toList == 0) = false := by simpa using hc
    have hne2 : (chk p.data.toList != 0) = true := by simpa using hc
    clear hc
    go_wp2_with fail
    go_ret
    exact ⟨ret_i HV.out.symm, HB2.out⟩
end Go.Proofs.YtapcnmnnichamaaGreatDoor

namespace Go.Proofs.YtapcnmnnichamaaGreatDoor
open Go

abbrev wrongG (g : Nat) (e : Int) : Value := .agg #[.slice (some ⟨g, 0, none⟩) 1 1, .int .i64 e]
end Go.Proofs.YtapcnmnnichamaaGreatDoor

namespace Go.Proofs.YtapcnmnnichamaaGreatDoor
open Go Go.RowKit

set_option maxHeartbeats 1000000 in
theorem refAt_gen (p : ByteArray) (n e : Int) (w : World) : Calls Tryz.prog 26 #[.string p, .int .i64 n, .int .i64 e] w fun x w' => ∃ g, x = .returned (wrongG g e) ∧ Blk w' g 82 #[.string p, .int .i64 n] ∧ w.heap.size ≤ g ∧ Below w.heap.size w w' := by
  go_enter Tryz.func26, Tryz.ntmps26
  go_wp2
  refine bodyPost_ret (results_cell_row (fn := Tryz.f26) rfl _ _ w.heap.size 40 #[.slice (some ⟨w.heap.size + 1, 0, none⟩) 1 1, .int .i64 e] (0, 0) _ rfl ((Blk.new w 40 _).alloc _) Tryz.underlying40 rfl (by kernel_rfl)) rfl ⟨w.heap.size + 1, rfl, ?_, by omega, ((Below.refl _ _).alloc (Nat.le_refl _) _).alloc (by simp) _⟩
  have h := heap_alloc_new (w.alloc (.cells #[.slice (some ⟨w.heap.size + 1, 0, none⟩) 1 1, .int .i64 e] 40)) (.cells #[.string p, .int .i64 n] 82)
  rw [show (w.alloc (.cells #[.slice (some ⟨w.heap.size + 1, 0, none⟩) 1 1, .int .i64 e] 40)).heap.size = w.heap.size + 1 by simp] at h
  exact h

/-- What the document's check answers: no error, or one of one part. -/
def WrongTo (p : ByteArray) (o : Option (Nat × Int)) (w : World) (e : Ending) (w' : World) : Prop :=
  (o = none ∧ e = .returned (.agg #[.slice none 0 0, .int .i64 0]) ∧ Below w.heap.size w w') ∨ ∃ (i : Nat) (k : Int) (g : Nat), o = some (i, k) ∧ e = .returned (wrongG g k) ∧ w.heap.size ≤ g ∧ Blk w' g 82 #[.string p, .int .i64 i] ∧ Below w.heap.size w w'
theorem clash_snoc {l : List Fl} {k : Nat} {y : Fl} (hy : l[k]? = some y) (p : ByteArray) : clashF (l.take (k + 1)) p = (clashF (l.take k) p || cls y.1.data.toList p.data.toList) := by
  unfold clashF
  rw [take_snoc hy, List.any_append]; simp
theorem clash_more {l : List Fl} {k i : Nat} (hk : k ≤ i) {p : ByteArray} (h : clashF (l.take k) p = true) : clashF (l.take i) p = true := by
  unfold clashF at *
  rw [List.any_eq_true] at *
  obtain ⟨x, hx, hp⟩ := h
  exact ⟨x, List.take_subset_take_left l hk hx, hp⟩

set_option maxRecDepth 100000 in
set_option maxHeartbeats 8000000 in
theorem refCheckF_any (w : World) (v : Value) (l : List Fl) (h : Reads 3 cF w v l) (hs : SizedD l) (hl : l.length ≤ 100000) :
    Calls Tryz.prog 24 #[v] w (WrongTo bFile (chkF l) w) := by
  obtain ⟨W1, hW1⟩ : ∃ W1, W1 = w.alloc (.cells #[.slice none 0 0, .int .i64 0] 40) := ⟨_, rfl⟩
  have B1 : Below w.heap.size w W1 := by rw [hW1]; exact (Below.refl _ _).alloc (Nat.le_refl _) _
  obtain ⟨G, hG⟩ : ∃ G, G = w.heap.size := ⟨_, rfl⟩
  have K1 : Blk W1 G 40 #[.slice none 0 0, .int .i64 0] := by rw [hW1, hG]; exact heap_alloc_new w _
  have hGl := K1.lt
  have GG := Lib.hid fun W (hW : Below W1.heap.size W1 W) => K1.below hW hGl
  obtain ⟨A, c, rfl⟩ := h.form
  have HO := Lib.hid (h.below B1)
  have HS := Lib.hid hs
  have HB1 := Lib.hid B1
  have b1s := B1.size
  have hgs : w.heap.size ≤ G := by omega
  have HW1s := Lib.hid (show W1.heap.size = G + 1 by rw [hW1, hG]; simp)
  clear h hs K1 B1
  by_cases hlong : 64 < l.length
  · have HV := Lib.hid (chkF_long hlong)
    have hli : (64 : Int) < (l.length : Int) := by omega
    have hl2 : l.length ≤ 9223372036854775807 := by omega
    have RT := Lib.hid (refAt_gen bFile 64 4 W1)
    clear hlong
    go_enter Tryz.func24, Tryz.ntmps24
    go_wp2_with fail
    rw [← hW1, ← hG]
    clear hW1
    have HG := Lib.hid hG
    clear hG
    refine RT.out.mono ?_
    rintro e w2 ⟨g, rfl, hg, hgl, b2⟩
    have K2 := GG.out w2 b2
    have hkl := K2.lt
    have c0 := K2.cell 0
    have c1 := K2.cell 1
    have f0 := K2.frozen 0
    have f1 := K2.frozen 1
    have HK := Lib.hid K2
    have Hg := Lib.hid hg
    have Hne := Lib.hid (K2.ne_ hg (by decide))
    have HB2 := Lib.hid (HB1.out.trans (b2.mono b1s))
    clear hg b2 K2
    go_wp2_with fail
    refine bodyPost_ret (results_cell_row (fn := Tryz.f24) rfl _ _ G 40 #[.slice (some ⟨g, 0, none⟩) 1 1, .int .i64 4] (0, 0) _ rfl (by first | exact (HK.out.set_ 0 _).set_ 1 _ | simpa using (HK.out.set_ 0 _).set_ 1 _) Tryz.underlying40 rfl (by kernel_rfl)) rfl (.inr ⟨64, 4, g, HV.out, rfl, by omega, (Hg.out.far (fun e => Hne.out e.symm) _).far (fun e => Hne.out e.symm) _, (HB2.out.setCell (p := ⟨G, 0, none⟩) hgs _).setCell (p := ⟨G, 1, none⟩) hgs _⟩)
  · have hli : ¬ (64 : Int) < (l.length : Int) := by omega
    have hl2 : l.length ≤ 9223372036854775807 := by omega
    have HL := Lib.hid hlong
    clear hlong
    go_enter Tryz.func24, Tryz.ntmps24
    go_wp2_with fail
    rw [← hW1, ← hG]
    clear hW1
    have HG := Lib.hid hG
    clear hG
    go_loopw [3, 4, 5] (fun s3 _ _ wr => ∃ i : Nat, i ≤ l.length ∧ s3 = .int .i64 i ∧ Below W1.heap.size W1 wr ∧ Hid (∀ j g, j < i → l[j]? = some g → refF (l.take j) g = 0)) (fun s3 _ _ _ => l.length - (intOf s3).toNat)
    case atStart => exact ⟨0, Nat.zero_le _, rfl, Below.refl _ _, Lib.hid (fun j _ hj => absurd hj (Nat.not_lt_zero _))⟩
    case round =>
      obtain ⟨i, hi, rfl, hb, I⟩ := hrel
      by_cases hlt : i < l.length
      · obtain ⟨x, hx⟩ : ∃ x, l[i]? = some x := ⟨_, List.getElem?_eq_getElem hlt⟩
        have HX := Lib.hid hx
        obtain ⟨ad, rfl, c0, c1, c2⟩ := Fils.at_ (HO.out.below hb) hx
        obtain ⟨p, m, d⟩ := x
        have hsx := HS.out.at_ hx
        have RC := Lib.hid (refCause_any wr p m d (by have := hsx.1; simp only at this; omega) (by have := hsx.2; simp only at this; omega))
        have HBR := Lib.hid hb
        have hbs := hb.size
        have hil : (i : Int) < (l.length : Int) := by omega
        have i0 : (0 : Int) ≤ (i : Int) := Int.natCast_nonneg _
        have HSX := Lib.hid hsx
        clear hx hb hsx
        go_wp2_with fail
        refine RC.out.mono ?_
        rintro e w2 ⟨rfl, b2⟩
        have B2 := Lib.hid (HBR.out.trans (b2.mono hbs))
        have e0 := (b2.cell (World.block_lt_of_cell? _ _ c0)).trans c0
        have AT := Lib.hid fun W (hW : Below W1.heap.size W1 W) k y (hy : l[k]? = some y) => Fils.at_ (HO.out.below hW) hy
        clear b2 c0 c1 c2 RC
        by_cases hc0 : causeF (p, m, d) = 0
        · have hce : (causeF (p, m, d) == 0) = true := by simpa using hc0
          have hce2 : (causeF (p, m, d) != 0) = false := by simpa using hc0
          have HC := Lib.hid hc0
          obtain ⟨cz, hcz⟩ : ∃ cz, cz = causeF (p, m, d) := ⟨_, rfl⟩
          rw [← hcz] at hce hce2 ⊢
          obtain rfl : cz = 0 := by rw [hcz]; exact hc0
          clear hcz hc0 hce hce2
          by_cases hi0 : i = 0
          · have HLT : Hid (lateF (l.take i) (p, m, d) = false) := Lib.hid (by rw [hi0]; rfl)
            have hnp : ¬ (0 : Int) < (i : Int) := by omega
            have hnp2 : ¬ 0 < i := by omega
            have HI0 := Lib.hid hi0
            clear hi0
            go_wp2_with fail
            go_quiet (fail)
            obtain ⟨w3, hw3⟩ : ∃ w3, w3 = w2.drewN nq := ⟨_, rfl⟩
            have B3 := Lib.hid (show Below W1.heap.size W1 w3 by rw [hw3]; exact below_drewN B2.out nq)
            rw [← hw3]
            clear hw3 e0
            go_wp2_with fail
            have HLX := HLT
            have HCL := Lib.hid fun W1' => fun k y (hy : l[k]? = some y) => refClash_any y.1 p W1' (HS.out.at_ hy).1 HSX.out.1
            go_loopw [4, 5] (fun s4 s5 wq => ∃ (k : Nat) (E : Int), k ≤ i ∧ s4 = .int .i64 E ∧ s5 = .int .i64 k ∧ Hid ((E = 0 ∧ clashF (l.take k) p = false) ∨ (E = 11 ∧ clashF (l.take i) p = true)) ∧ Below W1.heap.size W1 wq) (fun _ s5 _ => i - (intOf s5).toNat)
            case atStart => exact ⟨0, 0, Nat.zero_le _, rfl, rfl, Lib.hid (.inl ⟨rfl, by simp [clashF]⟩), B3.out⟩
            case round =>
              obtain ⟨k, E, hk, rfl, rfl, HE, hbq⟩ := hrel
              have HBQ := Lib.hid hbq
              rcases HE.out with ⟨he, hcl⟩ | ⟨he, hcl⟩
              · subst he
                by_cases hki : k < i
                · obtain ⟨y, hy⟩ : ∃ y, l[k]? = some y := ⟨_, List.getElem?_eq_getElem (by omega)⟩
                  obtain ⟨ad3, had3, u0, u1, u2⟩ := AT.out _ hbq k y hy
                  obtain rfl := Option.some.inj had3
                  obtain ⟨ad4, had4, x0, x1, x2⟩ := AT.out _ hbq i _ HX.out
                  obtain rfl := Option.some.inj had4
                  have CX := Lib.hid fun W => HCL.out W k y hy
                  have HSN := Lib.hid (clash_snoc hy p)
                  have hkii : (k : Int) < (i : Int) := by omega
                  have hkl : (k : Int) < (l.length : Int) := by omega
                  have hkl2 : k < l.length := by omega
                  have hk0 : (0 : Int) ≤ (k : Int) := Int.natCast_nonneg _
                  have HCLF := Lib.hid hcl
                  obtain ⟨y1, y2, y3⟩ := y
                  obtain ⟨cb0, hcb0⟩ : ∃ cb0, cb0 = cls y1.data.toList p.data.toList := ⟨_, rfl⟩
                  simp only at CX HSN u0 x0
                  rw [← hcb0] at CX HSN
                  clear hy hcb0 hbq hcl u1 u2 x1 x2 HE
                  cases cb0 with
                  | true =>
                    have HI2 := Lib.hid (clash_more (k := k + 1) (i := i) (by omega) (p := p) (by rw [HSN.out, Bool.or_true]))
                    go_wp2_with fail
                    go_quiet ((go_at_call 27; exact Calls.quiet_of_same ((CX.out _).mono fun _ _ h => ⟨h.1, h.2.symm⟩)))
                    have BN := Lib.hid (below_drewN HBQ.out nq)
                    go_wp2_with fail
                    go_roundw
                    case rel => exact ⟨k + 1, 11, by omega, rfl, by go_num, Lib.hid (.inr ⟨rfl, HI2.out⟩), BN.out⟩
                    case measure => simp [intOf]; omega
                  | false =>
                    have HI2 := Lib.hid (show clashF (l.take (k + 1)) p = false by rw [HSN.out, HCLF.out]; rfl)
                    go_wp2_with fail
                    go_quiet ((go_at_call 27; exact Calls.quiet_of_same ((CX.out _).mono fun _ _ h => ⟨h.1, h.2.symm⟩)))
                    have BN := Lib.hid (below_drewN HBQ.out nq)
                    go_wp2_with fail
                    go_roundw
                    case rel => exact ⟨k + 1, 0, by omega, rfl, by go_num, Lib.hid (.inl ⟨rfl, HI2.out⟩), BN.out⟩
                    case measure => simp [intOf]; omega
                · obtain rfl : k = i := by omega
                  have HI2 : Hid (∀ j g, j < k + 1 → l[j]? = some g → refF (l.take j) g = 0) := Lib.hid fun j g hj hg => by
                    rcases Nat.lt_or_ge j k with h1 | h1
                    · exact I.out j g h1 hg
                    · obtain rfl : j = k := by omega
                      rw [HX.out] at hg
                      cases hg
                      exact refF_zero HC.out HLX.out hcl
                  clear hcl HE hbq
                  go_wp2_with fail
                  go_roundw
                  case rel => exact ⟨k + 1, by omega, by go_num, HBQ.out, HI2⟩
                  case measure => simp [intOf]; omega
              · exfalso
                rw [HI0.out] at hcl
                simp [clashF] at hcl
          · obtain ⟨n, hn⟩ : ∃ n, i = n + 1 := ⟨i - 1, by omega⟩
            obtain ⟨y, hy⟩ : ∃ y, l[n]? = some y := ⟨_, List.getElem?_eq_getElem (by omega)⟩
            obtain ⟨ad2, had2, d0, d1, d2⟩ := AT.out w2 B2.out n y hy
            obtain rfl := Option.some.inj had2
            have hw : IntKind.i64.wrap ((i : Int) - 1) = (n : Int) := by rw [IntKind.wrap_i64] <;> omega
            have hnl : (n : Int) < (l.length : Int) := by omega
            have hnl2 : n < l.length := by omega
            have hn0 : (0 : Int) ≤ (n : Int) := Int.natCast_nonneg _
            have hip : (0 : Int) < (i : Int) := by omega
            have hip2 : 0 < i := by omega
            have hlc := less_cb y.1 p
            have HLT : Hid (lateF (l.take i) (p, m, d) = decide (0 ≤ cb y.1 p)) := Lib.hid (by
              unfold lateF
              rw [List.getLast?_take, if_neg hi0, hn, Nat.add_sub_cancel, hy]
              rfl)
            have HNI := Lib.hid hn
            clear hy hn hi0 d1 d2
            by_cases hcb : cb y.1 p < 0
            · have hls : Op.bytesLess y.1.toList p.toList = true := by rw [hlc]; exact decide_eq_true hcb
              have HL0 : Hid (lateF (l.take i) (p, m, d) = false) := Lib.hid (by rw [HLT.out]; exact decide_eq_false (by omega))
              clear hlc hcb HLT
              go_wp2_with fail
              go_quiet (fail)
              obtain ⟨w3, hw3⟩ : ∃ w3, w3 = w2.drewN nq := ⟨_, rfl⟩
              have B3 := Lib.hid (show Below W1.heap.size W1 w3 by rw [hw3]; exact below_drewN B2.out nq)
              rw [← hw3]
              clear hw3 e0 d0
              go_wp2_with fail
              have HLX := HL0
              have HCL := Lib.hid fun W1' => fun k y (hy : l[k]? = some y) => refClash_any y.1 p W1' (HS.out.at_ hy).1 HSX.out.1
              go_loopw [4, 5] (fun s4 s5 wq => ∃ (k : Nat) (E : Int), k ≤ i ∧ s4 = .int .i64 E ∧ s5 = .int .i64 k ∧ Hid ((E = 0 ∧ clashF (l.take k) p = false) ∨ (E = 11 ∧ clashF (l.take i) p = true)) ∧ Below W1.heap.size W1 wq) (fun _ s5 _ => i - (intOf s5).toNat)
              case atStart => exact ⟨0, 0, Nat.zero_le _, rfl, rfl, Lib.hid (.inl ⟨rfl, by simp [clashF]⟩), B3.out⟩
              case round =>
                obtain ⟨k, E, hk, rfl, rfl, HE, hbq⟩ := hrel
                have HBQ := Lib.hid hbq
                rcases HE.out with ⟨he, hcl⟩ | ⟨he, hcl⟩
                · subst he
                  by_cases hki : k < i
                  · obtain ⟨y, hy⟩ : ∃ y, l[k]? = some y := ⟨_, List.getElem?_eq_getElem (by omega)⟩
                    obtain ⟨ad3, had3, u0, u1, u2⟩ := AT.out _ hbq k y hy
                    obtain rfl := Option.some.inj had3
                    obtain ⟨ad4, had4, x0, x1, x2⟩ := AT.out _ hbq i _ HX.out
                    obtain rfl := Option.some.inj had4
                    have CX := Lib.hid fun W => HCL.out W k y hy
                    have HSN := Lib.hid (clash_snoc hy p)
                    have hkii : (k : Int) < (i : Int) := by omega
                    have hkl : (k : Int) < (l.length : Int) := by omega
                    have hkl2 : k < l.length := by omega
                    have hk0 : (0 : Int) ≤ (k : Int) := Int.natCast_nonneg _
                    have HCLF := Lib.hid hcl
                    obtain ⟨y1, y2, y3⟩ := y
                    obtain ⟨cb0, hcb0⟩ : ∃ cb0, cb0 = cls y1.data.toList p.data.toList := ⟨_, rfl⟩
                    simp only at CX HSN u0 x0
                    rw [← hcb0] at CX HSN
                    clear hy hcb0 hbq hcl u1 u2 x1 x2 HE
                    cases cb0 with
                    | true =>
                      have HI2 := Lib.hid (clash_more (k := k + 1) (i := i) (by omega) (p := p) (by rw [HSN.out, Bool.or_true]))
                      go_wp2_with fail
                      go_quiet ((go_at_call 27; exact Calls.quiet_of_same ((CX.out _).mono fun _ _ h => ⟨h.1, h.2.symm⟩)))
                      have BN := Lib.hid (below_drewN HBQ.out nq)
                      go_wp2_with fail
                      go_roundw
                      case rel => exact ⟨k + 1, 11, by omega, rfl, by go_num, Lib.hid (.inr ⟨rfl, HI2.out⟩), BN.out⟩
                      case measure => simp [intOf]; omega
                    | false =>
                      have HI2 := Lib.hid (show clashF (l.take (k + 1)) p = false by rw [HSN.out, HCLF.out]; rfl)
                      go_wp2_with fail
                      go_quiet ((go_at_call 27; exact Calls.quiet_of_same ((CX.out _).mono fun _ _ h => ⟨h.1, h.2.symm⟩)))
                      have BN := Lib.hid (below_drewN HBQ.out nq)
                      go_wp2_with fail
                      go_roundw
                      case rel => exact ⟨k + 1, 0, by omega, rfl, by go_num, Lib.hid (.inl ⟨rfl, HI2.out⟩), BN.out⟩
                      case measure => simp [intOf]; omega
                  · obtain rfl : k = i := by omega
                    have HI2 : Hid (∀ j g, j < k + 1 → l[j]? = some g → refF (l.take j) g = 0) := Lib.hid fun j g hj hg => by
                      rcases Nat.lt_or_ge j k with h1 | h1
                      · exact I.out j g h1 hg
                      · obtain rfl : j = k := by omega
                        rw [HX.out] at hg
                        cases hg
                        exact refF_zero HC.out HLX.out hcl
                    clear hcl HE hbq
                    go_wp2_with fail
                    go_roundw
                    case rel => exact ⟨k + 1, by omega, by go_num, HBQ.out, HI2⟩
                    case measure => simp [intOf]; omega
                · subst he
                  have HR : Hid (refF (l.take i) (p, m, d) = 11) := Lib.hid (by unfold refF; rw [if_neg (by rw [HC.out]; simp), if_neg (by rw [HLX.out]; simp), if_pos hcl])
                  have HV : Hid (chkF l = some (i, 11)) := Lib.hid (by have := chkF_bad HL.out I.out HX.out (by rw [HR.out]; decide); rw [this, HR.out])
                  clear hcl HE hbq
                  by_cases hz : (k : Int) < (i : Int)
                  all_goals
                    go_wp2_with fail
                    refine (refAt_gen bFile i 11 _).mono ?_
                    rintro e w4 ⟨g, rfl, hg, hgl, b4⟩
                    have B4 := Lib.hid (HBQ.out.trans (b4.mono HBQ.out.size))
                    have K4 := GG.out w4 B4.out
                    have hkl := K4.lt
                    have c0 := K4.cell 0
                    have c1 := K4.cell 1
                    have f0 := K4.frozen 0
                    have f1 := K4.frozen 1
                    have HK := Lib.hid K4
                    have Hg := Lib.hid hg
                    have Hne := Lib.hid (K4.ne_ hg (by decide))
                    have HB4 := Lib.hid (HB1.out.trans (B4.out.mono b1s))
                    have HGl := Lib.hid (show w.heap.size ≤ g by have := HBQ.out.size; omega)
                    clear hg b4 K4
                    go_wp2_with fail
                    refine bodyPost_ret (results_cell_row (fn := Tryz.f24) rfl _ _ G 40 #[.slice (some ⟨g, 0, none⟩) 1 1, .int .i64 (11)] (0, 0) _ rfl (by first | exact (HK.out.set_ 0 _).set_ 1 _ | simpa using (HK.out.set_ 0 _).set_ 1 _) Tryz.underlying40 rfl (by kernel_rfl)) rfl (.inr ⟨i, 11, g, HV.out, rfl, HGl.out, (Hg.out.far (fun e => Hne.out e.symm) _).far (fun e => Hne.out e.symm) _, (HB4.out.setCell (p := ⟨G, 0, none⟩) hgs _).setCell (p := ⟨G, 1, none⟩) hgs _⟩)
            · have hls : Op.bytesLess y.1.toList p.toList = false := by rw [hlc]; exact decide_eq_false hcb
              have HR : Hid (refF (l.take i) (p, m, d) = 6) := Lib.hid (by unfold refF; rw [if_neg (by rw [HC.out]; simp), if_pos (by rw [HLT.out]; exact decide_eq_true (by omega))])
              clear hlc hcb HLT
              go_wp2_with fail
              go_quiet (fail)
              obtain ⟨w3, hw3⟩ : ∃ w3, w3 = w2.drewN nq := ⟨_, rfl⟩
              have B3 := Lib.hid (show Below W1.heap.size W1 w3 by rw [hw3]; exact below_drewN B2.out nq)
              rw [← hw3]
              clear hw3 e0 d0
              have HV : Hid (chkF l = some (i, 6)) := Lib.hid (by have := chkF_bad HL.out I.out HX.out (by rw [HR.out]; decide); rw [this, HR.out])
              go_wp2_with fail
              go_loopw [4, 5] (fun s4 s5 wq => s4 = .int .i64 6 ∧ s5 = .int .i64 0 ∧ wq = w3) (fun _ _ _ => 0)
              case atStart => exact ⟨rfl, rfl, rfl⟩
              case round =>
                obtain ⟨rfl, rfl, rfl⟩ := hrel
                go_wp2_with fail
                refine (refAt_gen bFile i 6 _).mono ?_
                rintro e w4 ⟨g, rfl, hg, hgl, b4⟩
                have B4 := Lib.hid (B3.out.trans (b4.mono B3.out.size))
                have K4 := GG.out w4 B4.out
                have hkl := K4.lt
                have c0 := K4.cell 0
                have c1 := K4.cell 1
                have f0 := K4.frozen 0
                have f1 := K4.frozen 1
                have HK := Lib.hid K4
                have Hg := Lib.hid hg
                have Hne := Lib.hid (K4.ne_ hg (by decide))
                have HB4 := Lib.hid (HB1.out.trans (B4.out.mono b1s))
                have HGl := Lib.hid (show w.heap.size ≤ g by have := B3.out.size; omega)
                clear hg b4 K4
                go_wp2_with fail
                refine bodyPost_ret (results_cell_row (fn := Tryz.f24) rfl _ _ G 40 #[.slice (some ⟨g, 0, none⟩) 1 1, .int .i64 (6)] (0, 0) _ rfl (by first | exact (HK.out.set_ 0 _).set_ 1 _ | simpa using (HK.out.set_ 0 _).set_ 1 _) Tryz.underlying40 rfl (by kernel_rfl)) rfl (.inr ⟨i, 6, g, HV.out, rfl, HGl.out, (Hg.out.far (fun e => Hne.out e.symm) _).far (fun e => Hne.out e.symm) _, (HB4.out.setCell (p := ⟨G, 0, none⟩) hgs _).setCell (p := ⟨G, 1, none⟩) hgs _⟩)
        · have hce : (causeF (p, m, d) == 0) = false := by simpa using hc0
          have hce2 : (causeF (p, m, d) != 0) = true := by simpa using hc0
          have HR : Hid (refF (l.take i) (p, m, d) = causeF (p, m, d)) := Lib.hid (by unfold refF; rw [if_pos hc0])
          have HV : Hid (chkF l = some (i, causeF (p, m, d))) := Lib.hid (by have := chkF_bad HL.out I.out HX.out (by rw [HR.out]; exact hc0); rw [this, HR.out])
          obtain ⟨cz, hcz⟩ : ∃ cz, cz = causeF (p, m, d) := ⟨_, rfl⟩
          rw [← hcz] at hce hce2 HV ⊢
          clear hcz hc0 HR
          go_wp2_with fail
          go_quiet (fail)
          obtain ⟨w3, hw3⟩ : ∃ w3, w3 = w2.drewN nq := ⟨_, rfl⟩
          have B3 := Lib.hid (show Below W1.heap.size W1 w3 by rw [hw3]; exact below_drewN B2.out nq)
          rw [← hw3]
          clear hw3 e0
          go_wp2_with fail
          go_loopw [4, 5] (fun s4 s5 wq => s4 = .int .i64 cz ∧ s5 = .int .i64 0 ∧ wq = w3) (fun _ _ _ => 0)
          case atStart => exact ⟨rfl, rfl, rfl⟩
          case round =>
            obtain ⟨rfl, rfl, rfl⟩ := hrel
            by_cases hz : (0 : Int) < (i : Int)
            all_goals
              go_wp2_with fail
              refine (refAt_gen bFile i cz _).mono ?_
              rintro e w4 ⟨g, rfl, hg, hgl, b4⟩
              have B4 := Lib.hid (B3.out.trans (b4.mono B3.out.size))
              have K4 := GG.out w4 B4.out
              have hkl := K4.lt
              have c0 := K4.cell 0
              have c1 := K4.cell 1
              have f0 := K4.frozen 0
              have f1 := K4.frozen 1
              have HK := Lib.hid K4
              have Hg := Lib.hid hg
              have Hne := Lib.hid (K4.ne_ hg (by decide))
              have HB4 := Lib.hid (HB1.out.trans (B4.out.mono b1s))
              have HGl := Lib.hid (show w.heap.size ≤ g by have := B3.out.size; omega)
              clear hg b4 K4
              go_wp2_with fail
              refine bodyPost_ret (results_cell_row (fn := Tryz.f24) rfl _ _ G 40 #[.slice (some ⟨g, 0, none⟩) 1 1, .int .i64 (cz)] (0, 0) _ rfl (by first | exact (HK.out.set_ 0 _).set_ 1 _ | simpa using (HK.out.set_ 0 _).set_ 1 _) Tryz.underlying40 rfl (by kernel_rfl)) rfl (.inr ⟨i, cz, g, HV.out, rfl, HGl.out, (Hg.out.far (fun e => Hne.out e.symm) _).far (fun e => Hne.out e.symm) _, (HB4.out.setCell (p := ⟨G, 0, none⟩) hgs _).setCell (p := ⟨G, 1, none⟩) hgs _⟩)
      · obtain rfl : i = l.length := by omega
        have HV : Hid (chkF l = none) := Lib.hid (chkF_good HL.out fun i f hf => I.out i f (List.getElem?_eq_some_iff.1 hf).1 hf)
        have K2 := GG.out wr hb
        have hkl := K2.lt
        have c0 := K2.cell 0
        have c1 := K2.cell 1
        have f0 := K2.frozen 0
        have f1 := K2.frozen 1
        have HK := Lib.hid K2
        have HB2 := Lib.hid (HB1.out.trans (hb.mono b1s))
        clear K2 hb
        go_wp2_with fail
        refine bodyPost_ret (results_cell_row (fn := Tryz.f24) rfl _ _ G 40 #[.slice none 0 0, .int .i64 0] (0, 0) _ rfl (by first | exact (HK.out.set_ 0 _).set_ 1 _ | simpa using (HK.out.set_ 0 _).set_ 1 _) Tryz.underlying40 rfl (by kernel_rfl)) rfl (.inl ⟨HV.out, rfl, (HB2.out.setCell (p := ⟨G, 0, none⟩) hgs _).setCell (p := ⟨G, 1, none⟩) hgs _⟩)
end Go.Proofs.YtapcnmnnichamaaGreatDoor

namespace Go.Proofs.YtapcnmnnichamaaGreatDoor
open Go.RowKit

/-- The cells of a file that is a path alone. -/
def cP (p : ByteArray) : List Value := [.string p, .int .i64 0, .string ⟨#[]⟩]
theorem cP_len (p : ByteArray) : (cP p).length = 3 := rfl
theorem Pats.at_ {w : World} {A : Option Addr} {n c : Nat} {l : List ByteArray} (h : Reads 3 cP w (.slice A n c) l) {i : Nat} {f : ByteArray} (hi : l[i]? = some f) :
    ∃ ad : Addr, A = some ad ∧ w.cell? (ad.add (i * 3)) = some (.string f) ∧ w.cell? ⟨(ad.add (i * 3)).block, (ad.add (i * 3)).off + 1, none⟩ = some (.int .i64 0) ∧ w.cell? ⟨(ad.add (i * 3)).block, (ad.add (i * 3)).off + 2, none⟩ = some (.string ⟨#[]⟩) := by
  obtain ⟨ad, ha, hc⟩ := h.at_ hi
  exact ⟨ad, ha, hc 0 _ rfl, hc 1 _ rfl, hc 2 _ rfl⟩

/-- How far a put has come. -/
def PutAt (ps : List ByteArray) (p : ByteArray) (i : Nat) : Bool → List ByteArray → Prop
  | false, acc => acc = ps.take i ∧ ∀ x ∈ ps.take i, cb x p < 0
  | true, acc => RiseP acc ∧ (∀ s, s ∈ acc ↔ s ∈ ps.take i ∨ s = p) ∧ (∃ x ∈ ps.take i, 0 ≤ cb x p) ∧ acc.length ≤ i + 1
section
variable {ps acc : List ByteArray} {p q : ByteArray} {i : Nat}
theorem PutAt.len {b : Bool} (h : PutAt ps p i b acc) : acc.length ≤ i + (if b then 1 else 0) := by
  cases b with
  | false => rw [h.1, List.length_take]; simp; omega
  | true => simpa using h.2.2.2
theorem rise_snoc (h : RiseP acc) (hq : ∀ x ∈ acc, cb x q < 0) : RiseP (acc ++ [q]) :=
  List.pairwise_append.2 ⟨h, List.pairwise_singleton _ _, fun x hx y hy => by rw [List.mem_singleton.1 hy]; exact hq x hx⟩
theorem take_rise (hr : RiseP ps) (hq : ps[i]? = some q) : ∀ x ∈ ps.take i, cb x q < 0 := fun x hx => by
  obtain ⟨t, ht, rfl⟩ := List.getElem_of_mem hx
  obtain ⟨hi, rfl⟩ := List.getElem?_eq_some_iff.1 hq
  rw [List.length_take] at ht
  rw [List.getElem_take]
  exact List.pairwise_iff_getElem.1 hr t i (by omega) hi (by omega)
theorem put_lt (h : PutAt ps p i false acc) (hq : ps[i]? = some q) (hc : cb q p < 0) : PutAt ps p (i + 1) false (acc ++ [q]) := by
  refine ⟨by rw [h.1, take_snoc hq], fun x hx => ?_⟩
  rw [take_snoc hq] at hx
  rcases List.mem_append.1 hx with hx | hx
  · exact h.2 x hx
  · rw [List.mem_singleton.1 hx]; exact hc
theorem put_eq (hr : RiseP ps) (h : PutAt ps p i false acc) (hq : ps[i]? = some p) : PutAt ps p (i + 1) true (acc ++ [p]) := by
  have hl := h.len
  obtain ⟨rfl, h2⟩ := h
  refine ⟨rise_snoc (List.Pairwise.sublist (List.take_sublist _ _) hr) h2, fun s => ?_, ⟨p, by rw [take_snoc hq]; simp, by rw [cb_self]; exact Int.le_refl _⟩, ?_⟩
  · rw [take_snoc hq]; simp
  · rw [List.length_append, List.length_singleton]; simp at hl ⊢; omega
theorem put_ge (hr : RiseP ps) (h : PutAt ps p i false acc) (hq : ps[i]? = some q) (hc : ¬ cb q p < 0) (hne : ¬ q = p) : PutAt ps p (i + 1) true (acc ++ [p] ++ [q]) := by
  have hl := h.len
  have hpq : cb p q < 0 := by
    have := cb_swap q p
    have h0 : cb q p ≠ 0 := fun e => hne (cb_zero e)
    omega
  have ht := take_rise hr hq
  obtain ⟨rfl, h2⟩ := h
  refine ⟨rise_snoc (rise_snoc (List.Pairwise.sublist (List.take_sublist _ _) hr) h2) (fun x hx => ?_), fun s => ?_, ⟨q, by rw [take_snoc hq]; simp, by omega⟩, ?_⟩
  · rcases List.mem_append.1 hx with hx | hx
    · exact ht x hx
    · rw [List.mem_singleton.1 hx]; exact hpq
  · rw [take_snoc hq]
    simp only [List.mem_append, List.mem_singleton]
    constructor
    · rintro ((h | h) | h)
      · exact .inl (.inl h)
      · exact .inr h
      · exact .inl (.inr h)
    · rintro ((h | h) | h)
      · exact .inl (.inl h)
      · exact .inr h
      · exact .inl (.inr h)
  · rw [List.length_append, List.length_append, List.length_singleton, List.length_singleton]; simp at hl ⊢; omega
theorem put_past (hr : RiseP ps) (h : PutAt ps p i true acc) (hq : ps[i]? = some q) : ¬ q = p ∧ PutAt ps p (i + 1) true (acc ++ [q]) := by
  obtain ⟨h1, h2, ⟨x, hx, hx0⟩, h4⟩ := h
  have ht := take_rise hr hq
  have hpq : cb p q < 0 := by
    have hxq := ht x hx
    by_cases e : cb x p = 0
    · rw [← cb_zero e]; exact hxq
    · have : cb p x < 0 := by have := cb_swap x p; omega
      exact cb_trans this hxq
  refine ⟨fun e => by rw [e, cb_self] at hpq; omega, rise_snoc h1 (fun y hy => ?_), fun s => ?_, ⟨x, by rw [take_snoc hq]; exact List.mem_append_left _ hx, hx0⟩, by rw [List.length_append, List.length_singleton]; omega⟩
  · rcases (h2 y).1 hy with hy | hy
    · exact ht y hy
    · rw [hy]; exact hpq
  · rw [take_snoc hq, List.mem_append, h2 s, List.mem_append, List.mem_singleton]
    constructor
    · rintro ((h | h) | h)
      · exact .inl (.inl h)
      · exact .inr h
      · exact .inl (.inr h)
    · rintro ((h | h) | h)
      · exact .inl (.inl h)
      · exact .inr h
      · exact .inl (.inr h)
theorem put_end {b : Bool} (hr : RiseP ps) (h : PutAt ps p ps.length b acc) : nrm (ps ++ [p]) = if b then acc else acc ++ [p] := by
  cases b with
  | false =>
    obtain ⟨h1, h2⟩ := h
    rw [List.take_length] at h1 h2
    subst h1
    exact nrm_of (rise_snoc hr h2) fun s => Iff.rfl
  | true =>
    obtain ⟨h1, h2, _⟩ := h
    rw [List.take_length] at h2
    exact nrm_of h1 fun s => by show s ∈ ps ++ [p] ↔ s ∈ acc; rw [h2 s]; simp
end

set_option maxRecDepth 100000 in
set_option maxHeartbeats 4000000 in
theorem refPut_any (w : World) (v : Value) (ps : List ByteArray) (p : ByteArray) (h : Reads 3 cP w v ps) (hr : RiseP ps) (hl : ps.length ≤ 100000) :
    Calls Tryz.prog 40 #[v, .agg #[.string p, .int .i64 0, .string ⟨#[]⟩]] w (OwnTo 52 3 cP (nrm (ps ++ [p])) w) := by
  obtain ⟨A, c, rfl⟩ := h.form
  have hn := h.len
  have hnm : ps.length ≤ 9223372036854775807 := by omega
  obtain ⟨W1, hW1⟩ : ∃ W1, W1 = w.alloc (.cells #[.string p, .int .i64 0, .string ⟨#[]⟩] 52) := ⟨_, rfl⟩
  have B1 : Below w.heap.size w W1 := by rw [hW1]; exact (Below.refl _ _).alloc (Nat.le_refl _) _
  obtain ⟨G, hG⟩ : ∃ G, G = w.heap.size := ⟨_, rfl⟩
  have K1 : W1.heap[G]? = some (.cells #[.string p, .int .i64 0, .string ⟨#[]⟩] 52 (0, 0)) := by rw [hW1, hG]; exact heap_alloc_new w _
  have YY := Lib.hid fun W (hW : Below W1.heap.size W1 W) => (⟨(hW.cell (World.block_lt_of_cell? _ _ (cell_of_row W1 G 0 _ 52 (0, 0) K1))).trans (cell_of_row W1 G 0 _ 52 (0, 0) K1), (hW.cell (World.block_lt_of_cell? _ _ (cell_of_row W1 G 1 _ 52 (0, 0) K1))).trans (cell_of_row W1 G 1 _ 52 (0, 0) K1), (hW.cell (World.block_lt_of_cell? _ _ (cell_of_row W1 G 2 _ 52 (0, 0) K1))).trans (cell_of_row W1 G 2 _ 52 (0, 0) K1)⟩ : W.cell? ⟨G, 0, none⟩ = some (.string p) ∧ W.cell? ⟨G, 1, none⟩ = some (.int .i64 0) ∧ W.cell? ⟨G, 2, none⟩ = some (.string ⟨#[]⟩))
  have HO := Lib.hid (h.below B1)
  have HR := Lib.hid hr
  have HB1 := Lib.hid B1
  obtain ⟨i0, hi, hz0, hz1, hz2⟩ := info_parts refFileInfo
  clear h hn hr K1 B1
  go_enter Tryz.func40, Tryz.ntmps40
  go_wp2_with fail
  rw [← hW1, ← hG]
  clear hW1 hG
  go_loopw [5, 6, 7] (fun s5 s6 s7 wr => ∃ (i : Nat) (acc : List ByteArray) (b : Bool), i ≤ ps.length ∧ s6 = .bool b ∧ s7 = .int .i64 i ∧ Hid (PutAt ps p i b acc) ∧ Hid (wr.ownsRow W1.heap.size 52 3 s5 acc.length (acc.flatMap cP)) ∧ Below W1.heap.size W1 wr) (fun _ _ s7 _ => ps.length - (intOf s7).toNat)
  case atStart => exact ⟨0, [], false, Nat.zero_le _, rfl, rfl, Lib.hid ⟨rfl, by simp⟩, Lib.hid (World.ownsRow_nil _ _ _ _), Below.refl _ _⟩
  case round =>
    obtain ⟨i, acc, b, hil, rfl, rfl, hp, hown, hb⟩ := hrel
    have HL := Lib.hid hp.out.len
    by_cases hlt : i < ps.length
    · obtain ⟨q, hq⟩ : ∃ q, ps[i]? = some q := ⟨_, List.getElem?_eq_getElem hlt⟩
      obtain ⟨ad, rfl, c0, c1, c2⟩ := Pats.at_ HO.out hq
      have HQ := Lib.hid hq
      have ZZ := Lib.hid fun W (hW : Below W1.heap.size W1 W) => (⟨(hW.cell (World.block_lt_of_cell? _ _ c0)).trans c0, (hW.cell (World.block_lt_of_cell? _ _ c1)).trans c1, (hW.cell (World.block_lt_of_cell? _ _ c2)).trans c2⟩ : FilCells ad i q 0 ⟨#[]⟩ W)
      unfold FilCells at ZZ
      have i0' : (0 : Int) ≤ (i : Int) := Int.natCast_nonneg _
      have hi1 : (i : Int) < (ps.length : Int) := by omega
      have hlc := less_cb q p
      clear hq c0 c1 c2
      cases b with
      | false =>
        by_cases hc : cb q p < 0
        · have hls : Op.bytesLess q.toList p.toList = true := by rw [hlc]; exact decide_eq_true hc
          have hne : ¬ q.toList = p.toList := fun e => by rw [tl_eq e, cb_self] at hc; omega
          have hneb : (q.toList == p.toList) = false := by simpa using hne
          have FA := Lib.hid (put_lt hp.out HQ.out hc)
          clear hlc hc
          obtain ⟨x0, x1, x2⟩ := ZZ.out _ hb
          obtain ⟨y0, y1, y2⟩ := YY.out _ hb
          go_wp2_with fail
          go_quiet (fail)
          obtain ⟨w1, hw1⟩ : ∃ w1, w1 = wr.drewN nq := ⟨_, rfl⟩
          have hb1 : Below W1.heap.size W1 w1 := by rw [hw1]; exact below_drewN hb nq
          have hown1 : Hid (w1.ownsRow W1.heap.size 52 3 u5 acc.length (acc.flatMap cP)) := by rw [hw1]; exact hown
          rw [← hw1]
          clear hw1
          obtain ⟨x0, x1, x2⟩ := ZZ.out _ hb1
          obtain ⟨y0, y1, y2⟩ := YY.out _ hb1
          clear hown
          go_wp2_with fail
          go_quiet (fail)
          obtain ⟨w2, hw2⟩ : ∃ w2, w2 = w1.drewN nq := ⟨_, rfl⟩
          have hb2 : Below W1.heap.size W1 w2 := by rw [hw2]; exact below_drewN hb1 nq
          have hown2 : Hid (w2.ownsRow W1.heap.size 52 3 u5 acc.length (acc.flatMap cP)) := by rw [hw2]; exact hown1
          rw [← hw2]
          clear hw2
          clear x0 x1 x2 y0 y1 y2
          obtain ⟨x0, x1, x2⟩ := ZZ.out _ hb2
          obtain ⟨y0, y1, y2⟩ := YY.out _ hb2
          have hsz3 := hb2.size
          have own43 := hown2.out.alloc (.cells #[.string q, .int .i64 0, .string ⟨#[]⟩] 52)
          have news3 := news_one w2 #[.string q, .int .i64 0, .string ⟨#[]⟩] 52 w2.heap.size rfl
          go_wp2_with (at_builtin; refine wpList_append_own _ rfl _ _ 34 rfl W1.heap.size 52 i0 (.agg #[.string ⟨#[]⟩, .int .i64 0, .string ⟨#[]⟩]) 3 40 Tryz.underlying34 hi hz0 hz1 hz2 rfl (by decide) _ _ _ rfl own43 ⟨w2.heap.size, 0, none⟩ 1 1 [.string q, .int .i64 0, .string ⟨#[]⟩] rfl rfl news3 (by simp [Value.oneCell']) (by unfold maxLen; (have := HL.out; simp at this; omega)) (by (have := HL.out; simp at this; omega)) (by simp; omega) ?_; intro v3 w3 ow3 hg3 _)
          have hb3 : Below W1.heap.size W1 w3 := (hb2.alloc hsz3 _).grown hg3 (by simp; omega) (fun k hk => (hown2.out.lt k hk).1)
          have hown3 : Hid (w3.ownsRow W1.heap.size 52 3 v3 (acc ++ [q]).length ((acc ++ [q]).flatMap cP)) := Lib.hid (by rw [flat_snoc, List.length_append]; exact ow3)
          clear news3 own43 hg3 ow3
          go_wp2
          go_roundw
          case rel => exact ⟨i + 1, acc ++ [q], false, by omega, rfl, by go_num, FA, hown3, hb3⟩
          case measure => simp [intOf]; omega
        · have hls : Op.bytesLess q.toList p.toList = false := by rw [hlc]; exact decide_eq_false hc
          clear hlc
          by_cases hqp : q = p
          · subst hqp
            have FA := Lib.hid (put_eq HR.out hp.out HQ.out)
            clear hc
            obtain ⟨x0, x1, x2⟩ := ZZ.out _ hb
            obtain ⟨y0, y1, y2⟩ := YY.out _ hb
            go_wp2_with fail
            go_quiet (fail)
            obtain ⟨w1, hw1⟩ : ∃ w1, w1 = wr.drewN nq := ⟨_, rfl⟩
            have hb1 : Below W1.heap.size W1 w1 := by rw [hw1]; exact below_drewN hb nq
            have hown1 : Hid (w1.ownsRow W1.heap.size 52 3 u5 acc.length (acc.flatMap cP)) := by rw [hw1]; exact hown
            rw [← hw1]
            clear hw1
            obtain ⟨x0, x1, x2⟩ := ZZ.out _ hb1
            obtain ⟨y0, y1, y2⟩ := YY.out _ hb1
            clear hown
            have hsz2 := hb1.size
            have own42 := hown1.out.alloc (.cells #[.string q, .int .i64 0, .string ⟨#[]⟩] 52)
            have news2 := news_one w1 #[.string q, .int .i64 0, .string ⟨#[]⟩] 52 w1.heap.size rfl
            go_wp2_with (at_builtin; refine wpList_append_own _ rfl _ _ 34 rfl W1.heap.size 52 i0 (.agg #[.string ⟨#[]⟩, .int .i64 0, .string ⟨#[]⟩]) 3 40 Tryz.underlying34 hi hz0 hz1 hz2 rfl (by decide) _ _ _ rfl own42 ⟨w1.heap.size, 0, none⟩ 1 1 [.string q, .int .i64 0, .string ⟨#[]⟩] rfl rfl news2 (by simp [Value.oneCell']) (by unfold maxLen; (have := HL.out; simp at this; omega)) (by (have := HL.out; simp at this; omega)) (by simp; omega) ?_; intro v2 w2 ow2 hg2 _)
            have hb2 : Below W1.heap.size W1 w2 := (hb1.alloc hsz2 _).grown hg2 (by simp; omega) (fun k hk => (hown1.out.lt k hk).1)
            have hown2 : Hid (w2.ownsRow W1.heap.size 52 3 v2 (acc ++ [q]).length ((acc ++ [q]).flatMap cP)) := Lib.hid (by rw [flat_snoc, List.length_append]; exact ow2)
            clear news2 own42 hg2 ow2
            clear x0 x1 x2 y0 y1 y2
            obtain ⟨x0, x1, x2⟩ := ZZ.out _ hb2
            obtain ⟨y0, y1, y2⟩ := YY.out _ hb2
            go_wp2_with fail
            go_quiet (fail)
            obtain ⟨w3, hw3⟩ : ∃ w3, w3 = w2.drewN nq := ⟨_, rfl⟩
            have hb3 : Below W1.heap.size W1 w3 := by rw [hw3]; exact below_drewN hb2 nq
            have hown3 : Hid (w3.ownsRow W1.heap.size 52 3 v2 (acc ++ [q]).length ((acc ++ [q]).flatMap cP)) := by rw [hw3]; exact hown2
            rw [← hw3]
            clear hw3
            clear x0 x1 x2 y0 y1 y2
            obtain ⟨x0, x1, x2⟩ := ZZ.out _ hb3
            obtain ⟨y0, y1, y2⟩ := YY.out _ hb3
            go_wp2
            go_roundw
            case rel => exact ⟨i + 1, acc ++ [q], true, by omega, rfl, by go_num, FA, hown3, hb3⟩
            case measure => simp [intOf]; omega
          · have hne : ¬ q.toList = p.toList := fun e => hqp (tl_eq e)
            have hneb : (q.toList == p.toList) = false := by simpa using hne
            have FA := Lib.hid (put_ge HR.out hp.out HQ.out hc hqp)
            clear hc hqp
            obtain ⟨x0, x1, x2⟩ := ZZ.out _ hb
            obtain ⟨y0, y1, y2⟩ := YY.out _ hb
            go_wp2_with fail
            go_quiet (fail)
            obtain ⟨w1, hw1⟩ : ∃ w1, w1 = wr.drewN nq := ⟨_, rfl⟩
            have hb1 : Below W1.heap.size W1 w1 := by rw [hw1]; exact below_drewN hb nq
            have hown1 : Hid (w1.ownsRow W1.heap.size 52 3 u5 acc.length (acc.flatMap cP)) := by rw [hw1]; exact hown
            rw [← hw1]
            clear hw1
            obtain ⟨x0, x1, x2⟩ := ZZ.out _ hb1
            obtain ⟨y0, y1, y2⟩ := YY.out _ hb1
            clear hown
            have hsz2 := hb1.size
            have own42 := hown1.out.alloc (.cells #[.string p, .int .i64 0, .string ⟨#[]⟩] 52)
            have news2 := news_one w1 #[.string p, .int .i64 0, .string ⟨#[]⟩] 52 w1.heap.size rfl
            go_wp2_with (at_builtin; refine wpList_append_own _ rfl _ _ 34 rfl W1.heap.size 52 i0 (.agg #[.string ⟨#[]⟩, .int .i64 0, .string ⟨#[]⟩]) 3 40 Tryz.underlying34 hi hz0 hz1 hz2 rfl (by decide) _ _ _ rfl own42 ⟨w1.heap.size, 0, none⟩ 1 1 [.string p, .int .i64 0, .string ⟨#[]⟩] rfl rfl news2 (by simp [Value.oneCell']) (by unfold maxLen; (have := HL.out; simp at this; omega)) (by (have := HL.out; simp at this; omega)) (by simp; omega) ?_; intro v2 w2 ow2 hg2 _)
            have hb2 : Below W1.heap.size W1 w2 := (hb1.alloc hsz2 _).grown hg2 (by simp; omega) (fun k hk => (hown1.out.lt k hk).1)
            have hown2 : Hid (w2.ownsRow W1.heap.size 52 3 v2 (acc ++ [p]).length ((acc ++ [p]).flatMap cP)) := Lib.hid (by rw [flat_snoc, List.length_append]; exact ow2)
            clear news2 own42 hg2 ow2
            clear x0 x1 x2 y0 y1 y2
            obtain ⟨x0, x1, x2⟩ := ZZ.out _ hb2
            obtain ⟨y0, y1, y2⟩ := YY.out _ hb2
            go_wp2_with fail
            go_quiet (fail)
            obtain ⟨w3, hw3⟩ : ∃ w3, w3 = w2.drewN nq := ⟨_, rfl⟩
            have hb3 : Below W1.heap.size W1 w3 := by rw [hw3]; exact below_drewN hb2 nq
            have hown3 : Hid (w3.ownsRow W1.heap.size 52 3 v2 (acc ++ [p]).length ((acc ++ [p]).flatMap cP)) := by rw [hw3]; exact hown2
            rw [← hw3]
            clear hw3
            clear x0 x1 x2 y0 y1 y2
            obtain ⟨x0, x1, x2⟩ := ZZ.out _ hb3
            obtain ⟨y0, y1, y2⟩ := YY.out _ hb3
            have hsz4 := hb3.size
            have own44 := hown3.out.alloc (.cells #[.string q, .int .i64 0, .string ⟨#[]⟩] 52)
            have news4 := news_one w3 #[.string q, .int .i64 0, .string ⟨#[]⟩] 52 w3.heap.size rfl
            go_wp2_with (at_builtin; refine wpList_append_own _ rfl _ _ 34 rfl W1.heap.size 52 i0 (.agg #[.string ⟨#[]⟩, .int .i64 0, .string ⟨#[]⟩]) 3 40 Tryz.underlying34 hi hz0 hz1 hz2 rfl (by decide) _ _ _ rfl own44 ⟨w3.heap.size, 0, none⟩ 1 1 [.string q, .int .i64 0, .string ⟨#[]⟩] rfl rfl news4 (by simp [Value.oneCell']) (by unfold maxLen; (have := HL.out; rw [List.length_append, List.length_singleton]; simp at this; omega)) (by (have := HL.out; rw [List.length_append, List.length_singleton]; simp at this; omega)) (by simp; omega) ?_; intro v4 w4 ow4 hg4 _)
            have hb4 : Below W1.heap.size W1 w4 := (hb3.alloc hsz4 _).grown hg4 (by simp; omega) (fun k hk => (hown3.out.lt k hk).1)
            have hown4 : Hid (w4.ownsRow W1.heap.size 52 3 v4 ((acc ++ [p]) ++ [q]).length (((acc ++ [p]) ++ [q]).flatMap cP)) := Lib.hid (by rw [flat_snoc, List.length_append]; exact ow4)
            clear news4 own44 hg4 ow4
            go_wp2
            go_roundw
            case rel => exact ⟨i + 1, acc ++ [p] ++ [q], true, by omega, rfl, by go_num, FA, hown4, hb4⟩
            case measure => simp [intOf]; omega
      | true =>
        have FA := Lib.hid (put_past HR.out hp.out HQ.out)
        have hne : ¬ q.toList = p.toList := fun e => FA.out.1 (tl_eq e)
        have hneb : (q.toList == p.toList) = false := by simpa using hne
        clear hlc
        obtain ⟨x0, x1, x2⟩ := ZZ.out _ hb
        obtain ⟨y0, y1, y2⟩ := YY.out _ hb
        go_wp2_with fail
        go_quiet (fail)
        obtain ⟨w1, hw1⟩ : ∃ w1, w1 = wr.drewN nq := ⟨_, rfl⟩
        have hb1 : Below W1.heap.size W1 w1 := by rw [hw1]; exact below_drewN hb nq
        have hown1 : Hid (w1.ownsRow W1.heap.size 52 3 u5 acc.length (acc.flatMap cP)) := by rw [hw1]; exact hown
        rw [← hw1]
        clear hw1
        obtain ⟨x0, x1, x2⟩ := ZZ.out _ hb1
        obtain ⟨y0, y1, y2⟩ := YY.out _ hb1
        clear hown
        go_wp2_with fail
        go_quiet (fail)
        obtain ⟨w2, hw2⟩ : ∃ w2, w2 = w1.drewN nq := ⟨_, rfl⟩
        have hb2 : Below W1.heap.size W1 w2 := by rw [hw2]; exact below_drewN hb1 nq
        have hown2 : Hid (w2.ownsRow W1.heap.size 52 3 u5 acc.length (acc.flatMap cP)) := by rw [hw2]; exact hown1
        rw [← hw2]
        clear hw2
        clear x0 x1 x2 y0 y1 y2
        obtain ⟨x0, x1, x2⟩ := ZZ.out _ hb2
        obtain ⟨y0, y1, y2⟩ := YY.out _ hb2
        have hsz3 := hb2.size
        have own43 := hown2.out.alloc (.cells #[.string q, .int .i64 0, .string ⟨#[]⟩] 52)
        have news3 := news_one w2 #[.string q, .int .i64 0, .string ⟨#[]⟩] 52 w2.heap.size rfl
        go_wp2_with (at_builtin; refine wpList_append_own _ rfl _ _ 34 rfl W1.heap.size 52 i0 (.agg #[.string ⟨#[]⟩, .int .i64 0, .string ⟨#[]⟩]) 3 40 Tryz.underlying34 hi hz0 hz1 hz2 rfl (by decide) _ _ _ rfl own43 ⟨w2.heap.size, 0, none⟩ 1 1 [.string q, .int .i64 0, .string ⟨#[]⟩] rfl rfl news3 (by simp [Value.oneCell']) (by unfold maxLen; (have := HL.out; simp at this; omega)) (by (have := HL.out; simp at this; omega)) (by simp; omega) ?_; intro v3 w3 ow3 hg3 _)
        have hb3 : Below W1.heap.size W1 w3 := (hb2.alloc hsz3 _).grown hg3 (by simp; omega) (fun k hk => (hown2.out.lt k hk).1)
        have hown3 : Hid (w3.ownsRow W1.heap.size 52 3 v3 (acc ++ [q]).length ((acc ++ [q]).flatMap cP)) := Lib.hid (by rw [flat_snoc, List.length_append]; exact ow3)
        clear news3 own43 hg3 ow3
        go_wp2
        go_roundw
        case rel => exact ⟨i + 1, acc ++ [q], true, by omega, rfl, by go_num, Lib.hid FA.out.2, hown3, hb3⟩
        case measure => simp [intOf]; omega
    · obtain rfl : i = ps.length := by omega
      have HE := Lib.hid (put_end HR.out hp.out)
      cases b with
      | true =>
        have HE2 : Hid (nrm (ps ++ [p]) = acc) := Lib.hid HE.out
        go_wp2
        go_ret
        exact ⟨_, rfl, by rw [HE2.out]; exact own_base hown.out HB1.out.size, HB1.out.trans (hb.mono HB1.out.size)⟩
      | false =>
        have HE2 : Hid (nrm (ps ++ [p]) = acc ++ [p]) := Lib.hid HE.out
        obtain ⟨y0, y1, y2⟩ := YY.out _ hb
        have hsz3 := hb.size
        have own43 := hown.out.alloc (.cells #[.string p, .int .i64 0, .string ⟨#[]⟩] 52)
        have news3 := news_one wr #[.string p, .int .i64 0, .string ⟨#[]⟩] 52 wr.heap.size rfl
        go_wp2_with (at_builtin; refine wpList_append_own _ rfl _ _ 34 rfl W1.heap.size 52 i0 (.agg #[.string ⟨#[]⟩, .int .i64 0, .string ⟨#[]⟩]) 3 40 Tryz.underlying34 hi hz0 hz1 hz2 rfl (by decide) _ _ _ rfl own43 ⟨wr.heap.size, 0, none⟩ 1 1 [.string p, .int .i64 0, .string ⟨#[]⟩] rfl rfl news3 (by simp [Value.oneCell']) (by unfold maxLen; (have := HL.out; simp at this; omega)) (by (have := HL.out; simp at this; omega)) (by simp; omega) ?_; intro v3 w3 ow3 hg3 _)
        have hb3 : Below W1.heap.size W1 w3 := (hb.alloc hsz3 _).grown hg3 (by simp; omega) (fun k hk => (hown.out.lt k hk).1)
        have hown3 : Hid (w3.ownsRow W1.heap.size 52 3 v3 (acc ++ [p]).length ((acc ++ [p]).flatMap cP)) := Lib.hid (by rw [flat_snoc, List.length_append]; exact ow3)
        clear news3 own43 hg3 ow3
        go_wp2
        go_ret
        exact ⟨_, rfl, by rw [HE2.out]; exact own_base hown3.out HB1.out.size, HB1.out.trans (hb3.mono HB1.out.size)⟩
end Go.Proofs.YtapcnmnnichamaaGreatDoor

namespace Go.Proofs.YtapcnmnnichamaaGreatDoor
open Go.RowKit

theorem nrm_nil2 : nrm [] = [] := nrm_of List.Pairwise.nil fun s => by simp
theorem nrm_app (a : List ByteArray) (p : ByteArray) : nrm (nrm a ++ [p]) = nrm (a ++ [p]) := nrm_of (nrm_rise _) fun s => by
  rw [nrm_mem, List.mem_append, List.mem_append, nrm_mem]
theorem nrm_id {a : List ByteArray} (h : RiseP a) : nrm a = a := nrm_of h fun _ => Iff.rfl

set_option maxRecDepth 100000 in
set_option maxHeartbeats 4000000 in
theorem refPaths_any (w : World) (ad : Addr) (c : Nat) (rs : List (Value × List Fl)) (h : Trees w ad rs) (hl : rs.length ≤ 1000) (hp : (pathsR rs).length ≤ 100000) :
    Calls Tryz.prog 19 #[.slice (some ad) rs.length c] w (TextsTo (nrm (pathsR rs)) w) := by
  have hnm : rs.length ≤ 9223372036854775807 := by omega
  have HO := Lib.hid h
  have HP := Lib.hid hp
  obtain ⟨i0, hi, hz0, hz1, hz2⟩ := info_parts strInfo
  clear h hp
  go_enter Tryz.func19, Tryz.ntmps19
  go_wp2
  go_loopw [3, 4] (fun s3 s4 wr => ∃ (i : Nat) (cur : List ByteArray), i ≤ rs.length ∧ s4 = .int .i64 i ∧ Hid (cur = nrm (pathsR (rs.take i))) ∧ Hid (wr.ownsRow w.heap.size 52 3 s3 cur.length (cur.flatMap cP)) ∧ Below w.heap.size w wr) (fun _ s4 _ => rs.length - (intOf s4).toNat)
  case atStart => exact ⟨0, [], Nat.zero_le _, rfl, Lib.hid nrm_nil2.symm, Lib.hid (World.ownsRow_nil _ _ _ _), Below.refl _ _⟩
  case round =>
    obtain ⟨i, cur, hil, rfl, HC, hown, hb⟩ := hrel
    by_cases hlt : i < rs.length
    · obtain ⟨r, hr⟩ : ∃ r, rs[i]? = some r := ⟨_, List.getElem?_eq_getElem hlt⟩
      have HT := Lib.hid (show pathsR (rs.take (i + 1)) = pathsR (rs.take i) ++ r.2.map (·.1) by rw [take_snoc hr, pathsR_snoc])
      have hle := pathsR_take rs (i + 1)
      rw [HT.out, List.length_append, List.length_map] at hle
      have CC := Lib.hid fun W (hW : Below w.heap.size w W) => (HO.out.below hW i r hr).1
      have hrd := (HO.out i r hr).2
      obtain ⟨rv, l⟩ := r
      obtain ⟨B, d, hrv⟩ := hrd.form
      simp only at hrv
      subst hrv
      have HR := Lib.hid hrd
      have i0' : (0 : Int) ≤ (i : Int) := Int.natCast_nonneg _
      have hi1 : (i : Int) < (rs.length : Int) := by omega
      have hlm : l.length ≤ 9223372036854775807 := by have := HP.out; simp only at hle; omega
      obtain ⟨acc, hacc⟩ : ∃ acc, acc = pathsR (rs.take i) := ⟨_, rfl⟩
      rw [← hacc] at HC HT hle
      have HLE := Lib.hid hle
      clear hr hrd hacc hle
      go_wp2
      go_loopw [3, 5] (fun s3 s5 wq => ∃ (j : Nat) (cur : List ByteArray), j ≤ l.length ∧ s5 = .int .i64 j ∧ Hid (cur = nrm (acc ++ (l.take j).map (·.1))) ∧ Hid (wq.ownsRow w.heap.size 52 3 s3 cur.length (cur.flatMap cP)) ∧ Below w.heap.size w wq) (fun _ s5 _ => l.length - (intOf s5).toNat)
      case atStart => exact ⟨0, cur, Nat.zero_le _, rfl, Lib.hid (by rw [List.take_zero, List.map_nil, List.append_nil]; exact HC.out), hown, hb⟩
      case round =>
        clear HC hown hb
        obtain ⟨j, cur, hjl, rfl, HC, hown, hb⟩ := hrel
        have cc := CC.out _ hb
        by_cases hjt : j < l.length
        · obtain ⟨f, hf⟩ : ∃ f, l[j]? = some f := ⟨_, List.getElem?_eq_getElem hjt⟩
          obtain ⟨ad2, rfl, c0, c1, c2⟩ := Fils.at_ (HR.out.below hb) hf
          obtain ⟨p, m, dd⟩ := f
          have HE := Lib.hid (show nrm (acc ++ (l.take (j + 1)).map (fun x => x.1)) = nrm (cur ++ [p]) by rw [HC.out, nrm_app, take_snoc hf]; simp)
          have hcl : cur.length ≤ 100000 := by
            have h1 := HLE.out
            have h2 := HP.out
            rw [HC.out]
            refine Nat.le_trans (nrm_len _) ?_
            rw [List.length_append, List.length_map, List.length_take]
            omega
          have j0' : (0 : Int) ≤ (j : Int) := Int.natCast_nonneg _
          have hj1 : (j : Int) < (l.length : Int) := by omega
          have hrise : RiseP cur := by rw [HC.out]; exact nrm_rise _
          obtain ⟨A3, c3, rfl⟩ := own_form hown.out
          have PT := Lib.hid (refPut_any wr _ cur p (Reads.of_own cP_len hown.out) hrise hcl)
          obtain ⟨nx, hnx⟩ : ∃ nx, nx = nrm (cur ++ [p]) := ⟨_, rfl⟩
          rw [← hnx] at PT HE
          have hsz := hb.size
          clear hf hrise hnx
          go_wp2_with fail
          refine PT.out.mono ?_
          rintro e w5 ⟨v5, rfl, o5, b5⟩
          have HB5 := hb.trans (b5.mono hsz)
          have HO5 := Lib.hid (own_base o5 hsz)
          clear o5 b5
          go_wp2
          go_roundw
          case rel => exact ⟨j + 1, nx, by omega, by go_num, Lib.hid HE.out.symm, HO5, HB5⟩
          case measure => simp [intOf]; omega
        · obtain rfl : j = l.length := by omega
          go_wp2
          go_roundw
          case rel => exact ⟨i + 1, cur, by omega, by go_num, Lib.hid (by rw [HT.out, HC.out, List.take_length]), hown, hb⟩
          case measure => simp [intOf]; omega
    · obtain rfl : i = rs.length := by omega
      rw [List.take_length] at HC
      have hcl : cur.length ≤ 100000 := by rw [HC.out]; exact Nat.le_trans (nrm_len _) HP.out
      obtain ⟨A3, c3, rfl⟩ := own_form hown.out
      have RR := Lib.hid (Reads.of_own cP_len hown.out)
      have hB := Lib.hid hb
      have hsz0 := hb.size
      have HCE : Hid (nrm (pathsR rs) = cur) := Lib.hid HC.out.symm
      clear hown HC hb
      obtain ⟨wo, hwo⟩ : ∃ wo, wo = wr := ⟨_, rfl⟩
      subst hwo
      go_wp2
      go_loopw [6, 7] (fun s6 s7 wq => ∃ k : Nat, k ≤ cur.length ∧ s7 = .int .i64 k ∧ Hid (wq.ownsRow wo.heap.size 9 1 s6 k ((cur.take k).map Value.string)) ∧ Below wo.heap.size wo wq) (fun _ s7 _ => cur.length - (intOf s7).toNat)
      case atStart => exact ⟨0, Nat.zero_le _, rfl, Lib.hid (World.ownsRow_nil _ _ _ _), Below.refl _ _⟩
      case round =>
        obtain ⟨k, hk, rfl, hown, hb⟩ := hrel
        by_cases hkt : k < cur.length
        · obtain ⟨p, hp⟩ : ∃ p, cur[k]? = some p := ⟨_, List.getElem?_eq_getElem hkt⟩
          obtain ⟨ad2, rfl, c0, c1, c2⟩ := Pats.at_ (RR.out.below hb) hp
          have HE := Lib.hid (show cur.take (k + 1) = cur.take k ++ [p] from take_snoc hp)
          have k0' : (0 : Int) ≤ (k : Int) := Int.natCast_nonneg _
          have hk1 : (k : Int) < (cur.length : Int) := by omega
          have hsz := hb.size
          have hown4 := hown.out.alloc (.cells #[.string p] 9)
          have hnews := news_one wr #[.string p] 9 wr.heap.size rfl
          clear hp
          go_wp2_with (at_builtin; refine wpList_append_own _ rfl _ _ 27 rfl wo.heap.size 9 i0 (.string { data := #[] }) 1 16 Tryz.underlying27 hi hz0 hz1 hz2 rfl (by decide) _ _ _ rfl hown4 ⟨wr.heap.size, 0, none⟩ 1 1 [.string p] rfl rfl hnews (by simp [Value.oneCell']) (by unfold maxLen; omega) (by omega) (by simp; omega) ?_; intro v5 w5 hown5 hg5 _)
          have hb5 : Below wo.heap.size wo w5 := (hb.alloc hsz _).grown hg5 (by simp; omega) (fun k hk => (hown.out.lt k hk).1)
          clear hnews hown4 hg5
          go_roundw
          case rel => exact ⟨k + 1, by omega, by go_num, Lib.hid (by rw [HE.out, str_snoc]; exact hown5), hb5⟩
          case measure => simp [intOf]; omega
        · obtain rfl : k = cur.length := by omega
          have HE : Hid (cur.take cur.length = cur) := Lib.hid (List.take_length)
          go_wp2
          go_ret
          exact ⟨_, rfl, by rw [HCE.out]; exact own_base (by have := hown.out; rw [HE.out] at this; exact this) hsz0, hB.out.trans (hb.mono hsz0)⟩
end Go.Proofs.YtapcnmnnichamaaGreatDoor

namespace Go.Proofs.YtapcnmnnichamaaGreatDoor
open Go Go.RowKit

/-! ### The result as it grows -/
structure MStR (w wM wr : World) (gB M : Nat) (vf ve vc : Value) (fs : List Fl) (es : List En) (cs : List ByteArray) : Prop where
  x : Blk wr gB 37 #[vf, ve, vc]
  f : wr.ownsRow M 52 3 vf fs.length (fs.flatMap cF)
  e : wr.ownsRow M 69 6 ve es.length (es.flatMap cE)
  c : wr.ownsRow M 9 1 vc cs.length (cs.map Value.string)
  b : Below w.heap.size w wr
  k : ∀ j, j < M → j ≠ gB → wr.heap[j]? = wM.heap[j]?
  s : M ≤ wr.heap.size
  g : gB < M
  wg : w.heap.size ≤ gB
section
variable {w wM wr w' w5 : World} {gB M : Nat} {vf ve vc : Value} {fs : List Fl} {es : List En} {cs : List ByteArray}
theorem MStR.below (h : MStR w wM wr gB M vf ve vc fs es cs) (hb : Below wr.heap.size wr w') : MStR w wM w' gB M vf ve vc fs es cs :=
  ⟨h.x.below hb h.x.lt, own_keep h.f hb, own_keep h.e hb, own_keep h.c hb, h.b.trans (hb.mono h.b.size), fun j hj hne => (hb.block j (by have := h.s; omega)).trans (h.k j hj hne), Nat.le_trans h.s hb.size, h.g, h.wg⟩
theorem MStR.alloc (h : MStR w wM wr gB M vf ve vc fs es cs) (o : Obj) : MStR w wM (wr.alloc o) gB M vf ve vc fs es cs := h.below ((Below.refl _ wr).alloc (Nat.le_refl _) o)
theorem MStR.putF (h : MStR w wM wr gB M vf ve vc fs es cs) {v' : Value} {l' : List Fl} (ho : w5.ownsRow M 52 3 v' l'.length (l'.flatMap cF)) (hb : Below M wr w5) (hg : wr.grownBy w5 vf.ownBlock) : MStR w wM (w5.setCell ⟨gB, 0, none⟩ v') gB M v' ve vc l' es cs := by
  have x5 : Blk w5 gB 37 #[vf, ve, vc] := (hb.block gB h.g).trans h.x
  have hM : w.heap.size ≤ M := Nat.le_trans h.wg (Nat.le_of_lt h.g)
  exact ⟨by simpa using x5.set_ 0 v', own_set ho h.g 0 v', own_set (h.e.kept hg (own_own_ne h.e h.f (by decide))) h.g 0 v', own_set (h.c.kept hg (own_own_ne h.c h.f (by decide))) h.g 0 v', (h.b.trans (hb.mono hM)).setCell (p := ⟨gB, 0, none⟩) h.wg v', fun j hj hne => (Below.heap_setCell w5 ⟨gB, 0, none⟩ v' j hne).trans ((hb.block j hj).trans (h.k j hj hne)), by simpa using Nat.le_trans h.s hb.size, h.g, h.wg⟩
theorem MStR.putE (h : MStR w wM wr gB M vf ve vc fs es cs) {v' : Value} {l' : List En} (ho : w5.ownsRow M 69 6 v' l'.length (l'.flatMap cE)) (hb : Below M wr w5) (hg : wr.grownBy w5 ve.ownBlock) : MStR w wM (w5.setCell ⟨gB, 1, none⟩ v') gB M vf v' vc fs l' cs := by
  have x5 : Blk w5 gB 37 #[vf, ve, vc] := (hb.block gB h.g).trans h.x
  have hM : w.heap.size ≤ M := Nat.le_trans h.wg (Nat.le_of_lt h.g)
  exact ⟨by simpa using x5.set_ 1 v', own_set (h.f.kept hg (own_own_ne h.f h.e (by decide))) h.g 1 v', own_set ho h.g 1 v', own_set (h.c.kept hg (own_own_ne h.c h.e (by decide))) h.g 1 v', (h.b.trans (hb.mono hM)).setCell (p := ⟨gB, 1, none⟩) h.wg v', fun j hj hne => (Below.heap_setCell w5 ⟨gB, 1, none⟩ v' j hne).trans ((hb.block j hj).trans (h.k j hj hne)), by simpa using Nat.le_trans h.s hb.size, h.g, h.wg⟩
theorem MStR.putC (h : MStR w wM wr gB M vf ve vc fs es cs) {v' : Value} {l' : List ByteArray} (ho : w5.ownsRow M 9 1 v' l'.length (l'.map Value.string)) (hb : Below M wr w5) (hg : wr.grownBy w5 vc.ownBlock) : MStR w wM (w5.setCell ⟨gB, 2, none⟩ v') gB M vf ve v' fs es l' := by
  have x5 : Blk w5 gB 37 #[vf, ve, vc] := (hb.block gB h.g).trans h.x
  have hM : w.heap.size ≤ M := Nat.le_trans h.wg (Nat.le_of_lt h.g)
  exact ⟨by simpa using x5.set_ 2 v', own_set (h.f.kept hg (own_own_ne h.f h.c (by decide))) h.g 2 v', own_set (h.e.kept hg (own_own_ne h.e h.c (by decide))) h.g 2 v', own_set ho h.g 2 v', (h.b.trans (hb.mono hM)).setCell (p := ⟨gB, 2, none⟩) h.wg v', fun j hj hne => (Below.heap_setCell w5 ⟨gB, 2, none⟩ v' j hne).trans ((hb.block j hj).trans (h.k j hj hne)), by simpa using Nat.le_trans h.s hb.size, h.g, h.wg⟩
end
theorem reads_one_file52 {w : World} {g : Nat} (x : Fl) (z : Blk w g 52 #[.string x.1, .int .i64 x.2.1, .string x.2.2]) : Reads 3 cF w (.slice (some ⟨g, 0, none⟩) 1 1) [x] := by
  refine ⟨some ⟨g, 0, none⟩, 1, rfl, Nat.le_refl _, by decide, by simp, fun ad hA i y hy j u hu => ?_⟩
  obtain rfl := Option.some.inj hA
  match i, hy with
  | 0, hy =>
    simp at hy
    subst hy
    match j, hu with
    | 0, hu => simp [cF] at hu; subst hu; exact z.cell 0
    | 1, hu => simp [cF] at hu; subst hu; exact z.cell 1
    | 2, hu => simp [cF] at hu; subst hu; exact z.cell 2
    | j + 3, hu => simp [cF] at hu
  | i + 1, hy => simp at hy
end Go.Proofs.YtapcnmnnichamaaGreatDoor

namespace Go.Proofs.YtapcnmnnichamaaGreatDoor
open Go Go.RowKit

theorem refEntryInfo : (Tryz.prog.info? 69).map (fun i => (i.zero, i.size, i.bytes)) = some (some (.agg #[.string ⟨#[]⟩, .int .i64 0, .int .i64 0, .string ⟨#[]⟩, .int .i64 0, .int .i64 0]), 6, 64) := by kernel_rfl
theorem run_append_filesR (w : World) (ty : TypeId) (base : Nat) (v : Value) (xs ys : List Fl) (hown : w.ownsRow base 52 3 v xs.length (xs.flatMap cF)) (A : Option Addr) (m c : Nat) (h : Reads 3 cF w (.slice A m c) ys) (hl : xs.length + ys.length ≤ 1000000) (hbase : base ≤ w.heap.size) :
    ∃ A' c' w', (Builtin.append_ #[34, 34] ty #[v, .slice A m c]).run Tryz.prog w = .ok (.slice A' (xs ++ ys).length c') w' ∧ w'.ownsRow base 52 3 (.slice A' (xs ++ ys).length c') (xs ++ ys).length ((xs ++ ys).flatMap cF) ∧ Below base w w' ∧ w.grownBy w' v.ownBlock := by
  obtain ⟨i0, hi, hz0, hz1, hz2⟩ := info_parts refFileInfo
  obtain ⟨hm, hmc, hcm⟩ := h.len
  cases A with
  | none =>
    obtain ⟨A', c', hv, h1, h2, h3, h4⟩ := h
    injection hv with e1 e2 e3
    subst e1; subst e3
    have hc := h3 rfl
    subst hc
    have hm0 : m = 0 := by omega
    subst hm0
    have : ys = [] := List.eq_nil_of_length_eq_zero (by omega)
    subst this
    obtain ⟨A', c', rfl⟩ := own_form hown
    have hr := run_append_owned_none (P := Tryz.prog) (w := w) base 34 ty 52 i0 3 Tryz.underlying34 hi _ _ _ hown
    rw [List.append_nil]
    exact ⟨A', c', w, hr, hown, Below.refl _ _, World.grownBy.refl _ _⟩
  | some ad =>
    obtain ⟨v', w', hr, ho, hg, _⟩ := run_append_own (P := Tryz.prog) w base 34 ty 52 i0 (.agg #[.string ⟨#[]⟩, .int .i64 0, .string ⟨#[]⟩]) 3 40 Tryz.underlying34 hi hz0 hz1 hz2 rfl (by decide) v xs.length (xs.flatMap cF) hown ad m c (ys.flatMap cF) (by rw [flat_len cF_len, hm]) (reads_flat cF_len (by decide) h) (cF_one ys) (by unfold maxLen; omega) (by omega) hbase
    have ho2 : w'.ownsRow base 52 3 v' (xs ++ ys).length ((xs ++ ys).flatMap cF) := by rw [List.length_append, List.flatMap_append, ← hm]; exact ho
    obtain ⟨A', c', rfl⟩ := own_form ho2
    exact ⟨A', c', w', hr, ho2, (Below.refl base w).grown hg hbase fun k hk => (hown.lt k hk).1, hg⟩

theorem wpList_append_filesR (w : World) {ops : Array Oper} {rest : List Oper} {o : Oper} {a : Act} {Q : Exit → Act → World → Prop} (hgd : o.guard = none) (s x : Operand)
    (ho : o.op = .call { callee := .builtin .append, args := #[s, x], argTypes := #[34, 34] })
    (base : Nat) (v : Value) (xs ys : List Fl) (hs : a.eval s = v) (hown : w.ownsRow base 52 3 v xs.length (xs.flatMap cF)) (A : Option Addr) (m c : Nat) (hx : a.eval x = .slice A m c) (h : Reads 3 cF w (.slice A m c) ys) (hl : xs.length + ys.length ≤ 1000000) (hbase : base ≤ w.heap.size)
    (hk : ∀ A' c' w', w'.ownsRow base 52 3 (.slice A' (xs ++ ys).length c') (xs ++ ys).length ((xs ++ ys).flatMap cF) → Below base w w' → w.grownBy w' v.ownBlock → wpList Tryz.prog ops Q rest (a.put o.dst (.slice A' (xs ++ ys).length c')) w') : wpList Tryz.prog ops Q (o :: rest) a w := by
  obtain ⟨A', c', w', hr, h2, h3, h4⟩ := run_append_filesR w o.type base v xs ys hown A m c h hl hbase
  exact Lib.wpList_append_run w hgd s x _ _ ho _ _ hs hx _ _ hr (hk A' c' w' h2 h3 h4)

theorem run_append_entsR (w : World) (ty : TypeId) (base : Nat) (v : Value) (xs ys : List En) (hown : w.ownsRow base 69 6 v xs.length (xs.flatMap cE)) (A : Option Addr) (m c : Nat) (h : Reads 6 cE w (.slice A m c) ys) (hl : xs.length + ys.length ≤ 1000000) (hbase : base ≤ w.heap.size) :
    ∃ A' c' w', (Builtin.append_ #[35, 35] ty #[v, .slice A m c]).run Tryz.prog w = .ok (.slice A' (xs ++ ys).length c') w' ∧ w'.ownsRow base 69 6 (.slice A' (xs ++ ys).length c') (xs ++ ys).length ((xs ++ ys).flatMap cE) ∧ Below base w w' ∧ w.grownBy w' v.ownBlock := by
  obtain ⟨i0, hi, hz0, hz1, hz2⟩ := info_parts refEntryInfo
  obtain ⟨hm, hmc, hcm⟩ := h.len
  cases A with
  | none =>
    obtain ⟨A', c', hv, h1, h2, h3, h4⟩ := h
    injection hv with e1 e2 e3
    subst e1; subst e3
    have hc := h3 rfl
    subst hc
    have hm0 : m = 0 := by omega
    subst hm0
    have : ys = [] := List.eq_nil_of_length_eq_zero (by omega)
    subst this
    obtain ⟨A', c', rfl⟩ := own_form hown
    have hr := run_append_owned_none (P := Tryz.prog) (w := w) base 35 ty 69 i0 6 Tryz.underlying35 hi _ _ _ hown
    rw [List.append_nil]
    exact ⟨A', c', w, hr, hown, Below.refl _ _, World.grownBy.refl _ _⟩
  | some ad =>
    obtain ⟨v', w', hr, ho, hg, _⟩ := run_append_own (P := Tryz.prog) w base 35 ty 69 i0 (.agg #[.string ⟨#[]⟩, .int .i64 0, .int .i64 0, .string ⟨#[]⟩, .int .i64 0, .int .i64 0]) 6 64 Tryz.underlying35 hi hz0 hz1 hz2 rfl (by decide) v xs.length (xs.flatMap cE) hown ad m c (ys.flatMap cE) (by rw [flat_len cE_len, hm]) (reads_flat cE_len (by decide) h) (cE_one ys) (by unfold maxLen; omega) (by omega) hbase
    have ho2 : w'.ownsRow base 69 6 v' (xs ++ ys).length ((xs ++ ys).flatMap cE) := by rw [List.length_append, List.flatMap_append, ← hm]; exact ho
    obtain ⟨A', c', rfl⟩ := own_form ho2
    exact ⟨A', c', w', hr, ho2, (Below.refl base w).grown hg hbase fun k hk => (hown.lt k hk).1, hg⟩

theorem wpList_append_entsR (w : World) {ops : Array Oper} {rest : List Oper} {o : Oper} {a : Act} {Q : Exit → Act → World → Prop} (hgd : o.guard = none) (s x : Operand)
    (ho : o.op = .call { callee := .builtin .append, args := #[s, x], argTypes := #[35, 35] })
    (base : Nat) (v : Value) (xs ys : List En) (hs : a.eval s = v) (hown : w.ownsRow base 69 6 v xs.length (xs.flatMap cE)) (A : Option Addr) (m c : Nat) (hx : a.eval x = .slice A m c) (h : Reads 6 cE w (.slice A m c) ys) (hl : xs.length + ys.length ≤ 1000000) (hbase : base ≤ w.heap.size)
    (hk : ∀ A' c' w', w'.ownsRow base 69 6 (.slice A' (xs ++ ys).length c') (xs ++ ys).length ((xs ++ ys).flatMap cE) → Below base w w' → w.grownBy w' v.ownBlock → wpList Tryz.prog ops Q rest (a.put o.dst (.slice A' (xs ++ ys).length c')) w') : wpList Tryz.prog ops Q (o :: rest) a w := by
  obtain ⟨A', c', w', hr, h2, h3, h4⟩ := run_append_entsR w o.type base v xs ys hown A m c h hl hbase
  exact Lib.wpList_append_run w hgd s x _ _ ho _ _ hs hx _ _ hr (hk A' c' w' h2 h3 h4)


theorem trees3R (w : World) (vb vo vt : Value) (b o t : List Fl) (hb : Reads 3 cF w vb b) (ho : Reads 3 cF w vo o) (ht : Reads 3 cF w vt t) :
    Trees (w.alloc (.cells #[vb, vo, vt] 34)) ⟨w.heap.size, 0, none⟩ [(vb, b), (vo, o), (vt, t)] := fun i r hr => by
  have hh := heap_alloc_new w (.cells #[vb, vo, vt] 34)
  match i, hr with
  | 0, hr => simp at hr; subst hr; exact ⟨cell_of_row _ _ 0 _ 34 (0, 0) hh, hb.alloc _⟩
  | 1, hr => simp at hr; subst hr; exact ⟨cell_of_row _ _ 1 _ 34 (0, 0) hh, ho.alloc _⟩
  | 2, hr => simp at hr; subst hr; exact ⟨cell_of_row _ _ 2 _ 34 (0, 0) hh, ht.alloc _⟩
  | i + 3, hr => simp at hr
set_option maxRecDepth 100000 in
set_option maxHeartbeats 4000000 in
theorem reads_one_ent69 {w : World} {g : Nat} (x : En) (z : Blk w g 69 (cE x).toArray) : Reads 6 cE w (.slice (some ⟨g, 0, none⟩) 1 1) [x] := by
  refine ⟨some ⟨g, 0, none⟩, 1, rfl, Nat.le_refl _, by decide, by simp, fun ad hA i y hy j u hu => ?_⟩
  obtain rfl := Option.some.inj hA
  match i, hy with
  | 0, hy =>
    simp at hy
    subst hy
    match j, hu with
    | 0, hu => simp [cE] at hu; subst hu; exact z.cell 0
    | 1, hu => simp [cE] at hu; subst hu; exact z.cell 1
    | 2, hu => simp [cE] at hu; subst hu; exact z.cell 2
    | 3, hu => simp [cE] at hu; subst hu; exact z.cell 3
    | 4, hu => simp [cE] at hu; subst hu; exact z.cell 4
    | 5, hu => simp [cE] at hu; subst hu; exact z.cell 5
    | j + 6, hu => simp [cE] at hu
  | i + 1, hy => simp at hy
end Go.Proofs.YtapcnmnnichamaaGreatDoor
