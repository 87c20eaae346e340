/-
  Plain lemmas for the seat: a slice value that reads as a list of strings ('Strs'), kept below a block number.
  Lines of bytes, by plain lists.
  Contracts of lines.Split and the document's Split: the same lines.
  Contracts of Whole, Join and Equal, over slices that came in; small lemmas.
  diff.numbered: lines by number; two lines have one number just if they are alike.
  The contract of diff.numbered.
  The contracts of grid.at, grid.longest, grid.next.
  The longest common row of two lists, by plain lists; the edits that lead from one to the other.
  The table of the longest common rows, as far as it has been filled.
  The grid's three rows, as measure lays them first: what stands ahead of the loops.
  The state while measure lays its rows: two numbered texts, the table, the grid: in whatever order the last two come.
  The contract of measure.
  The contract of diff.check.
  The contract of the grid's step: which edit comes next.
  The contract of the grid step where neither text is at its end and the lines differ.
  diff.Lines: the edits.
-/
import Derived.Test.YtapcnmnnichamaaGreatDoorProg
import Derived.WalkKit
import Derived.WalkSpells
import Derived.Laws.OwnMore
import Derived.Lib.Hide
import Derived.Deep.Draws
import Derived.LoopTactic
import Derived.WalkLawsBesides
import Derived.Outline
import Derived.BigQuiet
import Derived.Deep.QuietTactic
import Derived.OpenShut
import Derived.Maps.OwnSet
import Derived.Deep.RegionHeld3
import Derived.Deep.DeepCutAuto
import Derived.Deep.CutBlock
import Derived.Deep.AppendLies

namespace Go.Proofs.YtapcnmnnichamaaGreatDoor.Mg
open Go.RowKit

/-- The slice value v has the strings ss, one a cell; it is nil only without room. -/
def Strs (w : World) (v : Value) (ss : List ByteArray) : Prop :=
  ∃ (A : Option Addr) (c : Nat), v = .slice A ss.length c ∧ ss.length ≤ c ∧ c ≤ maxLen ∧ (A = none → c = 0) ∧
    ∀ ad : Addr, A = some ad → ∀ (i : Nat) (s : ByteArray), ss[i]? = some s → w.cell? (ad.add i) = some (.string s)

theorem Strs.nil (w : World) : Strs w (.slice none 0 0) [] :=
  ⟨none, 0, rfl, Nat.le_refl _, Nat.zero_le _, fun _ => rfl, fun _ h => by cases h⟩

theorem Strs.keep {w w' : World} {v : Value} {ss : List ByteArray} (h : Strs w v ss) (hk : ∀ p : Addr, p.block < w.heap.size → w'.cell? p = w.cell? p) : Strs w' v ss := by
  obtain ⟨A, c, hv, h1, h2, h3, h4⟩ := h
  refine ⟨A, c, hv, h1, h2, h3, fun ad ha i s hs => ?_⟩
  have hc := h4 ad ha i s hs
  rw [hk _ (World.block_lt_of_cell? w _ hc)]
  exact hc

theorem Strs.below {w w' : World} {v : Value} {ss : List ByteArray} (h : Strs w v ss) (hb : Below w.heap.size w w') : Strs w' v ss := h.keep fun _ hp => hb.cell hp
theorem Strs.alloc {w : World} {v : Value} {ss : List ByteArray} (h : Strs w v ss) (o : Obj) : Strs (w.alloc o) v ss := h.keep fun p hp => World.cell?_alloc_lt w o p hp
theorem Strs.drew {w : World} {v : Value} {ss : List ByteArray} (h : Strs w v ss) : Strs w.drew v ss := h
theorem Strs.drewN {w : World} {v : Value} {ss : List ByteArray} (h : Strs w v ss) (n : Nat) : Strs (w.drewN n) v ss := h

/-- A store into a cell that holds no string. -/
theorem Strs.setCell {w : World} {v : Value} {ss : List ByteArray} (h : Strs w v ss) {p : Addr} {u : Value} (hu : w.cell? p = some u) (hs : ∀ s, u ≠ .string s) (x : Value) : Strs (w.setCell p x) v ss := by
  obtain ⟨A, c, hv, h1, h2, h3, h4⟩ := h
  refine ⟨A, c, hv, h1, h2, h3, fun ad ha i s hi => ?_⟩
  have hc := h4 ad ha i s hi
  rw [World.cell?_setCell_other w p _ x (fun e => by rw [← e, hu] at hc; exact hs s (Option.some.inj hc))]
  exact hc

/-- A row of the call's own reads so. -/
theorem Strs.of_own {w : World} {base : Nat} {e : TypeId} {v : Value} {n : Nat} {ss : List ByteArray} (h : w.ownsRow base e 1 v n (ss.map Value.string)) (hn : n = ss.length) : Strs w v ss := by
  subst hn
  rcases h.2 with ⟨rfl, h0⟩ | ⟨g, cap, cur, hv, hb, hg, hnc, hm, hcs, ht⟩
  · have : ss = [] := List.eq_nil_of_length_eq_zero h0
    subst this
    exact Strs.nil w
  · refine ⟨some ⟨g, 0, none⟩, cap, hv, hnc, hm, (fun h => by cases h), fun ad ha i s hs => ?_⟩
    obtain rfl := Option.some.inj ha
    exact h.cells (g := g) (by rw [hv]; rfl) i (.string s) (by simp [hs])

/-- A piece of a slice from k on, as the model spells it. -/
theorem Strs.cut {w : World} {A : Option Addr} {n c : Nat} {ss : List ByteArray} (h : Strs w (.slice A n c) ss) {k : Nat} (hk : k ≤ n) :
    Strs w (.slice (if c = k then A else A.map (·.add k)) (n - k) (c - k)) (ss.drop k) := by
  obtain ⟨A', c', hv, h1, h2, h3, h4⟩ := h
  injection hv with e1 e2 e3
  subst e1; subst e3
  have hl : (ss.drop k).length = n - k := by rw [List.length_drop, e2]
  refine ⟨_, c - k, by rw [hl], by rw [hl]; omega, by omega, ?_, ?_⟩
  · intro hA
    by_cases hc : c = k
    · omega
    · rw [if_neg hc] at hA
      have : A = none := by cases A with | none => rfl | some a => simp at hA
      have := h3 this
      omega
  · intro ad ha i s hs
    have hi : i < (ss.drop k).length := (List.getElem?_eq_some_iff.1 hs).1
    by_cases hc : c = k
    · omega
    · rw [if_neg hc] at ha
      cases A with
      | none => simp at ha
      | some a =>
        simp at ha
        subst ha
        rw [List.getElem?_drop] at hs
        have := h4 a rfl (k + i) s hs
        have e : (a.add k).add i = a.add (k + i) := by
          unfold Addr.add
          by_cases h0 : k = 0 <;> by_cases h1 : i = 0 <;> simp [h0, h1, Nat.add_assoc]
        rw [e]; exact this

/-- The first k of a slice. -/
theorem Strs.take {w : World} {A : Option Addr} {n c : Nat} {ss : List ByteArray} (h : Strs w (.slice A n c) ss) {k : Nat} (hk : k ≤ n) :
    Strs w (.slice A k c) (ss.take k) := by
  obtain ⟨A', c', hv, h1, h2, h3, h4⟩ := h
  injection hv with e1 e2 e3
  subst e1; subst e3
  have hl : (ss.take k).length = k := by rw [List.length_take]; omega
  refine ⟨A, c, by rw [hl], by omega, h2, h3, fun ad ha i s hs => h4 ad ha i s ?_⟩
  rw [List.getElem?_take] at hs
  split at hs
  · exact hs
  · cases hs

end Go.Proofs.YtapcnmnnichamaaGreatDoor.Mg

namespace Go.Proofs.YtapcnmnnichamaaGreatDoor.Mg

theorem snocRec {α : Type} {P : List α → Prop} (nil : P []) (snoc : ∀ l c, P l → P (l ++ [c])) (l : List α) : P l := by
  have h : ∀ r : List α, P r.reverse := fun r => by
    induction r with
    | nil => exact nil
    | cons c r ih => rw [List.reverse_cons]; exact snoc _ _ ih
  have := h l.reverse
  rwa [List.reverse_reverse] at this

/-- What has been cut, and the line that is not ended yet, behind one more byte. -/
def step (x : List (List UInt8) × List UInt8) (c : UInt8) : List (List UInt8) × List UInt8 :=
  if c = 10 then (x.1 ++ [x.2 ++ [10]], []) else (x.1, x.2 ++ [c])

def st (l : List UInt8) : List (List UInt8) × List UInt8 := l.foldl step ([], [])
def close (x : List (List UInt8) × List UInt8) : List (List UInt8) := if x.2 = [] then x.1 else x.1 ++ [x.2]
/-- The lines of a text. -/
def cutL (l : List UInt8) : List (List UInt8) := close (st l)
/-- Has the last line its end? -/
def wholeL (l : List UInt8) : Bool := l.getLast?.all (· == 10)

theorem st_snoc (l : List UInt8) (c : UInt8) : st (l ++ [c]) = step (st l) c := by simp [st]
theorem step_more (d : List (List UInt8)) (x : List (List UInt8) × List UInt8) (c : UInt8) : step (d ++ x.1, x.2) c = (d ++ (step x c).1, (step x c).2) := by
  unfold step
  split <;> simp
theorem fold_more (d : List (List UInt8)) : ∀ (l : List UInt8) (x : List (List UInt8) × List UInt8), l.foldl step (d ++ x.1, x.2) = (d ++ (l.foldl step x).1, (l.foldl step x).2)
  | [], x => rfl
  | c :: l, x => by
    simp only [List.foldl_cons]
    rw [step_more]
    exact fold_more d l (step x c)

theorem st_flat (l : List UInt8) : (st l).1.flatten ++ (st l).2 = l := by
  induction l using snocRec with
  | nil => rfl
  | snoc l c ih =>
    rw [st_snoc]
    unfold step
    split
    · rename_i h
      subst h
      simp only [List.flatten_append, List.flatten_cons, List.flatten_nil, List.append_nil]
      rw [← List.append_assoc, ih]
    · rw [← List.append_assoc, ih]

theorem st_open (l : List UInt8) : (10 : UInt8) ∉ (st l).2 := by
  induction l using snocRec with
  | nil => simp [st]
  | snoc l c ih =>
    rw [st_snoc]
    unfold step
    split
    · simp
    · rename_i h
      simp only [List.mem_append, List.mem_singleton, not_or]
      exact ⟨ih, fun e => h e.symm⟩

theorem st_whole (l : List UInt8) (h : wholeL l = true) : (st l).2 = [] := by
  induction l using snocRec with
  | nil => rfl
  | snoc l c _ =>
    have : c = 10 := by simpa [wholeL] using h
    rw [st_snoc]
    unfold step
    rw [if_pos this]

theorem cutL_append (a b : List UInt8) (h : wholeL a = true) : cutL (a ++ b) = cutL a ++ cutL b := by
  have e := st_whole a h
  have f : st (a ++ b) = ((st a).1 ++ (st b).1, (st b).2) := by
    have := fold_more (st a).1 b ([], [])
    simp only [List.append_nil] at this
    have e2 : a.foldl step ([], []) = ((st a).1, []) := Prod.ext rfl e
    show (a ++ b).foldl step ([], []) = _
    rw [List.foldl_append, e2, this]
    rfl
  unfold cutL close
  rw [f, e]
  simp only [if_true]
  split <;> simp

theorem cutL_flat (l : List UInt8) : (cutL l).flatten = l := by
  have := st_flat l
  unfold cutL close
  split
  · rename_i h; rw [h, List.append_nil] at this; exact this
  · simpa using this

/-- A line that is ended: its end stands at its end alone. -/
def Ended (x : List UInt8) : Prop := ∃ y, x = y ++ [10] ∧ (10 : UInt8) ∉ y

theorem st_ended (l : List UInt8) : ∀ x ∈ (st l).1, Ended x := by
  induction l using snocRec with
  | nil => simp [st]
  | snoc l c ih =>
    rw [st_snoc]
    unfold step
    split
    · intro x hx
      rw [List.mem_append, List.mem_singleton] at hx
      rcases hx with hx | rfl
      · exact ih x hx
      · exact ⟨_, rfl, st_open l⟩
    · exact ih

theorem st_clear (y : List UInt8) (h : (10 : UInt8) ∉ y) : st y = ([], y) := by
  induction y using snocRec with
  | nil => rfl
  | snoc y c ih =>
    simp only [List.mem_append, List.mem_singleton, not_or] at h
    rw [st_snoc, ih h.1]
    unfold step
    rw [if_neg (fun e => h.2 e.symm)]

theorem cutL_ended {x : List UInt8} (h : Ended x) : (cutL x).length = 1 := by
  obtain ⟨y, rfl, hy⟩ := h
  unfold cutL close
  rw [st_snoc, st_clear y hy]
  simp [step]
theorem cutL_clear {x : List UInt8} (h : (10 : UInt8) ∉ x) (h0 : x ≠ []) : (cutL x).length = 1 := by
  unfold cutL close
  rw [st_clear x h]
  simp [h0]

/-- Each line of a text is one line, and not empty; all but the last are ended. -/
theorem cutL_at (l : List UInt8) (i : Nat) (x : List UInt8) (h : (cutL l)[i]? = some x) : x ≠ [] ∧ (cutL x).length = 1 ∧ (i + 1 < (cutL l).length → wholeL x = true) := by
  have hm := List.mem_of_getElem? h
  have hE : ∀ y, Ended y → y ≠ [] ∧ (cutL y).length = 1 ∧ wholeL y = true := fun y hy => by
    refine ⟨?_, cutL_ended hy, ?_⟩
    · obtain ⟨z, rfl, _⟩ := hy; simp
    · obtain ⟨z, rfl, _⟩ := hy; simp [wholeL]
  unfold cutL close at h hm ⊢
  split at h
  · rename_i h0
    rw [if_pos h0] at hm
    have := hE x (st_ended l x hm)
    exact ⟨this.1, this.2.1, fun _ => this.2.2⟩
  · rename_i h0
    rw [if_neg h0] at hm
    rw [List.mem_append, List.mem_singleton] at hm
    by_cases hi : i < (st l).1.length
    · rw [List.getElem?_append_left hi] at h
      have := hE x (st_ended l x (List.mem_of_getElem? h))
      exact ⟨this.1, this.2.1, fun _ => this.2.2⟩
    · rw [List.getElem?_append_right (by omega)] at h
      have : i - (st l).1.length = 0 := by
        have := (List.getElem?_eq_some_iff.1 h).1
        simpa using this
      rw [this] at h
      simp at h
      subst h
      refine ⟨h0, cutL_clear (st_open l) h0, fun hl => ?_⟩
      simp [h0] at hl
      omega

theorem wholeL_def (l : List UInt8) : wholeL l = (l == [] || l.getLast? == some 10) := by
  induction l using snocRec with
  | nil => rfl
  | snoc l c _ => simp [wholeL]

end Go.Proofs.YtapcnmnnichamaaGreatDoor.Mg

namespace Go.Proofs.YtapcnmnnichamaaGreatDoor.Mg
open Go.RowKit

theorem strInfo : (Tryz.prog.info? 9).map (fun i => (i.zero, i.size, i.bytes)) = some (some (.string { data := #[] }), 1, 16) := by kernel_rfl

/-- Bytes as a string. -/
def mk (l : List UInt8) : ByteArray := ⟨l.toArray⟩
theorem mk_toList (s : ByteArray) : mk s.data.toList = s := by cases s; simp [mk]

/-- The lines in new memory of the call's own, or nil. -/
def Lines (B : Nat) (w : World) (ls : List (List UInt8)) (e : Ending) (w' : World) : Prop :=
  ∃ v, e = .returned v ∧ w'.ownsRow B 9 1 v ls.length ((ls.map mk).map Value.string) ∧ Below w.heap.size w w'

/-- The state of the loop behind k bytes: the line that is not ended begins at b. -/
def At (l : List UInt8) (k b : Nat) : Prop := b ≤ k ∧ (st (l.take k)).2 = (l.take k).drop b

theorem At.zero (l : List UInt8) : At l 0 0 := ⟨Nat.le_refl _, rfl⟩
theorem take_one (l : List UInt8) (k : Nat) (h : k < l.length) : l.take (k + 1) = l.take k ++ [l[k]] := by
  rw [List.take_succ_eq_append_getElem h]
theorem At.ended {l : List UInt8} {k b : Nat} (h : At l k b) (hk : k < l.length) (hc : l[k] = 10) :
    At l (k + 1) (k + 1) ∧ (st (l.take (k + 1))).1 = (st (l.take k)).1 ++ [(l.take (k + 1)).drop b] := by
  obtain ⟨hb, h2⟩ := h
  have e : st (l.take (k + 1)) = step (st (l.take k)) 10 := by rw [take_one l k hk, st_snoc, hc]
  have e2 : (l.take (k + 1)).drop b = (st (l.take k)).2 ++ [10] := by
    rw [take_one l k hk, hc, List.drop_append_of_le_length (by rw [List.length_take]; omega), h2]
  rw [e2, At, e]
  unfold step
  simp only [if_true]
  refine ⟨⟨Nat.le_refl _, ?_⟩, trivial⟩
  rw [List.drop_eq_nil_of_le (by rw [List.length_take]; omega)]
theorem At.more {l : List UInt8} {k b : Nat} (h : At l k b) (hk : k < l.length) (hc : l[k] ≠ 10) :
    At l (k + 1) b ∧ (st (l.take (k + 1))).1 = (st (l.take k)).1 := by
  obtain ⟨hb, h2⟩ := h
  have e : st (l.take (k + 1)) = step (st (l.take k)) l[k] := by rw [take_one l k hk, st_snoc]
  rw [At, e]
  unfold step
  rw [if_neg hc]
  refine ⟨⟨by omega, ?_⟩, rfl⟩
  rw [take_one l k hk, List.drop_append_of_le_length (by rw [List.length_take]; omega), h2]

theorem extract_mk (s : ByteArray) (a b : Nat) : s.extract a b = mk ((s.data.toList.take b).drop a) := by
  apply ByteArray.ext
  apply Array.toList_inj.1
  rw [ByteArray.data_extract, Array.toList_extract, List.extract_eq_take_drop]
  simp [mk, List.drop_take]

/-- What the loop owns behind k bytes. -/
def Own (B : Nat) (s : ByteArray) (k : Nat) (v : Value) (wr : World) : Prop :=
  wr.ownsRow B 9 1 v (st (s.data.toList.take k)).1.length (((st (s.data.toList.take k)).1.map mk).map Value.string)

theorem st_len (l : List UInt8) (k : Nat) : (st (l.take k)).1.length ≤ k := by
  induction k with
  | zero => simp [st]
  | succ k ih =>
    by_cases h : k < l.length
    · rw [take_one l k h, st_snoc]
      unfold step
      split
      · simp; omega
      · simp; omega
    · rw [List.take_of_length_le (by omega)] at ih ⊢
      omega

set_option maxRecDepth 100000 in
set_option maxHeartbeats 2000000 in
theorem split_any (w : World) (s : ByteArray) (hs : s.size ≤ 1000000) :
    Calls Tryz.prog 77 #[.string s] w (Lines w.heap.size w (cutL s.data.toList)) := by
  obtain ⟨i0, hi, hz0, hz1, hz2⟩ := info_parts strInfo
  have hsz : s.data.toList.length = s.size := by rw [Array.length_toList]; rfl
  have HSZ := Lib.hid hsz
  clear hsz
  go_enter Tryz.func77, Tryz.ntmps77
  go_wp2_with fail
  go_loopw [3, 4, 5, 8] (fun v b _ i wr => ∃ k q : Nat, k ≤ s.size ∧ i = .int .i64 k ∧ b = .int .i64 q ∧ q ≤ k ∧ At s.data.toList k q ∧ Own w.heap.size s k v wr ∧ Below w.heap.size w wr) (fun _ _ _ i _ => s.size - (intOf i).toNat)
  case atStart => exact ⟨0, 0, Nat.zero_le _, rfl, rfl, Nat.le_refl _, At.zero _, World.ownsRow_nil _ _ _ _, Below.refl _ _⟩
  case round =>
    obtain ⟨k, q, hk, rfl, rfl, hqk, hat, hown, hb⟩ := hrel
    have HA := Lib.hid hat
    clear hat
    by_cases hlt : k < s.size
    · have hl : k < s.data.toList.length := by rw [HSZ.out]; exact hlt
      by_cases hc : s[k] = 10
      · have hc' : s.data.toList[k] = 10 := hc
        have hA := HA.out.ended hl hc'
        have HE := Lib.hid hA
        have ht : ((s[k].toNat : Int) == 10) = true := by rw [hc]; rfl
        have hst := st_len s.data.toList k
        unfold Own at hown
        clear hA hc hc'
        go_wp2_with (at_builtin; refine wpList_append_own _ rfl _ _ 27 rfl w.heap.size 9 i0 (.string { data := #[] }) 1 16 Tryz.underlying27 hi hz0 hz1 hz2 rfl (by decide) _ _ _ rfl (hown.alloc _) ⟨wr.heap.size, 0, none⟩ 1 1 [.string (s.extract q (k + 1))] rfl ?c1 ?c2 ?c3 ?c4 ?c5 ?c6 ?_)
        case c1 => rfl
        case c2 => exact cell_one_new _ _ _
        case c3 => intro u hu; simp at hu; subst hu; rfl
        case c4 => unfold maxLen; omega
        case c5 => omega
        case c6 => have := hb.size; simp; omega
        intro v' w2 hown2 hg2 _
        have hb2 := (hb.alloc hb.size _).grown hg2 (by have := hb.size; simp; omega) fun z hz => (hown.lt z hz).1
        clear hg2 hown hb
        go_wp2
        go_roundw
        case rel =>
          refine ⟨k + 1, k + 1, by omega, by go_num, by go_num, by omega, HE.out.1, ?_, hb2⟩
          unfold Own
          rw [HE.out.2]
          simpa [extract_mk] using hown2
        case measure => simp [intOf]; omega
      · have hc' : s.data.toList[k] ≠ 10 := hc
        have hA := HA.out.more hl hc'
        have HE := Lib.hid hA
        have ht : ((s[k].toNat : Int) == 10) = false := by
          rw [beq_eq_false_iff_ne]
          intro e
          exact hc (UInt8.toNat_inj.1 (show s[k].toNat = 10 by omega))
        clear hA hc hc'
        go_wp2
        go_roundw
        case rel =>
          refine ⟨k + 1, q, by omega, by go_num, rfl, by omega, HE.out.1, ?_, hb⟩
          unfold Own
          rw [HE.out.2]
          exact hown
        case measure => simp [intOf]; omega
    · obtain rfl : k = s.size := by omega
      have hall : s.data.toList.take s.size = s.data.toList := List.take_of_length_le (by rw [HSZ.out]; omega)
      have hst := st_len s.data.toList s.size
      unfold Own at hown
      rw [hall] at hown hst
      have hat := HA.out
      unfold At at hat
      rw [hall] at hat
      have hrest : s.extract q s.size = mk (st s.data.toList).2 := by rw [extract_mk, hall, hat.2]
      have HR := Lib.hid hrest
      have hcl : cutL s.data.toList = if q < s.size then (st s.data.toList).1 ++ [(st s.data.toList).2] else (st s.data.toList).1 := by
        have hl := HSZ.out
        unfold cutL close
        by_cases hq : q < s.size
        · rw [if_pos hq, if_neg]
          rw [hat.2]
          intro e
          have := congrArg List.length e
          simp at this
          omega
        · rw [if_neg hq, if_pos]
          rw [hat.2]
          exact List.drop_eq_nil_of_le (by omega)
      have HC := Lib.hid hcl
      clear hall hat hrest hcl HA HSZ
      by_cases hq : q < s.size
      · go_wp2_with (at_builtin; refine wpList_append_own _ rfl _ _ 27 rfl w.heap.size 9 i0 (.string { data := #[] }) 1 16 Tryz.underlying27 hi hz0 hz1 hz2 rfl (by decide) _ _ _ rfl (hown.alloc _) ⟨wr.heap.size, 0, none⟩ 1 1 [.string (s.extract q s.size)] rfl ?d1 ?d2 ?d3 ?d4 ?d5 ?d6 ?_)
        case d1 => rfl
        case d2 => exact cell_one_new _ _ _
        case d3 => intro u hu; simp at hu; subst hu; rfl
        case d4 => unfold maxLen; omega
        case d5 => omega
        case d6 => have := hb.size; simp; omega
        intro v' w2 hown2 hg2 _
        have hb2 := (hb.alloc hb.size _).grown hg2 (by have := hb.size; simp; omega) fun z hz => (hown.lt z hz).1
        clear hg2 hown hb
        go_wp2
        go_ret
        refine ⟨v', rfl, ?_, hb2⟩
        rw [HC.out, if_pos hq]
        rw [HR.out] at hown2
        simpa using hown2
      · go_wp2
        go_ret
        refine ⟨_, rfl, ?_, hb⟩
        rw [HC.out, if_neg hq]
        exact hown

end Go.Proofs.YtapcnmnnichamaaGreatDoor.Mg

namespace Go.Proofs.YtapcnmnnichamaaGreatDoor.Mg
open Go.RowKit

theorem Strs.cell {w : World} {A : Option Addr} {n c : Nat} {ss : List ByteArray} (h : Strs w (.slice A n c) ss) {k : Nat} (hk : k < n) :
    ∃ (ad : Addr) (s : ByteArray), A = some ad ∧ ss[k]? = some s ∧ w.cell? (ad.add k) = some (.string s) := by
  obtain ⟨A', c', hv, h1, h2, h3, h4⟩ := h
  injection hv with e1 e2 e3
  subst e1; subst e3
  cases A with
  | none => have := h3 rfl; omega
  | some ad =>
    have hl : k < ss.length := by omega
    exact ⟨ad, ss[k], rfl, List.getElem?_eq_getElem hl, h4 ad rfl k _ (List.getElem?_eq_getElem hl)⟩

theorem Strs.len {w : World} {A : Option Addr} {n c : Nat} {ss : List ByteArray} (h : Strs w (.slice A n c) ss) : n = ss.length ∧ n ≤ c ∧ c ≤ maxLen := by
  obtain ⟨A', c', hv, h1, h2, h3, h4⟩ := h
  injection hv with e1 e2 e3
  subst e3
  exact ⟨e2, by omega, h2⟩

theorem Strs.form {w : World} {v : Value} {ss : List ByteArray} (h : Strs w v ss) : ∃ A n c, v = .slice A n c := by
  obtain ⟨A, c, hv, _⟩ := h
  exact ⟨_, _, _, hv⟩

def YesB (w : World) (e : Ending) (w' : World) : Prop := e = .returned (.bool true) ∧ Below w.heap.size w w'
theorem below_drewN {B : Nat} {a w : World} (h : Below B a w) (n : Nat) : Below B a (w.drewN n) := ⟨h.os, h.tape, h.output, h.size, h.block⟩

theorem own_below {w w' : World} {base : Nat} {e : TypeId} {v : Value} {n : Nat} {xs : List Value} (h : w.ownsRow base e 1 v n xs) (hb : Below w.heap.size w w') : w'.ownsRow base e 1 v n xs := by
  refine ⟨h.1, ?_⟩
  rcases h.2 with h2 | ⟨g, cap, cur, hv, hg, hh, r⟩
  · exact Or.inl h2
  · exact Or.inr ⟨g, cap, cur, hv, hg, (hb.block g (Array.getElem?_eq_some_iff.1 hh).1).trans hh, r⟩

theorem own_form {w : World} {base : Nat} {e : TypeId} {v : Value} {n : Nat} {xs : List Value} (h : w.ownsRow base e 1 v n xs) : ∃ A m c, v = .slice A m c := by
  rcases h.2 with ⟨rfl, _⟩ | ⟨g, cap, cur, rfl, _⟩
  · exact ⟨_, _, _, rfl⟩
  · exact ⟨_, _, _, rfl⟩

theorem size_data (s : ByteArray) : s.data.toList.length = s.size := by rw [Array.length_toList]; rfl

theorem own_formn {w : World} {base : Nat} {e : TypeId} {v : Value} {n : Nat} {xs : List Value} (h : w.ownsRow base e 1 v n xs) : ∃ A c, v = .slice A n c := by
  rcases h.2 with ⟨rfl, rfl⟩ | ⟨g, cap, cur, rfl, _⟩
  · exact ⟨_, _, rfl⟩
  · exact ⟨_, _, rfl⟩

theorem mk_size (l : List UInt8) : (mk l).size = l.length := by show l.toArray.size = _; simp
theorem mk_data (l : List UInt8) : (mk l).data.toList = l := by simp [mk]

/-- A bool; at most draws. -/
def Flag (b : Bool) (w : World) (e : Ending) (w' : World) : Prop := ∃ n, e = .returned (.bool b) ∧ w' = w.drewN n

theorem prefix_eq {xs ys : List ByteArray} {k : Nat} (hp : ∀ i, i < k → xs[i]? = ys[i]?) (h1 : xs.length = k) (h2 : ys.length = k) : xs = ys := by
  apply List.ext_getElem?
  intro i
  by_cases h : i < k
  · exact hp i h
  · rw [List.getElem?_eq_none (by omega), List.getElem?_eq_none (by omega)]

set_option maxHeartbeats 2000000 in
theorem refEqual_any (w : World) (v u : Value) (xs ys : List ByteArray) (h : Strs w v xs) (g : Strs w u ys) :
    Calls Tryz.prog 136 #[v, u] w (Flag (decide (xs = ys)) w) := by
  obtain ⟨A, n, c, rfl⟩ := h.form
  obtain ⟨B, m, d, rfl⟩ := g.form
  have hn := h.len
  have gn := g.len
  have hb1 : n ≤ 9223372036854775807 := by have := hn.2; unfold maxLen at this; omega
  have hb2 : m ≤ 9223372036854775807 := by have := gn.2; unfold maxLen at this; omega
  have H := fun k (hk : k < n) => h.cell hk
  have HH := Lib.hid H
  have G := fun k (hk : k < m) => g.cell hk
  have GG := Lib.hid G
  have HN := Lib.hid hn.1
  have GN := Lib.hid gn.1
  clear H G h g hn gn
  by_cases hnm : n = m
  · subst hnm
    go_enter Tryz.func136, Tryz.ntmps136
    go_wp2
    go_loopw [5] (fun i wr => ∃ k q : Nat, k ≤ n ∧ i = .int .i64 k ∧ Hid (∀ i, i < k → xs[i]? = ys[i]?) ∧ wr = w.drewN q) (fun i _ => n - (intOf i).toNat)
    case atStart => exact ⟨0, 0, Nat.zero_le _, rfl, fun i hi => absurd hi (by omega), rfl⟩
    case round =>
      obtain ⟨k, q, hk, rfl, hp, rfl⟩ := hrel
      have HP := Lib.hid hp
      clear hp
      by_cases hlt : k < n
      · obtain ⟨a, x, rfl, hx, hc1⟩ := HH.out k hlt
        obtain ⟨b, y, rfl, hy, hc2⟩ := GG.out k hlt
        have hi0 : (0 : Int) ≤ (k : Int) := Int.natCast_nonneg _
        have hi1 : (k : Int) < (n : Int) := by omega
        have HX := Lib.hid hx
        have HY := Lib.hid hy
        clear hx hy
        have hs : (x.toList == y.toList) = decide (x = y) := by
          rw [ByteArray.toList_eq, ByteArray.toList_eq]
          by_cases e : x = y
          · simp [e]
          · simp [e]
            intro h
            exact e (ByteArray.ext h)
        by_cases hxy : x = y
        · subst hxy
          clear hs
          go_wp2_with fail
          go_quiet (fail)
          go_wp2
          go_roundw
          case rel =>
            refine ⟨k + 1, _, by omega, by go_num, fun i hi => ?_, rfl⟩
            by_cases hik : i < k
            · exact HP.out.out i hik
            · obtain rfl : i = k := by omega
              rw [HX.out, HY.out]
          case measure => simp [intOf]; omega
        · rw [decide_eq_false hxy] at hs
          go_wp2_with fail
          go_quiet (fail)
          go_wp2
          go_ret
          have hd : decide (xs = ys) = false := decide_eq_false fun e => by
            have := HX.out
            rw [e, HY.out] at this
            exact hxy (Option.some.inj this).symm
          refine ⟨_, ?_, World.drewN_drewN _ _ _⟩
          rw [hd]
          rfl
      · obtain rfl : k = n := by omega
        go_wp2
        go_ret
        refine ⟨q, ?_, rfl⟩
        rw [decide_eq_true (prefix_eq HP.out.out HN.out.symm GN.out.symm)]
        rfl
  · have hne : ((n : Int) == (m : Int)) = false := by rw [beq_eq_false_iff_ne]; omega
    go_enter Tryz.func136, Tryz.ntmps136
    go_wp2
    go_ret
    have hd : decide (xs = ys) = false := decide_eq_false fun e => by
      have := HN.out
      rw [e, ← GN.out] at this
      exact hnm this
    refine ⟨0, ?_, rfl⟩
    rw [hd]
    rfl

end Go.Proofs.YtapcnmnnichamaaGreatDoor.Mg

namespace Go.Proofs.YtapcnmnnichamaaGreatDoor.Mg
open Go.RowKit Go.Maps Go.WideMaps

theorem strKey : Keyed Tryz.prog 9 := string_keyed Tryz.underlying9
theorem zero3 (w : World) : (zeroValue 3).run Tryz.prog w = .ok (.int .i64 0) w := by kernel_rfl
theorem intInfo : (Tryz.prog.info? 3).map (fun i => (i.zero, i.size, i.bytes)) = some (some (.int .i64 0), 1, 8) := by kernel_rfl

abbrev key (s : ByteArray) : Lit := .string s.data.toList
abbrev num (c : Nat) : DataW Unit := .lit (.int .i64 (c : Int))

theorem key_inj {s t : ByteArray} (h : key s = key t) : s = t := by
  injection h with h
  exact ByteArray.ext (Array.toList_inj.1 h)

/-- The numbers that have been given: each less than how many, no two lines one number. -/
structure Good (D : DataW Unit) : Prop where
  tidy : Tidy D
  lt : ∀ s, has D (key s) = true → ∃ c : Nat, (∀ z, D.atKey (key s) z = num c) ∧ c < size D
  inj : ∀ s t, has D (key s) = true → has D (key t) = true → (∀ z, D.atKey (key s) z = D.atKey (key t) z) → s = t

/-- What has a number keeps it. -/
def More (D D' : DataW Unit) : Prop := ∀ s, has D (key s) = true → has D' (key s) = true ∧ ∀ z, D'.atKey (key s) z = D.atKey (key s) z

theorem More.refl (D : DataW Unit) : More D D := fun _ h => ⟨h, fun _ => rfl⟩
theorem More.trans {A B C : DataW Unit} (h : More A B) (g : More B C) : More A C := fun s hs => ⟨(g s (h s hs).1).1, fun z => ((g s (h s hs).1).2 z).trans ((h s hs).2 z)⟩

theorem good_empty : Good (.map []) := ⟨tidy_empty, fun s h => by simp [has_eq] at h, fun s t h => by simp [has_eq] at h⟩

theorem num_ne {a b : Nat} (h : num a = num b) : a = b := by
  simp only [num, DataW.lit.injEq, Lit.int.injEq, true_and] at h
  omega

theorem good_put {D : DataW Unit} (h : Good D) {s : ByteArray} (hs : has D (key s) = false) : Good (D.put (key s) (num (size D))) ∧ More D (D.put (key s) (num (size D))) ∧
    (has (D.put (key s) (num (size D))) (key s) = true) ∧ (∀ z, (D.put (key s) (num (size D))).atKey (key s) z = num (size D)) ∧ size (D.put (key s) (num (size D))) = size D + 1 := by
  have hk : WideAt.IsKeyLit (key s) := trivial
  have e1 := has_put_same h.tidy.isMap hk (num (size D))
  have e2 := fun z => atKey_put_same h.tidy.isMap hk (num (size D)) z
  have e3 : size (D.put (key s) (num (size D))) = size D + 1 := by rw [size_put h.tidy, hs]; rfl
  have oth : ∀ t, t ≠ s → has (D.put (key s) (num (size D))) (key t) = has D (key t) ∧ ∀ z, (D.put (key s) (num (size D))).atKey (key t) z = D.atKey (key t) z := fun t ht =>
    ⟨has_put_other (fun e => ht (key_inj e)) _, fun z => atKey_put_other (fun e => ht (key_inj e)) _ z⟩
  refine ⟨⟨h.tidy.put hk _, ?_, ?_⟩, ?_, e1, e2, e3⟩
  · intro t ht
    by_cases hts : t = s
    · subst hts; exact ⟨_, e2, by omega⟩
    · rw [(oth t hts).1] at ht
      obtain ⟨c, hc, hlt⟩ := h.lt t ht
      exact ⟨c, fun z => ((oth t hts).2 z).trans (hc z), by omega⟩
  · intro t u ht hu he
    by_cases hts : t = s
    · by_cases hus : u = s
      · rw [hts, hus]
      · rw [(oth u hus).1] at hu
        obtain ⟨c, hc, hlt⟩ := h.lt u hu
        have := he .nil
        rw [hts, e2, (oth u hus).2, hc] at this
        have := num_ne this
        omega
    · rw [(oth t hts).1] at ht
      by_cases hus : u = s
      · obtain ⟨c, hc, hlt⟩ := h.lt t ht
        have := he .nil
        rw [hus, e2, (oth t hts).2, hc] at this
        have := num_ne this
        omega
      · rw [(oth u hus).1] at hu
        exact h.inj t u ht hu fun z => by rw [← (oth t hts).2, ← (oth u hus).2]; exact he z
  · intro t ht
    by_cases hts : t = s
    · subst hts; rw [hs] at ht; cases ht
    · exact ⟨by rw [(oth t hts).1]; exact ht, (oth t hts).2⟩

/-- zs are the numbers of the lines xs. -/
def Nums (D : DataW Unit) (xs : List ByteArray) (zs : List Nat) : Prop := zs.length = xs.length ∧ ∀ (i : Nat) s, xs[i]? = some s → has D (key s) = true ∧ ∃ c, zs[i]? = some c ∧ ∀ z, D.atKey (key s) z = num c

theorem Nums.more {D D' : DataW Unit} {xs : List ByteArray} {zs : List Nat} (h : Nums D xs zs) (m : More D D') : Nums D' xs zs :=
  ⟨h.1, fun i s hs => by
    obtain ⟨h1, c, h2, h3⟩ := h.2 i s hs
    exact ⟨(m s h1).1, c, h2, fun z => ((m s h1).2 z).trans (h3 z)⟩⟩

/-- Numbers are alike just if lines are. -/
theorem Nums.eq {D : DataW Unit} (g : Good D) {xs ys : List ByteArray} {zs us : List Nat} (h : Nums D xs zs) (k : Nums D ys us) {i j : Nat} {s t : ByteArray} (hs : xs[i]? = some s) (ht : ys[j]? = some t) {a b : Nat} (ha : zs[i]? = some a) (hb : us[j]? = some b) : a = b ↔ s = t := by
  obtain ⟨h1, c, h2, h3⟩ := h.2 i s hs
  obtain ⟨k1, d, k2, k3⟩ := k.2 j t ht
  rw [ha] at h2
  rw [hb] at k2
  cases h2
  cases k2
  constructor
  · intro e
    subst e
    exact g.inj s t h1 k1 fun z => by rw [h3, k3]
  · intro e
    subst e
    exact num_ne ((h3 .nil).symm.trans (k3 .nil))

end Go.Proofs.YtapcnmnnichamaaGreatDoor.Mg

namespace Go.Proofs.YtapcnmnnichamaaGreatDoor.Mg
open Go.RowKit Go.Maps Go.WideMaps

theorem grown_step {a b c : World} {m : Nat} {row : Option Nat} (h : a.grownBy b (some m)) (g : b.grownBy c row) (hr : ∀ k, row = some k → k = m ∨ a.heap.size ≤ k) : a.grownBy c (some m) :=
  ⟨g.os.trans h.os, g.tape.trans h.tape, g.output.trans h.output, Nat.le_trans h.size g.size, fun k hk hne => by
    have hkb : k < b.heap.size := Nat.lt_of_lt_of_le hk h.size
    refine (g.block k hkb fun e => ?_).trans (h.block k hk hne)
    rcases hr k e.symm with h1 | h1
    · exact hne (by rw [h1])
    · omega⟩
theorem grown_none {a b : World} {m : Nat} (h : a.grownBy b none) : a.grownBy b (some m) := ⟨h.os, h.tape, h.output, h.size, fun k hk _ => h.block k hk (by simp)⟩

/-- Strings that a map does not touch. -/
theorem Strs.grown {w w' : World} {v : Value} {ss : List ByteArray} (h : Strs w v ss) {m : Nat} (hg : w.grownBy w' (some m)) {es : Array MapEntry} {cl : Nat} (hm : w.heap[m]? = some (.map es cl)) : Strs w' v ss := by
  obtain ⟨A, c, hv, h1, h2, h3, h4⟩ := h
  refine ⟨A, c, hv, h1, h2, h3, fun ad ha i s hs => ?_⟩
  have hc := h4 ad ha i s hs
  have hb := World.block_lt_of_cell? w _ hc
  have hne : some (ad.add i).block ≠ some m := by
    intro e
    injection e with e
    unfold World.cell? at hc
    rw [e, hm] at hc
    simp at hc
  rw [World.cell?_of_block (hg.block _ hb hne)]
  exact hc

/-- The cells of a row that is numbered so far. -/
def part (zs : List Nat) (n : Nat) : List Value := zs.map (fun z : Nat => Value.int .i64 (z : Int)) ++ List.replicate (n - zs.length) (.int .i64 0)

theorem part_set (zs : List Nat) (n c : Nat) (h : zs.length < n) : (part zs n).set zs.length (.int .i64 (c : Int)) = part (zs ++ [c]) n := by
  unfold part
  rw [List.set_append_right _ _ (by simp), show n - zs.length = (n - (zs.length + 1)) + 1 by omega, List.replicate_succ]
  simp

theorem part_full (zs : List Nat) (n : Nat) (h : zs.length = n) : part zs n = zs.map (fun z : Nat => Value.int .i64 (z : Int)) := by
  unfold part
  rw [h, Nat.sub_self]
  simp

def Numbered (w : World) (bm N : Nat) (D : DataW Unit) (xs : List ByteArray) (e : Ending) (w' : World) : Prop :=
  ∃ (g : Nat) (zs : List Nat) (D' : DataW Unit), e = .returned (.slice (some ⟨g, 0, none⟩) xs.length xs.length) ∧ w.heap.size ≤ g ∧
    w'.ownsRow w.heap.size 3 1 (.slice (some ⟨g, 0, none⟩) xs.length xs.length) xs.length (zs.map (fun z : Nat => Value.int .i64 (z : Int))) ∧
    Good D' ∧ Nums D' xs zs ∧ More D D' ∧ w'.ownsMap Tryz.prog 9 (plainElem Tryz.prog 3) bm (N + xs.length) D' ∧ w.grownBy w' (some bm)

theorem made_part (n : Nat) : (madeCells #[Value.int .i64 0] n).toList = part [] n := by
  rw [toList_madeCells_one]
  simp [part]

theorem part_at (zs : List Nat) (n : Nat) (h : zs.length < n) : (part zs n)[zs.length]? = some (.int .i64 0) := by
  unfold part
  rw [List.getElem?_append_right (by simp), List.length_map, Nat.sub_self, List.getElem?_replicate, if_pos (by omega)]

theorem nums_take {D : DataW Unit} {xs : List ByteArray} {zs : List Nat} {k : Nat} (h : Nums D (xs.take k) zs) (hk : k < xs.length) {s : ByteArray} (hs : xs[k]? = some s) {c : Nat} (h1 : has D (key s) = true) (h2 : ∀ z, D.atKey (key s) z = num c) :
    Nums D (xs.take (k + 1)) (zs ++ [c]) := by
  have hl : zs.length = k := by rw [h.1, List.length_take]; omega
  refine ⟨by rw [List.length_append, hl, List.length_take]; simp; omega, fun i t ht => ?_⟩
  by_cases hik : i < k
  · rw [List.getElem?_take_of_lt (by omega)] at ht
    obtain ⟨a, b, c1, c2⟩ := h.2 i t (by rw [List.getElem?_take_of_lt hik]; exact ht)
    exact ⟨a, b, by rw [List.getElem?_append_left (by omega)]; exact c1, c2⟩
  · have hi : i = k := by
      have := (List.getElem?_eq_some_iff.1 ht).1
      rw [List.length_take] at this
      omega
    subst hi
    rw [List.getElem?_take_of_lt (by omega), hs] at ht
    cases ht
    exact ⟨h1, c, by rw [List.getElem?_append_right (by omega)]; simp [hl], h2⟩

set_option maxRecDepth 100000 in
set_option maxHeartbeats 4000000 in
theorem numbered_any (w : World) (v : Value) (xs : List ByteArray) (bm N : Nat) (D : DataW Unit) (h : Strs w v xs) (hsz : ∀ s ∈ xs, s.size ≤ maxLen) (hn : xs.length ≤ 1000) (hN : N ≤ 1000)
    (hown : w.ownsMap Tryz.prog 9 (plainElem Tryz.prog 3) bm N D) (hD : Good D) :
    Calls Tryz.prog 140 #[v, .map (some bm)] w (Numbered w bm N D xs) := by
  obtain ⟨A, n, c, rfl⟩ := h.form
  obtain rfl := h.len.1
  obtain ⟨i0, hi, hz0, hz1, hz2⟩ := info_parts intInfo
  have HS := Lib.hid h
  have HD := Lib.hid hD
  have HSZ := Lib.hid hsz
  have hmlt := hown.lt
  obtain ⟨es, cl, hmap, _⟩ := id hown
  clear h hD hsz
  go_enter Tryz.func140, Tryz.ntmps140
  go_wp2_with (refine wpList_make_full _ rfl _ _ 187 rfl w.heap.size 3 i0 (.int .i64 0) 1 Tryz.underlying187 hi hz0 hz1 .i64 .i64 _ _ xs.length rfl rfl rfl rfl (by rw [hz2]; omega) (by unfold maxLen; omega) (Nat.le_refl _) ?_)
  intro w1 hrow hg1
  rw [made_part] at hrow
  have hg1' : w.grownBy w1 (some bm) := grown_none hg1
  have hown1 := hown.kept hg1 (by simp)
  clear hown hg1
  go_wp2_with fail
  go_loopw [6, 7, 8, 9, 15] (fun _ _ _ _ i wr => ∃ (k : Nat) (zs : List Nat) (D' : DataW Unit), k ≤ xs.length ∧ i = .int .i64 k ∧ wr.ownsRow w.heap.size 3 1 (.slice (some ⟨w.heap.size, 0, none⟩) xs.length xs.length) xs.length (part zs xs.length) ∧
      zs.length = k ∧ Good D' ∧ Nums D' (xs.take k) zs ∧ More D D' ∧ wr.ownsMap Tryz.prog 9 (plainElem Tryz.prog 3) bm (N + k) D' ∧ w.grownBy wr (some bm)) (fun _ _ _ _ i _ => xs.length - (intOf i).toNat)
  case atStart => exact ⟨0, [], D, Nat.zero_le _, rfl, hrow, rfl, HD.out, ⟨rfl, fun i s hs => by simp at hs⟩, More.refl D, hown1, hg1'⟩
  case round =>
    clear hrow hown1 hg1'
    obtain ⟨k, zs, D', hk, rfl, hrow, hzl, hG, hNu, hMo, hownr, hgr⟩ := hrel
    have hi0 : (0 : Int) ≤ (k : Int) := Int.natCast_nonneg _
    have hSr := HS.out.grown hgr hmap
    by_cases hlt : k < xs.length
    · obtain ⟨ad, s, rfl, hs, hc⟩ := hSr.cell hlt
      have hkey : keyOf Tryz.prog 9 (.string s) = some (key s) := keyOf_string_mk Tryz.underlying9 (HSZ.out s (List.mem_of_getElem? hs))
      have hi1 : (k : Int) < (xs.length : Int) := by omega
      have hcell : wr.cell? ⟨w.heap.size, k, none⟩ = some (.int .i64 0) := (hrow.cellAt k (by omega)).trans (by have := part_at zs xs.length (by omega); rw [hzl] at this; exact this)
      have hfz : wr.frozen? ⟨w.heap.size, k, none⟩ = false := hrow.frozenAt k
      clear hmap
      cases hhas : has D' (key s) with
      | true =>
        obtain ⟨c', hc', hlt'⟩ := hG.lt s hhas
        have HC := Lib.hid hc'
        clear hc' hlt'
        go_wp2_with (at_lookup; refine wpList_lookup_own_ok_int _ rfl _ _ 228 rfl 9 3 .i64 strKey Tryz.underlying228 Tryz.underlying3 (zero3 _) bm (N + k) D' rfl hownr _ _ rfl hkey ?_; intro c hat hwc)
        have he : c = (c' : Int) := by
          have := (HC.out (.lit (.int .i64 0))).symm.trans hat
          simp only [num, DataW.lit.injEq, Lit.int.injEq, true_and] at this
          exact this.symm
        have hst := hrow.stored k (.int .i64 c)
        have hset : (part zs xs.length).set k (.int .i64 c) = part (zs ++ [c']) xs.length := by
          rw [he]
          have := part_set zs xs.length c' (by omega)
          rw [hzl] at this
          exact this
        rw [hset] at hst
        have hNu' := nums_take hNu hlt hs hhas HC.out
        have hown2 := hownr.kept hst.2 (by simp; omega)
        have hgr2 := grown_step hgr hst.2 (by intro z hz; right; simp at hz; omega)
        go_roundw
        case rel => exact ⟨k + 1, zs ++ [c'], D', by omega, by go_num, hst.1, by simp [hzl], hG, hNu', hMo, hown2.mono (by omega), hgr2⟩
        case measure => simp [intOf]; omega
      | false =>
        obtain ⟨hG2, hM2, hh2, hc2, hs2⟩ := good_put hG hhas
        have HG := Lib.hid hG2
        have HM := Lib.hid hM2
        have HH := Lib.hid hh2
        have HC := Lib.hid hc2
        have hsz := hownr.size_le
        have HP := Lib.hid (show (part zs xs.length)[k]? = some (.int .i64 0) from by have := part_at zs xs.length (by omega); rw [hzl] at this; exact this)
        clear hG2 hM2 hh2 hc2 hs2
        go_wp2_with (first
          | (at_lookup; refine wpList_lookup_own_ok_int _ rfl _ _ 228 rfl 9 3 .i64 strKey Tryz.underlying228 Tryz.underlying3 (zero3 _) bm (N + k) D' rfl hownr _ _ rfl hkey ?_; intro c hat hwc)
          | (at_len; refine wpList_len_own _ rfl _ 228 rfl 9 3 Tryz.underlying228 _ bm (N + k) D' rfl hownr ?_)
          | (at_mapUpdate; refine wpList_mapUpdate_own _ rfl _ _ _ 228 rfl 9 3 strKey Tryz.underlying228 _ bm (N + k) D' rfl hownr (by unfold maxLen; omega) _ _ _ rfl rfl hkey (num (size D')) [] (plainElem_int Tryz.underlying3 (WalkArith.wf_i64 (by omega))) ?_; intro w2 hown2 hg2; have hrow2 := hrow.kept hg2 (.inr (by simp [Value.ownBlock]; omega)); have hcell2 : w2.cell? ⟨w.heap.size, k, none⟩ = some (.int .i64 0) := (hrow2.cellAt k (by omega)).trans HP.out; have hfz2 : w2.frozen? ⟨w.heap.size, k, none⟩ = false := hrow2.frozenAt k))
        have hst := hrow2.stored k (.int .i64 (size D' : Int))
        have hset : (part zs xs.length).set k (.int .i64 (size D' : Int)) = part (zs ++ [size D']) xs.length := by
          have := part_set zs xs.length (size D') (by omega)
          rw [hzl] at this
          exact this
        rw [hset] at hst
        have hNu' := nums_take (hNu.more HM.out) hlt hs HH.out HC.out
        have hown3 := hown2.kept hst.2 (by simp; omega)
        have hgr2 := grown_step (grown_step hgr hg2 (by intro z hz; left; simpa using hz.symm)) hst.2 (by intro z hz; right; simp at hz; omega)
        go_roundw
        case rel => exact ⟨k + 1, zs ++ [size D'], _, by omega, by go_num, hst.1, by simp [hzl], HG.out, hNu', hMo.trans HM.out, hown3, hgr2⟩
        case measure => simp [intOf]; omega
    · obtain rfl : k = xs.length := by omega
      rw [part_full _ _ hzl] at hrow
      have hall : xs.take xs.length = xs := List.take_length
      rw [hall] at hNu
      clear hall
      go_wp2
      go_ret
      exact ⟨w.heap.size, zs, D', rfl, Nat.le_refl _, hrow, hG, hNu, hMo, hownr, hgr⟩

end Go.Proofs.YtapcnmnnichamaaGreatDoor.Mg

namespace Go.Proofs.YtapcnmnnichamaaGreatDoor.Mg
open Go.RowKit

/-- The place of (i, j) in the rows. -/
def pl (nb i j : Nat) : Nat := i * (nb + 1) + j

theorem pl_bound {nb i j : Nat} (h : nb ≤ 300) (hi : i ≤ 300) (hj : j ≤ 300) : pl nb i j ≤ 100000 := by
  unfold pl
  have : i * (nb + 1) ≤ 300 * 301 := Nat.mul_le_mul hi (by omega)
  omega
theorem mul_int (nb i : Nat) : (i : Int) * ((nb : Int) + 1) = ((i * (nb + 1) : Nat) : Int) := by
  rw [Int.natCast_mul]; rfl

set_option maxHeartbeats 1000000 in
theorem at_any (sa sr : Value) (B : Option Addr) (nb cb i j : Nat) (h : nb ≤ 300) (hi : i ≤ 300) (hj : j ≤ 300) (w : World) :
    Calls Tryz.prog 142 #[.agg #[sa, .slice B nb cb, sr], .int .i64 i, .int .i64 j] w fun e w' => e = .returned (.int .i64 (pl nb i j : Nat)) ∧ Below w.heap.size w w' := by
  have hp := pl_bound h hi hj
  have hm := mul_int nb i
  have h1 : IntKind.i64.wrap ((i : Int) * ((nb : Int) + 1)) = ((i * (nb + 1) : Nat) : Int) := by
    rw [hm, IntKind.wrap_i64]; unfold pl at hp; omega
  have h2 : IntKind.i64.wrap (((i * (nb + 1) : Nat) : Int) + (j : Int)) = ((pl nb i j : Nat) : Int) := by
    rw [IntKind.wrap_i64]; unfold pl at *; omega
  clear hm
  go_enter Tryz.func142, Tryz.ntmps142
  go_wp2
  go_ret
  refine ⟨?_, (Below.refl _ _).alloc (Nat.le_refl _) _⟩
  have h3 : wrap64 ((i : Int) * ((nb : Int) + 1) + (j : Int)) = ((pl nb i j : Nat) : Int) := by
    have := mul_int nb i
    rw [this]; unfold wrap64 pl at *; omega
  exact congrArg (fun z : Int => Ending.returned (.int .i64 z)) h3

/-- A block of three cells that the call has laid, in a later world. -/
structure Three (w : World) (b : Nat) (x y z : Value) : Prop where
  c0 : w.cell? ⟨b, 0, none⟩ = some x
  c1 : w.cell? ⟨b, 1, none⟩ = some y
  c2 : w.cell? ⟨b, 2, none⟩ = some z
  z0 : w.frozen? ⟨b, 0, none⟩ = false
  z1 : w.frozen? ⟨b, 1, none⟩ = false
  z2 : w.frozen? ⟨b, 2, none⟩ = false
  lt : b < w.heap.size

theorem Three.new (w : World) (x y z : Value) (t : TypeId) : Three (w.alloc (.cells #[x, y, z] t)) w.heap.size x y z := by
  have hh := heap_alloc_new w (.cells #[x, y, z] t)
  exact ⟨cell_of_row _ _ 0 _ t (0, 0) hh, cell_of_row _ _ 1 _ t (0, 0) hh, cell_of_row _ _ 2 _ t (0, 0) hh, by unfold World.frozen?; rw [hh]; rfl, by unfold World.frozen?; rw [hh]; rfl, by unfold World.frozen?; rw [hh]; rfl, by simp⟩

theorem Three.below {w w' : World} {b : Nat} {x y z : Value} (h : Three w b x y z) (hb : Below w.heap.size w w') : Three w' b x y z :=
  ⟨(hb.cell (p := ⟨b, 0, none⟩) h.lt).trans h.c0, (hb.cell (p := ⟨b, 1, none⟩) h.lt).trans h.c1, (hb.cell (p := ⟨b, 2, none⟩) h.lt).trans h.c2, (hb.frozen (p := ⟨b, 0, none⟩) h.lt).trans h.z0, (hb.frozen (p := ⟨b, 1, none⟩) h.lt).trans h.z1, (hb.frozen (p := ⟨b, 2, none⟩) h.lt).trans h.z2, Nat.lt_of_lt_of_le h.lt hb.size⟩

/-- The grid: numbers of the lines, and the rows, each where it lies. -/
abbrev grid (ga gb gr na nb R : Nat) : Value := .agg #[.slice (some ⟨ga, 0, none⟩) na na, .slice (some ⟨gb, 0, none⟩) nb nb, .slice (some ⟨gr, 0, none⟩) R R]

set_option maxHeartbeats 1000000 in
theorem longest_any (ga gb gr na nb R i j : Nat) (c : Int) (h : nb ≤ 300) (hi : i ≤ 300) (hj : j ≤ 300) (hp : pl nb i j < R) (w : World) (hc : w.cell? ⟨gr, pl nb i j, none⟩ = some (.int .u16 c)) :
    Calls Tryz.prog 141 #[grid ga gb gr na nb R, .int .i64 i, .int .i64 j] w fun e w' => e = .returned (.int .u16 c) ∧ Below w.heap.size w w' := by
  have A := fun W => at_any (.slice (some ⟨ga, 0, none⟩) na na) (.slice (some ⟨gr, 0, none⟩) R R) (some ⟨gb, 0, none⟩) nb nb i j h hi hj W
  have HA := Lib.hid A
  clear A
  have hlt := World.block_lt_of_cell? w _ hc
  have hb0 : Below w.heap.size w (w.alloc (.cells #[.slice (some ⟨ga, 0, none⟩) na na, .slice (some ⟨gb, 0, none⟩) nb nb, .slice (some ⟨gr, 0, none⟩) R R] 212)) := (Below.refl _ _).alloc (Nat.le_refl _) _
  generalize pl nb i j = p at *
  have hi0 : (0 : Int) ≤ (p : Int) := Int.natCast_nonneg _
  have hi1 : (p : Int) < (R : Int) := by omega
  go_enter Tryz.func141, Tryz.ntmps141
  go_wp2_with fail
  have T0 := Three.new w (.slice (some ⟨ga, 0, none⟩) na na) (.slice (some ⟨gb, 0, none⟩) nb nb) (.slice (some ⟨gr, 0, none⟩) R R) 212
  generalize hW : w.alloc (.cells #[.slice (some ⟨ga, 0, none⟩) na na, .slice (some ⟨gb, 0, none⟩) nb nb, .slice (some ⟨gr, 0, none⟩) R R] 212) = W0 at *
  clear hW
  have hq := (hb0.cell (p := ⟨gr, p, none⟩) hlt).trans hc
  have T0d : Three W0.drew w.heap.size (.slice (some ⟨ga, 0, none⟩) na na) (.slice (some ⟨gb, 0, none⟩) nb nb) (.slice (some ⟨gr, 0, none⟩) R R) := ⟨T0.c0, T0.c1, T0.c2, T0.z0, T0.z1, T0.z2, T0.lt⟩
  have S0 : W0.drew.cell? ⟨w.heap.size, 0, none⟩ = some (.slice (some ⟨ga, 0, none⟩) na na) ∧ W0.drew.cell? ⟨w.heap.size, 1, none⟩ = some (.slice (some ⟨gb, 0, none⟩) nb nb) ∧ W0.drew.cell? ⟨w.heap.size, 2, none⟩ = some (.slice (some ⟨gr, 0, none⟩) R R) ∧ W0.drew.cell? ⟨gr, p, none⟩ = some (.int .u16 c) := ⟨T0.c0, T0.c1, T0.c2, hq⟩
  have hbd := hb0.drew
  have hlt2 : gr < W0.drew.heap.size := Nat.lt_of_lt_of_le hlt hbd.size
  have H37 := Lib.hid (HA.out W0.drew)
  clear hb0 HA
  go_region_held3 (fun w' => w'.cell? ⟨w.heap.size, 0, none⟩ = some (.slice (some ⟨ga, 0, none⟩) na na) ∧ w'.cell? ⟨w.heap.size, 1, none⟩ = some (.slice (some ⟨gb, 0, none⟩) nb nb) ∧ w'.cell? ⟨w.heap.size, 2, none⟩ = some (.slice (some ⟨gr, 0, none⟩) R R) ∧ w'.cell? ⟨gr, p, none⟩ = some (.int .u16 c)) (first | exact S0 | exact S1 | go_keep)
    (first | (go_at_call 142; refine H37.out.mono ?_; rintro e w1 ⟨rfl, hb1⟩; have T1 := T0d.below hb1; have hb2 := hbd.trans (hb1.mono hbd.size); have S1 : w1.cell? ⟨w.heap.size, 0, none⟩ = some (.slice (some ⟨ga, 0, none⟩) na na) ∧ w1.cell? ⟨w.heap.size, 1, none⟩ = some (.slice (some ⟨gb, 0, none⟩) nb nb) ∧ w1.cell? ⟨w.heap.size, 2, none⟩ = some (.slice (some ⟨gr, 0, none⟩) R R) ∧ w1.cell? ⟨gr, p, none⟩ = some (.int .u16 c) := ⟨T1.c0, T1.c1, T1.c2, (hb1.cell (p := ⟨gr, p, none⟩) hlt2).trans hq⟩))
  all_goals go_wp2
  all_goals go_ret
  all_goals exact ⟨rfl, hb2⟩

end Go.Proofs.YtapcnmnnichamaaGreatDoor.Mg

namespace Go.Proofs.YtapcnmnnichamaaGreatDoor.Mg
variable {α : Type} [DecidableEq α]

def lcRow (x : α) (f : List α → Nat) : List α → Nat
  | [] => 0
  | y :: ys => if x = y then f ys + 1 else max (f (y :: ys)) (lcRow x f ys)

/-- How long the longest row is that both have in order. -/
def lc : List α → List α → Nat
  | [] => fun _ => 0
  | x :: xs => lcRow x (lc xs)

theorem lc_nil_left (ys : List α) : lc [] ys = 0 := rfl
theorem lc_nil_right (xs : List α) : lc xs [] = 0 := by cases xs <;> rfl
theorem lc_cons (x y : α) (xs ys : List α) : lc (x :: xs) (y :: ys) = if x = y then lc xs ys + 1 else max (lc xs (y :: ys)) (lc (x :: xs) ys) := rfl

theorem lc_le_left (xs : List α) : ∀ ys : List α, lc xs ys ≤ xs.length := by
  induction xs with
  | nil => intro ys; exact Nat.le_refl _
  | cons x xs ih =>
    intro ys
    induction ys with
    | nil => rw [lc_nil_right]; omega
    | cons y ys ih2 =>
      rw [lc_cons]
      have := ih ys
      have := ih (y :: ys)
      simp only [List.length_cons] at *
      split <;> omega

theorem lc_symm (xs : List α) : ∀ ys : List α, lc xs ys = lc ys xs := by
  induction xs with
  | nil => intro ys; rw [lc_nil_left, lc_nil_right]
  | cons x xs ih =>
    intro ys
    induction ys with
    | nil => rw [lc_nil_left, lc_nil_right]
    | cons y ys ih2 =>
      rw [lc_cons, lc_cons, ih ys, ih (y :: ys), ih2]
      by_cases h : x = y
      · rw [if_pos h, if_pos h.symm]
      · rw [if_neg h, if_neg (fun e => h e.symm), Nat.max_comm]

theorem lc_le_right (xs ys : List α) : lc xs ys ≤ ys.length := by rw [lc_symm]; exact lc_le_left ys xs

/-- Whatever is in order in both is no longer. -/
theorem lc_ge (c : List α) (xs : List α) : ∀ ys : List α, c.Sublist xs → c.Sublist ys → c.length ≤ lc xs ys := by
  induction xs generalizing c with
  | nil => intro ys h _; rw [List.sublist_nil.1 h]; exact Nat.zero_le _
  | cons x xs ih =>
    intro ys
    induction ys generalizing c with
    | nil => intro _ h; rw [List.sublist_nil.1 h]; exact Nat.zero_le _
    | cons y ys ih2 =>
      intro h k
      rw [lc_cons]
      cases h with
      | cons _ h =>
        by_cases e : x = y
        · rw [if_pos e]
          cases k with
          | cons _ k => have := ih c ys h k; omega
          | cons_cons _ k => have := ih _ ys ((List.sublist_cons_self _ _).trans h) k; simp only [List.length_cons]; omega
        · rw [if_neg e]
          have := ih c (y :: ys) h k
          omega
      | cons_cons _ h =>
        rename_i c'
        by_cases e : x = y
        · rw [if_pos e]
          subst e
          have := ih c' ys h (by cases k with
            | cons _ k => exact (List.sublist_cons_self _ _).trans k
            | cons_cons _ k => exact k)
          simp only [List.length_cons]; omega
        · rw [if_neg e]
          cases k with
          | cons _ k => have := ih2 (x :: c') (h.cons_cons x) k; omega
          | cons_cons _ k => exact absurd rfl e

/-- An edit: 1 keeps a line, 2 takes it out, 3 puts it in. -/
def edRow (x : α) (xs : List α) (f : List α → List (Nat × α)) : List α → List (Nat × α)
  | [] => (2, x) :: f []
  | y :: ys => if x = y then (1, x) :: f ys else if lc (x :: xs) ys ≤ lc xs (y :: ys) then (2, x) :: f (y :: ys) else (3, y) :: edRow x xs f ys

def ed : List α → List α → List (Nat × α)
  | [] => fun ys => ys.map fun y => (3, y)
  | x :: xs => edRow x xs (ed xs)

theorem ed_nil_cons (y : α) (ys : List α) : ed [] (y :: ys) = (3, y) :: ed [] ys := rfl
theorem ed_cons_nil (x : α) (xs : List α) : ed (x :: xs) [] = (2, x) :: ed xs [] := rfl
theorem ed_cons (x y : α) (xs ys : List α) : ed (x :: xs) (y :: ys) = if x = y then (1, x) :: ed xs ys else if lc (x :: xs) ys ≤ lc xs (y :: ys) then (2, x) :: ed xs (y :: ys) else (3, y) :: ed (x :: xs) ys := rfl

/-- What is kept or taken out; what is kept or put in; how many do something. -/
def edA (l : List (Nat × α)) : List α := (l.filter fun e => e.1 != 3).map (·.2)
def edB (l : List (Nat × α)) : List α := (l.filter fun e => e.1 != 2).map (·.2)
def edCost (l : List (Nat × α)) : Nat := (l.filter fun e => e.1 != 1).length

omit [DecidableEq α] in
theorem edA_cons (k : Nat) (x : α) (l : List (Nat × α)) : edA ((k, x) :: l) = if k = 3 then edA l else x :: edA l := by
  unfold edA
  rw [List.filter_cons]
  by_cases h : k = 3 <;> simp [h]
omit [DecidableEq α] in
theorem edB_cons (k : Nat) (x : α) (l : List (Nat × α)) : edB ((k, x) :: l) = if k = 2 then edB l else x :: edB l := by
  unfold edB
  rw [List.filter_cons]
  by_cases h : k = 2 <;> simp [h]
omit [DecidableEq α] in
theorem edCost_cons (k : Nat) (x : α) (l : List (Nat × α)) : edCost ((k, x) :: l) = (if k = 1 then 0 else 1) + edCost l := by
  unfold edCost
  rw [List.filter_cons]
  by_cases h : k = 1 <;> simp [h]
  omega

theorem ed_all (xs : List α) : ∀ ys : List α, edA (ed xs ys) = xs ∧ edB (ed xs ys) = ys ∧ edCost (ed xs ys) + 2 * lc xs ys = xs.length + ys.length := by
  induction xs with
  | nil =>
    intro ys
    induction ys with
    | nil => exact ⟨rfl, rfl, rfl⟩
    | cons y ys ih =>
      obtain ⟨h1, h2, h3⟩ := ih
      rw [ed_nil_cons, edA_cons, edB_cons, edCost_cons, h1, h2, lc_nil_left]
      rw [lc_nil_left] at h3
      exact ⟨rfl, rfl, by simp at *; omega⟩
  | cons x xs ih =>
    intro ys
    induction ys with
    | nil =>
      obtain ⟨h1, h2, h3⟩ := ih []
      rw [ed_cons_nil, edA_cons, edB_cons, edCost_cons, h1, h2, lc_nil_right]
      rw [lc_nil_right] at h3
      exact ⟨rfl, rfl, by simp at *; omega⟩
    | cons y ys ih2 =>
      rw [ed_cons, lc_cons]
      by_cases e : x = y
      · rw [if_pos e, if_pos e]
        subst e
        obtain ⟨h1, h2, h3⟩ := ih ys
        rw [edA_cons, edB_cons, edCost_cons, h1, h2]
        exact ⟨rfl, rfl, by simp at *; omega⟩
      · rw [if_neg e, if_neg e]
        split
        · obtain ⟨h1, h2, h3⟩ := ih (y :: ys)
          rw [edA_cons, edB_cons, edCost_cons, h1, h2]
          exact ⟨rfl, rfl, by simp at *; omega⟩
        · obtain ⟨h1, h2, h3⟩ := ih2
          rw [edA_cons, edB_cons, edCost_cons, h1, h2]
          exact ⟨rfl, rfl, by simp at *; omega⟩

/-- All is the same just if nothing is done. -/
theorem ed_cost_zero (xs ys : List α) : edCost (ed xs ys) = 0 ↔ xs = ys := by
  obtain ⟨h1, h2, h3⟩ := ed_all xs ys
  constructor
  · intro h
    have hall : ∀ e ∈ ed xs ys, e.1 = 1 := by
      intro e he
      unfold edCost at h
      have := List.eq_nil_of_length_eq_zero h
      rw [List.filter_eq_nil_iff] at this
      have := this e he
      simpa using this
    unfold edA at h1
    unfold edB at h2
    rw [List.filter_eq_self.2 (fun e he => by simp [hall e he])] at h1 h2
    exact h1.symm.trans h2
  · rintro rfl
    have := lc_ge xs xs xs (List.Sublist.refl _) (List.Sublist.refl _)
    have := lc_le_left xs xs
    omega

/-- Behind what has been done so far, at the places i and j. -/
theorem ed_keep {xs ys : List α} {i j : Nat} {x y : α} (hx : xs[i]? = some x) (hy : ys[j]? = some y) (e : x = y) : ed (xs.drop i) (ys.drop j) = (1, x) :: ed (xs.drop (i + 1)) (ys.drop (j + 1)) := by
  obtain ⟨hi, rfl⟩ := List.getElem?_eq_some_iff.1 hx
  obtain ⟨hj, rfl⟩ := List.getElem?_eq_some_iff.1 hy
  rw [List.drop_eq_getElem_cons hi, List.drop_eq_getElem_cons hj, ed_cons, if_pos e]
theorem ed_else {xs ys : List α} {i j : Nat} {x y : α} (hx : xs[i]? = some x) (hy : ys[j]? = some y) (e : x ≠ y) :
    ed (xs.drop i) (ys.drop j) = if lc (xs.drop i) (ys.drop (j + 1)) ≤ lc (xs.drop (i + 1)) (ys.drop j) then (2, x) :: ed (xs.drop (i + 1)) (ys.drop j) else (3, y) :: ed (xs.drop i) (ys.drop (j + 1)) := by
  obtain ⟨hi, rfl⟩ := List.getElem?_eq_some_iff.1 hx
  obtain ⟨hj, rfl⟩ := List.getElem?_eq_some_iff.1 hy
  rw [List.drop_eq_getElem_cons hi, List.drop_eq_getElem_cons hj, ed_cons, if_neg e]
theorem ed_end_a {xs ys : List α} {j : Nat} {y : α} (hy : ys[j]? = some y) : ed (xs.drop xs.length) (ys.drop j) = (3, y) :: ed (xs.drop xs.length) (ys.drop (j + 1)) := by
  obtain ⟨hj, rfl⟩ := List.getElem?_eq_some_iff.1 hy
  rw [List.drop_length, List.drop_eq_getElem_cons hj, ed_nil_cons]
theorem ed_end_b {xs ys : List α} {i : Nat} {x : α} (hx : xs[i]? = some x) : ed (xs.drop i) (ys.drop ys.length) = (2, x) :: ed (xs.drop (i + 1)) (ys.drop ys.length) := by
  obtain ⟨hi, rfl⟩ := List.getElem?_eq_some_iff.1 hx
  rw [List.drop_length, List.drop_eq_getElem_cons hi, ed_cons_nil]
theorem lc_step {xs ys : List α} {i j : Nat} {x y : α} (hx : xs[i]? = some x) (hy : ys[j]? = some y) :
    lc (xs.drop i) (ys.drop j) = if x = y then lc (xs.drop (i + 1)) (ys.drop (j + 1)) + 1 else max (lc (xs.drop (i + 1)) (ys.drop j)) (lc (xs.drop i) (ys.drop (j + 1))) := by
  obtain ⟨hi, rfl⟩ := List.getElem?_eq_some_iff.1 hx
  obtain ⟨hj, rfl⟩ := List.getElem?_eq_some_iff.1 hy
  rw [List.drop_eq_getElem_cons hi, List.drop_eq_getElem_cons hj, lc_cons]

end Go.Proofs.YtapcnmnnichamaaGreatDoor.Mg

namespace Go.Proofs.YtapcnmnnichamaaGreatDoor.Mg
variable {α : Type} [DecidableEq α]

def plc (nb i j : Nat) : Nat := i * (nb + 1) + j

theorem plc_inj {nb i j p q : Nat} (hj : j ≤ nb) (hq : q ≤ nb) (h : plc nb i j = plc nb p q) : i = p ∧ j = q := by
  unfold plc at h
  have h1 : (i * (nb + 1) + j) / (nb + 1) = i := by
    rw [Nat.mul_comm, Nat.mul_add_div (by omega), Nat.div_eq_of_lt (by omega)]; omega
  have h2 : (p * (nb + 1) + q) / (nb + 1) = p := by
    rw [Nat.mul_comm, Nat.mul_add_div (by omega), Nat.div_eq_of_lt (by omega)]; omega
  have : i = p := by rw [← h1, ← h2, h]
  subst this
  exact ⟨rfl, by omega⟩

theorem plc_lt {na nb i j : Nat} (hi : i ≤ na) (hj : j ≤ nb) : plc nb i j < (na + 1) * (nb + 1) := by
  unfold plc
  have : (i + 1) * (nb + 1) ≤ (na + 1) * (nb + 1) := Nat.mul_le_mul_right _ (by omega)
  rw [Nat.add_mul] at this
  omega

/-- Rows from k on are filled, of the row ahead of k the columns from m on; the last column is. -/
def Tab (xs ys : List α) (k m : Nat) (cs : List Nat) : Prop :=
  cs.length = (xs.length + 1) * (ys.length + 1) ∧
  ∀ i j, i ≤ xs.length → j ≤ ys.length → (k ≤ i ∨ j = ys.length ∨ (i + 1 = k ∧ m ≤ j)) → cs[plc ys.length i j]? = some (lc (xs.drop i) (ys.drop j))

theorem Tab.init (xs ys : List α) : Tab xs ys xs.length ys.length (List.replicate ((xs.length + 1) * (ys.length + 1)) 0) := by
  refine ⟨List.length_replicate, fun i j hi hj h => ?_⟩
  rw [List.getElem?_replicate, if_pos (plc_lt hi hj)]
  rcases h with h | h | ⟨_, h⟩
  · obtain rfl : i = xs.length := by omega
    rw [List.drop_length, lc_nil_left]
  · subst h
    rw [List.drop_length, lc_nil_right]
  · obtain rfl : j = ys.length := by omega
    rw [List.drop_length, lc_nil_right]

theorem Tab.step {xs ys : List α} {p q : Nat} {cs : List Nat} (h : Tab xs ys (p + 1) (q + 1) cs) (hp : p < xs.length) (hq : q < ys.length) :
    Tab xs ys (p + 1) q (cs.set (plc ys.length p q) (lc (xs.drop p) (ys.drop q))) := by
  refine ⟨by rw [List.length_set]; exact h.1, fun i j hi hj hh => ?_⟩
  by_cases e : plc ys.length p q = plc ys.length i j
  · obtain ⟨rfl, rfl⟩ := plc_inj (by omega) hj e
    rw [List.getElem?_set_self (by rw [h.1]; exact plc_lt hi hj)]
  · rw [List.getElem?_set_ne e]
    refine h.2 i j hi hj ?_
    rcases hh with hh | hh | ⟨h1, h2⟩
    · exact .inl hh
    · exact .inr (.inl hh)
    · refine .inr (.inr ⟨h1, ?_⟩)
      obtain rfl : i = p := by omega
      by_cases hjq : j = q
      · subst hjq; exact absurd rfl e
      · omega

theorem Tab.row {xs ys : List α} {p : Nat} {cs : List Nat} (h : Tab xs ys (p + 1) 0 cs) : Tab xs ys p ys.length cs := by
  refine ⟨h.1, fun i j hi hj hh => h.2 i j hi hj ?_⟩
  rcases hh with hh | hh | ⟨_, h2⟩
  · by_cases e : i = p
    · exact .inr (.inr ⟨by omega, Nat.zero_le _⟩)
    · exact .inl (by omega)
  · exact .inr (.inl hh)
  · exact .inr (.inl (by omega))

theorem Tab.at {xs ys : List α} {cs : List Nat} (h : Tab xs ys 0 ys.length cs) {i j : Nat} (hi : i ≤ xs.length) (hj : j ≤ ys.length) : cs[plc ys.length i j]? = some (lc (xs.drop i) (ys.drop j)) :=
  h.2 i j hi hj (.inl (Nat.zero_le _))

end Go.Proofs.YtapcnmnnichamaaGreatDoor.Mg

namespace Go.Proofs.YtapcnmnnichamaaGreatDoor.Mg
open Go.RowKit Go.Maps Go.WideMaps

theorem u16Info : (Tryz.prog.info? 230).map (fun i => (i.zero, i.size, i.bytes)) = some (some (.int .u16 0), 1, 2) := by kernel_rfl

theorem run_make_rowN {P : Program} (t e : TypeId) (i : TypeInfo) (z : Value) (ht : P.underlying t = some (.slice e)) (hi : P.info? e = some i) (hz : i.zero = some z)
    (kl kc : IntKind) (n c : Nat) (hnc : n ≤ c) (hbytes : i.bytes * c ≤ 281474976710656) (h63 : c ≤ 9223372036854775807) (w : World) :
    (Instr.makeSlice t (.int kl (n : Int)) (.int kc (c : Int))).run P w = .ok (.slice (some ⟨w.heap.size, 0, none⟩) n c) (w.alloc (.cells (madeCells z.cells (c * i.size)) e)) := by
  have hb : (i.bytes : Int) * (c : Int) ≤ 281474976710656 := by
    have h : ((i.bytes * c : Nat) : Int) ≤ 281474976710656 := by omega
    rwa [Int.natCast_mul] at h
  have hr := run_make (P := P) w t e i z ht hi hz kl kc n c (by omega) (by omega) hb (by omega)
  simp only [Int.toNat_natCast] at hr
  exact hr

theorem own_le {w : World} {base base' size n : Nat} {e : TypeId} {v : Value} {xs : List Value} (h : w.ownsRow base e size v n xs) (hb : base' ≤ base) : w.ownsRow base' e size v n xs := by
  refine ⟨h.1, ?_⟩
  rcases h.2 with h2 | ⟨g, cap, cur, hv, hg, r⟩
  · exact .inl h2
  · exact .inr ⟨g, cap, cur, hv, Nat.le_trans hb hg, r⟩

abbrev sl (g n : Nat) : Value := .slice (some ⟨g, 0, none⟩) n n
abbrev nils : Value := .slice none 0 0
def i64s (zs : List Nat) : List Value := zs.map fun z : Nat => Value.int .i64 (z : Int)
def u16s (cs : List Nat) : List Value := cs.map fun c : Nat => Value.int .u16 (c : Int)

/-- What stands while the rows are laid. -/
structure Pre (w0 w : World) (b4 bm : Nat) (v u : Value) (xs ys : List ByteArray) (N : Nat) (D : DataW Unit) : Prop where
  m : w.ownsMap Tryz.prog 9 (plainElem Tryz.prog 3) bm N D
  s : Strs w v xs
  t : Strs w u ys
  r : Three w b4 nils nils nils
  g : Below w0.heap.size w0 w
  l1 : w0.heap.size ≤ b4
  l2 : b4 < bm
  good : Good D

theorem Pre.below {w0 w w' : World} {b4 bm : Nat} {v u : Value} {xs ys : List ByteArray} {N : Nat} {D : DataW Unit} (h : Pre w0 w b4 bm v u xs ys N D) (hb : Below w.heap.size w w') : Pre w0 w' b4 bm v u xs ys N D :=
  ⟨h.m.kept (row := none) ⟨hb.os, hb.tape, hb.output, hb.size, fun k hk _ => hb.block k hk⟩ (by simp), h.s.below hb, h.t.below hb, h.r.below hb, h.g.trans (hb.mono h.g.size), h.l1, h.l2, h.good⟩

theorem Pre.alloc {w0 w : World} {b4 bm : Nat} {v u : Value} {xs ys : List ByteArray} {N : Nat} {D : DataW Unit} (h : Pre w0 w b4 bm v u xs ys N D) (o : Obj) : Pre w0 (w.alloc o) b4 bm v u xs ys N D :=
  h.below ((Below.refl _ _).alloc (Nat.le_refl _) o)
theorem Pre.drew {w0 w : World} {b4 bm : Nat} {v u : Value} {xs ys : List ByteArray} {N : Nat} {D : DataW Unit} (h : Pre w0 w b4 bm v u xs ys N D) : Pre w0 w.drew b4 bm v u xs ys N D :=
  h.below (Below.refl _ _).drew

/-- Behind the numbers of one text. -/
def Numb (w0 w : World) (b4 bm : Nat) (v u : Value) (xs ys : List ByteArray) (N : Nat) (D : DataW Unit) (ls : List ByteArray) (e : Ending) (w' : World) : Prop :=
  ∃ (g : Nat) (zs : List Nat) (D' : DataW Unit), e = .returned (sl g ls.length) ∧ w.heap.size ≤ g ∧ w'.ownsRow (b4 + 1) 3 1 (sl g ls.length) ls.length (i64s zs) ∧ Nums D' ls zs ∧ More D D' ∧ Pre w0 w' b4 bm v u xs ys (N + ls.length) D' ∧ w.grownBy w' (some bm)

theorem Pre.numb {w0 w w' : World} {b4 bm : Nat} {v u : Value} {xs ys : List ByteArray} {N : Nat} {D : DataW Unit} (h : Pre w0 w b4 bm v u xs ys N D) {ls : List ByteArray} {e : Ending} (k : Numbered w bm N D ls e w') :
    Numb w0 w b4 bm v u xs ys N D ls e w' := by
  obtain ⟨g, zs, D', rfl, hg, hrow, hG, hN, hM, hm, hgr⟩ := k
  obtain ⟨es, cl, hmap, _⟩ := id h.m
  have hb4 : some b4 ≠ some bm := fun e => by injection e with e; have := h.l2; omega
  have hblk := hgr.block b4 h.r.lt hb4
  have cc : ∀ i : Nat, w'.cell? ⟨b4, i, none⟩ = w.cell? ⟨b4, i, none⟩ := fun i => World.cell?_of_block (w := w) hblk
  have ff : ∀ i : Nat, w'.frozen? ⟨b4, i, none⟩ = w.frozen? ⟨b4, i, none⟩ := fun i => World.frozen?_of_block (w := w) hblk
  refine ⟨g, zs, D', rfl, hg, own_le hrow h.r.lt, hN, hM, ⟨hm, h.s.grown hgr hmap, h.t.grown hgr hmap,
    ⟨(cc 0).trans h.r.c0, (cc 1).trans h.r.c1, (cc 2).trans h.r.c2, (ff 0).trans h.r.z0, (ff 1).trans h.r.z1, (ff 2).trans h.r.z2, Nat.lt_of_lt_of_le h.r.lt hgr.size⟩,
    h.g.grown hgr h.g.size (fun k hk => ?_), h.l1, h.l2, hG⟩, hgr⟩
  injection hk with hk
  have := h.l1
  have := h.l2
  omega

theorem numb_first {w0 w : World} {b4 bm : Nat} {v u : Value} {xs ys : List ByteArray} {N : Nat} {D : DataW Unit} (h : Pre w0 w b4 bm v u xs ys N D) (hsz : ∀ s ∈ xs, s.size ≤ maxLen) (hn : xs.length ≤ 1000) (hN : N ≤ 1000) :
    Calls Tryz.prog 140 #[v, .map (some bm)] w (Numb w0 w b4 bm v u xs ys N D xs) :=
  (numbered_any w v xs bm N D h.s hsz hn hN h.m h.good).mono fun _ _ k => h.numb k
theorem numb_second {w0 w : World} {b4 bm : Nat} {v u : Value} {xs ys : List ByteArray} {N : Nat} {D : DataW Unit} (h : Pre w0 w b4 bm v u xs ys N D) (hsz : ∀ s ∈ ys, s.size ≤ maxLen) (hn : ys.length ≤ 1000) (hN : N ≤ 1000) :
    Calls Tryz.prog 140 #[u, .map (some bm)] w (Numb w0 w b4 bm v u xs ys N D ys) :=
  (numbered_any w u ys bm N D h.t hsz hn hN h.m h.good).mono fun _ _ k => h.numb k

/-- The grid in the call's own block, its rows, and the place of the result. -/
structure Laid (w0 w : World) (b4 G ga gb gr na nb R : Nat) (zs us cs : List Nat) : Prop where
  t : Three w G (sl ga na) (sl gb nb) (sl gr R)
  a : w.ownsRow (b4 + 1) 3 1 (sl ga na) na (i64s zs)
  b : w.ownsRow (b4 + 1) 3 1 (sl gb nb) nb (i64s us)
  r : w.ownsRow (b4 + 1) 230 1 (sl gr R) R (u16s cs)
  f : Three w b4 nils nils nils
  g : Below w0.heap.size w0 w
  nG : G ≠ gr
  nA : ga ≠ gr
  nB : gb ≠ gr
  n4 : b4 ≠ gr
  l1 : w0.heap.size ≤ b4

theorem own_keep {w w' : World} {base : Nat} {e : TypeId} {v : Value} {n : Nat} {xs : List Value} (h : w.ownsRow base e 1 v n xs) (hb : Below w.heap.size w w') : w'.ownsRow base e 1 v n xs :=
  h.kept (row := none) ⟨hb.os, hb.tape, hb.output, hb.size, fun k hk _ => hb.block k hk⟩ (by
    cases h' : v.ownBlock with
    | none => exact .inl rfl
    | some k => exact .inr (by simp))

theorem Laid.below {w0 w w' : World} {b4 G ga gb gr na nb R : Nat} {zs us cs : List Nat} (h : Laid w0 w b4 G ga gb gr na nb R zs us cs) (hb : Below w.heap.size w w') : Laid w0 w' b4 G ga gb gr na nb R zs us cs :=
  ⟨h.t.below hb, own_keep h.a hb, own_keep h.b hb, own_keep h.r hb, h.f.below hb, h.g.trans (hb.mono h.g.size), h.nG, h.nA, h.nB, h.n4, h.l1⟩

theorem Three.apart {w w' : World} {b g : Nat} {x y z : Value} (h : Three w b x y z) (hg : w.grownBy w' (some g)) (hne : b ≠ g) : Three w' b x y z := by
  have hblk := hg.block b h.lt (fun e => hne (by injection e))
  have cc : ∀ i : Nat, w'.cell? ⟨b, i, none⟩ = w.cell? ⟨b, i, none⟩ := fun i => World.cell?_of_block (w := w) hblk
  have ff : ∀ i : Nat, w'.frozen? ⟨b, i, none⟩ = w.frozen? ⟨b, i, none⟩ := fun i => World.frozen?_of_block (w := w) hblk
  exact ⟨(cc 0).trans h.c0, (cc 1).trans h.c1, (cc 2).trans h.c2, (ff 0).trans h.z0, (ff 1).trans h.z1, (ff 2).trans h.z2, Nat.lt_of_lt_of_le h.lt hg.size⟩

theorem Laid.store {w0 w : World} {b4 G ga gb gr na nb R : Nat} {zs us cs : List Nat} (h : Laid w0 w b4 G ga gb gr na nb R zs us cs) (p c : Nat) : Laid w0 (w.setCell ⟨gr, p, none⟩ (.int .u16 (c : Int))) b4 G ga gb gr na nb R zs us (cs.set p c) := by
  obtain ⟨hr, hg⟩ := h.r.stored p (.int .u16 (c : Int))
  have hset : (u16s cs).set p (.int .u16 (c : Int)) = u16s (cs.set p c) := by unfold u16s; rw [List.map_set]
  rw [hset] at hr
  have hl := (h.r.lt gr rfl).1
  have hl1 := h.l1
  exact ⟨h.t.apart hg h.nG, h.a.kept hg (.inr (by simp [Value.ownBlock, h.nA])), h.b.kept hg (.inr (by simp [Value.ownBlock, h.nB])), hr, h.f.apart hg h.n4, h.g.grown hg h.g.size (fun k hk => by injection hk with hk; omega), h.nG, h.nA, h.nB, h.n4, h.l1⟩

theorem Laid.cellA {w0 w : World} {b4 G ga gb gr na nb R : Nat} {zs us cs : List Nat} (h : Laid w0 w b4 G ga gb gr na nb R zs us cs) {i x : Nat} (hi : zs[i]? = some x) : w.cell? ⟨ga, i, none⟩ = some (.int .i64 (x : Int)) := by
  have hl := h.a.1
  have := (List.getElem?_eq_some_iff.1 hi).1
  rw [h.a.cellAt i (by rw [← hl]; simpa [i64s] using this)]
  simp [i64s, hi]
theorem Laid.cellB {w0 w : World} {b4 G ga gb gr na nb R : Nat} {zs us cs : List Nat} (h : Laid w0 w b4 G ga gb gr na nb R zs us cs) {i x : Nat} (hi : us[i]? = some x) : w.cell? ⟨gb, i, none⟩ = some (.int .i64 (x : Int)) := by
  have hl := h.b.1
  have := (List.getElem?_eq_some_iff.1 hi).1
  rw [h.b.cellAt i (by rw [← hl]; simpa [i64s] using this)]
  simp [i64s, hi]
theorem Laid.cellR {w0 w : World} {b4 G ga gb gr na nb R : Nat} {zs us cs : List Nat} (h : Laid w0 w b4 G ga gb gr na nb R zs us cs) {i x : Nat} (hi : cs[i]? = some x) : w.cell? ⟨gr, i, none⟩ = some (.int .u16 (x : Int)) := by
  have hl := h.r.1
  have := (List.getElem?_eq_some_iff.1 hi).1
  rw [h.r.cellAt i (by rw [← hl]; simpa [u16s] using this)]
  simp [u16s, hi]
theorem Laid.freeR {w0 w : World} {b4 G ga gb gr na nb R : Nat} {zs us cs : List Nat} (h : Laid w0 w b4 G ga gb gr na nb R zs us cs) (i : Nat) : w.frozen? ⟨gr, i, none⟩ = false := h.r.frozenAt i

/-- Behind the region that lays them. -/
def Mid (w0 : World) (b4 : Nat) (xs ys : List ByteArray) (R : Nat) (v : Value) (w : World) : Prop :=
  ∃ (G ga gb gr : Nat) (zs us : List Nat) (D : DataW Unit), v = .pointer (some ⟨G, 0, none⟩) ∧ Good D ∧ Nums D xs zs ∧ Nums D ys us ∧ Laid w0 w b4 G ga gb gr xs.length ys.length R zs us (List.replicate R 0)

theorem mid_close {w0 w : World} {b4 bm ga gb gr R N : Nat} {v u : Value} {xs ys : List ByteArray} {zs us : List Nat} {D : DataW Unit} (P : Pre w0 w b4 bm v u xs ys N D) (hz : Nums D xs zs) (hu : Nums D ys us)
    (ha : w.ownsRow (b4 + 1) 3 1 (sl ga xs.length) xs.length (i64s zs)) (hb : w.ownsRow (b4 + 1) 3 1 (sl gb ys.length) ys.length (i64s us)) (hr : w.ownsRow (b4 + 1) 230 1 (sl gr R) R (u16s (List.replicate R 0)))
    (nA : ga ≠ gr) (nB : gb ≠ gr) (n4 : b4 ≠ gr) : Mid w0 b4 xs ys R (.pointer (some ⟨w.heap.size, 0, none⟩)) (w.alloc (.cells #[sl ga xs.length, sl gb ys.length, sl gr R] 212)) := by
  have hlt := (hr.lt gr rfl).2
  have P2 := P.alloc (.cells #[sl ga xs.length, sl gb ys.length, sl gr R] 212)
  exact ⟨w.heap.size, ga, gb, gr, zs, us, D, rfl, P.good, hz, hu, Three.new w _ _ _ 212, ha.alloc _, hb.alloc _, hr.alloc _, P2.r, P2.g, by omega, nA, nB, n4, P.l1⟩

theorem made_row (w : World) (base R : Nat) (hb : base ≤ w.heap.size) (hR : R ≤ maxLen) : (w.alloc (.cells (madeCells (Value.int .u16 0).cells R) 230)).ownsRow base 230 1 (sl w.heap.size R) R (u16s (List.replicate R 0)) := by
  have h := World.ownsRow_lit (base := base) (e := 230) (size := 1) w (madeCells (Value.int .u16 0).cells R) R hb hR (by rw [size_madeCells]; omega)
  have e : (madeCells (Value.int .u16 0).cells R).toList = u16s (List.replicate R 0) := by
    have := toList_madeCells_one (.int .u16 0) R
    simpa [u16s, Value.cells] using this
  rw [e] at h
  exact h

end Go.Proofs.YtapcnmnnichamaaGreatDoor.Mg

namespace Go.Proofs.YtapcnmnnichamaaGreatDoor.Mg
open Go.RowKit Go.Maps Go.WideMaps

theorem own_ne_map {w : World} {base : Nat} {e : TypeId} {g n : Nat} {xs : List Value} (h : w.ownsRow base e 1 (sl g n) n xs) {K : TypeId} {R : Value → Option (DataW Unit × List MemPlace)} {bm N : Nat} {D : DataW Unit} (m : w.ownsMap Tryz.prog K R bm N D) : g ≠ bm := by
  rintro rfl
  obtain ⟨es, cl, hmap, _⟩ := m
  rcases h.2 with ⟨h', _⟩ | ⟨g', cap, cur, h', _, hg, _⟩
  · cases h'
  · injection h' with h1
    injection h1 with h1
    injection h1 with h1
    subst h1
    rw [hmap] at hg
    cases hg

theorem three_ne_map {w : World} {b : Nat} {x y z : Value} (h : Three w b x y z) {K : TypeId} {R : Value → Option (DataW Unit × List MemPlace)} {bm N : Nat} {D : DataW Unit} (m : w.ownsMap Tryz.prog K R bm N D) : b ≠ bm := by
  rintro rfl
  obtain ⟨es, cl, hmap, _⟩ := m
  have := h.c0
  unfold World.cell? at this
  simp [hmap] at this

structure St (w0 w : World) (b4 bm : Nat) (v u : Value) (xs ys : List ByteArray) (R N : Nat) (D : DataW Unit) (oa ob : Option (Nat × List Nat)) (og oG : Option Nat) : Prop where
  p : Pre w0 w b4 bm v u xs ys N D
  hR : R ≤ maxLen
  fa : ∀ g zs, oa = some (g, zs) → w.ownsRow (b4 + 1) 3 1 (sl g xs.length) xs.length (i64s zs) ∧ Nums D xs zs ∧ og ≠ some g ∧ oG ≠ some g
  fb : ∀ g zs, ob = some (g, zs) → w.ownsRow (b4 + 1) 3 1 (sl g ys.length) ys.length (i64s zs) ∧ Nums D ys zs ∧ og ≠ some g ∧ oG ≠ some g
  fr : ∀ g, og = some g → w.ownsRow (b4 + 1) 230 1 (sl g R) R (u16s (List.replicate R 0)) ∧ b4 ≠ g
  fG : ∀ g, oG = some g → Three w g nils nils nils ∧ og ≠ some g ∧ w0.heap.size ≤ g ∧ b4 ≠ g

theorem st_start {w0 w : World} {b4 bm : Nat} {v u : Value} {xs ys : List ByteArray} {R N : Nat} {D : DataW Unit} (p : Pre w0 w b4 bm v u xs ys N D) (hR : R ≤ maxLen) : St w0 w b4 bm v u xs ys R N D none none none none :=
  ⟨p, hR, fun _ _ h => (by cases h), fun _ _ h => (by cases h), fun _ h => (by cases h), fun _ h => (by cases h)⟩

variable {w0 w : World} {b4 bm : Nat} {v u : Value} {xs ys : List ByteArray} {R N : Nat} {D : DataW Unit} {oa ob : Option (Nat × List Nat)} {og oG : Option Nat}

theorem own_lt {w : World} {base : Nat} {e : TypeId} {g n : Nat} {xs : List Value} (h : w.ownsRow base e 1 (sl g n) n xs) : g < w.heap.size := (h.lt g rfl).2

theorem St.drew (h : St w0 w b4 bm v u xs ys R N D oa ob og oG) : St w0 w.drew b4 bm v u xs ys R N D oa ob og oG :=
  ⟨h.p.drew, h.hR, h.fa, h.fb, h.fr, fun g e => ⟨(h.fG g e).1.below (Below.refl _ _).drew, (h.fG g e).2⟩⟩

theorem St.make (h : St w0 w b4 bm v u xs ys R N D oa ob none oG) : St w0 (w.alloc (.cells (madeCells #[.int .u16 0] R) 230)) b4 bm v u xs ys R N D oa ob (some w.heap.size) oG := by
  have E := (Below.refl w.heap.size w).alloc (Nat.le_refl _) (.cells (madeCells #[.int .u16 0] R) 230)
  refine ⟨h.p.below E, h.hR, fun g zs e => ?_, fun g zs e => ?_, fun g e => ?_, fun g e => ?_⟩
  · obtain ⟨h1, h2, _, h4⟩ := h.fa g zs e
    have := own_lt h1
    exact ⟨h1.alloc _, h2, fun e => (by injection e with e; omega), h4⟩
  · obtain ⟨h1, h2, _, h4⟩ := h.fb g zs e
    have := own_lt h1
    exact ⟨h1.alloc _, h2, fun e => (by injection e with e; omega), h4⟩
  · injection e with e
    subst e
    have := h.p.r.lt
    exact ⟨made_row w _ R h.p.r.lt h.hR, by omega⟩
  · obtain ⟨h1, _, h3, h4⟩ := h.fG g e
    have := h1.lt
    exact ⟨h1.below E, fun e => (by injection e with e; omega), h3, h4⟩

theorem St.lay (h : St w0 w b4 bm v u xs ys R N D oa ob og none) : St w0 (w.alloc (.cells #[.slice none 0 0, .slice none 0 0, .slice none 0 0] 212)) b4 bm v u xs ys R N D oa ob og (some w.heap.size) := by
  have E := (Below.refl w.heap.size w).alloc (Nat.le_refl _) (.cells #[.slice none 0 0, .slice none 0 0, .slice none 0 0] 212)
  refine ⟨h.p.below E, h.hR, fun g zs e => ?_, fun g zs e => ?_, fun g e => ?_, fun g e => ?_⟩
  · obtain ⟨h1, h2, h3, _⟩ := h.fa g zs e
    have := own_lt h1
    exact ⟨h1.alloc _, h2, h3, fun e => (by injection e with e; omega)⟩
  · obtain ⟨h1, h2, h3, _⟩ := h.fb g zs e
    have := own_lt h1
    exact ⟨h1.alloc _, h2, h3, fun e => (by injection e with e; omega)⟩
  · obtain ⟨h1, h2⟩ := h.fr g e
    exact ⟨h1.alloc _, h2⟩
  · injection e with e
    subst e
    have := h.p.r.lt
    refine ⟨Three.new w _ _ _ 212, fun e => ?_, h.p.g.size, by omega⟩
    have := own_lt (h.fr _ e).1
    omega

theorem St.kept {w' : World} (h : St w0 w b4 bm v u xs ys R N D oa ob og oG) {D' : DataW Unit} {N' : Nat} (p : Pre w0 w' b4 bm v u xs ys N' D') (hM : More D D') (hg : w.grownBy w' (some bm)) : St w0 w' b4 bm v u xs ys R N' D' oa ob og oG := by
  refine ⟨p, h.hR, fun g zs e => ?_, fun g zs e => ?_, fun g e => ?_, fun g e => ?_⟩
  · obtain ⟨h1, h2, h3⟩ := h.fa g zs e
    exact ⟨h1.kept hg (.inr (by simp [Value.ownBlock, own_ne_map h1 h.p.m])), h2.more hM, h3⟩
  · obtain ⟨h1, h2, h3⟩ := h.fb g zs e
    exact ⟨h1.kept hg (.inr (by simp [Value.ownBlock, own_ne_map h1 h.p.m])), h2.more hM, h3⟩
  · obtain ⟨h1, h3⟩ := h.fr g e
    exact ⟨h1.kept hg (.inr (by simp [Value.ownBlock, own_ne_map h1 h.p.m])), h3⟩
  · obtain ⟨h1, h3, h4, h5⟩ := h.fG g e
    exact ⟨h1.apart hg (three_ne_map h1 h.p.m), h3, h4, h5⟩

/-- Behind the first text's numbers. -/
def Call1 (w0 : World) (b4 bm : Nat) (v u : Value) (xs ys : List ByteArray) (R N : Nat) (ob : Option (Nat × List Nat)) (og oG : Option Nat) (e : Ending) (w' : World) : Prop :=
  ∃ (ga : Nat) (zs : List Nat) (D : DataW Unit), e = .returned (.slice (some ⟨ga, 0, none⟩) xs.length xs.length) ∧ St w0 w' b4 bm v u xs ys R N D (some (ga, zs)) ob og oG
def Call2 (w0 : World) (b4 bm : Nat) (v u : Value) (xs ys : List ByteArray) (R N : Nat) (oa : Option (Nat × List Nat)) (og oG : Option Nat) (e : Ending) (w' : World) : Prop :=
  ∃ (gb : Nat) (zs : List Nat) (D : DataW Unit), e = .returned (.slice (some ⟨gb, 0, none⟩) ys.length ys.length) ∧ St w0 w' b4 bm v u xs ys R N D oa (some (gb, zs)) og oG

theorem st_call1 (h : St w0 w b4 bm v u xs ys R N D oa ob og oG) (hsz : ∀ s ∈ xs, s.size ≤ maxLen) (hn : xs.length ≤ 1000) (hN : N ≤ 1000) :
    Calls Tryz.prog 140 #[v, .map (some bm)] w (Call1 w0 b4 bm v u xs ys R (N + xs.length) ob og oG) :=
  (numb_first h.p hsz hn hN).mono fun e w' k => by
    obtain ⟨ga, zs, D1, he, hga, hra, hNa, hMa, P1, hg1⟩ := k
    have k := h.kept P1 hMa hg1
    refine ⟨ga, zs, D1, he, ⟨k.p, k.hR, fun g us e => ?_, k.fb, k.fr, k.fG⟩⟩
    injection e with e
    injection e with e1 e2
    subst e1; subst e2
    refine ⟨hra, hNa, fun e => ?_, fun e => ?_⟩
    · have := own_lt (h.fr _ e).1
      omega
    · have := (h.fG _ e).1.lt
      omega

theorem st_call2 (h : St w0 w b4 bm v u xs ys R N D oa ob og oG) (hsz : ∀ s ∈ ys, s.size ≤ maxLen) (hn : ys.length ≤ 1000) (hN : N ≤ 1000) :
    Calls Tryz.prog 140 #[u, .map (some bm)] w (Call2 w0 b4 bm v u xs ys R (N + ys.length) oa og oG) :=
  (numb_second h.p hsz hn hN).mono fun e w' k => by
    obtain ⟨ga, zs, D1, he, hga, hra, hNa, hMa, P1, hg1⟩ := k
    have k := h.kept P1 hMa hg1
    refine ⟨ga, zs, D1, he, ⟨k.p, k.hR, k.fa, fun g us e => ?_, k.fr, k.fG⟩⟩
    injection e with e
    injection e with e1 e2
    subst e1; subst e2
    refine ⟨hra, hNa, fun e => ?_, fun e => ?_⟩
    · have := own_lt (h.fr _ e).1
      omega
    · have := (h.fG _ e).1.lt
      omega

theorem set_same {w : World} {a : Addr} {u v : Value} (h : w.cell? a = some u) : (w.setCell a v).cell? a = some v := World.cell?_setCell_same' w a v (by simp [h])

/-- The grid is filled. -/
theorem three_fill {w : World} {b : Nat} {x y z : Value} (h : Three w b x y z) (x' y' z' : Value) : Three (((w.setCell ⟨b, 0, none⟩ x').setCell ⟨b, 1, none⟩ y').setCell ⟨b, 2, none⟩ z') b x' y' z' := by
  have h1 : (w.setCell ⟨b, 0, none⟩ x').cell? ⟨b, 1, none⟩ = some y := by rw [World.cell?_setCell_other _ _ _ _ (by simp)]; exact h.c1
  have h2 : ((w.setCell ⟨b, 0, none⟩ x').setCell ⟨b, 1, none⟩ y').cell? ⟨b, 2, none⟩ = some z := by rw [World.cell?_setCell_other _ _ _ _ (by simp), World.cell?_setCell_other _ _ _ _ (by simp)]; exact h.c2
  refine ⟨?_, ?_, set_same h2, ?_, ?_, ?_, ?_⟩
  · rw [World.cell?_setCell_other _ _ _ _ (by simp), World.cell?_setCell_other _ _ _ _ (by simp)]; exact set_same h.c0
  · rw [World.cell?_setCell_other _ _ _ _ (by simp)]; exact set_same h1
  · simp [h.z0]
  · simp [h.z1]
  · simp [h.z2]
  · simpa [World.setCell] using h.lt

theorem grown_fill (w : World) (b : Nat) (x' y' z' : Value) : w.grownBy (((w.setCell ⟨b, 0, none⟩ x').setCell ⟨b, 1, none⟩ y').setCell ⟨b, 2, none⟩ z') (some b) := by
  refine ⟨rfl, rfl, rfl, by simp [World.setCell], fun k _ hne => ?_⟩
  have hk : k ≠ b := fun e => hne (by rw [e])
  rw [Below.heap_setCell _ _ _ _ hk, Below.heap_setCell _ _ _ _ hk, Below.heap_setCell _ _ _ _ hk]

/-- The grid's cells are written where it was laid first. -/
theorem st_close {ga gb gr G : Nat} {zs us : List Nat} (h : St w0 w b4 bm v u xs ys R N D (some (ga, zs)) (some (gb, us)) (some gr) (some G)) :
    Mid w0 b4 xs ys R (.pointer (some ⟨G, 0, none⟩)) (((w.setCell ⟨G, 0, none⟩ (.slice (some ⟨ga, 0, none⟩) xs.length xs.length)).setCell ⟨G, 1, none⟩ (.slice (some ⟨gb, 0, none⟩) ys.length ys.length)).setCell ⟨G, 2, none⟩ (.slice (some ⟨gr, 0, none⟩) R R)) := by
  obtain ⟨a1, a2, a3, a4⟩ := h.fa _ _ rfl
  obtain ⟨b1, b2, b3, b5⟩ := h.fb _ _ rfl
  obtain ⟨r1, r2⟩ := h.fr _ rfl
  obtain ⟨G1, G2, G3, G4⟩ := h.fG _ rfl
  have hg := grown_fill w G (sl ga xs.length) (sl gb ys.length) (sl gr R)
  exact ⟨G, ga, gb, gr, zs, us, D, rfl, h.p.good, a2, b2, three_fill G1 _ _ _, a1.kept hg (.inr (by simpa [Value.ownBlock] using fun e : ga = G => a4 (by rw [e]))), b1.kept hg (.inr (by simpa [Value.ownBlock] using fun e : gb = G => b5 (by rw [e]))),
    r1.kept hg (.inr (by simpa [Value.ownBlock] using fun e : gr = G => G2 (by rw [e]))), h.p.r.apart hg G4, h.p.g.grown hg h.p.g.size (fun k hk => by injection hk with hk; omega), fun e => G2 (by rw [e]), fun e => a3 (by rw [e]), fun e => b3 (by rw [e]), r2, h.p.l1⟩

/-- The grid is laid last, whole. -/
theorem st_close_whole {ga gb gr : Nat} {zs us : List Nat} (h : St w0 w b4 bm v u xs ys R N D (some (ga, zs)) (some (gb, us)) (some gr) none) :
    Mid w0 b4 xs ys R (.pointer (some ⟨w.heap.size, 0, none⟩)) (w.alloc (.cells #[.slice (some ⟨ga, 0, none⟩) xs.length xs.length, .slice (some ⟨gb, 0, none⟩) ys.length ys.length, .slice (some ⟨gr, 0, none⟩) R R] 212)) := by
  obtain ⟨a1, a2, a3, a4⟩ := h.fa _ _ rfl
  obtain ⟨b1, b2, b3, b5⟩ := h.fb _ _ rfl
  obtain ⟨r1, r2⟩ := h.fr _ rfl
  exact mid_close h.p a2 b2 a1 b1 r1 (fun e => a3 (by rw [e])) (fun e => b3 (by rw [e])) r2

theorem Three.far {w : World} {b g : Nat} {x y z : Value} (h : Three w b x y z) (hne : b ≠ g) (p : Nat) (v : Value) : Three (w.setCell ⟨g, p, none⟩ v) b x y z :=
  h.apart (g := g) ⟨rfl, rfl, rfl, by simp [World.setCell], fun k _ hk => Below.heap_setCell _ _ _ _ (fun e => hk (by rw [e]))⟩ hne

/-- The table is made last, behind the grid that is laid whole. -/
theorem st_close_make {ga gb : Nat} {zs us : List Nat} (h : St w0 w b4 bm v u xs ys R N D (some (ga, zs)) (some (gb, us)) none none) :
    Mid w0 b4 xs ys R (.pointer (some ⟨w.heap.size, 0, none⟩)) ((w.alloc (.cells #[.slice (some ⟨ga, 0, none⟩) xs.length xs.length, .slice (some ⟨gb, 0, none⟩) ys.length ys.length, .slice (some ⟨w.heap.size + 1, 0, none⟩) R R] 212)).alloc (.cells (madeCells #[.int .u16 0] R) 230)) := by
  obtain ⟨a1, a2, a3, a4⟩ := h.fa _ _ rfl
  obtain ⟨b1, b2, b3, b5⟩ := h.fb _ _ rfl
  have la := own_lt a1
  have lb := own_lt b1
  have l4 := h.p.r.lt
  have T := Three.new w (sl ga xs.length) (sl gb ys.length) (sl (w.heap.size + 1) R) 212
  have p1 := h.p.alloc (.cells #[sl ga xs.length, sl gb ys.length, sl (w.heap.size + 1) R] 212)
  have hz : (w.alloc (.cells #[sl ga xs.length, sl gb ys.length, sl (w.heap.size + 1) R] 212)).heap.size = w.heap.size + 1 := by simp
  have m := made_row (w.alloc (.cells #[sl ga xs.length, sl gb ys.length, sl (w.heap.size + 1) R] 212)) (b4 + 1) R p1.r.lt h.hR
  rw [hz] at m
  exact ⟨w.heap.size, ga, gb, w.heap.size + 1, zs, us, D, rfl, h.p.good, a2, b2, T.below ((Below.refl _ _).alloc (Nat.le_refl _) _), (a1.alloc _).alloc _, (b1.alloc _).alloc _, m, (p1.alloc _).r, (p1.alloc _).g, by omega, by omega, by omega, by omega, h.p.l1⟩

/-- The table is made last, behind the grid that is written where it was laid. -/
theorem st_close_late {ga gb G : Nat} {zs us : List Nat} (h : St w0 w b4 bm v u xs ys R N D (some (ga, zs)) (some (gb, us)) none (some G)) :
    Mid w0 b4 xs ys R (.pointer (some ⟨G, 0, none⟩)) ((((w.setCell ⟨G, 0, none⟩ (.slice (some ⟨ga, 0, none⟩) xs.length xs.length)).setCell ⟨G, 1, none⟩ (.slice (some ⟨gb, 0, none⟩) ys.length ys.length)).setCell ⟨G, 2, none⟩ (.slice (some ⟨w.heap.size, 0, none⟩) R R)).alloc (.cells (madeCells #[.int .u16 0] R) 230)) := by
  obtain ⟨a1, a2, a3, a4⟩ := h.fa _ _ rfl
  obtain ⟨b1, b2, b3, b5⟩ := h.fb _ _ rfl
  obtain ⟨G1, G2, G3, G4⟩ := h.fG _ rfl
  have la := own_lt a1
  have lb := own_lt b1
  have lG := G1.lt
  have l4 := h.p.r.lt
  have hg := grown_fill w G (sl ga xs.length) (sl gb ys.length) (sl w.heap.size R)
  have hT := three_fill G1 (sl ga xs.length) (sl gb ys.length) (sl w.heap.size R)
  have hz : (((w.setCell ⟨G, 0, none⟩ (sl ga xs.length)).setCell ⟨G, 1, none⟩ (sl gb ys.length)).setCell ⟨G, 2, none⟩ (sl w.heap.size R)).heap.size = w.heap.size := by simp [World.setCell]
  have a5 := a1.kept hg (.inr (by simpa [Value.ownBlock] using fun e : ga = G => a4 (by rw [e])))
  have b6 := b1.kept hg (.inr (by simpa [Value.ownBlock] using fun e : gb = G => b5 (by rw [e])))
  have r6 := h.p.r.apart hg G4
  have g6 := h.p.g.grown hg h.p.g.size (fun k hk => by injection hk with hk; omega)
  have E := (Below.refl _ (((w.setCell ⟨G, 0, none⟩ (sl ga xs.length)).setCell ⟨G, 1, none⟩ (sl gb ys.length)).setCell ⟨G, 2, none⟩ (sl w.heap.size R))).alloc (Nat.le_refl _) (.cells (madeCells #[.int .u16 0] R) 230)
  have m := made_row (((w.setCell ⟨G, 0, none⟩ (sl ga xs.length)).setCell ⟨G, 1, none⟩ (sl gb ys.length)).setCell ⟨G, 2, none⟩ (sl w.heap.size R)) (b4 + 1) R r6.lt h.hR
  rw [hz] at m
  exact ⟨G, ga, gb, w.heap.size, zs, us, D, rfl, h.p.good, a2, b2, hT.below E, a5.alloc _, b6.alloc _, m, r6.below E, g6.trans (E.mono g6.size), by omega, by omega, by omega, by omega, h.p.l1⟩

end Go.Proofs.YtapcnmnnichamaaGreatDoor.Mg

namespace Go.Proofs.YtapcnmnnichamaaGreatDoor.Mg
open Go.RowKit Go.Maps Go.WideMaps

/-- The grid that measure answers: the lines' numbers, and the whole table. -/
def Measured (w : World) (xs ys : List ByteArray) (e : Ending) (w' : World) : Prop :=
  ∃ (ga gb gr R : Nat) (zs us cs : List Nat) (D : DataW Unit), e = .returned (.agg #[sl ga xs.length, sl gb ys.length, sl gr R]) ∧ R = (xs.length + 1) * (ys.length + 1) ∧ Good D ∧ Nums D xs zs ∧ Nums D ys us ∧
    w'.ownsRow (w.heap.size + 1) 3 1 (sl ga xs.length) xs.length (i64s zs) ∧ w'.ownsRow (w.heap.size + 1) 3 1 (sl gb ys.length) ys.length (i64s us) ∧
    w'.ownsRow (w.heap.size + 1) 230 1 (sl gr R) R (u16s cs) ∧ Tab xs ys 0 ys.length cs ∧ Below w.heap.size w w'

set_option maxRecDepth 100000 in
set_option maxHeartbeats 2000000 in
theorem measure_any (w : World) (v u : Value) (xs ys : List ByteArray) (h : Strs w v xs) (g : Strs w u ys) (hx : ∀ s ∈ xs, s.size ≤ maxLen) (hy : ∀ s ∈ ys, s.size ≤ maxLen) (hxl : xs.length ≤ 256) (hyl : ys.length ≤ 256) :
    Calls Tryz.prog 126 #[v, u] w (Measured w xs ys) := by
  obtain ⟨A, n, c, rfl⟩ := h.form
  obtain ⟨B, m, d, rfl⟩ := g.form
  obtain rfl := h.len.1
  obtain rfl := g.len.1
  obtain ⟨i0, hi, hz0, hz1, hz2⟩ := info_parts u16Info
  have hR : (xs.length + 1) * (ys.length + 1) ≤ 100000 := by
    have := Nat.mul_le_mul (show xs.length + 1 ≤ 257 by omega) (show ys.length + 1 ≤ 257 by omega)
    omega
  have hmk := fun W => run_make_rowN (P := Tryz.prog) 210 230 i0 (.int .u16 0) Tryz.underlying210 hi hz0 .i64 .i64 ((xs.length + 1) * (ys.length + 1)) ((xs.length + 1) * (ys.length + 1)) (Nat.le_refl _) (by rw [hz2]; omega) (by omega) W
  simp only [hz1, Nat.mul_one] at hmk
  have e1 : IntKind.i64.wrap ((xs.length : Int) + 1) = (xs.length : Int) + 1 := IntWalk.i64_in _ (by omega)
  have e2 : IntKind.i64.wrap ((ys.length : Int) + 1) = (ys.length : Int) + 1 := IntWalk.i64_in _ (by omega)
  have e3 : IntKind.i64.wrap (((xs.length : Int) + 1) * ((ys.length : Int) + 1)) = (((xs.length + 1) * (ys.length + 1) : Nat) : Int) := by
    rw [show ((xs.length : Int) + 1) * ((ys.length : Int) + 1) = (((xs.length + 1) * (ys.length + 1) : Nat) : Int) by simp]
    exact IntWalk.i64_in _ (by omega)
  have HR : Hid ((xs.length + 1) * (ys.length + 1) = (xs.length + 1) * (ys.length + 1)) := rfl
  generalize hRR : (xs.length + 1) * (ys.length + 1) = R at *
  have HRR := Lib.hid hRR
  clear hRR
  have hmap := @run_makeMap Tryz.prog
  have P0 : Pre w ((w.alloc (.cells #[nils, nils, nils] 212)).alloc (.map #[] 0)) w.heap.size (w.heap.size + 1) (.slice A xs.length c) (.slice B ys.length d) xs ys 0 (.map []) := by
    have E := ((Below.refl w.heap.size w).alloc (Nat.le_refl _) (.cells #[nils, nils, nils] 212)).alloc (by simp) (.map #[] 0)
    have hm := World.ownsMap_made (H := Unit) (w.alloc (.cells #[nils, nils, nils] 212)) Tryz.prog 9 (plainElem Tryz.prog 3)
    exact ⟨by simpa using hm, h.below E, g.below E, (Three.new w nils nils nils 212).below ((Below.refl _ _).alloc (Nat.le_refl _) _), E, Nat.le_refl _, by omega, good_empty⟩
  have HX := Lib.hid hx
  have HY := Lib.hid hy
  clear h g hx hy
  go_enter Tryz.func126, Tryz.ntmps126
  go_upto_region 2 with fail
  have hmz : (w.alloc (.cells #[nils, nils, nils] 212)).heap.size = w.heap.size + 1 := by simp
  have hW0 : w.heap.size + 1 < ((w.alloc (.cells #[nils, nils, nils] 212)).alloc (.map #[] 0)).heap.size := by simp
  generalize (w.alloc (.cells #[nils, nils, nils] 212)).alloc (.map #[] 0) = W0 at *
  obtain ⟨b4, hb4⟩ : ∃ b, b = w.heap.size := ⟨_, rfl⟩
  obtain ⟨bm, hbm⟩ : ∃ b, b = w.heap.size + 1 := ⟨_, rfl⟩
  rw [← hbm] at hW0 P0 ⊢
  rw [← hb4] at P0 ⊢
  have HB4 := Lib.hid hb4
  have HBM := Lib.hid hbm
  clear hmz hb4 hbm hmap
  go_cut [6] (fun x6 wx => Mid w b4 xs ys R x6 wx)
  case first =>
    have S0 := st_start (R := R) P0 (by unfold maxLen; omega)
    have hxn : xs.length ≤ 1000 := by omega
    have hyn : ys.length ≤ 1000 := by omega
    have h0n : 0 ≤ 1000 := by omega
    have hsn : 0 + xs.length ≤ 1000 := by omega
    clear P0
    go_region_held3 (fun _ => True) (exact True.intro) (first
      | (go_at_call 140; (first | (with_reducible refine (st_call2 S1 HY.out hyn hsn).mono ?_) | (with_reducible refine (st_call2 S1.make HY.out hyn hsn).mono ?_) | (with_reducible refine (st_call2 S1.lay HY.out hyn hsn).mono ?_) | (with_reducible refine (st_call2 S1.make.lay HY.out hyn hsn).mono ?_) | (with_reducible refine (st_call2 S1.lay.make HY.out hyn hsn).mono ?_) | (with_reducible refine (st_call2 S1.drew HY.out hyn hsn).mono ?_) | (with_reducible refine (st_call2 S1.make.drew HY.out hyn hsn).mono ?_) | (with_reducible refine (st_call2 S1.lay.drew HY.out hyn hsn).mono ?_) | (with_reducible refine (st_call2 S1.make.lay.drew HY.out hyn hsn).mono ?_) | (with_reducible refine (st_call2 S1.lay.make.drew HY.out hyn hsn).mono ?_) | (with_reducible refine (st_call2 S1.drew.drew HY.out hyn hsn).mono ?_) | (with_reducible refine (st_call2 S1.make.drew.drew HY.out hyn hsn).mono ?_) | (with_reducible refine (st_call2 S1.lay.drew.drew HY.out hyn hsn).mono ?_) | (with_reducible refine (st_call2 S1.make.lay.drew.drew HY.out hyn hsn).mono ?_) | (with_reducible refine (st_call2 S1.lay.make.drew.drew HY.out hyn hsn).mono ?_)); rintro e w2 ⟨gb, us, D2, rfl, S2⟩; try (have T2 := (S2.fG _ rfl).1; have t0 := T2.c0; have t1 := T2.c1; have t2 := T2.c2; have z0 := T2.z0; have z1 := T2.z1; have z2 := T2.z2; have tl := T2.lt; clear T2; simp [nils] at t0 t1 t2 z0 z1 z2 tl))
      | (go_at_call 140; (first | (with_reducible refine (st_call1 S0 HX.out hxn h0n).mono ?_) | (with_reducible refine (st_call1 S0.make HX.out hxn h0n).mono ?_) | (with_reducible refine (st_call1 S0.lay HX.out hxn h0n).mono ?_) | (with_reducible refine (st_call1 S0.make.lay HX.out hxn h0n).mono ?_) | (with_reducible refine (st_call1 S0.lay.make HX.out hxn h0n).mono ?_) | (with_reducible refine (st_call1 S0.drew HX.out hxn h0n).mono ?_) | (with_reducible refine (st_call1 S0.make.drew HX.out hxn h0n).mono ?_) | (with_reducible refine (st_call1 S0.lay.drew HX.out hxn h0n).mono ?_) | (with_reducible refine (st_call1 S0.make.lay.drew HX.out hxn h0n).mono ?_) | (with_reducible refine (st_call1 S0.lay.make.drew HX.out hxn h0n).mono ?_) | (with_reducible refine (st_call1 S0.drew.drew HX.out hxn h0n).mono ?_) | (with_reducible refine (st_call1 S0.make.drew.drew HX.out hxn h0n).mono ?_) | (with_reducible refine (st_call1 S0.lay.drew.drew HX.out hxn h0n).mono ?_) | (with_reducible refine (st_call1 S0.make.lay.drew.drew HX.out hxn h0n).mono ?_) | (with_reducible refine (st_call1 S0.lay.make.drew.drew HX.out hxn h0n).mono ?_)); rintro e w1 ⟨ga, zs, D1, rfl, S1⟩))
    all_goals (go_wp2_with fail; go_meet)
    all_goals clear HRR HR HX HY hmk e1 e2 e3
    all_goals (first
      | exact st_close_whole S2
      | exact st_close S2
      | exact st_close_make S2
      | exact st_close_late S2
      | simpa using st_close S2
      | simpa using st_close_whole S2.make
      | simpa using st_close_late S2)
  clear P0 hmk e1 e2 e3 HX HY
  obtain ⟨G, ga, gb, gr, zs, us, D, rfl, hG, hNa, hNb, L⟩ := hcut
  have T0 := Tab.init xs ys
  rw [HRR.out] at T0
  have HG := Lib.hid hG
  have HNa := Lib.hid hNa
  have HNb := Lib.hid hNb
  clear hG hNa hNb
  go_wp2_with fail
  go_loopw [7, 8] (fun s7 _ wr => ∃ (k : Nat) (z : Int) (cs : List Nat), k ≤ xs.length ∧ s7 = .int .i64 z ∧ Hid (z = (k : Int) - 1) ∧ Hid (Tab xs ys k ys.length cs) ∧ Laid w wr b4 G ga gb gr xs.length ys.length R zs us cs) (fun s7 _ _ => (intOf s7 + 1).toNat)
  case atStart => exact ⟨xs.length, _, _, Nat.le_refl _, rfl, rfl, T0, L⟩
  case round =>
    clear T0 L
    obtain ⟨k, z, cs, hk, rfl, hz, hT, L⟩ := hrel
    by_cases hk0 : k = 0
    · subst hk0
      obtain rfl : z = -1 := by have := hz.out; omega
      have t0 := L.t.c0
      have t1 := L.t.c1
      have t2 := L.t.c2
      have f0 := L.f.c0
      have f1 := L.f.c1
      have f2 := L.f.c2
      have z0 := L.f.z0
      have z1 := L.f.z1
      have z2 := L.f.z2
      have fl := L.f.lt
      simp only [nils] at f0 f1 f2
      have F := three_fill L.f (sl ga xs.length) (sl gb ys.length) (sl gr R)
      have HF := Lib.hid F
      clear F
      go_wp2
      have F := HF.out
      have hg := grown_fill wr b4 (sl ga xs.length) (sl gb ys.length) (sl gr R)
      have ka := (L.a.lt ga rfl).1
      have kb := (L.b.lt gb rfl).1
      have kl := L.l1
      refine bodyPost_ret (v := .agg #[sl ga xs.length, sl gb ys.length, sl gr R]) (by simp [results, Tryz.results126, go_sem, F.c0, F.c1, F.c2]) rfl ?_
      have hb4 : w.heap.size + 1 ≤ b4 + 1 := by have := HB4.out; omega
      exact ⟨ga, gb, gr, R, zs, us, cs, D, rfl, HRR.out.symm, HG.out, HNa.out, HNb.out, own_le (L.a.kept hg (.inr (by simp [Value.ownBlock]; omega))) hb4, own_le (L.b.kept hg (.inr (by simp [Value.ownBlock]; omega))) hb4, own_le (L.r.kept hg (.inr (by simp [Value.ownBlock]; exact fun e => L.n4 e.symm))) hb4, hT.out, L.g.grown hg L.g.size (fun k hk => by injection hk with hk; omega)⟩
    · obtain ⟨p, rfl⟩ : ∃ p, k = p + 1 := ⟨k - 1, by omega⟩
      obtain rfl : z = (p : Int) := by have := hz.out; omega
      have hp0 : (0 : Int) ≤ (p : Int) := Int.natCast_nonneg _
      go_wp2_with fail
      obtain ⟨wo, hwo⟩ : ∃ wo : World, wo = wr := ⟨_, rfl⟩
      rw [← hwo] at L ⊢
      clear hwo
      go_loopw [8] (fun s8 wr => ∃ (q : Nat) (z : Int) (cs : List Nat), q ≤ ys.length ∧ s8 = .int .i64 z ∧ Hid (z = (q : Int) - 1) ∧ Hid (Tab xs ys (p + 1) q cs) ∧ Laid w wr b4 G ga gb gr xs.length ys.length R zs us cs) (fun s8 _ => (intOf s8 + 1).toNat)
      case atStart => exact ⟨ys.length, _, _, Nat.le_refl _, rfl, rfl, hT, L⟩
      case round =>
        clear hT L
        obtain ⟨q, z, cs, hq, rfl, hz2, hT, L⟩ := hrel
        by_cases hq0 : q = 0
        · subst hq0
          obtain rfl : z = -1 := by have := hz2.out; omega
          go_wp2
          go_roundw
          case rel => exact ⟨p, _, cs, by omega, rfl, rfl, Tab.row hT.out, L⟩
          case measure => simp [intOf]
        · obtain ⟨j, rfl⟩ : ∃ j, q = j + 1 := ⟨q - 1, by omega⟩
          obtain rfl : z = (j : Int) := by have := hz2.out; omega
          have hj0 : (0 : Int) ≤ (j : Int) := Int.natCast_nonneg _
          obtain ⟨s, hs⟩ : ∃ s, xs[p]? = some s := ⟨_, List.getElem?_eq_getElem (by omega)⟩
          obtain ⟨t, ht⟩ : ∃ t, ys[j]? = some t := ⟨_, List.getElem?_eq_getElem (by omega)⟩
          obtain ⟨_, x, hx, _⟩ := HNa.out.2 p s hs
          obtain ⟨_, y, hy, _⟩ := HNb.out.2 j t ht
          have heq := Nums.eq HG.out HNa.out HNb.out hs ht hx hy
          have a1 := L.cellA hx
          have a2 := L.cellB hy
          have t0 := L.t.c0
          have t1 := L.t.c1
          have t2 := L.t.c2
          have hp1 : (p : Int) < (xs.length : Int) := by omega
          have hj1 : (j : Int) < (ys.length : Int) := by omega
          have HS := Lib.hid hs
          have HT := Lib.hid ht
          have HE := Lib.hid heq
          clear hs ht hx hy heq
          have hT0 := hT.out
          have hPlt : pl ys.length p j < R := by rw [← HRR.out]; exact plc_lt (by omega) (by omega)
          obtain ⟨v0, hv0⟩ : ∃ v0, cs[pl ys.length p j]? = some v0 := ⟨_, List.getElem?_eq_getElem (by rw [hT0.1]; exact plc_lt (by omega) (by omega))⟩
          have q12 : cs[pl ys.length (p + 1) (j + 1)]? = some (lc (xs.drop (p + 1)) (ys.drop (j + 1))) := hT0.2 (p + 1) (j + 1) (by omega) (by omega) (.inl (Nat.le_refl _))
          have q1 : cs[pl ys.length (p + 1) j]? = some (lc (xs.drop (p + 1)) (ys.drop j)) := hT0.2 (p + 1) j (by omega) (by omega) (.inl (Nat.le_refl _))
          have q2 : cs[pl ys.length p (j + 1)]? = some (lc (xs.drop p) (ys.drop (j + 1))) := hT0.2 p (j + 1) (by omega) (by omega) (.inr (.inr ⟨rfl, Nat.le_refl _⟩))
          have hP12 : pl ys.length (p + 1) (j + 1) < R := by rw [← HRR.out]; exact plc_lt (by omega) (by omega)
          have hP1 : pl ys.length (p + 1) j < R := by rw [← HRR.out]; exact plc_lt (by omega) (by omega)
          have hP2 : pl ys.length p (j + 1) < R := by rw [← HRR.out]; exact plc_lt (by omega) (by omega)
          have hstep := Tab.step (p := p) (q := j) hT0 (by omega) (by omega)
          have hlc := lc_step HS.out HT.out
          have b12 := lc_le_left (xs.drop (p + 1)) (ys.drop (j + 1))
          have b1 := lc_le_left (xs.drop (p + 1)) (ys.drop j)
          have b2 := lc_le_left (xs.drop p) (ys.drop (j + 1))
          simp only [List.length_drop] at b12 b1 b2
          have AT := Lib.hid (fun W => at_any (sl ga xs.length) (sl gr R) (some ⟨gb, 0, none⟩) ys.length ys.length p j (by omega) (by omega) (by omega) W)
          have L12 := fun W c hc => longest_any ga gb gr xs.length ys.length R (p + 1) (j + 1) c (by omega) (by omega) (by omega) hP12 W hc
          have L1 := fun W c hc => longest_any ga gb gr xs.length ys.length R (p + 1) j c (by omega) (by omega) (by omega) hP1 W hc
          have L2 := fun W c hc => longest_any ga gb gr xs.length ys.length R p (j + 1) c (by omega) (by omega) (by omega) hP2 W hc
          rw [show ((p + 1 : Nat) : Int) = (p : Int) + 1 from by omega] at L12 L1
          rw [show ((j + 1 : Nat) : Int) = (j : Int) + 1 from by omega] at L12 L2
          change Hid (Tab xs ys (p + 1) j (cs.set (pl ys.length p j) (lc (xs.drop p) (ys.drop j)))) at hstep
          have HLC := Lib.hid hlc
          clear hlc hT0
          generalize lc (xs.drop (p + 1)) (ys.drop (j + 1)) = c12 at *
          generalize lc (xs.drop (p + 1)) (ys.drop j) = c1 at *
          generalize lc (xs.drop p) (ys.drop (j + 1)) = c2 at *
          generalize lc (xs.drop p) (ys.drop j) = c0 at *
          generalize pl ys.length p j = P at *
          generalize pl ys.length (p + 1) (j + 1) = P12 at *
          generalize pl ys.length (p + 1) j = P1 at *
          generalize pl ys.length p (j + 1) = P2 at *
          have HL12 := Lib.hid L12
          have HL1 := Lib.hid L1
          have HL2 := Lib.hid L2
          have HV0 := Lib.hid hv0
          have HQ12 := Lib.hid q12
          have HQ1 := Lib.hid q1
          have HQ2 := Lib.hid q2
          clear L12 L1 L2 hv0 q12 q1 q2
          have hsp : IntKind.i64.wrap ((p : Int) + 1) = (p : Int) + 1 := IntWalk.i64_in _ (by omega)
          have hsj : IntKind.i64.wrap ((j : Int) + 1) = (j : Int) + 1 := IntWalk.i64_in _ (by omega)
          have hP0 : (0 : Int) ≤ (P : Int) := Int.natCast_nonneg _
          have hPR : (P : Int) < (R : Int) := by omega
          by_cases hxy : x = y
          · have h0 : c0 = c12 + 1 := by rw [HLC.out, if_pos (HE.out.1 hxy)]
            have H0 := Lib.hid h0
            clear h0
            subst hxy
            have hsu : IntKind.u16.wrap ((c12 : Int) + 1) = (c12 : Int) + 1 := by rw [IntKind.wrap_u16]; omega
            go_wp2_with fail
            go_quiet (fail)
            go_wp2_with fail
            replace L := L.below (below_drewN (Below.refl _ wr) nq).drew
            clear t0 t1 t2 a1 a2
            go_region_held3 (fun w' => w'.cell? ⟨G, 0, none⟩ = some (.slice (some ⟨ga, 0, none⟩) xs.length xs.length) ∧ w'.cell? ⟨G, 1, none⟩ = some (.slice (some ⟨gb, 0, none⟩) ys.length ys.length) ∧ w'.cell? ⟨G, 2, none⟩ = some (.slice (some ⟨gr, 0, none⟩) R R)) (first | exact ⟨(LB.t.far LB.nG P _).c0, (LB.t.far LB.nG P _).c1, (LB.t.far LB.nG P _).c2⟩ | exact ⟨LB.t.c0, LB.t.c1, LB.t.c2⟩ | exact ⟨LA.t.c0, LA.t.c1, LA.t.c2⟩ | exact ⟨L.t.c0, L.t.c1, L.t.c2⟩ | go_keep)
              (first
                | (go_at_call 141; (with_reducible refine (HL12.out _ _ (LA.cellR HQ12.out)).mono ?_); rintro e wB ⟨rfl, hbB⟩; have LB := LA.below hbB; have k1 := LB.cellR HV0.out; have k2 := LB.freeR P)
                | (go_at_call 142; (with_reducible refine (AT.out _).mono ?_); rintro e wA ⟨rfl, hbA⟩; have LA := L.below hbA))
            have LD := LB.store P (c12 + 1)
            rw [show ((c12 + 1 : Nat) : Int) = (c12 : Int) + 1 from by omega] at LD
            clear k1 k2
            go_wp2
            go_roundw
            case rel => first | exact ⟨j, _, _, by omega, rfl, rfl, by rw [← H0.out]; exact hstep, LD⟩ | exact ⟨j, _, _, by omega, rfl, rfl, by rw [← H0.out]; exact hstep, LE⟩
            case measure => simp [intOf]
          · have hxyb : ((x : Int) == (y : Int)) = false := by simpa using fun e : (x : Int) = (y : Int) => hxy (by omega)
            have h0 : c0 = max c1 c2 := by rw [HLC.out, if_neg (fun e => hxy (HE.out.2 e))]
            have H0 := Lib.hid h0
            clear h0
            go_wp2_with fail
            go_quiet (fail)
            go_wp2_with fail
            replace L := L.below (below_drewN (Below.refl _ wr) nq).drew
            clear t0 t1 t2 a1 a2
            go_region_held3 (fun w' => w'.cell? ⟨G, 0, none⟩ = some (.slice (some ⟨ga, 0, none⟩) xs.length xs.length) ∧ w'.cell? ⟨G, 1, none⟩ = some (.slice (some ⟨gb, 0, none⟩) ys.length ys.length) ∧ w'.cell? ⟨G, 2, none⟩ = some (.slice (some ⟨gr, 0, none⟩) R R)) (first | exact ⟨(LC.t.far LC.nG P _).c0, (LC.t.far LC.nG P _).c1, (LC.t.far LC.nG P _).c2⟩ | exact ⟨LC.t.c0, LC.t.c1, LC.t.c2⟩ | exact ⟨LB.t.c0, LB.t.c1, LB.t.c2⟩ | exact ⟨LA.t.c0, LA.t.c1, LA.t.c2⟩ | exact ⟨L.t.c0, L.t.c1, L.t.c2⟩ | go_keep)
              (first
                | (go_at_call 141; (with_reducible refine (HL2.out _ _ (LB.cellR HQ2.out)).mono ?_); rintro e wC ⟨rfl, hbC⟩; have LC := LB.below hbC; have k1 := LC.cellR HV0.out; have k2 := LC.freeR P)
                | (go_at_call 141; (with_reducible refine (HL1.out _ _ (LA.cellR HQ1.out)).mono ?_); rintro e wB ⟨rfl, hbB⟩; have LB := LA.below hbB)
                | (go_at_call 142; (with_reducible refine (AT.out _).mono ?_); rintro e wA ⟨rfl, hbA⟩; have LA := L.below hbA))
            have LD := LC.store P (max c1 c2)
            have LE := LD
            rw [show ((max c1 c2 : Nat) : Int) = if c1 < c2 then (c2 : Int) else (c1 : Int) from by split <;> omega] at LE
            rw [show ((max c1 c2 : Nat) : Int) = max (c1 : Int) (c2 : Int) from by omega] at LD
            clear k1 k2
            go_wp2
            go_roundw
            case rel => first | exact ⟨j, _, _, by omega, rfl, rfl, by rw [← H0.out]; exact hstep, LD⟩ | exact ⟨j, _, _, by omega, rfl, rfl, by rw [← H0.out]; exact hstep, LE⟩
            case measure => simp [intOf]

end Go.Proofs.YtapcnmnnichamaaGreatDoor.Mg

namespace Go.Proofs.YtapcnmnnichamaaGreatDoor.Mg
open Go.RowKit

set_option maxHeartbeats 1000000 in
theorem check_good (b n c m d : Nat) (A B : Option Addr) (hn : n ≤ 256) (hm : m ≤ 256) (w : World) (h0 : w.cell? ⟨b, 0, none⟩ = some (.slice A n c)) (h1 : w.cell? ⟨b, 1, none⟩ = some (.slice B m d)) :
    Calls Tryz.prog 125 #[.slice (some ⟨b, 0, none⟩) 2 2] w fun e w' => e = .returned Value.nilIface ∧ w = w' := by
  go_enter Tryz.func125, Tryz.ntmps125
  go_wp2
  go_loop [7] (fun i => ∃ k : Nat, k ≤ 2 ∧ i = .int .i64 k) (fun i => 2 - (intOf i).toNat)
  case atStart => exact ⟨0, by omega, rfl⟩
  case round =>
    obtain ⟨k, hk, rfl⟩ := hrel
    by_cases e0 : k = 0
    · subst e0
      go_wp2
      go_round
      case rel => exact ⟨1, by omega, rfl⟩
      case measure => simp [intOf]
    · by_cases e1 : k = 1
      · subst e1
        go_wp2
        go_round
        case rel => exact ⟨2, by omega, rfl⟩
        case measure => simp [intOf]
      · obtain rfl : k = 2 := by omega
        go_wp2
        go_ret
        exact ⟨rfl, rfl⟩

/-- The refusal: a fault of the part lines at k, of the Errno 4, in a block of its own. -/
def Refused (k : Nat) (w : World) (e : Ending) (w' : World) : Prop :=
  ∃ g : Nat, e = .returned (.iface 76 (.pointer (some ⟨g, 0, none⟩))) ∧ Three w' g (.string ⟨#[108, 105, 110, 101, 115]⟩) (.int .i64 (k : Int)) (.iface 75 (.int .i64 4)) ∧ Below w.heap.size w w'

set_option maxHeartbeats 1000000 in
theorem check_first (b n c : Nat) (A : Option Addr) (hn : 256 < n) (w : World) (h0 : w.cell? ⟨b, 0, none⟩ = some (.slice A n c)) :
    Calls Tryz.prog 125 #[.slice (some ⟨b, 0, none⟩) 2 2] w (Refused 0 w) := by
  go_enter Tryz.func125, Tryz.ntmps125
  go_wp2
  go_loop [7] (fun i => i = .int .i64 0) (fun i => 0)
  case atStart => rfl
  case round =>
    obtain rfl := hrel
    go_wp2
    go_ret
    exact ⟨w.heap.size, rfl, Three.new w _ _ _ 80, (Below.refl _ _).alloc (Nat.le_refl _) _⟩

set_option maxHeartbeats 1000000 in
theorem check_second (b n c m d : Nat) (A B : Option Addr) (hn : n ≤ 256) (hm : 256 < m) (w : World) (h0 : w.cell? ⟨b, 0, none⟩ = some (.slice A n c)) (h1 : w.cell? ⟨b, 1, none⟩ = some (.slice B m d)) :
    Calls Tryz.prog 125 #[.slice (some ⟨b, 0, none⟩) 2 2] w (Refused 1 w) := by
  go_enter Tryz.func125, Tryz.ntmps125
  go_wp2
  go_loop [7] (fun i => ∃ k : Nat, k ≤ 1 ∧ i = .int .i64 k) (fun i => 2 - (intOf i).toNat)
  case atStart => exact ⟨0, by omega, rfl⟩
  case round =>
    obtain ⟨k, hk, rfl⟩ := hrel
    by_cases e0 : k = 0
    · subst e0
      go_wp2
      go_round
      case rel => exact ⟨1, by omega, rfl⟩
      case measure => simp [intOf]
    · obtain rfl : k = 1 := by omega
      go_wp2
      go_ret
      exact ⟨w.heap.size, rfl, Three.new w _ _ _ 80, (Below.refl _ _).alloc (Nat.le_refl _) _⟩

end Go.Proofs.YtapcnmnnichamaaGreatDoor.Mg

namespace Go.Proofs.YtapcnmnnichamaaGreatDoor.Mg
open Go.RowKit

set_option maxHeartbeats 1000000 in
theorem next_end_a (ga gb gr na nb R j : Nat) (w : World) :
    Calls Tryz.prog 127 #[grid ga gb gr na nb R, .int .i64 na, .int .i64 j] w fun e w' => e = .returned (.int .i64 3) ∧ Below w.heap.size w w' := by
  have hb0 : Below w.heap.size w (w.alloc (.cells #[.slice (some ⟨ga, 0, none⟩) na na, .slice (some ⟨gb, 0, none⟩) nb nb, .slice (some ⟨gr, 0, none⟩) R R] 212)) := (Below.refl _ _).alloc (Nat.le_refl _) _
  go_enter Tryz.func127, Tryz.ntmps127
  go_wp2
  go_ret
  exact ⟨rfl, hb0⟩

set_option maxHeartbeats 1000000 in
theorem next_end_b (ga gb gr na nb R i : Nat) (hi : i < na) (w : World) :
    Calls Tryz.prog 127 #[grid ga gb gr na nb R, .int .i64 i, .int .i64 nb] w fun e w' => e = .returned (.int .i64 2) ∧ Below w.heap.size w w' := by
  have hb0 : Below w.heap.size w (w.alloc (.cells #[.slice (some ⟨ga, 0, none⟩) na na, .slice (some ⟨gb, 0, none⟩) nb nb, .slice (some ⟨gr, 0, none⟩) R R] 212)) := (Below.refl _ _).alloc (Nat.le_refl _) _
  go_enter Tryz.func127, Tryz.ntmps127
  go_wp2
  go_ret
  exact ⟨rfl, hb0⟩

set_option maxHeartbeats 1000000 in
theorem next_keep (ga gb gr na nb R i j : Nat) (x y : Int) (hi : i < na) (hj : j < nb) (hxy : x = y) (w : World) (ha : w.cell? ⟨ga, i, none⟩ = some (.int .i64 x)) (hb : w.cell? ⟨gb, j, none⟩ = some (.int .i64 y)) :
    Calls Tryz.prog 127 #[grid ga gb gr na nb R, .int .i64 i, .int .i64 j] w fun e w' => e = .returned (.int .i64 1) ∧ Below w.heap.size w w' := by
  subst hxy
  have hb0 : Below w.heap.size w (w.alloc (.cells #[.slice (some ⟨ga, 0, none⟩) na na, .slice (some ⟨gb, 0, none⟩) nb nb, .slice (some ⟨gr, 0, none⟩) R R] 212)) := (Below.refl _ _).alloc (Nat.le_refl _) _
  have la := World.block_lt_of_cell? w _ ha
  have lb := World.block_lt_of_cell? w _ hb
  have i0 : (0 : Int) ≤ (i : Int) := Int.natCast_nonneg _
  have i1 : (i : Int) < (na : Int) := by omega
  have j0 : (0 : Int) ≤ (j : Int) := Int.natCast_nonneg _
  have j1 : (j : Int) < (nb : Int) := by omega
  go_enter Tryz.func127, Tryz.ntmps127
  go_wp2_with fail
  go_quiet (fail)
  go_wp2
  go_ret
  exact ⟨rfl, below_drewN hb0 _⟩

end Go.Proofs.YtapcnmnnichamaaGreatDoor.Mg

namespace Go.Proofs.YtapcnmnnichamaaGreatDoor.Mg
open Go.RowKit

set_option maxHeartbeats 2000000 in
theorem next_else (ga gb gr na nb R i j : Nat) (x y c1 c2 : Int) (hi : i < na) (hj : j < nb) (hna : na ≤ 299) (hnb : nb ≤ 299) (hxy : (x == y) = false) (hp1 : pl nb (i + 1) j < R) (hp2 : pl nb i (j + 1) < R) (w : World)
    (ha : w.cell? ⟨ga, i, none⟩ = some (.int .i64 x)) (hb : w.cell? ⟨gb, j, none⟩ = some (.int .i64 y))
    (h1 : w.cell? ⟨gr, pl nb (i + 1) j, none⟩ = some (.int .u16 c1)) (h2 : w.cell? ⟨gr, pl nb i (j + 1), none⟩ = some (.int .u16 c2)) :
    Calls Tryz.prog 127 #[grid ga gb gr na nb R, .int .i64 i, .int .i64 j] w fun e w' => e = .returned (.int .i64 (if c2 ≤ c1 then 2 else 3)) ∧ Below w.heap.size w w' := by
  have L1 := fun W (hW : W.cell? ⟨gr, pl nb (i + 1) j, none⟩ = some (.int .u16 c1)) => longest_any ga gb gr na nb R (i + 1) j c1 (by omega) (by omega) (by omega) hp1 W hW
  have L2 := fun W (hW : W.cell? ⟨gr, pl nb i (j + 1), none⟩ = some (.int .u16 c2)) => longest_any ga gb gr na nb R i (j + 1) c2 (by omega) (by omega) (by omega) hp2 W hW
  rw [show ((i + 1 : Nat) : Int) = (i : Int) + 1 from by omega] at L1
  rw [show ((j + 1 : Nat) : Int) = (j : Int) + 1 from by omega] at L2
  have H1 := Lib.hid L1
  have H2 := Lib.hid L2
  clear L1 L2
  generalize pl nb (i + 1) j = p1 at *
  generalize pl nb i (j + 1) = p2 at *
  have hb0 : Below w.heap.size w (w.alloc (.cells #[.slice (some ⟨ga, 0, none⟩) na na, .slice (some ⟨gb, 0, none⟩) nb nb, .slice (some ⟨gr, 0, none⟩) R R] 212)) := (Below.refl _ _).alloc (Nat.le_refl _) _
  have la := World.block_lt_of_cell? w _ ha
  have lb := World.block_lt_of_cell? w _ hb
  have lr := World.block_lt_of_cell? w _ h1
  have i0 : (0 : Int) ≤ (i : Int) := Int.natCast_nonneg _
  have i1 : (i : Int) < (na : Int) := by omega
  have j0 : (0 : Int) ≤ (j : Int) := Int.natCast_nonneg _
  have j1 : (j : Int) < (nb : Int) := by omega
  go_enter Tryz.func127, Tryz.ntmps127
  go_wp2_with fail
  go_quiet (fail)
  go_wp2_with fail
  have T0 := (Three.new w (.slice (some ⟨ga, 0, none⟩) na na) (.slice (some ⟨gb, 0, none⟩) nb nb) (.slice (some ⟨gr, 0, none⟩) R R) 212)
  generalize hW : (w.alloc (.cells #[.slice (some ⟨ga, 0, none⟩) na na, .slice (some ⟨gb, 0, none⟩) nb nb, .slice (some ⟨gr, 0, none⟩) R R] 212)) = W0 at *
  clear hW
  have T1 : Three (W0.drewN nq) w.heap.size (.slice (some ⟨ga, 0, none⟩) na na) (.slice (some ⟨gb, 0, none⟩) nb nb) (.slice (some ⟨gr, 0, none⟩) R R) := ⟨T0.c0, T0.c1, T0.c2, T0.z0, T0.z1, T0.z2, T0.lt⟩
  have B1 : Below w.heap.size w (W0.drewN nq) := below_drewN hb0 nq
  clear T0 hb0
  generalize W0.drewN nq = W1 at *
  have q1 := (B1.drew.cell (p := ⟨gr, p1, none⟩) lr).trans h1
  have q2 := (B1.drew.cell (p := ⟨gr, p2, none⟩) lr).trans h2
  have T1d : Three W1.drew w.heap.size (.slice (some ⟨ga, 0, none⟩) na na) (.slice (some ⟨gb, 0, none⟩) nb nb) (.slice (some ⟨gr, 0, none⟩) R R) := ⟨T1.c0, T1.c1, T1.c2, T1.z0, T1.z1, T1.z2, T1.lt⟩
  have S0 : W1.drew.cell? ⟨w.heap.size, 0, none⟩ = some (.slice (some ⟨ga, 0, none⟩) na na) ∧ W1.drew.cell? ⟨w.heap.size, 1, none⟩ = some (.slice (some ⟨gb, 0, none⟩) nb nb) ∧ W1.drew.cell? ⟨w.heap.size, 2, none⟩ = some (.slice (some ⟨gr, 0, none⟩) R R) ∧ W1.drew.cell? ⟨gr, p1, none⟩ = some (.int .u16 c1) ∧ W1.drew.cell? ⟨gr, p2, none⟩ = some (.int .u16 c2) := ⟨T1.c0, T1.c1, T1.c2, q1, q2⟩
  have B1d := B1.drew
  clear B1
  clear i0 i1 j0 j1 ha hb la lb
  have hsi : IntKind.i64.wrap ((i : Int) + 1) = (i : Int) + 1 := IntWalk.i64_in _ (by omega)
  have hsj : IntKind.i64.wrap ((j : Int) + 1) = (j : Int) + 1 := IntWalk.i64_in _ (by omega)
  clear hi hj hna hnb
  go_region_held3 (fun w' => w'.cell? ⟨w.heap.size, 0, none⟩ = some (.slice (some ⟨ga, 0, none⟩) na na) ∧ w'.cell? ⟨w.heap.size, 1, none⟩ = some (.slice (some ⟨gb, 0, none⟩) nb nb) ∧ w'.cell? ⟨w.heap.size, 2, none⟩ = some (.slice (some ⟨gr, 0, none⟩) R R) ∧ w'.cell? ⟨gr, p1, none⟩ = some (.int .u16 c1) ∧ w'.cell? ⟨gr, p2, none⟩ = some (.int .u16 c2)) (first | exact S2 | exact S1 | exact S0)
    (first
      | (go_at_call 141; refine (H2.out w1 q3).mono ?_; rintro e w2 ⟨rfl, hb2⟩; have T3 := T2.below hb2; have B3 := B2.trans (hb2.mono B2.size); have S2 : w2.cell? ⟨w.heap.size, 0, none⟩ = some (.slice (some ⟨ga, 0, none⟩) na na) ∧ w2.cell? ⟨w.heap.size, 1, none⟩ = some (.slice (some ⟨gb, 0, none⟩) nb nb) ∧ w2.cell? ⟨w.heap.size, 2, none⟩ = some (.slice (some ⟨gr, 0, none⟩) R R) ∧ w2.cell? ⟨gr, p1, none⟩ = some (.int .u16 c1) ∧ w2.cell? ⟨gr, p2, none⟩ = some (.int .u16 c2) := ⟨T3.c0, T3.c1, T3.c2, (B3.cell (p := ⟨gr, p1, none⟩) lr).trans h1, (B3.cell (p := ⟨gr, p2, none⟩) lr).trans h2⟩)
      | (go_at_call 141; refine (H1.out W1.drew q1).mono ?_; rintro e w1 ⟨rfl, hb1⟩; have T2 := T1d.below hb1; have B2 := B1d.trans (hb1.mono B1d.size); have q3 := (B2.cell (p := ⟨gr, p2, none⟩) lr).trans h2; have S1 : w1.cell? ⟨w.heap.size, 0, none⟩ = some (.slice (some ⟨ga, 0, none⟩) na na) ∧ w1.cell? ⟨w.heap.size, 1, none⟩ = some (.slice (some ⟨gb, 0, none⟩) nb nb) ∧ w1.cell? ⟨w.heap.size, 2, none⟩ = some (.slice (some ⟨gr, 0, none⟩) R R) ∧ w1.cell? ⟨gr, p1, none⟩ = some (.int .u16 c1) ∧ w1.cell? ⟨gr, p2, none⟩ = some (.int .u16 c2) := ⟨T2.c0, T2.c1, T2.c2, (B2.cell (p := ⟨gr, p1, none⟩) lr).trans h1, q3⟩))
  all_goals clear hsi hsj
  all_goals by_cases hcc : c2 ≤ c1
  all_goals go_wp2
  all_goals go_ret
  all_goals (first | exact ⟨rfl, B3⟩ | exact ⟨by rw [if_pos hcc], B3⟩ | exact ⟨by rw [if_neg (by omega)], B3⟩)

end Go.Proofs.YtapcnmnnichamaaGreatDoor.Mg

namespace Go.Proofs.YtapcnmnnichamaaGreatDoor.Mg
open Go.RowKit

theorem ed_len {α : Type} [DecidableEq α] (xs : List α) : ∀ ys : List α, (ed xs ys).length ≤ xs.length + ys.length := by
  induction xs with
  | nil => intro ys; simp [ed]
  | cons x xs ih =>
    intro ys
    induction ys with
    | nil => rw [ed_cons_nil]; have := ih []; simp at *; omega
    | cons y ys ih2 =>
      rw [ed_cons]
      have h1 := ih ys
      have h2 := ih (y :: ys)
      simp only [List.length_cons] at *
      split
      · simp only [List.length_cons]; omega
      · split <;> simp only [List.length_cons] <;> omega

/-- Edits as they lie in memory: two cells each. -/
def edCells (l : List (Nat × ByteArray)) : List Value := l.flatMap fun e => [.int .i64 (e.1 : Int), .string e.2]

theorem edCells_snoc (l : List (Nat × ByteArray)) (k : Nat) (s : ByteArray) : edCells (l ++ [(k, s)]) = edCells l ++ [.int .i64 (k : Int), .string s] := by simp [edCells]

theorem editInfo : (Tryz.prog.info? 216).map (fun i => (i.zero, i.size, i.bytes)) = some (some (.agg #[.int .i64 0, .string ⟨#[]⟩]), 2, 24) := by kernel_rfl

/-- The edits come back in a row of the call's own. -/
def Edited (w : World) (l : List (Nat × ByteArray)) (e : Ending) (w' : World) : Prop :=
  ∃ v, e = .returned (.tuple #[v, .nilIface]) ∧ w'.ownsRow w.heap.size 216 2 v l.length (edCells l) ∧ Below w.heap.size w w'

theorem own2_le {w : World} {base base' n k : Nat} {e : TypeId} {v : Value} {xs : List Value} (h : w.ownsRow base e k v n xs) (hb : base' ≤ base) : w.ownsRow base' e k v n xs := by
  refine ⟨h.1, ?_⟩
  rcases h.2 with h2 | ⟨g, cap, cur, hv, hg, r⟩
  · exact .inl h2
  · exact .inr ⟨g, cap, cur, hv, Nat.le_trans hb hg, r⟩

theorem own2_keep {w w' : World} {base k : Nat} {e : TypeId} {v : Value} {n : Nat} {xs : List Value} (h : w.ownsRow base e k v n xs) (hb : Below w.heap.size w w') : w'.ownsRow base e k v n xs :=
  h.kept (row := none) ⟨hb.os, hb.tape, hb.output, hb.size, fun k hk _ => hb.block k hk⟩ (by
    cases h' : v.ownBlock with
    | none => exact .inl rfl
    | some k => exact .inr (by simp))

/-- The grid in a block of its own, and its rows. -/
structure Kept (w : World) (G ga gb gr na nb R : Nat) (zs us cs : List Nat) : Prop where
  t : Three w G (sl ga na) (sl gb nb) (sl gr R)
  a : w.ownsRow 0 3 1 (sl ga na) na (i64s zs)
  b : w.ownsRow 0 3 1 (sl gb nb) nb (i64s us)
  r : w.ownsRow 0 230 1 (sl gr R) R (u16s cs)

theorem Kept.below {w w' : World} {G ga gb gr na nb R : Nat} {zs us cs : List Nat} (h : Kept w G ga gb gr na nb R zs us cs) (hb : Below w.heap.size w w') : Kept w' G ga gb gr na nb R zs us cs :=
  ⟨h.t.below hb, own_keep h.a hb, own_keep h.b hb, own_keep h.r hb⟩
theorem own_at {w : World} {e : TypeId} {g n : Nat} {xs : List Value} (h : w.ownsRow 0 e 1 (sl g n) n xs) {i : Nat} {x : Value} (hi : xs[i]? = some x) : w.cell? ⟨g, i, none⟩ = some x := by
  rw [h.cellAt i (by rw [← h.1]; exact (List.getElem?_eq_some_iff.1 hi).1)]
  exact hi
theorem Kept.cellA {w : World} {G ga gb gr na nb R : Nat} {zs us cs : List Nat} (h : Kept w G ga gb gr na nb R zs us cs) {i x : Nat} (hi : zs[i]? = some x) : w.cell? ⟨ga, i, none⟩ = some (.int .i64 (x : Int)) := own_at h.a (by simp [i64s, hi])
theorem Kept.cellB {w : World} {G ga gb gr na nb R : Nat} {zs us cs : List Nat} (h : Kept w G ga gb gr na nb R zs us cs) {i x : Nat} (hi : us[i]? = some x) : w.cell? ⟨gb, i, none⟩ = some (.int .i64 (x : Int)) := own_at h.b (by simp [i64s, hi])
theorem Kept.cellR {w : World} {G ga gb gr na nb R : Nat} {zs us cs : List Nat} (h : Kept w G ga gb gr na nb R zs us cs) {i x : Nat} (hi : cs[i]? = some x) : w.cell? ⟨gr, i, none⟩ = some (.int .u16 (x : Int)) := own_at h.r (by simp [u16s, hi])

set_option maxRecDepth 100000 in
set_option maxHeartbeats 4000000 in
theorem lines_good (w : World) (v u : Value) (xs ys : List ByteArray) (h : Strs w v xs) (g : Strs w u ys) (hx : ∀ s ∈ xs, s.size ≤ maxLen) (hy : ∀ s ∈ ys, s.size ≤ maxLen) (hxl : xs.length ≤ 256) (hyl : ys.length ≤ 256) :
    Calls Tryz.prog 103 #[v, u] w (Edited w (ed xs ys)) := by
  obtain ⟨A, n, c, rfl⟩ := h.form
  obtain ⟨B, m, d, rfl⟩ := g.form
  obtain rfl := h.len.1
  obtain rfl := g.len.1
  obtain ⟨i0, hi, hz0, hz1, hz2⟩ := info_parts editInfo
  have E1 := (Below.refl w.heap.size w).alloc (Nat.le_refl _) (.cells #[.slice A xs.length c, .slice B ys.length d] 27)
  have h1 := h.below E1
  have g1 := g.below E1
  have hh := heap_alloc_new w (.cells #[.slice A xs.length c, .slice B ys.length d] 27)
  have CK := Lib.hid (check_good w.heap.size xs.length c ys.length d A B hxl hyl (w.alloc (.cells #[.slice A xs.length c, .slice B ys.length d] 27)) (cell_of_row _ _ 0 _ 27 (0, 0) hh) (cell_of_row _ _ 1 _ 27 (0, 0) hh))
  have CM := Lib.hid (measure_any (w.alloc (.cells #[.slice A xs.length c, .slice B ys.length d] 27)) _ _ xs ys h1 g1 hx hy hxl hyl)
  have hz1' : (w.alloc (.cells #[.slice A xs.length c, .slice B ys.length d] 27)).heap.size = w.heap.size + 1 := by simp
  have HA := Lib.hid h1
  have HB := Lib.hid g1
  clear hx hy h g h1 g1 hh
  go_enter Tryz.func103, Tryz.ntmps103
  go_wp2_with fail
  refine CK.out.mono ?_
  rintro e w' ⟨rfl, rfl⟩
  go_wp2_with fail
  refine CM.out.mono ?_
  rintro e w2 ⟨ga, gb, gr, R, zs, us, cs, D, rfl, hR, hG, hNa, hNb, ra, rb, rr, hT, hb2⟩
  have HA2 := HA.out.below hb2
  have HB2 := HB.out.below hb2
  have E2 := E1.trans (hb2.mono (by rw [hz1']; omega))
  clear CK CM HA HB E1 hb2 hz1'
  have E3 := (Below.refl w2.heap.size w2).alloc (Nat.le_refl _) (.cells #[sl ga xs.length, sl gb ys.length, sl gr R] 212)
  have K1 : Kept (w2.alloc (.cells #[sl ga xs.length, sl gb ys.length, sl gr R] 212)) w2.heap.size ga gb gr xs.length ys.length R zs us cs :=
    ⟨Three.new w2 _ _ _ 212, own_le (ra.alloc _) (Nat.zero_le _), own_le (rb.alloc _) (Nat.zero_le _), own_le (rr.alloc _) (Nat.zero_le _)⟩
  have HA3 := HA2.below E3
  have HB3 := HB2.below E3
  have E4 := E2.trans (E3.mono E2.size)
  have HK := Lib.hid K1
  have HRR := Lib.hid hR
  have HG := Lib.hid hG
  have HNa := Lib.hid hNa
  have HNb := Lib.hid hNb
  have HT := Lib.hid hT
  clear ra rb rr hR hG hNa hNb hT K1 E2 E3 HA2 HB2
  go_wp2_with fail
  obtain ⟨W1, hW1⟩ : ∃ W1, W1 = w2.alloc (.cells #[sl ga xs.length, sl gb ys.length, sl gr R] 212) := ⟨_, rfl⟩
  obtain ⟨G, hGG⟩ : ∃ G, G = w2.heap.size := ⟨_, rfl⟩
  rw [← hW1] at HA3 HB3 E4 HK ⊢
  rw [← hGG] at HK ⊢
  have HSA := Lib.hid HA3
  have HSB := Lib.hid HB3
  have hwW := E4.size
  clear hW1 hGG HA3 HB3
  go_loopw [8, 9, 10] (fun s8 s9 s10 wr => ∃ (i j : Nat) (done : List (Nat × ByteArray)), i ≤ xs.length ∧ j ≤ ys.length ∧ s9 = .int .i64 i ∧ s10 = .int .i64 j ∧ Hid (done ++ ed (xs.drop i) (ys.drop j) = ed xs ys) ∧
      wr.ownsRow W1.heap.size 216 2 s8 done.length (edCells done) ∧ Below W1.heap.size W1 wr) (fun _ s9 s10 _ => (xs.length - (intOf s9).toNat) + (ys.length - (intOf s10).toNat))
  case atStart => exact ⟨0, 0, [], Nat.zero_le _, Nat.zero_le _, rfl, rfl, rfl, World.ownsRow_nil _ _ _ _, Below.refl _ _⟩
  case round =>
    obtain ⟨i, j, done, hil, hjl, rfl, rfl, hd, hown, hbr⟩ := hrel
    have hlen : done.length ≤ 512 := by
      have := congrArg List.length hd.out
      have := ed_len xs ys
      rw [List.length_append] at *
      omega
    have K := HK.out.below hbr
    have i0' : (0 : Int) ≤ (i : Int) := Int.natCast_nonneg _
    have j0' : (0 : Int) ≤ (j : Int) := Int.natCast_nonneg _
    have t0 := K.t.c0
    have t1 := K.t.c1
    have t2 := K.t.c2
    by_cases hi1 : i < xs.length
    · obtain ⟨s, hs⟩ : ∃ s, xs[i]? = some s := ⟨_, List.getElem?_eq_getElem hi1⟩
      have HS := Lib.hid hs
      clear hs
      by_cases hj1 : j < ys.length
      · obtain ⟨t, ht⟩ : ∃ t, ys[j]? = some t := ⟨_, List.getElem?_eq_getElem hj1⟩
        have HTt := Lib.hid ht
        clear ht
        obtain ⟨_, x, hx, _⟩ := HNa.out.2 i s HS.out
        obtain ⟨_, y, hy, _⟩ := HNb.out.2 j t HTt.out
        have HE := Lib.hid (Nums.eq HG.out HNa.out HNb.out HS.out HTt.out hx hy)
        have HC1 := Lib.hid (K.cellA hx)
        have HC2 := Lib.hid (K.cellB hy)
        clear hx hy
        by_cases hxy : x = y
        · have hst : Hid (s = t) := HE.out.1 hxy
          have HXY := Lib.hid (show (x : Int) = (y : Int) by omega)
          clear hxy
          go_wp2_with fail
          refine (next_keep ga gb gr xs.length ys.length R i j x y hi1 hj1 HXY.out wr HC1.out HC2.out).mono ?_
          rintro e w3 ⟨rfl, hb3⟩
          have hbx := hbr.trans (hb3.mono hbr.size)
          have hSA3 := (HSA.out.below hbx)
          obtain ⟨ad, s', rfl, hs', hc⟩ := hSA3.cell (k := i) (by omega)
          obtain rfl : s = s' := by rw [HS.out] at hs'; exact Option.some.inj hs'
          clear hs' hSA3
          have hcl := World.block_lt_of_cell? _ _ hc
          have hown4 := ((own2_keep hown hb3).alloc (.cells #[.int .i64 1, .string s] 216)).alloc (.cells #[.int .i64 1, .string s] 216)
          have hnews := World.news_of_block (cs := #[.int .i64 1, .string s]) (t := 216) (fr := (0, 0)) (heap_alloc_new (w3.alloc (.cells #[.int .i64 1, .string s] 216)) (.cells #[.int .i64 1, .string s] 216))
          have hb4 := (hbx.alloc hbx.size (.cells #[.int .i64 1, .string s] 216)).alloc (by have := hbx.size; simp; omega) (.cells #[.int .i64 1, .string s] 216)
          have hsz4 := hb4.size
          rw [show (w3.alloc (.cells #[.int .i64 1, .string s] 216)).heap.size = w3.heap.size + 1 from by simp] at hnews
          go_wp2_with (at_builtin; refine wpList_append_own _ rfl _ _ 184 rfl W1.heap.size 216 i0 (.agg #[.int .i64 0, .string ⟨#[]⟩]) 2 24 Tryz.underlying184 hi hz0 hz1 hz2 rfl (by decide) _ _ _ rfl hown4 ⟨w3.heap.size + 1, 0, none⟩ 1 1 [.int .i64 1, .string s] rfl rfl hnews (by simp [Value.oneCell']) (by unfold maxLen; omega) (by omega) hsz4 ?_; intro v5 w5 hown5 hg5 _)
          have hb5 : Below W1.heap.size W1 w5 := hb4.grown hg5 hsz4 (fun k hk => (hown.lt k hk).1)
          clear hnews hown4 hg5 hb4
          go_roundw
          case rel => exact ⟨i + 1, j + 1, done ++ [(1, s)], by omega, by omega, by go_num, by go_num, by rw [List.append_assoc]; have := hd.out; rw [ed_keep HS.out HTt.out hst.out] at this; exact this, by simpa [edCells_snoc] using hown5, hb5⟩
          case measure => simp [intOf]; omega
        · have hst : Hid (s ≠ t) := fun e => hxy (HE.out.2 e)
          have hxyb : ((x : Int) == (y : Int)) = false := by simpa using fun e : (x : Int) = (y : Int) => hxy (by omega)
          have HXY := Lib.hid hxyb
          clear hxyb
          have hP1 : pl ys.length (i + 1) j < R := by rw [HRR.out]; exact plc_lt (by omega) (by omega)
          have hP2 : pl ys.length i (j + 1) < R := by rw [HRR.out]; exact plc_lt (by omega) (by omega)
          have q1 : cs[pl ys.length (i + 1) j]? = some (lc (xs.drop (i + 1)) (ys.drop j)) := HT.out.at (by omega) (by omega)
          have q2 : cs[pl ys.length i (j + 1)]? = some (lc (xs.drop i) (ys.drop (j + 1))) := HT.out.at (by omega) (by omega)
          have NE := next_else ga gb gr xs.length ys.length R i j x y _ _ hi1 hj1 (by omega) (by omega) HXY.out hP1 hP2 wr HC1.out HC2.out (K.cellR q1) (K.cellR q2)
          clear q1 q2 hP1 hP2 hxy
          by_cases hle : lc (xs.drop i) (ys.drop (j + 1)) ≤ lc (xs.drop (i + 1)) (ys.drop j)
          · rw [if_pos (by omega)] at NE
            have HNE := Lib.hid NE
            have HLE := Lib.hid hle
            clear NE hle
            go_wp2_with fail
            refine (HNE.out).mono ?_
            rintro e w3 ⟨rfl, hb3⟩
            have hbx := hbr.trans (hb3.mono hbr.size)
            have hSA3 := (HSA.out.below hbx)
            obtain ⟨ad, s', rfl, hs', hc⟩ := hSA3.cell (k := i) (by omega)
            obtain rfl : s = s' := by rw [HS.out] at hs'; exact Option.some.inj hs'
            clear hs' hSA3
            have hcl := World.block_lt_of_cell? _ _ hc
            have hown4 := ((own2_keep hown hb3).alloc (.cells #[.int .i64 2, .string s] 216)).alloc (.cells #[.int .i64 2, .string s] 216)
            have hnews := World.news_of_block (cs := #[.int .i64 2, .string s]) (t := 216) (fr := (0, 0)) (heap_alloc_new (w3.alloc (.cells #[.int .i64 2, .string s] 216)) (.cells #[.int .i64 2, .string s] 216))
            have hb4 := (hbx.alloc hbx.size (.cells #[.int .i64 2, .string s] 216)).alloc (by have := hbx.size; simp; omega) (.cells #[.int .i64 2, .string s] 216)
            have hsz4 := hb4.size
            rw [show (w3.alloc (.cells #[.int .i64 2, .string s] 216)).heap.size = w3.heap.size + 1 from by simp] at hnews
            go_wp2_with (at_builtin; refine wpList_append_own _ rfl _ _ 184 rfl W1.heap.size 216 i0 (.agg #[.int .i64 0, .string ⟨#[]⟩]) 2 24 Tryz.underlying184 hi hz0 hz1 hz2 rfl (by decide) _ _ _ rfl hown4 ⟨w3.heap.size + 1, 0, none⟩ 1 1 [.int .i64 2, .string s] rfl rfl hnews (by simp [Value.oneCell']) (by unfold maxLen; omega) (by omega) hsz4 ?_; intro v5 w5 hown5 hg5 _)
            have hb5 : Below W1.heap.size W1 w5 := hb4.grown hg5 hsz4 (fun k hk => (hown.lt k hk).1)
            clear hnews hown4 hg5 hb4
            go_roundw
            case rel => exact ⟨i + 1, j, done ++ [(2, s)], by omega, by omega, by go_num, by go_num, by rw [List.append_assoc]; have := hd.out; rw [ed_else HS.out HTt.out hst.out, if_pos HLE.out] at this; exact this, by simpa [edCells_snoc] using hown5, hb5⟩
            case measure => simp [intOf]; omega
          · rw [if_neg (by omega)] at NE
            have HNE := Lib.hid NE
            have HLE := Lib.hid hle
            clear NE hle
            go_wp2_with fail
            refine (HNE.out).mono ?_
            rintro e w3 ⟨rfl, hb3⟩
            have hbx := hbr.trans (hb3.mono hbr.size)
            have hSB3 := (HSB.out.below hbx)
            obtain ⟨ad, t', rfl, ht', hc⟩ := hSB3.cell (k := j) (by omega)
            obtain rfl : t = t' := by rw [HTt.out] at ht'; exact Option.some.inj ht'
            clear ht' hSB3
            have hcl := World.block_lt_of_cell? _ _ hc
            have hown4 := ((own2_keep hown hb3).alloc (.cells #[.int .i64 3, .string t] 216)).alloc (.cells #[.int .i64 3, .string t] 216)
            have hnews := World.news_of_block (cs := #[.int .i64 3, .string t]) (t := 216) (fr := (0, 0)) (heap_alloc_new (w3.alloc (.cells #[.int .i64 3, .string t] 216)) (.cells #[.int .i64 3, .string t] 216))
            have hb4 := (hbx.alloc hbx.size (.cells #[.int .i64 3, .string t] 216)).alloc (by have := hbx.size; simp; omega) (.cells #[.int .i64 3, .string t] 216)
            have hsz4 := hb4.size
            rw [show (w3.alloc (.cells #[.int .i64 3, .string t] 216)).heap.size = w3.heap.size + 1 from by simp] at hnews
            go_wp2_with (at_builtin; refine wpList_append_own _ rfl _ _ 184 rfl W1.heap.size 216 i0 (.agg #[.int .i64 0, .string ⟨#[]⟩]) 2 24 Tryz.underlying184 hi hz0 hz1 hz2 rfl (by decide) _ _ _ rfl hown4 ⟨w3.heap.size + 1, 0, none⟩ 1 1 [.int .i64 3, .string t] rfl rfl hnews (by simp [Value.oneCell']) (by unfold maxLen; omega) (by omega) hsz4 ?_; intro v5 w5 hown5 hg5 _)
            have hb5 : Below W1.heap.size W1 w5 := hb4.grown hg5 hsz4 (fun k hk => (hown.lt k hk).1)
            clear hnews hown4 hg5 hb4
            go_roundw
            case rel => exact ⟨i, j + 1, done ++ [(3, t)], by omega, by omega, by go_num, by go_num, by rw [List.append_assoc]; have := hd.out; rw [ed_else HS.out HTt.out hst.out, if_neg HLE.out] at this; exact this, by simpa [edCells_snoc] using hown5, hb5⟩
            case measure => simp [intOf]; omega
      · obtain rfl : j = ys.length := by omega
        go_wp2_with fail
        refine (next_end_b ga gb gr xs.length ys.length R i hi1 wr).mono ?_
        rintro e w3 ⟨rfl, hb3⟩
        have hbx := hbr.trans (hb3.mono hbr.size)
        have hSA3 := (HSA.out.below hbx)
        obtain ⟨ad, s', rfl, hs', hc⟩ := hSA3.cell (k := i) (by omega)
        obtain rfl : s = s' := by rw [HS.out] at hs'; exact Option.some.inj hs'
        clear hs' hSA3
        have hcl := World.block_lt_of_cell? _ _ hc
        have hown4 := ((own2_keep hown hb3).alloc (.cells #[.int .i64 2, .string s] 216)).alloc (.cells #[.int .i64 2, .string s] 216)
        have hnews := World.news_of_block (cs := #[.int .i64 2, .string s]) (t := 216) (fr := (0, 0)) (heap_alloc_new (w3.alloc (.cells #[.int .i64 2, .string s] 216)) (.cells #[.int .i64 2, .string s] 216))
        have hb4 := (hbx.alloc hbx.size (.cells #[.int .i64 2, .string s] 216)).alloc (by have := hbx.size; simp; omega) (.cells #[.int .i64 2, .string s] 216)
        have hsz4 := hb4.size
        rw [show (w3.alloc (.cells #[.int .i64 2, .string s] 216)).heap.size = w3.heap.size + 1 from by simp] at hnews
        go_wp2_with (at_builtin; refine wpList_append_own _ rfl _ _ 184 rfl W1.heap.size 216 i0 (.agg #[.int .i64 0, .string ⟨#[]⟩]) 2 24 Tryz.underlying184 hi hz0 hz1 hz2 rfl (by decide) _ _ _ rfl hown4 ⟨w3.heap.size + 1, 0, none⟩ 1 1 [.int .i64 2, .string s] rfl rfl hnews (by simp [Value.oneCell']) (by unfold maxLen; omega) (by omega) hsz4 ?_; intro v5 w5 hown5 hg5 _)
        have hb5 : Below W1.heap.size W1 w5 := hb4.grown hg5 hsz4 (fun k hk => (hown.lt k hk).1)
        clear hnews hown4 hg5 hb4
        go_roundw
        case rel => exact ⟨i + 1, ys.length, done ++ [(2, s)], by omega, by omega, by go_num, by go_num, by rw [List.append_assoc]; have := hd.out; rw [ed_end_b HS.out] at this; exact this, by simpa [edCells_snoc] using hown5, hb5⟩
        case measure => simp [intOf]; omega
    · obtain rfl : i = xs.length := by omega
      by_cases hj1 : j < ys.length
      · obtain ⟨t, ht⟩ : ∃ t, ys[j]? = some t := ⟨_, List.getElem?_eq_getElem hj1⟩
        have HTt := Lib.hid ht
        clear ht
        go_wp2_with fail
        refine (next_end_a ga gb gr xs.length ys.length R j wr).mono ?_
        rintro e w3 ⟨rfl, hb3⟩
        have hbx := hbr.trans (hb3.mono hbr.size)
        have hSB3 := (HSB.out.below hbx)
        obtain ⟨ad, t', rfl, ht', hc⟩ := hSB3.cell (k := j) (by omega)
        obtain rfl : t = t' := by rw [HTt.out] at ht'; exact Option.some.inj ht'
        clear ht' hSB3
        have hcl := World.block_lt_of_cell? _ _ hc
        have hown4 := ((own2_keep hown hb3).alloc (.cells #[.int .i64 3, .string t] 216)).alloc (.cells #[.int .i64 3, .string t] 216)
        have hnews := World.news_of_block (cs := #[.int .i64 3, .string t]) (t := 216) (fr := (0, 0)) (heap_alloc_new (w3.alloc (.cells #[.int .i64 3, .string t] 216)) (.cells #[.int .i64 3, .string t] 216))
        have hb4 := (hbx.alloc hbx.size (.cells #[.int .i64 3, .string t] 216)).alloc (by have := hbx.size; simp; omega) (.cells #[.int .i64 3, .string t] 216)
        have hsz4 := hb4.size
        rw [show (w3.alloc (.cells #[.int .i64 3, .string t] 216)).heap.size = w3.heap.size + 1 from by simp] at hnews
        go_wp2_with (at_builtin; refine wpList_append_own _ rfl _ _ 184 rfl W1.heap.size 216 i0 (.agg #[.int .i64 0, .string ⟨#[]⟩]) 2 24 Tryz.underlying184 hi hz0 hz1 hz2 rfl (by decide) _ _ _ rfl hown4 ⟨w3.heap.size + 1, 0, none⟩ 1 1 [.int .i64 3, .string t] rfl rfl hnews (by simp [Value.oneCell']) (by unfold maxLen; omega) (by omega) hsz4 ?_; intro v5 w5 hown5 hg5 _)
        have hb5 : Below W1.heap.size W1 w5 := hb4.grown hg5 hsz4 (fun k hk => (hown.lt k hk).1)
        clear hnews hown4 hg5 hb4
        go_roundw
        case rel => exact ⟨xs.length, j + 1, done ++ [(3, t)], by omega, by omega, by go_num, by go_num, by rw [List.append_assoc]; have := hd.out; rw [ed_end_a HTt.out] at this; exact this, by simpa [edCells_snoc] using hown5, hb5⟩
        case measure => simp [intOf]; omega
      · obtain rfl : j = ys.length := by omega
        have hdone : Hid (done = ed xs ys) := by
          have := hd.out
          rw [List.drop_length, List.drop_length] at this
          rw [← this]
          exact (List.append_nil done).symm
        clear hd
        go_wp2
        go_ret2
        refine ⟨u8, rfl, ?_, E4.trans (hbr.mono hwW)⟩
        rw [← hdone.out]
        exact own2_le hown hwW

end Go.Proofs.YtapcnmnnichamaaGreatDoor.Mg
