/-
  A range over a function whose iterator keeps a state of its own in a captured cell: one law for the caller. It stands on the kit's laws for 'range over a function' (Derived.RangeFuncFrom and what it imports) and goes the way of 'wpIn_rangeFunc_ownF' there, with one block more that may turn: the captured one.
  strings.SplitSeq at a stroke: what the iterator hands out, one by one.
  goodByte and goodPart: what may be in a part of a path.
  path.Check: what is wrong with a text as a path.
  (Row).Cut, (Row).Clear: a tree without a file, without what clashes with a path.
  (Entry).excludes; the closures of index.Put, index.Drop, (Entry).wrong; index.without, index.Drop.
  slices.IndexFunc, slices.ContainsFunc at entries, over a bound method.
  What (Row).Check says of a tree, in plain words: the first file that may not be, and why.
  (Row).refuses: why a file can't follow the files of a row.
  (Entry).wrong: its closure; what is wrong with an entry by itself.
  (Entry).wrong behind other entries.
  slices.Concat of trees.
-/
import Derived.RangeFuncNested
import Derived.RangeFuncBound
import Derived.RangeFuncCalls
import Derived.RangeFuncLeaves
import Derived.Shelf.Abstract
import Derived.Shelf.RegionOpen
import Derived.WalkKit
import Derived.OwnWalkIn
import Derived.TacticsInMore
import Derived.LoopNIn
import Derived.LoopIn
import Derived.Test.YtplleaimmmanhaaDoorG2
import Derived.Lib.IndexBytes
import Derived.Test.YtplleaimmmanhaaDoorG1
import Derived.Lib.Hide
import Derived.WalkSpells
import Derived.WalkSmall
import Derived.LoopTactic
import Derived.IntWalk
namespace Go.Proofs.YtplleaimmmanhaaDoor
open Go Go.RowKit

variable {F : Fence} {n : Nat} {P : Program}

/-- What may turn between two looks: the captured block, or a block that is no cells and lies from B on. -/
def May (C B : Nat) (W : World) (row : Option Nat) : Prop := ∀ r, row = some r → r = C ∨ (B ≤ r ∧ ∃ o : Obj, W.heap[r]? = some o ∧ o.isCells = false)
def Abide {β : Type} (C B : Nat) (I : β → World → Prop) : Prop := ∀ s W W' row, I s W → W.grownBy W' row → May C B W row → I s W'
theorem Abide.put {β : Type} {C B : Nat} {I : β → World → Prop} (h : Abide C B I) {s : β} {W : World} {l : Nat} {o : Obj} (o' : Obj) (hs : I s W) (hB : B ≤ l) (hl : W.heap[l]? = some o) (ho : o.isCells = false) : I s (W.putObj l o') :=
  h s W _ (some l) hs (grownBy_putObj' W l o') (fun r e => by cases e; exact .inr ⟨hB, o, hl, ho⟩)
theorem Abide.new {β : Type} {C B : Nat} {I : β → World → Prop} (h : Abide C B I) {s : β} {W : World} (o : Obj) (hs : I s W) : I s (W.alloc o) :=
  h s W _ none hs (World.grownBy_alloc W o none) (fun r e => by cases e)

/-- An iterator that turns the captured block C alone, beside what its rounds do. -/
def SeqCap {α : Type} (F : Fence) (n : Nat) (P : Program) (g : Nat) (lb : Array Value) (encs : α → Array Value) (Kp : World → World → Prop) (C : Nat) (Ok : α → Prop) (S Sp : List α → Prop) (N : Nat) (w : World) : Prop :=
  ∀ (l : Nat) (J Jx : List α → World → Prop) (W : World), Below w.heap.size w W →
    (∀ s A A' row, J s A → A.grownBy A' row → (∀ r, row = some r → r = C) → J s A') →
    (∀ pre x W1, J pre W1 → pre.length < N → Ok x → YieldAt F (n - 1) P l (encs x) W1 fun e W' =>
      (e = .returned (.bool true) ∧ J (pre ++ [x]) W' ∧ Kp W1 W') ∨ (e = .returned (.bool false) ∧ Jx (pre ++ [x]) W')) →
    J [] W →
    CallsIn F n P g (#[.func (.yield l) #[] #[]] ++ lb) W fun e W' => (∃ v, e = .returned v) ∧ ((∃ xs, S xs ∧ J xs W') ∨ (∃ pre, Sp pre ∧ Jx pre W'))

theorem range_cap {α : Type} {g : Operand} {ps : Array Tmp} {assign body : Code} {Q : Exit → Act → World → Prop} {a : Act} {w : World}
    (hro : F.round = none) (h1 : 1 ≤ n) {gf : Nat} {lb : Array Value} (hg : a.eval g = .func (.func gf) #[] lb) (hFg : F.fn gf) (eg : ∀ args w, (callFunc gf args).run P w = .ok (.enter gf args) w)
    {encs : α → Array Value} {Kp : World → World → Prop} {Ok : α → Prop} {S Sp : List α → Prop} {N C : Nat} {w0 : World} (hseq : SeqCap F (n - 1) P gf lb encs Kp C Ok S Sp N w0) (hC : C < w.heap.size)
    (hKt : ∀ {A B D : World}, Kp A B → Kp B D → Kp A D) (hKb : ∀ (W : World) (l : Nat) (o o' : Obj), w.heap.size ≤ l → W.heap[l]? = some o → o.isCells = false → o.isWalk = false → Kp W (W.putObj l o')) (hb0 : Below w0.heap.size w0 w) (hps : ∀ x, (encs x).size = ps.size)
    (I : List α → World → Prop) (Ix : Code → List α → World → Prop) (hI : Abide C w.heap.size I) (hIx : ∀ c, Abide C w.heap.size (Ix c)) (h0 : I [] w) (a₁ : α → Act)
    (hassign : ∀ (l : Nat) (x : α) (W : World) (K : Act → World → Prop), K (a₁ x) W →
      assign.wpIn (F.inRound l) (n - 1 - 1) P (Exit.then K (fun _ _ _ => False)) { tmps := (ps.zip (encs x)).foldl (fun t (p, v) => t.setIfInBounds p v) a.tmps, defers := [] } W)
    (hbody : ∀ (l : Nat) (pre : List α) (x : α) (W : World), I pre W → pre.length < N → Ok x → body.wpIn (F.inRound l) (n - 1 - 1) P (ownPostK Kp I Ix (pre ++ [x]) W) (a₁ x) W)
    (hdone : ∀ (D : Nat) (xs : List α) (W : World), w.heap.size ≤ D → S xs → I xs W → W.heap[D]? = some (.deferred (some [])) → Q .normal { a with defers := { target := .collected D, args := #[] } :: a.defers } W)
    (hstop : ∀ (D : Nat) (c : Code) (pre : List α) (W : World), w.heap.size ≤ D → Sp pre → Ix c pre W → W.heap[D]? = some (.deferred (some [])) → c.wpIn F n P Q { a with defers := { target := .collected D, args := #[] } :: a.defers } W) :
    (Code.rangeFunc g ps assign body).wpIn F n P Q a w := by
  refine wpIn_rangeFunc fun fn hfn => ?_
  rw [hro]
  obtain ⟨rec, hrec⟩ : ∃ rec : LoopState → Option Code → Loop, rec = fun st pe => { state := st, pending := pe, fn, tmps := a.tmps, params := ps, assign, body, defers := w.heap.size } := ⟨_, rfl⟩
  obtain ⟨L, hL⟩ : ∃ L, L = w.heap.size + 1 := ⟨_, rfl⟩
  obtain ⟨W1, hW1⟩ : ∃ W1, (w.alloc (.deferred (some []))).alloc (.loop (rec .ready none)) = W1 := ⟨_, rfl⟩
  have q1 : W1.heap[L]? = some (.loop (rec .ready none)) := by
    rw [← hW1, hL]
    have := World.alloc_heap_new (w.alloc (.deferred (some []))) (.loop (rec .ready none))
    rwa [World.size_alloc] at this
  have q2 : W1.heap[w.heap.size]? = some (.deferred (some [])) := by rw [← hW1]; exact (Below.heap_alloc _ _ _ (by simp)).trans (World.alloc_heap_new w _)
  have q3 : I [] W1 := by rw [← hW1]; exact hI.new _ (hI.new _ h0)
  have q4 : Below w0.heap.size w0 W1 := by rw [← hW1]; exact hb0.trans ((((Below.refl _ w).alloc (Nat.le_refl _) _).alloc (by simp) _).mono hb0.size)
  have stay : ∀ {A B : World} {row : Option Nat} {k : Nat} {o : Obj}, A.grownBy B row → (∀ r, row = some r → r = C) → w.heap.size ≤ k → A.heap[k]? = some o → B.heap[k]? = some o := fun hgr hr hk ho =>
    (hgr.block _ (Array.getElem?_eq_some_iff.1 ho).1 (fun e => by have := hr _ e.symm; omega)).trans ho
  have turn : ∀ {A : World} {row : Option Nat}, (∀ r, row = some r → r = C) → May C w.heap.size A row := fun hr r e => .inl (hr r e)
  refine ⟨L, [{ target := .collected w.heap.size, args := #[] }], W1, { target := .fn (.func gf) lb, args := #[.func (.yield L) #[] #[]] }, W1, gf, #[.func (.yield L) #[] #[]] ++ lb, W1, ?_, ?_, ?_, ?_, fun _ => h1, ?_⟩
  · rw [← hW1, hrec, hL]; exact run_enterLoop_outer _ _ _ _ _
  · simp only [resolve, hg]
    simp [go_sem]
  · intro f' hf'; simp [Target.leads] at hf'; subst hf'; exact hFg
  · simp [invoke, go_sem, eg]
  · refine (hseq L
      (fun pre W => I pre W ∧ W.heap[L]? = some (.loop (rec .ready none)) ∧ W.heap[w.heap.size]? = some (.deferred (some [])))
      (fun pre W => ∃ c, Ix c pre W ∧ W.heap[L]? = some (.loop (rec .done (some c))) ∧ W.heap[w.heap.size]? = some (.deferred (some [])))
      W1 q4 (fun s A B row hs hgr hr => ⟨hI s A B row hs.1 hgr (turn hr), stay hgr hr (by omega) hs.2.1, stay hgr hr (Nat.le_refl _) hs.2.2⟩) ?_ ⟨q3, q1, q2⟩).mono ?_
    · rintro pre x W ⟨hi, hl, hk⟩ hlen hok
      have hlt : L < W.heap.size := (Array.getElem?_eq_some_iff.1 hl).1
      have hy := run_yield (P := P) (args := encs x) hl (by rw [hrec]; exact hps x)
      rw [hrec] at hy
      obtain ⟨bz, hbz⟩ : ∃ bz : Loop, bz = { rec .ready none with state := .busy } := ⟨_, rfl⟩
      refine ⟨fn, _, assign, body, hy, roundIn_of_wpIn hfn (hassign _ x W _ ⟨_, run_beginRound hl (by rw [hrec]), ?_⟩)⟩
      rw [← hbz]
      have hl2 : (W.putObj L (.loop bz)).heap[L]? = some (.loop bz) := World.putObj_heap_same hlt
      have hk2 : (W.putObj L (.loop bz)).heap[w.heap.size]? = some (.deferred (some [])) := (World.putObj_heap_other (by omega)).trans hk
      have hw2 : Kp W (W.putObj L (.loop bz)) := hKb _ _ _ _ (by omega) hl rfl rfl
      have fin : ∀ (jump : Option Code) (W3 : World), KeepsOthers (W.putObj L (.loop bz)) W3 →
          (Instr.endRound L jump).run P W3 = .ok (.bool jump.isNone) (W3.putObj L (.loop (rec (if jump.isNone then .ready else .done) jump))) ∧
          W3.heap[L]? = some (.loop bz) ∧
          (W3.putObj L (.loop (rec (if jump.isNone then .ready else .done) jump))).heap[L]? = some (.loop (rec (if jump.isNone then .ready else .done) jump)) ∧
          (W3.putObj L (.loop (rec (if jump.isNone then .ready else .done) jump))).heap[w.heap.size]? = some (.deferred (some [])) := fun jump W3 hk3 => by
        have hl3 := hk3.same _ _ hl2 rfl
        have hr := run_endRound (P := P) jump hl3
        rw [hbz, hrec] at hr
        refine ⟨by rw [hrec]; exact hr, hl3, World.putObj_heap_same (Array.getElem?_eq_some_iff.1 hl3).1, (World.putObj_heap_other (by omega)).trans (hk3.same _ _ hk2 rfl)⟩
      refine wpIn_mono (hbody _ pre x _ (hI.put _ hi (by omega) hl rfl) hlen hok) ?_
      rintro e a3 W3 hp
      have leave : ∀ c, KeepsOthers (W.putObj L (.loop bz)) W3 ∧ Ix c (pre ++ [x]) W3 → _ := fun c (h : KeepsOthers (W.putObj L (.loop bz)) W3 ∧ Ix c (pre ++ [x]) W3) => by
        obtain ⟨hr, hl3, hl4, hk4⟩ := fin (some c) W3 h.1
        exact And.intro hr (And.intro ((hIx c).put (.loop (rec .done (some c))) h.2 (by omega) hl3 rfl) (And.intro hl4 hk4))
      cases e with
      | normal =>
        obtain ⟨hk3, hkp3, hi3⟩ := hp
        obtain ⟨hr, hl3, hl4, hk4⟩ := fin none W3 hk3
        exact ⟨_, _, hr, .inl ⟨rfl, ⟨hI.put _ hi3 (by omega) hl3 rfl, hl4, hk4⟩, hKt (hKt hw2 hkp3) (hKb _ _ _ _ (by omega) hl3 rfl rfl)⟩⟩
      | ret => have h := leave .ret hp; exact ⟨_, _, h.1, .inr ⟨rfl, .ret, h.2⟩⟩
      | exit id => have h := leave (.exit id) hp; exact ⟨_, _, h.1, .inr ⟨rfl, .exit id, h.2⟩⟩
      | goto t => have h := leave (.goto t) hp; exact ⟨_, _, h.1, .inr ⟨rfl, .goto t, h.2⟩⟩
      | panic ch => exact hp.elim
      | outgrown => exact hp.elim
    · rintro e W2 ⟨⟨v, rfl⟩, (⟨xs, hS, hi, hl, hk⟩ | ⟨pre, hSp, c, hi, hl, hk⟩)⟩
      · have hr := run_endLoop (P := P) hl (by rw [hrec]; simp)
        rw [hrec] at hr
        exact ⟨none, _, hr, hdone _ xs _ (Nat.le_refl _) hS (hI.put _ hi (by omega) hl rfl) ((World.putObj_heap_other (by omega)).trans hk)⟩
      · have hr := run_endLoop (P := P) hl (by rw [hrec]; simp)
        rw [hrec] at hr
        exact ⟨some c, _, hr, hstop _ c pre _ (Nat.le_refl _) hSp ((hIx c).put _ hi (by omega) hl rfl) ((World.putObj_heap_other (by omega)).trans hk)⟩
end Go.Proofs.YtplleaimmmanhaaDoor
namespace Go.Proofs.YtplleaimmmanhaaDoor
open Go Go.RowKit Go.Shelf
open Go.Lib (indexByte indexByte_ge indexByte_some)
theorem spl_miss : ∀ l : List UInt8, indexByte l 47 = -1 → spl l = [l]
  | [], _ => rfl
  | c :: r, h => by
    unfold indexByte at h
    by_cases hc : c = 47
    · subst hc; simp at h
    · have hc2 : (c == 47) = false := by simpa using hc
      rw [hc2] at h
      simp only [Bool.false_eq_true, if_false] at h
      by_cases h1 : indexByte r 47 = -1
      · rw [spl, if_neg hc, spl_miss r h1]; rfl
      · have h2 : (indexByte r 47 == -1) = false := by simpa using h1
        rw [h2] at h
        have := indexByte_ge r 47
        simp at h
        omega
theorem spl_hit : ∀ (l : List UInt8) (i : Nat), indexByte l 47 = i → spl l = l.take i :: spl (l.drop (i + 1))
  | [], i, h => by simp [indexByte] at h
  | c :: r, i, h => by
    unfold indexByte at h
    by_cases hc : c = 47
    · subst hc
      simp at h
      obtain rfl : i = 0 := by omega
      rw [spl, if_pos rfl]; rfl
    · have hc2 : (c == 47) = false := by simpa using hc
      rw [hc2] at h
      simp only [Bool.false_eq_true, if_false] at h
      by_cases h1 : indexByte r 47 = -1
      · rw [h1] at h; simp at h
      · have h2 : (indexByte r 47 == -1) = false := by simpa using h1
        have hg := indexByte_ge r 47
        rw [h2] at h
        simp only [Bool.false_eq_true, if_false] at h
        obtain ⟨k, rfl⟩ : ∃ k, i = k + 1 := ⟨i - 1, by omega⟩
        have ih := spl_hit r k (by omega)
        rw [spl, if_neg hc, ih]
        rfl
theorem index_lt (l : List UInt8) (i : Nat) (h : indexByte l 47 = i) : i < l.length := by
  have := (indexByte_some h).1
  exact (List.getElem?_eq_some_iff.1 this).1
attribute [local go_sem] Oper.semAt_some

/-- The pieces that have come, and the rest, are the text's. -/
def Came (s : ByteArray) (pre : List ByteArray) (rest : ByteArray) : Prop := pre.map (·.data.toList) ++ spl rest.data.toList = spl s.data.toList
def AllCame (s : ByteArray) (xs : List ByteArray) : Prop := xs.map (·.data.toList) = spl s.data.toList
def SomeCame (s : ByteArray) (pre : List ByteArray) : Prop := ∃ more, pre.map (·.data.toList) ++ more = spl s.data.toList
/-- How long the text in a cell is. -/
def lenAt (C : Nat) (W : World) : Nat := match W.cell? ⟨C, 0, none⟩ with | some (.string r) => r.size | _ => 0

theorem came_more {s rest : ByteArray} {pre : List ByteArray} (h : Came s pre rest) : pre.length < (spl s.data.toList).length := by
  unfold Came at h
  have := congrArg List.length h
  have h2 := List.length_pos_iff.2 (spl_ne rest.data.toList)
  simp at this
  omega

set_option maxHeartbeats 1000000 in
theorem seq_cap (s : ByteArray) (C : Nat) (w : World) (hs : s.size ≤ 1000000) (hlt : C + 2 < w.heap.size)
    (h0 : w.cell? ⟨C, 0, none⟩ = some (.string s)) (f0 : w.frozen? ⟨C, 0, none⟩ = false) (h1 : w.cell? ⟨C + 1, 0, none⟩ = some (.string ⟨#[47]⟩)) (h2 : w.cell? ⟨C + 1 + 1, 0, none⟩ = some (.int .i64 0)) :
    SeqCap Fence.wide 2 Tryd.prog 128 #[.pointer (some ⟨C + 1, 0, none⟩), .pointer (some ⟨C, 0, none⟩), .pointer (some ⟨C + 1 + 1, 0, none⟩)] (fun x => #[.string x]) (fun A B => Below w.heap.size A B) C (fun x => x.size ≤ s.size) (AllCame s) (SomeCame s) (spl s.data.toList).length w := by
  intro l J Jx W hW hJ hY h0J
  have g0 : W.cell? ⟨C, 0, none⟩ = some (.string s) := (hW.cell (p := ⟨C, 0, none⟩) (by show C < _; omega)).trans h0
  have g1 : W.cell? ⟨C + 1, 0, none⟩ = some (.string ⟨#[47]⟩) := (hW.cell (p := ⟨C + 1, 0, none⟩) (by show C + 1 < _; omega)).trans h1
  have g2 : W.cell? ⟨C + 1 + 1, 0, none⟩ = some (.int .i64 0) := (hW.cell (p := ⟨C + 1 + 1, 0, none⟩) (by show C + 1 + 1 < _; omega)).trans h2
  have k0 : W.frozen? ⟨C, 0, none⟩ = false := (hW.frozen (p := ⟨C, 0, none⟩) (by show C < _; omega)).trans f0
  have HY := Lib.hid hY
  have HJ := Lib.hid hJ
  have H0 := Lib.hid h0J
  clear hY hJ h0J h0 h1 h2 f0 hW
  refine callsIn_of_wp Tryd.func128 rfl trivial ?_ rfl
  simp only [Tryd.ntmps128, List.size_toArray, List.length_cons, List.length_nil, Nat.reduceAdd, Nat.reduceSub, Array.replicate_succ, Array.replicate_zero, List.push_toArray, List.append_toArray, List.nil_append, List.cons_append]
  gi_wp2
  gi_loopw [7] (fun _ wr => ∃ (pre : List ByteArray) (rest : ByteArray), Came s pre rest ∧ rest.size ≤ s.size ∧ wr.cell? ⟨C, 0, none⟩ = some (.string rest) ∧ wr.frozen? ⟨C, 0, none⟩ = false ∧ wr.cell? ⟨C + 1, 0, none⟩ = some (.string ⟨#[47]⟩) ∧ wr.cell? ⟨C + 1 + 1, 0, none⟩ = some (.int .i64 0) ∧ Hid (J pre wr))
    (fun _ wr => lenAt C wr)
  case atStart => exact ⟨[], s, rfl, Nat.le_refl _, g0, k0, g1, g2, H0⟩
  case round =>
    obtain ⟨pre, rest, hcm, hle, c0, d0, c1, c2, hJs⟩ := hrel
    have hlen := came_more hcm
    have HX := Lib.hid fun W => Tryd.strings_Index_one rest 47 W
    rcases Int.lt_or_le (Lib.indexByte rest.data.toList 47) 0 with hx | hx
    · have hm : Lib.indexByte rest.data.toList 47 = -1 := by have := Lib.indexByte_ge rest.data.toList 47; omega
      rw [hm] at HX
      have HM := Lib.hid hm
      clear hx hm
      obtain ⟨fn, tmps, assign, body, hy, hR⟩ := HY.out pre rest wr hJs.out hlen hle
      gi_wp2_with (refine ⟨trivial, ?_⟩; gi_at_call 130; refine (callsIn_wide.2 (HX.out _)).mono ?_; rintro e w' ⟨rfl, rfl⟩)
      refine hR.mono ?_
      rintro e W' (⟨rfl, hJ', hk⟩ | ⟨rfl, hJx'⟩)
      · have HE := Lib.hid hJ'
        clear hJ' hk hy
        gi_wp2
        go_end0
        exact ⟨⟨_, rfl⟩, .inl ⟨pre ++ [rest], by have := hcm; unfold Came at this; rw [spl_miss _ HM.out] at this; unfold AllCame; simpa using this, HE.out⟩⟩
      · have HE := Lib.hid hJx'
        clear hJx' hy
        gi_wp2
        go_end0
        exact ⟨⟨_, rfl⟩, .inr ⟨pre ++ [rest], ⟨[], by have := hcm; unfold Came at this; rw [spl_miss _ HM.out] at this; simpa using this⟩, HE.out⟩⟩
    · obtain ⟨i, hi⟩ : ∃ i : Nat, Lib.indexByte rest.data.toList 47 = i := ⟨(Lib.indexByte rest.data.toList 47).toNat, by omega⟩
      have hli := index_lt _ _ hi
      rw [hi] at HX
      have HI := Lib.hid hi
      have hsz : rest.data.toList.length = rest.size := by rw [Array.length_toList]; rfl
      rw [hsz] at hli
      clear hx hi hsz
      have hi0 : (0 : Int) ≤ (i : Int) := Int.natCast_nonneg _
      have hi1 : (i : Int) + 1 ≤ (rest.size : Int) := by omega
      have hi2 : (i : Int) ≤ (rest.size : Int) := by omega
      obtain ⟨fn, tmps, assign, body, hy, hR⟩ := HY.out pre (rest.extract 0 i) wr hJs.out hlen (by rw [ByteArray.size_extract]; omega)
      gi_wp2_with (refine ⟨trivial, ?_⟩; gi_at_call 130; refine (callsIn_wide.2 (HX.out _)).mono ?_; rintro e w' ⟨rfl, rfl⟩)
      have ht : (rest.extract 0 i).data.toList = rest.data.toList.take i := Lib.extract_from_zero rest i
      have hd : (rest.extract (i + 1) rest.size).data.toList = rest.data.toList.drop (i + 1) := Lib.extract_to_end rest (i + 1)
      have hsp := spl_hit _ _ HI.out
      refine hR.mono ?_
      rintro e W' (⟨rfl, hJ', hk⟩ | ⟨rfl, hJx'⟩)
      · have HE := Lib.hid hJ'
        have e0 : W'.cell? ⟨C, 0, none⟩ = some (.string rest) := (hk.cell (p := ⟨C, 0, none⟩) (by show C < _; omega)).trans c0
        have e1 : W'.cell? ⟨C + 1, 0, none⟩ = some (.string ⟨#[47]⟩) := (hk.cell (p := ⟨C + 1, 0, none⟩) (by show C + 1 < _; omega)).trans c1
        have e2 : W'.cell? ⟨C + 1 + 1, 0, none⟩ = some (.int .i64 0) := (hk.cell (p := ⟨C + 1 + 1, 0, none⟩) (by show C + 1 + 1 < _; omega)).trans c2
        have e3 : W'.frozen? ⟨C, 0, none⟩ = false := (hk.frozen (p := ⟨C, 0, none⟩) (by show C < _; omega)).trans d0
        have HT := Lib.hid ht
        have HD := Lib.hid hd
        have HSP := Lib.hid hsp
        have HCM := Lib.hid hcm
        clear hJ' hk hy ht hd hsp hcm
        gi_wp2
        go_roundw
        case rel =>
          refine ⟨pre ++ [rest.extract 0 i], rest.extract (i + 1) rest.size, ?_, ?_, World.cell?_setCell_same' _ _ _ (by rw [e0]; rfl), by rw [World.frozen?_setCell]; exact e3, ?_, ?_, ?_⟩
          · have h := HCM.out
            unfold Came at h ⊢
            rw [HSP.out] at h
            rw [HD.out, List.map_append]
            simp only [List.map_cons, List.map_nil, HT.out]
            rw [List.append_assoc]
            exact h
          · rw [ByteArray.size_extract]; omega
          · exact (World.cell?_setCell_other _ _ _ _ (by intro e; injection e with e; omega)).trans e1
          · exact (World.cell?_setCell_other _ _ _ _ (by intro e; injection e with e; omega)).trans e2
          · exact HJ.out _ W' _ (some C) HE.out ⟨rfl, rfl, rfl, by simp, fun k _ hk => Below.heap_setCell _ _ _ _ (fun e => hk (by rw [e]))⟩ (fun r e => by cases e; rfl)
        case measure =>
          have h1 : lenAt C (W'.setCell ⟨C, 0, none⟩ (.string (rest.extract (i + 1) rest.size))) = (rest.extract (i + 1) rest.size).size := by
            unfold lenAt; rw [World.cell?_setCell_same' _ _ _ (by rw [e0]; rfl)]
          have h2 : lenAt C w' = rest.size := by unfold lenAt; rw [c0]
          rw [h1, h2, ByteArray.size_extract]; omega
      · have HE := Lib.hid hJx'
        have h := hcm
        unfold Came at h
        rw [hsp, ← ht] at h
        have HH : Hid (SomeCame s (pre ++ [rest.extract 0 i])) := Lib.hid ⟨spl (rest.data.toList.drop (i + 1)), by rw [List.map_append, List.append_assoc]; exact h⟩
        clear hJx' hy ht hd hsp hcm h
        gi_wp2
        refine bodyPost_ret (results_none rfl _ _ _) rfl ?_
        exact ⟨⟨_, rfl⟩, .inr ⟨pre ++ [rest.extract 0 i], HH.out, HE.out⟩⟩
end Go.Proofs.YtplleaimmmanhaaDoor
namespace Go.Proofs.YtplleaimmmanhaaDoor
open Go Go.RowKit

theorem byte_any (c : Int) (w : World) (h0 : 0 ≤ c) (h1 : c ≤ 255) : Calls Tryd.prog 125 #[.int .u8 c] w fun e w' => e = .returned (.bool (gbv c)) ∧ w = w' := by
  by_cases h46 : c = 46
  · subst h46
    have hg : Hid (true = gbv 46) := by show true = gbv 46; rfl
    go_enter Tryd.func125, Tryd.ntmps125
    go_wp2
    all_goals
      go_ret
      exact ⟨ret_b hg.out, rfl⟩
  · by_cases h45 : c = 45
    · subst h45
      have hg : Hid (true = gbv 45) := by show true = gbv 45; rfl
      go_enter Tryd.func125, Tryd.ntmps125
      go_wp2
      all_goals
        go_ret
        exact ⟨ret_b hg.out, rfl⟩
    · by_cases h95 : c = 95
      · subst h95
        have hg : Hid (true = gbv 95) := by show true = gbv 95; rfl
        go_enter Tryd.func125, Tryd.ntmps125
        go_wp2
        all_goals
          go_ret
          exact ⟨ret_b hg.out, rfl⟩
      · have b1 : (c == 46) = false := by rw [beq_eq_false_iff_ne]; exact h46
        have b2 : (c == 45) = false := by rw [beq_eq_false_iff_ne]; exact h45
        have b3 : (c == 95) = false := by rw [beq_eq_false_iff_ne]; exact h95
        go_enter Tryd.func125, Tryd.ntmps125
        go_wp2
        all_goals
          go_ret
          exact ⟨ret_b (by unfold gbv; rw [Bool.eq_iff_iff]; simp only [Bool.or_eq_true, Bool.and_eq_true, decide_eq_true_eq, Bool.false_eq_true, true_iff, false_iff] <;> omega), rfl⟩

set_option maxHeartbeats 2000000 in
theorem part_any (s : ByteArray) (w : World) (hs : s.size ≤ 1000000) : Calls Tryd.prog 108 #[.string s] w fun e w' => e = .returned (.bool (gp s.data.toList)) ∧ w = w' := by
  have hsz : s.data.toList.length = s.size := by rw [Array.length_toList]; rfl
  by_cases e0 : s.data.toList = []
  · obtain rfl := bytes_eq (b := ⟨#[]⟩) e0
    clear hsz e0
    go_enter Tryd.func108, Tryd.ntmps108
    go_wp2
    go_ret
    exact ⟨rfl, rfl⟩
  by_cases e1 : s.data.toList = [46]
  · obtain rfl := bytes_eq (b := ⟨#[46]⟩) e1
    clear hsz e0 e1
    go_enter Tryd.func108, Tryd.ntmps108
    go_wp2
    go_ret
    exact ⟨rfl, rfl⟩
  by_cases e2 : s.data.toList = [46, 46]
  · obtain rfl := bytes_eq (b := ⟨#[46, 46]⟩) e2
    clear hsz e0 e1 e2
    go_enter Tryd.func108, Tryd.ntmps108
    go_wp2
    go_ret
    exact ⟨rfl, rfl⟩
  have q0 : ¬ s.toList = [] := by rw [ByteArray.toList_eq]; exact e0
  have q0' : s.toList.isEmpty = false := by rw [List.isEmpty_eq_false_iff]; exact q0
  have q1 : ¬ s.toList = [46] := by rw [ByteArray.toList_eq]; exact e1
  have q1' : (s.toList == [46]) = false := by rw [beq_eq_false_iff_ne]; exact q1
  have q2 : ¬ s.toList = [46, 46] := by rw [ByteArray.toList_eq]; exact e2
  have q2' : (s.toList == [46, 46]) = false := by rw [beq_eq_false_iff_ne]; exact q2
  have E := Lib.hid (And.intro e0 (And.intro e1 e2))
  have HS := Lib.hid hsz
  clear e0 e1 e2 hsz
  go_enter Tryd.func108, Tryd.ntmps108
  go_wp2
  go_loop [3, 11] (fun _ i => ∃ k : Nat, k ≤ s.size ∧ i = .int .i64 k ∧ Hid (∀ j (hj : j < s.size), j < k → gbv (s[j].toNat : Int) = true)) (fun _ i => s.size - (intOf i).toNat)
  case atStart => exact ⟨0, Nat.zero_le _, rfl, fun j _ h => absurd h (Nat.not_lt_zero _)⟩
  case round =>
    obtain ⟨k, hk, rfl, I⟩ := hrel
    have hk0 : (0 : Int) ≤ (k : Int) := Int.natCast_nonneg _
    by_cases hlt : k < s.size
    · have hki : (k : Int) < (s.size : Int) := by omega
      have hb := UInt8.toNat_lt s[k]
      have B := Lib.hid fun W => byte_any (s[k].toNat : Int) W (by omega) (by omega)
      cases hg : gbv (s[k].toNat : Int) with
      | true =>
        rw [hg] at B
        have HX := Lib.hid hg
        clear hg
        go_wp2_with (go_at_call 125; refine (B.out _).mono ?_; rintro e w' ⟨rfl, rfl⟩)
        go_round
        case rel => exact ⟨k + 1, by omega, by go_num, fun j hj hjk => by
          rcases Nat.lt_or_ge j k with h | h
          · exact I.out j hj h
          · obtain rfl : j = k := by omega
            exact HX.out⟩
        case measure => simp [intOf]; omega
      | false =>
        rw [hg] at B
        have HX := Lib.hid hg
        clear hg
        go_wp2_with (go_at_call 125; refine (B.out _).mono ?_; rintro e w' ⟨rfl, rfl⟩)
        go_ret
        exact ⟨ret_b (gp_bad (l := s.data.toList) (j := k) (by rw [HS.out]; exact hlt) HX.out).symm, rfl⟩
    · go_wp2
      go_ret
      exact ⟨ret_b (gp_all E.out.1 E.out.2.1 E.out.2.2 fun j hj => I.out j (by rw [HS.out] at hj; exact hj) (by rw [HS.out] at hj; omega)).symm, rfl⟩
end Go.Proofs.YtplleaimmmanhaaDoor
namespace Go.Proofs.YtplleaimmmanhaaDoor
open Go Go.RowKit Go.Shelf
attribute [local go_sem] Oper.semAt_some

theorem may_cell {C B : Nat} {W W' : World} {row : Option Nat} {a : Addr} {v : Value} (h : W.cell? a = some v) (hg : W.grownBy W' row) (hm : May C B W row) (hne : a.block ≠ C) : W'.cell? a = some v := by
  obtain ⟨o, ho, hc⟩ := cells_of_cell h
  have hlt := World.block_lt_of_cell? W a h
  refine (World.cell?_of_block (hg.block a.block hlt fun e => ?_)).trans h
  rcases hm _ e.symm with e1 | ⟨_, o', ho', hc'⟩
  · exact hne e1
  · rw [ho] at ho'; cases ho'; rw [hc] at hc'; cases hc'
theorem may_frozen {C B : Nat} {W W' : World} {row : Option Nat} {a : Addr} {v : Value} (h : W.cell? a = some v) (hg : W.grownBy W' row) (hm : May C B W row) (hne : a.block ≠ C) : W'.frozen? a = W.frozen? a := by
  obtain ⟨o, ho, hc⟩ := cells_of_cell h
  have hlt := World.block_lt_of_cell? W a h
  refine World.frozen?_of_block (hg.block a.block hlt fun e => ?_)
  rcases hm _ e.symm with e1 | ⟨_, o', ho', hc'⟩
  · exact hne e1
  · rw [ho] at ho'; cases ho'; rw [hc] at hc'; cases hc'
theorem may_below {C B N : Nat} {w W W' : World} {row : Option Nat} (h : Below N w W) (hg : W.grownBy W' row) (hm : May C B W row) (hC : N ≤ C) (hB : N ≤ B) (hN : N ≤ W.heap.size) : Below N w W' :=
  h.grown hg hN fun k hk => by
    rcases hm k hk with e | ⟨e, _⟩
    · omega
    · omega

theorem cell_new_l (W : World) (v : Value) (t : TypeId) : (W.alloc (.cells #[v] t)).cell? ⟨W.heap.size, 0, none⟩ = some v ∧ (W.alloc (.cells #[v] t)).frozen? ⟨W.heap.size, 0, none⟩ = false := by
  have h := heap_alloc_new W (.cells #[v] t)
  exact ⟨cell_of_row _ W.heap.size 0 #[v] t (0, 0) h, by unfold World.frozen?; rw [h]; simp⟩
theorem cell_alloc_l {W : World} {a : Addr} {v : Value} (o : Obj) (h : W.cell? a = some v) : (W.alloc o).cell? a = some v :=
  (World.cell?_alloc_lt W o a (World.block_lt_of_cell? W a h)).trans h
theorem frozen_alloc_l {W : World} {a : Addr} {v : Value} (o : Obj) (h : W.cell? a = some v) (hf : W.frozen? a = false) : (W.alloc o).frozen? a = false :=
  (World.frozen?_of_block (Below.heap_alloc W o a.block (World.block_lt_of_cell? W a h))).trans hf

theorem split_any (s : ByteArray) (w : World) : Calls Tryd.prog 107 #[.string s, .string ⟨#[47]⟩] w fun e w' =>
    e = .returned (.func (.func 128) #[] #[.pointer (some ⟨w.heap.size + 1, 0, none⟩), .pointer (some ⟨w.heap.size, 0, none⟩), .pointer (some ⟨w.heap.size + 1 + 1, 0, none⟩)]) ∧
    ((w.alloc (.cells #[.string s] 9)).alloc (.cells #[.string ⟨#[47]⟩] 9)).alloc (.cells #[.int .i64 0] 3) = w' := by
  have h39 : Calls Tryd.prog 124 #[.string s, .string ⟨#[47]⟩, .int .i64 0] w fun e w' =>
      e = .returned (.func (.func 128) #[] #[.pointer (some ⟨w.heap.size + 1, 0, none⟩), .pointer (some ⟨w.heap.size, 0, none⟩), .pointer (some ⟨w.heap.size + 1 + 1, 0, none⟩)]) ∧
      ((w.alloc (.cells #[.string s] 9)).alloc (.cells #[.string ⟨#[47]⟩] 9)).alloc (.cells #[.int .i64 0] 3) = w' := by
    go_enter Tryd.func124, Tryd.ntmps124
    go_wp2
    go_ret
    exact ⟨rfl, rfl⟩
  go_enter Tryd.func107, Tryd.ntmps107
  go_wp2_with (go_at_call 124; refine h39.mono ?_; rintro e w' ⟨rfl, rfl⟩)
  go_ret
  exact ⟨rfl, rfl⟩

theorem check_long (s : ByteArray) (w : World) (hs : s.size ≤ 9223372036854775807) (h : 64 < s.size) : Calls Tryd.prog 63 #[.string s] w fun e w' => e = .returned (.int .i64 4) ∧ Below w.heap.size w w' := by
  have hi : (64 : Int) < (s.size : Int) := by omega
  go_enter Tryd.func63, Tryd.ntmps63
  go_wp2
  refine bodyPost_ret (v := .int .i64 4) (by simp [results, Tryd.results63, go_sem]) rfl ⟨rfl, ?_⟩
  exact (Below.refl _ _).alloc (Nat.le_refl _) _
theorem check_empty (w : World) : Calls Tryd.prog 63 #[.string ⟨#[]⟩] w fun e w' => e = .returned (.int .i64 5) ∧ Below w.heap.size w w' := by
  go_enter Tryd.func63, Tryd.ntmps63
  go_wp2
  refine bodyPost_ret (v := .int .i64 5) (by simp [results, Tryd.results63, go_sem]) rfl ⟨rfl, ?_⟩
  exact (Below.refl _ _).alloc (Nat.le_refl _) _

set_option maxHeartbeats 2000000 in
theorem check_main (s : ByteArray) (w : World) (h0 : ¬ s.data.toList = []) (h : ¬ 64 < s.size) : Calls Tryd.prog 63 #[.string s] w (Checked s w) := by
  have hi : ¬ (64 : Int) < (s.size : Int) := by omega
  have hi2 : (s.size : Int) ≤ 64 := by omega
  have q0 : ¬ s.toList = [] := by rw [ByteArray.toList_eq]; exact h0
  have q0' : s.toList.isEmpty = false := by rw [List.isEmpty_eq_false_iff]; exact q0
  have hsz : s.data.toList.length = s.size := by rw [Array.length_toList]; rfl
  have HS := Lib.hid hsz
  have H0 := Lib.hid h0
  clear hsz h0
  refine (callsIn_wide (n := 3)).1 ?_
  refine callsIn_of_wp_marks Tryd.func63 rfl trivial ?_ rfl
  simp only [Tryd.ntmps63, List.size_toArray, List.length_cons, List.length_nil, Nat.reduceAdd, Nat.reduceSub, Array.replicate_succ, Array.replicate_zero, List.push_toArray, List.append_toArray, List.nil_append, List.cons_append]
  gi_wp2_with (refine ⟨trivial, ?_⟩; gi_at_call 107; refine (callsIn_wide.2 (split_any s _)).mono ?_; rintro e w' ⟨rfl, rfl⟩)
  have c0 := cell_new_l w (.int .i64 0) 72
  have c1 := cell_new_l (w.alloc (.cells #[.int .i64 0] 72)) (.string s) 9
  have c2 := cell_new_l ((w.alloc (.cells #[.int .i64 0] 72)).alloc (.cells #[.string s] 9)) (.string ⟨#[47]⟩) 9
  have c3 := cell_new_l (((w.alloc (.cells #[.int .i64 0] 72)).alloc (.cells #[.string s] 9)).alloc (.cells #[.string ⟨#[47]⟩] 9)) (.int .i64 0) 3
  simp only [World.size_alloc] at c1 c2 c3
  have hB0 : Below w.heap.size w ((((w.alloc (.cells #[.int .i64 0] 72)).alloc (.cells #[.string s] 9)).alloc (.cells #[.string ⟨#[47]⟩] 9)).alloc (.cells #[.int .i64 0] 3)) := ((((Below.refl _ w).alloc (Nat.le_refl _) _).alloc (by simp) _).alloc (by simp; omega) _).alloc (by simp; omega) _
  have d0 := cell_alloc_l (.cells #[.int .i64 0] 3) (cell_alloc_l (.cells #[.string ⟨#[47]⟩] 9) (cell_alloc_l (.cells #[.string s] 9) c0.1))
  have d1 := cell_alloc_l (.cells #[.int .i64 0] 3) (cell_alloc_l (.cells #[.string ⟨#[47]⟩] 9) c1.1)
  have d2 := cell_alloc_l (.cells #[.int .i64 0] 3) c2.1
  have d3 := c3.1
  have e0 := frozen_alloc_l (.cells #[.int .i64 0] 3) (cell_alloc_l (.cells #[.string ⟨#[47]⟩] 9) (cell_alloc_l (.cells #[.string s] 9) c0.1)) (frozen_alloc_l (.cells #[.string ⟨#[47]⟩] 9) (cell_alloc_l (.cells #[.string s] 9) c0.1) (frozen_alloc_l (.cells #[.string s] 9) c0.1 c0.2))
  have e1 := frozen_alloc_l (.cells #[.int .i64 0] 3) (cell_alloc_l (.cells #[.string ⟨#[47]⟩] 9) c1.1) (frozen_alloc_l (.cells #[.string ⟨#[47]⟩] 9) c1.1 c1.2)
  have hz : ((((w.alloc (.cells #[.int .i64 0] 72)).alloc (.cells #[.string s] 9)).alloc (.cells #[.string ⟨#[47]⟩] 9)).alloc (.cells #[.int .i64 0] 3)).heap.size = w.heap.size + 4 := by simp
  clear c0 c1 c2 c3
  have HZ := Lib.hid hz
  refine range_cap rfl (by omega) (gf := 128) rfl trivial (enters_of Tryd.func128 (by kernel_rfl) rfl)
    (seq_cap s (w.heap.size + 1) _ (by omega) (by omega) d1 e1 d2 d3) (by omega) (fun h k => h.trans k) (belowK_b (Nat.le_refl _)) (Below.refl _ _) (fun _ => rfl)
    (fun pre W => ((∀ x ∈ pre, gp x.data.toList = true) ∧ W.cell? ⟨w.heap.size, 0, none⟩ = some (.int .i64 0) ∧ W.frozen? ⟨w.heap.size, 0, none⟩ = false) ∧ Below w.heap.size w W)
    (fun c pre W => (c = .ret ∧ (∃ x ∈ pre, gp x.data.toList = false) ∧ W.cell? ⟨w.heap.size, 0, none⟩ = some (.int .i64 5)) ∧ Below w.heap.size w W)
    (fun pre A B row hs hg hm => ⟨⟨hs.1.1, may_cell hs.1.2.1 hg hm (by show w.heap.size ≠ _; omega), (may_frozen hs.1.2.1 hg hm (by show w.heap.size ≠ _; omega)).trans hs.1.2.2⟩, may_below hs.2 hg hm (by omega) (by omega) hs.2.size⟩)
    (fun c pre A B row hs hg hm => ⟨⟨hs.1.1, hs.1.2.1, may_cell hs.1.2.2 hg hm (by show w.heap.size ≠ _; omega)⟩, may_below hs.2 hg hm (by omega) (by omega) hs.2.size⟩)
    ⟨⟨by simp, d0, e0⟩, hB0⟩
    (fun x => { tmps := #[.string s, undef, .pointer (some ⟨w.heap.size, 0, none⟩), .string x, .string s, .int .i64 s.size, .bool false, .string s, .bool false, .string s, .func (.func 128) #[] #[.pointer (some ⟨w.heap.size + 1 + 1, 0, none⟩), .pointer (some ⟨w.heap.size + 1, 0, none⟩), .pointer (some ⟨w.heap.size + 1 + 1 + 1, 0, none⟩)], .string x, undef, undef, undef], defers := [] }) ?assign ?body ?done ?stop
  case assign =>
    intro l x W K hK
    gi_wp2
    exact hK
  case body =>
    rintro l pre x W ⟨⟨hp, hc, hf⟩, hB⟩ _ hx
    have hxs : x.size ≤ s.size := hx
    have HP := Lib.hid fun W => part_any x W (by omega)
    cases hg : gp x.data.toList with
    | true =>
      rw [hg] at HP
      have HG := Lib.hid hg
      clear hg hx
      gi_wp2_with (refine ⟨trivial, ?_⟩; gi_at_call 108; refine (CallsIn.inRound l (callsIn_wide.2 (HP.out _))).mono ?_; rintro e w' ⟨rfl, rfl⟩)
      exact ⟨KeepsOthers.refl _, Below.refl _ _, ⟨fun y hy => (List.mem_append.1 hy).elim (hp y) (fun e => by simp at e; subst e; exact HG.out), hc, hf⟩, hB⟩
    | false =>
      rw [hg] at HP
      have HG := Lib.hid hg
      clear hg hx
      gi_wp2_with (refine ⟨trivial, ?_⟩; gi_at_call 108; refine (CallsIn.inRound l (callsIn_wide.2 (HP.out _))).mono ?_; rintro e w' ⟨rfl, rfl⟩)
      exact ⟨KeepsOthers.setCell _ _ _, ⟨rfl, ⟨x, List.mem_append.2 (.inr (by simp)), HG.out⟩, World.cell?_setCell_same' _ _ _ (by rw [hc]; rfl)⟩, hB.setCell (p := ⟨w.heap.size, 0, none⟩) (Nat.le_refl _) _⟩
  case done =>
    rintro D ys W hD hys ⟨⟨hall, hc, hf⟩, hB⟩ hK
    have HA : Hid (chk s.data.toList = 0) := by
      refine chk_good (by rw [HS.out]; exact h) H0.out ?_
      have hy2 : ys.map (·.data.toList) = spl s.data.toList := hys
      rw [← hy2, List.all_eq_true]
      intro x hx
      obtain ⟨y, hy, rfl⟩ := List.mem_map.1 hx
      exact hall y hy
    rw [hz] at hD
    gi_wp2
    have hK' := (KeepsOthers.setCell W ⟨w.heap.size, 0, none⟩ (.int .i64 0)).same D _ hK rfl
    refine ⟨by simp, .inl ⟨_, _, rfl, run_takeDeferred hK', ?_⟩⟩
    have hc5 := cell_kept (World.cell?_setCell_same' W ⟨w.heap.size, 0, none⟩ (.int .i64 0) (by rw [hc]; rfl)) (grownBy_putObj' _ D (.deferred none)) (fun r e => by cases e; exact ⟨_, hK', rfl⟩)
    refine ⟨.int .i64 0, ?_, by rw [HA.out], (hB.setCell (p := ⟨w.heap.size, 0, none⟩) (Nat.le_refl _) _).trans (belowK_b (w := w) (Nat.le_refl _) _ D _ _ (by omega) hK' rfl rfl)⟩
    simp [results, Tryd.f63, go_sem, hc5]
  case stop =>
    rintro D c pre W hD hpre ⟨⟨rfl, hin, hc⟩, hB⟩ hK
    have HA : Hid (chk s.data.toList = 5) := by
      refine chk_bad (by rw [HS.out]; exact h) H0.out ?_
      obtain ⟨more, hm⟩ := hpre
      obtain ⟨x, hx, hg⟩ := hin
      rw [← hm, Bool.eq_false_iff]
      intro ha
      rw [List.all_eq_true] at ha
      have := ha x.data.toList (List.mem_append.2 (.inl (List.mem_map.2 ⟨x, hx, rfl⟩)))
      rw [hg] at this
      cases this
    rw [hz] at hD
    gi_wp2
    refine ⟨by simp, .inl ⟨_, _, rfl, run_takeDeferred hK, ?_⟩⟩
    have hc5 := cell_kept hc (grownBy_putObj' _ D (.deferred none)) (fun r e => by cases e; exact ⟨_, hK, rfl⟩)
    refine ⟨.int .i64 5, ?_, by rw [HA.out], hB.trans (belowK_b (w := w) (Nat.le_refl _) W D _ _ (by omega) hK rfl rfl)⟩
    simp [results, Tryd.f63, go_sem, hc5]

theorem check_any (s : ByteArray) (w : World) (hs : s.size ≤ 9223372036854775807) : Calls Tryd.prog 63 #[.string s] w (Checked s w) := by
  have hsz : s.data.toList.length = s.size := by rw [Array.length_toList]; rfl
  by_cases h : 64 < s.size
  · refine (check_long s w hs h).mono ?_
    rintro e w' ⟨rfl, hb⟩
    exact ⟨by rw [chk_long (by rw [hsz]; exact h)], hb⟩
  · by_cases h0 : s.data.toList = []
    · obtain rfl := bytes_eq (b := ⟨#[]⟩) h0
      exact check_empty w
    · exact check_main s w h0 h
end Go.Proofs.YtplleaimmmanhaaDoor
namespace Go.Proofs.YtplleaimmmanhaaDoor
open Go Go.RowKit

def clearF (l : List Fl) (p : ByteArray) : List Fl := l.filter fun x => !cls x.1.data.toList p.data.toList
theorem clear_rise {l : List Fl} (hr : RiseF l) (p : ByteArray) : RiseF (clearF l p) := hr.filter _
theorem cut_eq (l : List Fl) (p : ByteArray) : (l.filter fun x => !decide (x.1 = p)) = cutF l p := by unfold cutF; congr 1; funext x; simp

def ReadTo (l : List Fl) (w : World) (e : Ending) (w' : World) : Prop := KeptTo w.heap.size w l e w'

set_option maxHeartbeats 1000000 in
theorem withoutF_any (w0 w : World) (B : Nat) (hb : Below B w0 w) (hB : B ≤ w.heap.size) (v : Value) (l : List Fl) (g : Nat) (c : Value) (p : Fl → Bool) (h : Reads 3 cF w v l) (hs : Sized l) (hl : l.length ≤ 100000)
    (eg : ∀ args w, (callFunc g args).run Tryd.prog w = .ok (.enter g args) w) (hp : PB B w0 g c p) :
    Calls Tryd.prog 41 #[v, .func (.func g) #[] #[c]] w (KeptTo B w0 (l.filter fun x => !p x)) := by
  have CL := Lib.hid (cloneF_any w v l h hl)
  have DL := Lib.hid fun W (hW : Below B w0 W) (hBW : B ≤ W.heap.size) u ho => deleteF_any w0 W B hW hBW u l g c p ho hs hl eg hp
  clear h hs hp
  go_enter Tryd.func41, Tryd.ntmps41
  go_wp2_with fail
  refine CL.out.mono ?_
  rintro e w1 ⟨u, rfl, ho, hb1⟩
  have HO := Lib.hid (own_base ho hB)
  have HB1 := Lib.hid (hb.trans (hb1.mono hB))
  have hs1 : B ≤ w1.heap.size := by have := hb1.size; omega
  clear ho hb1
  go_wp2_with fail
  refine (DL.out _ HB1.out hs1 _ HO.out).mono ?_
  rintro e w2 ⟨u2, rfl, hr2, hb2⟩
  have HR := Lib.hid hr2
  have HB2 := Lib.hid hb2
  clear hr2 hb2
  go_wp2_with fail
  go_ret
  exact ⟨_, rfl, HR.out, HB2.out⟩

set_option maxHeartbeats 1000000 in
theorem cut_any (w : World) (v : Value) (l : List Fl) (q : ByteArray) (h : Reads 3 cF w v l) (hs : Sized l) (hl : l.length ≤ 100000) :
    Calls Tryd.prog 24 #[v, .string q] w (ReadTo (cutF l q) w) := by
  obtain ⟨W1, hW1⟩ : ∃ W1, W1 = w.alloc (.cells #[.string q] 9) := ⟨_, rfl⟩
  have B1 : Below w.heap.size w W1 := by rw [hW1]; exact (Below.refl _ _).alloc (Nat.le_refl _) _
  have K1 : W1.cell? ⟨w.heap.size, 0, none⟩ = some (.string q) := by rw [hW1]; exact (cell_new_l w _ _).1
  have hsz : W1.heap.size = w.heap.size + 1 := by rw [hW1]; simp
  have WO := Lib.hid (withoutF_any W1 W1 W1.heap.size (Below.refl _ _) (Nat.le_refl _) v l 47 (.pointer (some ⟨w.heap.size, 0, none⟩)) (fun x => decide (x.1 = q)) (h.below B1) hs hl enters_cut (cut_pred W1 _ w.heap.size q K1 (by omega) (Nat.le_refl _)))
  rw [cut_eq] at WO
  have HB1 := Lib.hid B1
  have HW := Lib.hid hsz
  obtain ⟨A, c, rfl⟩ := h.form
  clear h hs K1 B1 hsz
  go_enter Tryd.func24, Tryd.ntmps24
  go_wp2_with fail
  rw [← hW1]
  clear hW1
  refine WO.out.mono ?_
  rintro e w2 ⟨u2, rfl, hr2, hb2⟩
  have HR := Lib.hid hr2
  have HB2 := Lib.hid (HB1.out.trans (hb2.mono HB1.out.size))
  clear hr2 hb2
  go_wp2_with fail
  go_ret
  exact ⟨_, rfl, HR.out, HB2.out⟩

set_option maxHeartbeats 1000000 in
theorem clear_any (w : World) (v : Value) (l : List Fl) (q : ByteArray) (h : Reads 3 cF w v l) (hs : Sized l) (hq : q.size ≤ 1000000) (hl : l.length ≤ 100000) :
    Calls Tryd.prog 20 #[v, .string q] w (ReadTo (clearF l q) w) := by
  obtain ⟨W1, hW1⟩ : ∃ W1, W1 = w.alloc (.cells #[.string q] 9) := ⟨_, rfl⟩
  have B1 : Below w.heap.size w W1 := by rw [hW1]; exact (Below.refl _ _).alloc (Nat.le_refl _) _
  have K1 : W1.cell? ⟨w.heap.size, 0, none⟩ = some (.string q) := by rw [hW1]; exact (cell_new_l w _ _).1
  have hsz : W1.heap.size = w.heap.size + 1 := by rw [hW1]; simp
  have WO := Lib.hid (withoutF_any W1 W1 W1.heap.size (Below.refl _ _) (Nat.le_refl _) v l 42 (.pointer (some ⟨w.heap.size, 0, none⟩)) (fun x => cls x.1.data.toList q.data.toList) (h.below B1) hs hl enters_clear (clear_pred W1 _ w.heap.size q hq K1 (by omega) (Nat.le_refl _)))
  have HB1 := Lib.hid B1
  have HW := Lib.hid hsz
  obtain ⟨A, c, rfl⟩ := h.form
  clear h hs K1 B1 hsz
  go_enter Tryd.func20, Tryd.ntmps20
  go_wp2_with fail
  rw [← hW1]
  clear hW1
  refine WO.out.mono ?_
  rintro e w2 ⟨u2, rfl, hr2, hb2⟩
  have HR := Lib.hid hr2
  have HB2 := Lib.hid (HB1.out.trans (hb2.mono HB1.out.size))
  clear hr2 hb2
  go_wp2_with fail
  go_ret
  exact ⟨_, rfl, HR.out, HB2.out⟩
end Go.Proofs.YtplleaimmmanhaaDoor
namespace Go.Proofs.YtplleaimmmanhaaDoor
open Go Go.RowKit

/-- Can x and e not be both? -/
def exB (e x : En) : Bool := decide (x.1 = e.1) && (decide (x.2.1 = e.2.1) || (decide (x.2.1 = 0) || decide (e.2.1 = 0)))
def FlagE (b : Bool) (w : World) (e : Ending) (w' : World) : Prop := e = .returned (.bool b) ∧ Below w.heap.size w w'
set_option maxRecDepth 100000 in
set_option maxHeartbeats 2000000 in
theorem excludes_any (e x : En) (w : World) : Calls Tryd.prog 55 #[eV e, eV x] w (FlagE (exB e x) w) := by
  obtain ⟨ep, es, em, ed, et, ez⟩ := e
  obtain ⟨xp, xs, xm, xd, xt, xz⟩ := x
  by_cases hp : xp = ep
  · subst hp
    by_cases h1 : xs = es
    · subst h1
      have HV := Lib.hid (show exB (xp, xs, em, ed, et, ez) (xp, xs, xm, xd, xt, xz) = true by simp [exB])
      go_enter Tryd.func55, Tryd.ntmps55
      go_wp2
      go_ret
      exact ⟨ret_b HV.out.symm, ((Below.refl _ _).alloc (Nat.le_refl _) _).alloc (by simp) _⟩
    · have h1b : (xs == es) = false := by simpa using h1
      by_cases h2 : xs = 0
      · have h2b : (xs == 0) = true := by simpa using h2
        have HV := Lib.hid (show exB (xp, es, em, ed, et, ez) (xp, xs, xm, xd, xt, xz) = true by simp [exB, h2])
        clear h1 h2
        go_enter Tryd.func55, Tryd.ntmps55
        go_wp2
        go_ret
        exact ⟨ret_b HV.out.symm, ((Below.refl _ _).alloc (Nat.le_refl _) _).alloc (by simp) _⟩
      · have h2b : (xs == 0) = false := by simpa using h2
        have HV := Lib.hid (show exB (xp, es, em, ed, et, ez) (xp, xs, xm, xd, xt, xz) = (es == 0) by simp [exB, h1, h2]; rw [Bool.eq_iff_iff]; simp)
        clear h1 h2
        go_enter Tryd.func55, Tryd.ntmps55
        go_wp2
        go_ret
        exact ⟨ret_b HV.out.symm, ((Below.refl _ _).alloc (Nat.le_refl _) _).alloc (by simp) _⟩
  · have e1 : ¬ xp.toList = ep.toList := fun h => hp (tl_eq h)
    have e1b : (xp.toList == ep.toList) = false := by simpa using e1
    have HV := Lib.hid (show exB (ep, es, em, ed, et, ez) (xp, xs, xm, xd, xt, xz) = false by simp [exB, hp])
    clear hp
    go_enter Tryd.func55, Tryd.ntmps55
    go_wp2
    go_ret
    exact ⟨ret_b HV.out.symm, ((Below.refl _ _).alloc (Nat.le_refl _) _).alloc (by simp) _⟩

theorem enters_put (args : Array Value) (w : World) : (callFunc 54 args).run Tryd.prog w = .ok (.enter 54 args) w := enters_of Tryd.func54 (by kernel_rfl) rfl args w
theorem enters_drop (args : Array Value) (w : World) : (callFunc 87 args).run Tryd.prog w = .ok (.enter 87 args) w := enters_of Tryd.func87 (by kernel_rfl) rfl args w
theorem enters_wrong (args : Array Value) (w : World) : (callFunc 95 args).run Tryd.prog w = .ok (.enter 95 args) w := enters_of Tryd.func95 (by kernel_rfl) rfl args w
theorem enters_excl (args : Array Value) (w : World) : (callFunc 55 args).run Tryd.prog w = .ok (.enter 55 args) w := enters_of Tryd.func55 (by kernel_rfl) rfl args w

set_option maxHeartbeats 1000000 in
theorem drop_pred (w0 : World) (B b : Nat) (q : ByteArray) (hc : w0.cell? ⟨b, 0, none⟩ = some (.string q)) (hb : b < B) (hB : B ≤ w0.heap.size) :
    PBE B w0 87 (.pointer (some ⟨b, 0, none⟩)) (fun x => decide (x.1 = q)) := by
  intro W x hW _
  have c0 : W.cell? ⟨b, 0, none⟩ = some (.string q) := (hW.cell (p := ⟨b, 0, none⟩) hb).trans hc
  have hlt : b < W.heap.size := Nat.lt_of_lt_of_le hb (Nat.le_trans hB hW.size)
  obtain ⟨p, st, m, d, t, z⟩ := x
  clear hc hW hb hB
  by_cases h : p = q
  · subst h
    go_enter Tryd.func87, Tryd.ntmps87
    go_wp2
    go_ret
    exact ⟨by simp, (Below.refl _ _).alloc (Nat.le_refl _) _⟩
  · have e1 : ¬ p.toList = q.toList := fun e => h (tl_eq e)
    have e1' : (p.toList == q.toList) = false := by simpa using e1
    have HD := Lib.hid (decide_eq_false h)
    clear h
    go_enter Tryd.func87, Tryd.ntmps87
    go_wp2
    go_ret
    exact ⟨ret_b HD.out.symm, (Below.refl _ _).alloc (Nat.le_refl _) _⟩

/-- What can't be beside e goes. -/
def goneB (e x : En) : Bool := exB e x || cls x.1.data.toList e.1.data.toList
set_option maxRecDepth 100000 in
set_option maxHeartbeats 2000000 in
theorem put_pred (w0 : World) (B b : Nat) (e : En) (he : e.1.size ≤ 1000000) (hc : w0.heap[b]? = some (.cells #[.string e.1, .int .i64 e.2.1, .int .i64 e.2.2.1, .string e.2.2.2.1, .int .i64 e.2.2.2.2.1, .int .i64 e.2.2.2.2.2] 57 (0, 0))) (hb : b < B) (hB : B ≤ w0.heap.size) :
    PBE B w0 54 (.pointer (some ⟨b, 0, none⟩)) (goneB e) := by
  intro W x hW hx
  have kW := (hW.block b hb).trans hc
  have hlt : b < W.heap.size := Nat.lt_of_lt_of_le hb (Nat.le_trans hB hW.size)
  obtain ⟨W1, hW1⟩ : ∃ W1, W1 = W.alloc (.cells #[.string x.1, .int .i64 x.2.1, .int .i64 x.2.2.1, .string x.2.2.2.1, .int .i64 x.2.2.2.2.1, .int .i64 x.2.2.2.2.2] 57) := ⟨_, rfl⟩
  have B1 : Below W.heap.size W W1 := by rw [hW1]; exact (Below.refl _ _).alloc (Nat.le_refl _) _
  have k1 : W1.heap[b]? = _ := (B1.block b hlt).trans kW
  obtain ⟨G, hG⟩ : ∃ G, G = W.heap.size := ⟨_, rfl⟩
  have kx : W1.heap[G]? = some (.cells #[.string x.1, .int .i64 x.2.1, .int .i64 x.2.2.1, .string x.2.2.2.1, .int .i64 x.2.2.2.2.1, .int .i64 x.2.2.2.2.2] 57 (0, 0)) := by rw [hW1, hG]; exact heap_alloc_new W _
  have lb : b < W1.heap.size := Nat.lt_of_lt_of_le hlt B1.size
  have lG : G < W1.heap.size := by rw [hG, hW1]; simp
  have EE := Lib.hid fun V (hV : Below W1.heap.size W1 V) => (show V.cell? ⟨b, 0, none⟩ = some (.string e.1) from cell_of_row V b 0 _ 57 (0, 0) ((hV.block b lb).trans k1))
  have XX := Lib.hid fun V (hV : Below W1.heap.size W1 V) => (show V.cell? ⟨G, 0, none⟩ = some (.string x.1) from cell_of_row V G 0 _ 57 (0, 0) ((hV.block G lG).trans kx))
  have a0 := cell_of_row W1 b 0 _ 57 (0, 0) k1
  have a1 := cell_of_row W1 b 1 _ 57 (0, 0) k1
  have a2 := cell_of_row W1 b 2 _ 57 (0, 0) k1
  have a3 := cell_of_row W1 b 3 _ 57 (0, 0) k1
  have a4 := cell_of_row W1 b 4 _ 57 (0, 0) k1
  have a5 := cell_of_row W1 b 5 _ 57 (0, 0) k1
  have EX := Lib.hid (excludes_any e x W1)
  have CL := Lib.hid fun V => clash_any x.1 e.1 V hx he
  have HB1 := Lib.hid B1
  have HGB := Lib.hid (show goneB e x = (exB e x || cls x.1.data.toList e.1.data.toList) from rfl)
  obtain ⟨q, hq⟩ : ∃ q, q = exB e x := ⟨_, rfl⟩
  rw [← hq] at EX HGB
  rw [hW1] at a0 a1 a2 a3 a4 a5
  have b1s := B1.size
  clear hc hW hb hB kW k1 kx B1 hq
  go_enter Tryd.func54, Tryd.ntmps54
  go_wp2_with fail
  rw [← hW1, ← hG]
  clear hW1 hG a0 a1 a2 a3 a4 a5
  refine EX.out.mono ?_
  rintro r w2 ⟨rfl, b2⟩
  have c0 := EE.out w2 b2
  have d0 := XX.out w2 b2
  have HB2 := Lib.hid (HB1.out.trans (b2.mono b1s))
  clear b2 EX
  cases q with
  | true =>
    go_wp2_with fail
    go_ret
    exact ⟨ret_b HGB.out.symm, HB2.out⟩
  | false =>
    go_wp2_with fail
    refine (CL.out _).mono ?_
    rintro r w3 ⟨rfl, rfl⟩
    go_wp2_with fail
    go_ret
    exact ⟨ret_b (by rw [HGB.out]; rfl), HB2.out⟩

def OwnE (l : List En) (w : World) (e : Ending) (w' : World) : Prop := KeptToE w.heap.size w l e w'
set_option maxHeartbeats 1000000 in
theorem withoutE_any (w0 w : World) (B : Nat) (hb : Below B w0 w) (hB : B ≤ w.heap.size) (v : Value) (l : List En) (g : Nat) (c : Value) (p : En → Bool) (h : Reads 6 cE w v l) (hs : SizedE l) (hl : l.length ≤ 100000)
    (eg : ∀ args w, (callFunc g args).run Tryd.prog w = .ok (.enter g args) w) (hp : PBE B w0 g c p) :
    Calls Tryd.prog 53 #[v, .func (.func g) #[] #[c]] w (KeptToE B w0 (l.filter fun x => !p x)) := by
  have CL := Lib.hid (cloneE_any w v l h hl)
  have DL := Lib.hid fun W (hW : Below B w0 W) (hBW : B ≤ W.heap.size) u ho => deleteE_any w0 W B hW hBW u l g c p ho hs hl eg hp
  clear h hs hp
  go_enter Tryd.func53, Tryd.ntmps53
  go_wp2_with fail
  refine CL.out.mono ?_
  rintro e w1 ⟨u, rfl, ho, hb1⟩
  have HO := Lib.hid (own_base ho hB)
  have HB1 := Lib.hid (hb.trans (hb1.mono hB))
  have hs1 : B ≤ w1.heap.size := by have := hb1.size; omega
  clear ho hb1
  go_wp2_with fail
  refine (DL.out _ HB1.out hs1 _ HO.out).mono ?_
  rintro e w2 ⟨u2, rfl, hr2, hb2, hw2⟩
  have HR := Lib.hid hr2
  have HB2 := Lib.hid hb2
  have HW2 := Lib.hid hw2
  clear hr2 hb2 hw2
  go_wp2_with fail
  go_ret
  exact ⟨_, rfl, HR.out, HB2.out, HW2.out⟩

def dropE (l : List En) (p : ByteArray) : List En := l.filter fun x => !decide (x.1 = p)
set_option maxHeartbeats 1000000 in
theorem drop_any (w : World) (v : Value) (l : List En) (q : ByteArray) (h : Reads 6 cE w v l) (hs : SizedE l) (hl : l.length ≤ 100000) :
    Calls Tryd.prog 52 #[v, .string q] w (OwnE (dropE l q) w) := by
  obtain ⟨W1, hW1⟩ : ∃ W1, W1 = w.alloc (.cells #[.string q] 9) := ⟨_, rfl⟩
  have B1 : Below w.heap.size w W1 := by rw [hW1]; exact (Below.refl _ _).alloc (Nat.le_refl _) _
  have K1 : W1.cell? ⟨w.heap.size, 0, none⟩ = some (.string q) := by rw [hW1]; exact (cell_new_l w _ _).1
  have hsz : W1.heap.size = w.heap.size + 1 := by rw [hW1]; simp
  have WO := Lib.hid (withoutE_any W1 W1 W1.heap.size (Below.refl _ _) (Nat.le_refl _) v l 87 (.pointer (some ⟨w.heap.size, 0, none⟩)) (fun x => decide (x.1 = q)) (h.below B1) hs hl enters_drop (drop_pred W1 _ w.heap.size q K1 (by omega) (Nat.le_refl _)))
  have HB1 := Lib.hid B1
  have HW := Lib.hid hsz
  obtain ⟨A, c, rfl⟩ := h.form
  clear h hs K1 B1 hsz
  go_enter Tryd.func52, Tryd.ntmps52
  go_wp2_with fail
  rw [← hW1]
  clear hW1
  refine WO.out.mono ?_
  rintro e w2 ⟨u2, rfl, hr2, hb2, hw2⟩
  have HR := Lib.hid hr2
  have HB2 := Lib.hid (HB1.out.trans (hb2.mono HB1.out.size))
  have HW2 := Lib.hid (own_base hw2 HB1.out.size)
  clear hr2 hb2 hw2
  go_wp2_with fail
  go_ret
  exact ⟨_, rfl, HR.out, HB2.out, HW2.out⟩
end Go.Proofs.YtplleaimmmanhaaDoor
namespace Go.Proofs.YtplleaimmmanhaaDoor
open Go Go.RowKit

/-- A bound method that takes an entry: what it says, wherever all below B is as it was in w0. -/
def PBB (B : Nat) (w0 : World) (g : Nat) (c : Value) (p : En → Bool) : Prop :=
  ∀ (W : World) (x : En), Below B w0 W → x.1.size ≤ 1000000 → Calls Tryd.prog g #[c, .agg #[.string x.1, .int .i64 x.2.1, .int .i64 x.2.2.1, .string x.2.2.2.1, .int .i64 x.2.2.2.2.1, .int .i64 x.2.2.2.2.2]] W fun e w' => e = .returned (.bool (p x)) ∧ Below W.heap.size W w'
set_option maxHeartbeats 2000000 in
theorem indexB_any (w0 w : World) (B : Nat) (hb : Below B w0 w) (hB : B ≤ w.heap.size) (v : Value) (l : List En) (g : Nat) (c : Value) (p : En → Bool) (h : Reads 6 cE w v l) (hs : SizedE l) (hl : l.length ≤ 100000)
    (eg : ∀ args w, (callFunc g args).run Tryd.prog w = .ok (.enter g args) w) (hp : PBB B w0 g c p) :
    Calls Tryd.prog 115 #[v, .func (.func g) #[c] #[]] w (IdxToE p l w) := by
  obtain ⟨A, cap, rfl⟩ := h.form
  have hn := h.len
  have HO := Lib.hid h
  have HP := Lib.hid hp
  have HS := Lib.hid hs
  clear h hn hp hs
  go_enter Tryd.func115, Tryd.ntmps115
  go_wp2
  go_loopw [5, 8] (fun _ s8 wr => ∃ k : Nat, k ≤ l.length ∧ s8 = .int .i64 k ∧ Below w.heap.size w wr ∧ Hid ((l.take k).any p = false)) (fun _ s8 _ => l.length - (intOf s8).toNat)
  case atStart => exact ⟨0, Nat.zero_le _, rfl, Below.refl _ _, Lib.hid (by simp)⟩
  case round =>
    obtain ⟨k, hk, rfl, hb1, A1⟩ := hrel
    by_cases hlt : k < l.length
    · obtain ⟨x, hx⟩ : ∃ x, l[k]? = some x := ⟨_, List.getElem?_eq_getElem hlt⟩
      obtain ⟨ad, rfl, c0, c1, c2, c3, c4, c5⟩ := Ents.at_ (HO.out.below hb1) hx
      have hcall := HP.out wr x (hb.trans (hb1.mono hB)) (HS.out.at_ hx)
      have HX := Lib.hid hx
      have HT : Hid (p x = false → (l.take (k + 1)).any p = false) := Lib.hid fun hq => by
        rw [take_snoc hx, List.any_append, A1.out]; simp [hq]
      clear hx
      cases hq : p x with
      | true =>
        rw [hq] at hcall
        have HQ := Lib.hid hq
        clear hq
        go_wp2_with (go_at_fn g; refine hcall.mono ?_; rintro e w' ⟨rfl, hb2⟩)
        go_ret
        exact ⟨_, rfl, hb1.trans (hb2.mono hb1.size), .inr ⟨k, x, rfl, HX.out, HQ.out, A1.out⟩⟩
      | false =>
        rw [hq] at hcall
        have HQ := Lib.hid hq
        clear hq
        go_wp2_with (go_at_fn g; refine hcall.mono ?_; rintro e w' ⟨rfl, hb2⟩)
        go_roundw
        case rel => exact ⟨k + 1, by omega, by go_num, hb1.trans (hb2.mono hb1.size), Lib.hid (HT.out HQ.out)⟩
        case measure => simp [intOf]; omega
    · obtain rfl : k = l.length := by omega
      go_wp2
      go_ret
      exact ⟨_, rfl, hb1, .inl ⟨rfl, by have := A1.out; rwa [List.take_length] at this⟩⟩

set_option maxHeartbeats 1000000 in
theorem containsB_any (w0 w : World) (B : Nat) (hb : Below B w0 w) (hB : B ≤ w.heap.size) (v : Value) (l : List En) (g : Nat) (c : Value) (p : En → Bool) (h : Reads 6 cE w v l) (hs : SizedE l) (hl : l.length ≤ 100000)
    (eg : ∀ args w, (callFunc g args).run Tryd.prog w = .ok (.enter g args) w) (hp : PBB B w0 g c p) :
    Calls Tryd.prog 94 #[v, .func (.func g) #[c] #[]] w (FlagTo (l.any p) w) := by
  have S := Lib.hid (indexB_any w0 w B hb hB v l g c p h hs hl eg hp)
  obtain ⟨A, cap, rfl⟩ := h.form
  clear h hs hp
  go_enter Tryd.func94, Tryd.ntmps94
  go_wp2_with fail
  refine S.out.mono ?_
  rintro e w' ⟨n, rfl, hb1, hn⟩
  rcases hn with ⟨rfl, hn⟩ | ⟨i, x, rfl, hx, hpx, -⟩
  · have HN := Lib.hid hn
    clear hn
    go_wp2_with fail
    go_ret
    exact ⟨ret_b HN.out.symm, hb1⟩
  · have HN := Lib.hid (any_hitE hx hpx)
    clear hx hpx
    go_wp2_with fail
    go_ret
    exact ⟨ret_b HN.out.symm, hb1⟩

set_option maxHeartbeats 1000000 in
theorem excl_pred (w0 : World) (B : Nat) (e : En) : PBB B w0 55 (eV e) (exB e) := fun W x _ _ => excludes_any e x W
end Go.Proofs.YtplleaimmmanhaaDoor
namespace Go.Proofs.YtplleaimmmanhaaDoor
open Go Go.RowKit

/-- What is wrong with a file by itself. -/
def causeF (f : Fl) : Int := if chk f.1.data.toList ≠ 0 then chk f.1.data.toList else if ¬ (f.2.1 = 1 ∨ f.2.1 = 2) then 1 else if 4096 < f.2.2.size then 4 else 0
/-- Does the last file ahead not lie before it? -/
def lateF (a : List Fl) (f : Fl) : Bool := match a.getLast? with | some g => decide (0 ≤ cb g.1 f.1) | none => false
def clashF (a : List Fl) (p : ByteArray) : Bool := a.any fun g => cls g.1.data.toList p.data.toList
def refF (a : List Fl) (f : Fl) : Int := if causeF f ≠ 0 then causeF f else if lateF a f = true then 6 else if clashF a f.1 = true then 11 else 0
def wrongF : List Fl → List Fl → Option (Nat × Int)
  | _, [] => none
  | a, f :: r => if refF a f ≠ 0 then some (a.length, refF a f) else wrongF (a ++ [f]) r
/-- What Check says. -/
def chkF (l : List Fl) : Option (Nat × Int) := if 64 < l.length then some (64, 4) else wrongF [] l

theorem wrongF_step : ∀ (a r : List Fl), (∀ i f, r[i]? = some f → refF (a ++ r.take i) f = 0) → wrongF a r = none
  | _, [], _ => rfl
  | a, f :: r, h => by
    have h0 := h 0 f rfl
    simp only [List.take_zero, List.append_nil] at h0
    unfold wrongF
    rw [if_neg (by rw [h0]; simp)]
    refine wrongF_step (a ++ [f]) r fun i g hg => ?_
    have := h (i + 1) g (by simpa using hg)
    rw [List.take_succ_cons] at this
    rw [List.append_assoc]
    exact this
theorem wrongF_at : ∀ (a r : List Fl) (i : Nat) (f : Fl), (∀ j g, j < i → r[j]? = some g → refF (a ++ r.take j) g = 0) → r[i]? = some f → refF (a ++ r.take i) f ≠ 0 → wrongF a r = some (a.length + i, refF (a ++ r.take i) f)
  | _, [], _, _, _, h, _ => by simp at h
  | a, f :: r, 0, g, _, h, hr => by
    simp at h
    subst h
    simp only [List.take_zero, List.append_nil] at hr ⊢
    unfold wrongF
    rw [if_pos hr]
    simp
  | a, f :: r, i + 1, g, hb, h, hr => by
    have h0 := hb 0 f (by omega) rfl
    simp only [List.take_zero, List.append_nil] at h0
    unfold wrongF
    rw [if_neg (by rw [h0]; simp)]
    rw [List.take_succ_cons] at hr ⊢
    have := wrongF_at (a ++ [f]) r i g (fun j x hj hx => by
      have := hb (j + 1) x (by omega) (by simpa using hx)
      rw [List.take_succ_cons] at this
      rw [List.append_assoc]
      exact this) (by simpa using h) (by rw [List.append_assoc]; exact hr)
    rw [this, List.append_assoc]
    simp
    omega
theorem wrongF_good : ∀ (a r : List Fl), wrongF a r = none → ∀ i f, r[i]? = some f → refF (a ++ r.take i) f = 0
  | _, [], _, i, f, h => by simp at h
  | a, f :: r, h, i, g, hg => by
    unfold wrongF at h
    by_cases hr : refF a f = 0
    · rw [if_neg (by rw [hr]; simp)] at h
      cases i with
      | zero => simp at hg; subst hg; simpa using hr
      | succ i =>
        have := wrongF_good (a ++ [f]) r h i g (by simpa using hg)
        rw [List.append_assoc] at this
        rw [List.take_succ_cons]
        exact this
    · rw [if_pos hr] at h; cases h
theorem chkF_long {l : List Fl} (h : 64 < l.length) : chkF l = some (64, 4) := if_pos h
theorem chkF_good {l : List Fl} (h : ¬ 64 < l.length) (hg : ∀ i f, l[i]? = some f → refF (l.take i) f = 0) : chkF l = none := by
  unfold chkF
  rw [if_neg h]
  exact wrongF_step [] l fun i f hf => by simpa using hg i f hf
theorem chkF_bad {l : List Fl} {i : Nat} {f : Fl} (h : ¬ 64 < l.length) (hg : ∀ j g, j < i → l[j]? = some g → refF (l.take j) g = 0) (hi : l[i]? = some f) (hb : refF (l.take i) f ≠ 0) : chkF l = some (i, refF (l.take i) f) := by
  unfold chkF
  rw [if_neg h]
  have := wrongF_at [] l i f (fun j g hj hx => by simpa using hg j g hj hx) hi (by simpa using hb)
  simpa using this
theorem chkF_at {l : List Fl} (h : chkF l = none) {i : Nat} {f : Fl} (hi : l[i]? = some f) : refF (l.take i) f = 0 := by
  unfold chkF at h
  by_cases hl : 64 < l.length
  · rw [if_pos hl] at h; cases h
  · rw [if_neg hl] at h
    simpa using wrongF_good [] l h i f hi
theorem chkF_len {l : List Fl} (h : chkF l = none) : l.length ≤ 64 := by
  unfold chkF at h
  by_cases hl : 64 < l.length
  · rw [if_pos hl] at h; cases h
  · omega
theorem refF_cause {a : List Fl} {f : Fl} (h : refF a f = 0) : causeF f = 0 := by
  unfold refF at h
  by_cases hc : causeF f = 0
  · exact hc
  · rw [if_pos hc] at h; exact absurd h hc
theorem refF_late {a : List Fl} {f : Fl} (h : refF a f = 0) : lateF a f = false := by
  have hc := refF_cause h
  unfold refF at h
  rw [if_neg (by rw [hc]; simp)] at h
  by_cases hl : lateF a f = true
  · rw [if_pos hl] at h; cases h
  · simpa using hl
theorem refF_clash {a : List Fl} {f : Fl} (h : refF a f = 0) : clashF a f.1 = false := by
  have hc := refF_cause h
  have hl := refF_late h
  unfold refF at h
  rw [if_neg (by rw [hc]; simp), if_neg (by rw [hl]; simp)] at h
  by_cases hk : clashF a f.1 = true
  · rw [if_pos hk] at h; cases h
  · simpa using hk
theorem refF_zero {a : List Fl} {f : Fl} (hc : causeF f = 0) (hl : lateF a f = false) (hk : clashF a f.1 = false) : refF a f = 0 := by
  unfold refF
  rw [if_neg (by rw [hc]; simp), if_neg (by rw [hl]; simp), if_neg (by rw [hk]; simp)]
theorem causeF_path {f : Fl} (h : causeF f = 0) : chk f.1.data.toList = 0 := by
  unfold causeF at h
  by_cases hc : chk f.1.data.toList = 0
  · exact hc
  · rw [if_pos hc] at h; exact h
theorem causeF_size {f : Fl} (h : causeF f = 0) : f.1.size ≤ 64 := by
  have := causeF_path h
  unfold chk at this
  by_cases hl : 64 < f.1.data.toList.length
  · rw [if_pos hl] at this; cases this
  · rw [size_list] at hl; omega
theorem chkF_rise {l : List Fl} (h : chkF l = none) : RiseF l := by
  refine rise_adj l fun t x y hx hy => ?_
  have := refF_late (chkF_at h hy)
  unfold lateF at this
  rw [List.getLast?_take, if_neg (by omega)] at this
  have e : (l[t + 1 - 1]?).or l.getLast? = some x := by rw [Nat.add_sub_cancel, hx]; rfl
  rw [e] at this
  have := of_decide_eq_false this
  omega
end Go.Proofs.YtplleaimmmanhaaDoor
namespace Go.Proofs.YtplleaimmmanhaaDoor
open Go Go.RowKit

def NumTo (n : Int) (w : World) (e : Ending) (w' : World) : Prop := e = .returned (.int .i64 n) ∧ Below w.heap.size w w'

set_option maxRecDepth 100000 in
set_option maxHeartbeats 4000000 in
theorem refuses_any (w : World) (v : Value) (l : List Fl) (f : Fl) (h : Reads 3 cF w v l) (hs : Sized l) (hf : f.1.size ≤ 1000000) (hd : f.2.2.size ≤ 1000000) (hl : l.length ≤ 100000) :
    Calls Tryd.prog 38 #[v, .agg #[.string f.1, .int .i64 f.2.1, .string f.2.2]] w (NumTo (refF l f) w) := by
  obtain ⟨p, m, d⟩ := f
  simp only at hf hd
  obtain ⟨W1, hW1⟩ : ∃ W1, W1 = w.alloc (.cells #[.string p, .int .i64 m, .string d] 42) := ⟨_, rfl⟩
  have B1 : Below w.heap.size w W1 := by rw [hW1]; exact (Below.refl _ _).alloc (Nat.le_refl _) _
  have K1 : W1.heap[w.heap.size]? = some (.cells #[.string p, .int .i64 m, .string d] 42 (0, 0)) := by rw [hW1]; exact heap_alloc_new w _
  have CK := Lib.hid (check_any p W1 (by omega))
  obtain ⟨G, hG⟩ : ∃ G, G = w.heap.size := ⟨_, rfl⟩
  have hG1 : G < W1.heap.size := by rw [hG, hW1]; simp
  rw [← hG] at K1
  have ZZ := Lib.hid fun W (hW : Below W1.heap.size W1 W) => (show W.cell? ⟨G, 0, none⟩ = some (.string p) ∧ W.cell? ⟨G, 1, none⟩ = some (.int .i64 m) ∧ W.cell? ⟨G, 2, none⟩ = some (.string d) from
    ⟨cell_of_row W G 0 _ 42 (0, 0) ((hW.block G hG1).trans K1), cell_of_row W G 1 _ 42 (0, 0) ((hW.block G hG1).trans K1), cell_of_row W G 2 _ 42 (0, 0) ((hW.block G hG1).trans K1)⟩)
  obtain ⟨y0, y1, y2⟩ := ZZ.out W1 (Below.refl _ _)
  obtain ⟨A, c, rfl⟩ := h.form
  have R1 := Lib.hid (h.below B1)
  have hlen := h.len
  have HB1 := Lib.hid B1
  have HS := Lib.hid hs
  have b1s := B1.size
  clear h K1 B1 hs
  go_enter Tryd.func38, Tryd.ntmps38
  go_wp2_with fail
  rw [← hW1, ← hG]
  clear hW1
  have HG := Lib.hid hG
  clear hG
  refine CK.out.mono ?_
  rintro e w2 ⟨rfl, b2⟩
  obtain ⟨z0, z1, z2⟩ := ZZ.out w2 b2
  have hGl : G < w2.heap.size := Nat.lt_of_lt_of_le hG1 b2.size
  clear y0 y1 y2 CK
  have hle : w.heap.size ≤ G := by rw [HG.out]; exact Nat.le_refl _
  have HB2 := Lib.hid (HB1.out.trans (b2.mono b1s))
  have R2 := Lib.hid (R1.out.below b2)
  clear HB1 R1
  by_cases hc : chk p.data.toList = 0
  · have hc1 : (chk p.data.toList == 0) = true := by simpa using hc
    have hc2 : (chk p.data.toList != 0) = false := by simpa using hc
    have HC := Lib.hid hc
    clear hc
    obtain ⟨c0, hc0⟩ : ∃ c0, c0 = chk p.data.toList := ⟨_, rfl⟩
    by_cases hm : m = 1 ∨ m = 2
    · by_cases hd1 : 4096 < d.size
      · have HV : Hid (refF l (p, m, d) = 4) := Lib.hid (by unfold refF causeF; simp [HC.out, hm, hd1])
        have hdi : (4096 : Int) < (d.size : Int) := by omega
        rcases hm with rfl | rfl
        all_goals
          go_wp2_with fail
          go_ret
          exact ⟨ret_i HV.out.symm, HB2.out⟩
      · have HCF : Hid (causeF (p, m, d) = 0) := Lib.hid (by unfold causeF; simp [HC.out, hm, hd1])
        have hdi : ¬ (4096 : Int) < (d.size : Int) := by omega
        by_cases hl0 : l = []
        · subst hl0
          have HV : Hid (refF [] (p, m, d) = 0) := Lib.hid (refF_zero HCF.out rfl rfl)
          have CT := Lib.hid fun W (hW : Below w2.heap.size w2 W) => containsF_any w2 W w2.heap.size hW hW.size (.slice A ([] : List Fl).length c) [] 65 (.pointer (some ⟨G, 0, none⟩)) (fun x => cls x.1.data.toList p.data.toList) (R2.out.below hW) (fun x hx => by cases hx) (by simp) enters_refuses (refuses_pred w2 _ G p hf z0 hGl (Nat.le_refl _))
          simp only [List.length_nil] at CT ⊢
          rcases hm with rfl | rfl
          all_goals
            go_wp2_with fail
            go_quiet (fail)
            have BQ := Lib.hid (below_drewN (Below.refl w2.heap.size w2) nq)
            go_wp2_with fail
            refine (CT.out _ BQ.out).mono ?_
            rintro e w3 ⟨rfl, b3⟩
            have B3 := Lib.hid (HB2.out.trans (Below.trans BQ.out (b3.mono BQ.out.size) |>.mono HB2.out.size))
            clear b3
            go_wp2_with fail
            go_ret
            exact ⟨ret_i HV.out.symm, B3.out⟩
        · obtain ⟨n, hn⟩ : ∃ n, l.length = n + 1 := ⟨l.length - 1, by have := List.length_pos_iff.2 hl0; omega⟩
          obtain ⟨g, hg⟩ : ∃ g, l[n]? = some g := ⟨_, List.getElem?_eq_getElem (by omega)⟩
          have hlast : l.getLast? = some g := by rw [List.getLast?_eq_getElem?, hn]; exact hg
          obtain ⟨ad, rfl, c0, c1, c2⟩ := Fils.at_ R2.out hg
          have hw : IntKind.i64.wrap ((l.length : Int) - 1) = (n : Int) := by rw [IntKind.wrap_i64] <;> omega
          have hpos : (0 : Int) < (l.length : Int) := by omega
          have hpos2 : 0 < l.length := by omega
          have hnl : (n : Int) < (l.length : Int) := by omega
          have hnl2 : n < l.length := by omega
          have hn0 : (0 : Int) ≤ (n : Int) := Int.natCast_nonneg _
          have HLT : Hid (lateF l (p, m, d) = decide (0 ≤ cb g.1 p)) := Lib.hid (by unfold lateF; rw [hlast])
          have CP := Lib.hid fun W => comp_any g.1 p W
          have CT := Lib.hid fun W (hW : Below w2.heap.size w2 W) => containsF_any w2 W w2.heap.size hW hW.size (.slice (some ad) l.length c) l 65 (.pointer (some ⟨G, 0, none⟩)) (fun x => cls x.1.data.toList p.data.toList) (R2.out.below hW) HS.out hl enters_refuses (refuses_pred w2 _ G p hf z0 hGl (Nat.le_refl _))
          have HCT : Hid (clashF l p = l.any (fun x => cls x.1.data.toList p.data.toList)) := Lib.hid rfl
          obtain ⟨q, hq⟩ : ∃ q, q = l.any (fun x => cls x.1.data.toList p.data.toList) := ⟨_, rfl⟩
          obtain ⟨k, hk⟩ : ∃ k, k = cb g.1 p := ⟨_, rfl⟩
          rw [← hq] at CT HCT
          rw [← hk] at HLT CP
          clear hg hn hlast hq hk hl0
          by_cases hk0 : 0 ≤ k
          · have HV : Hid (refF l (p, m, d) = 6) := Lib.hid (by unfold refF; rw [if_neg (by rw [HCF.out]; simp), if_pos (by rw [HLT.out]; simpa using hk0)])
            rcases hm with rfl | rfl
            all_goals
              go_wp2_with fail
              go_quiet ((go_at_call 36; exact Calls.quiet_of_same ((CP.out _).mono fun _ _ h => ⟨h.1, h.2⟩)))
              have BQ := Lib.hid (below_drewN (Below.refl w2.heap.size w2) nq)
              go_wp2_with fail
              go_ret
              exact ⟨ret_i HV.out.symm, HB2.out.trans (BQ.out.mono HB2.out.size)⟩
          · have HL0 : Hid (lateF l (p, m, d) = false) := Lib.hid (by rw [HLT.out]; simpa using hk0)
            cases q with
            | true =>
              have HV : Hid (refF l (p, m, d) = 11) := Lib.hid (by unfold refF; rw [if_neg (by rw [HCF.out]; simp), if_neg (by rw [HL0.out]; simp), if_pos HCT.out])
              rcases hm with rfl | rfl
              all_goals
                go_wp2_with fail
                go_quiet ((go_at_call 36; exact Calls.quiet_of_same ((CP.out _).mono fun _ _ h => ⟨h.1, h.2⟩)))
                have BQ := Lib.hid (below_drewN (Below.refl w2.heap.size w2) nq)
                go_wp2_with fail
                refine (CT.out _ BQ.out).mono ?_
                rintro e w3 ⟨rfl, b3⟩
                have B3 := Lib.hid (HB2.out.trans (Below.trans BQ.out (b3.mono BQ.out.size) |>.mono HB2.out.size))
                clear b3
                go_wp2_with fail
                go_ret
                exact ⟨ret_i HV.out.symm, B3.out⟩
            | false =>
              have HV : Hid (refF l (p, m, d) = 0) := Lib.hid (refF_zero HCF.out HL0.out HCT.out)
              rcases hm with rfl | rfl
              all_goals
                go_wp2_with fail
                go_quiet ((go_at_call 36; exact Calls.quiet_of_same ((CP.out _).mono fun _ _ h => ⟨h.1, h.2⟩)))
                have BQ := Lib.hid (below_drewN (Below.refl w2.heap.size w2) nq)
                go_wp2_with fail
                refine (CT.out _ BQ.out).mono ?_
                rintro e w3 ⟨rfl, b3⟩
                have B3 := Lib.hid (HB2.out.trans (Below.trans BQ.out (b3.mono BQ.out.size) |>.mono HB2.out.size))
                clear b3
                go_wp2_with fail
                go_ret
                exact ⟨ret_i HV.out.symm, B3.out⟩
    · have HV : Hid (refF l (p, m, d) = 1) := Lib.hid (by unfold refF causeF; simp [HC.out, hm])
      have m1 : (m == 1) = false := by simpa using fun e => hm (.inl e)
      have m2 : (m == 2) = false := by simpa using fun e => hm (.inr e)
      have n1 : (m != 1) = true := by simpa using fun e => hm (.inl e)
      have n2 : (m != 2) = true := by simpa using fun e => hm (.inr e)
      clear hm
      go_wp2_with fail
      go_ret
      exact ⟨ret_i HV.out.symm, HB2.out⟩
  · have HV : Hid (refF l (p, m, d) = chk p.data.toList) := Lib.hid (by unfold refF causeF; simp [hc])
    have hne : (chk p.data.toList == 0) = false := by simpa using hc
    have hne2 : (chk p.data.toList != 0) = true := by simpa using hc
    clear hc
    go_wp2_with fail
    go_ret
    exact ⟨ret_i HV.out.symm, HB2.out⟩
end Go.Proofs.YtplleaimmmanhaaDoor
namespace Go.Proofs.YtplleaimmmanhaaDoor
open Go Go.RowKit

set_option maxHeartbeats 1000000 in
theorem wrong_pred (w0 : World) (B b : Nat) (q : ByteArray) (hq : q.size ≤ 1000000) (hc : w0.cell? ⟨b, 0, none⟩ = some (.string q)) (hb : b < B) (hB : B ≤ w0.heap.size) :
    PBE B w0 95 (.pointer (some ⟨b, 0, none⟩)) (fun x => cls x.1.data.toList q.data.toList) := by
  intro W x hW hx
  have c0 : W.cell? ⟨b, 0, none⟩ = some (.string q) := (hW.cell (p := ⟨b, 0, none⟩) hb).trans hc
  have hlt : b < W.heap.size := Nat.lt_of_lt_of_le hb (Nat.le_trans hB hW.size)
  obtain ⟨p, st, m, d, t, z⟩ := x
  have CL := Lib.hid fun W => clash_any p q W hx hq
  clear hc hW hb hB hx
  go_enter Tryd.func95, Tryd.ntmps95
  go_wp2_with fail
  refine (CL.out _).mono ?_
  rintro e w' ⟨rfl, rfl⟩
  go_wp2_with fail
  go_ret
  exact ⟨rfl, (Below.refl _ _).alloc (Nat.le_refl _) _⟩

/-- Can the numbers of e not be? -/
def badE (e : En) : Bool := decide (e.2.1 < 0) || (decide (3 < e.2.1) || (!(decide (e.2.2.1 = 1) || decide (e.2.2.1 = 2)) || (decide (e.2.2.2.2.1 < 0) || decide (e.2.2.2.2.2 < 0))))
/-- What is wrong with e by itself. -/
def ownE (e : En) : Int := if chk e.1.data.toList ≠ 0 then chk e.1.data.toList else if badE e = true then 1 else if 4096 < e.2.2.2.1.size then 4 else 0
/-- Does e come too late? -/
def lateE (l : List En) (e : En) : Bool := match l.getLast? with | none => false | some g => decide (0 ≤ ec g e)
/-- What is wrong with e behind l. -/
def wrE (l : List En) (e : En) : Int := if ownE e ≠ 0 then ownE e else if (lateE l e || l.any (exB e)) = true then 6 else if l.any (fun x => cls x.1.data.toList e.1.data.toList) = true then 11 else 0
theorem wrE_own {l : List En} {e : En} (h : ownE e ≠ 0) : wrE l e = ownE e := if_pos h

set_option maxRecDepth 100000 in
set_option maxHeartbeats 4000000 in
theorem wrong_own (w : World) (v : Value) (l : List En) (s : En) (h : Reads 6 cE w v l) (hs : s.1.size ≤ 1000000) (hd : s.2.2.2.1.size ≤ 1000000) (hbad : ownE s ≠ 0) :
    Calls Tryd.prog 59 #[eV s, v] w (NumTo (wrE l s) w) := by
  rw [wrE_own hbad]
  obtain ⟨p, st, m, d, t, z⟩ := s
  simp only at hs hd
  obtain ⟨W1, hW1⟩ : ∃ W1, W1 = w.alloc (.cells #[.string p, .int .i64 st, .int .i64 m, .string d, .int .i64 t, .int .i64 z] 57) := ⟨_, rfl⟩
  have B1 : Below w.heap.size w W1 := by rw [hW1]; exact (Below.refl _ _).alloc (Nat.le_refl _) _
  obtain ⟨G, hG⟩ : ∃ G, G = w.heap.size := ⟨_, rfl⟩
  have K1 : W1.heap[G]? = some (.cells #[.string p, .int .i64 st, .int .i64 m, .string d, .int .i64 t, .int .i64 z] 57 (0, 0)) := by rw [hW1, hG]; exact heap_alloc_new w _
  have hG1 : G < W1.heap.size := by rw [hG, hW1]; simp
  have CK := Lib.hid (check_any p W1 (by omega))
  have ZZ := Lib.hid fun V (hV : Below W1.heap.size W1 V) => (show V.cell? ⟨G, 0, none⟩ = some (.string p) ∧ V.cell? ⟨G, 1, none⟩ = some (.int .i64 st) ∧ V.cell? ⟨G, 2, none⟩ = some (.int .i64 m) ∧ V.cell? ⟨G, 3, none⟩ = some (.string d) ∧ V.cell? ⟨G, 4, none⟩ = some (.int .i64 t) ∧ V.cell? ⟨G, 5, none⟩ = some (.int .i64 z) from
    have kV := (hV.block G hG1).trans K1
    ⟨cell_of_row V G 0 _ _ (0, 0) kV, cell_of_row V G 1 _ _ (0, 0) kV, cell_of_row V G 2 _ _ (0, 0) kV, cell_of_row V G 3 _ _ (0, 0) kV, cell_of_row V G 4 _ _ (0, 0) kV, cell_of_row V G 5 _ _ (0, 0) kV⟩)
  obtain ⟨y0, y1, y2, y3, y4, y5⟩ := ZZ.out W1 (Below.refl _ _)
  obtain ⟨A, c, rfl⟩ := h.form
  have HB1 := Lib.hid B1
  have HN := Lib.hid hbad
  have b1s := B1.size
  clear h K1 B1 hbad
  go_enter Tryd.func59, Tryd.ntmps59
  go_wp2_with fail
  rw [← hW1, ← hG]
  clear hW1 hG
  refine CK.out.mono ?_
  rintro e w2 ⟨rfl, b2⟩
  obtain ⟨z0, z1, z2, z3, z4, z5⟩ := ZZ.out w2 b2
  clear y0 y1 y2 y3 y4 y5 CK
  have HB2 := Lib.hid (HB1.out.trans (b2.mono b1s))
  clear b2
  by_cases hc : chk p.data.toList = 0
  · have hc1 : (chk p.data.toList == 0) = true := by simpa using hc
    have hc2 : (chk p.data.toList != 0) = false := by simpa using hc
    have HC := Lib.hid hc
    clear hc
    obtain ⟨c0, hc0⟩ : ∃ c0, c0 = chk p.data.toList := ⟨_, rfl⟩
    have BAD : badE (p, st, m, d, t, z) = true → Hid (ownE (p, st, m, d, t, z) = 1) := fun h => Lib.hid (by unfold ownE; simp [HC.out, h])
    by_cases h1 : st < 0
    · have HV := BAD (by simp [badE, h1])
      clear BAD
      go_wp2_with fail
      go_ret
      exact ⟨ret_i HV.out.symm, HB2.out⟩
    by_cases h2 : 3 < st
    · have HV := BAD (by simp [badE, h2])
      clear BAD
      go_wp2_with fail
      go_ret
      exact ⟨ret_i HV.out.symm, HB2.out⟩
    by_cases hm : m = 1 ∨ m = 2
    · by_cases h4 : t < 0
      · have HV := BAD (by simp [badE, h4])
        clear BAD
        rcases hm with rfl | rfl
        all_goals
          go_wp2_with fail
          go_ret
          exact ⟨ret_i HV.out.symm, HB2.out⟩
      by_cases h5 : z < 0
      · have HV := BAD (by simp [badE, h5])
        clear BAD
        rcases hm with rfl | rfl
        all_goals
          go_wp2_with fail
          go_ret
          exact ⟨ret_i HV.out.symm, HB2.out⟩
      have HF := Lib.hid (show badE (p, st, m, d, t, z) = false by unfold badE; rcases hm with rfl | rfl <;> simp <;> omega)
      by_cases hd1 : 4096 < d.size
      · have HV : Hid (ownE (p, st, m, d, t, z) = 4) := Lib.hid (by unfold ownE; simp [HC.out, HF.out, hd1])
        have hdi : (4096 : Int) < (d.size : Int) := by omega
        clear BAD
        rcases hm with rfl | rfl
        all_goals
          go_wp2_with fail
          go_ret
          exact ⟨ret_i HV.out.symm, HB2.out⟩
      · exact absurd (show ownE (p, st, m, d, t, z) = 0 by unfold ownE; simp [HC.out, HF.out, hd1]) HN.out
    · have HV := BAD (by
        have e1 : ¬ m = 1 := fun e => hm (.inl e)
        have e2 : ¬ m = 2 := fun e => hm (.inr e)
        simp [badE, e1, e2])
      have m1 : (m == 1) = false := by simpa using fun e => hm (.inl e)
      have m2 : (m == 2) = false := by simpa using fun e => hm (.inr e)
      have n1 : (m != 1) = true := by simpa using fun e => hm (.inl e)
      have n2 : (m != 2) = true := by simpa using fun e => hm (.inr e)
      clear BAD hm
      go_wp2_with fail
      go_ret
      exact ⟨ret_i HV.out.symm, HB2.out⟩
  · have HV : Hid (ownE (p, st, m, d, t, z) = chk p.data.toList) := Lib.hid (if_pos hc)
    have hc1 : (chk p.data.toList == 0) = false := by simpa using hc
    have hc2 : (chk p.data.toList != 0) = true := by simpa using hc
    clear hc
    go_wp2_with fail
    go_ret
    exact ⟨ret_i HV.out.symm, HB2.out⟩
end Go.Proofs.YtplleaimmmanhaaDoor
namespace Go.Proofs.YtplleaimmmanhaaDoor
open Go Go.RowKit

theorem own_zero {p : ByteArray} {st m : Int} {d : ByteArray} {t z : Int} (h : ownE (p, st, m, d, t, z) = 0) : chk p.data.toList = 0 ∧ 0 ≤ st ∧ st ≤ 3 ∧ (m = 1 ∨ m = 2) ∧ 0 ≤ t ∧ 0 ≤ z ∧ d.size ≤ 4096 := by
  unfold ownE at h
  by_cases hc : chk p.data.toList = 0
  · rw [if_neg (by simpa using hc)] at h
    by_cases hb : badE (p, st, m, d, t, z) = true
    · rw [if_pos hb] at h; cases h
    · rw [if_neg hb] at h
      by_cases hd : 4096 < d.size
      · rw [if_pos hd] at h; cases h
      · have hb' : badE (p, st, m, d, t, z) = false := by simpa using hb
        unfold badE at hb'
        simp at hb'
        omega
  · rw [if_pos hc] at h; exact absurd h hc
theorem wrE_rest {l : List En} {e : En} (h : ownE e = 0) : wrE l e = if (lateE l e || l.any (exB e)) = true then 6 else if l.any (fun x => cls x.1.data.toList e.1.data.toList) = true then 11 else 0 := if_neg (by rw [h]; simp)

set_option maxRecDepth 100000 in
set_option maxHeartbeats 4000000 in
theorem wrong_rest (w : World) (v : Value) (l : List En) (s : En) (h : Reads 6 cE w v l) (hs : s.1.size ≤ 1000000) (hz : SizedE l) (hl : l.length ≤ 100000) (hok : ownE s = 0) :
    Calls Tryd.prog 59 #[eV s, v] w (NumTo (wrE l s) w) := by
  obtain ⟨p, st, m, d, t, z⟩ := s
  simp only at hs
  obtain ⟨hc, hst0, hst3, hm, ht0, hz0, hd⟩ := own_zero hok
  have HOK := Lib.hid hok
  clear hok
  obtain ⟨W1, hW1⟩ : ∃ W1, W1 = w.alloc (.cells #[.string p, .int .i64 st, .int .i64 m, .string d, .int .i64 t, .int .i64 z] 57) := ⟨_, rfl⟩
  have B1 : Below w.heap.size w W1 := by rw [hW1]; exact (Below.refl _ _).alloc (Nat.le_refl _) _
  obtain ⟨G, hG⟩ : ∃ G, G = w.heap.size := ⟨_, rfl⟩
  have K1 : W1.heap[G]? = some (.cells #[.string p, .int .i64 st, .int .i64 m, .string d, .int .i64 t, .int .i64 z] 57 (0, 0)) := by rw [hW1, hG]; exact heap_alloc_new w _
  have hG1 : G < W1.heap.size := by rw [hG, hW1]; simp
  have CK := Lib.hid (check_any p W1 (by omega))
  have ZZ := Lib.hid fun V (hV : Below W1.heap.size W1 V) => (show V.cell? ⟨G, 0, none⟩ = some (.string p) ∧ V.cell? ⟨G, 1, none⟩ = some (.int .i64 st) ∧ V.cell? ⟨G, 2, none⟩ = some (.int .i64 m) ∧ V.cell? ⟨G, 3, none⟩ = some (.string d) ∧ V.cell? ⟨G, 4, none⟩ = some (.int .i64 t) ∧ V.cell? ⟨G, 5, none⟩ = some (.int .i64 z) from
    have kV := (hV.block G hG1).trans K1
    ⟨cell_of_row V G 0 _ _ (0, 0) kV, cell_of_row V G 1 _ _ (0, 0) kV, cell_of_row V G 2 _ _ (0, 0) kV, cell_of_row V G 3 _ _ (0, 0) kV, cell_of_row V G 4 _ _ (0, 0) kV, cell_of_row V G 5 _ _ (0, 0) kV⟩)
  obtain ⟨y0, y1, y2, y3, y4, y5⟩ := ZZ.out W1 (Below.refl _ _)
  obtain ⟨A, c, rfl⟩ := h.form
  have R1 := Lib.hid (h.below B1)
  have hlen := h.len
  have HS := Lib.hid hz
  have HB1 := Lib.hid B1
  have b1s := B1.size
  clear h K1 B1 hz
  go_enter Tryd.func59, Tryd.ntmps59
  go_wp2_with fail
  rw [← hW1, ← hG]
  clear hW1 hG
  refine CK.out.mono ?_
  rintro e w2 ⟨rfl, b2⟩
  obtain ⟨z0, z1, z2, z3, z4, z5⟩ := ZZ.out w2 b2
  clear y0 y1 y2 y3 y4 y5 CK
  have HB2 := Lib.hid (HB1.out.trans (b2.mono b1s))
  have R2 := Lib.hid (R1.out.below b2)
  have hGl : G < w2.heap.size := Nat.lt_of_lt_of_le hG1 b2.size
  have GG := Lib.hid fun V (hV : Below w2.heap.size w2 V) => ZZ.out V (b2.trans (hV.mono b2.size))
  clear b2
  have hc1 : (chk p.data.toList == 0) = true := by simpa using hc
  have hc2 : (chk p.data.toList != 0) = false := by simpa using hc
  have HC := Lib.hid hc
  clear hc
  obtain ⟨c0, hc0⟩ : ∃ c0, c0 = chk p.data.toList := ⟨_, rfl⟩
  have hst1 : ¬ st < 0 := by omega
  have hst2 : ¬ 3 < st := by omega
  have ht1 : ¬ t < 0 := by omega
  have hz1 : ¬ z < 0 := by omega
  have hd1 : ¬ (4096 : Int) < (d.size : Int) := by omega
  obtain ⟨qa, hqa⟩ : ∃ q, q = l.any (exB (p, st, m, d, t, z)) := ⟨_, rfl⟩
  obtain ⟨qc, hqc⟩ : ∃ q, q = l.any (fun x => cls x.1.data.toList p.data.toList) := ⟨_, rfl⟩
  have CT := Lib.hid fun W (hW : Below w2.heap.size w2 W) => containsB_any w2 W w2.heap.size hW hW.size (.slice A l.length c) l 55 (eV (p, st, m, d, t, z)) (exB (p, st, m, d, t, z)) (R2.out.below hW) HS.out hl enters_excl (excl_pred w2 _ _)
  have CC := Lib.hid fun W (hW : Below w2.heap.size w2 W) => containsE_any w2 W w2.heap.size hW hW.size (.slice A l.length c) l 95 (.pointer (some ⟨G, 0, none⟩)) (fun x => cls x.1.data.toList p.data.toList) (R2.out.below hW) HS.out hl enters_wrong (wrong_pred w2 _ G p hs z0 hGl (Nat.le_refl _))
  rw [← hqa] at CT
  rw [← hqc] at CC
  have HA := Lib.hid hqa
  have HQ := Lib.hid hqc
  clear hqa hqc
  rcases hm with rfl | rfl
  · by_cases hl0 : l = []
    · subst hl0
      simp only [List.length_nil] at CT CC ⊢
      obtain rfl : qa = false := HA.out
      obtain rfl : qc = false := HQ.out
      have HV : Hid (wrE [] (p, st, 1, d, t, z) = 0) := Lib.hid (by rw [wrE_rest HOK.out]; rfl)
      have SX := Lib.hid fun V (hV : Below w2.heap.size w2 V) => (show (fun w' => (w'.cell? ⟨G, 0, none⟩ = some (.string p) ∧ w'.cell? ⟨G, 1, none⟩ = some (.int .i64 st) ∧ w'.cell? ⟨G, 2, none⟩ = some (.int .i64 1) ∧ w'.cell? ⟨G, 3, none⟩ = some (.string d) ∧ w'.cell? ⟨G, 4, none⟩ = some (.int .i64 t) ∧ w'.cell? ⟨G, 5, none⟩ = some (.int .i64 z))) V from GG.out V hV)
      go_wp2_with fail
      refine wp_region_held_drew (S := fun w' => (w'.cell? ⟨G, 0, none⟩ = some (.string p) ∧ w'.cell? ⟨G, 1, none⟩ = some (.int .i64 st) ∧ w'.cell? ⟨G, 2, none⟩ = some (.int .i64 1) ∧ w'.cell? ⟨G, 3, none⟩ = some (.string d) ∧ w'.cell? ⟨G, 4, none⟩ = some (.int .i64 t) ∧ w'.cell? ⟨G, 5, none⟩ = some (.int .i64 z))) (by kernel_rfl) (SX.out _ (Below.refl _ _).drew) (fun hHeld => ?_)
      refine wpAnyH_take (i := 0) (oi := { dst := some 47, op := Op.move (Operand.tmp 6), type := 3, pos := "index.go:53", after := #[], guard := none }) (v := ?vap0) rfl (by kernel_rfl) (by kernel_rfl) (by kernel_rfl) (fun _ _ _ h => h) (Or.inl ⟨by rfl, ?yap0⟩) (by assumption) ?rap0
      case yap0 => (intro w' hSw; (try dsimp only at hSw); go_simp; try with_reducible rfl)
      try simp only [Act.put, List.setIfInBounds_toArray, List.set_cons_zero, List.set_cons_succ]
      refine wpAnyH_take (i := 1) (oi := { dst := some 48, op := Op.binOp BinOp.gtr 3 (Operand.tmp 47) (Operand.const (Value.int IntKind.i64 0)) 3, type := 4, pos := "index.go:53", after := #[{ on := 0, ground := Ground.data }], guard := none }) (v := ?vap1) rfl (by kernel_rfl) (by kernel_rfl) (by kernel_rfl) (fun _ _ _ h => h) (Or.inl ⟨by rfl, ?yap1⟩) (by assumption) ?rap1
      case yap1 => (intro w' hSw; (try dsimp only at hSw); go_simp; try with_reducible rfl)
      try simp only [Act.put, List.setIfInBounds_toArray, List.set_cons_zero, List.set_cons_succ]
      refine wpAnyH_take (i := 2) (oi := { dst := some 49, op := Op.move (Operand.tmp 48), type := 4, pos := "index.go:53", after := #[{ on := 1, ground := Ground.data }], guard := none }) (v := ?vap2) rfl (by kernel_rfl) (by kernel_rfl) (by kernel_rfl) (fun _ _ _ h => h) (Or.inl ⟨by rfl, ?yap2⟩) (by assumption) ?rap2
      case yap2 => (intro w' hSw; (try dsimp only at hSw); go_simp; try with_reducible rfl)
      try simp only [Act.put, List.setIfInBounds_toArray, List.set_cons_zero, List.set_cons_succ]
      refine wpAnyH_take (i := 3) (oi := { dst := some 50, op := Op.move (Operand.tmp 1), type := 54, pos := "index.go:53", after := #[{ on := 2, ground := Ground.guard }], guard := some (2, true) }) (v := undef) rfl (by kernel_rfl) (by kernel_rfl) (by kernel_rfl) (fun _ _ _ h => h) (Or.inr ⟨by rfl, rfl⟩) (by assumption) ?_
      try simp only [Act.put, List.setIfInBounds_toArray, List.set_cons_zero, List.set_cons_succ]
      refine wpAnyH_take (i := 4) (oi := { dst := some 51, op := Op.move (Operand.tmp 6), type := 3, pos := "index.go:53", after := #[{ on := 2, ground := Ground.guard }], guard := some (2, true) }) (v := undef) rfl (by kernel_rfl) (by kernel_rfl) (by kernel_rfl) (fun _ _ _ h => h) (Or.inr ⟨by rfl, rfl⟩) (by assumption) ?_
      try simp only [Act.put, List.setIfInBounds_toArray, List.set_cons_zero, List.set_cons_succ]
      refine wpAnyH_take (i := 5) (oi := { dst := some 52, op := Op.binOp BinOp.sub 3 (Operand.tmp 51) (Operand.const (Value.int IntKind.i64 1)) 3, type := 3, pos := "index.go:53", after := #[{ on := 4, ground := Ground.data }, { on := 2, ground := Ground.guard }], guard := some (2, true) }) (v := undef) rfl (by kernel_rfl) (by kernel_rfl) (by kernel_rfl) (fun _ _ _ h => h) (Or.inr ⟨by rfl, rfl⟩) (by assumption) ?_
      try simp only [Act.put, List.setIfInBounds_toArray, List.set_cons_zero, List.set_cons_succ]
      refine wpAnyH_take (i := 6) (oi := { dst := some 53, op := Op.indexAddr 54 (Operand.tmp 50) (Operand.tmp 52), type := 0, pos := "index.go:53", after := #[{ on := 3, ground := Ground.data }, { on := 5, ground := Ground.data }, { on := 2, ground := Ground.guard }], guard := some (2, true) }) (v := undef) rfl (by kernel_rfl) (by kernel_rfl) (by kernel_rfl) (fun _ _ _ h => h) (Or.inr ⟨by rfl, rfl⟩) (by assumption) ?_
      try simp only [Act.put, List.setIfInBounds_toArray, List.set_cons_zero, List.set_cons_succ]
      refine wpAnyH_take (i := 7) (oi := { dst := some 54, op := Op.load 57 (Operand.tmp 53), type := 57, pos := "index.go:53", after := #[{ on := 6, ground := Ground.data }, { on := 2, ground := Ground.guard }], guard := some (2, true) }) (v := undef) rfl (by kernel_rfl) (by kernel_rfl) (by kernel_rfl) (fun _ _ _ h => h) (Or.inr ⟨by rfl, rfl⟩) (by assumption) ?_
      try simp only [Act.put, List.setIfInBounds_toArray, List.set_cons_zero, List.set_cons_succ]
      refine wpAnyH_take (i := 8) (oi := { dst := some 55, op := Op.load 57 (Operand.tmp 2), type := 57, pos := "index.go:53", after := #[{ on := 2, ground := Ground.guard }], guard := some (2, true) }) (v := undef) rfl (by kernel_rfl) (by kernel_rfl) (by kernel_rfl) (fun _ _ _ h => h) (Or.inr ⟨by rfl, rfl⟩) (by assumption) ?_
      try simp only [Act.put, List.setIfInBounds_toArray, List.set_cons_zero, List.set_cons_succ]
      refine wpAnyH_take (i := 9) (oi := { dst := some 56, op := Op.call { callee := Callee.value (Operand.func 57), args := #[Operand.tmp 54, Operand.tmp 55], argTypes := #[57, 57] }, type := 3, pos := "index.go:53", after := #[{ on := 7, ground := Ground.data }, { on := 8, ground := Ground.data }, { on := 2, ground := Ground.chain }, { on := 2, ground := Ground.guard }], guard := some (2, true) }) (v := undef) rfl (by kernel_rfl) (by kernel_rfl) (by kernel_rfl) (fun _ _ _ h => h) (Or.inr ⟨by rfl, rfl⟩) (by assumption) ?_
      try simp only [Act.put, List.setIfInBounds_toArray, List.set_cons_zero, List.set_cons_succ]
      refine wpAnyH_take (i := 10) (oi := { dst := some 57, op := Op.binOp BinOp.geq 3 (Operand.tmp 56) (Operand.const (Value.int IntKind.i64 0)) 3, type := 4, pos := "index.go:53", after := #[{ on := 9, ground := Ground.data }, { on := 2, ground := Ground.guard }], guard := some (2, true) }) (v := undef) rfl (by kernel_rfl) (by kernel_rfl) (by kernel_rfl) (fun _ _ _ h => h) (Or.inr ⟨by rfl, rfl⟩) (by assumption) ?_
      try simp only [Act.put, List.setIfInBounds_toArray, List.set_cons_zero, List.set_cons_succ]
      refine wpAnyH_take (i := 11) (oi := { dst := some 58, op := Op.pick (Operand.tmp 49) (Operand.tmp 57) (Operand.const (Value.bool false)), type := 4, pos := "index.go:53", after := #[{ on := 2, ground := Ground.data }, { on := 10, ground := Ground.data }], guard := none }) (v := ?vap11) rfl (by kernel_rfl) (by kernel_rfl) (by kernel_rfl) (fun _ _ _ h => h) (Or.inl ⟨by rfl, ?yap11⟩) (by assumption) ?rap11
      case yap11 => (intro w' hSw; (try dsimp only at hSw); go_simp; try with_reducible rfl)
      try simp only [Act.put, List.setIfInBounds_toArray, List.set_cons_zero, List.set_cons_succ]
      refine wpAnyH_take (i := 12) (oi := { dst := some 59, op := Op.move (Operand.tmp 58), type := 4, pos := "index.go:53", after := #[{ on := 11, ground := Ground.data }, { on := 9, ground := Ground.chain }], guard := none }) (v := ?vap12) rfl (by kernel_rfl) (by kernel_rfl) (by kernel_rfl) (fun _ _ _ h => h) (Or.inl ⟨by rfl, ?yap12⟩) (by assumption) ?rap12
      case yap12 => (intro w' hSw; (try dsimp only at hSw); go_simp; try with_reducible rfl)
      try simp only [Act.put, List.setIfInBounds_toArray, List.set_cons_zero, List.set_cons_succ]
      refine wpAnyH_take (i := 13) (oi := { dst := some 60, op := Op.move (Operand.tmp 1), type := 54, pos := "index.go:53", after := #[{ on := 12, ground := Ground.guard }], guard := some (12, false) }) (v := ?vap13) rfl (by kernel_rfl) (by kernel_rfl) (by kernel_rfl) (fun _ _ _ h => h) (Or.inl ⟨by rfl, ?yap13⟩) (by assumption) ?rap13
      case yap13 => (intro w' hSw; (try dsimp only at hSw); go_simp; try with_reducible rfl)
      try simp only [Act.put, List.setIfInBounds_toArray, List.set_cons_zero, List.set_cons_succ]
      refine wpAnyH_take (i := 14) (oi := { dst := some 61, op := Op.load 57 (Operand.tmp 2), type := 57, pos := "index.go:53", after := #[{ on := 12, ground := Ground.guard }], guard := some (12, false) }) (v := ?vap14) rfl (by kernel_rfl) (by kernel_rfl) (by kernel_rfl) (fun _ _ _ h => h) (Or.inl ⟨by rfl, ?yap14⟩) (by assumption) ?rap14
      case yap14 => (intro w' hSw; (try dsimp only at hSw); go_simp; try with_reducible rfl)
      try simp only [Act.put, List.setIfInBounds_toArray, List.set_cons_zero, List.set_cons_succ]
      refine wpAnyH_ready (rs := [15]) (by kernel_rfl) (by simp) ?_
      refine AllReadyH.cons (o := { dst := some 62, op := Op.makeFunc (Fn.func 55) #[Operand.tmp 61] #[], type := 91, pos := "index.go:53", after := #[{ on := 14, ground := Ground.data }, { on := 12, ground := Ground.guard }], guard := some (12, false) }) rfl (fun K hK => ?_) AllReadyH.nil
      go_simp
      refine hK.out _ _ (SX.out _ (Below.refl _ _).drew) (fun hHeldap15 => ?_)
      clear hK K hHeld
      try simp only [Act.put, List.setIfInBounds_toArray, List.set_cons_zero, List.set_cons_succ]
      refine wpAnyH_ready (rs := [16]) (by kernel_rfl) (by simp) ?_
      refine AllReadyH.cons (o := { dst := some 63, op := Op.call { callee := Callee.value (Operand.func 94), args := #[Operand.tmp 60, Operand.tmp 62], argTypes := #[54, 91] }, type := 4, pos := "index.go:53", after := #[{ on := 13, ground := Ground.data }, { on := 15, ground := Ground.data }, { on := 12, ground := Ground.chain }, { on := 12, ground := Ground.guard }], guard := some (12, false) }) rfl (fun K hK => ?_) AllReadyH.nil
      go_simp
      refine (CT.out _ (Below.refl _ _).drew).mono ?_
      rintro e w3 ⟨rfl, b3⟩
      have hb3 : Below w2.heap.size w2 w3 := ((Below.refl _ _).drew).trans b3
      go_wp2_with fail
      refine hK.out _ _ (SX.out _ hb3) (fun hHeldap16 => ?_)
      clear hK K hHeldap15
      try simp only [Act.put, List.setIfInBounds_toArray, List.set_cons_zero, List.set_cons_succ]
      refine wpAnyH_take (i := 17) (oi := { dst := some 64, op := Op.pick (Operand.tmp 59) (Operand.const (Value.bool true)) (Operand.tmp 63), type := 4, pos := "index.go:53", after := #[{ on := 12, ground := Ground.data }, { on := 16, ground := Ground.data }], guard := none }) (v := ?vap17) rfl (by kernel_rfl) (by kernel_rfl) (by kernel_rfl) (fun _ _ _ h => h) (Or.inl ⟨by rfl, ?yap17⟩) (by assumption) ?rap17
      case yap17 => (intro w' hSw; (try dsimp only at hSw); go_simp; try with_reducible rfl)
      try simp only [Act.put, List.setIfInBounds_toArray, List.set_cons_zero, List.set_cons_succ]
      refine wpAnyH_done (by kernel_rfl) ?_ _
      go_wp2_with fail
      refine (CC.out _ hb3).mono ?_
      rintro e w5 ⟨rfl, b5⟩
      have B5 := Lib.hid (HB2.out.trans ((hb3.trans (b5.mono hb3.size)).mono HB2.out.size))
      clear b5
      go_wp2_with fail
      go_ret
      exact ⟨ret_i HV.out.symm, B5.out⟩
    · obtain ⟨n, hn⟩ : ∃ n, l.length = n + 1 := ⟨l.length - 1, by have := List.length_pos_iff.2 hl0; omega⟩
      obtain ⟨x, hx⟩ : ∃ x, l[n]? = some x := ⟨_, List.getElem?_eq_getElem (by omega)⟩
      have hlast : l.getLast? = some x := by rw [List.getLast?_eq_getElem?, hn]; exact hx
      obtain ⟨ad, rfl, c0, c1, c2, c3, c4, c5⟩ := Ents.at_ R2.out hx
      have SX := Lib.hid fun V (hV : Below w2.heap.size w2 V) => (show (fun w' => (w'.cell? ⟨G, 0, none⟩ = some (.string p) ∧ w'.cell? ⟨G, 1, none⟩ = some (.int .i64 st) ∧ w'.cell? ⟨G, 2, none⟩ = some (.int .i64 1) ∧ w'.cell? ⟨G, 3, none⟩ = some (.string d) ∧ w'.cell? ⟨G, 4, none⟩ = some (.int .i64 t) ∧ w'.cell? ⟨G, 5, none⟩ = some (.int .i64 z)) ∧ (w'.cell? (ad.add (n * 6)) = some (.string x.1) ∧ w'.cell? ⟨(ad.add (n * 6)).block, (ad.add (n * 6)).off + 1, none⟩ = some (.int .i64 x.2.1) ∧ w'.cell? ⟨(ad.add (n * 6)).block, (ad.add (n * 6)).off + 2, none⟩ = some (.int .i64 x.2.2.1) ∧ w'.cell? ⟨(ad.add (n * 6)).block, (ad.add (n * 6)).off + 3, none⟩ = some (.string x.2.2.2.1) ∧ w'.cell? ⟨(ad.add (n * 6)).block, (ad.add (n * 6)).off + 4, none⟩ = some (.int .i64 x.2.2.2.2.1) ∧ w'.cell? ⟨(ad.add (n * 6)).block, (ad.add (n * 6)).off + 5, none⟩ = some (.int .i64 x.2.2.2.2.2))) V from ⟨GG.out V hV, by
        obtain ⟨ad', e, k⟩ := Ents.at_ (R2.out.below hV) hx
        obtain rfl := Option.some.inj e
        exact k⟩)
      have hw : IntKind.i64.wrap ((l.length : Int) - 1) = (n : Int) := by rw [IntKind.wrap_i64] <;> omega
      have hpos : (0 : Int) < (l.length : Int) := by omega
      have hpos2 : 0 < l.length := by omega
      have hnl : (n : Int) < (l.length : Int) := by omega
      have hnl2 : n < l.length := by omega
      have hn0 : (0 : Int) ≤ (n : Int) := Int.natCast_nonneg _
      have CP := Lib.hid fun W => ecmp_any x (p, st, 1, d, t, z) W
      have HLT : Hid (lateE l (p, st, 1, d, t, z) = decide (0 ≤ ec x (p, st, 1, d, t, z))) := Lib.hid (by unfold lateE; rw [hlast])
      obtain ⟨k, hk⟩ : ∃ k, k = ec x (p, st, 1, d, t, z) := ⟨_, rfl⟩
      rw [← hk] at HLT CP
      clear hx hn hlast hk hl0
      by_cases hk0 : 0 ≤ k
      · have HL := Lib.hid (show lateE l (p, st, 1, d, t, z) = true by rw [HLT.out]; simpa using hk0)
        have HV := Lib.hid (show wrE l (p, st, 1, d, t, z) = 6 by rw [wrE_rest HOK.out, HL.out]; rfl)
        go_wp2_with fail
        refine wp_region_held_drew (S := fun w' => (w'.cell? ⟨G, 0, none⟩ = some (.string p) ∧ w'.cell? ⟨G, 1, none⟩ = some (.int .i64 st) ∧ w'.cell? ⟨G, 2, none⟩ = some (.int .i64 1) ∧ w'.cell? ⟨G, 3, none⟩ = some (.string d) ∧ w'.cell? ⟨G, 4, none⟩ = some (.int .i64 t) ∧ w'.cell? ⟨G, 5, none⟩ = some (.int .i64 z)) ∧ (w'.cell? (ad.add (n * 6)) = some (.string x.1) ∧ w'.cell? ⟨(ad.add (n * 6)).block, (ad.add (n * 6)).off + 1, none⟩ = some (.int .i64 x.2.1) ∧ w'.cell? ⟨(ad.add (n * 6)).block, (ad.add (n * 6)).off + 2, none⟩ = some (.int .i64 x.2.2.1) ∧ w'.cell? ⟨(ad.add (n * 6)).block, (ad.add (n * 6)).off + 3, none⟩ = some (.string x.2.2.2.1) ∧ w'.cell? ⟨(ad.add (n * 6)).block, (ad.add (n * 6)).off + 4, none⟩ = some (.int .i64 x.2.2.2.2.1) ∧ w'.cell? ⟨(ad.add (n * 6)).block, (ad.add (n * 6)).off + 5, none⟩ = some (.int .i64 x.2.2.2.2.2))) (by kernel_rfl) (SX.out _ (Below.refl _ _).drew) (fun hHeld => ?_)
        refine wpAnyH_take (i := 0) (oi := { dst := some 47, op := Op.move (Operand.tmp 6), type := 3, pos := "index.go:53", after := #[], guard := none }) (v := ?vbp0) rfl (by kernel_rfl) (by kernel_rfl) (by kernel_rfl) (fun _ _ _ h => h) (Or.inl ⟨by rfl, ?ybp0⟩) (by assumption) ?rbp0
        case ybp0 => (intro w' hSw; (try dsimp only at hSw); go_simp; try with_reducible rfl)
        try simp only [Act.put, List.setIfInBounds_toArray, List.set_cons_zero, List.set_cons_succ]
        refine wpAnyH_take (i := 1) (oi := { dst := some 48, op := Op.binOp BinOp.gtr 3 (Operand.tmp 47) (Operand.const (Value.int IntKind.i64 0)) 3, type := 4, pos := "index.go:53", after := #[{ on := 0, ground := Ground.data }], guard := none }) (v := ?vbp1) rfl (by kernel_rfl) (by kernel_rfl) (by kernel_rfl) (fun _ _ _ h => h) (Or.inl ⟨by rfl, ?ybp1⟩) (by assumption) ?rbp1
        case ybp1 => (intro w' hSw; (try dsimp only at hSw); go_simp; try with_reducible rfl)
        try simp only [Act.put, List.setIfInBounds_toArray, List.set_cons_zero, List.set_cons_succ]
        refine wpAnyH_take (i := 2) (oi := { dst := some 49, op := Op.move (Operand.tmp 48), type := 4, pos := "index.go:53", after := #[{ on := 1, ground := Ground.data }], guard := none }) (v := ?vbp2) rfl (by kernel_rfl) (by kernel_rfl) (by kernel_rfl) (fun _ _ _ h => h) (Or.inl ⟨by rfl, ?ybp2⟩) (by assumption) ?rbp2
        case ybp2 => (intro w' hSw; (try dsimp only at hSw); go_simp; try with_reducible rfl)
        try simp only [Act.put, List.setIfInBounds_toArray, List.set_cons_zero, List.set_cons_succ]
        refine wpAnyH_take (i := 3) (oi := { dst := some 50, op := Op.move (Operand.tmp 1), type := 54, pos := "index.go:53", after := #[{ on := 2, ground := Ground.guard }], guard := some (2, true) }) (v := ?vbp3) rfl (by kernel_rfl) (by kernel_rfl) (by kernel_rfl) (fun _ _ _ h => h) (Or.inl ⟨by rfl, ?ybp3⟩) (by assumption) ?rbp3
        case ybp3 => (intro w' hSw; (try dsimp only at hSw); go_simp; try with_reducible rfl)
        try simp only [Act.put, List.setIfInBounds_toArray, List.set_cons_zero, List.set_cons_succ]
        refine wpAnyH_take (i := 4) (oi := { dst := some 51, op := Op.move (Operand.tmp 6), type := 3, pos := "index.go:53", after := #[{ on := 2, ground := Ground.guard }], guard := some (2, true) }) (v := ?vbp4) rfl (by kernel_rfl) (by kernel_rfl) (by kernel_rfl) (fun _ _ _ h => h) (Or.inl ⟨by rfl, ?ybp4⟩) (by assumption) ?rbp4
        case ybp4 => (intro w' hSw; (try dsimp only at hSw); go_simp; try with_reducible rfl)
        try simp only [Act.put, List.setIfInBounds_toArray, List.set_cons_zero, List.set_cons_succ]
        refine wpAnyH_take (i := 5) (oi := { dst := some 52, op := Op.binOp BinOp.sub 3 (Operand.tmp 51) (Operand.const (Value.int IntKind.i64 1)) 3, type := 3, pos := "index.go:53", after := #[{ on := 4, ground := Ground.data }, { on := 2, ground := Ground.guard }], guard := some (2, true) }) (v := ?vbp5) rfl (by kernel_rfl) (by kernel_rfl) (by kernel_rfl) (fun _ _ _ h => h) (Or.inl ⟨by rfl, ?ybp5⟩) (by assumption) ?rbp5
        case ybp5 => (intro w' hSw; (try dsimp only at hSw); go_simp; try with_reducible rfl)
        try simp only [Act.put, List.setIfInBounds_toArray, List.set_cons_zero, List.set_cons_succ]
        refine wpAnyH_take (i := 6) (oi := { dst := some 53, op := Op.indexAddr 54 (Operand.tmp 50) (Operand.tmp 52), type := 0, pos := "index.go:53", after := #[{ on := 3, ground := Ground.data }, { on := 5, ground := Ground.data }, { on := 2, ground := Ground.guard }], guard := some (2, true) }) (v := ?vbp6) rfl (by kernel_rfl) (by kernel_rfl) (by kernel_rfl) (fun _ _ _ h => h) (Or.inl ⟨by rfl, ?ybp6⟩) (by assumption) ?rbp6
        case ybp6 => (intro w' hSw; (try dsimp only at hSw); go_simp; try with_reducible rfl)
        try simp only [Act.put, List.setIfInBounds_toArray, List.set_cons_zero, List.set_cons_succ]
        refine wpAnyH_take (i := 7) (oi := { dst := some 54, op := Op.load 57 (Operand.tmp 53), type := 57, pos := "index.go:53", after := #[{ on := 6, ground := Ground.data }, { on := 2, ground := Ground.guard }], guard := some (2, true) }) (v := ?vbp7) rfl (by kernel_rfl) (by kernel_rfl) (by kernel_rfl) (fun _ _ _ h => h) (Or.inl ⟨by rfl, ?ybp7⟩) (by assumption) ?rbp7
        case ybp7 => (intro w' hSw; (try dsimp only at hSw); go_simp; try with_reducible rfl)
        try simp only [Act.put, List.setIfInBounds_toArray, List.set_cons_zero, List.set_cons_succ]
        refine wpAnyH_take (i := 8) (oi := { dst := some 55, op := Op.load 57 (Operand.tmp 2), type := 57, pos := "index.go:53", after := #[{ on := 2, ground := Ground.guard }], guard := some (2, true) }) (v := ?vbp8) rfl (by kernel_rfl) (by kernel_rfl) (by kernel_rfl) (fun _ _ _ h => h) (Or.inl ⟨by rfl, ?ybp8⟩) (by assumption) ?rbp8
        case ybp8 => (intro w' hSw; (try dsimp only at hSw); go_simp; try with_reducible rfl)
        try simp only [Act.put, List.setIfInBounds_toArray, List.set_cons_zero, List.set_cons_succ]
        refine wpAnyH_ready (rs := [9]) (by kernel_rfl) (by simp) ?_
        refine AllReadyH.cons (o := { dst := some 56, op := Op.call { callee := Callee.value (Operand.func 57), args := #[Operand.tmp 54, Operand.tmp 55], argTypes := #[57, 57] }, type := 3, pos := "index.go:53", after := #[{ on := 7, ground := Ground.data }, { on := 8, ground := Ground.data }, { on := 2, ground := Ground.chain }, { on := 2, ground := Ground.guard }], guard := some (2, true) }) rfl (fun K hK => ?_) AllReadyH.nil
        go_simp
        refine (CP.out _).mono ?_
        rintro e w4 ⟨rfl, b4⟩
        have hb4 : Below w2.heap.size w2 w4 := ((Below.refl _ _).drew).trans b4
        go_wp2_with fail
        refine hK.out _ _ (SX.out _ hb4) (fun hHeldbp9 => ?_)
        clear hK K hHeld
        try simp only [Act.put, List.setIfInBounds_toArray, List.set_cons_zero, List.set_cons_succ]
        refine wpAnyH_take (i := 10) (oi := { dst := some 57, op := Op.binOp BinOp.geq 3 (Operand.tmp 56) (Operand.const (Value.int IntKind.i64 0)) 3, type := 4, pos := "index.go:53", after := #[{ on := 9, ground := Ground.data }, { on := 2, ground := Ground.guard }], guard := some (2, true) }) (v := ?vbp10) rfl (by kernel_rfl) (by kernel_rfl) (by kernel_rfl) (fun _ _ _ h => h) (Or.inl ⟨by rfl, ?ybp10⟩) (by assumption) ?rbp10
        case ybp10 => (intro w' hSw; (try dsimp only at hSw); go_simp; try with_reducible rfl)
        try simp only [Act.put, List.setIfInBounds_toArray, List.set_cons_zero, List.set_cons_succ]
        refine wpAnyH_take (i := 11) (oi := { dst := some 58, op := Op.pick (Operand.tmp 49) (Operand.tmp 57) (Operand.const (Value.bool false)), type := 4, pos := "index.go:53", after := #[{ on := 2, ground := Ground.data }, { on := 10, ground := Ground.data }], guard := none }) (v := ?vbp11) rfl (by kernel_rfl) (by kernel_rfl) (by kernel_rfl) (fun _ _ _ h => h) (Or.inl ⟨by rfl, ?ybp11⟩) (by assumption) ?rbp11
        case ybp11 => (intro w' hSw; (try dsimp only at hSw); go_simp; try with_reducible rfl)
        try simp only [Act.put, List.setIfInBounds_toArray, List.set_cons_zero, List.set_cons_succ]
        refine wpAnyH_take (i := 12) (oi := { dst := some 59, op := Op.move (Operand.tmp 58), type := 4, pos := "index.go:53", after := #[{ on := 11, ground := Ground.data }, { on := 9, ground := Ground.chain }], guard := none }) (v := ?vbp12) rfl (by kernel_rfl) (by kernel_rfl) (by kernel_rfl) (fun _ _ _ h => h) (Or.inl ⟨by rfl, ?ybp12⟩) (by assumption) ?rbp12
        case ybp12 => (intro w' hSw; (try dsimp only at hSw); go_simp; try with_reducible rfl)
        try simp only [Act.put, List.setIfInBounds_toArray, List.set_cons_zero, List.set_cons_succ]
        refine wpAnyH_take (i := 13) (oi := { dst := some 60, op := Op.move (Operand.tmp 1), type := 54, pos := "index.go:53", after := #[{ on := 12, ground := Ground.guard }], guard := some (12, false) }) (v := undef) rfl (by kernel_rfl) (by kernel_rfl) (by kernel_rfl) (fun _ _ _ h => h) (Or.inr ⟨by rfl, rfl⟩) (by assumption) ?_
        try simp only [Act.put, List.setIfInBounds_toArray, List.set_cons_zero, List.set_cons_succ]
        refine wpAnyH_take (i := 14) (oi := { dst := some 61, op := Op.load 57 (Operand.tmp 2), type := 57, pos := "index.go:53", after := #[{ on := 12, ground := Ground.guard }], guard := some (12, false) }) (v := undef) rfl (by kernel_rfl) (by kernel_rfl) (by kernel_rfl) (fun _ _ _ h => h) (Or.inr ⟨by rfl, rfl⟩) (by assumption) ?_
        try simp only [Act.put, List.setIfInBounds_toArray, List.set_cons_zero, List.set_cons_succ]
        refine wpAnyH_take (i := 15) (oi := { dst := some 62, op := Op.makeFunc (Fn.func 55) #[Operand.tmp 61] #[], type := 91, pos := "index.go:53", after := #[{ on := 14, ground := Ground.data }, { on := 12, ground := Ground.guard }], guard := some (12, false) }) (v := undef) rfl (by kernel_rfl) (by kernel_rfl) (by kernel_rfl) (fun _ _ _ h => h) (Or.inr ⟨by rfl, rfl⟩) (by assumption) ?_
        try simp only [Act.put, List.setIfInBounds_toArray, List.set_cons_zero, List.set_cons_succ]
        refine wpAnyH_take (i := 16) (oi := { dst := some 63, op := Op.call { callee := Callee.value (Operand.func 94), args := #[Operand.tmp 60, Operand.tmp 62], argTypes := #[54, 91] }, type := 4, pos := "index.go:53", after := #[{ on := 13, ground := Ground.data }, { on := 15, ground := Ground.data }, { on := 12, ground := Ground.chain }, { on := 12, ground := Ground.guard }], guard := some (12, false) }) (v := undef) rfl (by kernel_rfl) (by kernel_rfl) (by kernel_rfl) (fun _ _ _ h => h) (Or.inr ⟨by rfl, rfl⟩) (by assumption) ?_
        try simp only [Act.put, List.setIfInBounds_toArray, List.set_cons_zero, List.set_cons_succ]
        refine wpAnyH_take (i := 17) (oi := { dst := some 64, op := Op.pick (Operand.tmp 59) (Operand.const (Value.bool true)) (Operand.tmp 63), type := 4, pos := "index.go:53", after := #[{ on := 12, ground := Ground.data }, { on := 16, ground := Ground.data }], guard := none }) (v := ?vbp17) rfl (by kernel_rfl) (by kernel_rfl) (by kernel_rfl) (fun _ _ _ h => h) (Or.inl ⟨by rfl, ?ybp17⟩) (by assumption) ?rbp17
        case ybp17 => (intro w' hSw; (try dsimp only at hSw); go_simp; try with_reducible rfl)
        try simp only [Act.put, List.setIfInBounds_toArray, List.set_cons_zero, List.set_cons_succ]
        refine wpAnyH_done (by kernel_rfl) ?_ _
        go_wp2_with fail
        go_ret
        exact ⟨ret_i HV.out.symm, HB2.out.trans (hb4.mono HB2.out.size)⟩
      · have HL := Lib.hid (show lateE l (p, st, 1, d, t, z) = false by rw [HLT.out]; simpa using hk0)
        clear HLT
        have HLT := HL
        have hkd : decide (0 ≤ k) = false := by simpa using hk0
        cases qa with
        | true =>
          have HV := Lib.hid (show wrE l (p, st, 1, d, t, z) = 6 by rw [wrE_rest HOK.out, HLT.out, ← HA.out]; rfl)
          go_wp2_with fail
          refine wp_region_held_drew (S := fun w' => (w'.cell? ⟨G, 0, none⟩ = some (.string p) ∧ w'.cell? ⟨G, 1, none⟩ = some (.int .i64 st) ∧ w'.cell? ⟨G, 2, none⟩ = some (.int .i64 1) ∧ w'.cell? ⟨G, 3, none⟩ = some (.string d) ∧ w'.cell? ⟨G, 4, none⟩ = some (.int .i64 t) ∧ w'.cell? ⟨G, 5, none⟩ = some (.int .i64 z)) ∧ (w'.cell? (ad.add (n * 6)) = some (.string x.1) ∧ w'.cell? ⟨(ad.add (n * 6)).block, (ad.add (n * 6)).off + 1, none⟩ = some (.int .i64 x.2.1) ∧ w'.cell? ⟨(ad.add (n * 6)).block, (ad.add (n * 6)).off + 2, none⟩ = some (.int .i64 x.2.2.1) ∧ w'.cell? ⟨(ad.add (n * 6)).block, (ad.add (n * 6)).off + 3, none⟩ = some (.string x.2.2.2.1) ∧ w'.cell? ⟨(ad.add (n * 6)).block, (ad.add (n * 6)).off + 4, none⟩ = some (.int .i64 x.2.2.2.2.1) ∧ w'.cell? ⟨(ad.add (n * 6)).block, (ad.add (n * 6)).off + 5, none⟩ = some (.int .i64 x.2.2.2.2.2))) (by kernel_rfl) (SX.out _ (Below.refl _ _).drew) (fun hHeld => ?_)
          refine wpAnyH_take (i := 0) (oi := { dst := some 47, op := Op.move (Operand.tmp 6), type := 3, pos := "index.go:53", after := #[], guard := none }) (v := ?vcp0) rfl (by kernel_rfl) (by kernel_rfl) (by kernel_rfl) (fun _ _ _ h => h) (Or.inl ⟨by rfl, ?ycp0⟩) (by assumption) ?rcp0
          case ycp0 => (intro w' hSw; (try dsimp only at hSw); go_simp; try with_reducible rfl)
          try simp only [Act.put, List.setIfInBounds_toArray, List.set_cons_zero, List.set_cons_succ]
          refine wpAnyH_take (i := 1) (oi := { dst := some 48, op := Op.binOp BinOp.gtr 3 (Operand.tmp 47) (Operand.const (Value.int IntKind.i64 0)) 3, type := 4, pos := "index.go:53", after := #[{ on := 0, ground := Ground.data }], guard := none }) (v := ?vcp1) rfl (by kernel_rfl) (by kernel_rfl) (by kernel_rfl) (fun _ _ _ h => h) (Or.inl ⟨by rfl, ?ycp1⟩) (by assumption) ?rcp1
          case ycp1 => (intro w' hSw; (try dsimp only at hSw); go_simp; try with_reducible rfl)
          try simp only [Act.put, List.setIfInBounds_toArray, List.set_cons_zero, List.set_cons_succ]
          refine wpAnyH_take (i := 2) (oi := { dst := some 49, op := Op.move (Operand.tmp 48), type := 4, pos := "index.go:53", after := #[{ on := 1, ground := Ground.data }], guard := none }) (v := ?vcp2) rfl (by kernel_rfl) (by kernel_rfl) (by kernel_rfl) (fun _ _ _ h => h) (Or.inl ⟨by rfl, ?ycp2⟩) (by assumption) ?rcp2
          case ycp2 => (intro w' hSw; (try dsimp only at hSw); go_simp; try with_reducible rfl)
          try simp only [Act.put, List.setIfInBounds_toArray, List.set_cons_zero, List.set_cons_succ]
          refine wpAnyH_take (i := 3) (oi := { dst := some 50, op := Op.move (Operand.tmp 1), type := 54, pos := "index.go:53", after := #[{ on := 2, ground := Ground.guard }], guard := some (2, true) }) (v := ?vcp3) rfl (by kernel_rfl) (by kernel_rfl) (by kernel_rfl) (fun _ _ _ h => h) (Or.inl ⟨by rfl, ?ycp3⟩) (by assumption) ?rcp3
          case ycp3 => (intro w' hSw; (try dsimp only at hSw); go_simp; try with_reducible rfl)
          try simp only [Act.put, List.setIfInBounds_toArray, List.set_cons_zero, List.set_cons_succ]
          refine wpAnyH_take (i := 4) (oi := { dst := some 51, op := Op.move (Operand.tmp 6), type := 3, pos := "index.go:53", after := #[{ on := 2, ground := Ground.guard }], guard := some (2, true) }) (v := ?vcp4) rfl (by kernel_rfl) (by kernel_rfl) (by kernel_rfl) (fun _ _ _ h => h) (Or.inl ⟨by rfl, ?ycp4⟩) (by assumption) ?rcp4
          case ycp4 => (intro w' hSw; (try dsimp only at hSw); go_simp; try with_reducible rfl)
          try simp only [Act.put, List.setIfInBounds_toArray, List.set_cons_zero, List.set_cons_succ]
          refine wpAnyH_take (i := 5) (oi := { dst := some 52, op := Op.binOp BinOp.sub 3 (Operand.tmp 51) (Operand.const (Value.int IntKind.i64 1)) 3, type := 3, pos := "index.go:53", after := #[{ on := 4, ground := Ground.data }, { on := 2, ground := Ground.guard }], guard := some (2, true) }) (v := ?vcp5) rfl (by kernel_rfl) (by kernel_rfl) (by kernel_rfl) (fun _ _ _ h => h) (Or.inl ⟨by rfl, ?ycp5⟩) (by assumption) ?rcp5
          case ycp5 => (intro w' hSw; (try dsimp only at hSw); go_simp; try with_reducible rfl)
          try simp only [Act.put, List.setIfInBounds_toArray, List.set_cons_zero, List.set_cons_succ]
          refine wpAnyH_take (i := 6) (oi := { dst := some 53, op := Op.indexAddr 54 (Operand.tmp 50) (Operand.tmp 52), type := 0, pos := "index.go:53", after := #[{ on := 3, ground := Ground.data }, { on := 5, ground := Ground.data }, { on := 2, ground := Ground.guard }], guard := some (2, true) }) (v := ?vcp6) rfl (by kernel_rfl) (by kernel_rfl) (by kernel_rfl) (fun _ _ _ h => h) (Or.inl ⟨by rfl, ?ycp6⟩) (by assumption) ?rcp6
          case ycp6 => (intro w' hSw; (try dsimp only at hSw); go_simp; try with_reducible rfl)
          try simp only [Act.put, List.setIfInBounds_toArray, List.set_cons_zero, List.set_cons_succ]
          refine wpAnyH_take (i := 7) (oi := { dst := some 54, op := Op.load 57 (Operand.tmp 53), type := 57, pos := "index.go:53", after := #[{ on := 6, ground := Ground.data }, { on := 2, ground := Ground.guard }], guard := some (2, true) }) (v := ?vcp7) rfl (by kernel_rfl) (by kernel_rfl) (by kernel_rfl) (fun _ _ _ h => h) (Or.inl ⟨by rfl, ?ycp7⟩) (by assumption) ?rcp7
          case ycp7 => (intro w' hSw; (try dsimp only at hSw); go_simp; try with_reducible rfl)
          try simp only [Act.put, List.setIfInBounds_toArray, List.set_cons_zero, List.set_cons_succ]
          refine wpAnyH_take (i := 8) (oi := { dst := some 55, op := Op.load 57 (Operand.tmp 2), type := 57, pos := "index.go:53", after := #[{ on := 2, ground := Ground.guard }], guard := some (2, true) }) (v := ?vcp8) rfl (by kernel_rfl) (by kernel_rfl) (by kernel_rfl) (fun _ _ _ h => h) (Or.inl ⟨by rfl, ?ycp8⟩) (by assumption) ?rcp8
          case ycp8 => (intro w' hSw; (try dsimp only at hSw); go_simp; try with_reducible rfl)
          try simp only [Act.put, List.setIfInBounds_toArray, List.set_cons_zero, List.set_cons_succ]
          refine wpAnyH_ready (rs := [9]) (by kernel_rfl) (by simp) ?_
          refine AllReadyH.cons (o := { dst := some 56, op := Op.call { callee := Callee.value (Operand.func 57), args := #[Operand.tmp 54, Operand.tmp 55], argTypes := #[57, 57] }, type := 3, pos := "index.go:53", after := #[{ on := 7, ground := Ground.data }, { on := 8, ground := Ground.data }, { on := 2, ground := Ground.chain }, { on := 2, ground := Ground.guard }], guard := some (2, true) }) rfl (fun K hK => ?_) AllReadyH.nil
          go_simp
          refine (CP.out _).mono ?_
          rintro e w4 ⟨rfl, b4⟩
          have hb4 : Below w2.heap.size w2 w4 := ((Below.refl _ _).drew).trans b4
          go_wp2_with fail
          refine hK.out _ _ (SX.out _ hb4) (fun hHeldcp9 => ?_)
          clear hK K hHeld
          try simp only [Act.put, List.setIfInBounds_toArray, List.set_cons_zero, List.set_cons_succ]
          refine wpAnyH_take (i := 10) (oi := { dst := some 57, op := Op.binOp BinOp.geq 3 (Operand.tmp 56) (Operand.const (Value.int IntKind.i64 0)) 3, type := 4, pos := "index.go:53", after := #[{ on := 9, ground := Ground.data }, { on := 2, ground := Ground.guard }], guard := some (2, true) }) (v := ?vcp10) rfl (by kernel_rfl) (by kernel_rfl) (by kernel_rfl) (fun _ _ _ h => h) (Or.inl ⟨by rfl, ?ycp10⟩) (by assumption) ?rcp10
          case ycp10 => (intro w' hSw; (try dsimp only at hSw); go_simp; try with_reducible rfl)
          try simp only [Act.put, List.setIfInBounds_toArray, List.set_cons_zero, List.set_cons_succ]
          refine wpAnyH_take (i := 11) (oi := { dst := some 58, op := Op.pick (Operand.tmp 49) (Operand.tmp 57) (Operand.const (Value.bool false)), type := 4, pos := "index.go:53", after := #[{ on := 2, ground := Ground.data }, { on := 10, ground := Ground.data }], guard := none }) (v := ?vcp11) rfl (by kernel_rfl) (by kernel_rfl) (by kernel_rfl) (fun _ _ _ h => h) (Or.inl ⟨by rfl, ?ycp11⟩) (by assumption) ?rcp11
          case ycp11 => (intro w' hSw; (try dsimp only at hSw); go_simp; try with_reducible rfl)
          try simp only [Act.put, List.setIfInBounds_toArray, List.set_cons_zero, List.set_cons_succ]
          refine wpAnyH_take (i := 12) (oi := { dst := some 59, op := Op.move (Operand.tmp 58), type := 4, pos := "index.go:53", after := #[{ on := 11, ground := Ground.data }, { on := 9, ground := Ground.chain }], guard := none }) (v := ?vcp12) rfl (by kernel_rfl) (by kernel_rfl) (by kernel_rfl) (fun _ _ _ h => h) (Or.inl ⟨by rfl, ?ycp12⟩) (by assumption) ?rcp12
          case ycp12 => (intro w' hSw; (try dsimp only at hSw); go_simp; try with_reducible rfl)
          try simp only [Act.put, List.setIfInBounds_toArray, List.set_cons_zero, List.set_cons_succ]
          refine wpAnyH_take (i := 13) (oi := { dst := some 60, op := Op.move (Operand.tmp 1), type := 54, pos := "index.go:53", after := #[{ on := 12, ground := Ground.guard }], guard := some (12, false) }) (v := ?vcp13) rfl (by kernel_rfl) (by kernel_rfl) (by kernel_rfl) (fun _ _ _ h => h) (Or.inl ⟨by rfl, ?ycp13⟩) (by assumption) ?rcp13
          case ycp13 => (intro w' hSw; (try dsimp only at hSw); go_simp; try with_reducible rfl)
          try simp only [Act.put, List.setIfInBounds_toArray, List.set_cons_zero, List.set_cons_succ]
          refine wpAnyH_take (i := 14) (oi := { dst := some 61, op := Op.load 57 (Operand.tmp 2), type := 57, pos := "index.go:53", after := #[{ on := 12, ground := Ground.guard }], guard := some (12, false) }) (v := ?vcp14) rfl (by kernel_rfl) (by kernel_rfl) (by kernel_rfl) (fun _ _ _ h => h) (Or.inl ⟨by rfl, ?ycp14⟩) (by assumption) ?rcp14
          case ycp14 => (intro w' hSw; (try dsimp only at hSw); go_simp; try with_reducible rfl)
          try simp only [Act.put, List.setIfInBounds_toArray, List.set_cons_zero, List.set_cons_succ]
          refine wpAnyH_ready (rs := [15]) (by kernel_rfl) (by simp) ?_
          refine AllReadyH.cons (o := { dst := some 62, op := Op.makeFunc (Fn.func 55) #[Operand.tmp 61] #[], type := 91, pos := "index.go:53", after := #[{ on := 14, ground := Ground.data }, { on := 12, ground := Ground.guard }], guard := some (12, false) }) rfl (fun K hK => ?_) AllReadyH.nil
          go_simp
          refine hK.out _ _ (SX.out _ hb4) (fun hHeldcp15 => ?_)
          clear hK K hHeldcp9
          try simp only [Act.put, List.setIfInBounds_toArray, List.set_cons_zero, List.set_cons_succ]
          refine wpAnyH_ready (rs := [16]) (by kernel_rfl) (by simp) ?_
          refine AllReadyH.cons (o := { dst := some 63, op := Op.call { callee := Callee.value (Operand.func 94), args := #[Operand.tmp 60, Operand.tmp 62], argTypes := #[54, 91] }, type := 4, pos := "index.go:53", after := #[{ on := 13, ground := Ground.data }, { on := 15, ground := Ground.data }, { on := 12, ground := Ground.chain }, { on := 12, ground := Ground.guard }], guard := some (12, false) }) rfl (fun K hK => ?_) AllReadyH.nil
          go_simp
          refine (CT.out _ hb4).mono ?_
          rintro e w3 ⟨rfl, b3⟩
          have hb3 : Below w2.heap.size w2 w3 := hb4.trans (b3.mono hb4.size)
          go_wp2_with fail
          refine hK.out _ _ (SX.out _ hb3) (fun hHeldcp16 => ?_)
          clear hK K hHeldcp15
          try simp only [Act.put, List.setIfInBounds_toArray, List.set_cons_zero, List.set_cons_succ]
          refine wpAnyH_take (i := 17) (oi := { dst := some 64, op := Op.pick (Operand.tmp 59) (Operand.const (Value.bool true)) (Operand.tmp 63), type := 4, pos := "index.go:53", after := #[{ on := 12, ground := Ground.data }, { on := 16, ground := Ground.data }], guard := none }) (v := ?vcp17) rfl (by kernel_rfl) (by kernel_rfl) (by kernel_rfl) (fun _ _ _ h => h) (Or.inl ⟨by rfl, ?ycp17⟩) (by assumption) ?rcp17
          case ycp17 => (intro w' hSw; (try dsimp only at hSw); go_simp; try with_reducible rfl)
          try simp only [Act.put, List.setIfInBounds_toArray, List.set_cons_zero, List.set_cons_succ]
          refine wpAnyH_done (by kernel_rfl) ?_ _
          go_wp2_with fail
          go_ret
          exact ⟨ret_i HV.out.symm, HB2.out.trans (hb3.mono HB2.out.size)⟩
        | false =>
          cases qc with
          | false =>
            have HV := Lib.hid (show wrE l (p, st, 1, d, t, z) = 0 by rw [wrE_rest HOK.out, HLT.out, ← HA.out, ← HQ.out]; rfl)
            go_wp2_with fail
            refine wp_region_held_drew (S := fun w' => (w'.cell? ⟨G, 0, none⟩ = some (.string p) ∧ w'.cell? ⟨G, 1, none⟩ = some (.int .i64 st) ∧ w'.cell? ⟨G, 2, none⟩ = some (.int .i64 1) ∧ w'.cell? ⟨G, 3, none⟩ = some (.string d) ∧ w'.cell? ⟨G, 4, none⟩ = some (.int .i64 t) ∧ w'.cell? ⟨G, 5, none⟩ = some (.int .i64 z)) ∧ (w'.cell? (ad.add (n * 6)) = some (.string x.1) ∧ w'.cell? ⟨(ad.add (n * 6)).block, (ad.add (n * 6)).off + 1, none⟩ = some (.int .i64 x.2.1) ∧ w'.cell? ⟨(ad.add (n * 6)).block, (ad.add (n * 6)).off + 2, none⟩ = some (.int .i64 x.2.2.1) ∧ w'.cell? ⟨(ad.add (n * 6)).block, (ad.add (n * 6)).off + 3, none⟩ = some (.string x.2.2.2.1) ∧ w'.cell? ⟨(ad.add (n * 6)).block, (ad.add (n * 6)).off + 4, none⟩ = some (.int .i64 x.2.2.2.2.1) ∧ w'.cell? ⟨(ad.add (n * 6)).block, (ad.add (n * 6)).off + 5, none⟩ = some (.int .i64 x.2.2.2.2.2))) (by kernel_rfl) (SX.out _ (Below.refl _ _).drew) (fun hHeld => ?_)
            refine wpAnyH_take (i := 0) (oi := { dst := some 47, op := Op.move (Operand.tmp 6), type := 3, pos := "index.go:53", after := #[], guard := none }) (v := ?vdp0) rfl (by kernel_rfl) (by kernel_rfl) (by kernel_rfl) (fun _ _ _ h => h) (Or.inl ⟨by rfl, ?ydp0⟩) (by assumption) ?rdp0
            case ydp0 => (intro w' hSw; (try dsimp only at hSw); go_simp; try with_reducible rfl)
            try simp only [Act.put, List.setIfInBounds_toArray, List.set_cons_zero, List.set_cons_succ]
            refine wpAnyH_take (i := 1) (oi := { dst := some 48, op := Op.binOp BinOp.gtr 3 (Operand.tmp 47) (Operand.const (Value.int IntKind.i64 0)) 3, type := 4, pos := "index.go:53", after := #[{ on := 0, ground := Ground.data }], guard := none }) (v := ?vdp1) rfl (by kernel_rfl) (by kernel_rfl) (by kernel_rfl) (fun _ _ _ h => h) (Or.inl ⟨by rfl, ?ydp1⟩) (by assumption) ?rdp1
            case ydp1 => (intro w' hSw; (try dsimp only at hSw); go_simp; try with_reducible rfl)
            try simp only [Act.put, List.setIfInBounds_toArray, List.set_cons_zero, List.set_cons_succ]
            refine wpAnyH_take (i := 2) (oi := { dst := some 49, op := Op.move (Operand.tmp 48), type := 4, pos := "index.go:53", after := #[{ on := 1, ground := Ground.data }], guard := none }) (v := ?vdp2) rfl (by kernel_rfl) (by kernel_rfl) (by kernel_rfl) (fun _ _ _ h => h) (Or.inl ⟨by rfl, ?ydp2⟩) (by assumption) ?rdp2
            case ydp2 => (intro w' hSw; (try dsimp only at hSw); go_simp; try with_reducible rfl)
            try simp only [Act.put, List.setIfInBounds_toArray, List.set_cons_zero, List.set_cons_succ]
            refine wpAnyH_take (i := 3) (oi := { dst := some 50, op := Op.move (Operand.tmp 1), type := 54, pos := "index.go:53", after := #[{ on := 2, ground := Ground.guard }], guard := some (2, true) }) (v := ?vdp3) rfl (by kernel_rfl) (by kernel_rfl) (by kernel_rfl) (fun _ _ _ h => h) (Or.inl ⟨by rfl, ?ydp3⟩) (by assumption) ?rdp3
            case ydp3 => (intro w' hSw; (try dsimp only at hSw); go_simp; try with_reducible rfl)
            try simp only [Act.put, List.setIfInBounds_toArray, List.set_cons_zero, List.set_cons_succ]
            refine wpAnyH_take (i := 4) (oi := { dst := some 51, op := Op.move (Operand.tmp 6), type := 3, pos := "index.go:53", after := #[{ on := 2, ground := Ground.guard }], guard := some (2, true) }) (v := ?vdp4) rfl (by kernel_rfl) (by kernel_rfl) (by kernel_rfl) (fun _ _ _ h => h) (Or.inl ⟨by rfl, ?ydp4⟩) (by assumption) ?rdp4
            case ydp4 => (intro w' hSw; (try dsimp only at hSw); go_simp; try with_reducible rfl)
            try simp only [Act.put, List.setIfInBounds_toArray, List.set_cons_zero, List.set_cons_succ]
            refine wpAnyH_take (i := 5) (oi := { dst := some 52, op := Op.binOp BinOp.sub 3 (Operand.tmp 51) (Operand.const (Value.int IntKind.i64 1)) 3, type := 3, pos := "index.go:53", after := #[{ on := 4, ground := Ground.data }, { on := 2, ground := Ground.guard }], guard := some (2, true) }) (v := ?vdp5) rfl (by kernel_rfl) (by kernel_rfl) (by kernel_rfl) (fun _ _ _ h => h) (Or.inl ⟨by rfl, ?ydp5⟩) (by assumption) ?rdp5
            case ydp5 => (intro w' hSw; (try dsimp only at hSw); go_simp; try with_reducible rfl)
            try simp only [Act.put, List.setIfInBounds_toArray, List.set_cons_zero, List.set_cons_succ]
            refine wpAnyH_take (i := 6) (oi := { dst := some 53, op := Op.indexAddr 54 (Operand.tmp 50) (Operand.tmp 52), type := 0, pos := "index.go:53", after := #[{ on := 3, ground := Ground.data }, { on := 5, ground := Ground.data }, { on := 2, ground := Ground.guard }], guard := some (2, true) }) (v := ?vdp6) rfl (by kernel_rfl) (by kernel_rfl) (by kernel_rfl) (fun _ _ _ h => h) (Or.inl ⟨by rfl, ?ydp6⟩) (by assumption) ?rdp6
            case ydp6 => (intro w' hSw; (try dsimp only at hSw); go_simp; try with_reducible rfl)
            try simp only [Act.put, List.setIfInBounds_toArray, List.set_cons_zero, List.set_cons_succ]
            refine wpAnyH_take (i := 7) (oi := { dst := some 54, op := Op.load 57 (Operand.tmp 53), type := 57, pos := "index.go:53", after := #[{ on := 6, ground := Ground.data }, { on := 2, ground := Ground.guard }], guard := some (2, true) }) (v := ?vdp7) rfl (by kernel_rfl) (by kernel_rfl) (by kernel_rfl) (fun _ _ _ h => h) (Or.inl ⟨by rfl, ?ydp7⟩) (by assumption) ?rdp7
            case ydp7 => (intro w' hSw; (try dsimp only at hSw); go_simp; try with_reducible rfl)
            try simp only [Act.put, List.setIfInBounds_toArray, List.set_cons_zero, List.set_cons_succ]
            refine wpAnyH_take (i := 8) (oi := { dst := some 55, op := Op.load 57 (Operand.tmp 2), type := 57, pos := "index.go:53", after := #[{ on := 2, ground := Ground.guard }], guard := some (2, true) }) (v := ?vdp8) rfl (by kernel_rfl) (by kernel_rfl) (by kernel_rfl) (fun _ _ _ h => h) (Or.inl ⟨by rfl, ?ydp8⟩) (by assumption) ?rdp8
            case ydp8 => (intro w' hSw; (try dsimp only at hSw); go_simp; try with_reducible rfl)
            try simp only [Act.put, List.setIfInBounds_toArray, List.set_cons_zero, List.set_cons_succ]
            refine wpAnyH_ready (rs := [9]) (by kernel_rfl) (by simp) ?_
            refine AllReadyH.cons (o := { dst := some 56, op := Op.call { callee := Callee.value (Operand.func 57), args := #[Operand.tmp 54, Operand.tmp 55], argTypes := #[57, 57] }, type := 3, pos := "index.go:53", after := #[{ on := 7, ground := Ground.data }, { on := 8, ground := Ground.data }, { on := 2, ground := Ground.chain }, { on := 2, ground := Ground.guard }], guard := some (2, true) }) rfl (fun K hK => ?_) AllReadyH.nil
            go_simp
            refine (CP.out _).mono ?_
            rintro e w4 ⟨rfl, b4⟩
            have hb4 : Below w2.heap.size w2 w4 := ((Below.refl _ _).drew).trans b4
            go_wp2_with fail
            refine hK.out _ _ (SX.out _ hb4) (fun hHelddp9 => ?_)
            clear hK K hHeld
            try simp only [Act.put, List.setIfInBounds_toArray, List.set_cons_zero, List.set_cons_succ]
            refine wpAnyH_take (i := 10) (oi := { dst := some 57, op := Op.binOp BinOp.geq 3 (Operand.tmp 56) (Operand.const (Value.int IntKind.i64 0)) 3, type := 4, pos := "index.go:53", after := #[{ on := 9, ground := Ground.data }, { on := 2, ground := Ground.guard }], guard := some (2, true) }) (v := ?vdp10) rfl (by kernel_rfl) (by kernel_rfl) (by kernel_rfl) (fun _ _ _ h => h) (Or.inl ⟨by rfl, ?ydp10⟩) (by assumption) ?rdp10
            case ydp10 => (intro w' hSw; (try dsimp only at hSw); go_simp; try with_reducible rfl)
            try simp only [Act.put, List.setIfInBounds_toArray, List.set_cons_zero, List.set_cons_succ]
            refine wpAnyH_take (i := 11) (oi := { dst := some 58, op := Op.pick (Operand.tmp 49) (Operand.tmp 57) (Operand.const (Value.bool false)), type := 4, pos := "index.go:53", after := #[{ on := 2, ground := Ground.data }, { on := 10, ground := Ground.data }], guard := none }) (v := ?vdp11) rfl (by kernel_rfl) (by kernel_rfl) (by kernel_rfl) (fun _ _ _ h => h) (Or.inl ⟨by rfl, ?ydp11⟩) (by assumption) ?rdp11
            case ydp11 => (intro w' hSw; (try dsimp only at hSw); go_simp; try with_reducible rfl)
            try simp only [Act.put, List.setIfInBounds_toArray, List.set_cons_zero, List.set_cons_succ]
            refine wpAnyH_take (i := 12) (oi := { dst := some 59, op := Op.move (Operand.tmp 58), type := 4, pos := "index.go:53", after := #[{ on := 11, ground := Ground.data }, { on := 9, ground := Ground.chain }], guard := none }) (v := ?vdp12) rfl (by kernel_rfl) (by kernel_rfl) (by kernel_rfl) (fun _ _ _ h => h) (Or.inl ⟨by rfl, ?ydp12⟩) (by assumption) ?rdp12
            case ydp12 => (intro w' hSw; (try dsimp only at hSw); go_simp; try with_reducible rfl)
            try simp only [Act.put, List.setIfInBounds_toArray, List.set_cons_zero, List.set_cons_succ]
            refine wpAnyH_take (i := 13) (oi := { dst := some 60, op := Op.move (Operand.tmp 1), type := 54, pos := "index.go:53", after := #[{ on := 12, ground := Ground.guard }], guard := some (12, false) }) (v := ?vdp13) rfl (by kernel_rfl) (by kernel_rfl) (by kernel_rfl) (fun _ _ _ h => h) (Or.inl ⟨by rfl, ?ydp13⟩) (by assumption) ?rdp13
            case ydp13 => (intro w' hSw; (try dsimp only at hSw); go_simp; try with_reducible rfl)
            try simp only [Act.put, List.setIfInBounds_toArray, List.set_cons_zero, List.set_cons_succ]
            refine wpAnyH_take (i := 14) (oi := { dst := some 61, op := Op.load 57 (Operand.tmp 2), type := 57, pos := "index.go:53", after := #[{ on := 12, ground := Ground.guard }], guard := some (12, false) }) (v := ?vdp14) rfl (by kernel_rfl) (by kernel_rfl) (by kernel_rfl) (fun _ _ _ h => h) (Or.inl ⟨by rfl, ?ydp14⟩) (by assumption) ?rdp14
            case ydp14 => (intro w' hSw; (try dsimp only at hSw); go_simp; try with_reducible rfl)
            try simp only [Act.put, List.setIfInBounds_toArray, List.set_cons_zero, List.set_cons_succ]
            refine wpAnyH_ready (rs := [15]) (by kernel_rfl) (by simp) ?_
            refine AllReadyH.cons (o := { dst := some 62, op := Op.makeFunc (Fn.func 55) #[Operand.tmp 61] #[], type := 91, pos := "index.go:53", after := #[{ on := 14, ground := Ground.data }, { on := 12, ground := Ground.guard }], guard := some (12, false) }) rfl (fun K hK => ?_) AllReadyH.nil
            go_simp
            refine hK.out _ _ (SX.out _ hb4) (fun hHelddp15 => ?_)
            clear hK K hHelddp9
            try simp only [Act.put, List.setIfInBounds_toArray, List.set_cons_zero, List.set_cons_succ]
            refine wpAnyH_ready (rs := [16]) (by kernel_rfl) (by simp) ?_
            refine AllReadyH.cons (o := { dst := some 63, op := Op.call { callee := Callee.value (Operand.func 94), args := #[Operand.tmp 60, Operand.tmp 62], argTypes := #[54, 91] }, type := 4, pos := "index.go:53", after := #[{ on := 13, ground := Ground.data }, { on := 15, ground := Ground.data }, { on := 12, ground := Ground.chain }, { on := 12, ground := Ground.guard }], guard := some (12, false) }) rfl (fun K hK => ?_) AllReadyH.nil
            go_simp
            refine (CT.out _ hb4).mono ?_
            rintro e w3 ⟨rfl, b3⟩
            have hb3 : Below w2.heap.size w2 w3 := hb4.trans (b3.mono hb4.size)
            go_wp2_with fail
            refine hK.out _ _ (SX.out _ hb3) (fun hHelddp16 => ?_)
            clear hK K hHelddp15
            try simp only [Act.put, List.setIfInBounds_toArray, List.set_cons_zero, List.set_cons_succ]
            refine wpAnyH_take (i := 17) (oi := { dst := some 64, op := Op.pick (Operand.tmp 59) (Operand.const (Value.bool true)) (Operand.tmp 63), type := 4, pos := "index.go:53", after := #[{ on := 12, ground := Ground.data }, { on := 16, ground := Ground.data }], guard := none }) (v := ?vdp17) rfl (by kernel_rfl) (by kernel_rfl) (by kernel_rfl) (fun _ _ _ h => h) (Or.inl ⟨by rfl, ?ydp17⟩) (by assumption) ?rdp17
            case ydp17 => (intro w' hSw; (try dsimp only at hSw); go_simp; try with_reducible rfl)
            try simp only [Act.put, List.setIfInBounds_toArray, List.set_cons_zero, List.set_cons_succ]
            refine wpAnyH_done (by kernel_rfl) ?_ _
            go_wp2_with fail
            refine (CC.out _ hb3).mono ?_
            rintro e w5 ⟨rfl, b5⟩
            have B5 := Lib.hid (HB2.out.trans ((hb3.trans (b5.mono hb3.size)).mono HB2.out.size))
            clear b5
            go_wp2_with fail
            go_ret
            exact ⟨ret_i HV.out.symm, B5.out⟩
          | true =>
            have HV := Lib.hid (show wrE l (p, st, 1, d, t, z) = 11 by rw [wrE_rest HOK.out, HLT.out, ← HA.out, ← HQ.out]; rfl)
            go_wp2_with fail
            refine wp_region_held_drew (S := fun w' => (w'.cell? ⟨G, 0, none⟩ = some (.string p) ∧ w'.cell? ⟨G, 1, none⟩ = some (.int .i64 st) ∧ w'.cell? ⟨G, 2, none⟩ = some (.int .i64 1) ∧ w'.cell? ⟨G, 3, none⟩ = some (.string d) ∧ w'.cell? ⟨G, 4, none⟩ = some (.int .i64 t) ∧ w'.cell? ⟨G, 5, none⟩ = some (.int .i64 z)) ∧ (w'.cell? (ad.add (n * 6)) = some (.string x.1) ∧ w'.cell? ⟨(ad.add (n * 6)).block, (ad.add (n * 6)).off + 1, none⟩ = some (.int .i64 x.2.1) ∧ w'.cell? ⟨(ad.add (n * 6)).block, (ad.add (n * 6)).off + 2, none⟩ = some (.int .i64 x.2.2.1) ∧ w'.cell? ⟨(ad.add (n * 6)).block, (ad.add (n * 6)).off + 3, none⟩ = some (.string x.2.2.2.1) ∧ w'.cell? ⟨(ad.add (n * 6)).block, (ad.add (n * 6)).off + 4, none⟩ = some (.int .i64 x.2.2.2.2.1) ∧ w'.cell? ⟨(ad.add (n * 6)).block, (ad.add (n * 6)).off + 5, none⟩ = some (.int .i64 x.2.2.2.2.2))) (by kernel_rfl) (SX.out _ (Below.refl _ _).drew) (fun hHeld => ?_)
            refine wpAnyH_take (i := 0) (oi := { dst := some 47, op := Op.move (Operand.tmp 6), type := 3, pos := "index.go:53", after := #[], guard := none }) (v := ?vep0) rfl (by kernel_rfl) (by kernel_rfl) (by kernel_rfl) (fun _ _ _ h => h) (Or.inl ⟨by rfl, ?yep0⟩) (by assumption) ?rep0
            case yep0 => (intro w' hSw; (try dsimp only at hSw); go_simp; try with_reducible rfl)
            try simp only [Act.put, List.setIfInBounds_toArray, List.set_cons_zero, List.set_cons_succ]
            refine wpAnyH_take (i := 1) (oi := { dst := some 48, op := Op.binOp BinOp.gtr 3 (Operand.tmp 47) (Operand.const (Value.int IntKind.i64 0)) 3, type := 4, pos := "index.go:53", after := #[{ on := 0, ground := Ground.data }], guard := none }) (v := ?vep1) rfl (by kernel_rfl) (by kernel_rfl) (by kernel_rfl) (fun _ _ _ h => h) (Or.inl ⟨by rfl, ?yep1⟩) (by assumption) ?rep1
            case yep1 => (intro w' hSw; (try dsimp only at hSw); go_simp; try with_reducible rfl)
            try simp only [Act.put, List.setIfInBounds_toArray, List.set_cons_zero, List.set_cons_succ]
            refine wpAnyH_take (i := 2) (oi := { dst := some 49, op := Op.move (Operand.tmp 48), type := 4, pos := "index.go:53", after := #[{ on := 1, ground := Ground.data }], guard := none }) (v := ?vep2) rfl (by kernel_rfl) (by kernel_rfl) (by kernel_rfl) (fun _ _ _ h => h) (Or.inl ⟨by rfl, ?yep2⟩) (by assumption) ?rep2
            case yep2 => (intro w' hSw; (try dsimp only at hSw); go_simp; try with_reducible rfl)
            try simp only [Act.put, List.setIfInBounds_toArray, List.set_cons_zero, List.set_cons_succ]
            refine wpAnyH_take (i := 3) (oi := { dst := some 50, op := Op.move (Operand.tmp 1), type := 54, pos := "index.go:53", after := #[{ on := 2, ground := Ground.guard }], guard := some (2, true) }) (v := ?vep3) rfl (by kernel_rfl) (by kernel_rfl) (by kernel_rfl) (fun _ _ _ h => h) (Or.inl ⟨by rfl, ?yep3⟩) (by assumption) ?rep3
            case yep3 => (intro w' hSw; (try dsimp only at hSw); go_simp; try with_reducible rfl)
            try simp only [Act.put, List.setIfInBounds_toArray, List.set_cons_zero, List.set_cons_succ]
            refine wpAnyH_take (i := 4) (oi := { dst := some 51, op := Op.move (Operand.tmp 6), type := 3, pos := "index.go:53", after := #[{ on := 2, ground := Ground.guard }], guard := some (2, true) }) (v := ?vep4) rfl (by kernel_rfl) (by kernel_rfl) (by kernel_rfl) (fun _ _ _ h => h) (Or.inl ⟨by rfl, ?yep4⟩) (by assumption) ?rep4
            case yep4 => (intro w' hSw; (try dsimp only at hSw); go_simp; try with_reducible rfl)
            try simp only [Act.put, List.setIfInBounds_toArray, List.set_cons_zero, List.set_cons_succ]
            refine wpAnyH_take (i := 5) (oi := { dst := some 52, op := Op.binOp BinOp.sub 3 (Operand.tmp 51) (Operand.const (Value.int IntKind.i64 1)) 3, type := 3, pos := "index.go:53", after := #[{ on := 4, ground := Ground.data }, { on := 2, ground := Ground.guard }], guard := some (2, true) }) (v := ?vep5) rfl (by kernel_rfl) (by kernel_rfl) (by kernel_rfl) (fun _ _ _ h => h) (Or.inl ⟨by rfl, ?yep5⟩) (by assumption) ?rep5
            case yep5 => (intro w' hSw; (try dsimp only at hSw); go_simp; try with_reducible rfl)
            try simp only [Act.put, List.setIfInBounds_toArray, List.set_cons_zero, List.set_cons_succ]
            refine wpAnyH_take (i := 6) (oi := { dst := some 53, op := Op.indexAddr 54 (Operand.tmp 50) (Operand.tmp 52), type := 0, pos := "index.go:53", after := #[{ on := 3, ground := Ground.data }, { on := 5, ground := Ground.data }, { on := 2, ground := Ground.guard }], guard := some (2, true) }) (v := ?vep6) rfl (by kernel_rfl) (by kernel_rfl) (by kernel_rfl) (fun _ _ _ h => h) (Or.inl ⟨by rfl, ?yep6⟩) (by assumption) ?rep6
            case yep6 => (intro w' hSw; (try dsimp only at hSw); go_simp; try with_reducible rfl)
            try simp only [Act.put, List.setIfInBounds_toArray, List.set_cons_zero, List.set_cons_succ]
            refine wpAnyH_take (i := 7) (oi := { dst := some 54, op := Op.load 57 (Operand.tmp 53), type := 57, pos := "index.go:53", after := #[{ on := 6, ground := Ground.data }, { on := 2, ground := Ground.guard }], guard := some (2, true) }) (v := ?vep7) rfl (by kernel_rfl) (by kernel_rfl) (by kernel_rfl) (fun _ _ _ h => h) (Or.inl ⟨by rfl, ?yep7⟩) (by assumption) ?rep7
            case yep7 => (intro w' hSw; (try dsimp only at hSw); go_simp; try with_reducible rfl)
            try simp only [Act.put, List.setIfInBounds_toArray, List.set_cons_zero, List.set_cons_succ]
            refine wpAnyH_take (i := 8) (oi := { dst := some 55, op := Op.load 57 (Operand.tmp 2), type := 57, pos := "index.go:53", after := #[{ on := 2, ground := Ground.guard }], guard := some (2, true) }) (v := ?vep8) rfl (by kernel_rfl) (by kernel_rfl) (by kernel_rfl) (fun _ _ _ h => h) (Or.inl ⟨by rfl, ?yep8⟩) (by assumption) ?rep8
            case yep8 => (intro w' hSw; (try dsimp only at hSw); go_simp; try with_reducible rfl)
            try simp only [Act.put, List.setIfInBounds_toArray, List.set_cons_zero, List.set_cons_succ]
            refine wpAnyH_ready (rs := [9]) (by kernel_rfl) (by simp) ?_
            refine AllReadyH.cons (o := { dst := some 56, op := Op.call { callee := Callee.value (Operand.func 57), args := #[Operand.tmp 54, Operand.tmp 55], argTypes := #[57, 57] }, type := 3, pos := "index.go:53", after := #[{ on := 7, ground := Ground.data }, { on := 8, ground := Ground.data }, { on := 2, ground := Ground.chain }, { on := 2, ground := Ground.guard }], guard := some (2, true) }) rfl (fun K hK => ?_) AllReadyH.nil
            go_simp
            refine (CP.out _).mono ?_
            rintro e w4 ⟨rfl, b4⟩
            have hb4 : Below w2.heap.size w2 w4 := ((Below.refl _ _).drew).trans b4
            go_wp2_with fail
            refine hK.out _ _ (SX.out _ hb4) (fun hHeldep9 => ?_)
            clear hK K hHeld
            try simp only [Act.put, List.setIfInBounds_toArray, List.set_cons_zero, List.set_cons_succ]
            refine wpAnyH_take (i := 10) (oi := { dst := some 57, op := Op.binOp BinOp.geq 3 (Operand.tmp 56) (Operand.const (Value.int IntKind.i64 0)) 3, type := 4, pos := "index.go:53", after := #[{ on := 9, ground := Ground.data }, { on := 2, ground := Ground.guard }], guard := some (2, true) }) (v := ?vep10) rfl (by kernel_rfl) (by kernel_rfl) (by kernel_rfl) (fun _ _ _ h => h) (Or.inl ⟨by rfl, ?yep10⟩) (by assumption) ?rep10
            case yep10 => (intro w' hSw; (try dsimp only at hSw); go_simp; try with_reducible rfl)
            try simp only [Act.put, List.setIfInBounds_toArray, List.set_cons_zero, List.set_cons_succ]
            refine wpAnyH_take (i := 11) (oi := { dst := some 58, op := Op.pick (Operand.tmp 49) (Operand.tmp 57) (Operand.const (Value.bool false)), type := 4, pos := "index.go:53", after := #[{ on := 2, ground := Ground.data }, { on := 10, ground := Ground.data }], guard := none }) (v := ?vep11) rfl (by kernel_rfl) (by kernel_rfl) (by kernel_rfl) (fun _ _ _ h => h) (Or.inl ⟨by rfl, ?yep11⟩) (by assumption) ?rep11
            case yep11 => (intro w' hSw; (try dsimp only at hSw); go_simp; try with_reducible rfl)
            try simp only [Act.put, List.setIfInBounds_toArray, List.set_cons_zero, List.set_cons_succ]
            refine wpAnyH_take (i := 12) (oi := { dst := some 59, op := Op.move (Operand.tmp 58), type := 4, pos := "index.go:53", after := #[{ on := 11, ground := Ground.data }, { on := 9, ground := Ground.chain }], guard := none }) (v := ?vep12) rfl (by kernel_rfl) (by kernel_rfl) (by kernel_rfl) (fun _ _ _ h => h) (Or.inl ⟨by rfl, ?yep12⟩) (by assumption) ?rep12
            case yep12 => (intro w' hSw; (try dsimp only at hSw); go_simp; try with_reducible rfl)
            try simp only [Act.put, List.setIfInBounds_toArray, List.set_cons_zero, List.set_cons_succ]
            refine wpAnyH_take (i := 13) (oi := { dst := some 60, op := Op.move (Operand.tmp 1), type := 54, pos := "index.go:53", after := #[{ on := 12, ground := Ground.guard }], guard := some (12, false) }) (v := ?vep13) rfl (by kernel_rfl) (by kernel_rfl) (by kernel_rfl) (fun _ _ _ h => h) (Or.inl ⟨by rfl, ?yep13⟩) (by assumption) ?rep13
            case yep13 => (intro w' hSw; (try dsimp only at hSw); go_simp; try with_reducible rfl)
            try simp only [Act.put, List.setIfInBounds_toArray, List.set_cons_zero, List.set_cons_succ]
            refine wpAnyH_take (i := 14) (oi := { dst := some 61, op := Op.load 57 (Operand.tmp 2), type := 57, pos := "index.go:53", after := #[{ on := 12, ground := Ground.guard }], guard := some (12, false) }) (v := ?vep14) rfl (by kernel_rfl) (by kernel_rfl) (by kernel_rfl) (fun _ _ _ h => h) (Or.inl ⟨by rfl, ?yep14⟩) (by assumption) ?rep14
            case yep14 => (intro w' hSw; (try dsimp only at hSw); go_simp; try with_reducible rfl)
            try simp only [Act.put, List.setIfInBounds_toArray, List.set_cons_zero, List.set_cons_succ]
            refine wpAnyH_ready (rs := [15]) (by kernel_rfl) (by simp) ?_
            refine AllReadyH.cons (o := { dst := some 62, op := Op.makeFunc (Fn.func 55) #[Operand.tmp 61] #[], type := 91, pos := "index.go:53", after := #[{ on := 14, ground := Ground.data }, { on := 12, ground := Ground.guard }], guard := some (12, false) }) rfl (fun K hK => ?_) AllReadyH.nil
            go_simp
            refine hK.out _ _ (SX.out _ hb4) (fun hHeldep15 => ?_)
            clear hK K hHeldep9
            try simp only [Act.put, List.setIfInBounds_toArray, List.set_cons_zero, List.set_cons_succ]
            refine wpAnyH_ready (rs := [16]) (by kernel_rfl) (by simp) ?_
            refine AllReadyH.cons (o := { dst := some 63, op := Op.call { callee := Callee.value (Operand.func 94), args := #[Operand.tmp 60, Operand.tmp 62], argTypes := #[54, 91] }, type := 4, pos := "index.go:53", after := #[{ on := 13, ground := Ground.data }, { on := 15, ground := Ground.data }, { on := 12, ground := Ground.chain }, { on := 12, ground := Ground.guard }], guard := some (12, false) }) rfl (fun K hK => ?_) AllReadyH.nil
            go_simp
            refine (CT.out _ hb4).mono ?_
            rintro e w3 ⟨rfl, b3⟩
            have hb3 : Below w2.heap.size w2 w3 := hb4.trans (b3.mono hb4.size)
            go_wp2_with fail
            refine hK.out _ _ (SX.out _ hb3) (fun hHeldep16 => ?_)
            clear hK K hHeldep15
            try simp only [Act.put, List.setIfInBounds_toArray, List.set_cons_zero, List.set_cons_succ]
            refine wpAnyH_take (i := 17) (oi := { dst := some 64, op := Op.pick (Operand.tmp 59) (Operand.const (Value.bool true)) (Operand.tmp 63), type := 4, pos := "index.go:53", after := #[{ on := 12, ground := Ground.data }, { on := 16, ground := Ground.data }], guard := none }) (v := ?vep17) rfl (by kernel_rfl) (by kernel_rfl) (by kernel_rfl) (fun _ _ _ h => h) (Or.inl ⟨by rfl, ?yep17⟩) (by assumption) ?rep17
            case yep17 => (intro w' hSw; (try dsimp only at hSw); go_simp; try with_reducible rfl)
            try simp only [Act.put, List.setIfInBounds_toArray, List.set_cons_zero, List.set_cons_succ]
            refine wpAnyH_done (by kernel_rfl) ?_ _
            go_wp2_with fail
            refine (CC.out _ hb3).mono ?_
            rintro e w5 ⟨rfl, b5⟩
            have B5 := Lib.hid (HB2.out.trans ((hb3.trans (b5.mono hb3.size)).mono HB2.out.size))
            clear b5
            go_wp2_with fail
            go_ret
            exact ⟨ret_i HV.out.symm, B5.out⟩
  · by_cases hl0 : l = []
    · subst hl0
      simp only [List.length_nil] at CT CC ⊢
      obtain rfl : qa = false := HA.out
      obtain rfl : qc = false := HQ.out
      have HV : Hid (wrE [] (p, st, 2, d, t, z) = 0) := Lib.hid (by rw [wrE_rest HOK.out]; rfl)
      have SX := Lib.hid fun V (hV : Below w2.heap.size w2 V) => (show (fun w' => (w'.cell? ⟨G, 0, none⟩ = some (.string p) ∧ w'.cell? ⟨G, 1, none⟩ = some (.int .i64 st) ∧ w'.cell? ⟨G, 2, none⟩ = some (.int .i64 2) ∧ w'.cell? ⟨G, 3, none⟩ = some (.string d) ∧ w'.cell? ⟨G, 4, none⟩ = some (.int .i64 t) ∧ w'.cell? ⟨G, 5, none⟩ = some (.int .i64 z))) V from GG.out V hV)
      go_wp2_with fail
      refine wp_region_held_drew (S := fun w' => (w'.cell? ⟨G, 0, none⟩ = some (.string p) ∧ w'.cell? ⟨G, 1, none⟩ = some (.int .i64 st) ∧ w'.cell? ⟨G, 2, none⟩ = some (.int .i64 2) ∧ w'.cell? ⟨G, 3, none⟩ = some (.string d) ∧ w'.cell? ⟨G, 4, none⟩ = some (.int .i64 t) ∧ w'.cell? ⟨G, 5, none⟩ = some (.int .i64 z))) (by kernel_rfl) (SX.out _ (Below.refl _ _).drew) (fun hHeld => ?_)
      refine wpAnyH_take (i := 0) (oi := { dst := some 47, op := Op.move (Operand.tmp 6), type := 3, pos := "index.go:53", after := #[], guard := none }) (v := ?vaq0) rfl (by kernel_rfl) (by kernel_rfl) (by kernel_rfl) (fun _ _ _ h => h) (Or.inl ⟨by rfl, ?yaq0⟩) (by assumption) ?raq0
      case yaq0 => (intro w' hSw; (try dsimp only at hSw); go_simp; try with_reducible rfl)
      try simp only [Act.put, List.setIfInBounds_toArray, List.set_cons_zero, List.set_cons_succ]
      refine wpAnyH_take (i := 1) (oi := { dst := some 48, op := Op.binOp BinOp.gtr 3 (Operand.tmp 47) (Operand.const (Value.int IntKind.i64 0)) 3, type := 4, pos := "index.go:53", after := #[{ on := 0, ground := Ground.data }], guard := none }) (v := ?vaq1) rfl (by kernel_rfl) (by kernel_rfl) (by kernel_rfl) (fun _ _ _ h => h) (Or.inl ⟨by rfl, ?yaq1⟩) (by assumption) ?raq1
      case yaq1 => (intro w' hSw; (try dsimp only at hSw); go_simp; try with_reducible rfl)
      try simp only [Act.put, List.setIfInBounds_toArray, List.set_cons_zero, List.set_cons_succ]
      refine wpAnyH_take (i := 2) (oi := { dst := some 49, op := Op.move (Operand.tmp 48), type := 4, pos := "index.go:53", after := #[{ on := 1, ground := Ground.data }], guard := none }) (v := ?vaq2) rfl (by kernel_rfl) (by kernel_rfl) (by kernel_rfl) (fun _ _ _ h => h) (Or.inl ⟨by rfl, ?yaq2⟩) (by assumption) ?raq2
      case yaq2 => (intro w' hSw; (try dsimp only at hSw); go_simp; try with_reducible rfl)
      try simp only [Act.put, List.setIfInBounds_toArray, List.set_cons_zero, List.set_cons_succ]
      refine wpAnyH_take (i := 3) (oi := { dst := some 50, op := Op.move (Operand.tmp 1), type := 54, pos := "index.go:53", after := #[{ on := 2, ground := Ground.guard }], guard := some (2, true) }) (v := undef) rfl (by kernel_rfl) (by kernel_rfl) (by kernel_rfl) (fun _ _ _ h => h) (Or.inr ⟨by rfl, rfl⟩) (by assumption) ?_
      try simp only [Act.put, List.setIfInBounds_toArray, List.set_cons_zero, List.set_cons_succ]
      refine wpAnyH_take (i := 4) (oi := { dst := some 51, op := Op.move (Operand.tmp 6), type := 3, pos := "index.go:53", after := #[{ on := 2, ground := Ground.guard }], guard := some (2, true) }) (v := undef) rfl (by kernel_rfl) (by kernel_rfl) (by kernel_rfl) (fun _ _ _ h => h) (Or.inr ⟨by rfl, rfl⟩) (by assumption) ?_
      try simp only [Act.put, List.setIfInBounds_toArray, List.set_cons_zero, List.set_cons_succ]
      refine wpAnyH_take (i := 5) (oi := { dst := some 52, op := Op.binOp BinOp.sub 3 (Operand.tmp 51) (Operand.const (Value.int IntKind.i64 1)) 3, type := 3, pos := "index.go:53", after := #[{ on := 4, ground := Ground.data }, { on := 2, ground := Ground.guard }], guard := some (2, true) }) (v := undef) rfl (by kernel_rfl) (by kernel_rfl) (by kernel_rfl) (fun _ _ _ h => h) (Or.inr ⟨by rfl, rfl⟩) (by assumption) ?_
      try simp only [Act.put, List.setIfInBounds_toArray, List.set_cons_zero, List.set_cons_succ]
      refine wpAnyH_take (i := 6) (oi := { dst := some 53, op := Op.indexAddr 54 (Operand.tmp 50) (Operand.tmp 52), type := 0, pos := "index.go:53", after := #[{ on := 3, ground := Ground.data }, { on := 5, ground := Ground.data }, { on := 2, ground := Ground.guard }], guard := some (2, true) }) (v := undef) rfl (by kernel_rfl) (by kernel_rfl) (by kernel_rfl) (fun _ _ _ h => h) (Or.inr ⟨by rfl, rfl⟩) (by assumption) ?_
      try simp only [Act.put, List.setIfInBounds_toArray, List.set_cons_zero, List.set_cons_succ]
      refine wpAnyH_take (i := 7) (oi := { dst := some 54, op := Op.load 57 (Operand.tmp 53), type := 57, pos := "index.go:53", after := #[{ on := 6, ground := Ground.data }, { on := 2, ground := Ground.guard }], guard := some (2, true) }) (v := undef) rfl (by kernel_rfl) (by kernel_rfl) (by kernel_rfl) (fun _ _ _ h => h) (Or.inr ⟨by rfl, rfl⟩) (by assumption) ?_
      try simp only [Act.put, List.setIfInBounds_toArray, List.set_cons_zero, List.set_cons_succ]
      refine wpAnyH_take (i := 8) (oi := { dst := some 55, op := Op.load 57 (Operand.tmp 2), type := 57, pos := "index.go:53", after := #[{ on := 2, ground := Ground.guard }], guard := some (2, true) }) (v := undef) rfl (by kernel_rfl) (by kernel_rfl) (by kernel_rfl) (fun _ _ _ h => h) (Or.inr ⟨by rfl, rfl⟩) (by assumption) ?_
      try simp only [Act.put, List.setIfInBounds_toArray, List.set_cons_zero, List.set_cons_succ]
      refine wpAnyH_take (i := 9) (oi := { dst := some 56, op := Op.call { callee := Callee.value (Operand.func 57), args := #[Operand.tmp 54, Operand.tmp 55], argTypes := #[57, 57] }, type := 3, pos := "index.go:53", after := #[{ on := 7, ground := Ground.data }, { on := 8, ground := Ground.data }, { on := 2, ground := Ground.chain }, { on := 2, ground := Ground.guard }], guard := some (2, true) }) (v := undef) rfl (by kernel_rfl) (by kernel_rfl) (by kernel_rfl) (fun _ _ _ h => h) (Or.inr ⟨by rfl, rfl⟩) (by assumption) ?_
      try simp only [Act.put, List.setIfInBounds_toArray, List.set_cons_zero, List.set_cons_succ]
      refine wpAnyH_take (i := 10) (oi := { dst := some 57, op := Op.binOp BinOp.geq 3 (Operand.tmp 56) (Operand.const (Value.int IntKind.i64 0)) 3, type := 4, pos := "index.go:53", after := #[{ on := 9, ground := Ground.data }, { on := 2, ground := Ground.guard }], guard := some (2, true) }) (v := undef) rfl (by kernel_rfl) (by kernel_rfl) (by kernel_rfl) (fun _ _ _ h => h) (Or.inr ⟨by rfl, rfl⟩) (by assumption) ?_
      try simp only [Act.put, List.setIfInBounds_toArray, List.set_cons_zero, List.set_cons_succ]
      refine wpAnyH_take (i := 11) (oi := { dst := some 58, op := Op.pick (Operand.tmp 49) (Operand.tmp 57) (Operand.const (Value.bool false)), type := 4, pos := "index.go:53", after := #[{ on := 2, ground := Ground.data }, { on := 10, ground := Ground.data }], guard := none }) (v := ?vaq11) rfl (by kernel_rfl) (by kernel_rfl) (by kernel_rfl) (fun _ _ _ h => h) (Or.inl ⟨by rfl, ?yaq11⟩) (by assumption) ?raq11
      case yaq11 => (intro w' hSw; (try dsimp only at hSw); go_simp; try with_reducible rfl)
      try simp only [Act.put, List.setIfInBounds_toArray, List.set_cons_zero, List.set_cons_succ]
      refine wpAnyH_take (i := 12) (oi := { dst := some 59, op := Op.move (Operand.tmp 58), type := 4, pos := "index.go:53", after := #[{ on := 11, ground := Ground.data }, { on := 9, ground := Ground.chain }], guard := none }) (v := ?vaq12) rfl (by kernel_rfl) (by kernel_rfl) (by kernel_rfl) (fun _ _ _ h => h) (Or.inl ⟨by rfl, ?yaq12⟩) (by assumption) ?raq12
      case yaq12 => (intro w' hSw; (try dsimp only at hSw); go_simp; try with_reducible rfl)
      try simp only [Act.put, List.setIfInBounds_toArray, List.set_cons_zero, List.set_cons_succ]
      refine wpAnyH_take (i := 13) (oi := { dst := some 60, op := Op.move (Operand.tmp 1), type := 54, pos := "index.go:53", after := #[{ on := 12, ground := Ground.guard }], guard := some (12, false) }) (v := ?vaq13) rfl (by kernel_rfl) (by kernel_rfl) (by kernel_rfl) (fun _ _ _ h => h) (Or.inl ⟨by rfl, ?yaq13⟩) (by assumption) ?raq13
      case yaq13 => (intro w' hSw; (try dsimp only at hSw); go_simp; try with_reducible rfl)
      try simp only [Act.put, List.setIfInBounds_toArray, List.set_cons_zero, List.set_cons_succ]
      refine wpAnyH_take (i := 14) (oi := { dst := some 61, op := Op.load 57 (Operand.tmp 2), type := 57, pos := "index.go:53", after := #[{ on := 12, ground := Ground.guard }], guard := some (12, false) }) (v := ?vaq14) rfl (by kernel_rfl) (by kernel_rfl) (by kernel_rfl) (fun _ _ _ h => h) (Or.inl ⟨by rfl, ?yaq14⟩) (by assumption) ?raq14
      case yaq14 => (intro w' hSw; (try dsimp only at hSw); go_simp; try with_reducible rfl)
      try simp only [Act.put, List.setIfInBounds_toArray, List.set_cons_zero, List.set_cons_succ]
      refine wpAnyH_ready (rs := [15]) (by kernel_rfl) (by simp) ?_
      refine AllReadyH.cons (o := { dst := some 62, op := Op.makeFunc (Fn.func 55) #[Operand.tmp 61] #[], type := 91, pos := "index.go:53", after := #[{ on := 14, ground := Ground.data }, { on := 12, ground := Ground.guard }], guard := some (12, false) }) rfl (fun K hK => ?_) AllReadyH.nil
      go_simp
      refine hK.out _ _ (SX.out _ (Below.refl _ _).drew) (fun hHeldaq15 => ?_)
      clear hK K hHeld
      try simp only [Act.put, List.setIfInBounds_toArray, List.set_cons_zero, List.set_cons_succ]
      refine wpAnyH_ready (rs := [16]) (by kernel_rfl) (by simp) ?_
      refine AllReadyH.cons (o := { dst := some 63, op := Op.call { callee := Callee.value (Operand.func 94), args := #[Operand.tmp 60, Operand.tmp 62], argTypes := #[54, 91] }, type := 4, pos := "index.go:53", after := #[{ on := 13, ground := Ground.data }, { on := 15, ground := Ground.data }, { on := 12, ground := Ground.chain }, { on := 12, ground := Ground.guard }], guard := some (12, false) }) rfl (fun K hK => ?_) AllReadyH.nil
      go_simp
      refine (CT.out _ (Below.refl _ _).drew).mono ?_
      rintro e w3 ⟨rfl, b3⟩
      have hb3 : Below w2.heap.size w2 w3 := ((Below.refl _ _).drew).trans b3
      go_wp2_with fail
      refine hK.out _ _ (SX.out _ hb3) (fun hHeldaq16 => ?_)
      clear hK K hHeldaq15
      try simp only [Act.put, List.setIfInBounds_toArray, List.set_cons_zero, List.set_cons_succ]
      refine wpAnyH_take (i := 17) (oi := { dst := some 64, op := Op.pick (Operand.tmp 59) (Operand.const (Value.bool true)) (Operand.tmp 63), type := 4, pos := "index.go:53", after := #[{ on := 12, ground := Ground.data }, { on := 16, ground := Ground.data }], guard := none }) (v := ?vaq17) rfl (by kernel_rfl) (by kernel_rfl) (by kernel_rfl) (fun _ _ _ h => h) (Or.inl ⟨by rfl, ?yaq17⟩) (by assumption) ?raq17
      case yaq17 => (intro w' hSw; (try dsimp only at hSw); go_simp; try with_reducible rfl)
      try simp only [Act.put, List.setIfInBounds_toArray, List.set_cons_zero, List.set_cons_succ]
      refine wpAnyH_done (by kernel_rfl) ?_ _
      go_wp2_with fail
      refine (CC.out _ hb3).mono ?_
      rintro e w5 ⟨rfl, b5⟩
      have B5 := Lib.hid (HB2.out.trans ((hb3.trans (b5.mono hb3.size)).mono HB2.out.size))
      clear b5
      go_wp2_with fail
      go_ret
      exact ⟨ret_i HV.out.symm, B5.out⟩
    · obtain ⟨n, hn⟩ : ∃ n, l.length = n + 1 := ⟨l.length - 1, by have := List.length_pos_iff.2 hl0; omega⟩
      obtain ⟨x, hx⟩ : ∃ x, l[n]? = some x := ⟨_, List.getElem?_eq_getElem (by omega)⟩
      have hlast : l.getLast? = some x := by rw [List.getLast?_eq_getElem?, hn]; exact hx
      obtain ⟨ad, rfl, c0, c1, c2, c3, c4, c5⟩ := Ents.at_ R2.out hx
      have SX := Lib.hid fun V (hV : Below w2.heap.size w2 V) => (show (fun w' => (w'.cell? ⟨G, 0, none⟩ = some (.string p) ∧ w'.cell? ⟨G, 1, none⟩ = some (.int .i64 st) ∧ w'.cell? ⟨G, 2, none⟩ = some (.int .i64 2) ∧ w'.cell? ⟨G, 3, none⟩ = some (.string d) ∧ w'.cell? ⟨G, 4, none⟩ = some (.int .i64 t) ∧ w'.cell? ⟨G, 5, none⟩ = some (.int .i64 z)) ∧ (w'.cell? (ad.add (n * 6)) = some (.string x.1) ∧ w'.cell? ⟨(ad.add (n * 6)).block, (ad.add (n * 6)).off + 1, none⟩ = some (.int .i64 x.2.1) ∧ w'.cell? ⟨(ad.add (n * 6)).block, (ad.add (n * 6)).off + 2, none⟩ = some (.int .i64 x.2.2.1) ∧ w'.cell? ⟨(ad.add (n * 6)).block, (ad.add (n * 6)).off + 3, none⟩ = some (.string x.2.2.2.1) ∧ w'.cell? ⟨(ad.add (n * 6)).block, (ad.add (n * 6)).off + 4, none⟩ = some (.int .i64 x.2.2.2.2.1) ∧ w'.cell? ⟨(ad.add (n * 6)).block, (ad.add (n * 6)).off + 5, none⟩ = some (.int .i64 x.2.2.2.2.2))) V from ⟨GG.out V hV, by
        obtain ⟨ad', e, k⟩ := Ents.at_ (R2.out.below hV) hx
        obtain rfl := Option.some.inj e
        exact k⟩)
      have hw : IntKind.i64.wrap ((l.length : Int) - 1) = (n : Int) := by rw [IntKind.wrap_i64] <;> omega
      have hpos : (0 : Int) < (l.length : Int) := by omega
      have hpos2 : 0 < l.length := by omega
      have hnl : (n : Int) < (l.length : Int) := by omega
      have hnl2 : n < l.length := by omega
      have hn0 : (0 : Int) ≤ (n : Int) := Int.natCast_nonneg _
      have CP := Lib.hid fun W => ecmp_any x (p, st, 2, d, t, z) W
      have HLT : Hid (lateE l (p, st, 2, d, t, z) = decide (0 ≤ ec x (p, st, 2, d, t, z))) := Lib.hid (by unfold lateE; rw [hlast])
      obtain ⟨k, hk⟩ : ∃ k, k = ec x (p, st, 2, d, t, z) := ⟨_, rfl⟩
      rw [← hk] at HLT CP
      clear hx hn hlast hk hl0
      by_cases hk0 : 0 ≤ k
      · have HL := Lib.hid (show lateE l (p, st, 2, d, t, z) = true by rw [HLT.out]; simpa using hk0)
        have HV := Lib.hid (show wrE l (p, st, 2, d, t, z) = 6 by rw [wrE_rest HOK.out, HL.out]; rfl)
        go_wp2_with fail
        refine wp_region_held_drew (S := fun w' => (w'.cell? ⟨G, 0, none⟩ = some (.string p) ∧ w'.cell? ⟨G, 1, none⟩ = some (.int .i64 st) ∧ w'.cell? ⟨G, 2, none⟩ = some (.int .i64 2) ∧ w'.cell? ⟨G, 3, none⟩ = some (.string d) ∧ w'.cell? ⟨G, 4, none⟩ = some (.int .i64 t) ∧ w'.cell? ⟨G, 5, none⟩ = some (.int .i64 z)) ∧ (w'.cell? (ad.add (n * 6)) = some (.string x.1) ∧ w'.cell? ⟨(ad.add (n * 6)).block, (ad.add (n * 6)).off + 1, none⟩ = some (.int .i64 x.2.1) ∧ w'.cell? ⟨(ad.add (n * 6)).block, (ad.add (n * 6)).off + 2, none⟩ = some (.int .i64 x.2.2.1) ∧ w'.cell? ⟨(ad.add (n * 6)).block, (ad.add (n * 6)).off + 3, none⟩ = some (.string x.2.2.2.1) ∧ w'.cell? ⟨(ad.add (n * 6)).block, (ad.add (n * 6)).off + 4, none⟩ = some (.int .i64 x.2.2.2.2.1) ∧ w'.cell? ⟨(ad.add (n * 6)).block, (ad.add (n * 6)).off + 5, none⟩ = some (.int .i64 x.2.2.2.2.2))) (by kernel_rfl) (SX.out _ (Below.refl _ _).drew) (fun hHeld => ?_)
        refine wpAnyH_take (i := 0) (oi := { dst := some 47, op := Op.move (Operand.tmp 6), type := 3, pos := "index.go:53", after := #[], guard := none }) (v := ?vbq0) rfl (by kernel_rfl) (by kernel_rfl) (by kernel_rfl) (fun _ _ _ h => h) (Or.inl ⟨by rfl, ?ybq0⟩) (by assumption) ?rbq0
        case ybq0 => (intro w' hSw; (try dsimp only at hSw); go_simp; try with_reducible rfl)
        try simp only [Act.put, List.setIfInBounds_toArray, List.set_cons_zero, List.set_cons_succ]
        refine wpAnyH_take (i := 1) (oi := { dst := some 48, op := Op.binOp BinOp.gtr 3 (Operand.tmp 47) (Operand.const (Value.int IntKind.i64 0)) 3, type := 4, pos := "index.go:53", after := #[{ on := 0, ground := Ground.data }], guard := none }) (v := ?vbq1) rfl (by kernel_rfl) (by kernel_rfl) (by kernel_rfl) (fun _ _ _ h => h) (Or.inl ⟨by rfl, ?ybq1⟩) (by assumption) ?rbq1
        case ybq1 => (intro w' hSw; (try dsimp only at hSw); go_simp; try with_reducible rfl)
        try simp only [Act.put, List.setIfInBounds_toArray, List.set_cons_zero, List.set_cons_succ]
        refine wpAnyH_take (i := 2) (oi := { dst := some 49, op := Op.move (Operand.tmp 48), type := 4, pos := "index.go:53", after := #[{ on := 1, ground := Ground.data }], guard := none }) (v := ?vbq2) rfl (by kernel_rfl) (by kernel_rfl) (by kernel_rfl) (fun _ _ _ h => h) (Or.inl ⟨by rfl, ?ybq2⟩) (by assumption) ?rbq2
        case ybq2 => (intro w' hSw; (try dsimp only at hSw); go_simp; try with_reducible rfl)
        try simp only [Act.put, List.setIfInBounds_toArray, List.set_cons_zero, List.set_cons_succ]
        refine wpAnyH_take (i := 3) (oi := { dst := some 50, op := Op.move (Operand.tmp 1), type := 54, pos := "index.go:53", after := #[{ on := 2, ground := Ground.guard }], guard := some (2, true) }) (v := ?vbq3) rfl (by kernel_rfl) (by kernel_rfl) (by kernel_rfl) (fun _ _ _ h => h) (Or.inl ⟨by rfl, ?ybq3⟩) (by assumption) ?rbq3
        case ybq3 => (intro w' hSw; (try dsimp only at hSw); go_simp; try with_reducible rfl)
        try simp only [Act.put, List.setIfInBounds_toArray, List.set_cons_zero, List.set_cons_succ]
        refine wpAnyH_take (i := 4) (oi := { dst := some 51, op := Op.move (Operand.tmp 6), type := 3, pos := "index.go:53", after := #[{ on := 2, ground := Ground.guard }], guard := some (2, true) }) (v := ?vbq4) rfl (by kernel_rfl) (by kernel_rfl) (by kernel_rfl) (fun _ _ _ h => h) (Or.inl ⟨by rfl, ?ybq4⟩) (by assumption) ?rbq4
        case ybq4 => (intro w' hSw; (try dsimp only at hSw); go_simp; try with_reducible rfl)
        try simp only [Act.put, List.setIfInBounds_toArray, List.set_cons_zero, List.set_cons_succ]
        refine wpAnyH_take (i := 5) (oi := { dst := some 52, op := Op.binOp BinOp.sub 3 (Operand.tmp 51) (Operand.const (Value.int IntKind.i64 1)) 3, type := 3, pos := "index.go:53", after := #[{ on := 4, ground := Ground.data }, { on := 2, ground := Ground.guard }], guard := some (2, true) }) (v := ?vbq5) rfl (by kernel_rfl) (by kernel_rfl) (by kernel_rfl) (fun _ _ _ h => h) (Or.inl ⟨by rfl, ?ybq5⟩) (by assumption) ?rbq5
        case ybq5 => (intro w' hSw; (try dsimp only at hSw); go_simp; try with_reducible rfl)
        try simp only [Act.put, List.setIfInBounds_toArray, List.set_cons_zero, List.set_cons_succ]
        refine wpAnyH_take (i := 6) (oi := { dst := some 53, op := Op.indexAddr 54 (Operand.tmp 50) (Operand.tmp 52), type := 0, pos := "index.go:53", after := #[{ on := 3, ground := Ground.data }, { on := 5, ground := Ground.data }, { on := 2, ground := Ground.guard }], guard := some (2, true) }) (v := ?vbq6) rfl (by kernel_rfl) (by kernel_rfl) (by kernel_rfl) (fun _ _ _ h => h) (Or.inl ⟨by rfl, ?ybq6⟩) (by assumption) ?rbq6
        case ybq6 => (intro w' hSw; (try dsimp only at hSw); go_simp; try with_reducible rfl)
        try simp only [Act.put, List.setIfInBounds_toArray, List.set_cons_zero, List.set_cons_succ]
        refine wpAnyH_take (i := 7) (oi := { dst := some 54, op := Op.load 57 (Operand.tmp 53), type := 57, pos := "index.go:53", after := #[{ on := 6, ground := Ground.data }, { on := 2, ground := Ground.guard }], guard := some (2, true) }) (v := ?vbq7) rfl (by kernel_rfl) (by kernel_rfl) (by kernel_rfl) (fun _ _ _ h => h) (Or.inl ⟨by rfl, ?ybq7⟩) (by assumption) ?rbq7
        case ybq7 => (intro w' hSw; (try dsimp only at hSw); go_simp; try with_reducible rfl)
        try simp only [Act.put, List.setIfInBounds_toArray, List.set_cons_zero, List.set_cons_succ]
        refine wpAnyH_take (i := 8) (oi := { dst := some 55, op := Op.load 57 (Operand.tmp 2), type := 57, pos := "index.go:53", after := #[{ on := 2, ground := Ground.guard }], guard := some (2, true) }) (v := ?vbq8) rfl (by kernel_rfl) (by kernel_rfl) (by kernel_rfl) (fun _ _ _ h => h) (Or.inl ⟨by rfl, ?ybq8⟩) (by assumption) ?rbq8
        case ybq8 => (intro w' hSw; (try dsimp only at hSw); go_simp; try with_reducible rfl)
        try simp only [Act.put, List.setIfInBounds_toArray, List.set_cons_zero, List.set_cons_succ]
        refine wpAnyH_ready (rs := [9]) (by kernel_rfl) (by simp) ?_
        refine AllReadyH.cons (o := { dst := some 56, op := Op.call { callee := Callee.value (Operand.func 57), args := #[Operand.tmp 54, Operand.tmp 55], argTypes := #[57, 57] }, type := 3, pos := "index.go:53", after := #[{ on := 7, ground := Ground.data }, { on := 8, ground := Ground.data }, { on := 2, ground := Ground.chain }, { on := 2, ground := Ground.guard }], guard := some (2, true) }) rfl (fun K hK => ?_) AllReadyH.nil
        go_simp
        refine (CP.out _).mono ?_
        rintro e w4 ⟨rfl, b4⟩
        have hb4 : Below w2.heap.size w2 w4 := ((Below.refl _ _).drew).trans b4
        go_wp2_with fail
        refine hK.out _ _ (SX.out _ hb4) (fun hHeldbq9 => ?_)
        clear hK K hHeld
        try simp only [Act.put, List.setIfInBounds_toArray, List.set_cons_zero, List.set_cons_succ]
        refine wpAnyH_take (i := 10) (oi := { dst := some 57, op := Op.binOp BinOp.geq 3 (Operand.tmp 56) (Operand.const (Value.int IntKind.i64 0)) 3, type := 4, pos := "index.go:53", after := #[{ on := 9, ground := Ground.data }, { on := 2, ground := Ground.guard }], guard := some (2, true) }) (v := ?vbq10) rfl (by kernel_rfl) (by kernel_rfl) (by kernel_rfl) (fun _ _ _ h => h) (Or.inl ⟨by rfl, ?ybq10⟩) (by assumption) ?rbq10
        case ybq10 => (intro w' hSw; (try dsimp only at hSw); go_simp; try with_reducible rfl)
        try simp only [Act.put, List.setIfInBounds_toArray, List.set_cons_zero, List.set_cons_succ]
        refine wpAnyH_take (i := 11) (oi := { dst := some 58, op := Op.pick (Operand.tmp 49) (Operand.tmp 57) (Operand.const (Value.bool false)), type := 4, pos := "index.go:53", after := #[{ on := 2, ground := Ground.data }, { on := 10, ground := Ground.data }], guard := none }) (v := ?vbq11) rfl (by kernel_rfl) (by kernel_rfl) (by kernel_rfl) (fun _ _ _ h => h) (Or.inl ⟨by rfl, ?ybq11⟩) (by assumption) ?rbq11
        case ybq11 => (intro w' hSw; (try dsimp only at hSw); go_simp; try with_reducible rfl)
        try simp only [Act.put, List.setIfInBounds_toArray, List.set_cons_zero, List.set_cons_succ]
        refine wpAnyH_take (i := 12) (oi := { dst := some 59, op := Op.move (Operand.tmp 58), type := 4, pos := "index.go:53", after := #[{ on := 11, ground := Ground.data }, { on := 9, ground := Ground.chain }], guard := none }) (v := ?vbq12) rfl (by kernel_rfl) (by kernel_rfl) (by kernel_rfl) (fun _ _ _ h => h) (Or.inl ⟨by rfl, ?ybq12⟩) (by assumption) ?rbq12
        case ybq12 => (intro w' hSw; (try dsimp only at hSw); go_simp; try with_reducible rfl)
        try simp only [Act.put, List.setIfInBounds_toArray, List.set_cons_zero, List.set_cons_succ]
        refine wpAnyH_take (i := 13) (oi := { dst := some 60, op := Op.move (Operand.tmp 1), type := 54, pos := "index.go:53", after := #[{ on := 12, ground := Ground.guard }], guard := some (12, false) }) (v := undef) rfl (by kernel_rfl) (by kernel_rfl) (by kernel_rfl) (fun _ _ _ h => h) (Or.inr ⟨by rfl, rfl⟩) (by assumption) ?_
        try simp only [Act.put, List.setIfInBounds_toArray, List.set_cons_zero, List.set_cons_succ]
        refine wpAnyH_take (i := 14) (oi := { dst := some 61, op := Op.load 57 (Operand.tmp 2), type := 57, pos := "index.go:53", after := #[{ on := 12, ground := Ground.guard }], guard := some (12, false) }) (v := undef) rfl (by kernel_rfl) (by kernel_rfl) (by kernel_rfl) (fun _ _ _ h => h) (Or.inr ⟨by rfl, rfl⟩) (by assumption) ?_
        try simp only [Act.put, List.setIfInBounds_toArray, List.set_cons_zero, List.set_cons_succ]
        refine wpAnyH_take (i := 15) (oi := { dst := some 62, op := Op.makeFunc (Fn.func 55) #[Operand.tmp 61] #[], type := 91, pos := "index.go:53", after := #[{ on := 14, ground := Ground.data }, { on := 12, ground := Ground.guard }], guard := some (12, false) }) (v := undef) rfl (by kernel_rfl) (by kernel_rfl) (by kernel_rfl) (fun _ _ _ h => h) (Or.inr ⟨by rfl, rfl⟩) (by assumption) ?_
        try simp only [Act.put, List.setIfInBounds_toArray, List.set_cons_zero, List.set_cons_succ]
        refine wpAnyH_take (i := 16) (oi := { dst := some 63, op := Op.call { callee := Callee.value (Operand.func 94), args := #[Operand.tmp 60, Operand.tmp 62], argTypes := #[54, 91] }, type := 4, pos := "index.go:53", after := #[{ on := 13, ground := Ground.data }, { on := 15, ground := Ground.data }, { on := 12, ground := Ground.chain }, { on := 12, ground := Ground.guard }], guard := some (12, false) }) (v := undef) rfl (by kernel_rfl) (by kernel_rfl) (by kernel_rfl) (fun _ _ _ h => h) (Or.inr ⟨by rfl, rfl⟩) (by assumption) ?_
        try simp only [Act.put, List.setIfInBounds_toArray, List.set_cons_zero, List.set_cons_succ]
        refine wpAnyH_take (i := 17) (oi := { dst := some 64, op := Op.pick (Operand.tmp 59) (Operand.const (Value.bool true)) (Operand.tmp 63), type := 4, pos := "index.go:53", after := #[{ on := 12, ground := Ground.data }, { on := 16, ground := Ground.data }], guard := none }) (v := ?vbq17) rfl (by kernel_rfl) (by kernel_rfl) (by kernel_rfl) (fun _ _ _ h => h) (Or.inl ⟨by rfl, ?ybq17⟩) (by assumption) ?rbq17
        case ybq17 => (intro w' hSw; (try dsimp only at hSw); go_simp; try with_reducible rfl)
        try simp only [Act.put, List.setIfInBounds_toArray, List.set_cons_zero, List.set_cons_succ]
        refine wpAnyH_done (by kernel_rfl) ?_ _
        go_wp2_with fail
        go_ret
        exact ⟨ret_i HV.out.symm, HB2.out.trans (hb4.mono HB2.out.size)⟩
      · have HL := Lib.hid (show lateE l (p, st, 2, d, t, z) = false by rw [HLT.out]; simpa using hk0)
        clear HLT
        have HLT := HL
        have hkd : decide (0 ≤ k) = false := by simpa using hk0
        cases qa with
        | true =>
          have HV := Lib.hid (show wrE l (p, st, 2, d, t, z) = 6 by rw [wrE_rest HOK.out, HLT.out, ← HA.out]; rfl)
          go_wp2_with fail
          refine wp_region_held_drew (S := fun w' => (w'.cell? ⟨G, 0, none⟩ = some (.string p) ∧ w'.cell? ⟨G, 1, none⟩ = some (.int .i64 st) ∧ w'.cell? ⟨G, 2, none⟩ = some (.int .i64 2) ∧ w'.cell? ⟨G, 3, none⟩ = some (.string d) ∧ w'.cell? ⟨G, 4, none⟩ = some (.int .i64 t) ∧ w'.cell? ⟨G, 5, none⟩ = some (.int .i64 z)) ∧ (w'.cell? (ad.add (n * 6)) = some (.string x.1) ∧ w'.cell? ⟨(ad.add (n * 6)).block, (ad.add (n * 6)).off + 1, none⟩ = some (.int .i64 x.2.1) ∧ w'.cell? ⟨(ad.add (n * 6)).block, (ad.add (n * 6)).off + 2, none⟩ = some (.int .i64 x.2.2.1) ∧ w'.cell? ⟨(ad.add (n * 6)).block, (ad.add (n * 6)).off + 3, none⟩ = some (.string x.2.2.2.1) ∧ w'.cell? ⟨(ad.add (n * 6)).block, (ad.add (n * 6)).off + 4, none⟩ = some (.int .i64 x.2.2.2.2.1) ∧ w'.cell? ⟨(ad.add (n * 6)).block, (ad.add (n * 6)).off + 5, none⟩ = some (.int .i64 x.2.2.2.2.2))) (by kernel_rfl) (SX.out _ (Below.refl _ _).drew) (fun hHeld => ?_)
          refine wpAnyH_take (i := 0) (oi := { dst := some 47, op := Op.move (Operand.tmp 6), type := 3, pos := "index.go:53", after := #[], guard := none }) (v := ?vcq0) rfl (by kernel_rfl) (by kernel_rfl) (by kernel_rfl) (fun _ _ _ h => h) (Or.inl ⟨by rfl, ?ycq0⟩) (by assumption) ?rcq0
          case ycq0 => (intro w' hSw; (try dsimp only at hSw); go_simp; try with_reducible rfl)
          try simp only [Act.put, List.setIfInBounds_toArray, List.set_cons_zero, List.set_cons_succ]
          refine wpAnyH_take (i := 1) (oi := { dst := some 48, op := Op.binOp BinOp.gtr 3 (Operand.tmp 47) (Operand.const (Value.int IntKind.i64 0)) 3, type := 4, pos := "index.go:53", after := #[{ on := 0, ground := Ground.data }], guard := none }) (v := ?vcq1) rfl (by kernel_rfl) (by kernel_rfl) (by kernel_rfl) (fun _ _ _ h => h) (Or.inl ⟨by rfl, ?ycq1⟩) (by assumption) ?rcq1
          case ycq1 => (intro w' hSw; (try dsimp only at hSw); go_simp; try with_reducible rfl)
          try simp only [Act.put, List.setIfInBounds_toArray, List.set_cons_zero, List.set_cons_succ]
          refine wpAnyH_take (i := 2) (oi := { dst := some 49, op := Op.move (Operand.tmp 48), type := 4, pos := "index.go:53", after := #[{ on := 1, ground := Ground.data }], guard := none }) (v := ?vcq2) rfl (by kernel_rfl) (by kernel_rfl) (by kernel_rfl) (fun _ _ _ h => h) (Or.inl ⟨by rfl, ?ycq2⟩) (by assumption) ?rcq2
          case ycq2 => (intro w' hSw; (try dsimp only at hSw); go_simp; try with_reducible rfl)
          try simp only [Act.put, List.setIfInBounds_toArray, List.set_cons_zero, List.set_cons_succ]
          refine wpAnyH_take (i := 3) (oi := { dst := some 50, op := Op.move (Operand.tmp 1), type := 54, pos := "index.go:53", after := #[{ on := 2, ground := Ground.guard }], guard := some (2, true) }) (v := ?vcq3) rfl (by kernel_rfl) (by kernel_rfl) (by kernel_rfl) (fun _ _ _ h => h) (Or.inl ⟨by rfl, ?ycq3⟩) (by assumption) ?rcq3
          case ycq3 => (intro w' hSw; (try dsimp only at hSw); go_simp; try with_reducible rfl)
          try simp only [Act.put, List.setIfInBounds_toArray, List.set_cons_zero, List.set_cons_succ]
          refine wpAnyH_take (i := 4) (oi := { dst := some 51, op := Op.move (Operand.tmp 6), type := 3, pos := "index.go:53", after := #[{ on := 2, ground := Ground.guard }], guard := some (2, true) }) (v := ?vcq4) rfl (by kernel_rfl) (by kernel_rfl) (by kernel_rfl) (fun _ _ _ h => h) (Or.inl ⟨by rfl, ?ycq4⟩) (by assumption) ?rcq4
          case ycq4 => (intro w' hSw; (try dsimp only at hSw); go_simp; try with_reducible rfl)
          try simp only [Act.put, List.setIfInBounds_toArray, List.set_cons_zero, List.set_cons_succ]
          refine wpAnyH_take (i := 5) (oi := { dst := some 52, op := Op.binOp BinOp.sub 3 (Operand.tmp 51) (Operand.const (Value.int IntKind.i64 1)) 3, type := 3, pos := "index.go:53", after := #[{ on := 4, ground := Ground.data }, { on := 2, ground := Ground.guard }], guard := some (2, true) }) (v := ?vcq5) rfl (by kernel_rfl) (by kernel_rfl) (by kernel_rfl) (fun _ _ _ h => h) (Or.inl ⟨by rfl, ?ycq5⟩) (by assumption) ?rcq5
          case ycq5 => (intro w' hSw; (try dsimp only at hSw); go_simp; try with_reducible rfl)
          try simp only [Act.put, List.setIfInBounds_toArray, List.set_cons_zero, List.set_cons_succ]
          refine wpAnyH_take (i := 6) (oi := { dst := some 53, op := Op.indexAddr 54 (Operand.tmp 50) (Operand.tmp 52), type := 0, pos := "index.go:53", after := #[{ on := 3, ground := Ground.data }, { on := 5, ground := Ground.data }, { on := 2, ground := Ground.guard }], guard := some (2, true) }) (v := ?vcq6) rfl (by kernel_rfl) (by kernel_rfl) (by kernel_rfl) (fun _ _ _ h => h) (Or.inl ⟨by rfl, ?ycq6⟩) (by assumption) ?rcq6
          case ycq6 => (intro w' hSw; (try dsimp only at hSw); go_simp; try with_reducible rfl)
          try simp only [Act.put, List.setIfInBounds_toArray, List.set_cons_zero, List.set_cons_succ]
          refine wpAnyH_take (i := 7) (oi := { dst := some 54, op := Op.load 57 (Operand.tmp 53), type := 57, pos := "index.go:53", after := #[{ on := 6, ground := Ground.data }, { on := 2, ground := Ground.guard }], guard := some (2, true) }) (v := ?vcq7) rfl (by kernel_rfl) (by kernel_rfl) (by kernel_rfl) (fun _ _ _ h => h) (Or.inl ⟨by rfl, ?ycq7⟩) (by assumption) ?rcq7
          case ycq7 => (intro w' hSw; (try dsimp only at hSw); go_simp; try with_reducible rfl)
          try simp only [Act.put, List.setIfInBounds_toArray, List.set_cons_zero, List.set_cons_succ]
          refine wpAnyH_take (i := 8) (oi := { dst := some 55, op := Op.load 57 (Operand.tmp 2), type := 57, pos := "index.go:53", after := #[{ on := 2, ground := Ground.guard }], guard := some (2, true) }) (v := ?vcq8) rfl (by kernel_rfl) (by kernel_rfl) (by kernel_rfl) (fun _ _ _ h => h) (Or.inl ⟨by rfl, ?ycq8⟩) (by assumption) ?rcq8
          case ycq8 => (intro w' hSw; (try dsimp only at hSw); go_simp; try with_reducible rfl)
          try simp only [Act.put, List.setIfInBounds_toArray, List.set_cons_zero, List.set_cons_succ]
          refine wpAnyH_ready (rs := [9]) (by kernel_rfl) (by simp) ?_
          refine AllReadyH.cons (o := { dst := some 56, op := Op.call { callee := Callee.value (Operand.func 57), args := #[Operand.tmp 54, Operand.tmp 55], argTypes := #[57, 57] }, type := 3, pos := "index.go:53", after := #[{ on := 7, ground := Ground.data }, { on := 8, ground := Ground.data }, { on := 2, ground := Ground.chain }, { on := 2, ground := Ground.guard }], guard := some (2, true) }) rfl (fun K hK => ?_) AllReadyH.nil
          go_simp
          refine (CP.out _).mono ?_
          rintro e w4 ⟨rfl, b4⟩
          have hb4 : Below w2.heap.size w2 w4 := ((Below.refl _ _).drew).trans b4
          go_wp2_with fail
          refine hK.out _ _ (SX.out _ hb4) (fun hHeldcq9 => ?_)
          clear hK K hHeld
          try simp only [Act.put, List.setIfInBounds_toArray, List.set_cons_zero, List.set_cons_succ]
          refine wpAnyH_take (i := 10) (oi := { dst := some 57, op := Op.binOp BinOp.geq 3 (Operand.tmp 56) (Operand.const (Value.int IntKind.i64 0)) 3, type := 4, pos := "index.go:53", after := #[{ on := 9, ground := Ground.data }, { on := 2, ground := Ground.guard }], guard := some (2, true) }) (v := ?vcq10) rfl (by kernel_rfl) (by kernel_rfl) (by kernel_rfl) (fun _ _ _ h => h) (Or.inl ⟨by rfl, ?ycq10⟩) (by assumption) ?rcq10
          case ycq10 => (intro w' hSw; (try dsimp only at hSw); go_simp; try with_reducible rfl)
          try simp only [Act.put, List.setIfInBounds_toArray, List.set_cons_zero, List.set_cons_succ]
          refine wpAnyH_take (i := 11) (oi := { dst := some 58, op := Op.pick (Operand.tmp 49) (Operand.tmp 57) (Operand.const (Value.bool false)), type := 4, pos := "index.go:53", after := #[{ on := 2, ground := Ground.data }, { on := 10, ground := Ground.data }], guard := none }) (v := ?vcq11) rfl (by kernel_rfl) (by kernel_rfl) (by kernel_rfl) (fun _ _ _ h => h) (Or.inl ⟨by rfl, ?ycq11⟩) (by assumption) ?rcq11
          case ycq11 => (intro w' hSw; (try dsimp only at hSw); go_simp; try with_reducible rfl)
          try simp only [Act.put, List.setIfInBounds_toArray, List.set_cons_zero, List.set_cons_succ]
          refine wpAnyH_take (i := 12) (oi := { dst := some 59, op := Op.move (Operand.tmp 58), type := 4, pos := "index.go:53", after := #[{ on := 11, ground := Ground.data }, { on := 9, ground := Ground.chain }], guard := none }) (v := ?vcq12) rfl (by kernel_rfl) (by kernel_rfl) (by kernel_rfl) (fun _ _ _ h => h) (Or.inl ⟨by rfl, ?ycq12⟩) (by assumption) ?rcq12
          case ycq12 => (intro w' hSw; (try dsimp only at hSw); go_simp; try with_reducible rfl)
          try simp only [Act.put, List.setIfInBounds_toArray, List.set_cons_zero, List.set_cons_succ]
          refine wpAnyH_take (i := 13) (oi := { dst := some 60, op := Op.move (Operand.tmp 1), type := 54, pos := "index.go:53", after := #[{ on := 12, ground := Ground.guard }], guard := some (12, false) }) (v := ?vcq13) rfl (by kernel_rfl) (by kernel_rfl) (by kernel_rfl) (fun _ _ _ h => h) (Or.inl ⟨by rfl, ?ycq13⟩) (by assumption) ?rcq13
          case ycq13 => (intro w' hSw; (try dsimp only at hSw); go_simp; try with_reducible rfl)
          try simp only [Act.put, List.setIfInBounds_toArray, List.set_cons_zero, List.set_cons_succ]
          refine wpAnyH_take (i := 14) (oi := { dst := some 61, op := Op.load 57 (Operand.tmp 2), type := 57, pos := "index.go:53", after := #[{ on := 12, ground := Ground.guard }], guard := some (12, false) }) (v := ?vcq14) rfl (by kernel_rfl) (by kernel_rfl) (by kernel_rfl) (fun _ _ _ h => h) (Or.inl ⟨by rfl, ?ycq14⟩) (by assumption) ?rcq14
          case ycq14 => (intro w' hSw; (try dsimp only at hSw); go_simp; try with_reducible rfl)
          try simp only [Act.put, List.setIfInBounds_toArray, List.set_cons_zero, List.set_cons_succ]
          refine wpAnyH_ready (rs := [15]) (by kernel_rfl) (by simp) ?_
          refine AllReadyH.cons (o := { dst := some 62, op := Op.makeFunc (Fn.func 55) #[Operand.tmp 61] #[], type := 91, pos := "index.go:53", after := #[{ on := 14, ground := Ground.data }, { on := 12, ground := Ground.guard }], guard := some (12, false) }) rfl (fun K hK => ?_) AllReadyH.nil
          go_simp
          refine hK.out _ _ (SX.out _ hb4) (fun hHeldcq15 => ?_)
          clear hK K hHeldcq9
          try simp only [Act.put, List.setIfInBounds_toArray, List.set_cons_zero, List.set_cons_succ]
          refine wpAnyH_ready (rs := [16]) (by kernel_rfl) (by simp) ?_
          refine AllReadyH.cons (o := { dst := some 63, op := Op.call { callee := Callee.value (Operand.func 94), args := #[Operand.tmp 60, Operand.tmp 62], argTypes := #[54, 91] }, type := 4, pos := "index.go:53", after := #[{ on := 13, ground := Ground.data }, { on := 15, ground := Ground.data }, { on := 12, ground := Ground.chain }, { on := 12, ground := Ground.guard }], guard := some (12, false) }) rfl (fun K hK => ?_) AllReadyH.nil
          go_simp
          refine (CT.out _ hb4).mono ?_
          rintro e w3 ⟨rfl, b3⟩
          have hb3 : Below w2.heap.size w2 w3 := hb4.trans (b3.mono hb4.size)
          go_wp2_with fail
          refine hK.out _ _ (SX.out _ hb3) (fun hHeldcq16 => ?_)
          clear hK K hHeldcq15
          try simp only [Act.put, List.setIfInBounds_toArray, List.set_cons_zero, List.set_cons_succ]
          refine wpAnyH_take (i := 17) (oi := { dst := some 64, op := Op.pick (Operand.tmp 59) (Operand.const (Value.bool true)) (Operand.tmp 63), type := 4, pos := "index.go:53", after := #[{ on := 12, ground := Ground.data }, { on := 16, ground := Ground.data }], guard := none }) (v := ?vcq17) rfl (by kernel_rfl) (by kernel_rfl) (by kernel_rfl) (fun _ _ _ h => h) (Or.inl ⟨by rfl, ?ycq17⟩) (by assumption) ?rcq17
          case ycq17 => (intro w' hSw; (try dsimp only at hSw); go_simp; try with_reducible rfl)
          try simp only [Act.put, List.setIfInBounds_toArray, List.set_cons_zero, List.set_cons_succ]
          refine wpAnyH_done (by kernel_rfl) ?_ _
          go_wp2_with fail
          go_ret
          exact ⟨ret_i HV.out.symm, HB2.out.trans (hb3.mono HB2.out.size)⟩
        | false =>
          cases qc with
          | false =>
            have HV := Lib.hid (show wrE l (p, st, 2, d, t, z) = 0 by rw [wrE_rest HOK.out, HLT.out, ← HA.out, ← HQ.out]; rfl)
            go_wp2_with fail
            refine wp_region_held_drew (S := fun w' => (w'.cell? ⟨G, 0, none⟩ = some (.string p) ∧ w'.cell? ⟨G, 1, none⟩ = some (.int .i64 st) ∧ w'.cell? ⟨G, 2, none⟩ = some (.int .i64 2) ∧ w'.cell? ⟨G, 3, none⟩ = some (.string d) ∧ w'.cell? ⟨G, 4, none⟩ = some (.int .i64 t) ∧ w'.cell? ⟨G, 5, none⟩ = some (.int .i64 z)) ∧ (w'.cell? (ad.add (n * 6)) = some (.string x.1) ∧ w'.cell? ⟨(ad.add (n * 6)).block, (ad.add (n * 6)).off + 1, none⟩ = some (.int .i64 x.2.1) ∧ w'.cell? ⟨(ad.add (n * 6)).block, (ad.add (n * 6)).off + 2, none⟩ = some (.int .i64 x.2.2.1) ∧ w'.cell? ⟨(ad.add (n * 6)).block, (ad.add (n * 6)).off + 3, none⟩ = some (.string x.2.2.2.1) ∧ w'.cell? ⟨(ad.add (n * 6)).block, (ad.add (n * 6)).off + 4, none⟩ = some (.int .i64 x.2.2.2.2.1) ∧ w'.cell? ⟨(ad.add (n * 6)).block, (ad.add (n * 6)).off + 5, none⟩ = some (.int .i64 x.2.2.2.2.2))) (by kernel_rfl) (SX.out _ (Below.refl _ _).drew) (fun hHeld => ?_)
            refine wpAnyH_take (i := 0) (oi := { dst := some 47, op := Op.move (Operand.tmp 6), type := 3, pos := "index.go:53", after := #[], guard := none }) (v := ?vdq0) rfl (by kernel_rfl) (by kernel_rfl) (by kernel_rfl) (fun _ _ _ h => h) (Or.inl ⟨by rfl, ?ydq0⟩) (by assumption) ?rdq0
            case ydq0 => (intro w' hSw; (try dsimp only at hSw); go_simp; try with_reducible rfl)
            try simp only [Act.put, List.setIfInBounds_toArray, List.set_cons_zero, List.set_cons_succ]
            refine wpAnyH_take (i := 1) (oi := { dst := some 48, op := Op.binOp BinOp.gtr 3 (Operand.tmp 47) (Operand.const (Value.int IntKind.i64 0)) 3, type := 4, pos := "index.go:53", after := #[{ on := 0, ground := Ground.data }], guard := none }) (v := ?vdq1) rfl (by kernel_rfl) (by kernel_rfl) (by kernel_rfl) (fun _ _ _ h => h) (Or.inl ⟨by rfl, ?ydq1⟩) (by assumption) ?rdq1
            case ydq1 => (intro w' hSw; (try dsimp only at hSw); go_simp; try with_reducible rfl)
            try simp only [Act.put, List.setIfInBounds_toArray, List.set_cons_zero, List.set_cons_succ]
            refine wpAnyH_take (i := 2) (oi := { dst := some 49, op := Op.move (Operand.tmp 48), type := 4, pos := "index.go:53", after := #[{ on := 1, ground := Ground.data }], guard := none }) (v := ?vdq2) rfl (by kernel_rfl) (by kernel_rfl) (by kernel_rfl) (fun _ _ _ h => h) (Or.inl ⟨by rfl, ?ydq2⟩) (by assumption) ?rdq2
            case ydq2 => (intro w' hSw; (try dsimp only at hSw); go_simp; try with_reducible rfl)
            try simp only [Act.put, List.setIfInBounds_toArray, List.set_cons_zero, List.set_cons_succ]
            refine wpAnyH_take (i := 3) (oi := { dst := some 50, op := Op.move (Operand.tmp 1), type := 54, pos := "index.go:53", after := #[{ on := 2, ground := Ground.guard }], guard := some (2, true) }) (v := ?vdq3) rfl (by kernel_rfl) (by kernel_rfl) (by kernel_rfl) (fun _ _ _ h => h) (Or.inl ⟨by rfl, ?ydq3⟩) (by assumption) ?rdq3
            case ydq3 => (intro w' hSw; (try dsimp only at hSw); go_simp; try with_reducible rfl)
            try simp only [Act.put, List.setIfInBounds_toArray, List.set_cons_zero, List.set_cons_succ]
            refine wpAnyH_take (i := 4) (oi := { dst := some 51, op := Op.move (Operand.tmp 6), type := 3, pos := "index.go:53", after := #[{ on := 2, ground := Ground.guard }], guard := some (2, true) }) (v := ?vdq4) rfl (by kernel_rfl) (by kernel_rfl) (by kernel_rfl) (fun _ _ _ h => h) (Or.inl ⟨by rfl, ?ydq4⟩) (by assumption) ?rdq4
            case ydq4 => (intro w' hSw; (try dsimp only at hSw); go_simp; try with_reducible rfl)
            try simp only [Act.put, List.setIfInBounds_toArray, List.set_cons_zero, List.set_cons_succ]
            refine wpAnyH_take (i := 5) (oi := { dst := some 52, op := Op.binOp BinOp.sub 3 (Operand.tmp 51) (Operand.const (Value.int IntKind.i64 1)) 3, type := 3, pos := "index.go:53", after := #[{ on := 4, ground := Ground.data }, { on := 2, ground := Ground.guard }], guard := some (2, true) }) (v := ?vdq5) rfl (by kernel_rfl) (by kernel_rfl) (by kernel_rfl) (fun _ _ _ h => h) (Or.inl ⟨by rfl, ?ydq5⟩) (by assumption) ?rdq5
            case ydq5 => (intro w' hSw; (try dsimp only at hSw); go_simp; try with_reducible rfl)
            try simp only [Act.put, List.setIfInBounds_toArray, List.set_cons_zero, List.set_cons_succ]
            refine wpAnyH_take (i := 6) (oi := { dst := some 53, op := Op.indexAddr 54 (Operand.tmp 50) (Operand.tmp 52), type := 0, pos := "index.go:53", after := #[{ on := 3, ground := Ground.data }, { on := 5, ground := Ground.data }, { on := 2, ground := Ground.guard }], guard := some (2, true) }) (v := ?vdq6) rfl (by kernel_rfl) (by kernel_rfl) (by kernel_rfl) (fun _ _ _ h => h) (Or.inl ⟨by rfl, ?ydq6⟩) (by assumption) ?rdq6
            case ydq6 => (intro w' hSw; (try dsimp only at hSw); go_simp; try with_reducible rfl)
            try simp only [Act.put, List.setIfInBounds_toArray, List.set_cons_zero, List.set_cons_succ]
            refine wpAnyH_take (i := 7) (oi := { dst := some 54, op := Op.load 57 (Operand.tmp 53), type := 57, pos := "index.go:53", after := #[{ on := 6, ground := Ground.data }, { on := 2, ground := Ground.guard }], guard := some (2, true) }) (v := ?vdq7) rfl (by kernel_rfl) (by kernel_rfl) (by kernel_rfl) (fun _ _ _ h => h) (Or.inl ⟨by rfl, ?ydq7⟩) (by assumption) ?rdq7
            case ydq7 => (intro w' hSw; (try dsimp only at hSw); go_simp; try with_reducible rfl)
            try simp only [Act.put, List.setIfInBounds_toArray, List.set_cons_zero, List.set_cons_succ]
            refine wpAnyH_take (i := 8) (oi := { dst := some 55, op := Op.load 57 (Operand.tmp 2), type := 57, pos := "index.go:53", after := #[{ on := 2, ground := Ground.guard }], guard := some (2, true) }) (v := ?vdq8) rfl (by kernel_rfl) (by kernel_rfl) (by kernel_rfl) (fun _ _ _ h => h) (Or.inl ⟨by rfl, ?ydq8⟩) (by assumption) ?rdq8
            case ydq8 => (intro w' hSw; (try dsimp only at hSw); go_simp; try with_reducible rfl)
            try simp only [Act.put, List.setIfInBounds_toArray, List.set_cons_zero, List.set_cons_succ]
            refine wpAnyH_ready (rs := [9]) (by kernel_rfl) (by simp) ?_
            refine AllReadyH.cons (o := { dst := some 56, op := Op.call { callee := Callee.value (Operand.func 57), args := #[Operand.tmp 54, Operand.tmp 55], argTypes := #[57, 57] }, type := 3, pos := "index.go:53", after := #[{ on := 7, ground := Ground.data }, { on := 8, ground := Ground.data }, { on := 2, ground := Ground.chain }, { on := 2, ground := Ground.guard }], guard := some (2, true) }) rfl (fun K hK => ?_) AllReadyH.nil
            go_simp
            refine (CP.out _).mono ?_
            rintro e w4 ⟨rfl, b4⟩
            have hb4 : Below w2.heap.size w2 w4 := ((Below.refl _ _).drew).trans b4
            go_wp2_with fail
            refine hK.out _ _ (SX.out _ hb4) (fun hHelddq9 => ?_)
            clear hK K hHeld
            try simp only [Act.put, List.setIfInBounds_toArray, List.set_cons_zero, List.set_cons_succ]
            refine wpAnyH_take (i := 10) (oi := { dst := some 57, op := Op.binOp BinOp.geq 3 (Operand.tmp 56) (Operand.const (Value.int IntKind.i64 0)) 3, type := 4, pos := "index.go:53", after := #[{ on := 9, ground := Ground.data }, { on := 2, ground := Ground.guard }], guard := some (2, true) }) (v := ?vdq10) rfl (by kernel_rfl) (by kernel_rfl) (by kernel_rfl) (fun _ _ _ h => h) (Or.inl ⟨by rfl, ?ydq10⟩) (by assumption) ?rdq10
            case ydq10 => (intro w' hSw; (try dsimp only at hSw); go_simp; try with_reducible rfl)
            try simp only [Act.put, List.setIfInBounds_toArray, List.set_cons_zero, List.set_cons_succ]
            refine wpAnyH_take (i := 11) (oi := { dst := some 58, op := Op.pick (Operand.tmp 49) (Operand.tmp 57) (Operand.const (Value.bool false)), type := 4, pos := "index.go:53", after := #[{ on := 2, ground := Ground.data }, { on := 10, ground := Ground.data }], guard := none }) (v := ?vdq11) rfl (by kernel_rfl) (by kernel_rfl) (by kernel_rfl) (fun _ _ _ h => h) (Or.inl ⟨by rfl, ?ydq11⟩) (by assumption) ?rdq11
            case ydq11 => (intro w' hSw; (try dsimp only at hSw); go_simp; try with_reducible rfl)
            try simp only [Act.put, List.setIfInBounds_toArray, List.set_cons_zero, List.set_cons_succ]
            refine wpAnyH_take (i := 12) (oi := { dst := some 59, op := Op.move (Operand.tmp 58), type := 4, pos := "index.go:53", after := #[{ on := 11, ground := Ground.data }, { on := 9, ground := Ground.chain }], guard := none }) (v := ?vdq12) rfl (by kernel_rfl) (by kernel_rfl) (by kernel_rfl) (fun _ _ _ h => h) (Or.inl ⟨by rfl, ?ydq12⟩) (by assumption) ?rdq12
            case ydq12 => (intro w' hSw; (try dsimp only at hSw); go_simp; try with_reducible rfl)
            try simp only [Act.put, List.setIfInBounds_toArray, List.set_cons_zero, List.set_cons_succ]
            refine wpAnyH_take (i := 13) (oi := { dst := some 60, op := Op.move (Operand.tmp 1), type := 54, pos := "index.go:53", after := #[{ on := 12, ground := Ground.guard }], guard := some (12, false) }) (v := ?vdq13) rfl (by kernel_rfl) (by kernel_rfl) (by kernel_rfl) (fun _ _ _ h => h) (Or.inl ⟨by rfl, ?ydq13⟩) (by assumption) ?rdq13
            case ydq13 => (intro w' hSw; (try dsimp only at hSw); go_simp; try with_reducible rfl)
            try simp only [Act.put, List.setIfInBounds_toArray, List.set_cons_zero, List.set_cons_succ]
            refine wpAnyH_take (i := 14) (oi := { dst := some 61, op := Op.load 57 (Operand.tmp 2), type := 57, pos := "index.go:53", after := #[{ on := 12, ground := Ground.guard }], guard := some (12, false) }) (v := ?vdq14) rfl (by kernel_rfl) (by kernel_rfl) (by kernel_rfl) (fun _ _ _ h => h) (Or.inl ⟨by rfl, ?ydq14⟩) (by assumption) ?rdq14
            case ydq14 => (intro w' hSw; (try dsimp only at hSw); go_simp; try with_reducible rfl)
            try simp only [Act.put, List.setIfInBounds_toArray, List.set_cons_zero, List.set_cons_succ]
            refine wpAnyH_ready (rs := [15]) (by kernel_rfl) (by simp) ?_
            refine AllReadyH.cons (o := { dst := some 62, op := Op.makeFunc (Fn.func 55) #[Operand.tmp 61] #[], type := 91, pos := "index.go:53", after := #[{ on := 14, ground := Ground.data }, { on := 12, ground := Ground.guard }], guard := some (12, false) }) rfl (fun K hK => ?_) AllReadyH.nil
            go_simp
            refine hK.out _ _ (SX.out _ hb4) (fun hHelddq15 => ?_)
            clear hK K hHelddq9
            try simp only [Act.put, List.setIfInBounds_toArray, List.set_cons_zero, List.set_cons_succ]
            refine wpAnyH_ready (rs := [16]) (by kernel_rfl) (by simp) ?_
            refine AllReadyH.cons (o := { dst := some 63, op := Op.call { callee := Callee.value (Operand.func 94), args := #[Operand.tmp 60, Operand.tmp 62], argTypes := #[54, 91] }, type := 4, pos := "index.go:53", after := #[{ on := 13, ground := Ground.data }, { on := 15, ground := Ground.data }, { on := 12, ground := Ground.chain }, { on := 12, ground := Ground.guard }], guard := some (12, false) }) rfl (fun K hK => ?_) AllReadyH.nil
            go_simp
            refine (CT.out _ hb4).mono ?_
            rintro e w3 ⟨rfl, b3⟩
            have hb3 : Below w2.heap.size w2 w3 := hb4.trans (b3.mono hb4.size)
            go_wp2_with fail
            refine hK.out _ _ (SX.out _ hb3) (fun hHelddq16 => ?_)
            clear hK K hHelddq15
            try simp only [Act.put, List.setIfInBounds_toArray, List.set_cons_zero, List.set_cons_succ]
            refine wpAnyH_take (i := 17) (oi := { dst := some 64, op := Op.pick (Operand.tmp 59) (Operand.const (Value.bool true)) (Operand.tmp 63), type := 4, pos := "index.go:53", after := #[{ on := 12, ground := Ground.data }, { on := 16, ground := Ground.data }], guard := none }) (v := ?vdq17) rfl (by kernel_rfl) (by kernel_rfl) (by kernel_rfl) (fun _ _ _ h => h) (Or.inl ⟨by rfl, ?ydq17⟩) (by assumption) ?rdq17
            case ydq17 => (intro w' hSw; (try dsimp only at hSw); go_simp; try with_reducible rfl)
            try simp only [Act.put, List.setIfInBounds_toArray, List.set_cons_zero, List.set_cons_succ]
            refine wpAnyH_done (by kernel_rfl) ?_ _
            go_wp2_with fail
            refine (CC.out _ hb3).mono ?_
            rintro e w5 ⟨rfl, b5⟩
            have B5 := Lib.hid (HB2.out.trans ((hb3.trans (b5.mono hb3.size)).mono HB2.out.size))
            clear b5
            go_wp2_with fail
            go_ret
            exact ⟨ret_i HV.out.symm, B5.out⟩
          | true =>
            have HV := Lib.hid (show wrE l (p, st, 2, d, t, z) = 11 by rw [wrE_rest HOK.out, HLT.out, ← HA.out, ← HQ.out]; rfl)
            go_wp2_with fail
            refine wp_region_held_drew (S := fun w' => (w'.cell? ⟨G, 0, none⟩ = some (.string p) ∧ w'.cell? ⟨G, 1, none⟩ = some (.int .i64 st) ∧ w'.cell? ⟨G, 2, none⟩ = some (.int .i64 2) ∧ w'.cell? ⟨G, 3, none⟩ = some (.string d) ∧ w'.cell? ⟨G, 4, none⟩ = some (.int .i64 t) ∧ w'.cell? ⟨G, 5, none⟩ = some (.int .i64 z)) ∧ (w'.cell? (ad.add (n * 6)) = some (.string x.1) ∧ w'.cell? ⟨(ad.add (n * 6)).block, (ad.add (n * 6)).off + 1, none⟩ = some (.int .i64 x.2.1) ∧ w'.cell? ⟨(ad.add (n * 6)).block, (ad.add (n * 6)).off + 2, none⟩ = some (.int .i64 x.2.2.1) ∧ w'.cell? ⟨(ad.add (n * 6)).block, (ad.add (n * 6)).off + 3, none⟩ = some (.string x.2.2.2.1) ∧ w'.cell? ⟨(ad.add (n * 6)).block, (ad.add (n * 6)).off + 4, none⟩ = some (.int .i64 x.2.2.2.2.1) ∧ w'.cell? ⟨(ad.add (n * 6)).block, (ad.add (n * 6)).off + 5, none⟩ = some (.int .i64 x.2.2.2.2.2))) (by kernel_rfl) (SX.out _ (Below.refl _ _).drew) (fun hHeld => ?_)
            refine wpAnyH_take (i := 0) (oi := { dst := some 47, op := Op.move (Operand.tmp 6), type := 3, pos := "index.go:53", after := #[], guard := none }) (v := ?veq0) rfl (by kernel_rfl) (by kernel_rfl) (by kernel_rfl) (fun _ _ _ h => h) (Or.inl ⟨by rfl, ?yeq0⟩) (by assumption) ?req0
            case yeq0 => (intro w' hSw; (try dsimp only at hSw); go_simp; try with_reducible rfl)
            try simp only [Act.put, List.setIfInBounds_toArray, List.set_cons_zero, List.set_cons_succ]
            refine wpAnyH_take (i := 1) (oi := { dst := some 48, op := Op.binOp BinOp.gtr 3 (Operand.tmp 47) (Operand.const (Value.int IntKind.i64 0)) 3, type := 4, pos := "index.go:53", after := #[{ on := 0, ground := Ground.data }], guard := none }) (v := ?veq1) rfl (by kernel_rfl) (by kernel_rfl) (by kernel_rfl) (fun _ _ _ h => h) (Or.inl ⟨by rfl, ?yeq1⟩) (by assumption) ?req1
            case yeq1 => (intro w' hSw; (try dsimp only at hSw); go_simp; try with_reducible rfl)
            try simp only [Act.put, List.setIfInBounds_toArray, List.set_cons_zero, List.set_cons_succ]
            refine wpAnyH_take (i := 2) (oi := { dst := some 49, op := Op.move (Operand.tmp 48), type := 4, pos := "index.go:53", after := #[{ on := 1, ground := Ground.data }], guard := none }) (v := ?veq2) rfl (by kernel_rfl) (by kernel_rfl) (by kernel_rfl) (fun _ _ _ h => h) (Or.inl ⟨by rfl, ?yeq2⟩) (by assumption) ?req2
            case yeq2 => (intro w' hSw; (try dsimp only at hSw); go_simp; try with_reducible rfl)
            try simp only [Act.put, List.setIfInBounds_toArray, List.set_cons_zero, List.set_cons_succ]
            refine wpAnyH_take (i := 3) (oi := { dst := some 50, op := Op.move (Operand.tmp 1), type := 54, pos := "index.go:53", after := #[{ on := 2, ground := Ground.guard }], guard := some (2, true) }) (v := ?veq3) rfl (by kernel_rfl) (by kernel_rfl) (by kernel_rfl) (fun _ _ _ h => h) (Or.inl ⟨by rfl, ?yeq3⟩) (by assumption) ?req3
            case yeq3 => (intro w' hSw; (try dsimp only at hSw); go_simp; try with_reducible rfl)
            try simp only [Act.put, List.setIfInBounds_toArray, List.set_cons_zero, List.set_cons_succ]
            refine wpAnyH_take (i := 4) (oi := { dst := some 51, op := Op.move (Operand.tmp 6), type := 3, pos := "index.go:53", after := #[{ on := 2, ground := Ground.guard }], guard := some (2, true) }) (v := ?veq4) rfl (by kernel_rfl) (by kernel_rfl) (by kernel_rfl) (fun _ _ _ h => h) (Or.inl ⟨by rfl, ?yeq4⟩) (by assumption) ?req4
            case yeq4 => (intro w' hSw; (try dsimp only at hSw); go_simp; try with_reducible rfl)
            try simp only [Act.put, List.setIfInBounds_toArray, List.set_cons_zero, List.set_cons_succ]
            refine wpAnyH_take (i := 5) (oi := { dst := some 52, op := Op.binOp BinOp.sub 3 (Operand.tmp 51) (Operand.const (Value.int IntKind.i64 1)) 3, type := 3, pos := "index.go:53", after := #[{ on := 4, ground := Ground.data }, { on := 2, ground := Ground.guard }], guard := some (2, true) }) (v := ?veq5) rfl (by kernel_rfl) (by kernel_rfl) (by kernel_rfl) (fun _ _ _ h => h) (Or.inl ⟨by rfl, ?yeq5⟩) (by assumption) ?req5
            case yeq5 => (intro w' hSw; (try dsimp only at hSw); go_simp; try with_reducible rfl)
            try simp only [Act.put, List.setIfInBounds_toArray, List.set_cons_zero, List.set_cons_succ]
            refine wpAnyH_take (i := 6) (oi := { dst := some 53, op := Op.indexAddr 54 (Operand.tmp 50) (Operand.tmp 52), type := 0, pos := "index.go:53", after := #[{ on := 3, ground := Ground.data }, { on := 5, ground := Ground.data }, { on := 2, ground := Ground.guard }], guard := some (2, true) }) (v := ?veq6) rfl (by kernel_rfl) (by kernel_rfl) (by kernel_rfl) (fun _ _ _ h => h) (Or.inl ⟨by rfl, ?yeq6⟩) (by assumption) ?req6
            case yeq6 => (intro w' hSw; (try dsimp only at hSw); go_simp; try with_reducible rfl)
            try simp only [Act.put, List.setIfInBounds_toArray, List.set_cons_zero, List.set_cons_succ]
            refine wpAnyH_take (i := 7) (oi := { dst := some 54, op := Op.load 57 (Operand.tmp 53), type := 57, pos := "index.go:53", after := #[{ on := 6, ground := Ground.data }, { on := 2, ground := Ground.guard }], guard := some (2, true) }) (v := ?veq7) rfl (by kernel_rfl) (by kernel_rfl) (by kernel_rfl) (fun _ _ _ h => h) (Or.inl ⟨by rfl, ?yeq7⟩) (by assumption) ?req7
            case yeq7 => (intro w' hSw; (try dsimp only at hSw); go_simp; try with_reducible rfl)
            try simp only [Act.put, List.setIfInBounds_toArray, List.set_cons_zero, List.set_cons_succ]
            refine wpAnyH_take (i := 8) (oi := { dst := some 55, op := Op.load 57 (Operand.tmp 2), type := 57, pos := "index.go:53", after := #[{ on := 2, ground := Ground.guard }], guard := some (2, true) }) (v := ?veq8) rfl (by kernel_rfl) (by kernel_rfl) (by kernel_rfl) (fun _ _ _ h => h) (Or.inl ⟨by rfl, ?yeq8⟩) (by assumption) ?req8
            case yeq8 => (intro w' hSw; (try dsimp only at hSw); go_simp; try with_reducible rfl)
            try simp only [Act.put, List.setIfInBounds_toArray, List.set_cons_zero, List.set_cons_succ]
            refine wpAnyH_ready (rs := [9]) (by kernel_rfl) (by simp) ?_
            refine AllReadyH.cons (o := { dst := some 56, op := Op.call { callee := Callee.value (Operand.func 57), args := #[Operand.tmp 54, Operand.tmp 55], argTypes := #[57, 57] }, type := 3, pos := "index.go:53", after := #[{ on := 7, ground := Ground.data }, { on := 8, ground := Ground.data }, { on := 2, ground := Ground.chain }, { on := 2, ground := Ground.guard }], guard := some (2, true) }) rfl (fun K hK => ?_) AllReadyH.nil
            go_simp
            refine (CP.out _).mono ?_
            rintro e w4 ⟨rfl, b4⟩
            have hb4 : Below w2.heap.size w2 w4 := ((Below.refl _ _).drew).trans b4
            go_wp2_with fail
            refine hK.out _ _ (SX.out _ hb4) (fun hHeldeq9 => ?_)
            clear hK K hHeld
            try simp only [Act.put, List.setIfInBounds_toArray, List.set_cons_zero, List.set_cons_succ]
            refine wpAnyH_take (i := 10) (oi := { dst := some 57, op := Op.binOp BinOp.geq 3 (Operand.tmp 56) (Operand.const (Value.int IntKind.i64 0)) 3, type := 4, pos := "index.go:53", after := #[{ on := 9, ground := Ground.data }, { on := 2, ground := Ground.guard }], guard := some (2, true) }) (v := ?veq10) rfl (by kernel_rfl) (by kernel_rfl) (by kernel_rfl) (fun _ _ _ h => h) (Or.inl ⟨by rfl, ?yeq10⟩) (by assumption) ?req10
            case yeq10 => (intro w' hSw; (try dsimp only at hSw); go_simp; try with_reducible rfl)
            try simp only [Act.put, List.setIfInBounds_toArray, List.set_cons_zero, List.set_cons_succ]
            refine wpAnyH_take (i := 11) (oi := { dst := some 58, op := Op.pick (Operand.tmp 49) (Operand.tmp 57) (Operand.const (Value.bool false)), type := 4, pos := "index.go:53", after := #[{ on := 2, ground := Ground.data }, { on := 10, ground := Ground.data }], guard := none }) (v := ?veq11) rfl (by kernel_rfl) (by kernel_rfl) (by kernel_rfl) (fun _ _ _ h => h) (Or.inl ⟨by rfl, ?yeq11⟩) (by assumption) ?req11
            case yeq11 => (intro w' hSw; (try dsimp only at hSw); go_simp; try with_reducible rfl)
            try simp only [Act.put, List.setIfInBounds_toArray, List.set_cons_zero, List.set_cons_succ]
            refine wpAnyH_take (i := 12) (oi := { dst := some 59, op := Op.move (Operand.tmp 58), type := 4, pos := "index.go:53", after := #[{ on := 11, ground := Ground.data }, { on := 9, ground := Ground.chain }], guard := none }) (v := ?veq12) rfl (by kernel_rfl) (by kernel_rfl) (by kernel_rfl) (fun _ _ _ h => h) (Or.inl ⟨by rfl, ?yeq12⟩) (by assumption) ?req12
            case yeq12 => (intro w' hSw; (try dsimp only at hSw); go_simp; try with_reducible rfl)
            try simp only [Act.put, List.setIfInBounds_toArray, List.set_cons_zero, List.set_cons_succ]
            refine wpAnyH_take (i := 13) (oi := { dst := some 60, op := Op.move (Operand.tmp 1), type := 54, pos := "index.go:53", after := #[{ on := 12, ground := Ground.guard }], guard := some (12, false) }) (v := ?veq13) rfl (by kernel_rfl) (by kernel_rfl) (by kernel_rfl) (fun _ _ _ h => h) (Or.inl ⟨by rfl, ?yeq13⟩) (by assumption) ?req13
            case yeq13 => (intro w' hSw; (try dsimp only at hSw); go_simp; try with_reducible rfl)
            try simp only [Act.put, List.setIfInBounds_toArray, List.set_cons_zero, List.set_cons_succ]
            refine wpAnyH_take (i := 14) (oi := { dst := some 61, op := Op.load 57 (Operand.tmp 2), type := 57, pos := "index.go:53", after := #[{ on := 12, ground := Ground.guard }], guard := some (12, false) }) (v := ?veq14) rfl (by kernel_rfl) (by kernel_rfl) (by kernel_rfl) (fun _ _ _ h => h) (Or.inl ⟨by rfl, ?yeq14⟩) (by assumption) ?req14
            case yeq14 => (intro w' hSw; (try dsimp only at hSw); go_simp; try with_reducible rfl)
            try simp only [Act.put, List.setIfInBounds_toArray, List.set_cons_zero, List.set_cons_succ]
            refine wpAnyH_ready (rs := [15]) (by kernel_rfl) (by simp) ?_
            refine AllReadyH.cons (o := { dst := some 62, op := Op.makeFunc (Fn.func 55) #[Operand.tmp 61] #[], type := 91, pos := "index.go:53", after := #[{ on := 14, ground := Ground.data }, { on := 12, ground := Ground.guard }], guard := some (12, false) }) rfl (fun K hK => ?_) AllReadyH.nil
            go_simp
            refine hK.out _ _ (SX.out _ hb4) (fun hHeldeq15 => ?_)
            clear hK K hHeldeq9
            try simp only [Act.put, List.setIfInBounds_toArray, List.set_cons_zero, List.set_cons_succ]
            refine wpAnyH_ready (rs := [16]) (by kernel_rfl) (by simp) ?_
            refine AllReadyH.cons (o := { dst := some 63, op := Op.call { callee := Callee.value (Operand.func 94), args := #[Operand.tmp 60, Operand.tmp 62], argTypes := #[54, 91] }, type := 4, pos := "index.go:53", after := #[{ on := 13, ground := Ground.data }, { on := 15, ground := Ground.data }, { on := 12, ground := Ground.chain }, { on := 12, ground := Ground.guard }], guard := some (12, false) }) rfl (fun K hK => ?_) AllReadyH.nil
            go_simp
            refine (CT.out _ hb4).mono ?_
            rintro e w3 ⟨rfl, b3⟩
            have hb3 : Below w2.heap.size w2 w3 := hb4.trans (b3.mono hb4.size)
            go_wp2_with fail
            refine hK.out _ _ (SX.out _ hb3) (fun hHeldeq16 => ?_)
            clear hK K hHeldeq15
            try simp only [Act.put, List.setIfInBounds_toArray, List.set_cons_zero, List.set_cons_succ]
            refine wpAnyH_take (i := 17) (oi := { dst := some 64, op := Op.pick (Operand.tmp 59) (Operand.const (Value.bool true)) (Operand.tmp 63), type := 4, pos := "index.go:53", after := #[{ on := 12, ground := Ground.data }, { on := 16, ground := Ground.data }], guard := none }) (v := ?veq17) rfl (by kernel_rfl) (by kernel_rfl) (by kernel_rfl) (fun _ _ _ h => h) (Or.inl ⟨by rfl, ?yeq17⟩) (by assumption) ?req17
            case yeq17 => (intro w' hSw; (try dsimp only at hSw); go_simp; try with_reducible rfl)
            try simp only [Act.put, List.setIfInBounds_toArray, List.set_cons_zero, List.set_cons_succ]
            refine wpAnyH_done (by kernel_rfl) ?_ _
            go_wp2_with fail
            refine (CC.out _ hb3).mono ?_
            rintro e w5 ⟨rfl, b5⟩
            have B5 := Lib.hid (HB2.out.trans ((hb3.trans (b5.mono hb3.size)).mono HB2.out.size))
            clear b5
            go_wp2_with fail
            go_ret
            exact ⟨ret_i HV.out.symm, B5.out⟩
end Go.Proofs.YtplleaimmmanhaaDoor
namespace Go.Proofs.YtplleaimmmanhaaDoor
open Go.RowKit

/-- The files of trees, one after the other. -/
def catR (rs : List (Value × List Fl)) : List Fl := rs.flatMap (·.2)
theorem catR_snoc (rs : List (Value × List Fl)) (r : Value × List Fl) : catR (rs ++ [r]) = catR rs ++ r.2 := by simp [catR]
theorem catR_take (rs : List (Value × List Fl)) (i : Nat) : (catR (rs.take i)).length ≤ (catR rs).length := by
  conv => rhs; rw [← List.take_append_drop i rs]
  unfold catR
  rw [List.flatMap_append, List.length_append]
  omega

set_option maxRecDepth 100000 in
set_option maxHeartbeats 4000000 in
theorem concat_any (w : World) (ad : Addr) (c : Nat) (rs : List (Value × List Fl)) (h : Trees w ad rs) (hl : rs.length ≤ 1000) (hp : (catR rs).length ≤ 100000) :
    Calls Tryd.prog 45 #[.slice (some ad) rs.length c] w (OwnTo 42 3 cF (catR rs) w) := by
  have hnm : rs.length ≤ 9223372036854775807 := by omega
  have HO := Lib.hid h
  have HP := Lib.hid hp
  clear h hp
  go_enter Tryd.func45, Tryd.ntmps45
  go_wp2
  go_loopw [3, 11] (fun s3 s11 wr => ∃ (i m : Nat), i ≤ rs.length ∧ s11 = .int .i64 i ∧ s3 = .int .i64 m ∧ Hid (m = (catR (rs.take i)).length) ∧ SameG wr w) (fun _ s11 _ => rs.length - (intOf s11).toNat)
  case atStart => exact ⟨0, 0, Nat.zero_le _, rfl, rfl, Lib.hid rfl, rfl⟩
  case round =>
    obtain ⟨i, m, hil, rfl, rfl, hm, hw⟩ := hrel
    unfold SameG at hw
    subst hw
    by_cases hlt : i < rs.length
    · obtain ⟨r, hr⟩ : ∃ r, rs[i]? = some r := ⟨_, List.getElem?_eq_getElem hlt⟩
      have HT := Lib.hid (show (catR (rs.take (i + 1))).length = (catR (rs.take i)).length + r.2.length by rw [take_snoc hr, catR_snoc, List.length_append])
      have hle := catR_take rs (i + 1)
      rw [HT.out, ← hm.out] at hle
      have c0 := (HO.out i r hr).1
      have hrd := (HO.out i r hr).2
      obtain ⟨rv, l⟩ := r
      obtain ⟨B, d, hrv⟩ := hrd.form
      simp only at hrv hle
      subst hrv
      have HPm := HP.out
      have i0' : (0 : Int) ≤ (i : Int) := Int.natCast_nonneg _
      have hi1 : (i : Int) < (rs.length : Int) := by omega
      have hm0 : ¬ ((m : Int) + (l.length : Int) < 0) := by omega
      have hlm : l.length ≤ 9223372036854775807 := by omega
      have hwr : IntKind.i64.wrap ((m : Int) + (l.length : Int)) = (m : Int) + (l.length : Int) := by rw [IntKind.wrap_i64] <;> omega
      clear hr hrd hle HPm
      go_wp2
      go_roundw
      case rel => exact ⟨i + 1, m + l.length, by omega, by go_num, by rw [Int.natCast_add], Lib.hid (by rw [HT.out, hm.out]), rfl⟩
      case measure => simp [intOf]; omega
    · obtain rfl : i = rs.length := by omega
      have hmn : m ≤ 100000 := by rw [hm.out, List.take_length]; exact HP.out
      have GR := Lib.hid (grow_any wr m (by omega))
      clear hm
      go_wp2_with fail
      refine GR.out.mono ?_
      rintro e w1 ⟨A1, c1, rfl, o1, b1⟩
      have O1 := Lib.hid o1
      have B1 := b1
      obtain ⟨wo, hwo⟩ : ∃ wo, wo = wr := ⟨_, rfl⟩
      subst hwo
      clear o1 b1 GR hmn
      go_wp2_with fail
      go_loopw [6, 27] (fun s6 s27 wq => ∃ (k : Nat) (acc : List Fl), k ≤ rs.length ∧ s27 = .int .i64 k ∧ Hid (acc = catR (rs.take k)) ∧ Hid (wq.ownsRow wo.heap.size 42 3 s6 acc.length (acc.flatMap cF)) ∧ Below wo.heap.size wo wq) (fun _ s27 _ => rs.length - (intOf s27).toNat)
      case atStart => exact ⟨0, [], Nat.zero_le _, rfl, Lib.hid rfl, Lib.hid O1.out, B1⟩
      case round =>
        obtain ⟨k, acc, hk, rfl, hacc, hown, hb⟩ := hrel
        by_cases hkt : k < rs.length
        · obtain ⟨r, hr⟩ : ∃ r, rs[k]? = some r := ⟨_, List.getElem?_eq_getElem hkt⟩
          have HT := Lib.hid (show catR (rs.take (k + 1)) = acc ++ r.2 by rw [take_snoc hr, catR_snoc, hacc.out])
          have hle := catR_take rs (k + 1)
          rw [HT.out, List.length_append] at hle
          have c0 := ((HO.out.below hb) k r hr).1
          have hrd := ((HO.out.below hb) k r hr).2
          obtain ⟨rv, l⟩ := r
          obtain ⟨B, d, hrv⟩ := hrd.form
          simp only at hrv hle HT
          subst hrv
          have HR := Lib.hid hrd
          have HPm := HP.out
          have k0' : (0 : Int) ≤ (k : Int) := Int.natCast_nonneg _
          have hk1 : (k : Int) < (rs.length : Int) := by omega
          have hsz := hb.size
          have hle2 : acc.length + l.length ≤ 1000000 := by omega
          clear hr hrd hle HPm
          go_wp2_with (at_builtin; refine wpList_append_files _ rfl _ _ rfl wo.heap.size _ acc l rfl hown.out _ _ _ rfl HR.out hle2 hsz ?_; intro A' c' w5 own5 b5 hg5)
          have HB5 := hb.trans b5
          rw [List.length_append] at own5
          clear b5 hg5
          go_roundw
          case rel => exact ⟨k + 1, acc ++ l, by omega, by go_num, Lib.hid HT.out.symm, Lib.hid (by rw [List.length_append]; exact own5), HB5⟩
          case measure => simp [intOf]; omega
        · obtain rfl : k = rs.length := by omega
          rw [List.take_length] at hacc
          go_wp2
          go_ret
          exact ⟨_, rfl, by rw [← hacc.out]; exact hown.out, hb⟩
end Go.Proofs.YtplleaimmmanhaaDoor
