/-
  strings.SplitSeq at a stroke: what the iterator hands out, one by one.
  goodByte and goodPart: what may be in a part of a path.
  path.Check: what is wrong with a text as a path.
  (Row).refuses: why a file can't follow the files of a row.
  rectoref14.Cause: what is wrong of a file by itself.
  slices.DeleteFunc on a tree of the call's own; (Row).without, Cut, Clear.
  (Row).Cut, (Row).Clear: a tree without a file, without what clashes with a path.
  Trees that may be: what Check asks, said at once; a tree cleared of what clashes, with a file put.
  rectolaw14.Of, rectoref14.Stage: a tree as the document's; the files of a stage.
  slices.Concat of trees.
  (Row).Put: a file put into a tree that rises.
  (Row).Check: the first file of a row that may not be, and why.
-/
import Derived.Test.YtplleaimmmanhaaGreatDoorG4
import Derived.Lib.IndexBytes
import Derived.Test.YtplleaimmmanhaaGreatDoorG3
import Derived.Lib.Hide
import Derived.WalkKit
import Derived.WalkSpells
import Derived.WalkSmall
import Derived.LoopTactic
import Derived.IntWalk
import Derived.Deep.RegionHeld3
namespace Go.Proofs.YtplleaimmmanhaaGreatDoor
open Go Go.RowKit Go.Shelf
open Go.Lib (indexByte indexByte_ge indexByte_some)
theorem spl_miss : ∀ l : List UInt8, indexByte l 47 = -1 → spl l = [l]
  | [], _ => rfl
  | c :: r, h => by
    unfold indexByte at h
    by_cases hc : c = 47
    · subst hc; simp at h
    · have hc2 : (c == 47) = false := by simpa using hc
      rw [hc2] at h
      simp only [Bool.false_eq_true, if_false] at h
      by_cases h1 : indexByte r 47 = -1
      · rw [spl, if_neg hc, spl_miss r h1]; rfl
      · have h2 : (indexByte r 47 == -1) = false := by simpa using h1
        rw [h2] at h
        have := indexByte_ge r 47
        simp at h
        omega
theorem spl_hit : ∀ (l : List UInt8) (i : Nat), indexByte l 47 = i → spl l = l.take i :: spl (l.drop (i + 1))
  | [], i, h => by simp [indexByte] at h
  | c :: r, i, h => by
    unfold indexByte at h
    by_cases hc : c = 47
    · subst hc
      simp at h
      obtain rfl : i = 0 := by omega
      rw [spl, if_pos rfl]; rfl
    · have hc2 : (c == 47) = false := by simpa using hc
      rw [hc2] at h
      simp only [Bool.false_eq_true, if_false] at h
      by_cases h1 : indexByte r 47 = -1
      · rw [h1] at h; simp at h
      · have h2 : (indexByte r 47 == -1) = false := by simpa using h1
        have hg := indexByte_ge r 47
        rw [h2] at h
        simp only [Bool.false_eq_true, if_false] at h
        obtain ⟨k, rfl⟩ : ∃ k, i = k + 1 := ⟨i - 1, by omega⟩
        have ih := spl_hit r k (by omega)
        rw [spl, if_neg hc, ih]
        rfl
theorem index_lt (l : List UInt8) (i : Nat) (h : indexByte l 47 = i) : i < l.length := by
  have := (indexByte_some h).1
  exact (List.getElem?_eq_some_iff.1 this).1
attribute [local go_sem] Oper.semAt_some

/-- The pieces that have come, and the rest, are the text's. -/
def Came (s : ByteArray) (pre : List ByteArray) (rest : ByteArray) : Prop := pre.map (·.data.toList) ++ spl rest.data.toList = spl s.data.toList
def AllCame (s : ByteArray) (xs : List ByteArray) : Prop := xs.map (·.data.toList) = spl s.data.toList
def SomeCame (s : ByteArray) (pre : List ByteArray) : Prop := ∃ more, pre.map (·.data.toList) ++ more = spl s.data.toList
/-- How long the text in a cell is. -/
def lenAt (C : Nat) (W : World) : Nat := match W.cell? ⟨C, 0, none⟩ with | some (.string r) => r.size | _ => 0

theorem came_more {s rest : ByteArray} {pre : List ByteArray} (h : Came s pre rest) : pre.length < (spl s.data.toList).length := by
  unfold Came at h
  have := congrArg List.length h
  have h2 := List.length_pos_iff.2 (spl_ne rest.data.toList)
  simp at this
  omega

set_option maxHeartbeats 1000000 in
theorem seq_cap (s : ByteArray) (C : Nat) (w : World) (hs : s.size ≤ 1000000) (hlt : C + 2 < w.heap.size)
    (h0 : w.cell? ⟨C, 0, none⟩ = some (.string s)) (f0 : w.frozen? ⟨C, 0, none⟩ = false) (h1 : w.cell? ⟨C + 1, 0, none⟩ = some (.string ⟨#[47]⟩)) (h2 : w.cell? ⟨C + 1 + 1, 0, none⟩ = some (.int .i64 0)) :
    SeqCap Fence.wide 2 Tryz.prog 163 #[.pointer (some ⟨C + 1, 0, none⟩), .pointer (some ⟨C, 0, none⟩), .pointer (some ⟨C + 1 + 1, 0, none⟩)] (fun x => #[.string x]) (fun A B => Below w.heap.size A B) C (fun x => x.size ≤ s.size) (AllCame s) (SomeCame s) (spl s.data.toList).length w := by
  intro l J Jx W hW hJ hY h0J
  have g0 : W.cell? ⟨C, 0, none⟩ = some (.string s) := (hW.cell (p := ⟨C, 0, none⟩) (by show C < _; omega)).trans h0
  have g1 : W.cell? ⟨C + 1, 0, none⟩ = some (.string ⟨#[47]⟩) := (hW.cell (p := ⟨C + 1, 0, none⟩) (by show C + 1 < _; omega)).trans h1
  have g2 : W.cell? ⟨C + 1 + 1, 0, none⟩ = some (.int .i64 0) := (hW.cell (p := ⟨C + 1 + 1, 0, none⟩) (by show C + 1 + 1 < _; omega)).trans h2
  have k0 : W.frozen? ⟨C, 0, none⟩ = false := (hW.frozen (p := ⟨C, 0, none⟩) (by show C < _; omega)).trans f0
  have HY := Lib.hid hY
  have HJ := Lib.hid hJ
  have H0 := Lib.hid h0J
  clear hY hJ h0J h0 h1 h2 f0 hW
  refine callsIn_of_wp Tryz.func163 rfl trivial ?_ rfl
  simp only [Tryz.ntmps163, List.size_toArray, List.length_cons, List.length_nil, Nat.reduceAdd, Nat.reduceSub, Array.replicate_succ, Array.replicate_zero, List.push_toArray, List.append_toArray, List.nil_append, List.cons_append]
  gi_wp2
  gi_loopw [7] (fun _ wr => ∃ (pre : List ByteArray) (rest : ByteArray), Came s pre rest ∧ rest.size ≤ s.size ∧ wr.cell? ⟨C, 0, none⟩ = some (.string rest) ∧ wr.frozen? ⟨C, 0, none⟩ = false ∧ wr.cell? ⟨C + 1, 0, none⟩ = some (.string ⟨#[47]⟩) ∧ wr.cell? ⟨C + 1 + 1, 0, none⟩ = some (.int .i64 0) ∧ Hid (J pre wr))
    (fun _ wr => lenAt C wr)
  case atStart => exact ⟨[], s, rfl, Nat.le_refl _, g0, k0, g1, g2, H0⟩
  case round =>
    obtain ⟨pre, rest, hcm, hle, c0, d0, c1, c2, hJs⟩ := hrel
    have hlen := came_more hcm
    have HX := Lib.hid fun W => Tryz.strings_Index_one rest 47 W
    rcases Int.lt_or_le (Lib.indexByte rest.data.toList 47) 0 with hx | hx
    · have hm : Lib.indexByte rest.data.toList 47 = -1 := by have := Lib.indexByte_ge rest.data.toList 47; omega
      rw [hm] at HX
      have HM := Lib.hid hm
      clear hx hm
      obtain ⟨fn, tmps, assign, body, hy, hR⟩ := HY.out pre rest wr hJs.out hlen hle
      gi_wp2_with (refine ⟨trivial, ?_⟩; gi_at_call 165; refine (callsIn_wide.2 (HX.out _)).mono ?_; rintro e w' ⟨rfl, rfl⟩)
      refine hR.mono ?_
      rintro e W' (⟨rfl, hJ', hk⟩ | ⟨rfl, hJx'⟩)
      · have HE := Lib.hid hJ'
        clear hJ' hk hy
        gi_wp2
        go_end0
        exact ⟨⟨_, rfl⟩, .inl ⟨pre ++ [rest], by have := hcm; unfold Came at this; rw [spl_miss _ HM.out] at this; unfold AllCame; simpa using this, HE.out⟩⟩
      · have HE := Lib.hid hJx'
        clear hJx' hy
        gi_wp2
        go_end0
        exact ⟨⟨_, rfl⟩, .inr ⟨pre ++ [rest], ⟨[], by have := hcm; unfold Came at this; rw [spl_miss _ HM.out] at this; simpa using this⟩, HE.out⟩⟩
    · obtain ⟨i, hi⟩ : ∃ i : Nat, Lib.indexByte rest.data.toList 47 = i := ⟨(Lib.indexByte rest.data.toList 47).toNat, by omega⟩
      have hli := index_lt _ _ hi
      rw [hi] at HX
      have HI := Lib.hid hi
      have hsz : rest.data.toList.length = rest.size := by rw [Array.length_toList]; rfl
      rw [hsz] at hli
      clear hx hi hsz
      have hi0 : (0 : Int) ≤ (i : Int) := Int.natCast_nonneg _
      have hi1 : (i : Int) + 1 ≤ (rest.size : Int) := by omega
      have hi2 : (i : Int) ≤ (rest.size : Int) := by omega
      obtain ⟨fn, tmps, assign, body, hy, hR⟩ := HY.out pre (rest.extract 0 i) wr hJs.out hlen (by rw [ByteArray.size_extract]; omega)
      gi_wp2_with (refine ⟨trivial, ?_⟩; gi_at_call 165; refine (callsIn_wide.2 (HX.out _)).mono ?_; rintro e w' ⟨rfl, rfl⟩)
      have ht : (rest.extract 0 i).data.toList = rest.data.toList.take i := Lib.extract_from_zero rest i
      have hd : (rest.extract (i + 1) rest.size).data.toList = rest.data.toList.drop (i + 1) := Lib.extract_to_end rest (i + 1)
      have hsp := spl_hit _ _ HI.out
      refine hR.mono ?_
      rintro e W' (⟨rfl, hJ', hk⟩ | ⟨rfl, hJx'⟩)
      · have HE := Lib.hid hJ'
        have e0 : W'.cell? ⟨C, 0, none⟩ = some (.string rest) := (hk.cell (p := ⟨C, 0, none⟩) (by show C < _; omega)).trans c0
        have e1 : W'.cell? ⟨C + 1, 0, none⟩ = some (.string ⟨#[47]⟩) := (hk.cell (p := ⟨C + 1, 0, none⟩) (by show C + 1 < _; omega)).trans c1
        have e2 : W'.cell? ⟨C + 1 + 1, 0, none⟩ = some (.int .i64 0) := (hk.cell (p := ⟨C + 1 + 1, 0, none⟩) (by show C + 1 + 1 < _; omega)).trans c2
        have e3 : W'.frozen? ⟨C, 0, none⟩ = false := (hk.frozen (p := ⟨C, 0, none⟩) (by show C < _; omega)).trans d0
        have HT := Lib.hid ht
        have HD := Lib.hid hd
        have HSP := Lib.hid hsp
        have HCM := Lib.hid hcm
        clear hJ' hk hy ht hd hsp hcm
        gi_wp2
        go_roundw
        case rel =>
          refine ⟨pre ++ [rest.extract 0 i], rest.extract (i + 1) rest.size, ?_, ?_, World.cell?_setCell_same' _ _ _ (by rw [e0]; rfl), by rw [World.frozen?_setCell]; exact e3, ?_, ?_, ?_⟩
          · have h := HCM.out
            unfold Came at h ⊢
            rw [HSP.out] at h
            rw [HD.out, List.map_append]
            simp only [List.map_cons, List.map_nil, HT.out]
            rw [List.append_assoc]
            exact h
          · rw [ByteArray.size_extract]; omega
          · exact (World.cell?_setCell_other _ _ _ _ (by intro e; injection e with e; omega)).trans e1
          · exact (World.cell?_setCell_other _ _ _ _ (by intro e; injection e with e; omega)).trans e2
          · exact HJ.out _ W' _ (some C) HE.out ⟨rfl, rfl, rfl, by simp, fun k _ hk => Below.heap_setCell _ _ _ _ (fun e => hk (by rw [e]))⟩ (fun r e => by cases e; rfl)
        case measure =>
          have h1 : lenAt C (W'.setCell ⟨C, 0, none⟩ (.string (rest.extract (i + 1) rest.size))) = (rest.extract (i + 1) rest.size).size := by
            unfold lenAt; rw [World.cell?_setCell_same' _ _ _ (by rw [e0]; rfl)]
          have h2 : lenAt C w' = rest.size := by unfold lenAt; rw [c0]
          rw [h1, h2, ByteArray.size_extract]; omega
      · have HE := Lib.hid hJx'
        have h := hcm
        unfold Came at h
        rw [hsp, ← ht] at h
        have HH : Hid (SomeCame s (pre ++ [rest.extract 0 i])) := Lib.hid ⟨spl (rest.data.toList.drop (i + 1)), by rw [List.map_append, List.append_assoc]; exact h⟩
        clear hJx' hy ht hd hsp hcm h
        gi_wp2
        refine bodyPost_ret (results_none rfl _ _ _) rfl ?_
        exact ⟨⟨_, rfl⟩, .inr ⟨pre ++ [rest.extract 0 i], HH.out, HE.out⟩⟩
end Go.Proofs.YtplleaimmmanhaaGreatDoor
namespace Go.Proofs.YtplleaimmmanhaaGreatDoor
open Go Go.RowKit

theorem byte_any (c : Int) (w : World) (h0 : 0 ≤ c) (h1 : c ≤ 255) : Calls Tryz.prog 155 #[.int .u8 c] w fun e w' => e = .returned (.bool (gbv c)) ∧ w = w' := by
  by_cases h46 : c = 46
  · subst h46
    have hg : Hid (true = gbv 46) := by show true = gbv 46; rfl
    go_enter Tryz.func155, Tryz.ntmps155
    go_wp2
    all_goals
      go_ret
      exact ⟨ret_b hg.out, rfl⟩
  · by_cases h45 : c = 45
    · subst h45
      have hg : Hid (true = gbv 45) := by show true = gbv 45; rfl
      go_enter Tryz.func155, Tryz.ntmps155
      go_wp2
      all_goals
        go_ret
        exact ⟨ret_b hg.out, rfl⟩
    · by_cases h95 : c = 95
      · subst h95
        have hg : Hid (true = gbv 95) := by show true = gbv 95; rfl
        go_enter Tryz.func155, Tryz.ntmps155
        go_wp2
        all_goals
          go_ret
          exact ⟨ret_b hg.out, rfl⟩
      · have b1 : (c == 46) = false := by rw [beq_eq_false_iff_ne]; exact h46
        have b2 : (c == 45) = false := by rw [beq_eq_false_iff_ne]; exact h45
        have b3 : (c == 95) = false := by rw [beq_eq_false_iff_ne]; exact h95
        go_enter Tryz.func155, Tryz.ntmps155
        go_wp2
        all_goals
          go_ret
          exact ⟨ret_b (by unfold gbv; rw [Bool.eq_iff_iff]; simp only [Bool.or_eq_true, Bool.and_eq_true, decide_eq_true_eq, Bool.false_eq_true, true_iff, false_iff] <;> omega), rfl⟩

set_option maxHeartbeats 2000000 in
theorem part_any (s : ByteArray) (w : World) (hs : s.size ≤ 1000000) : Calls Tryz.prog 136 #[.string s] w fun e w' => e = .returned (.bool (gp s.data.toList)) ∧ w = w' := by
  have hsz : s.data.toList.length = s.size := by rw [Array.length_toList]; rfl
  by_cases e0 : s.data.toList = []
  · obtain rfl := bytes_eq (b := ⟨#[]⟩) e0
    clear hsz e0
    go_enter Tryz.func136, Tryz.ntmps136
    go_wp2
    go_ret
    exact ⟨rfl, rfl⟩
  by_cases e1 : s.data.toList = [46]
  · obtain rfl := bytes_eq (b := ⟨#[46]⟩) e1
    clear hsz e0 e1
    go_enter Tryz.func136, Tryz.ntmps136
    go_wp2
    go_ret
    exact ⟨rfl, rfl⟩
  by_cases e2 : s.data.toList = [46, 46]
  · obtain rfl := bytes_eq (b := ⟨#[46, 46]⟩) e2
    clear hsz e0 e1 e2
    go_enter Tryz.func136, Tryz.ntmps136
    go_wp2
    go_ret
    exact ⟨rfl, rfl⟩
  have q0 : ¬ s.toList = [] := by rw [ByteArray.toList_eq]; exact e0
  have q0' : s.toList.isEmpty = false := by rw [List.isEmpty_eq_false_iff]; exact q0
  have q1 : ¬ s.toList = [46] := by rw [ByteArray.toList_eq]; exact e1
  have q1' : (s.toList == [46]) = false := by rw [beq_eq_false_iff_ne]; exact q1
  have q2 : ¬ s.toList = [46, 46] := by rw [ByteArray.toList_eq]; exact e2
  have q2' : (s.toList == [46, 46]) = false := by rw [beq_eq_false_iff_ne]; exact q2
  have E := Lib.hid (And.intro e0 (And.intro e1 e2))
  have HS := Lib.hid hsz
  clear e0 e1 e2 hsz
  go_enter Tryz.func136, Tryz.ntmps136
  go_wp2
  go_loop [3, 11] (fun _ i => ∃ k : Nat, k ≤ s.size ∧ i = .int .i64 k ∧ Hid (∀ j (hj : j < s.size), j < k → gbv (s[j].toNat : Int) = true)) (fun _ i => s.size - (intOf i).toNat)
  case atStart => exact ⟨0, Nat.zero_le _, rfl, fun j _ h => absurd h (Nat.not_lt_zero _)⟩
  case round =>
    obtain ⟨k, hk, rfl, I⟩ := hrel
    have hk0 : (0 : Int) ≤ (k : Int) := Int.natCast_nonneg _
    by_cases hlt : k < s.size
    · have hki : (k : Int) < (s.size : Int) := by omega
      have hb := UInt8.toNat_lt s[k]
      have B := Lib.hid fun W => byte_any (s[k].toNat : Int) W (by omega) (by omega)
      cases hg : gbv (s[k].toNat : Int) with
      | true =>
        rw [hg] at B
        have HX := Lib.hid hg
        clear hg
        go_wp2_with (go_at_call 155; refine (B.out _).mono ?_; rintro e w' ⟨rfl, rfl⟩)
        go_round
        case rel => exact ⟨k + 1, by omega, by go_num, fun j hj hjk => by
          rcases Nat.lt_or_ge j k with h | h
          · exact I.out j hj h
          · obtain rfl : j = k := by omega
            exact HX.out⟩
        case measure => simp [intOf]; omega
      | false =>
        rw [hg] at B
        have HX := Lib.hid hg
        clear hg
        go_wp2_with (go_at_call 155; refine (B.out _).mono ?_; rintro e w' ⟨rfl, rfl⟩)
        go_ret
        exact ⟨ret_b (gp_bad (l := s.data.toList) (j := k) (by rw [HS.out]; exact hlt) HX.out).symm, rfl⟩
    · go_wp2
      go_ret
      exact ⟨ret_b (gp_all E.out.1 E.out.2.1 E.out.2.2 fun j hj => I.out j (by rw [HS.out] at hj; exact hj) (by rw [HS.out] at hj; omega)).symm, rfl⟩
end Go.Proofs.YtplleaimmmanhaaGreatDoor
namespace Go.Proofs.YtplleaimmmanhaaGreatDoor
open Go Go.RowKit Go.Shelf
attribute [local go_sem] Oper.semAt_some

theorem may_cell {C B : Nat} {W W' : World} {row : Option Nat} {a : Addr} {v : Value} (h : W.cell? a = some v) (hg : W.grownBy W' row) (hm : May C B W row) (hne : a.block ≠ C) : W'.cell? a = some v := by
  obtain ⟨o, ho, hc⟩ := cells_of_cell h
  have hlt := World.block_lt_of_cell? W a h
  refine (World.cell?_of_block (hg.block a.block hlt fun e => ?_)).trans h
  rcases hm _ e.symm with e1 | ⟨_, o', ho', hc'⟩
  · exact hne e1
  · rw [ho] at ho'; cases ho'; rw [hc] at hc'; cases hc'
theorem may_frozen {C B : Nat} {W W' : World} {row : Option Nat} {a : Addr} {v : Value} (h : W.cell? a = some v) (hg : W.grownBy W' row) (hm : May C B W row) (hne : a.block ≠ C) : W'.frozen? a = W.frozen? a := by
  obtain ⟨o, ho, hc⟩ := cells_of_cell h
  have hlt := World.block_lt_of_cell? W a h
  refine World.frozen?_of_block (hg.block a.block hlt fun e => ?_)
  rcases hm _ e.symm with e1 | ⟨_, o', ho', hc'⟩
  · exact hne e1
  · rw [ho] at ho'; cases ho'; rw [hc] at hc'; cases hc'
theorem may_below {C B N : Nat} {w W W' : World} {row : Option Nat} (h : Below N w W) (hg : W.grownBy W' row) (hm : May C B W row) (hC : N ≤ C) (hB : N ≤ B) (hN : N ≤ W.heap.size) : Below N w W' :=
  h.grown hg hN fun k hk => by
    rcases hm k hk with e | ⟨e, _⟩
    · omega
    · omega

theorem cell_new_l (W : World) (v : Value) (t : TypeId) : (W.alloc (.cells #[v] t)).cell? ⟨W.heap.size, 0, none⟩ = some v ∧ (W.alloc (.cells #[v] t)).frozen? ⟨W.heap.size, 0, none⟩ = false := by
  have h := heap_alloc_new W (.cells #[v] t)
  exact ⟨cell_of_row _ W.heap.size 0 #[v] t (0, 0) h, by unfold World.frozen?; rw [h]; simp⟩
theorem cell_alloc_l {W : World} {a : Addr} {v : Value} (o : Obj) (h : W.cell? a = some v) : (W.alloc o).cell? a = some v :=
  (World.cell?_alloc_lt W o a (World.block_lt_of_cell? W a h)).trans h
theorem frozen_alloc_l {W : World} {a : Addr} {v : Value} (o : Obj) (h : W.cell? a = some v) (hf : W.frozen? a = false) : (W.alloc o).frozen? a = false :=
  (World.frozen?_of_block (Below.heap_alloc W o a.block (World.block_lt_of_cell? W a h))).trans hf

theorem split_any (s : ByteArray) (w : World) : Calls Tryz.prog 135 #[.string s, .string ⟨#[47]⟩] w fun e w' =>
    e = .returned (.func (.func 163) #[] #[.pointer (some ⟨w.heap.size + 1, 0, none⟩), .pointer (some ⟨w.heap.size, 0, none⟩), .pointer (some ⟨w.heap.size + 1 + 1, 0, none⟩)]) ∧
    ((w.alloc (.cells #[.string s] 9)).alloc (.cells #[.string ⟨#[47]⟩] 9)).alloc (.cells #[.int .i64 0] 3) = w' := by
  have h39 : Calls Tryz.prog 154 #[.string s, .string ⟨#[47]⟩, .int .i64 0] w fun e w' =>
      e = .returned (.func (.func 163) #[] #[.pointer (some ⟨w.heap.size + 1, 0, none⟩), .pointer (some ⟨w.heap.size, 0, none⟩), .pointer (some ⟨w.heap.size + 1 + 1, 0, none⟩)]) ∧
      ((w.alloc (.cells #[.string s] 9)).alloc (.cells #[.string ⟨#[47]⟩] 9)).alloc (.cells #[.int .i64 0] 3) = w' := by
    go_enter Tryz.func154, Tryz.ntmps154
    go_wp2
    go_ret
    exact ⟨rfl, rfl⟩
  go_enter Tryz.func135, Tryz.ntmps135
  go_wp2_with (go_at_call 154; refine h39.mono ?_; rintro e w' ⟨rfl, rfl⟩)
  go_ret
  exact ⟨rfl, rfl⟩

theorem check_long (s : ByteArray) (w : World) (hs : s.size ≤ 9223372036854775807) (h : 64 < s.size) : Calls Tryz.prog 101 #[.string s] w fun e w' => e = .returned (.int .i64 4) ∧ Below w.heap.size w w' := by
  have hi : (64 : Int) < (s.size : Int) := by omega
  go_enter Tryz.func101, Tryz.ntmps101
  go_wp2
  refine bodyPost_ret (v := .int .i64 4) (by simp [results, Tryz.results101, go_sem]) rfl ⟨rfl, ?_⟩
  exact (Below.refl _ _).alloc (Nat.le_refl _) _
theorem check_empty (w : World) : Calls Tryz.prog 101 #[.string ⟨#[]⟩] w fun e w' => e = .returned (.int .i64 5) ∧ Below w.heap.size w w' := by
  go_enter Tryz.func101, Tryz.ntmps101
  go_wp2
  refine bodyPost_ret (v := .int .i64 5) (by simp [results, Tryz.results101, go_sem]) rfl ⟨rfl, ?_⟩
  exact (Below.refl _ _).alloc (Nat.le_refl _) _

set_option maxHeartbeats 2000000 in
theorem check_main (s : ByteArray) (w : World) (h0 : ¬ s.data.toList = []) (h : ¬ 64 < s.size) : Calls Tryz.prog 101 #[.string s] w (Checked s w) := by
  have hi : ¬ (64 : Int) < (s.size : Int) := by omega
  have hi2 : (s.size : Int) ≤ 64 := by omega
  have q0 : ¬ s.toList = [] := by rw [ByteArray.toList_eq]; exact h0
  have q0' : s.toList.isEmpty = false := by rw [List.isEmpty_eq_false_iff]; exact q0
  have hsz : s.data.toList.length = s.size := by rw [Array.length_toList]; rfl
  have HS := Lib.hid hsz
  have H0 := Lib.hid h0
  clear hsz h0
  refine (callsIn_wide (n := 3)).1 ?_
  refine callsIn_of_wp_marks Tryz.func101 rfl trivial ?_ rfl
  simp only [Tryz.ntmps101, List.size_toArray, List.length_cons, List.length_nil, Nat.reduceAdd, Nat.reduceSub, Array.replicate_succ, Array.replicate_zero, List.push_toArray, List.append_toArray, List.nil_append, List.cons_append]
  gi_wp2_with (refine ⟨trivial, ?_⟩; gi_at_call 135; refine (callsIn_wide.2 (split_any s _)).mono ?_; rintro e w' ⟨rfl, rfl⟩)
  have c0 := cell_new_l w (.int .i64 0) 88
  have c1 := cell_new_l (w.alloc (.cells #[.int .i64 0] 88)) (.string s) 9
  have c2 := cell_new_l ((w.alloc (.cells #[.int .i64 0] 88)).alloc (.cells #[.string s] 9)) (.string ⟨#[47]⟩) 9
  have c3 := cell_new_l (((w.alloc (.cells #[.int .i64 0] 88)).alloc (.cells #[.string s] 9)).alloc (.cells #[.string ⟨#[47]⟩] 9)) (.int .i64 0) 3
  simp only [World.size_alloc] at c1 c2 c3
  have hB0 : Below w.heap.size w ((((w.alloc (.cells #[.int .i64 0] 88)).alloc (.cells #[.string s] 9)).alloc (.cells #[.string ⟨#[47]⟩] 9)).alloc (.cells #[.int .i64 0] 3)) := ((((Below.refl _ w).alloc (Nat.le_refl _) _).alloc (by simp) _).alloc (by simp; omega) _).alloc (by simp; omega) _
  have d0 := cell_alloc_l (.cells #[.int .i64 0] 3) (cell_alloc_l (.cells #[.string ⟨#[47]⟩] 9) (cell_alloc_l (.cells #[.string s] 9) c0.1))
  have d1 := cell_alloc_l (.cells #[.int .i64 0] 3) (cell_alloc_l (.cells #[.string ⟨#[47]⟩] 9) c1.1)
  have d2 := cell_alloc_l (.cells #[.int .i64 0] 3) c2.1
  have d3 := c3.1
  have e0 := frozen_alloc_l (.cells #[.int .i64 0] 3) (cell_alloc_l (.cells #[.string ⟨#[47]⟩] 9) (cell_alloc_l (.cells #[.string s] 9) c0.1)) (frozen_alloc_l (.cells #[.string ⟨#[47]⟩] 9) (cell_alloc_l (.cells #[.string s] 9) c0.1) (frozen_alloc_l (.cells #[.string s] 9) c0.1 c0.2))
  have e1 := frozen_alloc_l (.cells #[.int .i64 0] 3) (cell_alloc_l (.cells #[.string ⟨#[47]⟩] 9) c1.1) (frozen_alloc_l (.cells #[.string ⟨#[47]⟩] 9) c1.1 c1.2)
  have hz : ((((w.alloc (.cells #[.int .i64 0] 88)).alloc (.cells #[.string s] 9)).alloc (.cells #[.string ⟨#[47]⟩] 9)).alloc (.cells #[.int .i64 0] 3)).heap.size = w.heap.size + 4 := by simp
  clear c0 c1 c2 c3
  have HZ := Lib.hid hz
  refine range_cap rfl (by omega) (gf := 163) rfl trivial (enters_of Tryz.func163 (by kernel_rfl) rfl)
    (seq_cap s (w.heap.size + 1) _ (by omega) (by omega) d1 e1 d2 d3) (by omega) (fun h k => h.trans k) (belowK_b (Nat.le_refl _)) (Below.refl _ _) (fun _ => rfl)
    (fun pre W => ((∀ x ∈ pre, gp x.data.toList = true) ∧ W.cell? ⟨w.heap.size, 0, none⟩ = some (.int .i64 0) ∧ W.frozen? ⟨w.heap.size, 0, none⟩ = false) ∧ Below w.heap.size w W)
    (fun c pre W => (c = .ret ∧ (∃ x ∈ pre, gp x.data.toList = false) ∧ W.cell? ⟨w.heap.size, 0, none⟩ = some (.int .i64 5)) ∧ Below w.heap.size w W)
    (fun pre A B row hs hg hm => ⟨⟨hs.1.1, may_cell hs.1.2.1 hg hm (by show w.heap.size ≠ _; omega), (may_frozen hs.1.2.1 hg hm (by show w.heap.size ≠ _; omega)).trans hs.1.2.2⟩, may_below hs.2 hg hm (by omega) (by omega) hs.2.size⟩)
    (fun c pre A B row hs hg hm => ⟨⟨hs.1.1, hs.1.2.1, may_cell hs.1.2.2 hg hm (by show w.heap.size ≠ _; omega)⟩, may_below hs.2 hg hm (by omega) (by omega) hs.2.size⟩)
    ⟨⟨by simp, d0, e0⟩, hB0⟩
    (fun x => { tmps := #[.string s, undef, .pointer (some ⟨w.heap.size, 0, none⟩), .string x, .string s, .int .i64 s.size, .bool false, .string s, .bool false, .string s, .func (.func 163) #[] #[.pointer (some ⟨w.heap.size + 1 + 1, 0, none⟩), .pointer (some ⟨w.heap.size + 1, 0, none⟩), .pointer (some ⟨w.heap.size + 1 + 1 + 1, 0, none⟩)], .string x, undef, undef, undef], defers := [] }) ?assign ?body ?done ?stop
  case assign =>
    intro l x W K hK
    gi_wp2
    exact hK
  case body =>
    rintro l pre x W ⟨⟨hp, hc, hf⟩, hB⟩ _ hx
    have hxs : x.size ≤ s.size := hx
    have HP := Lib.hid fun W => part_any x W (by omega)
    cases hg : gp x.data.toList with
    | true =>
      rw [hg] at HP
      have HG := Lib.hid hg
      clear hg hx
      gi_wp2_with (refine ⟨trivial, ?_⟩; gi_at_call 136; refine (CallsIn.inRound l (callsIn_wide.2 (HP.out _))).mono ?_; rintro e w' ⟨rfl, rfl⟩)
      exact ⟨KeepsOthers.refl _, Below.refl _ _, ⟨fun y hy => (List.mem_append.1 hy).elim (hp y) (fun e => by simp at e; subst e; exact HG.out), hc, hf⟩, hB⟩
    | false =>
      rw [hg] at HP
      have HG := Lib.hid hg
      clear hg hx
      gi_wp2_with (refine ⟨trivial, ?_⟩; gi_at_call 136; refine (CallsIn.inRound l (callsIn_wide.2 (HP.out _))).mono ?_; rintro e w' ⟨rfl, rfl⟩)
      exact ⟨KeepsOthers.setCell _ _ _, ⟨rfl, ⟨x, List.mem_append.2 (.inr (by simp)), HG.out⟩, World.cell?_setCell_same' _ _ _ (by rw [hc]; rfl)⟩, hB.setCell (p := ⟨w.heap.size, 0, none⟩) (Nat.le_refl _) _⟩
  case done =>
    rintro D ys W hD hys ⟨⟨hall, hc, hf⟩, hB⟩ hK
    have HA : Hid (chk s.data.toList = 0) := by
      refine chk_good (by rw [HS.out]; exact h) H0.out ?_
      have hy2 : ys.map (·.data.toList) = spl s.data.toList := hys
      rw [← hy2, List.all_eq_true]
      intro x hx
      obtain ⟨y, hy, rfl⟩ := List.mem_map.1 hx
      exact hall y hy
    rw [hz] at hD
    gi_wp2
    have hK' := (KeepsOthers.setCell W ⟨w.heap.size, 0, none⟩ (.int .i64 0)).same D _ hK rfl
    refine ⟨by simp, .inl ⟨_, _, rfl, run_takeDeferred hK', ?_⟩⟩
    have hc5 := cell_kept (World.cell?_setCell_same' W ⟨w.heap.size, 0, none⟩ (.int .i64 0) (by rw [hc]; rfl)) (grownBy_putObj' _ D (.deferred none)) (fun r e => by cases e; exact ⟨_, hK', rfl⟩)
    refine ⟨.int .i64 0, ?_, by rw [HA.out], (hB.setCell (p := ⟨w.heap.size, 0, none⟩) (Nat.le_refl _) _).trans (belowK_b (w := w) (Nat.le_refl _) _ D _ _ (by omega) hK' rfl rfl)⟩
    simp [results, Tryz.f101, go_sem, hc5]
  case stop =>
    rintro D c pre W hD hpre ⟨⟨rfl, hin, hc⟩, hB⟩ hK
    have HA : Hid (chk s.data.toList = 5) := by
      refine chk_bad (by rw [HS.out]; exact h) H0.out ?_
      obtain ⟨more, hm⟩ := hpre
      obtain ⟨x, hx, hg⟩ := hin
      rw [← hm, Bool.eq_false_iff]
      intro ha
      rw [List.all_eq_true] at ha
      have := ha x.data.toList (List.mem_append.2 (.inl (List.mem_map.2 ⟨x, hx, rfl⟩)))
      rw [hg] at this
      cases this
    rw [hz] at hD
    gi_wp2
    refine ⟨by simp, .inl ⟨_, _, rfl, run_takeDeferred hK, ?_⟩⟩
    have hc5 := cell_kept hc (grownBy_putObj' _ D (.deferred none)) (fun r e => by cases e; exact ⟨_, hK, rfl⟩)
    refine ⟨.int .i64 5, ?_, by rw [HA.out], hB.trans (belowK_b (w := w) (Nat.le_refl _) W D _ _ (by omega) hK rfl rfl)⟩
    simp [results, Tryz.f101, go_sem, hc5]

theorem check_any (s : ByteArray) (w : World) (hs : s.size ≤ 9223372036854775807) : Calls Tryz.prog 101 #[.string s] w (Checked s w) := by
  have hsz : s.data.toList.length = s.size := by rw [Array.length_toList]; rfl
  by_cases h : 64 < s.size
  · refine (check_long s w hs h).mono ?_
    rintro e w' ⟨rfl, hb⟩
    exact ⟨by rw [chk_long (by rw [hsz]; exact h)], hb⟩
  · by_cases h0 : s.data.toList = []
    · obtain rfl := bytes_eq (b := ⟨#[]⟩) h0
      exact check_empty w
    · exact check_main s w h0 h
end Go.Proofs.YtplleaimmmanhaaGreatDoor
namespace Go.Proofs.YtplleaimmmanhaaGreatDoor
open Go Go.RowKit

def NumTo (n : Int) (w : World) (e : Ending) (w' : World) : Prop := e = .returned (.int .i64 n) ∧ Below w.heap.size w w'

set_option maxRecDepth 100000 in
set_option maxHeartbeats 4000000 in
theorem refuses_any (w : World) (v : Value) (l : List Fl) (f : Fl) (h : Reads 3 cF w v l) (hs : Sized l) (hf : f.1.size ≤ 1000000) (hd : f.2.2.size ≤ 1000000) (hl : l.length ≤ 100000) :
    Calls Tryz.prog 48 #[v, .agg #[.string f.1, .int .i64 f.2.1, .string f.2.2]] w (NumTo (refF l f) w) := by
  obtain ⟨p, m, d⟩ := f
  simp only at hf hd
  obtain ⟨W1, hW1⟩ : ∃ W1, W1 = w.alloc (.cells #[.string p, .int .i64 m, .string d] 25) := ⟨_, rfl⟩
  have B1 : Below w.heap.size w W1 := by rw [hW1]; exact (Below.refl _ _).alloc (Nat.le_refl _) _
  have K1 : W1.heap[w.heap.size]? = some (.cells #[.string p, .int .i64 m, .string d] 25 (0, 0)) := by rw [hW1]; exact heap_alloc_new w _
  have CK := Lib.hid (check_any p W1 (by omega))
  obtain ⟨G, hG⟩ : ∃ G, G = w.heap.size := ⟨_, rfl⟩
  have hG1 : G < W1.heap.size := by rw [hG, hW1]; simp
  rw [← hG] at K1
  have ZZ := Lib.hid fun W (hW : Below W1.heap.size W1 W) => (show W.cell? ⟨G, 0, none⟩ = some (.string p) ∧ W.cell? ⟨G, 1, none⟩ = some (.int .i64 m) ∧ W.cell? ⟨G, 2, none⟩ = some (.string d) from
    ⟨cell_of_row W G 0 _ 25 (0, 0) ((hW.block G hG1).trans K1), cell_of_row W G 1 _ 25 (0, 0) ((hW.block G hG1).trans K1), cell_of_row W G 2 _ 25 (0, 0) ((hW.block G hG1).trans K1)⟩)
  obtain ⟨y0, y1, y2⟩ := ZZ.out W1 (Below.refl _ _)
  obtain ⟨A, c, rfl⟩ := h.form
  have R1 := Lib.hid (h.below B1)
  have hlen := h.len
  have HB1 := Lib.hid B1
  have HS := Lib.hid hs
  have b1s := B1.size
  clear h K1 B1 hs
  go_enter Tryz.func48, Tryz.ntmps48
  go_wp2_with fail
  rw [← hW1, ← hG]
  clear hW1
  have HG := Lib.hid hG
  clear hG
  refine CK.out.mono ?_
  rintro e w2 ⟨rfl, b2⟩
  obtain ⟨z0, z1, z2⟩ := ZZ.out w2 b2
  have hGl : G < w2.heap.size := Nat.lt_of_lt_of_le hG1 b2.size
  clear y0 y1 y2 CK
  have hle : w.heap.size ≤ G := by rw [HG.out]; exact Nat.le_refl _
  have HB2 := Lib.hid (HB1.out.trans (b2.mono b1s))
  have R2 := Lib.hid (R1.out.below b2)
  clear HB1 R1
  by_cases hc : chk p.data.toList = 0
  · have hc1 : (chk p.data.toList == 0) = true := by simpa using hc
    have hc2 : (chk p.data.toList != 0) = false := by simpa using hc
    have HC := Lib.hid hc
    clear hc
    obtain ⟨c0, hc0⟩ : ∃ c0, c0 = chk p.data.toList := ⟨_, rfl⟩
    by_cases hm : m = 1 ∨ m = 2
    · by_cases hd1 : 4096 < d.size
      · have HV : Hid (refF l (p, m, d) = 4) := Lib.hid (by unfold refF causeF; simp [HC.out, hm, hd1])
        have hdi : (4096 : Int) < (d.size : Int) := by omega
        rcases hm with rfl | rfl
        all_goals
          go_wp2_with fail
          go_ret
          exact ⟨ret_i HV.out.symm, HB2.out⟩
      · have HCF : Hid (causeF (p, m, d) = 0) := Lib.hid (by unfold causeF; simp [HC.out, hm, hd1])
        have hdi : ¬ (4096 : Int) < (d.size : Int) := by omega
        by_cases hl0 : l = []
        · subst hl0
          have HV : Hid (refF [] (p, m, d) = 0) := Lib.hid (refF_zero HCF.out rfl rfl)
          have CT := Lib.hid fun W (hW : Below w2.heap.size w2 W) => containsF_any w2 W w2.heap.size hW hW.size (.slice A ([] : List Fl).length c) [] 103 (.pointer (some ⟨G, 0, none⟩)) (fun x => cls x.1.data.toList p.data.toList) (R2.out.below hW) (fun x hx => by cases hx) (by simp) enters_refuses (refuses_pred w2 _ G p hf z0 hGl (Nat.le_refl _))
          simp only [List.length_nil] at CT ⊢
          rcases hm with rfl | rfl
          all_goals
            go_wp2_with fail
            go_quiet (fail)
            have BQ := Lib.hid (below_drewN (Below.refl w2.heap.size w2) nq)
            go_wp2_with fail
            refine (CT.out _ BQ.out).mono ?_
            rintro e w3 ⟨rfl, b3⟩
            have B3 := Lib.hid (HB2.out.trans (Below.trans BQ.out (b3.mono BQ.out.size) |>.mono HB2.out.size))
            clear b3
            go_wp2_with fail
            go_ret
            exact ⟨ret_i HV.out.symm, B3.out⟩
        · obtain ⟨n, hn⟩ : ∃ n, l.length = n + 1 := ⟨l.length - 1, by have := List.length_pos_iff.2 hl0; omega⟩
          obtain ⟨g, hg⟩ : ∃ g, l[n]? = some g := ⟨_, List.getElem?_eq_getElem (by omega)⟩
          have hlast : l.getLast? = some g := by rw [List.getLast?_eq_getElem?, hn]; exact hg
          obtain ⟨ad, rfl, c0, c1, c2⟩ := Fils.at_ R2.out hg
          have hw : IntKind.i64.wrap ((l.length : Int) - 1) = (n : Int) := by rw [IntKind.wrap_i64] <;> omega
          have hpos : (0 : Int) < (l.length : Int) := by omega
          have hpos2 : 0 < l.length := by omega
          have hnl : (n : Int) < (l.length : Int) := by omega
          have hnl2 : n < l.length := by omega
          have hn0 : (0 : Int) ≤ (n : Int) := Int.natCast_nonneg _
          have HLT : Hid (lateF l (p, m, d) = decide (0 ≤ cb g.1 p)) := Lib.hid (by unfold lateF; rw [hlast])
          have CP := Lib.hid fun W => comp_any g.1 p W
          have CT := Lib.hid fun W (hW : Below w2.heap.size w2 W) => containsF_any w2 W w2.heap.size hW hW.size (.slice (some ad) l.length c) l 103 (.pointer (some ⟨G, 0, none⟩)) (fun x => cls x.1.data.toList p.data.toList) (R2.out.below hW) HS.out hl enters_refuses (refuses_pred w2 _ G p hf z0 hGl (Nat.le_refl _))
          have HCT : Hid (clashF l p = l.any (fun x => cls x.1.data.toList p.data.toList)) := Lib.hid rfl
          obtain ⟨q, hq⟩ : ∃ q, q = l.any (fun x => cls x.1.data.toList p.data.toList) := ⟨_, rfl⟩
          obtain ⟨k, hk⟩ : ∃ k, k = cb g.1 p := ⟨_, rfl⟩
          rw [← hq] at CT HCT
          rw [← hk] at HLT CP
          clear hg hn hlast hq hk hl0
          by_cases hk0 : 0 ≤ k
          · have HV : Hid (refF l (p, m, d) = 6) := Lib.hid (by unfold refF; rw [if_neg (by rw [HCF.out]; simp), if_pos (by rw [HLT.out]; simpa using hk0)])
            rcases hm with rfl | rfl
            all_goals
              go_wp2_with fail
              go_quiet ((go_at_call 77; exact Calls.quiet_of_same ((CP.out _).mono fun _ _ h => ⟨h.1, h.2⟩)))
              have BQ := Lib.hid (below_drewN (Below.refl w2.heap.size w2) nq)
              go_wp2_with fail
              go_ret
              exact ⟨ret_i HV.out.symm, HB2.out.trans (BQ.out.mono HB2.out.size)⟩
          · have HL0 : Hid (lateF l (p, m, d) = false) := Lib.hid (by rw [HLT.out]; simpa using hk0)
            cases q with
            | true =>
              have HV : Hid (refF l (p, m, d) = 11) := Lib.hid (by unfold refF; rw [if_neg (by rw [HCF.out]; simp), if_neg (by rw [HL0.out]; simp), if_pos HCT.out])
              rcases hm with rfl | rfl
              all_goals
                go_wp2_with fail
                go_quiet ((go_at_call 77; exact Calls.quiet_of_same ((CP.out _).mono fun _ _ h => ⟨h.1, h.2⟩)))
                have BQ := Lib.hid (below_drewN (Below.refl w2.heap.size w2) nq)
                go_wp2_with fail
                refine (CT.out _ BQ.out).mono ?_
                rintro e w3 ⟨rfl, b3⟩
                have B3 := Lib.hid (HB2.out.trans (Below.trans BQ.out (b3.mono BQ.out.size) |>.mono HB2.out.size))
                clear b3
                go_wp2_with fail
                go_ret
                exact ⟨ret_i HV.out.symm, B3.out⟩
            | false =>
              have HV : Hid (refF l (p, m, d) = 0) := Lib.hid (refF_zero HCF.out HL0.out HCT.out)
              rcases hm with rfl | rfl
              all_goals
                go_wp2_with fail
                go_quiet ((go_at_call 77; exact Calls.quiet_of_same ((CP.out _).mono fun _ _ h => ⟨h.1, h.2⟩)))
                have BQ := Lib.hid (below_drewN (Below.refl w2.heap.size w2) nq)
                go_wp2_with fail
                refine (CT.out _ BQ.out).mono ?_
                rintro e w3 ⟨rfl, b3⟩
                have B3 := Lib.hid (HB2.out.trans (Below.trans BQ.out (b3.mono BQ.out.size) |>.mono HB2.out.size))
                clear b3
                go_wp2_with fail
                go_ret
                exact ⟨ret_i HV.out.symm, B3.out⟩
    · have HV : Hid (refF l (p, m, d) = 1) := Lib.hid (by unfold refF causeF; simp [HC.out, hm])
      have m1 : (m == 1) = false := by simpa using fun e => hm (.inl e)
      have m2 : (m == 2) = false := by simpa using fun e => hm (.inr e)
      have n1 : (m != 1) = true := by simpa using fun e => hm (.inl e)
      have n2 : (m != 2) = true := by simpa using fun e => hm (.inr e)
      clear hm
      go_wp2_with fail
      go_ret
      exact ⟨ret_i HV.out.symm, HB2.out⟩
  · have HV : Hid (refF l (p, m, d) = chk p.data.toList) := Lib.hid (by unfold refF causeF; simp [hc])
    have hne : (chk p.data.toList == 0) = false := by simpa using hc
    have hne2 : (chk p.data.toList != 0) = true := by simpa using hc
    clear hc
    go_wp2_with fail
    go_ret
    exact ⟨ret_i HV.out.symm, HB2.out⟩
end Go.Proofs.YtplleaimmmanhaaGreatDoor
namespace Go.Proofs.YtplleaimmmanhaaGreatDoor
open Go Go.RowKit

theorem mode_any (m : Int) (w : World) : Calls Tryz.prog 105 #[.int .i64 m] w fun e w' => e = .returned (.bool (decide (m = 1) || decide (m = 2))) ∧ w = w' := by
  by_cases h1 : m = 1
  · subst h1
    go_enter Tryz.func105, Tryz.ntmps105
    go_wp2
    go_ret
    exact ⟨rfl, rfl⟩
  · have e1 : (m == 1) = false := by simpa using h1
    by_cases h2 : m = 2
    · subst h2
      go_enter Tryz.func105, Tryz.ntmps105
      go_wp2
      go_ret
      exact ⟨rfl, rfl⟩
    · have e2 : (m == 2) = false := by simpa using h2
      have HV := Lib.hid (show (decide (m = 1) || decide (m = 2)) = false by simp [h1, h2])
      go_enter Tryz.func105, Tryz.ntmps105
      go_wp2
      go_ret
      exact ⟨ret_b HV.out.symm, rfl⟩

set_option maxRecDepth 100000 in
set_option maxHeartbeats 2000000 in
theorem refCause_any (w : World) (p : ByteArray) (m : Int) (d : ByteArray) (hp : p.size ≤ 9223372036854775807) (hd : d.size ≤ 9223372036854775807) :
    Calls Tryz.prog 50 #[.agg #[.string p, .int .i64 m, .string d]] w (NumTo (causeF (p, m, d)) w) := by
  obtain ⟨W1, hW1⟩ : ∃ W1, W1 = w.alloc (.cells #[.string p, .int .i64 m, .string d] 40) := ⟨_, rfl⟩
  have B1 : Below w.heap.size w W1 := by rw [hW1]; exact (Below.refl _ _).alloc (Nat.le_refl _) _
  have K1 : W1.heap[w.heap.size]? = some (.cells #[.string p, .int .i64 m, .string d] 40 (0, 0)) := by rw [hW1]; exact heap_alloc_new w _
  have CK := Lib.hid (refCheck_any p W1 hp)
  obtain ⟨G, hG⟩ : ∃ G, G = w.heap.size := ⟨_, rfl⟩
  have hG1 : G < W1.heap.size := by rw [hG, hW1]; simp
  rw [← hG] at K1
  have ZZ := Lib.hid fun W (hW : Below W1.heap.size W1 W) => (show W.cell? ⟨G, 0, none⟩ = some (.string p) ∧ W.cell? ⟨G, 1, none⟩ = some (.int .i64 m) ∧ W.cell? ⟨G, 2, none⟩ = some (.string d) from
    ⟨cell_of_row W G 0 _ 40 (0, 0) ((hW.block G hG1).trans K1), cell_of_row W G 1 _ 40 (0, 0) ((hW.block G hG1).trans K1), cell_of_row W G 2 _ 40 (0, 0) ((hW.block G hG1).trans K1)⟩)
  obtain ⟨y0, y1, y2⟩ := ZZ.out W1 (Below.refl _ _)
  have HB1 := Lib.hid B1
  have MD := Lib.hid fun W => mode_any m W
  have b1s := B1.size
  clear K1 B1
  go_enter Tryz.func50, Tryz.ntmps50
  go_wp2_with fail
  rw [← hW1, ← hG]
  clear hW1
  have HG := Lib.hid hG
  clear hG
  refine CK.out.mono ?_
  rintro e w2 ⟨rfl, b2⟩
  obtain ⟨z0, z1, z2⟩ := ZZ.out w2 b2
  have hGl : G < w2.heap.size := Nat.lt_of_lt_of_le hG1 b2.size
  have HB2 := Lib.hid (HB1.out.trans (b2.mono b1s))
  clear y0 y1 y2 CK HB1 b2
  by_cases hc : chk p.data.toList = 0
  · have hc1 : (chk p.data.toList == 0) = true := by simpa using hc
    have hc2 : (chk p.data.toList != 0) = false := by simpa using hc
    have HC := Lib.hid hc
    clear hc
    by_cases hm : m = 1 ∨ m = 2
    · have hmd : (decide (m = 1) || decide (m = 2)) = true := by simpa using hm
      rw [hmd] at MD
      by_cases hd1 : 4096 < d.size
      · have HV : Hid (causeF (p, m, d) = 4) := Lib.hid (by unfold causeF; simp [HC.out, hm, hd1])
        have hdi : (4096 : Int) < (d.size : Int) := by omega
        clear hm hmd
        go_wp2_with fail
        refine (MD.out _).mono ?_
        rintro e w' ⟨rfl, rfl⟩
        go_wp2_with fail
        go_ret
        exact ⟨ret_i HV.out.symm, HB2.out⟩
      · have HV : Hid (causeF (p, m, d) = 0) := Lib.hid (by unfold causeF; simp [HC.out, hm, hd1])
        have hdi : ¬ (4096 : Int) < (d.size : Int) := by omega
        clear hm hmd
        go_wp2_with fail
        refine (MD.out _).mono ?_
        rintro e w' ⟨rfl, rfl⟩
        go_wp2_with fail
        go_ret
        exact ⟨ret_i HV.out.symm, HB2.out⟩
    · have HV : Hid (causeF (p, m, d) = 1) := Lib.hid (by unfold causeF; simp [HC.out, hm])
      have hmd : (decide (m = 1) || decide (m = 2)) = false := by simpa using hm
      rw [hmd] at MD
      clear hm hmd
      go_wp2_with fail
      refine (MD.out _).mono ?_
      rintro e w' ⟨rfl, rfl⟩
      go_wp2_with fail
      go_ret
      exact ⟨ret_i HV.out.symm, HB2.out⟩
  · have HV : Hid (causeF (p, m, d) = chk p.data.toList) := Lib.hid (by unfold causeF; simp [hc])
    have hne : (chk p.data.toList == 0) = false := by simpa using hc
    have hne2 : (chk p.data.toList != 0) = true := by simpa using hc
    clear hc
    go_wp2_with fail
    go_ret
    exact ⟨ret_i HV.out.symm, HB2.out⟩
end Go.Proofs.YtplleaimmmanhaaGreatDoor
namespace Go.Proofs.YtplleaimmmanhaaGreatDoor
open Go Go.RowKit

theorem flat_set : ∀ (m : List Fl) (i : Nat) (x : Fl), i < m.length → (((m.flatMap cF).set (i * 3) (.string x.1)).set (i * 3 + 1) (.int .i64 x.2.1)).set (i * 3 + 2) (.string x.2.2) = (m.set i x).flatMap cF
  | [], _, _, h => by simp at h
  | y :: r, 0, x, _ => by simp [cF]
  | y :: r, i + 1, x, h => by
    have ih := flat_set r i x (by simpa using h)
    rw [List.set_cons_succ, List.flatMap_cons, List.flatMap_cons, ← ih]
    have hc : (cF y).length = 3 := rfl
    rw [List.set_append_right _ _ (by rw [hc]; omega), List.set_append_right _ _ (by rw [hc]; omega), List.set_append_right _ _ (by rw [hc]; omega), hc]
    congr 1
    rw [show (i + 1) * 3 - 3 = i * 3 by omega, show (i + 1) * 3 + 1 - 3 = i * 3 + 1 by omega, show (i + 1) * 3 + 2 - 3 = i * 3 + 2 by omega]

def RowOwn (B g cap n : Nat) (m : List Fl) (W : World) : Prop := W.ownsRow B 25 3 (.slice (some ⟨g, 0, none⟩) n cap) n (m.flatMap cF)
theorem RowOwn.set {B g cap n : Nat} {m : List Fl} {W : World} (h : RowOwn B g cap n m W) (hm : m.length = n) (i : Nat) (hi : i < n) (x : Fl) :
    RowOwn B g cap n (m.set i x) (((W.setCell ⟨g, i * 3, none⟩ (.string x.1)).setCell ⟨g, i * 3 + 1, none⟩ (.int .i64 x.2.1)).setCell ⟨g, i * 3 + 2, none⟩ (.string x.2.2)) := by
  unfold RowOwn
  rw [← flat_set m i x (by omega)]
  have h1 := (World.ownsRow.stored h (i * 3) (.string x.1)).1
  have h2 := (World.ownsRow.stored h1 (i * 3 + 1) (.int .i64 x.2.1)).1
  exact (World.ownsRow.stored h2 (i * 3 + 2) (.string x.2.2)).1
theorem RowOwn.below {B g cap n : Nat} {m : List Fl} {W W' : World} (h : RowOwn B g cap n m W) (hb : Below W.heap.size W W') : RowOwn B g cap n m W' := own_keep h hb
theorem RowOwn.cellAt {B g cap n : Nat} {m : List Fl} {W : World} (h : RowOwn B g cap n m W) {i : Nat} {x : Fl} (hx : m[i]? = some x) :
    W.cell? ⟨g, i * 3, none⟩ = some (.string x.1) ∧ W.cell? ⟨g, i * 3 + 1, none⟩ = some (.int .i64 x.2.1) ∧ W.cell? ⟨g, i * 3 + 2, none⟩ = some (.string x.2.2) := by
  have key : ∀ j u, (cF x)[j]? = some u → W.cell? ⟨g, i * 3 + j, none⟩ = some u := fun j u hu => by
    have hj : j < 3 := (List.getElem?_eq_some_iff.1 hu).1
    have := World.ownsRow.cells h rfl (i * 3 + j) u (by rw [flat_at cF_len m i j x hx hj]; exact hu)
    rwa [add_zero_addr] at this
  exact ⟨key 0 _ rfl, key 1 _ rfl, key 2 _ rfl⟩
theorem RowOwn.frozenAt {B g cap n : Nat} {m : List Fl} {W : World} (h : RowOwn B g cap n m W) (j : Nat) : W.frozen? ⟨g, j, none⟩ = false := World.ownsRow.frozenAt h j
theorem RowOwn.isCell {B g cap n : Nat} {m : List Fl} {W : World} (h : RowOwn B g cap n m W) (j : Nat) (hj : j < n * 3) : (W.cell? ⟨g, j, none⟩).isSome = true := by
  rw [World.ownsRow.cellAt h j hj, List.getElem?_eq_getElem (by rw [h.1]; exact hj)]; rfl

/-- The cells of n files that are none. -/
def zs (n : Nat) : List Value := (Builtin.zeroCells #[.string ⟨#[]⟩, .int .i64 0, .string ⟨#[]⟩] n).toList
theorem zs_len (n : Nat) : (zs n).length = n * 3 := by simp [zs, Builtin.zeroCells]
theorem zs_one (n : Nat) : ∀ u ∈ zs n, u.oneCell' = true := fun u hu => by
  simp [zs, Builtin.zeroCells] at hu
  obtain ⟨i, _, rfl⟩ := hu
  have : i % 3 = 0 ∨ i % 3 = 1 ∨ i % 3 = 2 := by omega
  rcases this with h | h | h <;> rw [h] <;> rfl
theorem run_clear_files (w : World) (ty : TypeId) (b o n c : Nat) (hn : 0 < n) (hc : ∀ j, j < n * 3 → (w.cell? ⟨b, o + j, none⟩).isSome = true) (hf : ∀ j, j < n * 3 → w.frozen? ⟨b, o + j, none⟩ = false) :
    (Builtin.clear_ #[23] ty #[.slice (some ⟨b, o, none⟩) n c]).run Tryz.prog w = .ok (.tuple #[]) (w.setCells b o (zs n)) := by
  have hst := run_storeCells_cells (P := Tryz.prog) b o (zs n) 0 w (by rw [zs_len]; simpa using hc) (by rw [zs_len]; simpa using hf) (zs_one n)
  simp only [Nat.add_zero] at hst
  obtain ⟨m, rfl⟩ : ∃ m, n = m + 1 := ⟨n - 1, by omega⟩
  unfold zs at hst ⊢
  simp [Builtin.clear_, run_underlying Tryz.underlying23, Tryz.zeroValue25, Value.cells, hst]

/-- The files ahead, where those behind are cleared. -/
theorem reads_front {B g cap n : Nat} {m : List Fl} {W : World} (h : RowOwn B g cap n m W) (hm : m.length = n) (i : Nat) (hi : i ≤ n) (k : Nat) :
    Reads 3 cF (W.setCells g (i * 3) (zs k)) (.slice (some ⟨g, 0, none⟩) i cap) (m.take i) := by
  have hl : (m.take i).length = i := by rw [List.length_take]; omega
  have h2 := own_len h
  refine ⟨some ⟨g, 0, none⟩, cap, by rw [hl], by omega, h2.2.2, (fun e => by cases e), fun ad ha t x hx j u hu => ?_⟩
  obtain rfl := Option.some.inj ha
  have ht : t < i := by have := (List.getElem?_eq_some_iff.1 hx).1; omega
  have hj : j < 3 := (List.getElem?_eq_some_iff.1 hu).1
  have hx' : m[t]? = some x := by rwa [List.getElem?_take, if_pos ht] at hx
  have hc := World.ownsRow.cells h rfl (t * 3 + j) u (by rw [flat_at cF_len m t j x hx' hj]; exact hu)
  rw [add_zero_addr] at hc
  have := (World.cell?_setCells_out g (zs k) (i * 3) W ⟨g, t * 3 + j, none⟩ (fun _ _ => .inl (by show t * 3 + j < i * 3; omega))).trans hc
  cases j with
  | zero => unfold adr; rw [add_zero_addr]; exact this
  | succ j => unfold adr; rw [add_zero_addr]; exact this
theorem below_setCells {N g : Nat} (hg : N ≤ g) {a : World} : ∀ (vs : List Value) (o : Nat) (w : World), Below N a w → Below N a (w.setCells g o vs)
  | [], _, _, h => h
  | v :: r, o, _, h => below_setCells hg r (o + 1) _ (h.setCell (p := ⟨g, o, none⟩) hg v)

def KeptTo (B : Nat) (w0 : World) (l : List Fl) (e : Ending) (w' : World) : Prop := ∃ v, e = .returned v ∧ Reads 3 cF w' v l ∧ Below B w0 w'
theorem keep_snoc {p : Fl → Bool} {l : List Fl} {j : Nat} {x : Fl} (hx : l[j]? = some x) : (l.take (j + 1)).filter (fun x => !p x) = (l.take j).filter (fun x => !p x) ++ (if p x then [] else [x]) := by
  rw [take_snoc hx, List.filter_append]
  cases h : p x <;> simp [h]
theorem any_keep {p : Fl → Bool} {l : List Fl} (h : l.any p = false) : l.filter (fun x => !p x) = l := List.filter_eq_self.2 fun x hx => by
  have : p x = false := by
    rw [Bool.eq_false_iff]
    intro e
    have := List.any_eq_true.2 ⟨x, hx, e⟩
    rw [h] at this; cases this
  simp [this]
theorem take_set_snoc {m : List Fl} {i : Nat} {x : Fl} (hi : i < m.length) : (m.set i x).take (i + 1) = m.take i ++ [x] := by
  have h : (m.set i x)[i]? = some x := by simp [hi]
  rw [take_snoc h, List.take_set_of_le (Nat.le_refl i)]
theorem drop_set {m : List Fl} {i j : Nat} {x : Fl} (hij : i < j) : (m.set i x).drop j = m.drop j := List.drop_set_of_lt hij

set_option maxRecDepth 100000 in
set_option maxHeartbeats 4000000 in
theorem deleteF_any (w0 w : World) (B : Nat) (hb : Below B w0 w) (hB : B ≤ w.heap.size) (v : Value) (l : List Fl) (g : Nat) (c : Value) (p : Fl → Bool) (ho : w.ownsRow B 25 3 v l.length (l.flatMap cF)) (hs : Sized l) (hl : l.length ≤ 100000)
    (eg : ∀ args w, (callFunc g args).run Tryz.prog w = .ok (.enter g args) w) (hp : PB B w0 g c p) :
    Calls Tryz.prog 110 #[v, .func (.func g) #[] #[c]] w (KeptTo B w0 (l.filter fun x => !p x)) := by
  have R := Lib.hid (Reads.of_own cF_len ho)
  have S := Lib.hid (indexF_any w0 w B hb hB v l g c p R.out hs hl eg hp)
  have HP := Lib.hid hp
  have HS := Lib.hid hs
  have HO := Lib.hid ho
  obtain ⟨A, cap, rfl⟩ := own_form ho
  clear ho hp hs
  go_enter Tryz.func110, Tryz.ntmps110
  go_wp2_with fail
  refine S.out.mono ?_
  rintro e w1 ⟨n, rfl, hb1, hn⟩
  have B1 := hb.trans (hb1.mono hB)
  rcases hn with ⟨rfl, hn⟩ | ⟨i0, x0, rfl, hx0, hpx, hno⟩
  · have HN := Lib.hid hn
    clear hn
    go_wp2_with fail
    go_ret
    exact ⟨_, rfl, by rw [any_keep HN.out]; exact R.out.below hb1, B1⟩
  · have hi0 : i0 < l.length := (List.getElem?_eq_some_iff.1 hx0).1
    obtain ⟨gb, rfl, hgB⟩ : ∃ gb, A = some ⟨gb, 0, none⟩ ∧ B ≤ gb := by
      rcases HO.out.2 with ⟨_, h0⟩ | ⟨gb, cap', cur, hv, hgB, _⟩
      · omega
      · injection hv with e1; exact ⟨gb, e1, hgB⟩
    have K0 : Hid ((l.take (i0 + 1)).filter (fun x => !p x) = l.take i0) := Lib.hid (by rw [keep_snoc hx0, any_keep hno, hpx]; simp)
    have O1 : Hid (RowOwn B gb cap l.length l w1) := Lib.hid (own_keep HO.out hb1)
    have hm1 : ((i0 : Int) == -1) = false := by rw [beq_eq_false_iff_ne]; omega
    clear hx0 hpx hno S R HO
    go_wp2_with fail
    go_loopw [5, 6, 7] (fun s5 s6 _ wr => ∃ (i j : Nat) (m : List Fl), s5 = .int .i64 i ∧ s6 = .int .i64 j ∧ i < j ∧ j ≤ l.length ∧ Below B w0 wr ∧ B ≤ wr.heap.size ∧ Hid (m.length = l.length) ∧ Hid (RowOwn B gb cap l.length m wr) ∧ Hid (m.take i = (l.take j).filter (fun x => !p x)) ∧ Hid (m.drop j = l.drop j)) (fun _ s6 _ _ => l.length - (intOf s6).toNat)
    case atStart => exact ⟨i0, i0 + 1, l, rfl, by go_num, by omega, by omega, B1, by have := B1.size; have := hb1.size; omega, Lib.hid rfl, O1, Lib.hid K0.out.symm, Lib.hid rfl⟩
    case round =>
      obtain ⟨i, j, m, rfl, rfl, hij, hj, hbr, hBr, HM, OM, HT, HD⟩ := hrel
      by_cases hlt : j < l.length
      · obtain ⟨x, hx⟩ : ∃ x, l[j]? = some x := ⟨_, List.getElem?_eq_getElem hlt⟩
        have hxm : m[j]? = some x := by
          have h1 : (m.drop j)[0]? = (l.drop j)[0]? := by rw [HD.out]
          rw [List.getElem?_drop, List.getElem?_drop] at h1
          simpa [hx] using h1
        obtain ⟨c0, c1, c2⟩ := OM.out.cellAt hxm
        have HK := Lib.hid (keep_snoc (p := p) hx)
        have hsx := HS.out.at_ hx
        clear hx hxm
        obtain ⟨W2, hW2⟩ : ∃ W2, W2 = wr.alloc (.cells #[.string x.1, .int .i64 x.2.1, .string x.2.2] 25) := ⟨_, rfl⟩
        have b2 : Below wr.heap.size wr W2 := by rw [hW2]; exact (Below.refl _ _).alloc (Nat.le_refl _) _
        have BW2 : Below B w0 W2 := hbr.trans (b2.mono hBr)
        have hcall := HP.out W2 x BW2 hsx
        obtain ⟨q, hQ⟩ : ∃ q, q = wr.heap.size := ⟨_, rfl⟩
        have k2 : W2.heap[q]? = some (.cells #[.string x.1, .int .i64 x.2.1, .string x.2.2] 25 (0, 0)) := by rw [hW2, hQ]; exact heap_alloc_new wr _
        have hq2 : q < W2.heap.size := by rw [hW2, hQ]; simp
        have O2 := Lib.hid (OM.out.below b2)
        have hs2 : B ≤ W2.heap.size := Nat.le_trans hBr b2.size
        have HK2 := Lib.hid k2
        have HBW2 := Lib.hid BW2
        go_wp2_with fail
        rw [← hW2, ← hQ]
        clear hW2 hQ b2 BW2 k2 c0 c1 c2 hbr hBr OM
        cases hpx : p x with
        | true =>
          rw [hpx] at hcall
          have HPX := Lib.hid hpx
          clear hpx
          refine hcall.mono ?_
          rintro e w3 ⟨rfl, b3⟩
          go_wp2_with fail
          go_roundw
          case rel => exact ⟨i, j + 1, m, rfl, by go_num, by omega, by omega, HBW2.out.trans (b3.mono hs2), by have := b3.size; omega, HM, Lib.hid (O2.out.below b3), Lib.hid (by rw [HK.out, HPX.out, HT.out]; simp), Lib.hid (by rw [← List.drop_drop, HD.out, List.drop_drop])⟩
          case measure => simp [intOf]; omega
        | false =>
          rw [hpx] at hcall
          have HPX := Lib.hid hpx
          clear hpx
          refine hcall.mono ?_
          rintro e w3 ⟨rfl, b3⟩
          have k3 : w3.heap[q]? = some (.cells #[.string x.1, .int .i64 x.2.1, .string x.2.2] 25 (0, 0)) := (b3.block q hq2).trans HK2.out
          have y0 := cell_of_row w3 q 0 _ 25 (0, 0) k3
          have y1 := cell_of_row w3 q 1 _ 25 (0, 0) k3
          have y2 := cell_of_row w3 q 2 _ 25 (0, 0) k3
          have O3 := Lib.hid (O2.out.below b3)
          have him : i < m.length := by have := HM.out; omega
          obtain ⟨y, hy⟩ : ∃ y, m[i]? = some y := ⟨_, List.getElem?_eq_getElem him⟩
          obtain ⟨d0, d1, d2⟩ := O3.out.cellAt hy
          have f0 := O3.out.frozenAt (i * 3)
          have f1 := O3.out.frozenAt (i * 3 + 1)
          have f2 := O3.out.frozenAt (i * 3 + 2)
          have O4 := Lib.hid (O3.out.set HM.out i (by have := HM.out; omega) x)
          have hi1 : (i : Int) < (l.length : Int) := by omega
          have B3 := Lib.hid (HBW2.out.trans (b3.mono hs2))
          have hs3 : B ≤ w3.heap.size := by have := b3.size; omega
          have HIM := Lib.hid him
          clear hy k3 b3 hcall him
          go_wp2_with fail
          go_roundw
          case rel => exact ⟨i + 1, j + 1, m.set i x, by go_num, by go_num, by omega, by omega, (((B3.out.setCell (p := ⟨gb, i * 3, none⟩) hgB _).setCell (p := ⟨gb, i * 3 + 1, none⟩) hgB _).setCell (p := ⟨gb, i * 3 + 2, none⟩) hgB _), by simp; omega, Lib.hid (by rw [List.length_set]; exact HM.out), O4, Lib.hid (by rw [take_set_snoc HIM.out, HK.out, HPX.out, HT.out]; simp), Lib.hid (by rw [drop_set (by omega), ← List.drop_drop, HD.out, List.drop_drop])⟩
          case measure => simp [intOf]; omega
      · obtain rfl : j = l.length := by omega
        have hcap : l.length ≤ cap := (own_len OM.out).2.1
        have hcm : cap ≤ 9223372036854775807 := by have := (own_len OM.out).2.2; unfold maxLen at this; omega
        have hci : ¬ cap = i := by omega
        have hic : (i : Int) ≤ (cap : Int) := by omega
        have hi1 : (i : Int) ≤ (l.length : Int) := by omega
        have hlc : (l.length : Int) ≤ (cap : Int) := by omega
        have hcl : ∀ ty c, (Builtin.clear_ #[23] ty #[.slice (some ⟨gb, i * 3, none⟩) (l.length - i) c]).run Tryz.prog wr = .ok (.tuple #[]) (wr.setCells gb (i * 3) (zs (l.length - i))) := fun ty c =>
          run_clear_files wr ty gb (i * 3) (l.length - i) c (by omega) (fun t ht => OM.out.isCell _ (by omega)) (fun t _ => OM.out.frozenAt _)
        have HR := Lib.hid (reads_front OM.out HM.out i (by omega) (l.length - i))
        rw [HT.out, List.take_length] at HR
        have HB2 := Lib.hid (below_setCells hgB (zs (l.length - i)) (i * 3) wr hbr)
        clear hbr
        go_wp2_with fail
        go_ret
        exact ⟨_, rfl, HR.out, HB2.out⟩
end Go.Proofs.YtplleaimmmanhaaGreatDoor
namespace Go.Proofs.YtplleaimmmanhaaGreatDoor
open Go Go.RowKit

def clearF (l : List Fl) (p : ByteArray) : List Fl := l.filter fun x => !cls x.1.data.toList p.data.toList
theorem clear_rise {l : List Fl} (hr : RiseF l) (p : ByteArray) : RiseF (clearF l p) := hr.filter _
theorem cut_eq (l : List Fl) (p : ByteArray) : (l.filter fun x => !decide (x.1 = p)) = cutF l p := by unfold cutF; congr 1; funext x; simp

def ReadTo (l : List Fl) (w : World) (e : Ending) (w' : World) : Prop := KeptTo w.heap.size w l e w'

set_option maxHeartbeats 1000000 in
theorem withoutF_any (w0 w : World) (B : Nat) (hb : Below B w0 w) (hB : B ≤ w.heap.size) (v : Value) (l : List Fl) (g : Nat) (c : Value) (p : Fl → Bool) (h : Reads 3 cF w v l) (hs : Sized l) (hl : l.length ≤ 100000)
    (eg : ∀ args w, (callFunc g args).run Tryz.prog w = .ok (.enter g args) w) (hp : PB B w0 g c p) :
    Calls Tryz.prog 54 #[v, .func (.func g) #[] #[c]] w (KeptTo B w0 (l.filter fun x => !p x)) := by
  have CL := Lib.hid (cloneF_any w v l h hl)
  have DL := Lib.hid fun W (hW : Below B w0 W) (hBW : B ≤ W.heap.size) u ho => deleteF_any w0 W B hW hBW u l g c p ho hs hl eg hp
  clear h hs hp
  go_enter Tryz.func54, Tryz.ntmps54
  go_wp2_with fail
  refine CL.out.mono ?_
  rintro e w1 ⟨u, rfl, ho, hb1⟩
  have HO := Lib.hid (own_base ho hB)
  have HB1 := Lib.hid (hb.trans (hb1.mono hB))
  have hs1 : B ≤ w1.heap.size := by have := hb1.size; omega
  clear ho hb1
  go_wp2_with fail
  refine (DL.out _ HB1.out hs1 _ HO.out).mono ?_
  rintro e w2 ⟨u2, rfl, hr2, hb2⟩
  have HR := Lib.hid hr2
  have HB2 := Lib.hid hb2
  clear hr2 hb2
  go_wp2_with fail
  go_ret
  exact ⟨_, rfl, HR.out, HB2.out⟩

set_option maxHeartbeats 1000000 in
theorem cut_any (w : World) (v : Value) (l : List Fl) (q : ByteArray) (h : Reads 3 cF w v l) (hs : Sized l) (hl : l.length ≤ 100000) :
    Calls Tryz.prog 19 #[v, .string q] w (ReadTo (cutF l q) w) := by
  obtain ⟨W1, hW1⟩ : ∃ W1, W1 = w.alloc (.cells #[.string q] 9) := ⟨_, rfl⟩
  have B1 : Below w.heap.size w W1 := by rw [hW1]; exact (Below.refl _ _).alloc (Nat.le_refl _) _
  have K1 : W1.cell? ⟨w.heap.size, 0, none⟩ = some (.string q) := by rw [hW1]; exact (cell_new_l w _ _).1
  have hsz : W1.heap.size = w.heap.size + 1 := by rw [hW1]; simp
  have WO := Lib.hid (withoutF_any W1 W1 W1.heap.size (Below.refl _ _) (Nat.le_refl _) v l 55 (.pointer (some ⟨w.heap.size, 0, none⟩)) (fun x => decide (x.1 = q)) (h.below B1) hs hl enters_cut (cut_pred W1 _ w.heap.size q K1 (by omega) (Nat.le_refl _)))
  rw [cut_eq] at WO
  have HB1 := Lib.hid B1
  have HW := Lib.hid hsz
  obtain ⟨A, c, rfl⟩ := h.form
  clear h hs K1 B1 hsz
  go_enter Tryz.func19, Tryz.ntmps19
  go_wp2_with fail
  rw [← hW1]
  clear hW1
  refine WO.out.mono ?_
  rintro e w2 ⟨u2, rfl, hr2, hb2⟩
  have HR := Lib.hid hr2
  have HB2 := Lib.hid (HB1.out.trans (hb2.mono HB1.out.size))
  clear hr2 hb2
  go_wp2_with fail
  go_ret
  exact ⟨_, rfl, HR.out, HB2.out⟩

set_option maxHeartbeats 1000000 in
theorem clear_any (w : World) (v : Value) (l : List Fl) (q : ByteArray) (h : Reads 3 cF w v l) (hs : Sized l) (hq : q.size ≤ 1000000) (hl : l.length ≤ 100000) :
    Calls Tryz.prog 21 #[v, .string q] w (ReadTo (clearF l q) w) := by
  obtain ⟨W1, hW1⟩ : ∃ W1, W1 = w.alloc (.cells #[.string q] 9) := ⟨_, rfl⟩
  have B1 : Below w.heap.size w W1 := by rw [hW1]; exact (Below.refl _ _).alloc (Nat.le_refl _) _
  have K1 : W1.cell? ⟨w.heap.size, 0, none⟩ = some (.string q) := by rw [hW1]; exact (cell_new_l w _ _).1
  have hsz : W1.heap.size = w.heap.size + 1 := by rw [hW1]; simp
  have WO := Lib.hid (withoutF_any W1 W1 W1.heap.size (Below.refl _ _) (Nat.le_refl _) v l 56 (.pointer (some ⟨w.heap.size, 0, none⟩)) (fun x => cls x.1.data.toList q.data.toList) (h.below B1) hs hl enters_clear (clear_pred W1 _ w.heap.size q hq K1 (by omega) (Nat.le_refl _)))
  have HB1 := Lib.hid B1
  have HW := Lib.hid hsz
  obtain ⟨A, c, rfl⟩ := h.form
  clear h hs K1 B1 hsz
  go_enter Tryz.func21, Tryz.ntmps21
  go_wp2_with fail
  rw [← hW1]
  clear hW1
  refine WO.out.mono ?_
  rintro e w2 ⟨u2, rfl, hr2, hb2⟩
  have HR := Lib.hid hr2
  have HB2 := Lib.hid (HB1.out.trans (hb2.mono HB1.out.size))
  clear hr2 hb2
  go_wp2_with fail
  go_ret
  exact ⟨_, rfl, HR.out, HB2.out⟩
end Go.Proofs.YtplleaimmmanhaaGreatDoor
namespace Go.Proofs.YtplleaimmmanhaaGreatDoor
open Go Go.RowKit

theorem cls_symm (a b : List UInt8) : cls a b = cls b a := by
  unfold cls
  cases h1 : (a == []) <;> cases h2 : (b == []) <;> simp [Bool.or_comm]
theorem cls_self (a : List UInt8) : cls a a = false := by
  unfold cls
  cases h : (a == []) with
  | true => rfl
  | false =>
    have h0 : a ≠ [] := by simpa using h
    rw [und_short h0 (by omega)]
    rfl
def ApartF (l : List Fl) : Prop := ∀ x ∈ l, ∀ y ∈ l, cls x.1.data.toList y.1.data.toList = false
theorem clashF_iff {a : List Fl} {p : ByteArray} : clashF a p = false ↔ ∀ y ∈ a, cls y.1.data.toList p.data.toList = false := by
  unfold clashF
  rw [List.any_eq_false]
  constructor
  · intro h y hy
    have := h y hy
    simpa using this
  · intro h y hy
    rw [h y hy]; simp
theorem chkF_apart {l : List Fl} (h : chkF l = none) : ApartF l := fun x hx y hy => by
  obtain ⟨i, hi, rfl⟩ := List.getElem_of_mem hx
  obtain ⟨j, hj, rfl⟩ := List.getElem_of_mem hy
  have key : ∀ (i j : Nat) (hi : i < l.length) (hj : j < l.length), i < j → cls l[i].1.data.toList l[j].1.data.toList = false := fun i j hi hj hij => by
    have h1 := refF_clash (chkF_at h (List.getElem?_eq_getElem hj))
    refine clashF_iff.1 h1 l[i] (List.mem_of_getElem? (i := i) ?_)
    rw [List.getElem?_take, if_pos hij, List.getElem?_eq_getElem hi]
  rcases Nat.lt_trichotomy i j with hij | hij | hij
  · exact key i j hi hj hij
  · subst hij; exact cls_self _
  · rw [cls_symm]; exact key j i hj hi hij
theorem chkF_cause {l : List Fl} (h : chkF l = none) : ∀ x ∈ l, causeF x = 0 := fun x hx => by
  obtain ⟨i, hi, rfl⟩ := List.getElem_of_mem hx
  exact refF_cause (chkF_at h (List.getElem?_eq_getElem hi))
theorem chkF_of {l : List Fl} (hl : l.length ≤ 64) (hr : RiseF l) (hc : ∀ x ∈ l, causeF x = 0) (ha : ApartF l) : chkF l = none := by
  refine chkF_good (by omega) fun i f hf => refF_zero (hc f (List.mem_of_getElem? hf)) ?_ ?_
  · unfold lateF
    rw [List.getLast?_take]
    by_cases hi : i = 0
    · rw [if_pos hi]
    · rw [if_neg hi]
      have hil := (List.getElem?_eq_some_iff.1 hf).1
      obtain ⟨g, hg⟩ : ∃ g, l[i - 1]? = some g := ⟨_, List.getElem?_eq_getElem (by omega)⟩
      have := rise_at hr hg (by rw [Nat.sub_add_cancel (by omega)]; exact hf)
      rw [hg]
      show decide (0 ≤ cb g.1 f.1) = false
      exact decide_eq_false (by omega)
  · exact clashF_iff.2 fun y hy => ha y (List.mem_of_mem_take hy) f (List.mem_of_getElem? hf)
/-- A tree cleared of what clashes, with the file. -/
def clrPut (l : List Fl) (f : Fl) : List Fl := putF (clearF l f.1) f
theorem clrPut_mem {l : List Fl} {f x : Fl} (h : x ∈ clrPut l f) : x = f ∨ (x ∈ l ∧ cls x.1.data.toList f.1.data.toList = false) := by
  rcases put_mem.1 h with h | ⟨h, _⟩
  · exact .inl h
  · unfold clearF at h
    rw [List.mem_filter] at h
    exact .inr ⟨h.1, by simpa using h.2⟩
theorem clrPut_rise {l : List Fl} (hr : RiseF l) (f : Fl) : RiseF (clrPut l f) := put_rise (clear_rise hr _) f
theorem clrPut_check {l : List Fl} {f : Fl} (h : chkF l = none) (hf : causeF f = 0) (hl : (clrPut l f).length ≤ 64) : chkF (clrPut l f) = none := by
  refine chkF_of hl (clrPut_rise (chkF_rise h) f) (fun x hx => ?_) fun x hx y hy => ?_
  · rcases clrPut_mem hx with rfl | ⟨hx, _⟩
    · exact hf
    · exact chkF_cause h x hx
  · rcases clrPut_mem hx with rfl | ⟨hx, hxf⟩
    · rcases clrPut_mem hy with rfl | ⟨_, hyf⟩
      · exact cls_self _
      · rw [cls_symm]; exact hyf
    · rcases clrPut_mem hy with rfl | ⟨hy, _⟩
      · exact hxf
      · exact chkF_apart h x hx y hy
theorem clrPut_get {l : List Fl} (hr : RiseF l) (f : Fl) : getF (clrPut l f) f.1 = some f := by
  unfold clrPut
  rw [get_put (clear_rise hr _), if_pos rfl]
theorem clrPut_stays {l : List Fl} (hr : RiseF l) {f x : Fl} (hx : x ∈ l) : (getF (clrPut l f) x.1).isSome = !cls x.1.data.toList f.1.data.toList := by
  unfold clrPut
  rw [get_put (clear_rise hr _)]
  by_cases h : x.1 = f.1
  · rw [if_pos h, h, cls_self]; rfl
  · rw [if_neg h]
    cases hc : cls x.1.data.toList f.1.data.toList with
    | false =>
      have hm : x ∈ clearF l f.1 := List.mem_filter.2 ⟨hx, by simp [hc]⟩
      rw [mem_getF (clear_rise hr _) hm]; rfl
    | true =>
      have : getF (clearF l f.1) x.1 = none := getF_none fun hm => by
        obtain ⟨y, hy, he⟩ := List.mem_map.1 hm
        have h2 := (List.mem_filter.1 hy).2
        rw [he, hc] at h2
        cases h2
      rw [this]; rfl
theorem clrPut_len (l : List Fl) (f : Fl) : (clrPut l f).length ≤ l.length + 1 := Nat.le_trans (put_len _ _) (by have := List.length_filter_le (fun x : Fl => !cls x.1.data.toList f.1.data.toList) l; unfold clearF; omega)
end Go.Proofs.YtplleaimmmanhaaGreatDoor
namespace Go.Proofs.YtplleaimmmanhaaGreatDoor
open Go.RowKit

theorem refFileInfo : (Tryz.prog.info? 40).map (fun i => (i.zero, i.size, i.bytes)) = some (some (.agg #[.string ⟨#[]⟩, .int .i64 0, .string ⟨#[]⟩]), 3, 40) := by kernel_rfl
def FilCells (ad : Addr) (i : Nat) (p : ByteArray) (m : Int) (d : ByteArray) (W : World) : Prop :=
  W.cell? (ad.add (i * 3)) = some (.string p) ∧ W.cell? ⟨(ad.add (i * 3)).block, (ad.add (i * 3)).off + 1, none⟩ = some (.int .i64 m) ∧ W.cell? ⟨(ad.add (i * 3)).block, (ad.add (i * 3)).off + 2, none⟩ = some (.string d)

set_option maxHeartbeats 2000000 in
theorem lawOf_any (w : World) (v : Value) (l : List Fl) (h : Reads 3 cF w v l) (hl : l.length ≤ 100000) :
    Calls Tryz.prog 9 #[v] w (OwnTo 40 3 cF l w) := by
  obtain ⟨A, c, rfl⟩ := h.form
  have hn := h.len
  have hnm : l.length ≤ 9223372036854775807 := by omega
  have HO := Lib.hid h
  obtain ⟨i0, hi, hz0, hz1, hz2⟩ := info_parts refFileInfo
  clear h hn
  go_enter Tryz.func9, Tryz.ntmps9
  go_wp2
  go_loopw [3, 4] (fun s3 s4 wr => ∃ i : Nat, i ≤ l.length ∧ s4 = .int .i64 i ∧ Hid (wr.ownsRow w.heap.size 40 3 s3 i ((l.take i).flatMap cF)) ∧ Below w.heap.size w wr) (fun _ s4 _ => l.length - (intOf s4).toNat)
  case atStart => exact ⟨0, Nat.zero_le _, rfl, Lib.hid (World.ownsRow_nil _ _ _ _), Below.refl _ _⟩
  case round =>
    obtain ⟨i, hil, rfl, hown, hb⟩ := hrel
    by_cases hlt : i < l.length
    · obtain ⟨f, hf⟩ : ∃ f, l[i]? = some f := ⟨_, List.getElem?_eq_getElem hlt⟩
      obtain ⟨ad, rfl, c0, c1, c2⟩ := Fils.at_ HO.out hf
      obtain ⟨p, m, d⟩ := f
      have HF := Lib.hid hf
      have ZZ := Lib.hid fun W (hW : Below w.heap.size w W) => (⟨(hW.cell (World.block_lt_of_cell? _ _ c0)).trans c0, (hW.cell (World.block_lt_of_cell? _ _ c1)).trans c1, (hW.cell (World.block_lt_of_cell? _ _ c2)).trans c2⟩ : FilCells ad i p m d W)
      unfold FilCells at ZZ
      have z0 := ZZ.out _ hb.drew
      have i0' : (0 : Int) ≤ (i : Int) := Int.natCast_nonneg _
      have hi1 : (i : Int) < (l.length : Int) := by omega
      have hsz := hb.size
      clear hf c0 c1 c2
      go_wp2
      go_region_held3 (fun w' => w'.cell? (ad.add (i * 3)) = some (.string p) ∧ w'.cell? ⟨(ad.add (i * 3)).block, (ad.add (i * 3)).off + 1, none⟩ = some (.int .i64 m) ∧ w'.cell? ⟨(ad.add (i * 3)).block, (ad.add (i * 3)).off + 2, none⟩ = some (.string d))
        (first | exact z0 | exact ZZ.out _ (hb.drew.alloc hsz _) | exact z5)
        ((refine step_append_lies _ (by rfl) _ _ 28 (by rfl) w.heap.size 40 i0 (.agg #[.string ⟨#[]⟩, .int .i64 0, .string ⟨#[]⟩]) 3 40 Tryz.underlying28 hi hz0 hz1 hz2 rfl (by omega) _ i _ (by rfl) (hown.out.drew.alloc _)
            ⟨wr.heap.size, 0, none⟩ 1 1 [.string p, .int .i64 m, .string d] (by rfl) (by rfl) (World.news_of_block (cs := #[.string p, .int .i64 m, .string d]) (t := 40) (fr := (0, 0)) (heap_alloc_new wr.drew _)) (by simp [Value.oneCell'])
            (by omega) (by unfold maxLen; omega) (by omega) (by simp; omega) (wr.heap.size + 1) (by simp) ?_; intro gg cap w5 hown5 hg5 hat hlt5; have hb5 := (hb.drew.alloc hsz (.cells #[.string p, .int .i64 m, .string d] 40)).grown hg5 (by simp; omega) (fun k hk => (hown.out.lt k hk).1); have z5 := ZZ.out _ hb5))
      go_wp2
      go_roundw
      case rel => exact ⟨i + 1, by omega, by go_num, Lib.hid (by rw [take_snoc HF.out, flat_snoc]; exact hown5), hb5⟩
      case measure => simp [intOf]; omega
    · obtain rfl : i = l.length := by omega
      have HL : Hid ((l.take l.length).flatMap cF = l.flatMap cF) := Lib.hid (by rw [List.take_length])
      go_wp2
      go_ret
      exact ⟨_, rfl, by rw [← HL.out]; exact hown.out, hb⟩
end Go.Proofs.YtplleaimmmanhaaGreatDoor
namespace Go.Proofs.YtplleaimmmanhaaGreatDoor
open Go.RowKit

/-- The files of trees, one after the other. -/
def catR (rs : List (Value × List Fl)) : List Fl := rs.flatMap (·.2)
theorem catR_snoc (rs : List (Value × List Fl)) (r : Value × List Fl) : catR (rs ++ [r]) = catR rs ++ r.2 := by simp [catR]
theorem catR_take (rs : List (Value × List Fl)) (i : Nat) : (catR (rs.take i)).length ≤ (catR rs).length := by
  conv => rhs; rw [← List.take_append_drop i rs]
  unfold catR
  rw [List.flatMap_append, List.length_append]
  omega

set_option maxRecDepth 100000 in
set_option maxHeartbeats 4000000 in
theorem concat_any (w : World) (ad : Addr) (c : Nat) (rs : List (Value × List Fl)) (h : Trees w ad rs) (hl : rs.length ≤ 1000) (hp : (catR rs).length ≤ 100000) :
    Calls Tryz.prog 53 #[.slice (some ad) rs.length c] w (OwnTo 25 3 cF (catR rs) w) := by
  have hnm : rs.length ≤ 9223372036854775807 := by omega
  have HO := Lib.hid h
  have HP := Lib.hid hp
  clear h hp
  go_enter Tryz.func53, Tryz.ntmps53
  go_wp2
  go_loopw [3, 11] (fun s3 s11 wr => ∃ (i m : Nat), i ≤ rs.length ∧ s11 = .int .i64 i ∧ s3 = .int .i64 m ∧ Hid (m = (catR (rs.take i)).length) ∧ SameG wr w) (fun _ s11 _ => rs.length - (intOf s11).toNat)
  case atStart => exact ⟨0, 0, Nat.zero_le _, rfl, rfl, Lib.hid rfl, rfl⟩
  case round =>
    obtain ⟨i, m, hil, rfl, rfl, hm, hw⟩ := hrel
    unfold SameG at hw
    subst hw
    by_cases hlt : i < rs.length
    · obtain ⟨r, hr⟩ : ∃ r, rs[i]? = some r := ⟨_, List.getElem?_eq_getElem hlt⟩
      have HT := Lib.hid (show (catR (rs.take (i + 1))).length = (catR (rs.take i)).length + r.2.length by rw [take_snoc hr, catR_snoc, List.length_append])
      have hle := catR_take rs (i + 1)
      rw [HT.out, ← hm.out] at hle
      have c0 := (HO.out i r hr).1
      have hrd := (HO.out i r hr).2
      obtain ⟨rv, l⟩ := r
      obtain ⟨B, d, hrv⟩ := hrd.form
      simp only at hrv hle
      subst hrv
      have HPm := HP.out
      have i0' : (0 : Int) ≤ (i : Int) := Int.natCast_nonneg _
      have hi1 : (i : Int) < (rs.length : Int) := by omega
      have hm0 : ¬ ((m : Int) + (l.length : Int) < 0) := by omega
      have hlm : l.length ≤ 9223372036854775807 := by omega
      have hwr : IntKind.i64.wrap ((m : Int) + (l.length : Int)) = (m : Int) + (l.length : Int) := by rw [IntKind.wrap_i64] <;> omega
      clear hr hrd hle HPm
      go_wp2
      go_roundw
      case rel => exact ⟨i + 1, m + l.length, by omega, by go_num, by rw [Int.natCast_add], Lib.hid (by rw [HT.out, hm.out]), rfl⟩
      case measure => simp [intOf]; omega
    · obtain rfl : i = rs.length := by omega
      have hmn : m ≤ 100000 := by rw [hm.out, List.take_length]; exact HP.out
      have GR := Lib.hid (grow_any wr m (by omega))
      clear hm
      go_wp2_with fail
      refine GR.out.mono ?_
      rintro e w1 ⟨A1, c1, rfl, o1, b1⟩
      have O1 := Lib.hid o1
      have B1 := b1
      obtain ⟨wo, hwo⟩ : ∃ wo, wo = wr := ⟨_, rfl⟩
      subst hwo
      clear o1 b1 GR hmn
      go_wp2_with fail
      go_loopw [6, 27] (fun s6 s27 wq => ∃ (k : Nat) (acc : List Fl), k ≤ rs.length ∧ s27 = .int .i64 k ∧ Hid (acc = catR (rs.take k)) ∧ Hid (wq.ownsRow wo.heap.size 25 3 s6 acc.length (acc.flatMap cF)) ∧ Below wo.heap.size wo wq) (fun _ s27 _ => rs.length - (intOf s27).toNat)
      case atStart => exact ⟨0, [], Nat.zero_le _, rfl, Lib.hid rfl, Lib.hid O1.out, B1⟩
      case round =>
        obtain ⟨k, acc, hk, rfl, hacc, hown, hb⟩ := hrel
        by_cases hkt : k < rs.length
        · obtain ⟨r, hr⟩ : ∃ r, rs[k]? = some r := ⟨_, List.getElem?_eq_getElem hkt⟩
          have HT := Lib.hid (show catR (rs.take (k + 1)) = acc ++ r.2 by rw [take_snoc hr, catR_snoc, hacc.out])
          have hle := catR_take rs (k + 1)
          rw [HT.out, List.length_append] at hle
          have c0 := ((HO.out.below hb) k r hr).1
          have hrd := ((HO.out.below hb) k r hr).2
          obtain ⟨rv, l⟩ := r
          obtain ⟨B, d, hrv⟩ := hrd.form
          simp only at hrv hle HT
          subst hrv
          have HR := Lib.hid hrd
          have HPm := HP.out
          have k0' : (0 : Int) ≤ (k : Int) := Int.natCast_nonneg _
          have hk1 : (k : Int) < (rs.length : Int) := by omega
          have hsz := hb.size
          have hle2 : acc.length + l.length ≤ 1000000 := by omega
          clear hr hrd hle HPm
          go_wp2_with (at_builtin; refine wpList_append_files _ rfl _ _ rfl wo.heap.size _ acc l rfl hown.out _ _ _ rfl HR.out hle2 hsz ?_; intro A' c' w5 own5 b5 hg5)
          have HB5 := hb.trans b5
          rw [List.length_append] at own5
          clear b5 hg5
          go_roundw
          case rel => exact ⟨k + 1, acc ++ l, by omega, by go_num, Lib.hid HT.out.symm, Lib.hid (by rw [List.length_append]; exact own5), HB5⟩
          case measure => simp [intOf]; omega
        · obtain rfl : k = rs.length := by omega
          rw [List.take_length] at hacc
          go_wp2
          go_ret
          exact ⟨_, rfl, by rw [← hacc.out]; exact hown.out, hb⟩
end Go.Proofs.YtplleaimmmanhaaGreatDoor
namespace Go.Proofs.YtplleaimmmanhaaGreatDoor
open Go.RowKit

section
variable {α : Type} {k : Nat} {enc : α → List Value} {w : World} {A : Option Addr} {n c : Nat} {l : List α}
theorem Reads.front (h : Reads k enc w (.slice A n c) l) {i : Nat} (hi : i ≤ n) : Reads k enc w (.slice A i c) (l.take i) := by
  obtain ⟨hn, hnc, hcm⟩ := h.len
  obtain ⟨A', c', hv, h1, h2, h3, h4⟩ := h
  injection hv with e1 e2 e3
  subst e1; subst e3
  refine ⟨A, c, by rw [List.length_take, Nat.min_eq_left (by omega)], by rw [List.length_take]; omega, hcm, h3, fun ad ha j x hx => h4 ad ha j x ?_⟩
  rw [List.getElem?_take] at hx
  split at hx
  · exact hx
  · cases hx
theorem Reads.cut (h : Reads k enc w (.slice A n c) l) {i : Nat} (hi : i ≤ n) : Reads k enc w (.slice (if c = i then A else A.map (·.add (i * k))) (n - i) (c - i)) (l.drop i) := by
  obtain ⟨hn, hnc, hcm⟩ := h.len
  obtain ⟨A', c', hv, h1, h2, h3, h4⟩ := h
  injection hv with e1 e2 e3
  subst e1; subst e3
  refine ⟨_, c - i, by rw [List.length_drop, hn], by rw [List.length_drop]; omega, by omega, ?_, ?_⟩
  · intro hA
    by_cases hc : c = i
    · omega
    · rw [if_neg hc] at hA
      have : A = none := by cases A with | none => rfl | some a => simp at hA
      have := h3 this
      omega
  · intro ad ha j x hx u v hv
    rw [List.getElem?_drop] at hx
    have hj := (List.getElem?_eq_some_iff.1 hx).1
    by_cases hc : c = i
    · omega
    · rw [if_neg hc] at ha
      cases A with
      | none => simp at ha
      | some a =>
        simp at ha
        subst ha
        have := h4 a rfl (i + j) x hx u v hv
        rw [adr_flat] at this ⊢
        have e : (a.add (i * k)).add (j * k + u) = a.add ((i + j) * k + u) := by
          rw [Nat.add_mul, Nat.add_assoc]
          generalize i * k = p
          generalize j * k + u = q
          unfold Addr.add
          by_cases hp : p = 0
          · subst hp; simp
          · by_cases hq : q = 0
            · subst hq; simp [hp]
            · simp [hp, hq, Nat.add_assoc]
        rw [e]
        exact this
end

set_option maxRecDepth 100000 in
set_option maxHeartbeats 4000000 in
theorem put_core (w2 : World) (A : Option Addr) (c : Nat) (l : List Fl) (p d : ByteArray) (m : Int) (i j : Nat) (R : Reads 3 cF w2 (.slice A l.length c) l) (hij : i ≤ j) (hj : j ≤ l.length) (hl : l.length ≤ 10000) :
    ∀ W, (∀ a, W.cell? a = ((w2.alloc (.cells #[.string p, .int .i64 m, .string d] 25)).alloc (.cells #[.slice A i c, .slice (some ⟨w2.heap.size, 0, none⟩) 1 1, .slice (if c = j then A else A.map (·.add (j * 3))) (l.length - j) (c - j)] 23)).cell? a) →
      Calls Tryz.prog 53 #[.slice (some ⟨w2.heap.size + 1, 0, none⟩) 3 3] W (OwnTo 25 3 cF (l.take i ++ (p, m, d) :: l.drop j) W) := fun W hW => by
  obtain ⟨hn, hnc, hcm⟩ := R.len
  have k2 := heap_alloc2_new w2 (.cells #[.string p, .int .i64 m, .string d] 25) (.cells #[.slice A i c, .slice (some ⟨w2.heap.size, 0, none⟩) 1 1, .slice (if c = j then A else A.map (·.add (j * 3))) (l.length - j) (c - j)] 23)
  have k1 := heap_alloc2_old w2 (.cells #[.string p, .int .i64 m, .string d] 25) (.cells #[.slice A i c, .slice (some ⟨w2.heap.size, 0, none⟩) 1 1, .slice (if c = j then A else A.map (·.add (j * 3))) (l.length - j) (c - j)] 23)
  have keep : ∀ {l' : List Fl} {v : Value}, Reads 3 cF w2 v l' → Reads 3 cF W v l' := fun h => ((h.alloc _).alloc _).keep fun q _ => hW q
  have hone : Reads 3 cF W (.slice (some ⟨w2.heap.size, 0, none⟩) 1 1) [(p, m, d)] := by
    refine Reads.keep (w := (w2.alloc _).alloc _) ?_ fun q _ => hW q
    refine ⟨some ⟨w2.heap.size, 0, none⟩, 1, rfl, Nat.le_refl _, by unfold maxLen; omega, (fun h => by cases h), fun ad ha t x hx u v hv => ?_⟩
    obtain rfl := Option.some.inj ha
    have ht : t = 0 := by have := (List.getElem?_eq_some_iff.1 hx).1; simp at this; omega
    subst ht
    obtain rfl := Option.some.inj hx
    rw [adr_flat, add_zero_addr, cell_of_row _ _ _ _ _ _ k1]
    simpa [cF] using hv
  have T : Trees W ⟨w2.heap.size + 1, 0, none⟩ [(.slice A i c, l.take i), (.slice (some ⟨w2.heap.size, 0, none⟩) 1 1, [(p, m, d)]), (.slice (if c = j then A else A.map (·.add (j * 3))) (l.length - j) (c - j), l.drop j)] := fun t r hr => by
    match t, hr with
    | 0, hr => obtain rfl := Option.some.inj hr; exact ⟨by rw [hW, add_zero_addr, cell_of_row _ _ _ _ _ _ k2]; rfl, keep (R.front (by omega))⟩
    | 1, hr => obtain rfl := Option.some.inj hr; exact ⟨by rw [hW, add_zero_addr, cell_of_row _ _ _ _ _ _ k2]; rfl, hone⟩
    | 2, hr => obtain rfl := Option.some.inj hr; exact ⟨by rw [hW, add_zero_addr, cell_of_row _ _ _ _ _ _ k2]; rfl, keep (R.cut hj)⟩
    | t + 3, hr => simp at hr
  have := concat_any W ⟨w2.heap.size + 1, 0, none⟩ 3 _ T (by simp) (by simp [catR]; omega)
  simpa [catR] using this
end Go.Proofs.YtplleaimmmanhaaGreatDoor
namespace Go.Proofs.YtplleaimmmanhaaGreatDoor
open Go Go.RowKit

def bFile : ByteArray := ⟨#[102, 105, 108, 101]⟩
def FaultOf (F : Nat) (p : ByteArray) (n e : Int) (w : World) : Prop := w.heap[F]? = some (.cells #[.string p, .int .i64 n, .iface 88 (.int .i64 e)] 93 (0, 0))
/-- What a check answers: nothing, or a Fault of its own. -/
def FaultTo (p : ByteArray) (o : Option (Nat × Int)) (w : World) (e : Ending) (w' : World) : Prop :=
  (o = none ∧ e = .returned .nilIface ∧ Below w.heap.size w w') ∨ ∃ (i : Nat) (k : Int) (F : Nat), o = some (i, k) ∧ e = .returned (.iface 89 (.pointer (some ⟨F, 0, none⟩))) ∧ w.heap.size ≤ F ∧ FaultOf F p i k w' ∧ Below w.heap.size w w'
def SizedD (l : List Fl) : Prop := ∀ x ∈ l, x.1.size ≤ 1000000 ∧ x.2.2.size ≤ 1000000
theorem SizedD.paths {l : List Fl} (h : SizedD l) : Sized l := fun x hx => (h x hx).1
theorem SizedD.at_ {l : List Fl} (h : SizedD l) {i : Nat} {x : Fl} (hx : l[i]? = some x) : x.1.size ≤ 1000000 ∧ x.2.2.size ≤ 1000000 := h x (List.mem_of_getElem? hx)
theorem SizedD.take {l : List Fl} (h : SizedD l) (k : Nat) : SizedD (l.take k) := fun x hx => h x (List.mem_of_mem_take hx)

set_option maxRecDepth 100000 in
set_option maxHeartbeats 4000000 in
theorem checkF_any (w : World) (v : Value) (l : List Fl) (h : Reads 3 cF w v l) (hs : SizedD l) (hl : l.length ≤ 100000) :
    Calls Tryz.prog 11 #[v] w (FaultTo bFile (chkF l) w) := by
  obtain ⟨A, c, rfl⟩ := h.form
  have hlen := h.len
  have HO := Lib.hid h
  have HS := Lib.hid hs
  have hcm : c ≤ 9223372036854775807 := by have := hlen.2.2; unfold maxLen at this; omega
  have hlc : l.length ≤ c := hlen.2.1
  clear h hs hlen
  by_cases hlong : 64 < l.length
  · have HV := Lib.hid (chkF_long hlong)
    have hli : (64 : Int) < (l.length : Int) := by omega
    clear hlong
    go_enter Tryz.func11, Tryz.ntmps11
    go_wp2_with fail
    go_ret
    exact .inr ⟨64, 4, w.heap.size, HV.out, rfl, Nat.le_refl _, heap_alloc_new w _, (Below.refl _ _).alloc (Nat.le_refl _) _⟩
  · have hli : ¬ (64 : Int) < (l.length : Int) := by omega
    have HL := Lib.hid hlong
    clear hlong
    go_enter Tryz.func11, Tryz.ntmps11
    go_wp2_with fail
    go_loopw [3, 4, 5, 15] (fun _ _ _ s15 wr => ∃ k : Nat, k ≤ l.length ∧ s15 = .int .i64 k ∧ Below w.heap.size w wr ∧ Hid (∀ j g, j < k → l[j]? = some g → refF (l.take j) g = 0)) (fun _ _ _ s15 _ => l.length - (intOf s15).toNat)
    case atStart => exact ⟨0, Nat.zero_le _, rfl, Below.refl _ _, Lib.hid (fun j _ hj => absurd hj (Nat.not_lt_zero _))⟩
    case round =>
      obtain ⟨k, hk, rfl, hb1, I⟩ := hrel
      by_cases hlt : k < l.length
      · obtain ⟨x, hx⟩ : ∃ x, l[k]? = some x := ⟨_, List.getElem?_eq_getElem hlt⟩
        obtain ⟨ad, rfl, c0, c1, c2⟩ := Fils.at_ (HO.out.below hb1) hx
        obtain ⟨W2, hW2⟩ : ∃ W2, W2 = wr.alloc (.cells #[.string x.1, .int .i64 x.2.1, .string x.2.2] 25) := ⟨_, rfl⟩
        have b2 : Below wr.heap.size wr W2 := by rw [hW2]; exact (Below.refl _ _).alloc (Nat.le_refl _) _
        have BW2 : Below w.heap.size w W2 := hb1.trans (b2.mono hb1.size)
        obtain ⟨q, hQ⟩ : ∃ q, q = wr.heap.size := ⟨_, rfl⟩
        have k2 : W2.heap[q]? = some (.cells #[.string x.1, .int .i64 x.2.1, .string x.2.2] 25 (0, 0)) := by rw [hW2, hQ]; exact heap_alloc_new wr _
        have z0 : W2.drew.cell? ⟨q, 0, none⟩ = some (.string x.1) ∧ W2.drew.cell? ⟨q, 1, none⟩ = some (.int .i64 x.2.1) ∧ W2.drew.cell? ⟨q, 2, none⟩ = some (.string x.2.2) :=
          ⟨cell_of_row W2 q 0 _ 25 (0, 0) k2, cell_of_row W2 q 1 _ 25 (0, 0) k2, cell_of_row W2 q 2 _ 25 (0, 0) k2⟩
        have hq2 : q < W2.heap.size := by rw [hW2, hQ]; simp
        have ZZ := Lib.hid fun W (hW : Below W2.heap.size W2 W) => (show W.cell? ⟨q, 0, none⟩ = some (.string x.1) ∧ W.cell? ⟨q, 1, none⟩ = some (.int .i64 x.2.1) ∧ W.cell? ⟨q, 2, none⟩ = some (.string x.2.2) from
          ⟨cell_of_row W q 0 _ 25 (0, 0) ((hW.block q hq2).trans k2), cell_of_row W q 1 _ 25 (0, 0) ((hW.block q hq2).trans k2), cell_of_row W q 2 _ 25 (0, 0) ((hW.block q hq2).trans k2)⟩)
        have RF := Lib.hid fun W (hW : Below W2.heap.size W2 W) => refuses_any W (.slice (some ad) k c) (l.take k) x ((HO.out.front (i := k) (by omega)).below (BW2.trans (hW.mono BW2.size))) (HS.out.take k).paths (HS.out.at_ hx).1 (HS.out.at_ hx).2 (by rw [List.length_take]; omega)
        have HX := Lib.hid hx
        have HBW2 := Lib.hid BW2
        have hkc : (k : Int) ≤ (c : Int) := by omega
        have hkc2 : k ≤ c := by omega
        have hk0 : (0 : Int) ≤ (k : Int) := Int.natCast_nonneg _
        have hkl : (k : Int) < (l.length : Int) := by omega
        obtain ⟨r, hr⟩ : ∃ r, r = refF (l.take k) x := ⟨_, rfl⟩
        rw [← hr] at RF
        have HRR := Lib.hid hr
        clear hx hb1 hr
        go_wp2_with fail
        rw [← hW2, ← hQ]
        clear hW2 hQ b2 BW2 k2 c0 c1 c2
        by_cases hr0 : r = 0
        · subst hr0
          have HI : Hid (∀ j g, j < k + 1 → l[j]? = some g → refF (l.take j) g = 0) := Lib.hid fun j g hj hg => by
            rcases Nat.lt_or_ge j k with h1 | h1
            · exact I.out j g h1 hg
            · obtain rfl : j = k := by omega
              rw [HX.out] at hg
              cases hg
              exact HRR.out.symm
          go_region_held3 (fun w' => w'.cell? ⟨q, 0, none⟩ = some (.string x.1) ∧ w'.cell? ⟨q, 1, none⟩ = some (.int .i64 x.2.1) ∧ w'.cell? ⟨q, 2, none⟩ = some (.string x.2.2)) (first | exact z0 | exact z5)
            ((go_at_call 48; refine (RF.out (World.drew _) ((Below.refl _ _).drew)).mono ?_; rintro e w5 ⟨rfl, b5⟩; have b6 := Below.trans ((Below.refl W2.heap.size W2).drew) (b5.mono (by simp)); have z5 := ZZ.out _ b6))
          have B6 := Lib.hid (HBW2.out.trans (b6.mono HBW2.out.size))
          clear b5 b6 z0 z5 RF
          go_wp2_with fail
          go_roundw
          case rel => exact ⟨k + 1, by omega, by go_num, B6.out, HI⟩
          case measure => simp [intOf]; omega
        · have hne : (r == 0) = false := by simpa using hr0
          have hne2 : (r != 0) = true := by simpa using hr0
          have HV : Hid (chkF l = some (k, r)) := Lib.hid (by have := chkF_bad HL.out I.out HX.out (by rw [← HRR.out]; exact hr0); rw [this, ← HRR.out])
          clear hr0
          go_region_held3 (fun w' => w'.cell? ⟨q, 0, none⟩ = some (.string x.1) ∧ w'.cell? ⟨q, 1, none⟩ = some (.int .i64 x.2.1) ∧ w'.cell? ⟨q, 2, none⟩ = some (.string x.2.2)) (first | exact z0 | exact z5)
            ((go_at_call 48; refine (RF.out (World.drew _) ((Below.refl _ _).drew)).mono ?_; rintro e w5 ⟨rfl, b5⟩; have b6 := Below.trans ((Below.refl W2.heap.size W2).drew) (b5.mono (by simp)); have z5 := ZZ.out _ b6))
          have B6 := Lib.hid (HBW2.out.trans (b6.mono HBW2.out.size))
          clear b5 b6 z0 z5 RF
          go_wp2_with fail
          go_ret
          exact .inr ⟨k, r, w5.heap.size, HV.out, rfl, B6.out.size, heap_alloc_new w5 _, B6.out.alloc B6.out.size _⟩
      · obtain rfl : k = l.length := by omega
        have HV : Hid (chkF l = none) := Lib.hid (chkF_good HL.out fun i f hf => I.out i f (List.getElem?_eq_some_iff.1 hf).1 hf)
        go_wp2_with fail
        go_ret
        exact .inl ⟨HV.out, rfl, hb1⟩
end Go.Proofs.YtplleaimmmanhaaGreatDoor
