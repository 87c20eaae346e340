/-
  strings.SplitSeq at a stroke: what the iterator hands out, one by one.
-/
import Derived.Test.YtapcnmnnichamaaGreatDoorPCap
import Derived.Test.YtapcnmnnichamaaGreatDoorRP
import Derived.Lib.IndexBytes
import Derived.Test.YtapcnmnnichamaaGreatDoorShelf
import Derived.Lib.Hide
namespace Go.Proofs.YtapcnmnnichamaaGreatDoor
open Go Go.RowKit Go.Shelf
open Go.Lib (indexByte indexByte_ge indexByte_some)
theorem spl_miss : ∀ l : List UInt8, indexByte l 47 = -1 → spl l = [l]
  | [], _ => rfl
  | c :: r, h => by
    unfold indexByte at h
    by_cases hc : c = 47
    · subst hc; simp at h
    · have hc2 : (c == 47) = false := by simpa using hc
      rw [hc2] at h
      simp only [Bool.false_eq_true, if_false] at h
      by_cases h1 : indexByte r 47 = -1
      · rw [spl, if_neg hc, spl_miss r h1]; rfl
      · have h2 : (indexByte r 47 == -1) = false := by simpa using h1
        rw [h2] at h
        have := indexByte_ge r 47
        simp at h
        omega
theorem spl_hit : ∀ (l : List UInt8) (i : Nat), indexByte l 47 = i → spl l = l.take i :: spl (l.drop (i + 1))
  | [], i, h => by simp [indexByte] at h
  | c :: r, i, h => by
    unfold indexByte at h
    by_cases hc : c = 47
    · subst hc
      simp at h
      obtain rfl : i = 0 := by omega
      rw [spl, if_pos rfl]; rfl
    · have hc2 : (c == 47) = false := by simpa using hc
      rw [hc2] at h
      simp only [Bool.false_eq_true, if_false] at h
      by_cases h1 : indexByte r 47 = -1
      · rw [h1] at h; simp at h
      · have h2 : (indexByte r 47 == -1) = false := by simpa using h1
        have hg := indexByte_ge r 47
        rw [h2] at h
        simp only [Bool.false_eq_true, if_false] at h
        obtain ⟨k, rfl⟩ : ∃ k, i = k + 1 := ⟨i - 1, by omega⟩
        have ih := spl_hit r k (by omega)
        rw [spl, if_neg hc, ih]
        rfl
theorem index_lt (l : List UInt8) (i : Nat) (h : indexByte l 47 = i) : i < l.length := by
  have := (indexByte_some h).1
  exact (List.getElem?_eq_some_iff.1 this).1
attribute [local go_sem] Oper.semAt_some

/-- The pieces that have come, and the rest, are the text's. -/
def Came (s : ByteArray) (pre : List ByteArray) (rest : ByteArray) : Prop := pre.map (·.data.toList) ++ spl rest.data.toList = spl s.data.toList
def AllCame (s : ByteArray) (xs : List ByteArray) : Prop := xs.map (·.data.toList) = spl s.data.toList
def SomeCame (s : ByteArray) (pre : List ByteArray) : Prop := ∃ more, pre.map (·.data.toList) ++ more = spl s.data.toList
/-- How long the text in a cell is. -/
def lenAt (C : Nat) (W : World) : Nat := match W.cell? ⟨C, 0, none⟩ with | some (.string r) => r.size | _ => 0

theorem came_more {s rest : ByteArray} {pre : List ByteArray} (h : Came s pre rest) : pre.length < (spl s.data.toList).length := by
  unfold Came at h
  have := congrArg List.length h
  have h2 := List.length_pos_iff.2 (spl_ne rest.data.toList)
  simp at this
  omega

set_option maxHeartbeats 1000000 in
theorem seq_cap (s : ByteArray) (C : Nat) (w : World) (hs : s.size ≤ 1000000) (hlt : C + 2 < w.heap.size)
    (h0 : w.cell? ⟨C, 0, none⟩ = some (.string s)) (f0 : w.frozen? ⟨C, 0, none⟩ = false) (h1 : w.cell? ⟨C + 1, 0, none⟩ = some (.string ⟨#[47]⟩)) (h2 : w.cell? ⟨C + 1 + 1, 0, none⟩ = some (.int .i64 0)) :
    SeqCap Fence.wide 2 Tryz.prog 122 #[.pointer (some ⟨C + 1, 0, none⟩), .pointer (some ⟨C, 0, none⟩), .pointer (some ⟨C + 1 + 1, 0, none⟩)] (fun x => #[.string x]) (fun A B => Below w.heap.size A B) C (fun x => x.size ≤ s.size) (AllCame s) (SomeCame s) (spl s.data.toList).length w := by
  intro l J Jx W hW hJ hY h0J
  have g0 : W.cell? ⟨C, 0, none⟩ = some (.string s) := (hW.cell (p := ⟨C, 0, none⟩) (by show C < _; omega)).trans h0
  have g1 : W.cell? ⟨C + 1, 0, none⟩ = some (.string ⟨#[47]⟩) := (hW.cell (p := ⟨C + 1, 0, none⟩) (by show C + 1 < _; omega)).trans h1
  have g2 : W.cell? ⟨C + 1 + 1, 0, none⟩ = some (.int .i64 0) := (hW.cell (p := ⟨C + 1 + 1, 0, none⟩) (by show C + 1 + 1 < _; omega)).trans h2
  have k0 : W.frozen? ⟨C, 0, none⟩ = false := (hW.frozen (p := ⟨C, 0, none⟩) (by show C < _; omega)).trans f0
  have HY := Lib.hid hY
  have HJ := Lib.hid hJ
  have H0 := Lib.hid h0J
  clear hY hJ h0J h0 h1 h2 f0 hW
  refine callsIn_of_wp Tryz.func122 rfl trivial ?_ rfl
  simp only [Tryz.ntmps122, List.size_toArray, List.length_cons, List.length_nil, Nat.reduceAdd, Nat.reduceSub, Array.replicate_succ, Array.replicate_zero, List.push_toArray, List.append_toArray, List.nil_append, List.cons_append]
  gi_wp2
  gi_loopw [7] (fun _ wr => ∃ (pre : List ByteArray) (rest : ByteArray), Came s pre rest ∧ rest.size ≤ s.size ∧ wr.cell? ⟨C, 0, none⟩ = some (.string rest) ∧ wr.frozen? ⟨C, 0, none⟩ = false ∧ wr.cell? ⟨C + 1, 0, none⟩ = some (.string ⟨#[47]⟩) ∧ wr.cell? ⟨C + 1 + 1, 0, none⟩ = some (.int .i64 0) ∧ Hid (J pre wr))
    (fun _ wr => lenAt C wr)
  case atStart => exact ⟨[], s, rfl, Nat.le_refl _, g0, k0, g1, g2, H0⟩
  case round =>
    obtain ⟨pre, rest, hcm, hle, c0, d0, c1, c2, hJs⟩ := hrel
    have hlen := came_more hcm
    have HX := Lib.hid fun W => Tryz.strings_Index_one rest 47 W
    rcases Int.lt_or_le (Lib.indexByte rest.data.toList 47) 0 with hx | hx
    · have hm : Lib.indexByte rest.data.toList 47 = -1 := by have := Lib.indexByte_ge rest.data.toList 47; omega
      rw [hm] at HX
      have HM := Lib.hid hm
      clear hx hm
      obtain ⟨fn, tmps, assign, body, hy, hR⟩ := HY.out pre rest wr hJs.out hlen hle
      gi_wp2_with (refine ⟨trivial, ?_⟩; gi_at_call 124; refine (callsIn_wide.2 (HX.out _)).mono ?_; rintro e w' ⟨rfl, rfl⟩)
      refine hR.mono ?_
      rintro e W' (⟨rfl, hJ', hk⟩ | ⟨rfl, hJx'⟩)
      · have HE := Lib.hid hJ'
        clear hJ' hk hy
        gi_wp2
        go_end0
        exact ⟨⟨_, rfl⟩, .inl ⟨pre ++ [rest], by have := hcm; unfold Came at this; rw [spl_miss _ HM.out] at this; unfold AllCame; simpa using this, HE.out⟩⟩
      · have HE := Lib.hid hJx'
        clear hJx' hy
        gi_wp2
        go_end0
        exact ⟨⟨_, rfl⟩, .inr ⟨pre ++ [rest], ⟨[], by have := hcm; unfold Came at this; rw [spl_miss _ HM.out] at this; simpa using this⟩, HE.out⟩⟩
    · obtain ⟨i, hi⟩ : ∃ i : Nat, Lib.indexByte rest.data.toList 47 = i := ⟨(Lib.indexByte rest.data.toList 47).toNat, by omega⟩
      have hli := index_lt _ _ hi
      rw [hi] at HX
      have HI := Lib.hid hi
      have hsz : rest.data.toList.length = rest.size := by rw [Array.length_toList]; rfl
      rw [hsz] at hli
      clear hx hi hsz
      have hi0 : (0 : Int) ≤ (i : Int) := Int.natCast_nonneg _
      have hi1 : (i : Int) + 1 ≤ (rest.size : Int) := by omega
      have hi2 : (i : Int) ≤ (rest.size : Int) := by omega
      obtain ⟨fn, tmps, assign, body, hy, hR⟩ := HY.out pre (rest.extract 0 i) wr hJs.out hlen (by rw [ByteArray.size_extract]; omega)
      gi_wp2_with (refine ⟨trivial, ?_⟩; gi_at_call 124; refine (callsIn_wide.2 (HX.out _)).mono ?_; rintro e w' ⟨rfl, rfl⟩)
      have ht : (rest.extract 0 i).data.toList = rest.data.toList.take i := Lib.extract_from_zero rest i
      have hd : (rest.extract (i + 1) rest.size).data.toList = rest.data.toList.drop (i + 1) := Lib.extract_to_end rest (i + 1)
      have hsp := spl_hit _ _ HI.out
      refine hR.mono ?_
      rintro e W' (⟨rfl, hJ', hk⟩ | ⟨rfl, hJx'⟩)
      · have HE := Lib.hid hJ'
        have e0 : W'.cell? ⟨C, 0, none⟩ = some (.string rest) := (hk.cell (p := ⟨C, 0, none⟩) (by show C < _; omega)).trans c0
        have e1 : W'.cell? ⟨C + 1, 0, none⟩ = some (.string ⟨#[47]⟩) := (hk.cell (p := ⟨C + 1, 0, none⟩) (by show C + 1 < _; omega)).trans c1
        have e2 : W'.cell? ⟨C + 1 + 1, 0, none⟩ = some (.int .i64 0) := (hk.cell (p := ⟨C + 1 + 1, 0, none⟩) (by show C + 1 + 1 < _; omega)).trans c2
        have e3 : W'.frozen? ⟨C, 0, none⟩ = false := (hk.frozen (p := ⟨C, 0, none⟩) (by show C < _; omega)).trans d0
        have HT := Lib.hid ht
        have HD := Lib.hid hd
        have HSP := Lib.hid hsp
        have HCM := Lib.hid hcm
        clear hJ' hk hy ht hd hsp hcm
        gi_wp2
        go_roundw
        case rel =>
          refine ⟨pre ++ [rest.extract 0 i], rest.extract (i + 1) rest.size, ?_, ?_, World.cell?_setCell_same' _ _ _ (by rw [e0]; rfl), by rw [World.frozen?_setCell]; exact e3, ?_, ?_, ?_⟩
          · have h := HCM.out
            unfold Came at h ⊢
            rw [HSP.out] at h
            rw [HD.out, List.map_append]
            simp only [List.map_cons, List.map_nil, HT.out]
            rw [List.append_assoc]
            exact h
          · rw [ByteArray.size_extract]; omega
          · exact (World.cell?_setCell_other _ _ _ _ (by intro e; injection e with e; omega)).trans e1
          · exact (World.cell?_setCell_other _ _ _ _ (by intro e; injection e with e; omega)).trans e2
          · exact HJ.out _ W' _ (some C) HE.out ⟨rfl, rfl, rfl, by simp, fun k _ hk => Below.heap_setCell _ _ _ _ (fun e => hk (by rw [e]))⟩ (fun r e => by cases e; rfl)
        case measure =>
          have h1 : lenAt C (W'.setCell ⟨C, 0, none⟩ (.string (rest.extract (i + 1) rest.size))) = (rest.extract (i + 1) rest.size).size := by
            unfold lenAt; rw [World.cell?_setCell_same' _ _ _ (by rw [e0]; rfl)]
          have h2 : lenAt C w' = rest.size := by unfold lenAt; rw [c0]
          rw [h1, h2, ByteArray.size_extract]; omega
      · have HE := Lib.hid hJx'
        have h := hcm
        unfold Came at h
        rw [hsp, ← ht] at h
        have HH : Hid (SomeCame s (pre ++ [rest.extract 0 i])) := Lib.hid ⟨spl (rest.data.toList.drop (i + 1)), by rw [List.map_append, List.append_assoc]; exact h⟩
        clear hJx' hy ht hd hsp hcm h
        gi_wp2
        refine bodyPost_ret (results_none rfl _ _ _) rfl ?_
        exact ⟨⟨_, rfl⟩, .inr ⟨pre ++ [rest.extract 0 i], HH.out, HE.out⟩⟩
end Go.Proofs.YtapcnmnnichamaaGreatDoor
