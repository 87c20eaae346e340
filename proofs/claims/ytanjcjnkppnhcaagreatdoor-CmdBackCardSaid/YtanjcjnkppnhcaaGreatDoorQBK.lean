/-
  A command in words, read again: it is that command, as far as its verb has it.
  A command in words, read again: each verb.
  CmdVerbs: each verb is one; with nothing behind it is a command just where it needs nothing.
  The closed play 'known' answers true.
-/
import Derived.Test.YtanjcjnkppnhcaaGreatDoorQBC
import Derived.Test.YtanjcjnkppnhcaaGreatDoorQAX
import Derived.Test.YtanjcjnkppnhcaaGreatDoorQAS
import Derived.Test.YtanjcjnkppnhcaaGreatDoorQBJ
import Derived.Test.YtanjcjnkppnhcaaGreatDoorQAH
import Derived.Test.YtanjcjnkppnhcaaGreatDoorQAG
import Derived.Test.YtanjcjnkppnhcaaGreatDoorQAF
import Derived.Deep.DeepCutAuto
import Derived.Deep.CutBlock

namespace Go.Proofs.YtanjcjnkppnhcaaGreatDoor
open Go Go.RowKit

/-- What of a command its verb has. -/
def nmT (k : Nat) (nm : ByteArray) : ByteArray := if hasNmK k = true then nm else ⟨#[]⟩
def nT (k : Nat) (nm : ByteArray) (n : Int) : Nat := if hasNK k nm = true then n.toNat else 0
def txT (k : Nat) (tx : ByteArray) : ByteArray := if hasTK k = true then tx else ⟨#[]⟩
def fT (k : Nat) (f : Bool) : Bool := if hasFK k = true then f else false
def lT (k : Nat) (l : List Fl) : List Fl := if k = 14 then l.map nrmS else []
theorem cutL_pre {c : UInt8} {a : List UInt8} (r : List UInt8) (h : ∀ x ∈ a, x ≠ c) : cutL c (a ++ c :: r) = (a, r, true) := by
  induction a with
  | nil => simp [cutL]
  | cons x a ih =>
    have hx : ¬ x = c := h x (by simp)
    show cutL c (x :: (a ++ c :: r)) = _
    rw [cutL, if_neg hx, ih fun y hy => h y (by simp [hy])]
theorem cutL_all {c : UInt8} {a : List UInt8} (h : ∀ x ∈ a, x ≠ c) : cutL c a = (a, [], false) :=
  cutL_not c a fun _ hk => h c (List.mem_of_getElem? hk) rfl
theorem fls_all {a : List UInt8} (h : ∀ x ∈ a, x ≠ 32) : fls a = [a] := by rw [fls_cut, cutL_all h]; simp
theorem fls_pre {a : List UInt8} (r : List UInt8) (h : ∀ x ∈ a, x ≠ 32) : fls (a ++ 32 :: r) = a :: fls r := by rw [fls_cut, cutL_pre r h]; simp
theorem mkW_ne {l : List UInt8} (h : l ≠ []) : mkW l ≠ ⟨#[]⟩ := fun e => h (by have := congrArg (·.data.toList) e; simpa [list_mkW] using this)
theorem mapMk : ∀ l : List (List UInt8), (l.map mkW).any (fun x => decide (x = ⟨#[]⟩)) = l.any fun x => decide (x = [])
  | [] => rfl
  | x :: l => by
    rw [List.map_cons, List.any_cons, List.any_cons, mapMk l]
    congr 1
    by_cases hx : x = []
    · subst hx; rfl
    · rw [decide_eq_false hx, decide_eq_false (mkW_ne hx)]
theorem readK_one {k : Nat} (hT : hasTK k = false) {x : List UInt8} (hx : x ≠ []) (h : ∀ c ∈ x, c ≠ 32) : readK k (mkW x) true = (readW k [mkW x]).map fun y => (y.1, y.2, ⟨#[]⟩, false) := by
  unfold readK wordsK
  rw [if_neg (by rw [hT]; simp), if_pos rfl, list_mkW, fls_all h]
  rw [if_neg (by unfold hasB; rw [mapMk]; simp [hx]), if_neg (by simp)]
  rfl
theorem readK_force {k : Nat} (hT : hasTK k = false) (hF : hasFK k = true) {x : List UInt8} (hx : x ≠ []) (h : ∀ c ∈ x, c ≠ 32) : readK k (mkW (x ++ [32, 45, 102])) true = (readW k [mkW x]).map fun y => (y.1, y.2, ⟨#[]⟩, true) := by
  unfold readK wordsK
  have h2 : fls (x ++ [32, 45, 102]) = [x, [45, 102]] := by rw [fls_pre [45, 102] h]; rfl
  rw [if_neg (by rw [hT]; simp), if_pos rfl, list_mkW, h2]
  rw [if_neg (by unfold hasB; rw [mapMk]; simp [hx]), if_pos ⟨hF, rfl, rfl⟩]
  rfl
theorem readK_two {k : Nat} (hT : hasTK k = false) (hF : hasFK k = false) {x y : List UInt8} (hx : x ≠ []) (h : ∀ c ∈ x, c ≠ 32) (hy : y ≠ []) (g : ∀ c ∈ y, c ≠ 32) : readK k (mkW (x ++ 32 :: y)) true = (readW k [mkW x, mkW y]).map fun y => (y.1, y.2, ⟨#[]⟩, false) := by
  unfold readK wordsK
  rw [if_neg (by rw [hT]; simp), if_pos rfl, list_mkW, fls_pre y h, fls_all g]
  rw [if_neg (by unfold hasB; rw [mapMk]; simp [hx, hy]), if_neg (by rw [hF]; simp)]
  rfl
theorem readK_none {k : Nat} (hT : hasTK k = false) : readK k ⟨#[]⟩ false = (readW k []).map fun y => (y.1, y.2, ⟨#[]⟩, false) := by
  have h0 : wordsK ⟨#[]⟩ false = [] := by unfold wordsK; rw [if_neg (by simp)]
  unfold readK
  rw [h0, if_neg (by rw [hT]; simp), if_neg (show ¬ hasB ⟨#[]⟩ [] = true from fun h => by cases h), if_neg (fun h => by cases h.2.1)]
theorem readK_said {k : Nat} (hT : hasTK k = true) {x : List UInt8} (hx : x ≠ []) : readK k (mkW x) true = some (⟨#[]⟩, 0, mkW x, false) := by
  unfold readK
  rw [if_pos hT, if_pos (.inr (mkW_ne hx))]
theorem itoa_nat {n : Int} (h : 0 ≤ n) : Lib.itoa n = Lib.decDigits n.toNat := by unfold Lib.itoa; rw [if_neg (by omega)]
theorem num_itoa {n : Int} (h0 : 0 ≤ n) (h1 : n ≤ 1000000) : num1 (mkW (Lib.itoa n)) = some n.toNat := by
  unfold num1
  rw [list_mkW, itoa_nat h0]
  rcases Nat.eq_zero_or_pos n.toNat with h | h
  · rw [h]
    decide +kernel
  · rw [num_dd h (by omega)]
    rfl
theorem itoa_ne (n : Int) : Lib.itoa n ≠ [] := by
  unfold Lib.itoa
  split
  · simp
  · exact dd_ne _
theorem itoa_bytes {n : Int} (h : 0 ≤ n) : ∀ c ∈ Lib.itoa n, c ≠ 32 ∧ c ≠ 10 := by
  rw [itoa_nat h]
  exact dig_bytes (dd_digits _)
theorem itoa_dig {n : Int} (h : 0 ≤ n) : dig0 (mkW (Lib.itoa n)) = true := by
  unfold dig0
  rw [list_mkW, itoa_nat h]
  cases hd : Lib.decDigits n.toNat with
  | nil => exact absurd hd (dd_ne _)
  | cons c l => have := dd_digits n.toNat; rw [hd] at this; simp at this; exact this.1
/-- A path has no blank and no end of a line. -/
theorem chk_bytes {l : List UInt8} (h : chk l = 0) : l ≠ [] ∧ ∀ c ∈ l, c ≠ 32 ∧ c ≠ 10 := by
  unfold chk at h
  split at h
  · cases h
  · split at h
    · cases h
    · rename_i h0
      split at h
      · rename_i ha
        refine ⟨h0, ?_⟩
        clear h h0
        have key : ∀ l : List UInt8, (∀ x ∈ spl l, ∀ c ∈ x, c ≠ 32 ∧ c ≠ 10) → ∀ c ∈ l, c ≠ 32 ∧ c ≠ 10 := by
          intro l
          induction l with
          | nil => intro _ c hc; cases hc
          | cons a l ih =>
            intro hs
            by_cases h47 : a = 47
            · have e : spl (a :: l) = [] :: spl l := by rw [spl, if_pos h47]
              rw [e] at hs
              intro c hc
              rcases List.mem_cons.1 hc with rfl | hc
              · rw [h47]; decide
              · exact ih (fun x hx => hs x (by simp [hx])) c hc
            · obtain ⟨y, ys, hy⟩ : ∃ y ys, spl l = y :: ys := by
                cases hq : spl l with
                | nil => exact absurd hq (spl_ne l)
                | cons y ys => exact ⟨y, ys, rfl⟩
              have e : spl (a :: l) = (a :: y) :: ys := by rw [spl, if_neg h47, hy]; rfl
              rw [e] at hs
              intro c hc
              rcases List.mem_cons.1 hc with rfl | hc
              · exact hs (c :: y) (by simp) c (by simp)
              · refine ih (fun x hx => ?_) c hc
                rw [hy] at hx
                rcases List.mem_cons.1 hx with rfl | hx
                · exact fun d hd => hs (a :: x) (by simp) d (by simp [hd])
                · exact hs x (by simp [hx])
        refine key l fun x hx c hc => ?_
        have hg := List.all_eq_true.1 ha x hx
        unfold gp at hg
        simp only [Bool.and_eq_true] at hg
        have := List.all_eq_true.1 hg.2 c hc
        constructor
        · rintro rfl; revert this; decide
        · rintro rfl; revert this; decide
      · cases h
/-- A branch's name has none either, and begins with a letter. -/
theorem good_bytes {s : ByteArray} (h : Nm.goodN s = true) : s.data.toList ≠ [] ∧ (∀ c ∈ s.data.toList, c ≠ 32 ∧ c ≠ 10) ∧ dig0 s = false := by
  unfold Nm.goodN at h
  simp only [Bool.and_eq_true, decide_eq_true_eq] at h
  obtain ⟨⟨h0, h1⟩, h2⟩ := h
  unfold Nm.tailOk at h2
  have key : ∀ j (hj : j < s.size), Nm.gbv (s[j].toNat : Int) (j : Int) = true := fun j hj => by
    have := List.all_eq_true.1 h2 j (List.mem_range.2 hj)
    simpa [hj] using this
  refine ⟨fun e => ?_, fun c hc => ?_, ?_⟩
  · have := size_listB s
    rw [e] at this
    simp at this
    omega
  · obtain ⟨j, hj, rfl⟩ := List.getElem_of_mem hc
    have hj' : j < s.size := by rw [← size_listB]; exact hj
    have := key j hj'
    have e : s.data.toList[j] = s[j] := by simp; rfl
    rw [e]
    constructor
    · intro e; rw [e] at this; revert this; simp [Nm.gbv]
    · intro e; rw [e] at this; revert this; simp [Nm.gbv]
  · unfold dig0
    cases hd : s.data.toList with
    | nil => rfl
    | cons c l =>
      have hk := key 0 h0
      have e : s[0] = c := by
        have : s.data.toList[0]? = some s[0] := List.getElem?_eq_getElem (by rw [size_listB]; exact h0)
        rw [hd] at this
        simpa using this.symm
      rw [e] at hk
      simp [Nm.gbv] at hk
      simp [digB]
      omega
theorem wlV_bytes {tx : ByteArray} (h : wlV tx = 0) : ∀ c ∈ tx.data.toList, c ≠ 10 := by
  unfold wlV at h
  split at h
  · cases h
  · split at h
    · rename_i h1; exact nls_one h1
    · cases h
theorem wSV_can {x : Fl} (h : wSV x = 0) : StepCan x := by
  unfold wSV at h
  split at h
  · cases h
  · rename_i h1
    split at h
    · cases h
    · rename_i h2
      refine ⟨by simpa using h1, by omega, by omega, fun hr => ?_⟩
      split at h
      · rename_i h3; rw [hr] at h3; cases h3
      · split at h
        · cases h
        · rename_i h4
          unfold wlV at h
          split at h
          · cases h
          · split at h
            · rename_i h5 h6
              exact ⟨fun e => h4 (bytesB_eq (by rw [e])), by omega, h6⟩
            · cases h
theorem wSs_can : ∀ {l : List Fl}, wSs l = 0 → ∀ x ∈ l, wSV x = 0
  | [], _, x, hx => by cases hx
  | y :: l, h, x, hx => by
    unfold wSs at h
    split at h
    · rename_i h1; exact absurd h h1
    · rename_i h1
      rcases List.mem_cons.1 hx with rfl | hx
      · exact Classical.not_not.1 h1
      · exact wSs_can h x hx
theorem stepG_nrm (x : Fl) : stepG (nrmS x) = stepG x := by
  unfold stepG nrmS
  dsimp only
  by_cases h : isRw x.1 = true
  · rw [if_pos h, if_pos h, if_pos h]
  · rw [if_neg h, if_neg h]
theorem stepsG_nrm (l : List Fl) : stepsG (l.map nrmS) = stepsG l := by
  unfold stepsG
  rw [List.flatMap_map]
  congr 1
  funext x
  exact stepG_nrm x
theorem wSV_nrm {x : Fl} (h : wSV x = 0) : wSV (nrmS x) = 0 := by
  have hn : (nrmS x).1 = x.1 ∧ (nrmS x).2.1 = x.2.1 := ⟨rfl, rfl⟩
  by_cases hr : isRw x.1 = true
  · have e : nrmS x = x := by unfold nrmS; rw [if_pos hr]
    rw [e]; exact h
  · unfold wSV at h ⊢
    rw [hn.1, hn.2]
    split at h
    · cases h
    · rename_i h1
      rw [if_neg h1]
      split at h
      · cases h
      · rename_i h2
        rw [if_neg h2, if_pos (by simpa using hr)]
theorem wSs_nrm : ∀ {l : List Fl}, wSs l = 0 → wSs (l.map nrmS) = 0
  | [], _ => rfl
  | x :: l, h => by
    have hx := wSs_can h x (by simp)
    have hl : wSs l = 0 := by unfold wSs at h; rw [if_neg (by rw [hx]; simp)] at h; exact h
    rw [List.map_cons]
    unfold wSs
    rw [if_neg (by rw [wSV_nrm hx]; simp)]
    exact wSs_nrm hl
end Go.Proofs.YtanjcjnkppnhcaaGreatDoor

namespace Go.Proofs.YtanjcjnkppnhcaaGreatDoor
open Go Go.RowKit

theorem vB_bytes {k : Nat} (hk : k < 20) : ∀ c ∈ (vB k).data.toList, c ≠ 32 ∧ c ≠ 10 := by
  rcases k20 hk with rfl | rfl | rfl | rfl | rfl | rfl | rfl | rfl | rfl | rfl | rfl | rfl | rfl | rfl | rfl | rfl | rfl | rfl | rfl | rfl <;> decide
def saidL (given : Bool) (said : ByteArray) : List UInt8 := if given = true then 32 :: said.data.toList else []
theorem line_cut {k : Nat} (hk : k < 20) {said : ByteArray} {given : Bool} (hg : given = false → said = ⟨#[]⟩) : cutL 32 ((vB k).data.toList ++ saidL given said) = ((vB k).data.toList, said.data.toList, given) := by
  have hv := vB_bytes hk
  unfold saidL
  cases given with
  | true => rw [if_pos rfl]; exact cutL_pre _ fun x hx => (hv x hx).1
  | false =>
    rw [if_neg (by simp), List.append_nil, hg rfl]
    exact cutL_all fun x hx => (hv x hx).1
theorem line_ten {k : Nat} (hk : k < 20) {said : ByteArray} {given : Bool} (hb : ∀ c ∈ said.data.toList, c ≠ 10) : ∀ c ∈ (vB k).data.toList ++ saidL given said, c ≠ 10 := by
  intro c hc
  rcases List.mem_append.1 hc with hc | hc
  · exact (vB_bytes hk c hc).2
  · unfold saidL at hc
    split at hc
    · rcases List.mem_cons.1 hc with rfl | hc
      · decide
      · exact hb c hc
    · cases hc
theorem parse_of {k : Nat} (hk : k < 20) {said : ByteArray} {given : Bool} (hg : given = false → said = ⟨#[]⟩) (hb : ∀ c ∈ said.data.toList, c ≠ 10) {nm : ByteArray} {n : Nat} {tx : ByteArray} {f : Bool} (hr : readK k said given = some (nm, n, tx, f)) (hc : checkK k nm (n : Int) tx [] = 0) :
    parseK ((vB k).data.toList ++ saidL given said) = .ok k nm n tx f [] := by
  have h1 : cutL 10 ((vB k).data.toList ++ saidL given said) = ((vB k).data.toList ++ saidL given said, [], false) := cutL_all (line_ten hk hb)
  have hp : placeV (mkW (cutL 32 (cutL 10 ((vB k).data.toList ++ saidL given said)).1).1) = (k : Int) := by
    rw [h1]
    dsimp only
    rw [line_cut hk hg]
    dsimp only
    rw [mkW_list, place_vB hk]
  rw [PR.place hp, h1]
  dsimp only
  rw [line_cut hk hg]
  dsimp only
  rw [mkW_list]
  unfold parseV
  rw [if_neg (by simp), hr]
  have hz : parseP (nls []) 0 [] = .inl [] := by decide +kernel
  rw [hz]
  unfold parseR
  dsimp only
  rw [if_neg (by rw [hc]; simp)]
theorem parse_of14 {said : ByteArray} {l m : List Fl} (hb : ∀ c ∈ said.data.toList, c ≠ 10) {nm : ByteArray} {n : Nat} {tx : ByteArray} {f : Bool} (hr : readK 14 said true = some (nm, n, tx, f)) (hl : parseP (nls (stepsG l)) 0 [] = .inl m) (hc : checkK 14 nm (n : Int) tx m = 0) :
    parseK (((vB 14).data.toList ++ saidL true said) ++ 10 :: stepsG l) = .ok 14 nm n tx f m := by
  have hk : 14 < 20 := by decide
  have h1 : cutL 10 (((vB 14).data.toList ++ saidL true said) ++ 10 :: stepsG l) = ((vB 14).data.toList ++ saidL true said, stepsG l, true) := cutL_pre _ (line_ten hk hb)
  have hg : true = false → said = ⟨#[]⟩ := fun h => by cases h
  have hp : placeV (mkW (cutL 32 (cutL 10 (((vB 14).data.toList ++ saidL true said) ++ 10 :: stepsG l)).1).1) = ((14 : Nat) : Int) := by
    rw [h1]
    dsimp only
    rw [line_cut hk hg]
    dsimp only
    rw [mkW_list, place_vB hk]
  rw [PR.place hp, h1]
  dsimp only
  rw [line_cut hk hg]
  dsimp only
  rw [mkW_list]
  unfold parseV
  rw [if_neg (by simp), hr, hl]
  unfold parseR
  dsimp only
  rw [if_neg (by rw [hc]; simp)]
theorem check_split {k : Nat} {nm : ByteArray} {n : Int} {tx : ByteArray} {l : List Fl} (h : checkK k nm n tx l = 0) : wMK k nm = 0 ∧ wNK k nm n = 0 ∧ wTK k tx = 0 ∧ wDK k l = 0 := by
  unfold checkK at h
  split at h
  · rename_i h1; exact absurd h h1
  · split at h
    · rename_i h1; exact absurd h h1
    · split at h
      · rename_i h1; exact absurd h h1
      · rename_i h1 h2 h3
        exact ⟨Classical.not_not.1 h1, Classical.not_not.1 h2, Classical.not_not.1 h3, h⟩
theorem check_join {k : Nat} {nm : ByteArray} {n : Int} {tx : ByteArray} {l : List Fl} (h1 : wMK k nm = 0) (h2 : wNK k nm n = 0) (h3 : wTK k tx = 0) (h4 : wDK k l = 0) : checkK k nm n tx l = 0 := by
  unfold checkK
  rw [if_neg (by rw [h1]; simp), if_neg (by rw [h2]; simp), if_neg (by rw [h3]; simp), h4]
theorem wNK_pos {k : Nat} {nm : ByteArray} {n : Int} (h : wNK k nm n = 0) (hh : hasNK k nm = true) : 0 ≤ n := by
  unfold wNK at h
  rw [if_neg (by rw [hh]; simp)] at h
  by_cases h1 : [11, 12, 13].contains k = true
  · rw [if_pos h1] at h
    by_cases h2 : n < 0
    · rw [if_pos h2] at h; cases h
    · omega
  · rw [if_neg h1] at h
    by_cases h2 : n < 1
    · rw [if_pos h2] at h; cases h
    · omega
theorem wMK_T {k : Nat} (hk : k < 20) (nm : ByteArray) : wMK k (nmT k nm) = wMK k nm := by
  rcases k20 hk with rfl | rfl | rfl | rfl | rfl | rfl | rfl | rfl | rfl | rfl | rfl | rfl | rfl | rfl | rfl | rfl | rfl | rfl | rfl | rfl <;> rfl
theorem hasNK_T {k : Nat} (hk : k < 20) (nm : ByteArray) : hasNK k (nmT k nm) = hasNK k nm := by
  rcases k20 hk with rfl | rfl | rfl | rfl | rfl | rfl | rfl | rfl | rfl | rfl | rfl | rfl | rfl | rfl | rfl | rfl | rfl | rfl | rfl | rfl <;> rfl
theorem wTK_T {k : Nat} (hk : k < 20) (tx : ByteArray) : wTK k (txT k tx) = wTK k tx := by
  rcases k20 hk with rfl | rfl | rfl | rfl | rfl | rfl | rfl | rfl | rfl | rfl | rfl | rfl | rfl | rfl | rfl | rfl | rfl | rfl | rfl | rfl <;> rfl
theorem nT_int {k : Nat} {nm : ByteArray} {n : Int} (h : wNK k nm n = 0) (hh : hasNK k nm = true) : ((nT k nm n : Nat) : Int) = n := by
  have := wNK_pos h hh
  unfold nT
  rw [if_pos hh]
  omega
theorem check_T {k : Nat} (hk : k < 20) {nm : ByteArray} {n : Int} {tx : ByteArray} {l : List Fl} (h : checkK k nm n tx l = 0) : checkK k (nmT k nm) ((nT k nm n : Nat) : Int) (txT k tx) (lT k l) = 0 := by
  obtain ⟨h1, h2, h3, h4⟩ := check_split h
  refine check_join ((wMK_T hk nm).trans h1) ?_ ((wTK_T hk tx).trans h3) ?_
  · by_cases hh : hasNK k nm = true
    · rw [nT_int h2 hh]
      unfold wNK at h2 ⊢
      rw [hasNK_T hk]
      exact h2
    · unfold wNK
      rw [if_pos (by rw [hasNK_T hk]; simpa using hh)]
  · unfold wDK at h4 ⊢
    unfold lT
    by_cases h14 : k = 14
    · rw [if_pos h14] at h4 ⊢
      rw [if_pos h14]
      split at h4
      · cases h4
      · rename_i h5
        rw [if_neg (by rw [List.length_map]; exact h5)]
        exact wSs_nrm h4
    · rw [if_neg h14]
theorem emptyS (s : ByteArray) : (s.toList.isEmpty = true ∧ s = ⟨#[]⟩) ∨ (s.toList.isEmpty = false ∧ s ≠ ⟨#[]⟩) := by
  rcases emptyB s with ⟨h, h2⟩ | ⟨h, h2, -⟩
  · exact .inl ⟨h2, h⟩
  · exact .inr ⟨h2, h⟩
theorem ne_list {s : ByteArray} (h : s ≠ ⟨#[]⟩) : s.data.toList ≠ [] := fun e => h (bytesB_eq (by rw [e]))

theorem pt_15 (nm : ByteArray) (n : Int) (tx : ByteArray) (f : Bool) (l : List Fl) (h : checkK 15 nm n tx l = 0) (_ : hasNK 15 nm = true → n ≤ 1000000) : parseK (textK 15 nm n tx f l) = .ok 15 (nmT 15 nm) (nT 15 nm n) (txT 15 tx) (fT 15 f) (lT 15 l) := by
  have e : textK 15 nm n tx f l = (vB 15).data.toList ++ saidL false ⟨#[]⟩ := by simp [textK, saidL, hasNmK, hasNK, hasFK, hasTK]
  rw [e]
  exact parse_of (by decide) (fun _ => rfl) (by simp) (by rw [readK_none rfl]; rfl) (check_T (by decide) h)

theorem pt_16 (nm : ByteArray) (n : Int) (tx : ByteArray) (f : Bool) (l : List Fl) (h : checkK 16 nm n tx l = 0) (_ : hasNK 16 nm = true → n ≤ 1000000) : parseK (textK 16 nm n tx f l) = .ok 16 (nmT 16 nm) (nT 16 nm n) (txT 16 tx) (fT 16 f) (lT 16 l) := by
  have e : textK 16 nm n tx f l = (vB 16).data.toList ++ saidL false ⟨#[]⟩ := by simp [textK, saidL, hasNmK, hasNK, hasFK, hasTK]
  rw [e]
  exact parse_of (by decide) (fun _ => rfl) (by simp) (by rw [readK_none rfl]; rfl) (check_T (by decide) h)

theorem pt_17 (nm : ByteArray) (n : Int) (tx : ByteArray) (f : Bool) (l : List Fl) (h : checkK 17 nm n tx l = 0) (_ : hasNK 17 nm = true → n ≤ 1000000) : parseK (textK 17 nm n tx f l) = .ok 17 (nmT 17 nm) (nT 17 nm n) (txT 17 tx) (fT 17 f) (lT 17 l) := by
  have e : textK 17 nm n tx f l = (vB 17).data.toList ++ saidL false ⟨#[]⟩ := by simp [textK, saidL, hasNmK, hasNK, hasFK, hasTK]
  rw [e]
  exact parse_of (by decide) (fun _ => rfl) (by simp) (by rw [readK_none rfl]; rfl) (check_T (by decide) h)

theorem pt_18 (nm : ByteArray) (n : Int) (tx : ByteArray) (f : Bool) (l : List Fl) (h : checkK 18 nm n tx l = 0) (_ : hasNK 18 nm = true → n ≤ 1000000) : parseK (textK 18 nm n tx f l) = .ok 18 (nmT 18 nm) (nT 18 nm n) (txT 18 tx) (fT 18 f) (lT 18 l) := by
  have e : textK 18 nm n tx f l = (vB 18).data.toList ++ saidL false ⟨#[]⟩ := by simp [textK, saidL, hasNmK, hasNK, hasFK, hasTK]
  rw [e]
  exact parse_of (by decide) (fun _ => rfl) (by simp) (by rw [readK_none rfl]; rfl) (check_T (by decide) h)

theorem pt_19 (nm : ByteArray) (n : Int) (tx : ByteArray) (f : Bool) (l : List Fl) (h : checkK 19 nm n tx l = 0) (_ : hasNK 19 nm = true → n ≤ 1000000) : parseK (textK 19 nm n tx f l) = .ok 19 (nmT 19 nm) (nT 19 nm n) (txT 19 tx) (fT 19 f) (lT 19 l) := by
  have e : textK 19 nm n tx f l = (vB 19).data.toList ++ saidL false ⟨#[]⟩ := by simp [textK, saidL, hasNmK, hasNK, hasFK, hasTK]
  rw [e]
  exact parse_of (by decide) (fun _ => rfl) (by simp) (by rw [readK_none rfl]; rfl) (check_T (by decide) h)

theorem pt_3 (nm : ByteArray) (n : Int) (tx : ByteArray) (f : Bool) (l : List Fl) (h : checkK 3 nm n tx l = 0) (_ : hasNK 3 nm = true → n ≤ 1000000) : parseK (textK 3 nm n tx f l) = .ok 3 (nmT 3 nm) (nT 3 nm n) (txT 3 tx) (fT 3 f) (lT 3 l) := by
  have hm : Nm.goodN nm = true := by
    have h1 := (check_split h).1
    have h2 : wMK 3 nm = if Nm.goodN nm = true then 0 else 5 := rfl
    rw [h2] at h1
    split at h1
    · assumption
    · cases h1
  obtain ⟨b0, b1, b2⟩ := good_bytes hm
  have hne : nm ≠ ⟨#[]⟩ := fun e => b0 (by rw [e])
  have e : textK 3 nm n tx f l = (vB 3).data.toList ++ saidL true nm := by simp [textK, saidL, hasNmK, hasNK, hasFK, hasTK, hne]
  rw [e]
  exact parse_of (by decide) (fun h => by cases h) (fun c hc => (b1 c hc).2) (by
    have := readK_one (k := 3) rfl b0 fun c hc => (b1 c hc).1
    rw [mkW_list] at this
    rw [this]; rfl) (check_T (by decide) h)

theorem pt_4 (nm : ByteArray) (n : Int) (tx : ByteArray) (f : Bool) (l : List Fl) (h : checkK 4 nm n tx l = 0) (_ : hasNK 4 nm = true → n ≤ 1000000) : parseK (textK 4 nm n tx f l) = .ok 4 (nmT 4 nm) (nT 4 nm n) (txT 4 tx) (fT 4 f) (lT 4 l) := by
  have hm : Nm.goodN nm = true := by
    have h1 := (check_split h).1
    have h2 : wMK 4 nm = if Nm.goodN nm = true then 0 else 5 := rfl
    rw [h2] at h1
    split at h1
    · assumption
    · cases h1
  obtain ⟨b0, b1, b2⟩ := good_bytes hm
  have hne : nm ≠ ⟨#[]⟩ := fun e => b0 (by rw [e])
  have e : textK 4 nm n tx f l = (vB 4).data.toList ++ saidL true nm := by simp [textK, saidL, hasNmK, hasNK, hasFK, hasTK, hne]
  rw [e]
  exact parse_of (by decide) (fun h => by cases h) (fun c hc => (b1 c hc).2) (by
    have := readK_one (k := 4) rfl b0 fun c hc => (b1 c hc).1
    rw [mkW_list] at this
    rw [this]; rfl) (check_T (by decide) h)

theorem pt_7 (nm : ByteArray) (n : Int) (tx : ByteArray) (f : Bool) (l : List Fl) (h : checkK 7 nm n tx l = 0) (_ : hasNK 7 nm = true → n ≤ 1000000) : parseK (textK 7 nm n tx f l) = .ok 7 (nmT 7 nm) (nT 7 nm n) (txT 7 tx) (fT 7 f) (lT 7 l) := by
  have hm : Nm.goodN nm = true := by
    have h1 := (check_split h).1
    have h2 : wMK 7 nm = if Nm.goodN nm = true then 0 else 5 := rfl
    rw [h2] at h1
    split at h1
    · assumption
    · cases h1
  obtain ⟨b0, b1, b2⟩ := good_bytes hm
  have hne : nm ≠ ⟨#[]⟩ := fun e => b0 (by rw [e])
  have e : textK 7 nm n tx f l = (vB 7).data.toList ++ saidL true nm := by simp [textK, saidL, hasNmK, hasNK, hasFK, hasTK, hne]
  rw [e]
  exact parse_of (by decide) (fun h => by cases h) (fun c hc => (b1 c hc).2) (by
    have := readK_one (k := 7) rfl b0 fun c hc => (b1 c hc).1
    rw [mkW_list] at this
    rw [this]; rfl) (check_T (by decide) h)

theorem pt_8 (nm : ByteArray) (n : Int) (tx : ByteArray) (f : Bool) (l : List Fl) (h : checkK 8 nm n tx l = 0) (hn : hasNK 8 nm = true → n ≤ 1000000) : parseK (textK 8 nm n tx f l) = .ok 8 (nmT 8 nm) (nT 8 nm n) (txT 8 tx) (fT 8 f) (lT 8 l) := by
  have h0 := wNK_pos (check_split h).2.1 rfl
  have h9 := hn rfl
  have b1 := itoa_bytes h0
  have e : textK 8 nm n tx f l = (vB 8).data.toList ++ saidL true (mkW (Lib.itoa n)) := by simp [textK, saidL, hasNmK, hasNK, hasFK, hasTK, list_mkW]
  rw [e]
  exact parse_of (by decide) (fun h => by cases h) (fun c hc => (b1 c (by rw [list_mkW] at hc; exact hc)).2) (by
    rw [readK_one (k := 8) rfl (itoa_ne n) fun c hc => (b1 c hc).1]
    have hw : readW 8 [mkW (Lib.itoa n)] = (num1 (mkW (Lib.itoa n))).map fun n => (⟨#[]⟩, n) := rfl
    rw [hw, num_itoa h0 h9]; rfl) (check_T (by decide) h)

theorem pt_9 (nm : ByteArray) (n : Int) (tx : ByteArray) (f : Bool) (l : List Fl) (h : checkK 9 nm n tx l = 0) (hn : hasNK 9 nm = true → n ≤ 1000000) : parseK (textK 9 nm n tx f l) = .ok 9 (nmT 9 nm) (nT 9 nm n) (txT 9 tx) (fT 9 f) (lT 9 l) := by
  have h0 := wNK_pos (check_split h).2.1 rfl
  have h9 := hn rfl
  have b1 := itoa_bytes h0
  have e : textK 9 nm n tx f l = (vB 9).data.toList ++ saidL true (mkW (Lib.itoa n)) := by simp [textK, saidL, hasNmK, hasNK, hasFK, hasTK, list_mkW]
  rw [e]
  exact parse_of (by decide) (fun h => by cases h) (fun c hc => (b1 c (by rw [list_mkW] at hc; exact hc)).2) (by
    rw [readK_one (k := 9) rfl (itoa_ne n) fun c hc => (b1 c hc).1]
    have hw : readW 9 [mkW (Lib.itoa n)] = (num1 (mkW (Lib.itoa n))).map fun n => (⟨#[]⟩, n) := rfl
    rw [hw, num_itoa h0 h9]; rfl) (check_T (by decide) h)

theorem pt_11 (nm : ByteArray) (n : Int) (tx : ByteArray) (f : Bool) (l : List Fl) (h : checkK 11 nm n tx l = 0) (hn : hasNK 11 nm = true → n ≤ 1000000) : parseK (textK 11 nm n tx f l) = .ok 11 (nmT 11 nm) (nT 11 nm n) (txT 11 tx) (fT 11 f) (lT 11 l) := by
  have h0 := wNK_pos (check_split h).2.1 rfl
  have h9 := hn rfl
  have b1 := itoa_bytes h0
  have e : textK 11 nm n tx f l = (vB 11).data.toList ++ saidL true (mkW (Lib.itoa n)) := by simp [textK, saidL, hasNmK, hasNK, hasFK, hasTK, list_mkW]
  rw [e]
  exact parse_of (by decide) (fun h => by cases h) (fun c hc => (b1 c (by rw [list_mkW] at hc; exact hc)).2) (by
    rw [readK_one (k := 11) rfl (itoa_ne n) fun c hc => (b1 c hc).1]
    have hw : readW 11 [mkW (Lib.itoa n)] = (num1 (mkW (Lib.itoa n))).map fun n => (⟨#[]⟩, n) := rfl
    rw [hw, num_itoa h0 h9]; rfl) (check_T (by decide) h)

theorem pt_12 (nm : ByteArray) (n : Int) (tx : ByteArray) (f : Bool) (l : List Fl) (h : checkK 12 nm n tx l = 0) (hn : hasNK 12 nm = true → n ≤ 1000000) : parseK (textK 12 nm n tx f l) = .ok 12 (nmT 12 nm) (nT 12 nm n) (txT 12 tx) (fT 12 f) (lT 12 l) := by
  have h0 := wNK_pos (check_split h).2.1 rfl
  have h9 := hn rfl
  have b1 := itoa_bytes h0
  have e : textK 12 nm n tx f l = (vB 12).data.toList ++ saidL true (mkW (Lib.itoa n)) := by simp [textK, saidL, hasNmK, hasNK, hasFK, hasTK, list_mkW]
  rw [e]
  exact parse_of (by decide) (fun h => by cases h) (fun c hc => (b1 c (by rw [list_mkW] at hc; exact hc)).2) (by
    rw [readK_one (k := 12) rfl (itoa_ne n) fun c hc => (b1 c hc).1]
    have hw : readW 12 [mkW (Lib.itoa n)] = (num1 (mkW (Lib.itoa n))).map fun n => (⟨#[]⟩, n) := rfl
    rw [hw, num_itoa h0 h9]; rfl) (check_T (by decide) h)

theorem pt_13 (nm : ByteArray) (n : Int) (tx : ByteArray) (f : Bool) (l : List Fl) (h : checkK 13 nm n tx l = 0) (hn : hasNK 13 nm = true → n ≤ 1000000) : parseK (textK 13 nm n tx f l) = .ok 13 (nmT 13 nm) (nT 13 nm n) (txT 13 tx) (fT 13 f) (lT 13 l) := by
  have h0 := wNK_pos (check_split h).2.1 rfl
  have h9 := hn rfl
  have b1 := itoa_bytes h0
  have e : textK 13 nm n tx f l = (vB 13).data.toList ++ saidL true (mkW (Lib.itoa n)) := by simp [textK, saidL, hasNmK, hasNK, hasFK, hasTK, list_mkW]
  rw [e]
  exact parse_of (by decide) (fun h => by cases h) (fun c hc => (b1 c (by rw [list_mkW] at hc; exact hc)).2) (by
    rw [readK_one (k := 13) rfl (itoa_ne n) fun c hc => (b1 c hc).1]
    have hw : readW 13 [mkW (Lib.itoa n)] = (num1 (mkW (Lib.itoa n))).map fun n => (⟨#[]⟩, n) := rfl
    rw [hw, num_itoa h0 h9]; rfl) (check_T (by decide) h)

theorem pt_14 (nm : ByteArray) (n : Int) (tx : ByteArray) (f : Bool) (l : List Fl) (h : checkK 14 nm n tx l = 0) (hn : hasNK 14 nm = true → n ≤ 1000000) : parseK (textK 14 nm n tx f l) = .ok 14 (nmT 14 nm) (nT 14 nm n) (txT 14 tx) (fT 14 f) (lT 14 l) := by
  have h0 := wNK_pos (check_split h).2.1 rfl
  have h9 := hn rfl
  have b1 := itoa_bytes h0
  have h4 := (check_split h).2.2.2
  have e : textK 14 nm n tx f l = ((vB 14).data.toList ++ saidL true (mkW (Lib.itoa n))) ++ 10 :: stepsG l := by simp [textK, saidL, hasNmK, hasNK, hasFK, hasTK, list_mkW]
  rw [e]
  have hd : ¬ 32 < l.length ∧ wSs l = 0 := by
    unfold wDK at h4
    rw [if_pos rfl] at h4
    split at h4
    · cases h4
    · rename_i h5; exact ⟨h5, h4⟩
  have hb := parse_back l 0 [] (by simp; omega) fun x hx => wSV_can (wSs_can hd.2 x hx)
  exact parse_of14 (fun c hc => (b1 c (by rw [list_mkW] at hc; exact hc)).2) (by
    rw [readK_one (k := 14) rfl (itoa_ne n) fun c hc => (b1 c hc).1]
    have hw : readW 14 [mkW (Lib.itoa n)] = (num1 (mkW (Lib.itoa n))).map fun n => (⟨#[]⟩, n) := rfl
    rw [hw, num_itoa h0 h9]; rfl) (by rw [hb]; rfl) (check_T (by decide) h)
theorem pt_6 (nm : ByteArray) (n : Int) (tx : ByteArray) (f : Bool) (l : List Fl) (h : checkK 6 nm n tx l = 0) (hn : hasNK 6 nm = true → n ≤ 1000000) : parseK (textK 6 nm n tx f l) = .ok 6 (nmT 6 nm) (nT 6 nm n) (txT 6 tx) (fT 6 f) (lT 6 l) := by
  have h0 := wNK_pos (check_split h).2.1 rfl
  have h9 := hn rfl
  have b1 := itoa_bytes h0
  have hm : nm.data.toList ≠ [] ∧ ∀ c ∈ nm.data.toList, c ≠ 32 ∧ c ≠ 10 := by
    have h1 := (check_split h).1
    have h2 : wMK 6 nm = if (nm.toList == [115, 111, 102, 116]) = true ∨ (nm.toList == [109, 105, 120, 101, 100]) = true ∨ (nm.toList == [104, 97, 114, 100]) = true then 0 else 5 := rfl
    rw [h2] at h1
    split at h1
    · rename_i h3
      rw [ByteArray.toList_eq] at h3
      rcases h3 with h3 | h3 | h3 <;> (have e := eq_of_beq h3; rw [e]; exact ⟨by simp, by decide⟩)
    · cases h1
  have hne : nm ≠ ⟨#[]⟩ := fun e => hm.1 (by rw [e])
  have e : textK 6 nm n tx f l = (vB 6).data.toList ++ saidL true (mkW (nm.data.toList ++ 32 :: Lib.itoa n)) := by simp [textK, saidL, hasNmK, hasNK, hasFK, hasTK, list_mkW, hne]
  rw [e]
  exact parse_of (by decide) (fun h => by cases h) (fun c hc => by
      rw [list_mkW] at hc
      rcases List.mem_append.1 hc with hc | hc
      · exact (hm.2 c hc).2
      · rcases List.mem_cons.1 hc with rfl | hc
        · decide
        · exact (b1 c hc).2) (by
    rw [readK_two (k := 6) rfl rfl hm.1 (fun c hc => (hm.2 c hc).1) (itoa_ne n) fun c hc => (b1 c hc).1]
    have hw : readW 6 [mkW nm.data.toList, mkW (Lib.itoa n)] = (num1 (mkW (Lib.itoa n))).map fun n => (mkW nm.data.toList, n) := rfl
    rw [hw, num_itoa h0 h9, mkW_list]; rfl) (check_T (by decide) h)
theorem pt_2 (nm : ByteArray) (n : Int) (tx : ByteArray) (f : Bool) (l : List Fl) (h : checkK 2 nm n tx l = 0) (_ : hasNK 2 nm = true → n ≤ 1000000) : parseK (textK 2 nm n tx f l) = .ok 2 (nmT 2 nm) (nT 2 nm n) (txT 2 tx) (fT 2 f) (lT 2 l) := by
  have h3 := (check_split h).2.2.1
  have h4 : wTK 2 tx = if tx = ⟨#[]⟩ then 1 else wlV tx := rfl
  rw [h4] at h3
  split at h3
  · cases h3
  · rename_i hne
    have b1 := wlV_bytes h3
    have e : textK 2 nm n tx f l = (vB 2).data.toList ++ saidL true tx := by simp [textK, saidL, hasNmK, hasNK, hasFK, hasTK, hne]
    rw [e]
    exact parse_of (by decide) (fun h => by cases h) b1 (by
      have := readK_said (k := 2) rfl (ne_list hne)
      rw [mkW_list] at this
      rw [this]; rfl) (check_T (by decide) h)
theorem pt_10 (nm : ByteArray) (n : Int) (tx : ByteArray) (f : Bool) (l : List Fl) (h : checkK 10 nm n tx l = 0) (_ : hasNK 10 nm = true → n ≤ 1000000) : parseK (textK 10 nm n tx f l) = .ok 10 (nmT 10 nm) (nT 10 nm n) (txT 10 tx) (fT 10 f) (lT 10 l) := by
  have h3 := (check_split h).2.2.1
  have h4 : wTK 10 tx = wlV tx := rfl
  rw [h4] at h3
  have b1 := wlV_bytes h3
  by_cases hne : tx = ⟨#[]⟩
  · subst hne
    have e : textK 10 nm n ⟨#[]⟩ f l = (vB 10).data.toList ++ saidL false ⟨#[]⟩ := by simp [textK, saidL, hasNmK, hasNK, hasFK, hasTK]
    rw [e]
    exact parse_of (by decide) (fun _ => rfl) (by simp) (by unfold readK; rw [if_pos (show hasTK 10 = true from rfl), if_pos (.inl rfl)]; rfl) (check_T (by decide) h)
  · have e : textK 10 nm n tx f l = (vB 10).data.toList ++ saidL true tx := by simp [textK, saidL, hasNmK, hasNK, hasFK, hasTK, hne]
    rw [e]
    exact parse_of (by decide) (fun h => by cases h) b1 (by
      have := readK_said (k := 10) rfl (ne_list hne)
      rw [mkW_list] at this
      rw [this]; rfl) (check_T (by decide) h)
theorem force_bytes {a : List UInt8} (h : ∀ c ∈ a, c ≠ 10) : ∀ c ∈ (mkW (a ++ [32, 45, 102])).data.toList, c ≠ 10 := by
  intro c hc
  rw [list_mkW] at hc
  rcases List.mem_append.1 hc with hc | hc
  · exact h c hc
  · have key : ∀ c ∈ ([32, 45, 102] : List UInt8), c ≠ 10 := by decide
    exact key c hc
theorem pt_0 (nm : ByteArray) (n : Int) (tx : ByteArray) (f : Bool) (l : List Fl) (h : checkK 0 nm n tx l = 0) (_ : hasNK 0 nm = true → n ≤ 1000000) : parseK (textK 0 nm n tx f l) = .ok 0 (nmT 0 nm) (nT 0 nm n) (txT 0 tx) (fT 0 f) (lT 0 l) := by
  by_cases hne : nm = ⟨#[]⟩
  · subst hne
    have e : textK 0 ⟨#[]⟩ n tx f l = (vB 0).data.toList ++ saidL false ⟨#[]⟩ := by simp [textK, saidL, hasNmK, hasNK, hasFK, hasTK]
    rw [e]
    exact parse_of (by decide) (fun _ => rfl) (by simp) (by rw [readK_none rfl]; rfl) (check_T (by decide) h)
  · have hm : chk nm.data.toList = 0 := by rw [← wMK_0 hne]; exact (check_split h).1
    obtain ⟨b0, b1⟩ := chk_bytes hm
    have e : textK 0 nm n tx f l = (vB 0).data.toList ++ saidL true nm := by simp [textK, saidL, hasNmK, hasNK, hasFK, hasTK, hne]
    rw [e]
    exact parse_of (by decide) (fun h => by cases h) (fun c hc => (b1 c hc).2) (by
      have := readK_one (k := 0) rfl b0 fun c hc => (b1 c hc).1
      rw [mkW_list] at this
      rw [this]; rfl) (check_T (by decide) h)
theorem pt_1 (nm : ByteArray) (n : Int) (tx : ByteArray) (f : Bool) (l : List Fl) (h : checkK 1 nm n tx l = 0) (_ : hasNK 1 nm = true → n ≤ 1000000) : parseK (textK 1 nm n tx f l) = .ok 1 (nmT 1 nm) (nT 1 nm n) (txT 1 tx) (fT 1 f) (lT 1 l) := by
  have hm : chk nm.data.toList = 0 := by rw [← wMK_1 nm]; exact (check_split h).1
  obtain ⟨b0, b1⟩ := chk_bytes hm
  have hne : nm ≠ ⟨#[]⟩ := fun e => b0 (by rw [e])
  cases f with
  | false =>
    have e : textK 1 nm n tx false l = (vB 1).data.toList ++ saidL true nm := by simp [textK, saidL, hasNmK, hasNK, hasFK, hasTK, hne]
    rw [e]
    exact parse_of (by decide) (fun h => by cases h) (fun c hc => (b1 c hc).2) (by
      have := readK_one (k := 1) rfl b0 fun c hc => (b1 c hc).1
      rw [mkW_list] at this
      rw [this]; rfl) (check_T (by decide) h)
  | true =>
    have e : textK 1 nm n tx true l = (vB 1).data.toList ++ saidL true (mkW (nm.data.toList ++ [32, 45, 102])) := by simp [textK, saidL, hasNmK, hasNK, hasFK, hasTK, hne, list_mkW]
    rw [e]
    exact parse_of (by decide) (fun h => by cases h) (force_bytes fun c hc => (b1 c hc).2) (by
      rw [readK_force (k := 1) rfl rfl b0 fun c hc => (b1 c hc).1, mkW_list]; rfl) (check_T (by decide) h)
theorem pt_5 (nm : ByteArray) (n : Int) (tx : ByteArray) (f : Bool) (l : List Fl) (h : checkK 5 nm n tx l = 0) (hn : hasNK 5 nm = true → n ≤ 1000000) : parseK (textK 5 nm n tx f l) = .ok 5 (nmT 5 nm) (nT 5 nm n) (txT 5 tx) (fT 5 f) (lT 5 l) := by
  rcases emptyS nm with ⟨hE, rfl⟩ | ⟨hE, hne⟩
  · have h0 := wNK_pos (check_split h).2.1 hasNK_e
    have h9 := hn hasNK_e
    have b1 := itoa_bytes h0
    have hw : readW 5 [mkW (Lib.itoa n)] = some (⟨#[]⟩, n.toNat) := by
      have : readW 5 [mkW (Lib.itoa n)] = if dig0 (mkW (Lib.itoa n)) = true then (num1 (mkW (Lib.itoa n))).map (fun n => (⟨#[]⟩, n)) else some (mkW (Lib.itoa n), 0) := rfl
      rw [this, if_pos (itoa_dig h0), num_itoa h0 h9]
      rfl
    have hnT : nT 5 ⟨#[]⟩ n = n.toNat := by unfold nT; rw [if_pos hasNK_e]
    cases f with
    | false =>
      have e : textK 5 ⟨#[]⟩ n tx false l = (vB 5).data.toList ++ saidL true (mkW (Lib.itoa n)) := by simp [textK, saidL, hasNmK, hasNK_e, hasFK, hasTK, list_mkW]
      rw [e]
      exact parse_of (by decide) (fun h => by cases h) (fun c hc => (b1 c (by rw [list_mkW] at hc; exact hc)).2) (by
        rw [readK_one (k := 5) rfl (itoa_ne n) fun c hc => (b1 c hc).1, hw, hnT]; rfl) (check_T (by decide) h)
    | true =>
      have e : textK 5 ⟨#[]⟩ n tx true l = (vB 5).data.toList ++ saidL true (mkW (Lib.itoa n ++ [32, 45, 102])) := by simp [textK, saidL, hasNmK, hasNK_e, hasFK, hasTK, list_mkW]
      rw [e]
      exact parse_of (by decide) (fun h => by cases h) (force_bytes fun c hc => (b1 c hc).2) (by
        rw [readK_force (k := 5) rfl rfl (itoa_ne n) fun c hc => (b1 c hc).1, hw, hnT]; rfl) (check_T (by decide) h)
  · have hm : Nm.goodN nm = true := by
      have h1 := (check_split h).1
      have h2 : wMK 5 nm = if nm = ⟨#[]⟩ then 0 else if Nm.goodN nm = true then 0 else 5 := rfl
      rw [h2, if_neg hne] at h1
      split at h1
      · assumption
      · cases h1
    obtain ⟨b0, b1, b2⟩ := good_bytes hm
    have hK : hasNK 5 nm = false := hasNK_ne hE
    have hw : readW 5 [mkW nm.data.toList] = some (nm, 0) := by
      rw [mkW_list]
      have : readW 5 [nm] = if dig0 nm = true then (num1 nm).map (fun n => (⟨#[]⟩, n)) else some (nm, 0) := rfl
      rw [this, if_neg (by rw [b2]; simp)]
    have hnT : nT 5 nm n = 0 := by unfold nT; rw [if_neg (by rw [hK]; simp)]
    cases f with
    | false =>
      have e : textK 5 nm n tx false l = (vB 5).data.toList ++ saidL true nm := by simp [textK, saidL, hasNmK, hK, hasFK, hasTK, hne]
      rw [e]
      exact parse_of (by decide) (fun h => by cases h) (fun c hc => (b1 c hc).2) (by
        have := readK_one (k := 5) rfl b0 fun c hc => (b1 c hc).1
        rw [mkW_list] at this
        rw [mkW_list] at hw
        rw [this, hw, hnT]; rfl) (check_T (by decide) h)
    | true =>
      have e : textK 5 nm n tx true l = (vB 5).data.toList ++ saidL true (mkW (nm.data.toList ++ [32, 45, 102])) := by simp [textK, saidL, hasNmK, hK, hasFK, hasTK, hne, list_mkW]
      rw [e]
      exact parse_of (by decide) (fun h => by cases h) (force_bytes fun c hc => (b1 c hc).2) (by
        rw [readK_force (k := 5) rfl rfl b0 fun c hc => (b1 c hc).1, hw, hnT]; rfl) (check_T (by decide) h)

/-- What is said of a command that may be is read as that command. -/
theorem parse_text {k : Nat} (hk : k < 20) (nm : ByteArray) (n : Int) (tx : ByteArray) (f : Bool) (l : List Fl) (h : checkK k nm n tx l = 0) (hn : hasNK k nm = true → n ≤ 1000000) : parseK (textK k nm n tx f l) = .ok k (nmT k nm) (nT k nm n) (txT k tx) (fT k f) (lT k l) := by
  rcases k20 hk with rfl | rfl | rfl | rfl | rfl | rfl | rfl | rfl | rfl | rfl | rfl | rfl | rfl | rfl | rfl | rfl | rfl | rfl | rfl | rfl

  · exact pt_0 nm n tx f l h hn
  · exact pt_1 nm n tx f l h hn
  · exact pt_2 nm n tx f l h hn
  · exact pt_3 nm n tx f l h hn
  · exact pt_4 nm n tx f l h hn
  · exact pt_5 nm n tx f l h hn
  · exact pt_6 nm n tx f l h hn
  · exact pt_7 nm n tx f l h hn
  · exact pt_8 nm n tx f l h hn
  · exact pt_9 nm n tx f l h hn
  · exact pt_10 nm n tx f l h hn
  · exact pt_11 nm n tx f l h hn
  · exact pt_12 nm n tx f l h hn
  · exact pt_13 nm n tx f l h hn
  · exact pt_14 nm n tx f l h hn
  · exact pt_15 nm n tx f l h hn
  · exact pt_16 nm n tx f l h hn
  · exact pt_17 nm n tx f l h hn
  · exact pt_18 nm n tx f l h hn
  · exact pt_19 nm n tx f l h hn
/-- And that command is said just so. -/
theorem text_T {k : Nat} (hk : k < 20) (nm : ByteArray) (n : Int) (tx : ByteArray) (f : Bool) (l : List Fl) (h : checkK k nm n tx l = 0) : textK k (nmT k nm) ((nT k nm n : Nat) : Int) (txT k tx) (fT k f) (lT k l) = textK k nm n tx f l := by
  have hi : hasNK k nm = true → ((nT k nm n : Nat) : Int) = n := fun hh => nT_int (check_split h).2.1 hh
  unfold textK
  rw [hasNK_T hk]
  have e1 : (if hasNmK k = true ∧ nmT k nm ≠ ⟨#[]⟩ then 32 :: (nmT k nm).data.toList else []) = if hasNmK k = true ∧ nm ≠ ⟨#[]⟩ then 32 :: nm.data.toList else [] := by
    unfold nmT
    by_cases hh : hasNmK k = true
    · rw [if_pos hh]
    · rw [if_neg (fun x => hh x.1), if_neg (fun x => hh x.1)]
  have e2 : (if hasNK k nm = true then 32 :: Lib.itoa ((nT k nm n : Nat) : Int) else []) = if hasNK k nm = true then 32 :: Lib.itoa n else [] := by
    by_cases hh : hasNK k nm = true
    · rw [if_pos hh, if_pos hh, hi hh]
    · rw [if_neg hh, if_neg hh]
  have e3 : (if hasFK k = true ∧ fT k f = true then [32, 45, 102] else ([] : List UInt8)) = if hasFK k = true ∧ f = true then [32, 45, 102] else [] := by
    unfold fT
    by_cases hh : hasFK k = true
    · rw [if_pos hh]
    · rw [if_neg (fun x => hh x.1), if_neg (fun x => hh x.1)]
  have e4 : (if hasTK k = true ∧ txT k tx ≠ ⟨#[]⟩ then 32 :: (txT k tx).data.toList else []) = if hasTK k = true ∧ tx ≠ ⟨#[]⟩ then 32 :: tx.data.toList else [] := by
    unfold txT
    by_cases hh : hasTK k = true
    · rw [if_pos hh]
    · rw [if_neg (fun x => hh x.1), if_neg (fun x => hh x.1)]
  have e5 : (if k = 14 then 10 :: stepsG (lT k l) else []) = if k = 14 then 10 :: stepsG l else [] := by
    unfold lT
    by_cases hh : k = 14
    · rw [if_pos hh, if_pos hh, if_pos hh, stepsG_nrm]
    · rw [if_neg hh, if_neg hh]
  rw [e1, e2, e3, e4, e5]
end Go.Proofs.YtanjcjnkppnhcaaGreatDoor

namespace Go.Proofs.YtanjcjnkppnhcaaGreatDoor
open Go Go.RowKit

theorem vB_size (k : Nat) (hk : k < 20) : (vB k).size ≤ 10 := by
  have H : ∀ j : Fin 20, (vB j.1).size ≤ 10 := by decide +kernel
  exact H ⟨k, hk⟩
end Go.Proofs.YtanjcjnkppnhcaaGreatDoor

namespace Go.Proofs.YtanjcjnkppnhcaaGreatDoor
open Go Go.RowKit

abbrev g3 : List (List Int) := [[], [1], [2]]
abbrev l2 : List Fl := [(⟨#[112, 105, 99, 107]⟩, 3, ⟨#[]⟩), (⟨#[114, 101, 119, 111, 114, 100]⟩, 4, ⟨#[110, 101, 119, 32, 119, 111, 114, 100, 115]⟩)]
abbrev p2 : List Fl := [(bPick, 2, ⟨#[]⟩), (bPick, 3, ⟨#[]⟩)]
end Go.Proofs.YtanjcjnkppnhcaaGreatDoor
