/-
  cmd: what is wrong with a name, a text, the steps of a command; Check.
  cmd: what is wrong with a name; Check.
  cmd.Check: what is wrong with a command first.
  The document's CheckCmd, its parts: a name, a number, a text, the steps.
  rectolaw21.Of: steps as the document's.
-/
import Derived.Test.YtanjcjnkppnhcaaGreatDoorQAS
import Derived.Test.YtanjcjnkppnhcaaGreatDoorQAG
import Derived.Deep.RegionHeld3

namespace Go.Proofs.YtanjcjnkppnhcaaGreatDoor
open Go Go.RowKit

abbrev cmdC (k : Nat) (nm : ByteArray) (n : Int) (tx : ByteArray) (f : Bool) (A : Option Addr) (m c : Nat) : Array Value := #[.string (vB k), .string nm, .int .i64 n, .string tx, .bool f, .slice A m c]
/-- What is wrong with a text. -/
def wTK (k : Nat) (tx : ByteArray) : Int := if k = 2 then (if tx = ⟨#[]⟩ then 1 else wlV tx) else if k = 10 then wlV tx else 0
theorem emptyB (tx : ByteArray) : (tx = ⟨#[]⟩ ∧ tx.toList.isEmpty = true) ∨ (tx ≠ ⟨#[]⟩ ∧ tx.toList.isEmpty = false ∧ ¬ tx.toList = []) := by
  by_cases h : tx = ⟨#[]⟩
  · subst h; exact .inl ⟨rfl, by rw [ByteArray.toList_eq]; rfl⟩
  · have h2 : ¬ tx.toList = [] := fun e => h (bytesB_eq (by rw [← ByteArray.toList_eq, e]))
    exact .inr ⟨h, by simpa using h2, h2⟩
theorem ret_e {a b : Int} (h : a = b) : Ending.returned (.int .i64 a) = .returned (.int .i64 b) := by rw [h]
set_option maxRecDepth 100000 in
set_option maxHeartbeats 8000000 in
theorem wrongText_any (k : Nat) (hk : k < 20) (nm : ByteArray) (n : Int) (tx : ByteArray) (f : Bool) (A : Option Addr) (m c : Nat) (w : World) :
    Calls Tryz.prog 58 #[cmdV k nm n tx f A m c] w fun e w' => e = .returned (.int .i64 (wTK k tx)) ∧ Below w.heap.size w w' := by
  have hb := (Below.refl w.heap.size w).alloc (Nat.le_refl _) (.cells (cmdC k nm n tx f A m c) 52)
  have WL := Lib.hid fun W => wrongLine_any tx W
  unfold cmdV
  unfold cmdC at hb
  rcases emptyB tx with ⟨rfl, -⟩ | ⟨h1, h2, h3⟩
  · rcases k20 hk with rfl | rfl | rfl | rfl | rfl | rfl | rfl | rfl | rfl | rfl | rfl | rfl | rfl | rfl | rfl | rfl | rfl | rfl | rfl | rfl
    all_goals
      simp only [vB] at hb ⊢
      have HB := Lib.hid hb
      clear hb
      go_enter Tryz.func58, Tryz.ntmps58
      go_wp2_with (go_at_call 94; refine (WL.out _).mono ?_; rintro e w1 ⟨rfl, rfl⟩)
      go_ret
      exact ⟨rfl, HB.out⟩
  · have HV := Lib.hid (show wTK 2 tx = wlV tx by unfold wTK; rw [if_pos rfl, if_neg h1])
    clear h1
    rcases k20 hk with rfl | rfl | rfl | rfl | rfl | rfl | rfl | rfl | rfl | rfl | rfl | rfl | rfl | rfl | rfl | rfl | rfl | rfl | rfl | rfl
    all_goals
      simp only [vB] at hb ⊢
      have HB := Lib.hid hb
      clear hb
      go_enter Tryz.func58, Tryz.ntmps58
      go_wp2_with (go_at_call 94; refine (WL.out _).mono ?_; rintro e w1 ⟨rfl, rfl⟩)
      go_ret
      first
        | exact ⟨ret_e HV.out.symm, HB.out⟩
        | exact ⟨rfl, HB.out⟩
/-- What is wrong with a step of a command. -/
def wSV (x : Fl) : Int := if knownV x.1 = false then 5 else if x.2.1 < 1 ∨ 1000000 < x.2.1 then 1 else if isRw x.1 = false then 0 else if x.2.2 = ⟨#[]⟩ then 1 else wlV x.2.2
theorem known_six {v : ByteArray} (h : knownV v = true) : v = ⟨#[112, 105, 99, 107]⟩ ∨ v = ⟨#[114, 101, 119, 111, 114, 100]⟩ ∨ v = ⟨#[101, 100, 105, 116]⟩ ∨ v = ⟨#[115, 113, 117, 97, 115, 104]⟩ ∨ v = ⟨#[102, 105, 120, 117, 112]⟩ ∨ v = ⟨#[100, 114, 111, 112]⟩ := by
  have := known_verb h
  unfold verbL at this
  simpa using this
theorem known_none {v : ByteArray} (h : knownV v = false) : (v.toList == [112, 105, 99, 107]) = false ∧ (v.toList == [114, 101, 119, 111, 114, 100]) = false ∧ (v.toList == [101, 100, 105, 116]) = false ∧ (v.toList == [115, 113, 117, 97, 115, 104]) = false ∧ (v.toList == [102, 105, 120, 117, 112]) = false ∧ (v.toList == [100, 114, 111, 112]) = false := by
  unfold knownV at h
  simp only [Bool.or_eq_false_iff] at h
  obtain ⟨⟨⟨⟨⟨a, b⟩, c⟩, d⟩, e⟩, f⟩ := h
  exact ⟨a, b, c, d, e, f⟩
set_option maxRecDepth 100000 in
set_option maxHeartbeats 8000000 in
theorem wrongStep_any (x : Fl) (w : World) :
    Calls Tryz.prog 95 #[.agg #[.string x.1, .int .i64 x.2.1, .string x.2.2]] w fun e w' => e = .returned (.int .i64 (wSV x)) ∧ Below w.heap.size w w' := by
  obtain ⟨v, cc, tx⟩ := x
  have HB := Lib.hid ((Below.refl w.heap.size w).alloc (Nat.le_refl _) (.cells #[.string v, .int .i64 cc, .string tx] 41))
  cases hv : knownV v with
  | false =>
    have HV := Lib.hid (show (5 : Int) = wSV (v, cc, tx) by unfold wSV; rw [if_pos hv])
    obtain ⟨a, b, c, d, e, f⟩ := known_none hv
    clear hv
    go_enter Tryz.func95, Tryz.ntmps95
    go_wp2
    go_ret
    exact ⟨ret_e HV.out, HB.out⟩
  | true =>
    have HK := Lib.hid (show ¬ knownV v = false by rw [hv]; simp)
    have HS := known_six hv
    clear hv
    by_cases h1 : cc < 1
    · have HV := Lib.hid (show (1 : Int) = wSV (v, cc, tx) by unfold wSV; rw [if_neg HK.out, if_pos (.inl h1)])
      clear HK
      rcases HS with rfl | rfl | rfl | rfl | rfl | rfl
      all_goals
        go_enter Tryz.func95, Tryz.ntmps95
        go_wp2
        go_ret
        exact ⟨ret_e HV.out, HB.out⟩
    by_cases h2 : 1000000 < cc
    · have HV := Lib.hid (show (1 : Int) = wSV (v, cc, tx) by unfold wSV; rw [if_neg HK.out, if_pos (.inr h2)])
      clear HK
      rcases HS with rfl | rfl | rfl | rfl | rfl | rfl
      all_goals
        go_enter Tryz.func95, Tryz.ntmps95
        go_wp2
        go_ret
        exact ⟨ret_e HV.out, HB.out⟩
    have HQ := Lib.hid (show ¬ (cc < 1 ∨ 1000000 < cc) by omega)
    cases hr : isRw v with
    | false =>
      have HV := Lib.hid (show (0 : Int) = wSV (v, cc, tx) by unfold wSV; rw [if_neg HK.out, if_neg HQ.out, if_pos hr])
      have hr2 : (v.toList == [114, 101, 119, 111, 114, 100]) = false := hr
      clear hr HQ HK
      rcases HS with rfl | rfl | rfl | rfl | rfl | rfl
      case inr.inl => exact absurd hr2 (by decide +kernel)
      all_goals
        go_enter Tryz.func95, Tryz.ntmps95
        go_wp2
        go_ret
        exact ⟨ret_e HV.out, HB.out⟩
    | true =>
      obtain rfl : v = ⟨#[114, 101, 119, 111, 114, 100]⟩ := eq_of_toListB (by simpa using hr)
      clear HS
      rcases emptyB tx with ⟨rfl, -⟩ | ⟨e1, e2, e3⟩
      · have HV := Lib.hid (show (1 : Int) = wSV (⟨#[114, 101, 119, 111, 114, 100]⟩, cc, ⟨#[]⟩) by unfold wSV; rw [if_neg HK.out, if_neg HQ.out, if_neg (by rw [hr]; simp), if_pos rfl])
        clear HK HQ hr
        go_enter Tryz.func95, Tryz.ntmps95
        go_wp2
        go_ret
        exact ⟨ret_e HV.out, HB.out⟩
      · have HV := Lib.hid (show wlV tx = wSV (⟨#[114, 101, 119, 111, 114, 100]⟩, cc, tx) by unfold wSV; rw [if_neg HK.out, if_neg HQ.out, if_neg (by rw [hr]; simp), if_neg e1])
        have WL := Lib.hid fun W => wrongLine_any tx W
        clear HK HQ hr e1
        go_enter Tryz.func95, Tryz.ntmps95
        go_wp2_with fail
        refine (WL.out _).mono ?_
        rintro e w1 ⟨rfl, rfl⟩
        go_wp2
        go_ret
        exact ⟨ret_e HV.out, HB.out⟩
/-- The first wrong step. -/
def wSs : List Fl → Int
  | [] => 0
  | x :: l => if wSV x ≠ 0 then wSV x else wSs l
def wDK (k : Nat) (l : List Fl) : Int := if k = 14 then (if 32 < l.length then 4 else wSs l) else 0
theorem verb_not {k : Nat} (hk : k < 20) (h : k ≠ 14) : ((vB k).toList == [114, 101, 98, 97, 115, 101]) = false := by
  have : ∀ j : Fin 20, j.1 ≠ 14 → ((vB j.1).toList == [114, 101, 98, 97, 115, 101]) = false := by decide +kernel
  exact this ⟨k, hk⟩ h
set_option maxRecDepth 100000 in
set_option maxHeartbeats 8000000 in
theorem wrongTodo_any (k : Nat) (hk : k < 20) (nm : ByteArray) (n : Int) (tx : ByteArray) (f : Bool) (A : Option Addr) (l : List Fl) (c : Nat) (w : World) (hl : Reads 3 cF w (.slice A l.length c) l) :
    Calls Tryz.prog 59 #[cmdV k nm n tx f A l.length c] w fun e w' => e = .returned (.int .i64 (wDK k l)) ∧ Below w.heap.size w w' := by
  have hb := (Below.refl w.heap.size w).alloc (Nat.le_refl _) (.cells (cmdC k nm n tx f A l.length c) 52)
  have l0 : (0 : Int) ≤ (l.length : Int) := Int.natCast_nonneg _
  have HL := Lib.hid fun W (hW : Below w.heap.size w W) => hl.below hW
  have hz := hl.len.2
  unfold maxLen at hz
  unfold cmdV
  unfold cmdC at hb
  clear hl
  by_cases h14 : k = 14
  · subst h14
    simp only [vB] at hb ⊢
    have HB := Lib.hid hb
    have HZ := Lib.hid (Blk.new w 52 #[.string ⟨#[114, 101, 98, 97, 115, 101]⟩, .string nm, .int .i64 n, .string tx, .bool f, .slice A l.length c])
    obtain ⟨g, hg⟩ : ∃ g, g = w.heap.size := ⟨_, rfl⟩
    clear hb
    by_cases h32 : 32 < l.length
    · have HV := Lib.hid (show (4 : Int) = wDK 14 l by unfold wDK; rw [if_pos rfl, if_pos h32])
      have h32i : (32 : Int) < (l.length : Int) := by omega
      clear h32
      go_enter Tryz.func59, Tryz.ntmps59
      go_wp2
      go_ret
      exact ⟨ret_e HV.out, HB.out⟩
    have h32i : ¬ (32 : Int) < (l.length : Int) := by omega
    obtain ⟨R, hR⟩ : ∃ R, R = wDK 14 l := ⟨_, rfl⟩
    have HR := Lib.hid (show wSs (l.drop 0) = R by rw [hR]; unfold wDK; rw [if_pos rfl, if_neg h32]; rfl)
    rw [← hR]
    have hl9 : (l.length : Int) ≤ 32 := by omega
    clear hR h32 hz
    rw [← hg] at HZ
    go_enter Tryz.func59, Tryz.ntmps59
    go_wp2_with fail
    rw [← hg]
    go_loopw [4, 5, 16] (fun _ _ s16 wr => ∃ k : Nat, k ≤ l.length ∧ s16 = .int .i64 k ∧ Hid (wSs (l.drop k) = R) ∧ Hid (Blk wr g 52 #[.string ⟨#[114, 101, 98, 97, 115, 101]⟩, .string nm, .int .i64 n, .string tx, .bool f, .slice A l.length c]) ∧ Hid (Below w.heap.size w wr)) (fun _ _ s16 _ => l.length - (intOf s16).toNat)
    case atStart => exact ⟨0, Nat.zero_le _, rfl, HR, HZ, HB⟩
    case round =>
      clear HR HZ HB hg
      obtain ⟨k, hk, rfl, HR, HZ, HB⟩ := hrel
      have k0 : (0 : Int) ≤ (k : Int) := Int.natCast_nonneg _
      by_cases hlt : k < l.length
      · have hli : (k : Int) < (l.length : Int) := by omega
        obtain ⟨x, hx⟩ : ∃ x, l[k]? = some x := ⟨_, List.getElem?_eq_getElem hlt⟩
        obtain ⟨ad, rfl, c0, c1, c2⟩ := Fils.at_ (HL.out wr HB.out) hx
        have HP := HR.out
        rw [drop_consB hx, wSs] at HP
        replace HP := Lib.hid HP
        have HLT := Lib.hid hlt
        have WS := Lib.hid fun W => wrongStep_any x W
        obtain ⟨o, ho⟩ : ∃ o, o = wSV x := ⟨_, rfl⟩
        rw [← ho] at WS HP
        obtain ⟨v, cc, t⟩ := x
        dsimp only at c0 c1 c2 WS
        have B2 := Lib.hid (HB.out.alloc HB.out.size (.cells #[.string v, .int .i64 cc, .string t] 41))
        have Z2 := Lib.hid (HZ.out.alloc (.cells #[.string v, .int .i64 cc, .string t] 41))
        clear hx hlt hk ho HR HZ HB
        go_wp2_with fail
        refine (WS.out _).mono ?_
        rintro e w2 ⟨rfl, d2⟩
        have B3 := Lib.hid (B2.out.trans (d2.mono B2.out.size))
        have Z3 := Lib.hid (Z2.out.below d2 Z2.out.lt)
        clear d2 B2 Z2 WS c0 c1 c2
        by_cases h0 : o = 0
        · subst h0
          have HP2 := Lib.hid (show wSs (l.drop (k + 1)) = R by have := HP.out; rw [if_neg (by simp)] at this; exact this)
          clear HP
          go_wp2
          go_roundw
          case rel => exact ⟨k + 1, by have := HLT.out; omega, by go_num, HP2, Z3, B3⟩
          case measure => have := HLT.out; simp [intOf]; omega
        · have HP2 := Lib.hid (show o = R by have := HP.out; rw [if_pos h0] at this; exact this)
          have h0b : (o == 0) = false := by simpa using h0
          clear HP
          go_wp2
          go_ret
          exact ⟨ret_e HP2.out, B3.out⟩
      · obtain rfl : k = l.length := by omega
        have HP := HR.out
        rw [List.drop_length, wSs] at HP
        replace HP := Lib.hid HP
        clear hlt hk
        go_wp2
        go_ret
        exact ⟨ret_e HP.out, HB.out⟩
  · have HV := Lib.hid (show (0 : Int) = wDK k l by unfold wDK; rw [if_neg h14])
    have hv := verb_not hk h14
    have HB := Lib.hid hb
    clear hb h14 hk
    obtain ⟨v, hv2⟩ : ∃ v, v = vB k := ⟨_, rfl⟩
    rw [← hv2] at HB hv ⊢
    clear hv2
    go_enter Tryz.func59, Tryz.ntmps59
    go_wp2
    go_ret
    exact ⟨ret_e HV.out, HB.out⟩
end Go.Proofs.YtanjcjnkppnhcaaGreatDoor

namespace Go.Proofs.YtanjcjnkppnhcaaGreatDoor
open Go Go.RowKit

/-- What is wrong with a name. -/
def wMK (k : Nat) (nm : ByteArray) : Int :=
  if k = 0 then (if nm = ⟨#[]⟩ then 0 else chk nm.data.toList)
  else if k = 1 then chk nm.data.toList
  else if k = 5 then (if nm = ⟨#[]⟩ then 0 else if Nm.goodN nm = true then 0 else 5)
  else if k = 3 ∨ k = 4 ∨ k = 7 then (if Nm.goodN nm = true then 0 else 5)
  else if k = 6 then (if (nm.toList == [115, 111, 102, 116]) = true ∨ (nm.toList == [109, 105, 120, 101, 100]) = true ∨ (nm.toList == [104, 97, 114, 100]) = true then 0 else 5)
  else 0
theorem wMK_0 {nm : ByteArray} (h : nm ≠ ⟨#[]⟩) : wMK 0 nm = chk nm.data.toList := by unfold wMK; rw [if_pos rfl, if_neg h]
theorem wMK_1 (nm : ByteArray) : wMK 1 nm = chk nm.data.toList := rfl
set_option maxRecDepth 100000 in
set_option maxHeartbeats 16000000 in
theorem wrongName_any (k : Nat) (hk : k < 20) (nm : ByteArray) (n : Int) (tx : ByteArray) (f : Bool) (A : Option Addr) (m c : Nat) (w : World) (hs : nm.size ≤ 1000000) :
    Calls Tryz.prog 56 #[cmdV k nm n tx f A m c] w fun e w' => e = .returned (.int .i64 (wMK k nm)) ∧ Below w.heap.size w w' := by
  have hb := (Below.refl w.heap.size w).alloc (Nat.le_refl _) (.cells (cmdC k nm n tx f A m c) 52)
  have PC := Lib.hid fun W => check_any nm W (by omega)
  have GD := Lib.hid fun W => Nm.good_any nm W hs
  unfold cmdV
  unfold cmdC at hb
  unfold Checked at PC
  by_cases h6 : k = 6
  · subst h6
    simp only [vB] at hb ⊢
    have HB := Lib.hid hb
    clear hb PC GD
    cases hs1 : (nm.toList == [115, 111, 102, 116]) with
    | true =>
      have HV := Lib.hid (show (0 : Int) = wMK 6 nm by unfold wMK; rw [hs1]; rfl)
      go_enter Tryz.func56, Tryz.ntmps56
      go_wp2
      go_ret
      exact ⟨ret_e HV.out, HB.out⟩
    | false =>
      cases hs2 : (nm.toList == [109, 105, 120, 101, 100]) with
      | true =>
        have HV := Lib.hid (show (0 : Int) = wMK 6 nm by unfold wMK; rw [hs1, hs2]; rfl)
        go_enter Tryz.func56, Tryz.ntmps56
        go_wp2
        go_ret
        exact ⟨ret_e HV.out, HB.out⟩
      | false =>
        cases hs3 : (nm.toList == [104, 97, 114, 100]) with
        | true =>
          have HV := Lib.hid (show (0 : Int) = wMK 6 nm by unfold wMK; rw [hs1, hs2, hs3]; rfl)
          go_enter Tryz.func56, Tryz.ntmps56
          go_wp2
          go_ret
          exact ⟨ret_e HV.out, HB.out⟩
        | false =>
          have HV := Lib.hid (show (5 : Int) = wMK 6 nm by unfold wMK; rw [hs1, hs2, hs3]; rfl)
          go_enter Tryz.func56, Tryz.ntmps56
          go_wp2
          go_ret
          exact ⟨ret_e HV.out, HB.out⟩
  rcases emptyB nm with ⟨rfl, -⟩ | ⟨h1, h2, h3⟩
  · have GE := Lib.hid (show Nm.goodN ⟨#[]⟩ = false from Nm.goodN_short rfl)
    rw [GE.out] at GD
    rcases k20 hk with rfl | rfl | rfl | rfl | rfl | rfl | rfl | rfl | rfl | rfl | rfl | rfl | rfl | rfl | rfl | rfl | rfl | rfl | rfl | rfl
    case inr.inr.inr.inr.inr.inr.inl => exact absurd rfl h6
    all_goals
      simp only [vB] at hb ⊢
      have HB := Lib.hid hb
      clear hb h6
      go_enter Tryz.func56, Tryz.ntmps56
      go_wp2_with (first | (go_at_call 92; refine (PC.out _).mono ?_; rintro e w1 ⟨rfl, d1⟩; have D1 := Lib.hid d1; clear d1) | (go_at_call 93; refine (GD.out _).mono ?_; rintro e w1 ⟨rfl, rfl⟩))
      go_ret
      first
        | exact ⟨rfl, HB.out⟩
        | exact ⟨rfl, HB.out.trans (D1.out.mono HB.out.size)⟩
        | exact ⟨ret_e (by unfold wMK; rw [GE.out]; rfl), HB.out⟩
  · have HV0 := Lib.hid (wMK_0 h1)
    obtain ⟨gd, hgd⟩ : ∃ gd, gd = Nm.goodN nm := ⟨_, rfl⟩
    rw [← hgd] at GD
    have HG := Lib.hid hgd
    have HN := Lib.hid h1
    clear h1 hgd
    cases gd with
    | true =>
      have HV5 := Lib.hid (show wMK 5 nm = 0 by unfold wMK; rw [← HG.out]; simp)
      have HV3 := Lib.hid (show wMK 3 nm = 0 by unfold wMK; rw [← HG.out]; simp)
      rcases k20 hk with rfl | rfl | rfl | rfl | rfl | rfl | rfl | rfl | rfl | rfl | rfl | rfl | rfl | rfl | rfl | rfl | rfl | rfl | rfl | rfl
      case inr.inr.inr.inr.inr.inr.inl => exact absurd rfl h6
      all_goals
        simp only [vB] at hb ⊢
        have HB := Lib.hid hb
        clear hb h6
        go_enter Tryz.func56, Tryz.ntmps56
        go_wp2_with (first | (go_at_call 92; refine (PC.out _).mono ?_; rintro e w1 ⟨rfl, d1⟩; have D1 := Lib.hid d1; clear d1) | (go_at_call 93; refine (GD.out _).mono ?_; rintro e w1 ⟨rfl, rfl⟩))
        go_ret
        first
          | exact ⟨rfl, HB.out⟩
          | exact ⟨ret_e HV0.out.symm, HB.out.trans (D1.out.mono HB.out.size)⟩
          | exact ⟨rfl, HB.out.trans (D1.out.mono HB.out.size)⟩
          | exact ⟨ret_e HV5.out.symm, HB.out⟩
          | exact ⟨ret_e HV3.out.symm, HB.out⟩
    | false =>
      have HV5 := Lib.hid (show wMK 5 nm = 5 by unfold wMK; rw [← HG.out, if_neg (by decide), if_neg (by decide), if_pos rfl, if_neg HN.out]; simp)
      have HV3 := Lib.hid (show wMK 3 nm = 5 by unfold wMK; rw [← HG.out]; simp)
      rcases k20 hk with rfl | rfl | rfl | rfl | rfl | rfl | rfl | rfl | rfl | rfl | rfl | rfl | rfl | rfl | rfl | rfl | rfl | rfl | rfl | rfl
      case inr.inr.inr.inr.inr.inr.inl => exact absurd rfl h6
      all_goals
        simp only [vB] at hb ⊢
        have HB := Lib.hid hb
        clear hb h6
        go_enter Tryz.func56, Tryz.ntmps56
        go_wp2_with (first | (go_at_call 92; refine (PC.out _).mono ?_; rintro e w1 ⟨rfl, d1⟩; have D1 := Lib.hid d1; clear d1) | (go_at_call 93; refine (GD.out _).mono ?_; rintro e w1 ⟨rfl, rfl⟩))
        go_ret
        first
          | exact ⟨rfl, HB.out⟩
          | exact ⟨ret_e HV0.out.symm, HB.out.trans (D1.out.mono HB.out.size)⟩
          | exact ⟨rfl, HB.out.trans (D1.out.mono HB.out.size)⟩
          | exact ⟨ret_e HV5.out.symm, HB.out⟩
          | exact ⟨ret_e HV3.out.symm, HB.out⟩
end Go.Proofs.YtanjcjnkppnhcaaGreatDoor

namespace Go.Proofs.YtanjcjnkppnhcaaGreatDoor
open Go Go.RowKit

def checkK (k : Nat) (nm : ByteArray) (n : Int) (tx : ByteArray) (l : List Fl) : Int :=
  if wMK k nm ≠ 0 then wMK k nm else if wNK k nm n ≠ 0 then wNK k nm n else if wTK k tx ≠ 0 then wTK k tx else wDK k l
def CkTo (k : Nat) (o : Int) (w : World) (e : Ending) (w' : World) : Prop :=
  ((o = 0 ∧ e = .returned .nilIface) ∨ ∃ F, o ≠ 0 ∧ e = .returned (.iface 76 (.pointer (some ⟨F, 0, none⟩))) ∧ Blk w' F 78 #[.string bCmd, .int .i64 k, .iface 73 (.int .i64 o)]) ∧ Below w.heap.size w w'
/-- A command whose verb is none. -/
theorem check_none (v : ByteArray) (hv : placeV v = -1) (nm : ByteArray) (n : Int) (tx : ByteArray) (f : Bool) (A : Option Addr) (m c : Nat) (w : World) :
    Calls Tryz.prog 25 #[.agg #[.string v, .string nm, .int .i64 n, .string tx, .bool f, .slice A m c]] w fun e w' => (∃ F, e = .returned (.iface 76 (.pointer (some ⟨F, 0, none⟩))) ∧ Blk w' F 78 #[.string bCmd, .int .i64 (-1), .iface 73 (.int .i64 5)]) ∧ Below w.heap.size w w' := by
  have PL := Lib.hid fun W => place_any v W
  have FC := Lib.hid fun W => fault_cmd v 73 (.int .i64 5) W
  rw [hv] at PL FC
  have hb := (Below.refl w.heap.size w).alloc (Nat.le_refl _) (.cells #[.string v, .string nm, .int .i64 n, .string tx, .bool f, .slice A m c] 52)
  have HZ := Lib.hid (Blk.new w 52 #[.string v, .string nm, .int .i64 n, .string tx, .bool f, .slice A m c])
  obtain ⟨g, hg⟩ : ∃ g, g = w.heap.size := ⟨_, rfl⟩
  have HB := Lib.hid hb
  clear hb hv
  rw [← hg] at HZ
  go_enter Tryz.func25, Tryz.ntmps25
  go_wp2_with fail
  refine (PL.out _).mono ?_
  rintro e w1 ⟨rfl, d1⟩
  rw [← hg]
  have B1 := Lib.hid (HB.out.trans (d1.mono HB.out.size))
  have Z1 := Lib.hid (HZ.out.below d1 HZ.out.lt)
  have z0 := Z1.out.cell 0
  clear d1 HB HZ hg PL
  go_wp2_with fail
  refine (FC.out _).mono ?_
  rintro e w2 ⟨F, rfl, hF, hF2, d2⟩
  have B2 := Lib.hid (B1.out.trans (d2.mono B1.out.size))
  have HF := Lib.hid hF
  clear hF hF2 d2 B1 Z1 z0
  go_wp2
  go_ret
  exact ⟨⟨F, rfl, HF.out⟩, B2.out⟩
set_option maxRecDepth 100000 in
set_option maxHeartbeats 16000000 in
theorem check_cmd (k : Nat) (hk : k < 20) (nm : ByteArray) (n : Int) (tx : ByteArray) (f : Bool) (A : Option Addr) (l : List Fl) (c : Nat) (w : World) (hs : nm.size ≤ 1000000) (hl : Reads 3 cF w (.slice A l.length c) l) :
    Calls Tryz.prog 25 #[cmdV k nm n tx f A l.length c] w (CkTo k (checkK k nm n tx l) w) := by
  have PL := Lib.hid fun W => place_any (vB k) W
  have FC := Lib.hid fun o W => fault_cmd (vB k) 73 (.int .i64 o) W
  rw [place_vB hk] at PL FC
  have HL := Lib.hid fun W (hW : Below w.heap.size w W) => hl.below hW
  have W1 := Lib.hid fun W => wrongName_any k hk nm n tx f A l.length c W hs
  have W2 := Lib.hid fun W => wrongN_any k hk nm n tx f A l.length c W
  have W3 := Lib.hid fun W => wrongText_any k hk nm n tx f A l.length c W
  have W4 := Lib.hid fun W (hW : Below w.heap.size w W) => wrongTodo_any k hk nm n tx f A l c W (HL.out W hW)
  have hb := (Below.refl w.heap.size w).alloc (Nat.le_refl _) (.cells (cmdC k nm n tx f A l.length c) 52)
  have HZ := Lib.hid (Blk.new w 52 (cmdC k nm n tx f A l.length c))
  have HQ := Lib.hid (show checkK k nm n tx l = if wMK k nm ≠ 0 then wMK k nm else if wNK k nm n ≠ 0 then wNK k nm n else if wTK k tx ≠ 0 then wTK k tx else wDK k l from rfl)
  generalize checkK k nm n tx l = R at *
  generalize wMK k nm = o1 at *
  generalize wNK k nm n = o2 at *
  generalize wTK k tx = o3 at *
  generalize wDK k l = o4 at *
  obtain ⟨g, hg⟩ : ∃ g, g = w.heap.size := ⟨_, rfl⟩
  have HK := Lib.hid hk
  obtain ⟨v, hv⟩ : ∃ v, v = vB k := ⟨_, rfl⟩
  have HB := Lib.hid hb
  clear hb hl HL hk
  have hkl : ((k : Int) == -1) = false := by rw [beq_eq_false_iff_ne]; omega
  unfold cmdV at W1 W2 W3 W4 ⊢
  unfold cmdC at HZ HB
  rw [← hg] at HZ
  rw [← hv] at PL FC W1 W2 W3 W4 HZ HB ⊢
  clear hv
  go_enter Tryz.func25, Tryz.ntmps25
  go_wp2_with fail
  refine (PL.out _).mono ?_
  rintro e w1 ⟨rfl, d1⟩
  rw [← hg]
  have B1 := Lib.hid (HB.out.trans (d1.mono HB.out.size))
  have Z1 := Lib.hid (HZ.out.below d1 HZ.out.lt)
  clear d1 HB HZ hg PL
  have B2 := Lib.hid (B1.out.alloc B1.out.size (.cells #[.func (.func 56) #[] #[], .func (.func 57) #[] #[], .func (.func 58) #[] #[], .func (.func 59) #[] #[]] 102))
  have Z2 := Lib.hid (Z1.out.alloc (.cells #[.func (.func 56) #[] #[], .func (.func 57) #[] #[], .func (.func 58) #[] #[], .func (.func 59) #[] #[]] 102))
  have Y2 := Lib.hid (Blk.new w1 102 #[.func (.func 56) #[] #[], .func (.func 57) #[] #[], .func (.func 58) #[] #[], .func (.func 59) #[] #[]])
  have z0 := Z1.out.cell 0
  go_wp2_with fail
  clear z0 B1 Z1
  obtain ⟨y, hy⟩ : ∃ y, y = w1.heap.size := ⟨_, rfl⟩
  rw [← hy] at Y2 ⊢
  clear hy
  generalize w1.alloc (.cells #[.func (.func 56) #[] #[], .func (.func 57) #[] #[], .func (.func 58) #[] #[], .func (.func 59) #[] #[]] 102) = v2 at *
  refine wp_loop_rounds 5 ?_
  rw [rounds_succ]
  have y0 := Y2.out.cell 0
  have x0 := Z2.out.cell 0
  have x1 := Z2.out.cell 1
  have x2 := Z2.out.cell 2
  have x3 := Z2.out.cell 3
  have x4 := Z2.out.cell 4
  have x5 := Z2.out.cell 5
  go_wp2_with fail
  refine (W1.out _).mono ?_
  rintro e v3 ⟨rfl, d3⟩
  have B3 := Lib.hid (B2.out.trans (d3.mono B2.out.size))
  have Z3 := Lib.hid (Z2.out.below d3 Z2.out.lt)
  have Y3 := Lib.hid (Y2.out.below d3 Y2.out.lt)
  clear y0 x0 x1 x2 x3 x4 x5 d3 B2 Z2 Y2 W1
  have x0 := Z3.out.cell 0
  by_cases h0 : o1 = 0
  case neg =>
    have HR := Lib.hid (show R = o1 by rw [HQ.out, if_pos h0])
    have hb0 : (o1 == 0) = false := by simpa using h0
    have HN := Lib.hid h0
    clear h0 HQ
    go_wp2_with fail
    refine (FC.out _ _).mono ?_
    rintro e u1 ⟨F, rfl, hF, hF2, d9⟩
    have B9 := Lib.hid (B3.out.trans (d9.mono B3.out.size))
    have HF := Lib.hid hF
    clear hF hF2 d9 B3 Z3 Y3 x0
    go_wp2
    go_ret
    exact ⟨.inr ⟨F, by rw [HR.out]; exact HN.out, rfl, by rw [HR.out]; exact HF.out⟩, B9.out⟩

  subst h0
  clear x0
  go_wp2_with fail
  rw [rounds_succ]
  have y1 := Y3.out.cell 1
  have x0 := Z3.out.cell 0
  have x1 := Z3.out.cell 1
  have x2 := Z3.out.cell 2
  have x3 := Z3.out.cell 3
  have x4 := Z3.out.cell 4
  have x5 := Z3.out.cell 5
  go_wp2_with fail
  refine (W2.out _).mono ?_
  rintro e v4 ⟨rfl, d4⟩
  have B4 := Lib.hid (B3.out.trans (d4.mono B3.out.size))
  have Z4 := Lib.hid (Z3.out.below d4 Z3.out.lt)
  have Y4 := Lib.hid (Y3.out.below d4 Y3.out.lt)
  clear y1 x0 x1 x2 x3 x4 x5 d4 B3 Z3 Y3 W2
  have x0 := Z4.out.cell 0
  by_cases h1 : o2 = 0
  case neg =>
    have HR := Lib.hid (show R = o2 by rw [HQ.out, if_neg (show ¬ (0 : Int) ≠ 0 by simp), if_pos h1])
    have hb1 : (o2 == 0) = false := by simpa using h1
    have HN := Lib.hid h1
    clear h1 HQ
    go_wp2_with fail
    refine (FC.out _ _).mono ?_
    rintro e u1 ⟨F, rfl, hF, hF2, d9⟩
    have B9 := Lib.hid (B4.out.trans (d9.mono B4.out.size))
    have HF := Lib.hid hF
    clear hF hF2 d9 B4 Z4 Y4 x0
    go_wp2
    go_ret
    exact ⟨.inr ⟨F, by rw [HR.out]; exact HN.out, rfl, by rw [HR.out]; exact HF.out⟩, B9.out⟩

  subst h1
  clear x0
  go_wp2_with fail
  rw [rounds_succ]
  have y2 := Y4.out.cell 2
  have x0 := Z4.out.cell 0
  have x1 := Z4.out.cell 1
  have x2 := Z4.out.cell 2
  have x3 := Z4.out.cell 3
  have x4 := Z4.out.cell 4
  have x5 := Z4.out.cell 5
  go_wp2_with fail
  refine (W3.out _).mono ?_
  rintro e v5 ⟨rfl, d5⟩
  have B5 := Lib.hid (B4.out.trans (d5.mono B4.out.size))
  have Z5 := Lib.hid (Z4.out.below d5 Z4.out.lt)
  have Y5 := Lib.hid (Y4.out.below d5 Y4.out.lt)
  clear y2 x0 x1 x2 x3 x4 x5 d5 B4 Z4 Y4 W3
  have x0 := Z5.out.cell 0
  by_cases h2 : o3 = 0
  case neg =>
    have HR := Lib.hid (show R = o3 by rw [HQ.out, if_neg (show ¬ (0 : Int) ≠ 0 by simp), if_neg (show ¬ (0 : Int) ≠ 0 by simp), if_pos h2])
    have hb2 : (o3 == 0) = false := by simpa using h2
    have HN := Lib.hid h2
    clear h2 HQ
    go_wp2_with fail
    refine (FC.out _ _).mono ?_
    rintro e u1 ⟨F, rfl, hF, hF2, d9⟩
    have B9 := Lib.hid (B5.out.trans (d9.mono B5.out.size))
    have HF := Lib.hid hF
    clear hF hF2 d9 B5 Z5 Y5 x0
    go_wp2
    go_ret
    exact ⟨.inr ⟨F, by rw [HR.out]; exact HN.out, rfl, by rw [HR.out]; exact HF.out⟩, B9.out⟩

  subst h2
  clear x0
  go_wp2_with fail
  rw [rounds_succ]
  have y3 := Y5.out.cell 3
  have x0 := Z5.out.cell 0
  have x1 := Z5.out.cell 1
  have x2 := Z5.out.cell 2
  have x3 := Z5.out.cell 3
  have x4 := Z5.out.cell 4
  have x5 := Z5.out.cell 5
  go_wp2_with fail
  refine (W4.out _ B5.out).mono ?_
  rintro e v6 ⟨rfl, d6⟩
  have B6 := Lib.hid (B5.out.trans (d6.mono B5.out.size))
  have Z6 := Lib.hid (Z5.out.below d6 Z5.out.lt)
  have Y6 := Lib.hid (Y5.out.below d6 Y5.out.lt)
  clear y3 x0 x1 x2 x3 x4 x5 d6 B5 Z5 Y5 W4
  have x0 := Z6.out.cell 0
  by_cases h3 : o4 = 0
  case neg =>
    have HR := Lib.hid (show R = o4 by rw [HQ.out, if_neg (show ¬ (0 : Int) ≠ 0 by simp), if_neg (show ¬ (0 : Int) ≠ 0 by simp), if_neg (show ¬ (0 : Int) ≠ 0 by simp)])
    have hb3 : (o4 == 0) = false := by simpa using h3
    have HN := Lib.hid h3
    clear h3 HQ
    go_wp2_with fail
    refine (FC.out _ _).mono ?_
    rintro e u1 ⟨F, rfl, hF, hF2, d9⟩
    have B9 := Lib.hid (B6.out.trans (d9.mono B6.out.size))
    have HF := Lib.hid hF
    clear hF hF2 d9 B6 Z6 Y6 x0
    go_wp2
    go_ret
    exact ⟨.inr ⟨F, by rw [HR.out]; exact HN.out, rfl, by rw [HR.out]; exact HF.out⟩, B9.out⟩

  subst h3
  clear x0
  go_wp2_with fail
  rw [rounds_succ]
  go_wp2
  go_ret
  exact ⟨.inl ⟨by rw [HQ.out]; simp, rfl⟩, B6.out⟩
end Go.Proofs.YtanjcjnkppnhcaaGreatDoor

namespace Go.Proofs.YtanjcjnkppnhcaaGreatDoor
open Go Go.RowKit

set_option maxHeartbeats 4000000 in
theorem refLine_any (tx : ByteArray) (w : World) (hs : tx.size ≤ 100000) : Calls Tryz.prog 90 #[.string tx] w fun e w' => e = .returned (.bool (decide ((nls tx.data.toList).length ≠ 1))) ∧ Below w.heap.size w w' := by
  have LN := Lib.hid (refLines_any tx w hs)
  go_enter Tryz.func90, Tryz.ntmps90
  go_wp2_with fail
  refine LN.out.mono ?_
  rintro e w1 ⟨xs, u, hxs, rfl, ho, d1⟩
  have D1 := Lib.hid d1
  obtain ⟨A, c, rfl⟩ := own_form ho
  have HV := Lib.hid (show decide ((1 : Int) < (xs.length : Int)) = decide ((nls tx.data.toList).length ≠ 1) by
    have h1 : xs.length = (nls tx.data.toList).length := by rw [← hxs, List.length_map]
    have h2 := List.length_pos_iff.2 (nls_ne tx.data.toList)
    exact decide_eq_decide.2 (by omega))
  clear hxs ho d1 LN
  go_wp2
  go_ret
  exact ⟨congrArg (fun b => Ending.returned (.bool b)) HV.out, D1.out⟩
set_option maxRecDepth 100000 in
set_option maxHeartbeats 16000000 in
theorem refWords_any (k : Nat) (hk : k < 20) (nm : ByteArray) (n : Int) (tx : ByteArray) (f : Bool) (A : Option Addr) (m c : Nat) (w : World) :
    Calls Tryz.prog 52 #[cmdV k nm n tx f A m c] w fun e w' => e = .returned (.int .i64 (wTK k tx)) ∧ Below w.heap.size w w' := by
  have hb := (Below.refl w.heap.size w).alloc (Nat.le_refl _) (.cells (cmdC k nm n tx f A m c) 56)
  unfold cmdV
  unfold cmdC at hb
  by_cases hz : 256 < tx.size
  · have hzi : (256 : Int) < (tx.size : Int) := by omega
    have hw : wlV tx = 4 := if_pos hz
    have hne : tx ≠ ⟨#[]⟩ := fun e => by subst e; cases hz
    have HV2 := Lib.hid (show (4 : Int) = wTK 2 tx by unfold wTK; rw [if_pos rfl, if_neg hne, hw])
    have HV10 := Lib.hid (show (4 : Int) = wTK 10 tx by unfold wTK; rw [if_neg (by decide), if_pos rfl, hw])
    clear hz hw hne
    rcases k20 hk with rfl | rfl | rfl | rfl | rfl | rfl | rfl | rfl | rfl | rfl | rfl | rfl | rfl | rfl | rfl | rfl | rfl | rfl | rfl | rfl
    all_goals
      simp only [vB] at hb ⊢
      have HB := Lib.hid hb
      clear hb
      go_enter Tryz.func52, Tryz.ntmps52
      go_wp2
      go_ret
      first
        | exact ⟨rfl, HB.out⟩
        | exact ⟨ret_e HV2.out, HB.out⟩
        | exact ⟨ret_e HV10.out, HB.out⟩
  have hzi : ¬ (256 : Int) < (tx.size : Int) := by omega
  have LN := Lib.hid fun W => refLine_any tx W (by omega)
  rcases emptyB tx with ⟨rfl, -⟩ | ⟨h1, h2, h3⟩
  · clear hzi hz
    rcases k20 hk with rfl | rfl | rfl | rfl | rfl | rfl | rfl | rfl | rfl | rfl | rfl | rfl | rfl | rfl | rfl | rfl | rfl | rfl | rfl | rfl
    all_goals
      simp only [vB] at hb ⊢
      have HB := Lib.hid hb
      clear hb
      go_enter Tryz.func52, Tryz.ntmps52
      go_wp2_with (go_at_call 90; refine (LN.out _).mono ?_; rintro e w1 ⟨rfl, d1⟩; have D1 := Lib.hid d1; clear d1)
      go_ret
      first
        | exact ⟨rfl, HB.out⟩
        | exact ⟨rfl, HB.out.trans (D1.out.mono HB.out.size)⟩
  · obtain ⟨b, hb1⟩ : ∃ b, b = decide ((nls tx.data.toList).length ≠ 1) := ⟨_, rfl⟩
    have hw : wlV tx = if b = true then 2 else 0 := by
      unfold wlV
      rw [if_neg hz, hb1]
      by_cases h : (nls tx.data.toList).length = 1 <;> simp [h]
    rw [← hb1] at LN
    have HV2 := Lib.hid (show wTK 2 tx = if b = true then 2 else 0 by unfold wTK; rw [if_pos rfl, if_neg h1, hw])
    have HV10 := Lib.hid (show wTK 10 tx = if b = true then 2 else 0 by unfold wTK; rw [if_neg (by decide), if_pos rfl, hw])
    clear hz hw h1 hb1
    cases b
    all_goals
      rcases k20 hk with rfl | rfl | rfl | rfl | rfl | rfl | rfl | rfl | rfl | rfl | rfl | rfl | rfl | rfl | rfl | rfl | rfl | rfl | rfl | rfl
    all_goals
      simp only [vB] at hb ⊢
      have HB := Lib.hid hb
      clear hb
      go_enter Tryz.func52, Tryz.ntmps52
      go_wp2_with (go_at_call 90; refine (LN.out _).mono ?_; rintro e w1 ⟨rfl, d1⟩; have D1 := Lib.hid d1; clear d1)
      go_ret
      first
        | exact ⟨rfl, HB.out⟩
        | exact ⟨ret_e HV2.out.symm, HB.out.trans (D1.out.mono HB.out.size)⟩
        | exact ⟨ret_e HV10.out.symm, HB.out.trans (D1.out.mono HB.out.size)⟩
theorem wNK_5 (nm : ByteArray) (n : Int) : wNK 5 nm n = if nm.toList.isEmpty = false then 0 else if n < 1 then 1 else 0 := rfl
theorem wNK_5e (n : Int) : wNK 5 ⟨#[]⟩ n = if n < 1 then 1 else 0 := by
  rw [wNK_5, if_neg (by rw [ByteArray.toList_eq]; decide)]
set_option maxRecDepth 100000 in
set_option maxHeartbeats 16000000 in
theorem refNum_any (k : Nat) (hk : k < 20) (nm : ByteArray) (n : Int) (tx : ByteArray) (f : Bool) (A : Option Addr) (m c : Nat) (w : World) (hn : -9223372036854775808 ≤ n) :
    Calls Tryz.prog 51 #[cmdV k nm n tx f A m c] w fun e w' => e = .returned (.int .i64 (wNK k nm n)) ∧ Below w.heap.size w w' := by
  have hb := (Below.refl w.heap.size w).alloc (Nat.le_refl _) (.cells (cmdC k nm n tx f A m c) 56)
  unfold cmdV
  unfold cmdC at hb
  have hq : ¬ n < -9223372036854775808 := by omega
  clear hn
  by_cases n0 : n < 0
  · have n1 : n < 1 := by omega
    have HV1 := Lib.hid (show (if n < 1 then (1 : Int) else 0) = 1 from if_pos n1)
    have HV0 := Lib.hid (show (if n < 0 then (1 : Int) else 0) = 1 from if_pos n0)
    rcases emptyB nm with ⟨rfl, -⟩ | ⟨h1, h2, h3⟩
    · clear n1
      rcases k20 hk with rfl | rfl | rfl | rfl | rfl | rfl | rfl | rfl | rfl | rfl | rfl | rfl | rfl | rfl | rfl | rfl | rfl | rfl | rfl | rfl
      all_goals
        simp only [vB] at hb ⊢
        have HB := Lib.hid hb
        clear hb
        have n1 : n < 1 := by omega
        go_enter Tryz.func51, Tryz.ntmps51
        go_wp2
        go_ret
        first
          | exact ⟨rfl, HB.out⟩
          | exact ⟨ret_e HV1.out.symm, HB.out⟩
          | exact ⟨ret_e HV0.out.symm, HB.out⟩
          | exact ⟨ret_e ((wNK_5e n).trans HV1.out).symm, HB.out⟩
    · have HV5 := Lib.hid (show (0 : Int) = wNK 5 nm n by rw [wNK_5, if_pos h2])
      clear h1
      rcases k20 hk with rfl | rfl | rfl | rfl | rfl | rfl | rfl | rfl | rfl | rfl | rfl | rfl | rfl | rfl | rfl | rfl | rfl | rfl | rfl | rfl
      all_goals
        simp only [vB] at hb ⊢
        have HB := Lib.hid hb
        clear hb
        go_enter Tryz.func51, Tryz.ntmps51
        go_wp2
        go_ret
        first
          | exact ⟨rfl, HB.out⟩
          | exact ⟨ret_e HV5.out, HB.out⟩
          | exact ⟨ret_e HV1.out.symm, HB.out⟩
          | exact ⟨ret_e HV0.out.symm, HB.out⟩
  have HV0 := Lib.hid (show (if n < 0 then (1 : Int) else 0) = 0 from if_neg n0)
  by_cases n1 : n < 1
  · have HV1 := Lib.hid (show (if n < 1 then (1 : Int) else 0) = 1 from if_pos n1)
    rcases emptyB nm with ⟨rfl, -⟩ | ⟨h1, h2, h3⟩
    · rcases k20 hk with rfl | rfl | rfl | rfl | rfl | rfl | rfl | rfl | rfl | rfl | rfl | rfl | rfl | rfl | rfl | rfl | rfl | rfl | rfl | rfl
      all_goals
        simp only [vB] at hb ⊢
        have HB := Lib.hid hb
        clear hb
        go_enter Tryz.func51, Tryz.ntmps51
        go_wp2
        go_ret
        first
          | exact ⟨rfl, HB.out⟩
          | exact ⟨ret_e HV1.out.symm, HB.out⟩
          | exact ⟨ret_e HV0.out.symm, HB.out⟩
          | exact ⟨ret_e ((wNK_5e n).trans HV1.out).symm, HB.out⟩
    · have HV5 := Lib.hid (show (0 : Int) = wNK 5 nm n by rw [wNK_5, if_pos h2])
      clear h1
      rcases k20 hk with rfl | rfl | rfl | rfl | rfl | rfl | rfl | rfl | rfl | rfl | rfl | rfl | rfl | rfl | rfl | rfl | rfl | rfl | rfl | rfl
      all_goals
        simp only [vB] at hb ⊢
        have HB := Lib.hid hb
        clear hb
        go_enter Tryz.func51, Tryz.ntmps51
        go_wp2
        go_ret
        first
          | exact ⟨rfl, HB.out⟩
          | exact ⟨ret_e HV5.out, HB.out⟩
          | exact ⟨ret_e HV1.out.symm, HB.out⟩
          | exact ⟨ret_e HV0.out.symm, HB.out⟩
  · have HV1 := Lib.hid (show (if n < 1 then (1 : Int) else 0) = 0 from if_neg n1)
    have HV5 := Lib.hid (show (0 : Int) = wNK 5 nm n by rw [wNK_5, HV1.out]; simp)
    rcases emptyB nm with ⟨rfl, -⟩ | ⟨h1, h2, h3⟩
    all_goals
      rcases k20 hk with rfl | rfl | rfl | rfl | rfl | rfl | rfl | rfl | rfl | rfl | rfl | rfl | rfl | rfl | rfl | rfl | rfl | rfl | rfl | rfl
    all_goals
      simp only [vB] at hb ⊢
      have HB := Lib.hid hb
      clear hb
      go_enter Tryz.func51, Tryz.ntmps51
      go_wp2
      go_ret
      first
        | exact ⟨rfl, HB.out⟩
        | exact ⟨ret_e HV5.out, HB.out⟩
        | exact ⟨ret_e HV1.out.symm, HB.out⟩
        | exact ⟨ret_e HV0.out.symm, HB.out⟩
end Go.Proofs.YtanjcjnkppnhcaaGreatDoor

namespace Go.Proofs.YtanjcjnkppnhcaaGreatDoor
open Go.RowKit

theorem refFileInfo : (Tryz.prog.info? 81).map (fun i => (i.zero, i.size, i.bytes)) = some (some (.agg #[.string ⟨#[]⟩, .int .i64 0, .string ⟨#[]⟩]), 3, 40) := by kernel_rfl
def FilCells (ad : Addr) (i : Nat) (p : ByteArray) (m : Int) (d : ByteArray) (W : World) : Prop :=
  W.cell? (ad.add (i * 3)) = some (.string p) ∧ W.cell? ⟨(ad.add (i * 3)).block, (ad.add (i * 3)).off + 1, none⟩ = some (.int .i64 m) ∧ W.cell? ⟨(ad.add (i * 3)).block, (ad.add (i * 3)).off + 2, none⟩ = some (.string d)

set_option maxHeartbeats 2000000 in
theorem lawOf_any (w : World) (v : Value) (l : List Fl) (h : Reads 3 cF w v l) (hl : l.length ≤ 100000) :
    Calls Tryz.prog 18 #[v] w (OwnTo 81 3 cF l w) := by
  obtain ⟨A, c, rfl⟩ := h.form
  have hn := h.len
  have hnm : l.length ≤ 9223372036854775807 := by omega
  have HO := Lib.hid h
  obtain ⟨i0, hi, hz0, hz1, hz2⟩ := info_parts refFileInfo
  clear h hn
  go_enter Tryz.func18, Tryz.ntmps18
  go_wp2
  go_loopw [3, 4] (fun s3 s4 wr => ∃ i : Nat, i ≤ l.length ∧ s4 = .int .i64 i ∧ Hid (wr.ownsRow w.heap.size 81 3 s3 i ((l.take i).flatMap cF)) ∧ Below w.heap.size w wr) (fun _ s4 _ => l.length - (intOf s4).toNat)
  case atStart => exact ⟨0, Nat.zero_le _, rfl, Lib.hid (World.ownsRow_nil _ _ _ _), Below.refl _ _⟩
  case round =>
    obtain ⟨i, hil, rfl, hown, hb⟩ := hrel
    by_cases hlt : i < l.length
    · obtain ⟨f, hf⟩ : ∃ f, l[i]? = some f := ⟨_, List.getElem?_eq_getElem hlt⟩
      obtain ⟨ad, rfl, c0, c1, c2⟩ := Fils.at_ HO.out hf
      obtain ⟨p, m, d⟩ := f
      have HF := Lib.hid hf
      have ZZ := Lib.hid fun W (hW : Below w.heap.size w W) => (⟨(hW.cell (World.block_lt_of_cell? _ _ c0)).trans c0, (hW.cell (World.block_lt_of_cell? _ _ c1)).trans c1, (hW.cell (World.block_lt_of_cell? _ _ c2)).trans c2⟩ : FilCells ad i p m d W)
      unfold FilCells at ZZ
      have z0 := ZZ.out _ hb.drew
      have i0' : (0 : Int) ≤ (i : Int) := Int.natCast_nonneg _
      have hi1 : (i : Int) < (l.length : Int) := by omega
      have hsz := hb.size
      clear hf c0 c1 c2
      go_wp2
      go_region_held3 (fun w' => w'.cell? (ad.add (i * 3)) = some (.string p) ∧ w'.cell? ⟨(ad.add (i * 3)).block, (ad.add (i * 3)).off + 1, none⟩ = some (.int .i64 m) ∧ w'.cell? ⟨(ad.add (i * 3)).block, (ad.add (i * 3)).off + 2, none⟩ = some (.string d))
        (first | exact z0 | exact ZZ.out _ (hb.drew.alloc hsz _) | exact z5)
        ((refine step_append_lies _ (by rfl) _ _ 28 (by rfl) w.heap.size 81 i0 (.agg #[.string ⟨#[]⟩, .int .i64 0, .string ⟨#[]⟩]) 3 40 Tryz.underlying28 hi hz0 hz1 hz2 rfl (by omega) _ i _ (by rfl) (hown.out.drew.alloc _)
            ⟨wr.heap.size, 0, none⟩ 1 1 [.string p, .int .i64 m, .string d] (by rfl) (by rfl) (World.news_of_block (cs := #[.string p, .int .i64 m, .string d]) (t := 81) (fr := (0, 0)) (heap_alloc_new wr.drew _)) (by simp [Value.oneCell'])
            (by omega) (by unfold maxLen; omega) (by omega) (by simp; omega) (wr.heap.size + 1) (by simp) ?_; intro gg cap w5 hown5 hg5 hat hlt5; have hb5 := (hb.drew.alloc hsz (.cells #[.string p, .int .i64 m, .string d] 81)).grown hg5 (by simp; omega) (fun k hk => (hown.out.lt k hk).1); have z5 := ZZ.out _ hb5))
      go_wp2
      go_roundw
      case rel => exact ⟨i + 1, by omega, by go_num, Lib.hid (by rw [take_snoc HF.out, flat_snoc]; exact hown5), hb5⟩
      case measure => simp [intOf]; omega
    · obtain rfl : i = l.length := by omega
      have HL : Hid ((l.take l.length).flatMap cF = l.flatMap cF) := Lib.hid (by rw [List.take_length])
      go_wp2
      go_ret
      exact ⟨_, rfl, by rw [← HL.out]; exact hown.out, hb⟩
end Go.Proofs.YtanjcjnkppnhcaaGreatDoor
