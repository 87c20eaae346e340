/-
  The walk of TodoPlain.
-/
import Derived.Test.YtanjcjnkppnhcaaDoorTdL
import Derived.Test.YtanjcjnkppnhcaaDoorGrGEq
namespace Go.Proofs.YtanjcjnkppnhcaaDoor
open Go Go.RowKit

theorem mem_pickL {gs : List (List Int)} {X : List Int} {x : Fl} (h : x ∈ pickL gs X) : x.1 = bPick ∧ x.2.1 ∈ X ∧ (G.par gs x.2.1).length < 2 := by
  unfold pickL at h
  obtain ⟨c, hc, hx⟩ := List.mem_filterMap.1 h
  split at hx
  · rename_i h2
    cases hx
    exact ⟨rfl, hc, h2⟩
  · cases hx
theorem plain_in {gs : List (List Int)} {onto frm : Int} {x : Fl} (h : x ∈ plainS gs onto frm) : x.1 = bPick ∧ (1 ≤ x.2.1 ∧ x.2.1 ≤ gs.length) ∧ (G.par gs x.2.1).length < 2 := by
  obtain ⟨h1, h2, h3⟩ := mem_pickL h
  exact ⟨h1, onlL_in h2, h3⟩
theorem wrong_plain {gs : List (List Int)} {onto frm : Int} {x : Fl} (h : x ∈ plainS gs onto frm) (b : Bool) : wrongV gs b x = 0 := by
  obtain ⟨h1, ⟨h2, h3⟩, h4⟩ := plain_in h
  obtain ⟨v, c, t⟩ := x
  dsimp only at h1 h2 h3 h4
  subst h1
  unfold wrongV
  have k1 : ¬ knownV bPick = false := by decide +kernel
  have k2 : ¬ (bPick.toList == [115, 113, 117, 97, 115, 104]) = true := by decide +kernel
  have k3 : ¬ (bPick.toList == [102, 105, 120, 117, 112]) = true := by decide +kernel
  rw [if_neg k1, if_neg (by dsimp only; omega), if_neg (fun h => h.1.elim (fun h => k2 h) (fun h => k3 h))]
theorem chkS_plain {gs : List (List Int)} : ∀ (l : List Fl) (i : Nat) (b : Bool), (∀ x ∈ l, ∀ b, wrongV gs b x = 0) → chkS gs l i b = none
  | [], _, _, _ => rfl
  | x :: l, i, b, h => by
    unfold chkS
    rw [if_neg (by rw [h x List.mem_cons_self]; simp)]
    exact chkS_plain l _ _ fun y hy => h y (List.mem_cons_of_mem _ hy)
theorem check_plain {gs : List (List Int)} {onto frm : Int} (h : ¬ 32 < (plainS gs onto frm).length) : checkV gs (plainS gs onto frm) = none := by
  unfold checkV
  rw [if_neg h]
  exact chkS_plain _ _ _ fun x hx b => wrong_plain hx b
set_option maxRecDepth 100000 in
set_option maxHeartbeats 8000000 in
theorem todoPlain_walk (w : World) (m : Int) (hm : w.cell? ⟨1, 0, none⟩ = some (.int .i64 m)) (h1 : 1 < w.heap.size) (v : Value) (gs : List (List Int)) (onto frm : Int) (hG : G.Rows w v gs) :
    Calls Tryd.prog 3 #[v, .int .i64 onto, .int .i64 frm] w fun e w' => e = .returned (.bool true) ∧ Below w.heap.size w w' := by
  have KN := known21_yes w m hm h1
  have HG := Lib.hid fun W (hW : Below w.heap.size w W) => hG.below hW
  obtain ⟨A, c, rfl⟩ := hG.form
  have hlen := hG.len
  have n0 : (0 : Int) ≤ (gs.length : Int) := Int.natCast_nonneg _
  have n9 : (gs.length : Int) ≤ 9223372036854775807 := by have h1 := hlen.2.1; have h2 := hlen.2.2; unfold maxLen at h2; omega
  clear hG hlen hm h1
  go_enter Tryd.func3, Tryd.ntmps3
  go_wp2_with fail
  refine KN.mono ?_
  rintro e w1 ⟨rfl, d1⟩
  have D1 := Lib.hid d1
  clear d1 KN
  by_cases h60 : 60 < gs.length
  · have h60i : (60 : Int) < (gs.length : Int) := by omega
    go_wp2
    go_ret
    exact ⟨rfl, D1.out⟩
  have h60i : ¬ (60 : Int) < (gs.length : Int) := by omega
  have CK := Lib.hid (G.refCheck_any w1 _ gs (HG.out _ D1.out))
  go_wp2_with fail
  refine CK.out.mono ?_
  rintro e w2 ⟨rfl, d2⟩
  have D2 := Lib.hid (D1.out.trans (d2.mono D1.out.size))
  clear CK d2 D1
  by_cases hc : G.chk gs = 0
  case neg =>
    have e1 : (G.chk gs != 0) = true := by simpa using hc
    go_wp2
    go_ret
    exact ⟨rfl, D2.out⟩
  obtain ⟨-, ok, two⟩ := G.chk_ok hc
  have e1 : (G.chk gs != 0) = false := by simpa using hc
  have hN : gs.length ≤ 2000 := by omega
  have PL := Lib.hid (plain_any w2 _ gs onto frm (HG.out _ D2.out) hN)
  go_wp2_with fail
  refine PL.out.mono ?_
  rintro e w3 ⟨u3, rfl, o3, d3⟩
  have D3 := Lib.hid (D2.out.trans (d3.mono D2.out.size))
  have R3 := Lib.hid (Reads.of_own (enc := cF) cF_len o3)
  obtain ⟨A3, c3, rfl⟩ := own_form o3
  have RP := Lib.hid (refPlain_any w3 _ gs onto frm (HG.out _ D3.out) hN ok)
  have hin := Lib.hid fun x (hx : x ∈ plainS gs onto frm) => plain_in hx
  have hck := Lib.hid (@check_plain gs onto frm)
  generalize plainS gs onto frm = L at *
  have L0 : (0 : Int) ≤ (L.length : Int) := Int.natCast_nonneg _
  have L9 : (L.length : Int) ≤ 9223372036854775807 := by have := R3.out.len.2; unfold maxLen at this; omega
  clear PL o3 d3 D2 e1 hc ok two
  go_wp2_with fail
  refine RP.out.mono ?_
  rintro e w4 ⟨u4, rfl, o4, d4⟩
  have D4 := Lib.hid (D3.out.trans (d4.mono D3.out.size))
  have E4 := Lib.hid d4
  have SY := Lib.hid (same_yes w4 _ u4 L (R3.out.below d4) (Reads.of_own (enc := cF) cF_len o4))
  clear RP o4 d4
  go_wp2_with fail
  refine SY.out.mono ?_
  rintro e w5 ⟨rfl, d5⟩
  have D5 := Lib.hid (D4.out.trans (d5.mono D4.out.size))
  have E5 := Lib.hid (E4.out.trans (d5.mono E4.out.size))
  clear SY d5 D4 E4
  by_cases h32 : 32 < L.length
  · have h32i : (32 : Int) < (L.length : Int) := by omega
    go_wp2
    go_ret
    exact ⟨rfl, D5.out⟩
  have h32i : ¬ (32 : Int) < (L.length : Int) := by omega
  have CT := checkS_any w5 _ _ L gs (R3.out.below E5.out) (HG.out _ D5.out) (by omega) (fun x hx => by obtain ⟨-, ⟨h1, h2⟩, -⟩ := hin.out x hx; omega)
  rw [hck.out h32] at CT
  have CT := Lib.hid CT
  go_wp2_with fail
  refine CT.out.mono ?_
  rintro e w6 (⟨-, rfl, d6⟩ | ⟨i, k, F, hx, _⟩)
  case inr => cases hx
  have D6 := Lib.hid (D5.out.trans (d6.mono D5.out.size))
  clear CT d6
  go_wp2
  go_ret
  exact ⟨rfl, D6.out⟩
end Go.Proofs.YtanjcjnkppnhcaaDoor
