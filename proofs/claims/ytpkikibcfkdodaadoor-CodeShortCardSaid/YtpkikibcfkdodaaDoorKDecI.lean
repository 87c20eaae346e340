/-
  (*Dec).Int, (*Dec).Text, (*Dec).Left, (*Dec).Err, where nothing is wrong.
-/
import Derived.Test.YtpkikibcfkdodaaDoorKDec
namespace Go.Proofs.YtpkikibcfkdodaaDoor
open Go Go.RowKit

/-- The number that a folded one is. -/
theorem unfold_go {n : Int} (h : -9223372036854775808 ≤ n ∧ n ≤ 9223372036854775807) : ∃ m : Nat, (zz n : Int) / 2 = (m : Int) ∧ m < 9223372036854775808 ∧
    ((zz n % 2 = 0 ∧ n = (m : Int)) ∨ (zz n % 2 = 1 ∧ n = -(m : Int) - 1)) := by
  refine ⟨zz n / 2, by omega, ?_, ?_⟩
  · have := zz_lt h.1 h.2; omega
  · by_cases h0 : 0 ≤ n
    · have := zz_pos h0; exact .inl ⟨by omega, by omega⟩
    · have := zz_neg h0; exact .inr ⟨by omega, by omega⟩

/-- A Dec that stood at at_ stands at b now. -/
def Stood (w : World) (B D : Nat) (v : Value) (L : List UInt8) (b : Nat) (w' : World) : Prop := DecAt w' B D v L b ∧ Touch w w' D none

set_option maxRecDepth 100000 in
set_option maxHeartbeats 2000000 in
theorem decInt_any (w : World) (B D at_ : Nat) (v : Value) (L rest : List UInt8) (n : Int) (h : DecAt w B D v L at_) (hL : L.drop at_ = encI n ++ rest) (hl : L.length ≤ 1000000) (hn : -9223372036854775808 ≤ n ∧ n ≤ 9223372036854775807) :
    Calls Tryd.prog 16 #[.pointer (some ⟨D, 0, none⟩)] w fun e w' => e = .returned (.int .i64 n) ∧ Stood w B D v L (at_ + (encI n).length) w' := by
  have hpos : 0 < (encI n).length := by
    unfold encI
    by_cases h1 : zz n < 128
    · rw [enc_small h1]; simp
    · rw [enc_big h1]; simp
  have hlen : L.length - at_ = (encI n).length + rest.length := by rw [← List.length_drop, hL, List.length_append]
  have hlt : at_ < L.length := by omega
  obtain ⟨A, c, rfl⟩ := own_form h.own
  rcases h.own.2 with ⟨_, h0⟩ | ⟨g, cap, cur, hv, _, hh, hnc, hm, _⟩
  · omega
  injection hv with e1 _ e3
  subst e1; subst e3
  have hcells := BOwn.cells h.own
  have c0 := h.blk.cell 0
  have c1 := h.blk.cell 1
  have c2 := h.blk.cell 2
  have f1 := h.blk.frozen 1
  have hDl := h.blk.lt
  have hcap : ¬ c = at_ := by omega
  have NUM := Lib.hid (fun W (hW : Reads W g at_ (L.drop at_)) => decNum_any W g at_ (c - at_) (zz n) (L.drop at_) rest hL (zz_lt hn.1 hn.2) hW (by rw [List.length_drop]; omega))
  have RD : Hid (Reads w g at_ (L.drop at_)) := Lib.hid fun j b hj => by
    rw [List.getElem?_drop] at hj
    exact hcells _ _ (bc_at hj)
  have H := Lib.hid h
  have HN := Lib.hid hn
  rw [List.length_drop] at NUM
  have a0 : (0 : Int) ≤ (at_ : Int) := Int.natCast_nonneg _
  have a1 : (at_ : Int) ≤ (L.length : Int) := by omega
  have a2 : at_ ≤ L.length := by omega
  unfold maxLen at hm
  clear h hn hcells hh hL
  obtain ⟨m, u1, u2, u3⟩ := unfold_go HN.out
  have hzl := zz_lt HN.out.1 HN.out.2
  obtain ⟨Z, hZ⟩ : ∃ Z, Z = zz n := ⟨_, rfl⟩
  rw [← hZ] at NUM u1 u3 hzl
  have u4 : bits .and .u64 (Z : Int) 1 = ((Z % 2 : Nat) : Int) := u64_and1 Z hzl
  have HL : Hid ((encI n).length = (enc Z).length) := Lib.hid (by rw [hZ]; rfl)
  have hst : Hid (∀ W, (∃ k, W = w.drewN k) → Stood w B D (.slice (some ⟨g, 0, none⟩) L.length c) L (at_ + (encI n).length) (W.setCell ⟨D, 1, none⟩ (.int .i64 ((at_ : Int) + ((enc Z).length : Nat))))) := Lib.hid (by
    rintro W ⟨k, rfl⟩
    have hT : Touch w ((w.drewN k).setCell ⟨D, 1, none⟩ (.int .i64 ((at_ : Int) + ((enc Z).length : Nat)))) D none := ⟨rfl, rfl, rfl, by simp, fun j _ hj _ => Below.heap_setCell _ _ _ _ hj⟩
    refine ⟨⟨?_, ?_, H.out.lo⟩, hT⟩
    · have := (H.out.blk.drewN k).set_ 1 (.int .i64 ((at_ : Int) + ((enc Z).length : Nat)))
      rw [HL.out, show ((at_ + (enc Z).length : Nat) : Int) = (at_ : Int) + ((enc Z).length : Nat) by omega]
      exact this
    · exact hT.own H.out.own H.out.ne (by simp [Value.ownBlock]))
  have hel : (enc Z).length ≤ 10 := enc_len hzl
  have hw : IntKind.i64.wrap ((at_ : Int) + ((enc Z).length : Nat)) = (at_ : Int) + ((enc Z).length : Nat) := by rw [IntKind.wrap_i64]; omega
  clear hZ hzl
  rcases u3 with ⟨p1, rfl⟩ | ⟨p1, rfl⟩
  · rw [p1] at u4
    have u5 : bits .xor .i64 (m : Int) 0 = (m : Int) := i64_xor0 m u2
    have HP1 := Lib.hid p1
    have HU2 := Lib.hid u2
    have m1 : (m : Int) ≤ 9223372036854775807 := by omega
    clear p1 u2 HN hlen hpos
    go_enter Tryd.func16, Tryd.ntmps16
    go_wp2_with fail
    go_quiet ((go_at_call 45; exact Calls.quiet_of_same (NUM.out _ (fun j b hj => RD.out j b hj))))
    go_wp2_with fail
    go_ret
    exact ⟨rfl, hst.out _ ⟨nq, rfl⟩⟩
  · rw [p1] at u4
    have u5 : bits .xor .i64 (m : Int) (-1) = -(m : Int) - 1 := i64_xor_neg m u2
    have HP1 := Lib.hid p1
    have HU2 := Lib.hid u2
    have m1 : (m : Int) ≤ 9223372036854775807 := by omega
    clear p1 u2 HN hlen hpos
    go_enter Tryd.func16, Tryd.ntmps16
    go_wp2_with fail
    go_quiet ((go_at_call 45; exact Calls.quiet_of_same (NUM.out _ (fun j b hj => RD.out j b hj))))
    go_wp2_with fail
    go_ret
    exact ⟨rfl, hst.out _ ⟨nq, rfl⟩⟩
#print axioms decInt_any
end Go.Proofs.YtpkikibcfkdodaaDoor
