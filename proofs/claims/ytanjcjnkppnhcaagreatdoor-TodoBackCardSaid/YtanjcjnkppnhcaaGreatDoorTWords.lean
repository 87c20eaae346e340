/-
  A Fault's Error.
-/
import Derived.Test.YtanjcjnkppnhcaaGreatDoorTErr
namespace Go.Proofs.YtanjcjnkppnhcaaGreatDoor
open Go Go.RowKit

abbrev bByte : ByteArray := ⟨#[98, 121, 116, 101]⟩
abbrev bShort : ByteArray := ⟨#[115, 104, 111, 114, 116]⟩
/-- 'byte N: short'. -/
def fw (n : Nat) : ByteArray := (((bByte ++ ⟨#[32]⟩) ++ dg n) ++ ⟨#[58, 32]⟩) ++ bShort
theorem dg_size (n : Nat) : (dg n).size ≤ 2 := by unfold dg; split <;> simp [ByteArray.size]
theorem invokeErrno (v : Value) (w : World) : (Go.method 334 73 v "Error").run Tryz.prog w = .ok (180, v) w := by kernel_rfl
theorem invokeFault (v : Value) (w : World) : (Go.method 334 76 v "Error").run Tryz.prog w = .ok (181, v) w := by kernel_rfl
theorem nilErrno (c : Int) (w : World) : (binOp .eql 25 (.iface 73 (.int .i64 c)) .nilIface).run Tryz.prog w = .ok (.bool false) w := by kernel_rfl

attribute [-go_sem] run_string_add_if
set_option maxRecDepth 100000 in
set_option maxHeartbeats 4000000 in
theorem fault_error (w : World) (F n : Nat) (hF : Blk w F 78 #[.string bByte, .int .i64 n, .iface 73 (.int .i64 3)]) (hn : To10 n) :
    Calls Tryz.prog 181 #[.pointer (some ⟨F, 0, none⟩)] w fun e w' => e = .returned (.string (fw n)) ∧ ∃ k, w' = w.drewN k := by
  have c0 := hF.cell 0
  have c1 := hF.cell 1
  have c2 := hF.cell 2
  have hFl := hF.lt
  have mE := invokeErrno
  have nE := nilErrno
  have IT := Lib.hid fun W => itoa_any hn W
  have SH := Lib.hid fun W => short_word W
  have hd := dg_size n
  obtain ⟨s1, hs1, hz1, hr1⟩ := sum_named bByte ⟨#[32]⟩ (by decide)
  have hz1' : s1.size = 5 := by rw [hz1]; rfl
  obtain ⟨s2, hs2, hz2, hr2⟩ := sum_named s1 (dg n) (by omega)
  obtain ⟨s3, hs3, hz3, hr3⟩ := sum_named s2 ⟨#[58, 32]⟩ (by rw [hz2, hz1']; show 5 + (dg n).size + 2 ≤ _; omega)
  obtain ⟨s4, hs4, hz4, hr4⟩ := sum_named s3 bShort (by rw [hz3, hz2, hz1']; show 5 + (dg n).size + 2 + 5 ≤ _; omega)
  have HS : Hid (s4 = fw n) := Lib.hid (by rw [hs4, hs3, hs2, hs1]; rfl)
  clear hF hs1 hs2 hs3 hs4 hz1 hz2 hz3 hz4 hz1'
  obtain ⟨D, hD⟩ : ∃ D, D = dg n := ⟨_, rfl⟩
  rw [← hD] at IT hr2 hd
  clear hD
  go_enter Tryz.func181, Tryz.ntmps181
  go_wp2_with fail
  go_quiet ((first | (go_at_call 46; exact Calls.quiet_of_same (IT.out _)) | (go_at_call 180; exact Calls.quiet_of_same (SH.out _))))
  go_wp2_with fail
  go_ret
  exact ⟨by rw [HS.out]; rfl, nq, rfl⟩
#print axioms fault_error
end Go.Proofs.YtanjcjnkppnhcaaGreatDoor
