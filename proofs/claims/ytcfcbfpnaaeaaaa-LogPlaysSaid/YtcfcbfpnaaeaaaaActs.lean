/-
  An argument that is a slice of acts, read in cells.
-/
import Derived.Test.YtcfcbfpnaaeaaaaPlaysWalk
import Derived.Test.YtcfcbfpnaaeaaaaRows
import Derived.ProofKit
import Derived.ChangeSame
import Derived.Deep.Slices
namespace Go.Proofs.Ytcfcbfpnaaeaaaa
open Go.ChangeShapes Go.WideShapes Go.ChangeAt Go.RowKit Go.Deep

theorem Try.laidOut : laidOutB Try.prog = true := by kernel_rfl
theorem Try.cells28 : Try.prog.cellsOf 28 = 2 := by kernel_rfl

theorem acts_of_trod {H : Type} {enc : TypeId × Value → H} {W : World} {base : Nat} {v : Value} {d : DataW H} {p : List MemPlace} (hv : Value.okWide Try.prog W .any base 22 v) (h : DataW.Trod enc Try.prog W 0 (fun _ => true) true 22 v d p) :
    ∃ (A : Option Addr) (n c : Nat), v = .slice A n c ∧ n ≤ 9223372036854775807 ∧ Acts W A n := by
  obtain ⟨A, n, c, rfl⟩ := okWide_slice Try.underlying22 hv
  obtain ⟨fuel, hf⟩ := h
  rcases open_slice Try.underlying22 hf with ⟨hcs, _⟩ | ⟨a, n', c', m, n1, D, Pl, hcs, _, hl, hm, hmm, _, hi⟩
  · simp [Value.cells] at hcs
    obtain ⟨rfl, rfl, rfl⟩ := hcs
    exact ⟨_, _, _, rfl, by omega, fun i hi => by omega⟩
  · simp [Value.cells] at hcs
    obtain ⟨rfl, rfl, rfl⟩ := hcs
    refine ⟨_, _, _, rfl, by unfold maxLen at hm; omega, fun i hin => ?_⟩
    obtain ⟨cs', hc, ht⟩ := hi i (by rw [hmm]; split <;> omega)
    rw [Try.cells28] at hc
    obtain ⟨_, hcl, hat⟩ := World.cells?_some hc
    obtain ⟨y0, y1, n2, _, _, h0, h1⟩ := trod_struct2 Try.underlying28 ht
    match cs', hcl with
    | [u0, u1], _ =>
      obtain ⟨o, ho, _, _⟩ := DataW.trod_int Try.underlying3 h0
      obtain ⟨s, hs, _, hsz⟩ := DataW.trod_string Try.underlying9 h1
      have e0 : u0 = .int .i64 o := by
        have := ho
        rw [show Try.prog.cellsOf 3 = 1 from by kernel_rfl] at this
        simpa using this
      have e1 : u1 = .string s := by
        have := hs
        rw [show Try.prog.cellsOf 9 = 1 from by kernel_rfl] at this
        simpa using this
      subst e0; subst e1
      exact ⟨a, o, s, rfl, hat 0 (by omega), hat 1 (by omega), by first | exact hsz | exact hsz.1⟩

set_option maxRecDepth 100000 in
set_option maxHeartbeats 1000000 in
theorem plays_long (w : World) (A : Option Addr) (n c : Nat) (hn : 150 < n) (hb : n ≤ 9223372036854775807) : Calls Try.prog 3 #[.slice A n c] w (YesB w) := by
  go_enter Try.func3, Try.ntmps3
  go_wp2_with fail
  refine (known_yes w).mono ?_
  rintro e w1 ⟨rfl, hb1⟩
  go_wp2
  go_ret
  exact ⟨rfl, hb1⟩

end Go.Proofs.Ytcfcbfpnaaeaaaa
