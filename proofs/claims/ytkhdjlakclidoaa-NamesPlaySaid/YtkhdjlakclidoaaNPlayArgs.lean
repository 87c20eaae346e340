/-
  NamesPlay's argument: a row of acts, read in cells.
-/
import Derived.Test.YtkhdjlakclidoaaNPlayW
import Derived.Test.YtkhdjlakclidoaaRows
import Derived.ProofKit
import Derived.ChangeSame
import Derived.Deep.Slices
import Derived.Lib.SmallJoins
namespace Go.Proofs.Ytkhdjlakclidoaa
open Go.ChangeShapes Go.WideShapes Go.ChangeAt Go.RowKit Go.Deep Go.Joins

theorem Try.laidOut : laidOutB Try.prog = true := by kernel_rfl
theorem Try.cells31 : Try.prog.cellsOf 31 = 4 := by kernel_rfl

theorem acts_of_trod {H : Type} {enc : TypeId × Value → H} {W : World} {base : Nat} {v : Value} {d : DataW H} {p : List MemPlace} (hv : Value.okWide Try.prog W .any base 22 v) (h : DataW.Trod enc Try.prog W 0 (fun _ => true) true 22 v d p) :
    ∃ (A : Option Addr) (n c : Nat), v = .slice A n c ∧ n ≤ c ∧ c ≤ 9223372036854775807 ∧ Acts W A n := by
  obtain ⟨A, n, c, rfl⟩ := okWide_slice Try.underlying22 hv
  obtain ⟨fuel, hf⟩ := h
  rcases open_slice Try.underlying22 hf with ⟨hcs, _⟩ | ⟨a, n', c', m, n1, D, Pl, hcs, _, hl, hm, hmm, _, hi⟩
  · simp [Value.cells] at hcs
    obtain ⟨rfl, rfl, rfl⟩ := hcs
    exact ⟨_, _, _, rfl, by omega, by omega, fun i hi => by omega⟩
  · simp [Value.cells] at hcs
    obtain ⟨rfl, rfl, rfl⟩ := hcs
    refine ⟨_, _, _, rfl, by omega, by unfold maxLen at hm; omega, fun i hin => ?_⟩
    obtain ⟨cs', hc, ht⟩ := hi i (by rw [hmm]; split <;> omega)
    rw [Try.cells31] at hc
    obtain ⟨_, hcl, hat⟩ := World.cells?_some hc
    obtain ⟨y0, y1, y2, y3, n2, _, _, h0, h1, h2, h3⟩ := trod_struct4 Try.underlying31 ht
    match cs', hcl with
    | [u0, u1, u2, u3], _ =>
      obtain ⟨o, ho, _, _⟩ := DataW.trod_int Try.underlying3 h0
      obtain ⟨N, hN, _, _⟩ := DataW.trod_int Try.underlying3 h1
      obtain ⟨M, hM, _, _⟩ := DataW.trod_int Try.underlying3 h2
      obtain ⟨s, hs, _, hsz⟩ := DataW.trod_string Try.underlying9 h3
      have c3 : Try.prog.cellsOf 3 = 1 := by kernel_rfl
      have c9 : Try.prog.cellsOf 9 = 1 := by kernel_rfl
      have e0 : u0 = .int .i64 o := by
        have := ho
        rw [show Try.prog.cellsOf 3 = 1 from c3] at this
        simpa using this
      have e1 : u1 = .int .i64 N := by
        have := hN
        rw [show Try.prog.cellsOf 3 = 1 from c3] at this
        simpa using this
      have e2 : u2 = .int .i64 M := by
        have := hM
        rw [show Try.prog.cellsOf 3 = 1 from c3] at this
        simpa using this
      have e3 : u3 = .string s := by
        have := hs
        rw [show Try.prog.cellsOf 9 = 1 from c9] at this
        simpa using this
      subst e0; subst e1; subst e2; subst e3
      exact ⟨a, o, N, M, s, rfl, by first | exact hsz | exact hsz.1, hat 0 (by omega), hat 1 (by omega), hat 2 (by omega), hat 3 (by omega)⟩

set_option maxRecDepth 100000 in
set_option maxHeartbeats 1000000 in
theorem play_long (w : World) (A : Option Addr) (n c : Nat) (s : ByteArray) (hn : n ≤ 9223372036854775807) (hs : s.size ≤ 9223372036854775807) (h : 100 < n ∨ 60 < s.size) : Calls Try.prog 3 #[.slice A n c, .string s] w (YesB w) := by
  by_cases h1 : (100 : Int) < (n : Int)
  · go_enter Try.func3, Try.ntmps3
    go_wp2_with fail
    refine (known_yes w).mono ?_
    rintro e w1 ⟨rfl, hb1⟩
    go_wp2
    go_ret
    exact ⟨rfl, hb1⟩
  · have h2 : (60 : Int) < (s.size : Int) := by omega
    go_enter Try.func3, Try.ntmps3
    go_wp2_with fail
    refine (known_yes w).mono ?_
    rintro e w1 ⟨rfl, hb1⟩
    go_wp2
    go_ret
    exact ⟨rfl, hb1⟩
end Go.Proofs.Ytkhdjlakclidoaa
