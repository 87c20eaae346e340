/-
  CodeBack's argument: a row of items, read in cells.
-/
import Derived.Test.YtpkikibcfkdodaaKBackW
import Derived.Test.YtpkikibcfkdodaaRows
import Derived.ProofKit
import Derived.ChangeSame
import Derived.Deep.Slices
import Derived.Lib.SmallJoins
namespace Go.Proofs.Ytpkikibcfkdodaa
open Go.ChangeShapes Go.WideShapes Go.ChangeAt Go.RowKit Go.Deep Go.Joins

theorem Try.laidOut : laidOutB Try.prog = true := by kernel_rfl
theorem Try.cells48 : Try.prog.cellsOf 48 = 3 := by kernel_rfl

theorem list_of {α : Type} {P : Nat → α → Prop} : ∀ n : Nat, (∀ i, i < n → ∃ x, P i x) → ∃ l : List α, l.length = n ∧ ∀ i x, l[i]? = some x → P i x
  | 0, _ => ⟨[], rfl, fun i x h => by simp at h⟩
  | n + 1, h => by
    obtain ⟨l, hl, hp⟩ := list_of n (fun i hi => h i (by omega))
    obtain ⟨x, hx⟩ := h n (by omega)
    refine ⟨l ++ [x], by simp [hl], fun i y hy => ?_⟩
    rcases Nat.lt_or_ge i n with hi | hi
    · rw [List.getElem?_append_left (by omega)] at hy
      exact hp i y hy
    · rw [List.getElem?_append_right (by omega), hl] at hy
      have : i - n = 0 := by
        have := (List.getElem?_eq_some_iff.1 hy).1
        simp at this; omega
      rw [this] at hy
      simp at hy
      rw [show i = n by omega, ← hy]; exact hx

theorem items_of_trod {H : Type} {enc : TypeId × Value → H} {W : World} {base : Nat} {v : Value} {d : DataW H} {p : List MemPlace} (hv : Value.okWide Try.prog W .any base 43 v) (h : DataW.Trod enc Try.prog W 0 (fun _ => true) true 43 v d p) :
    ∃ (A : Option Addr) (c : Nat) (its : List It), v = .slice A its.length c ∧ its.length ≤ c ∧ c ≤ 9223372036854775807 ∧ Items W A its := by
  obtain ⟨A, n, c, rfl⟩ := okWide_slice Try.underlying43 hv
  obtain ⟨fuel, hf⟩ := h
  rcases open_slice Try.underlying43 hf with ⟨hcs, _⟩ | ⟨a, n', c', m, n1, D, Pl, hcs, _, hl, hm, hmm, _, hi⟩
  · simp [Value.cells] at hcs
    obtain ⟨rfl, rfl, rfl⟩ := hcs
    exact ⟨_, _, [], rfl, by simp, by omega, fun i x hx => by simp at hx⟩
  · simp [Value.cells] at hcs
    obtain ⟨rfl, rfl, rfl⟩ := hcs
    have each : ∀ i, i < n → ∃ x : It, (-9223372036854775808 ≤ x.2.1 ∧ x.2.1 ≤ 9223372036854775807) ∧ x.2.2.size ≤ 9223372036854775807 ∧
        W.cell? (a.add (i * 3)) = some (.bool x.1) ∧ W.cell? ⟨(a.add (i * 3)).block, (a.add (i * 3)).off + 1, none⟩ = some (.int .i64 x.2.1) ∧ W.cell? ⟨(a.add (i * 3)).block, (a.add (i * 3)).off + 2, none⟩ = some (.string x.2.2) := fun i hin => by
      obtain ⟨cs', hc, ht⟩ := hi i (by rw [hmm]; split <;> omega)
      rw [Try.cells48] at hc
      obtain ⟨_, hcl, hat⟩ := World.cells?_some hc
      obtain ⟨y0, y1, y2, n2, _, _, h0, h1, h2⟩ := trod_struct3 Try.underlying48 ht
      match cs', hcl with
      | [u0, u1, u2], _ =>
        obtain ⟨b, hb, _⟩ := DataW.trod_bool Try.underlying4 h0
        obtain ⟨N, hN, _, hwf⟩ := DataW.trod_int Try.underlying3 h1
        obtain ⟨s, hs, _, hsz⟩ := DataW.trod_string Try.underlying9 h2
        have c3 : Try.prog.cellsOf 3 = 1 := by kernel_rfl
        have c4 : Try.prog.cellsOf 4 = 1 := by kernel_rfl
        have c9 : Try.prog.cellsOf 9 = 1 := by kernel_rfl
        have e0 : u0 = .bool b := by
          have := hb
          rw [show Try.prog.cellsOf 4 = 1 from c4] at this
          simpa using this
        have e1 : u1 = .int .i64 N := by
          have := hN
          rw [show Try.prog.cellsOf 3 = 1 from c3] at this
          simpa using this
        have e2 : u2 = .string s := by
          have := hs
          rw [show Try.prog.cellsOf 9 = 1 from c9] at this
          simpa using this
        subst e0; subst e1; subst e2
        exact ⟨(b, N, s), bounds_i64 hwf, by first | exact hsz | exact hsz.1, hat 0 (by omega), hat 1 (by omega), hat 2 (by omega)⟩
    obtain ⟨its, hits, hp⟩ := list_of n each
    refine ⟨some a, c, its, by rw [hits], by omega, by unfold maxLen at hm; omega, fun i x hx => ?_⟩
    obtain ⟨h1, h2, h3, h4, h5⟩ := hp i x hx
    exact ⟨a, rfl, h1, h2, h3, h4, h5⟩

set_option maxRecDepth 100000 in
set_option maxHeartbeats 1000000 in
theorem back_long (w : World) (A : Option Addr) (n c : Nat) (hn : n ≤ 9223372036854775807) (h : 60 < n) : Calls Try.prog 6 #[.slice A n c] w (YesB w) := by
  have h1 : (60 : Int) < (n : Int) := by omega
  go_enter Try.func6, Try.ntmps6
  go_wp2_with fail
  refine (known_any w).mono ?_
  rintro e w1 ⟨rfl, hb1⟩
  go_wp2
  go_ret
  exact ⟨rfl, hb1⟩
#print axioms back_long
end Go.Proofs.Ytpkikibcfkdodaa
