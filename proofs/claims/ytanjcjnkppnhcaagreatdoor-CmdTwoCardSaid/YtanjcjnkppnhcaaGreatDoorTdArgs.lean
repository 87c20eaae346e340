/-
  Arguments that are steps, with the bounds of their numbers, and a command by value.
-/
import Derived.Test.YtanjcjnkppnhcaaGreatDoorSMem
import Derived.Test.YtanjcjnkppnhcaaGreatDoorRows
import Derived.ProofKit
import Derived.OpenShut
import Derived.ChangeSame
import Derived.Deep.Slices
import Derived.Lib.SmallJoins
namespace Go.Proofs.YtanjcjnkppnhcaaGreatDoor
open Go.ChangeShapes Go.WideShapes Go.ChangeAt Go.RowKit Go.Deep Go.Joins

theorem list_of_td {α : Type} {P : Nat → α → Prop} : ∀ n : Nat, (∀ i, i < n → ∃ x, P i x) → ∃ l : List α, l.length = n ∧ ∀ i x, l[i]? = some x → P i x
  | 0, _ => ⟨[], rfl, fun i x h => by simp at h⟩
  | n + 1, h => by
    obtain ⟨l, hl, hp⟩ := list_of_td n (fun i hi => h i (by omega))
    obtain ⟨x, hx⟩ := h n (by omega)
    refine ⟨l ++ [x], by simp [hl], fun i y hy => ?_⟩
    rcases Nat.lt_or_ge i n with hi | hi
    · rw [List.getElem?_append_left (by omega)] at hy
      exact hp i y hy
    · rw [List.getElem?_append_right (by omega), hl] at hy
      have : i - n = 0 := by
        have := (List.getElem?_eq_some_iff.1 hy).1
        simp at this; omega
      rw [this] at hy
      simp at hy
      rw [show i = n by omega, ← hy]; exact hx
theorem in64_td {n : Int} (h : (Lit.int .i64 n).wf = true) : -9223372036854775808 ≤ n ∧ n ≤ 9223372036854775807 := by
  simp [Lit.wf, IntKind.min, IntKind.max, IntKind.signed, IntKind.bits] at h
  exact ⟨by omega, by omega⟩
theorem cellsStep : Tryz.prog.cellsOf 41 = 3 := by kernel_rfl
theorem cells3td : Tryz.prog.cellsOf 3 = 1 := by kernel_rfl
theorem cells9td : Tryz.prog.cellsOf 9 = 1 := by kernel_rfl
theorem cells4td : Tryz.prog.cellsOf 4 = 1 := by kernel_rfl
theorem cells23td : Tryz.prog.cellsOf 23 = 1 := by kernel_rfl
set_option maxRecDepth 100000 in
theorem steps_open {H : Type} {enc : TypeId × Value → H} {W : World} {fuel : Nat} {A : Option Addr} {n c : Nat} {x : DataW H × List MemPlace} (hf : DataW.trod enc Tryz.prog W 0 (fun _ => true) true fuel 23 [.slice A n c] = some x) :
    ∃ l : List Fl, Reads 3 cF W (.slice A n c) l ∧ ∀ x ∈ l, -9223372036854775808 ≤ x.2.1 ∧ x.2.1 ≤ 9223372036854775807 := by
  rcases open_slice Tryz.underlying23 hf with ⟨hcs, _⟩ | ⟨a, n', c', m, n1, D, Pl, hcs, _, hl, hm, hmm, _, hi⟩
  · simp at hcs
    obtain ⟨rfl, rfl, rfl⟩ := hcs
    exact ⟨[], Reads.nil W, fun x hx => by cases hx⟩
  · simp at hcs
    obtain ⟨rfl, rfl, rfl⟩ := hcs
    have each : ∀ i, i < n → ∃ x : Fl, (∀ (j : Nat) (u : Value), (cF x)[j]? = some u → W.cell? (adr a i 3 j) = some u) ∧ (-9223372036854775808 ≤ x.2.1 ∧ x.2.1 ≤ 9223372036854775807) := fun i hin => by
      obtain ⟨cs', hc, ht⟩ := hi i (by rw [hmm]; split <;> omega)
      rw [cellsStep] at hc
      obtain ⟨_, hcl, hat⟩ := World.cells?_some hc
      obtain ⟨y0, y1, y2, n2, _, _, h0, h1, h2⟩ := trod_struct3 Tryz.underlying41 ht
      match cs', hcl with
      | [u0, u1, u2], _ =>
        obtain ⟨s0, hs0, _, _⟩ := DataW.trod_string Tryz.underlying9 h0
        obtain ⟨N, hN, _, wf1⟩ := DataW.trod_int Tryz.underlying3 h1
        obtain ⟨s2, hs2, _, _⟩ := DataW.trod_string Tryz.underlying9 h2
        rw [show Tryz.prog.cellsOf 9 = 1 from cells9td] at hs0 hs2
        rw [show Tryz.prog.cellsOf 3 = 1 from cells3td] at hN
        have e0 : u0 = .string s0 := by simpa using hs0
        have e1 : u1 = .int .i64 N := by simpa using hN
        have e2 : u2 = .string s2 := by simpa using hs2
        subst e0; subst e1; subst e2
        refine ⟨(s0, N, s2), fun j u hu => ?_, in64_td wf1⟩
        match j, hu with
        | 0, hu => simp [cF] at hu; subst hu; exact hat 0 (by omega)
        | 1, hu => simp [cF] at hu; subst hu; exact hat 1 (by omega)
        | 2, hu => simp [cF] at hu; subst hu; exact hat 2 (by omega)
        | j + 3, hu => simp [cF] at hu
    obtain ⟨l, hll, hp⟩ := list_of_td n each
    refine ⟨l, ⟨some a, c, by rw [hll], by omega, hm, (fun e => by cases e), fun ad ha i x hx j u hu => by
      obtain rfl := Option.some.inj ha
      exact (hp i x hx).1 j u hu⟩, fun x hx => ?_⟩
    obtain ⟨i, hi, rfl⟩ := List.getElem_of_mem hx
    exact (hp i _ (List.getElem?_eq_getElem hi)).2
set_option maxRecDepth 100000 in
theorem steps_of_trod {H : Type} {enc : TypeId × Value → H} {W : World} {base : Nat} {v : Value} {d : DataW H} {p : List MemPlace} (hv : Value.okWide Tryz.prog W .any base 23 v) (h : DataW.Trod enc Tryz.prog W 0 (fun _ => true) true 23 v d p) :
    ∃ l : List Fl, Reads 3 cF W v l ∧ ∀ x ∈ l, -9223372036854775808 ≤ x.2.1 ∧ x.2.1 ≤ 9223372036854775807 := by
  obtain ⟨A, n, c, rfl⟩ := okWide_slice Tryz.underlying23 hv
  obtain ⟨fuel, hf⟩ := h
  exact steps_open (by simpa [Value.cells] using hf)
end Go.Proofs.YtanjcjnkppnhcaaGreatDoor
