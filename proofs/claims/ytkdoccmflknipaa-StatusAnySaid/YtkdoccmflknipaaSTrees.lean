/-
  Arguments that are trees and entries, read in cells.
-/
import Derived.Test.YtkdoccmflknipaaSArgs
import Derived.Test.YtkdoccmflknipaaSSameW
namespace Go.Proofs.Ytkdoccmflknipaa
open Go.ChangeShapes Go.WideShapes Go.ChangeAt Go.RowKit Go.Deep Go.Joins

theorem Try.cellsF : Try.prog.cellsOf 56 = 3 := by kernel_rfl
theorem Try.cellsEn : Try.prog.cellsOf 61 = 6 := by kernel_rfl
theorem list_of {α : Type} {P : Nat → α → Prop} : ∀ n : Nat, (∀ i, i < n → ∃ x, P i x) → ∃ l : List α, l.length = n ∧ ∀ i x, l[i]? = some x → P i x
  | 0, _ => ⟨[], rfl, fun i x h => by simp at h⟩
  | n + 1, h => by
    obtain ⟨l, hl, hp⟩ := list_of n (fun i hi => h i (by omega))
    obtain ⟨x, hx⟩ := h n (by omega)
    refine ⟨l ++ [x], by simp [hl], fun i y hy => ?_⟩
    rcases Nat.lt_or_ge i n with hi | hi
    · rw [List.getElem?_append_left (by omega)] at hy
      exact hp i y hy
    · rw [List.getElem?_append_right (by omega), hl] at hy
      have : i - n = 0 := by
        have := (List.getElem?_eq_some_iff.1 hy).1
        simp at this; omega
      rw [this] at hy
      simp at hy
      rw [show i = n by omega, ← hy]; exact hx
section
variable {H : Type} {enc : TypeId × Value → H} {P : Program} {w : World} {base : Nat} {spare : Nat → Bool} {held : Bool}
theorem trod_struct6 {t : TypeId} {f0 f1 f2 f3 f4 f5 : Field} {fuel : Nat} {cs : List Value} {x : DataW H × List MemPlace} (ht : P.underlying t = some (.struct #[f0, f1, f2, f3, f4, f5])) (h : DataW.trod enc P w base spare held fuel t cs = some x) :
    ∃ y0 y1 y2 y3 y4 y5 n, cs.length = P.cellsOf t ∧ DataW.trod enc P w base spare held n f0.type ((cs.drop f0.offset).take (P.cellsOf f0.type)) = some y0 ∧
      DataW.trod enc P w base spare held n f1.type ((cs.drop f1.offset).take (P.cellsOf f1.type)) = some y1 ∧ DataW.trod enc P w base spare held n f2.type ((cs.drop f2.offset).take (P.cellsOf f2.type)) = some y2 ∧
      DataW.trod enc P w base spare held n f3.type ((cs.drop f3.offset).take (P.cellsOf f3.type)) = some y3 ∧ DataW.trod enc P w base spare held n f4.type ((cs.drop f4.offset).take (P.cellsOf f4.type)) = some y4 ∧
      DataW.trod enc P w base spare held n f5.type ((cs.drop f5.offset).take (P.cellsOf f5.type)) = some y5 := by
  obtain ⟨xs, n, _, rfl, hl, hlen, hf⟩ := DataW.trod_struct ht h
  match xs, hlen with
  | [y0, y1, y2, y3, y4, y5], _ => exact ⟨y0, y1, y2, y3, y4, y5, n, hl, by simpa using hf 0 f0 rfl, by simpa using hf 1 f1 rfl, by simpa using hf 2 f2 rfl, by simpa using hf 3 f3 rfl, by simpa using hf 4 f4 rfl, by simpa using hf 5 f5 rfl⟩
end

set_option maxRecDepth 100000 in
theorem files_of_trod {H : Type} {enc : TypeId × Value → H} {W : World} {base : Nat} {v : Value} {d : DataW H} {p : List MemPlace} (hv : Value.okWide Try.prog W .any base 23 v) (h : DataW.Trod enc Try.prog W 0 (fun _ => true) true 23 v d p) :
    ∃ l : List Fl, Reads 3 cF W v l := by
  obtain ⟨A, n, c, rfl⟩ := okWide_slice Try.underlying23 hv
  obtain ⟨fuel, hf⟩ := h
  rcases open_slice Try.underlying23 hf with ⟨hcs, _⟩ | ⟨a, n', c', m, n1, D, Pl, hcs, _, hl, hm, hmm, _, hi⟩
  · simp [Value.cells] at hcs
    obtain ⟨rfl, rfl, rfl⟩ := hcs
    exact ⟨[], Reads.nil W⟩
  · simp [Value.cells] at hcs
    obtain ⟨rfl, rfl, rfl⟩ := hcs
    have each : ∀ i, i < n → ∃ x : Fl, ∀ (j : Nat) (u : Value), (cF x)[j]? = some u → W.cell? (adr a i 3 j) = some u := fun i hin => by
      obtain ⟨cs', hc, ht⟩ := hi i (by rw [hmm]; split <;> omega)
      rw [Try.cellsF] at hc
      obtain ⟨_, hcl, hat⟩ := World.cells?_some hc
      obtain ⟨y0, y1, y2, n2, _, _, h0, h1, h2⟩ := trod_struct3 Try.underlying56 ht
      match cs', hcl with
      | [u0, u1, u2], _ =>
        obtain ⟨s0, hs0, _, _⟩ := DataW.trod_string Try.underlying9 h0
        obtain ⟨N, hN, _, _⟩ := DataW.trod_int Try.underlying3 h1
        obtain ⟨s2, hs2, _, _⟩ := DataW.trod_string Try.underlying9 h2
        have c3 : Try.prog.cellsOf 3 = 1 := by kernel_rfl
        have c9 : Try.prog.cellsOf 9 = 1 := by kernel_rfl
        have e0 : u0 = .string s0 := by
          have := hs0
          rw [show Try.prog.cellsOf 9 = 1 from c9] at this
          simpa using this
        have e1 : u1 = .int .i64 N := by
          have := hN
          rw [show Try.prog.cellsOf 3 = 1 from c3] at this
          simpa using this
        have e2 : u2 = .string s2 := by
          have := hs2
          rw [show Try.prog.cellsOf 9 = 1 from c9] at this
          simpa using this
        subst e0; subst e1; subst e2
        refine ⟨(s0, N, s2), fun j u hu => ?_⟩
        match j, hu with
        | 0, hu => simp [cF] at hu; subst hu; exact hat 0 (by omega)
        | 1, hu => simp [cF] at hu; subst hu; exact hat 1 (by omega)
        | 2, hu => simp [cF] at hu; subst hu; exact hat 2 (by omega)
        | j + 3, hu => simp [cF] at hu
    obtain ⟨l, hll, hp⟩ := list_of n each
    exact ⟨l, some a, c, by rw [hll], by omega, hm, (fun e => by cases e), fun ad ha i x hx j u hu => by
      obtain rfl := Option.some.inj ha
      exact hp i x hx j u hu⟩

set_option maxRecDepth 100000 in
theorem ents_of_trod {H : Type} {enc : TypeId × Value → H} {W : World} {base : Nat} {v : Value} {d : DataW H} {p : List MemPlace} (hv : Value.okWide Try.prog W .any base 24 v) (h : DataW.Trod enc Try.prog W 0 (fun _ => true) true 24 v d p) :
    ∃ l : List En, Reads 6 cE W v l := by
  obtain ⟨A, n, c, rfl⟩ := okWide_slice Try.underlying24 hv
  obtain ⟨fuel, hf⟩ := h
  rcases open_slice Try.underlying24 hf with ⟨hcs, _⟩ | ⟨a, n', c', m, n1, D, Pl, hcs, _, hl, hm, hmm, _, hi⟩
  · simp [Value.cells] at hcs
    obtain ⟨rfl, rfl, rfl⟩ := hcs
    exact ⟨[], Reads.nil W⟩
  · simp [Value.cells] at hcs
    obtain ⟨rfl, rfl, rfl⟩ := hcs
    have each : ∀ i, i < n → ∃ x : En, ∀ (j : Nat) (u : Value), (cE x)[j]? = some u → W.cell? (adr a i 6 j) = some u := fun i hin => by
      obtain ⟨cs', hc, ht⟩ := hi i (by rw [hmm]; split <;> omega)
      rw [Try.cellsEn] at hc
      obtain ⟨_, hcl, hat⟩ := World.cells?_some hc
      obtain ⟨y0, y1, y2, y3, y4, y5, n2, _, h0, h1, h2, h3, h4, h5⟩ := trod_struct6 Try.underlying61 ht
      match cs', hcl with
      | [u0, u1, u2, u3, u4, u5], _ =>
        obtain ⟨s0, hs0, _, _⟩ := DataW.trod_string Try.underlying9 h0
        obtain ⟨N1, hN1, _, _⟩ := DataW.trod_int Try.underlying3 h1
        obtain ⟨N2, hN2, _, _⟩ := DataW.trod_int Try.underlying3 h2
        obtain ⟨s3, hs3, _, _⟩ := DataW.trod_string Try.underlying9 h3
        obtain ⟨N4, hN4, _, _⟩ := DataW.trod_int Try.underlying3 h4
        obtain ⟨N5, hN5, _, _⟩ := DataW.trod_int Try.underlying3 h5
        have c3 : Try.prog.cellsOf 3 = 1 := by kernel_rfl
        have c9 : Try.prog.cellsOf 9 = 1 := by kernel_rfl
        rw [show Try.prog.cellsOf 9 = 1 from c9] at hs0 hs3
        rw [show Try.prog.cellsOf 3 = 1 from c3] at hN1 hN2 hN4 hN5
        have e0 : u0 = .string s0 := by simpa using hs0
        have e1 : u1 = .int .i64 N1 := by simpa using hN1
        have e2 : u2 = .int .i64 N2 := by simpa using hN2
        have e3 : u3 = .string s3 := by simpa using hs3
        have e4 : u4 = .int .i64 N4 := by simpa using hN4
        have e5 : u5 = .int .i64 N5 := by simpa using hN5
        subst e0; subst e1; subst e2; subst e3; subst e4; subst e5
        refine ⟨(s0, N1, N2, s3, N4, N5), fun j u hu => ?_⟩
        match j, hu with
        | 0, hu => simp [cE] at hu; subst hu; exact hat 0 (by omega)
        | 1, hu => simp [cE] at hu; subst hu; exact hat 1 (by omega)
        | 2, hu => simp [cE] at hu; subst hu; exact hat 2 (by omega)
        | 3, hu => simp [cE] at hu; subst hu; exact hat 3 (by omega)
        | 4, hu => simp [cE] at hu; subst hu; exact hat 4 (by omega)
        | 5, hu => simp [cE] at hu; subst hu; exact hat 5 (by omega)
        | j + 6, hu => simp [cE] at hu
    obtain ⟨l, hll, hp⟩ := list_of n each
    exact ⟨l, some a, c, by rw [hll], by omega, hm, (fun e => by cases e), fun ad ha i x hx j u hu => by
      obtain rfl := Option.some.inj ha
      exact hp i x hx j u hu⟩
end Go.Proofs.Ytkdoccmflknipaa
