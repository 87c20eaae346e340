/-
  An argument that is a result: a tree, entries, texts, in a struct.
-/
import Derived.Test.YtdmmjfmjohliiaaGreatDoorFArgsK
import Derived.Test.YtdmmjfmjohliiaaGreatDoorStrArgsK
namespace Go.Proofs.YtdmmjfmjohliiaaGreatDoor
open Go.ChangeShapes Go.WideShapes Go.ChangeAt Go.RowKit Go.Deep Go.Joins

set_option maxRecDepth 100000 in
theorem files_of_cells {H : Type} {enc : TypeId × Value → H} {W : World} {u : Value} {fuel : Nat} {x : DataW H × List MemPlace} (hf : DataW.trod enc Tryz.prog W 0 (fun _ => true) true fuel 23 [u] = some x) :
    ∃ l : List Fl, Reads 3 cF W u l := by
  rcases open_slice Tryz.underlying23 hf with ⟨hcs, _⟩ | ⟨a, n, c, m, n1, D, Pl, hcs, _, hl, hm, hmm, _, hi⟩
  · simp at hcs
    subst hcs
    exact ⟨[], Reads.nil W⟩
  · simp at hcs
    subst hcs
    have each : ∀ i, i < n → ∃ x : Fl, ∀ (j : Nat) (u : Value), (cF x)[j]? = some u → W.cell? (adr a i 3 j) = some u := fun i hin => by
      obtain ⟨cs', hc, ht⟩ := hi i (by rw [hmm]; split <;> omega)
      rw [Tryz.cellsF] at hc
      obtain ⟨_, hcl, hat⟩ := World.cells?_some hc
      obtain ⟨y0, y1, y2, n2, _, _, h0, h1, h2⟩ := trod_struct3 Tryz.underlying56 ht
      match cs', hcl with
      | [u0, u1, u2], _ =>
        obtain ⟨s0, hs0, _, _⟩ := DataW.trod_string Tryz.underlying9 h0
        obtain ⟨N, hN, _, _⟩ := DataW.trod_int Tryz.underlying3 h1
        obtain ⟨s2, hs2, _, _⟩ := DataW.trod_string Tryz.underlying9 h2
        have c3 : Tryz.prog.cellsOf 3 = 1 := by kernel_rfl
        have c9 : Tryz.prog.cellsOf 9 = 1 := by kernel_rfl
        have e0 : u0 = .string s0 := by
          have := hs0
          rw [show Tryz.prog.cellsOf 9 = 1 from c9] at this
          simpa using this
        have e1 : u1 = .int .i64 N := by
          have := hN
          rw [show Tryz.prog.cellsOf 3 = 1 from c3] at this
          simpa using this
        have e2 : u2 = .string s2 := by
          have := hs2
          rw [show Tryz.prog.cellsOf 9 = 1 from c9] at this
          simpa using this
        subst e0; subst e1; subst e2
        refine ⟨(s0, N, s2), fun j u hu => ?_⟩
        match j, hu with
        | 0, hu => simp [cF] at hu; subst hu; exact hat 0 (by omega)
        | 1, hu => simp [cF] at hu; subst hu; exact hat 1 (by omega)
        | 2, hu => simp [cF] at hu; subst hu; exact hat 2 (by omega)
        | j + 3, hu => simp [cF] at hu
    obtain ⟨l, hll, hp⟩ := list_of n each
    exact ⟨l, some a, c, by rw [hll], by omega, hm, (fun e => by cases e), fun ad ha i x hx j u hu => by
      obtain rfl := Option.some.inj ha
      exact hp i x hx j u hu⟩

set_option maxRecDepth 100000 in
theorem ents_of_cells {H : Type} {enc : TypeId × Value → H} {W : World} {u : Value} {fuel : Nat} {x : DataW H × List MemPlace} (hf : DataW.trod enc Tryz.prog W 0 (fun _ => true) true fuel 24 [u] = some x) :
    ∃ l : List En, Reads 6 cE W u l := by
  rcases open_slice Tryz.underlying24 hf with ⟨hcs, _⟩ | ⟨a, n, c, m, n1, D, Pl, hcs, _, hl, hm, hmm, _, hi⟩
  · simp at hcs
    subst hcs
    exact ⟨[], Reads.nil W⟩
  · simp at hcs
    subst hcs
    have each : ∀ i, i < n → ∃ x : En, ∀ (j : Nat) (u : Value), (cE x)[j]? = some u → W.cell? (adr a i 6 j) = some u := fun i hin => by
      obtain ⟨cs', hc, ht⟩ := hi i (by rw [hmm]; split <;> omega)
      rw [Tryz.cellsEn] at hc
      obtain ⟨_, hcl, hat⟩ := World.cells?_some hc
      obtain ⟨y0, y1, y2, y3, y4, y5, n2, _, h0, h1, h2, h3, h4, h5⟩ := trod_struct6 Tryz.underlying69 ht
      match cs', hcl with
      | [u0, u1, u2, u3, u4, u5], _ =>
        obtain ⟨s0, hs0, _, _⟩ := DataW.trod_string Tryz.underlying9 h0
        obtain ⟨N1, hN1, _, _⟩ := DataW.trod_int Tryz.underlying3 h1
        obtain ⟨N2, hN2, _, _⟩ := DataW.trod_int Tryz.underlying3 h2
        obtain ⟨s3, hs3, _, _⟩ := DataW.trod_string Tryz.underlying9 h3
        obtain ⟨N4, hN4, _, _⟩ := DataW.trod_int Tryz.underlying3 h4
        obtain ⟨N5, hN5, _, _⟩ := DataW.trod_int Tryz.underlying3 h5
        have c3 : Tryz.prog.cellsOf 3 = 1 := by kernel_rfl
        have c9 : Tryz.prog.cellsOf 9 = 1 := by kernel_rfl
        rw [show Tryz.prog.cellsOf 9 = 1 from c9] at hs0 hs3
        rw [show Tryz.prog.cellsOf 3 = 1 from c3] at hN1 hN2 hN4 hN5
        have e0 : u0 = .string s0 := by simpa using hs0
        have e1 : u1 = .int .i64 N1 := by simpa using hN1
        have e2 : u2 = .int .i64 N2 := by simpa using hN2
        have e3 : u3 = .string s3 := by simpa using hs3
        have e4 : u4 = .int .i64 N4 := by simpa using hN4
        have e5 : u5 = .int .i64 N5 := by simpa using hN5
        subst e0; subst e1; subst e2; subst e3; subst e4; subst e5
        refine ⟨(s0, N1, N2, s3, N4, N5), fun j u hu => ?_⟩
        match j, hu with
        | 0, hu => simp [cE] at hu; subst hu; exact hat 0 (by omega)
        | 1, hu => simp [cE] at hu; subst hu; exact hat 1 (by omega)
        | 2, hu => simp [cE] at hu; subst hu; exact hat 2 (by omega)
        | 3, hu => simp [cE] at hu; subst hu; exact hat 3 (by omega)
        | 4, hu => simp [cE] at hu; subst hu; exact hat 4 (by omega)
        | 5, hu => simp [cE] at hu; subst hu; exact hat 5 (by omega)
        | j + 6, hu => simp [cE] at hu
    obtain ⟨l, hll, hp⟩ := list_of n each
    exact ⟨l, some a, c, by rw [hll], by omega, hm, (fun e => by cases e), fun ad ha i x hx j u hu => by
      obtain rfl := Option.some.inj ha
      exact hp i x hx j u hu⟩

set_option maxRecDepth 100000 in
theorem strs_of_cells {H : Type} {enc : TypeId × Value → H} {W : World} {u : Value} {fuel : Nat} {x : DataW H × List MemPlace} (hf : DataW.trod enc Tryz.prog W 0 (fun _ => true) true fuel 25 [u] = some x) :
    ∃ l : List ByteArray, Strs W u l := by
  rcases open_strings Tryz.underlying25 Tryz.underlying9 Tryz.cellsS' hf with ⟨hcs, hx⟩ | ⟨a, n, c, ss, hcs, _, hl, hm, hz, hx, hcell, _⟩
  · simp at hcs
    subst hcs
    exact ⟨[], Strs.nil W⟩
  · simp at hcs
    subst hcs
    simp only [if_true] at hz
    have hlen : (ss.take n).length = n := by rw [List.length_take]; omega
    refine ⟨ss.take n, ⟨some a, c, by rw [hlen], by omega, hm, (fun h => by cases h), ?_⟩⟩
    intro ad ha i s hs
    obtain rfl := Option.some.inj ha
    have hi : i < n := by have := (List.getElem?_eq_some_iff.1 hs).1; omega
    have := hcell i (by omega)
    rw [List.getElem?_take_of_lt hi] at hs
    rw [this, List.getD, hs]
    rfl
theorem Tryz.cellsRes : Tryz.prog.cellsOf 27 = 3 := by kernel_rfl
set_option maxRecDepth 100000 in
theorem res_of_trod {H : Type} {enc : TypeId × Value → H} {W : World} {base : Nat} {v : Value} {d : DataW H} {p : List MemPlace} (hv : Value.okWide Tryz.prog W .any base 27 v) (h : DataW.Trod enc Tryz.prog W 0 (fun _ => true) true 27 v d p) :
    ∃ (t E c : Value) (tl : List Fl) (en : List En) (cf : List ByteArray), v = .agg #[t, E, c] ∧ Reads 3 cF W t tl ∧ Reads 6 cE W E en ∧ Strs W c cf := by
  obtain ⟨cs, rfl, hs⟩ := okWide_struct Tryz.underlying27 hv
  obtain ⟨fuel, hf⟩ := h
  obtain ⟨y0, y1, y2, n2, _, _, h0, h1, h2⟩ := trod_struct3 Tryz.underlying27 hf
  rw [Tryz.cellsRes] at hs
  obtain ⟨cl⟩ := cs
  simp at hs
  match cl, hs with
  | [u0, u1, u2], _ =>
    have c1 : Tryz.prog.cellsOf 23 = 1 := by kernel_rfl
    have c2 : Tryz.prog.cellsOf 24 = 1 := by kernel_rfl
    have c3 : Tryz.prog.cellsOf 25 = 1 := by kernel_rfl
    have e0 : DataW.trod enc Tryz.prog W 0 (fun _ => true) true n2 23 [u0] = some y0 := by
      have := h0
      simp only [c1] at this
      simpa [Value.cells] using this
    have e1 : DataW.trod enc Tryz.prog W 0 (fun _ => true) true n2 24 [u1] = some y1 := by
      have := h1
      simp only [c2] at this
      simpa [Value.cells] using this
    have e2 : DataW.trod enc Tryz.prog W 0 (fun _ => true) true n2 25 [u2] = some y2 := by
      have := h2
      simp only [c3] at this
      simpa [Value.cells] using this
    obtain ⟨tl, r0⟩ := files_of_cells e0
    obtain ⟨en, r1⟩ := ents_of_cells e1
    obtain ⟨cf, r2⟩ := strs_of_cells e2
    exact ⟨u0, u1, u2, tl, en, cf, rfl, r0, r1, r2⟩
end Go.Proofs.YtdmmjfmjohliiaaGreatDoor
