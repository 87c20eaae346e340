/-
  Names as arguments, read in cells.
-/
import Derived.Test.YtpkikibcfkdodaaHArgs
import Derived.Test.YtpkikibcfkdodaaHShortW
namespace Go.Proofs.Ytpkikibcfkdodaa
open Go.ChangeShapes Go.WideShapes Go.ChangeAt Go.RowKit Go.Deep Go.Joins
theorem Try.cells25 : Try.prog.cellsOf 25 = 32 := by kernel_rfl
theorem name_of_cells {H : Type} {enc : TypeId × Value → H} {W : World} {fuel : Nat} {cs : List Value} {x : DataW H × List MemPlace} (h : DataW.trod enc Try.prog W 0 (fun _ => true) true fuel 25 cs = some x) :
    ∃ m : List UInt8, m.length = 32 ∧ cs = bc m := by
  obtain ⟨xs, n, _, _, hl, hx, hi⟩ := DataW.trod_array Try.underlying25 h
  rw [Try.cells25] at hl
  have each : ∀ i, i < 32 → ∃ b : UInt8, cs[i]? = some (.int .u8 (b.toNat : Int)) := fun i hlt => by
    have h1 := hi i hlt
    rw [Try.cells5', Nat.mul_one, List.getElem?_eq_getElem (by omega)] at h1
    obtain ⟨N, hN, _, hwf⟩ := DataW.trod_int Try.underlying5 h1
    have hw := bounds_u8 hwf
    refine ⟨UInt8.ofNat N.toNat, ?_⟩
    have h2 : ((cs.drop i).take 1)[0]? = some (.int .u8 N) := by rw [hN]; rfl
    rw [List.getElem?_take, if_pos (by omega), List.getElem?_drop, Nat.add_zero] at h2
    rw [h2, UInt8.toNat_ofNat']
    congr 2
    omega
  obtain ⟨m, hm, hp⟩ := list_of 32 each
  refine ⟨m, hm, List.ext_getElem? fun i => ?_⟩
  by_cases hlt : i < 32
  · have h1 := hp i _ (List.getElem?_eq_getElem (by omega))
    rw [h1]
    exact (bc_at (List.getElem?_eq_getElem (by omega))).symm
  · rw [List.getElem?_eq_none (by omega), List.getElem?_eq_none (by rw [bc_len]; omega)]
theorem name_of_trod {H : Type} {enc : TypeId × Value → H} {W : World} {base : Nat} {v : Value} {d : DataW H} {p : List MemPlace} (hv : Value.okWide Try.prog W .any base 25 v) (h : DataW.Trod enc Try.prog W 0 (fun _ => true) true 25 v d p) :
    ∃ m : List UInt8, m.length = 32 ∧ v = .agg (bc m).toArray := by
  simp only [Value.okWide, Try.underlying25] at hv
  obtain ⟨cs, rfl, _, _⟩ := hv
  obtain ⟨fuel, hf⟩ := h
  obtain ⟨m, hm, he⟩ := name_of_cells hf
  refine ⟨m, hm, ?_⟩
  simp only [Value.cells] at he
  rw [← he]
theorem names_of_trod {H : Type} {enc : TypeId × Value → H} {W : World} {base : Nat} {v : Value} {d : DataW H} {p : List MemPlace} (hv : Value.okWide Try.prog W .any base 36 v) (h : DataW.Trod enc Try.prog W 0 (fun _ => true) true 36 v d p) :
    ∃ (A : Option Addr) (l : List (List UInt8)) (c : Nat), v = .slice A l.length c ∧ IDs W A l := by
  obtain ⟨A, n, c, rfl⟩ := okWide_slice Try.underlying36 hv
  obtain ⟨fuel, hf⟩ := h
  rcases open_slice Try.underlying36 hf with ⟨hcs, _⟩ | ⟨a, n', c', m, n1, D, Pl, hcs, _, hl, hm, hmm, _, hi⟩
  · simp [Value.cells] at hcs
    obtain ⟨rfl, rfl, rfl⟩ := hcs
    exact ⟨_, [], _, rfl, ⟨fun m hm => absurd hm (by simp), fun h => absurd h (by simp)⟩⟩
  · simp [Value.cells] at hcs
    obtain ⟨rfl, rfl, rfl⟩ := hcs
    by_cases hn : n = 0
    · subst hn
      exact ⟨_, [], _, rfl, ⟨fun m hm => absurd hm (by simp), fun h => absurd h (by simp)⟩⟩
    have hs : a.spot = none := by
      obtain ⟨cs', hc, ht⟩ := hi 0 (by rw [hmm]; split <;> omega)
      rw [Try.cells25] at hc
      obtain ⟨_, hcl, hat⟩ := World.cells?_some hc
      have h1 := hat 0 (by omega)
      rw [List.getElem?_eq_getElem (by omega)] at h1
      have := World.cell?_spot h1
      simpa [Addr.add] using this
    obtain ⟨g, o, spot⟩ := a
    simp only at hs
    subst hs
    have each : ∀ i, i < n → ∃ x : List UInt8, x.length = 32 ∧ ∀ j v, (bc x)[j]? = some v → W.cell? ⟨g, o + i * 32 + j, none⟩ = some v := fun i hin => by
      obtain ⟨cs', hc, ht⟩ := hi i (by rw [hmm]; split <;> omega)
      rw [Try.cells25] at hc
      obtain ⟨_, hcl, hat⟩ := World.cells?_some hc
      obtain ⟨x, hx, rfl⟩ := name_of_cells ht
      refine ⟨x, hx, fun j v hj => ?_⟩
      have hjl : j < (bc x).length := (List.getElem?_eq_some_iff.1 hj).1
      have h1 := hat j (by omega)
      rw [hj, Addr.add_lit, Addr.add_lit] at h1
      exact h1
    obtain ⟨l, hll, hp⟩ := list_of n each
    refine ⟨some ⟨g, o, none⟩, l, c, by rw [hll], ⟨fun m hm => ?_, fun _ => ⟨g, o, rfl, fun i m hi j v hj => (hp i m hi).2 j v hj⟩⟩⟩
    obtain ⟨i, hi, rfl⟩ := List.getElem_of_mem hm
    exact (hp i _ (List.getElem?_eq_getElem hi)).1
end Go.Proofs.Ytpkikibcfkdodaa
