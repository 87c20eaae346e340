/-
  A row of bools as an argument; FilesSync for the card.
-/
import Derived.Test.YtcnmlgmlijgmhaaDoorSgB
import Derived.ChangeArms
namespace Go.Proofs.YtcnmlgmlijgmhaaDoor
open Go.ChangeShapes Go.WideShapes Go.ChangeAt Go.RowKit Go.Deep Go.Joins

theorem listOf {α : Type} {P : Nat → α → Prop} : ∀ n : Nat, (∀ i, i < n → ∃ x, P i x) → ∃ l : List α, l.length = n ∧ ∀ i x, l[i]? = some x → P i x
  | 0, _ => ⟨[], rfl, fun i x h => by simp at h⟩
  | n + 1, h => by
    obtain ⟨l, hl, hp⟩ := listOf n (fun i hi => h i (by omega))
    obtain ⟨x, hx⟩ := h n (by omega)
    refine ⟨l ++ [x], by simp [hl], fun i y hy => ?_⟩
    rcases Nat.lt_or_ge i n with hi | hi
    · rw [List.getElem?_append_left (by omega)] at hy
      exact hp i y hy
    · rw [List.getElem?_append_right (by omega), hl] at hy
      have : i - n = 0 := by
        have := (List.getElem?_eq_some_iff.1 hy).1
        simp at this; omega
      rw [this] at hy
      simp at hy
      rw [show i = n by omega, ← hy]; exact hx
theorem Tryd.cells4' : Tryd.prog.cellsOf 4 = 1 := by kernel_rfl
set_option maxRecDepth 100000 in
theorem bools_of_trod {H : Type} {enc : TypeId × Value → H} {W : World} {base : Nat} {v : Value} {d : DataW H} {p : List MemPlace} (hv : Value.okWide Tryd.prog W .any base 29 v) (h : DataW.Trod enc Tryd.prog W 0 (fun _ => true) true 29 v d p) :
    ∃ l : List Bool, Reads 1 cB W v l := by
  obtain ⟨A, n, c, rfl⟩ := okWide_slice Tryd.underlying29 hv
  obtain ⟨fuel, hf⟩ := h
  rcases open_slice Tryd.underlying29 hf with ⟨hcs, _⟩ | ⟨a, n', c', m, n1, D, Pl, hcs, _, hl, hm, hmm, _, hi⟩
  · simp [Value.cells] at hcs
    obtain ⟨rfl, rfl, rfl⟩ := hcs
    exact ⟨[], Reads.nil W⟩
  · simp [Value.cells] at hcs
    obtain ⟨rfl, rfl, rfl⟩ := hcs
    have each : ∀ i, i < n → ∃ x : Bool, ∀ (j : Nat) (u : Value), (cB x)[j]? = some u → W.cell? (adr a i 1 j) = some u := fun i hin => by
      obtain ⟨cs', hc, ht⟩ := hi i (by rw [hmm]; split <;> omega)
      rw [Tryd.cells4'] at hc
      obtain ⟨x, rfl, _⟩ := DataW.trod_bool Tryd.underlying4 ht
      have hcell := cell_of_cells?_one hc
      refine ⟨x, fun j u hu => ?_⟩
      match j, hu with
      | 0, hu => simp [cB] at hu; subst hu; exact hcell
      | j + 1, hu => simp [cB] at hu
    obtain ⟨l, hll, hp⟩ := listOf n each
    exact ⟨l, some a, c, by rw [hll], by omega, hm, (fun e => by cases e), fun ad ha i x hx j u hu => by
      obtain rfl := Option.some.inj ha
      exact hp i x hx j u hu⟩
theorem filesSync_law (w : World) (A0 A1 : Option Addr) (v2 : Value) (l0 : List UInt8) (c0 : Nat) (l1 : List UInt8) (c1 : Nat) (kl : List Bool) (r0 : BytesAt w A0 l0) (n0 : A0 = none → l0 = []) (r1 : BytesAt w A1 l1) (n1 : A1 = none → l1 = []) (r2 : Reads 1 cB w v2 kl) :
    Calls Tryd.prog 4 #[.slice A0 l0.length c0, .slice A1 l1.length c1, v2] w fun e w' => e = .returned (.bool true) ∧ Below w.heap.size w w' := filesSync_any w A0 l0 c0 A1 l1 c1 v2 kl r0 n0 r1 n1 r2
end Go.Proofs.YtcnmlgmlijgmhaaDoor
