/-
  Arguments that are steps, with their bulk, and bytes.
-/
import Derived.Test.YtanjcjnkppnhcaaDoorTlW
import Derived.Test.YtanjcjnkppnhcaaDoorRows
import Derived.ProofKit
import Derived.OpenShut
import Derived.ChangeSame
import Derived.Deep.Slices
import Derived.Lib.SmallJoins
namespace Go.Proofs.YtanjcjnkppnhcaaDoor
open Go.ChangeShapes Go.WideShapes Go.ChangeAt Go.RowKit Go.Deep Go.Joins

theorem list_of_td {α : Type} {P : Nat → α → Prop} : ∀ n : Nat, (∀ i, i < n → ∃ x, P i x) → ∃ l : List α, l.length = n ∧ ∀ i x, l[i]? = some x → P i x
  | 0, _ => ⟨[], rfl, fun i x h => by simp at h⟩
  | n + 1, h => by
    obtain ⟨l, hl, hp⟩ := list_of_td n (fun i hi => h i (by omega))
    obtain ⟨x, hx⟩ := h n (by omega)
    refine ⟨l ++ [x], by simp [hl], fun i y hy => ?_⟩
    rcases Nat.lt_or_ge i n with hi | hi
    · rw [List.getElem?_append_left (by omega)] at hy
      exact hp i y hy
    · rw [List.getElem?_append_right (by omega), hl] at hy
      have : i - n = 0 := by
        have := (List.getElem?_eq_some_iff.1 hy).1
        simp at this; omega
      rw [this] at hy
      simp at hy
      rw [show i = n by omega, ← hy]; exact hx
theorem in64_td {n : Int} (h : (Lit.int .i64 n).wf = true) : -9223372036854775808 ≤ n ∧ n ≤ 9223372036854775807 := by
  simp [Lit.wf, IntKind.min, IntKind.max, IntKind.signed, IntKind.bits] at h
  exact ⟨by omega, by omega⟩
theorem cellsStep : Tryd.prog.cellsOf 37 = 3 := by kernel_rfl
theorem cells3td : Tryd.prog.cellsOf 3 = 1 := by kernel_rfl
theorem cells9td : Tryd.prog.cellsOf 9 = 1 := by kernel_rfl
theorem cells5td : Tryd.prog.cellsOf 5 = 1 := by kernel_rfl
theorem bulk_one {H : Type} (d : DataW H) : 1 ≤ Rows.uptoBulk d := by
  cases d with
  | lit l => cases l <;> simp [Rows.uptoBulk]
  | nil => simp [Rows.uptoBulk]
  | ptr d => simp [Rows.uptoBulk]
  | slice elems spare => simp [Rows.uptoBulk]
  | agg parts => simp [Rows.uptoBulk]
  | iface t d => simp [Rows.uptoBulk]
  | map entries => simp [Rows.uptoBulk]
  | held h => simp [Rows.uptoBulk]
theorem bulk_part {H : Type} {d : DataW H} {l : List (DataW H)} (h : d ∈ l) : Rows.uptoBulk d ≤ Rows.uptoBulkAll l := by
  induction l with
  | nil => cases h
  | cons x r ih =>
    simp only [Rows.uptoBulkAll]
    cases List.mem_cons.1 h with
    | inl e => subst e; omega
    | inr e => have := ih e; omega
set_option maxRecDepth 100000 in
theorem steps_bulk {H : Type} {enc : TypeId × Value → H} {W : World} {base : Nat} {v : Value} {d : DataW H} {p : List MemPlace} (hv : Value.okWide Tryd.prog W .any base 26 v) (h : DataW.Trod enc Tryd.prog W 0 (fun _ => true) true 26 v d p) :
    ∃ (A : Option Addr) (c : Nat) (l : List Fl), v = .slice A l.length c ∧ Reads 3 cF W (.slice A l.length c) l ∧ ∀ x ∈ l, x.1.size ≤ Rows.uptoBulk d ∧ -9223372036854775808 ≤ x.2.1 ∧ x.2.1 ≤ 9223372036854775807 := by
  obtain ⟨A, n, c, rfl⟩ := okWide_slice Tryd.underlying26 hv
  obtain ⟨fuel, hf0⟩ := h
  have hf : DataW.trod enc Tryd.prog W 0 (fun _ => true) true fuel 26 [.slice A n c] = some (d, p) := by simpa [Value.cells] using hf0
  rcases open_slice Tryd.underlying26 hf with ⟨hcs, _⟩ | ⟨a, n', c', m, n1, D, Pl, hcs, _, hl, hm, hmm, hx, hi⟩
  · simp at hcs
    obtain ⟨rfl, rfl, rfl⟩ := hcs
    exact ⟨none, 0, [], rfl, Reads.nil W, fun x hx => by cases hx⟩
  · simp at hcs
    obtain ⟨rfl, rfl, rfl⟩ := hcs
    have hd : d = .slice ((List.range n).map D) ((List.range (m - n)).map fun j => D (n + j)) := congrArg Prod.fst hx
    have each : ∀ i, i < n → ∃ x : Fl, (∀ (j : Nat) (u : Value), (cF x)[j]? = some u → W.cell? (adr a i 3 j) = some u) ∧ (x.1.size ≤ Rows.uptoBulk d ∧ -9223372036854775808 ≤ x.2.1 ∧ x.2.1 ≤ 9223372036854775807) := fun i hin => by
      obtain ⟨cs', hc, ht⟩ := hi i (by rw [hmm]; split <;> omega)
      rw [cellsStep] at hc
      obtain ⟨_, hcl, hat⟩ := World.cells?_some hc
      obtain ⟨xs, n2, _, hagg, _, hxl, hff⟩ := DataW.trod_struct Tryd.underlying37 ht
      match xs, hxl with
      | [y0, y1, y2], _ =>
        match cs', hcl with
        | [u0, u1, u2], _ =>
          have h0 : DataW.trod enc Tryd.prog W 0 (fun _ => true) true n2 9 (([u0, u1, u2].drop 0).take (Tryd.prog.cellsOf 9)) = some y0 := hff 0 _ rfl
          have h1 : DataW.trod enc Tryd.prog W 0 (fun _ => true) true n2 3 (([u0, u1, u2].drop 1).take (Tryd.prog.cellsOf 3)) = some y1 := hff 1 _ rfl
          have h2 : DataW.trod enc Tryd.prog W 0 (fun _ => true) true n2 9 (([u0, u1, u2].drop 2).take (Tryd.prog.cellsOf 9)) = some y2 := hff 2 _ rfl
          obtain ⟨s0, hs0, hy0, _⟩ := DataW.trod_string Tryd.underlying9 h0
          obtain ⟨N, hN, _, wf1⟩ := DataW.trod_int Tryd.underlying3 h1
          obtain ⟨s2, hs2, _, _⟩ := DataW.trod_string Tryd.underlying9 h2
          rw [show Tryd.prog.cellsOf 9 = 1 from cells9td] at hs0 hs2
          rw [show Tryd.prog.cellsOf 3 = 1 from cells3td] at hN
          have e0 : u0 = .string s0 := by simpa using hs0
          have e1 : u1 = .int .i64 N := by simpa using hN
          have e2 : u2 = .string s2 := by simpa using hs2
          subst e0; subst e1; subst e2
          have hD : D i = .agg [y0.1, y1.1, y2.1] := congrArg Prod.fst hagg
          have hb : s0.size ≤ Rows.uptoBulk d := by
            have b1 : Rows.uptoBulk (D i) ≤ Rows.uptoBulkAll ((List.range n).map D) := bulk_part (List.mem_map.2 ⟨i, List.mem_range.2 hin, rfl⟩)
            have b2 : Rows.uptoBulk y0.1 = s0.size + 1 := by rw [hy0]; simp [Rows.uptoBulk]
            rw [hD] at b1
            rw [hd]
            simp only [Rows.uptoBulk, Rows.uptoBulkAll] at b1 ⊢
            omega
          refine ⟨(s0, N, s2), fun j u hu => ?_, hb, in64_td wf1⟩
          match j, hu with
          | 0, hu => simp [cF] at hu; subst hu; exact hat 0 (by omega)
          | 1, hu => simp [cF] at hu; subst hu; exact hat 1 (by omega)
          | 2, hu => simp [cF] at hu; subst hu; exact hat 2 (by omega)
          | j + 3, hu => simp [cF] at hu
    obtain ⟨l, hll, hp⟩ := list_of_td n each
    refine ⟨some a, c, l, by rw [hll], ⟨some a, c, rfl, by omega, hm, (fun e => by cases e), fun ad ha i x hx j u hu => by
      obtain rfl := Option.some.inj ha
      exact (hp i x hx).1 j u hu⟩, fun x hx => ?_⟩
    obtain ⟨i, hi, rfl⟩ := List.getElem_of_mem hx
    exact (hp i _ (List.getElem?_eq_getElem hi)).2
set_option maxRecDepth 100000 in
theorem bytes_of_trod {H : Type} {enc : TypeId × Value → H} {W : World} {base : Nat} {v : Value} {d : DataW H} {p : List MemPlace} (hv : Value.okWide Tryd.prog W .any base 35 v) (h : DataW.Trod enc Tryd.prog W 0 (fun _ => true) true 35 v d p) :
    ∃ (A : Option Addr) (l : List UInt8) (c : Nat), v = .slice A l.length c ∧ BytesAt W A l ∧ l.length ≤ 9223372036854775807 := by
  obtain ⟨A, n, c, rfl⟩ := okWide_slice Tryd.underlying35 hv
  obtain ⟨fuel, hf⟩ := h
  rcases open_ints Tryd.underlying35 Tryd.underlying5 cells5td hf with ⟨hcs, hx⟩ | ⟨a, n', c', zs, hcs, _, hl, hm, hz, hx, hcell, hwf⟩
  · simp [Value.cells] at hcs
    obtain ⟨rfl, rfl, rfl⟩ := hcs
    exact ⟨_, [], _, rfl, ⟨(fun a e => by cases e), fun h => absurd rfl h⟩, by simp⟩
  · simp [Value.cells] at hcs
    obtain ⟨rfl, rfl, rfl⟩ := hcs
    simp only [if_true] at hz
    unfold maxLen at hm
    refine ⟨some a, (zs.take n).map fun z => UInt8.ofNat z.toNat, c, by rw [List.length_map, List.length_take]; congr 1; omega, ⟨fun b e j x hj => ?_, fun _ e => by cases e⟩, by rw [List.length_map, List.length_take]; omega⟩
    injection e with e
    subst e
    rw [List.getElem?_map, List.getElem?_take] at hj
    split at hj
    · obtain ⟨z, hz1, hz2⟩ := Option.map_eq_some_iff.1 hj
      have h1 := (List.getElem?_eq_some_iff.1 hz1).1
      have hw := bounds_u8 (hwf z (List.mem_of_getElem? hz1))
      have hc := hcell j h1
      rw [List.getD, hz1] at hc
      rw [hc, ← hz2, UInt8.toNat_ofNat']
      simp only [Option.getD_some]
      congr 2
      omega
    · cases hj
end Go.Proofs.YtanjcjnkppnhcaaDoor
