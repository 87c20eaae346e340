/-
  diff.numbered: lines by number; two lines have one number just if they are alike.
-/
import Derived.Test.YtdpoeagmeiedcaaDoorAlike
import Derived.Maps.OwnSet
namespace Go.Proofs.YtdpoeagmeiedcaaDoor
open Go.RowKit Go.Maps Go.WideMaps

theorem strKey : Keyed Tryd.prog 9 := string_keyed Tryd.underlying9
theorem zero3 (w : World) : (zeroValue 3).run Tryd.prog w = .ok (.int .i64 0) w := by kernel_rfl
theorem intInfo : (Tryd.prog.info? 3).map (fun i => (i.zero, i.size, i.bytes)) = some (some (.int .i64 0), 1, 8) := by kernel_rfl

abbrev key (s : ByteArray) : Lit := .string s.data.toList
abbrev num (c : Nat) : DataW Unit := .lit (.int .i64 (c : Int))

theorem key_inj {s t : ByteArray} (h : key s = key t) : s = t := by
  injection h with h
  exact ByteArray.ext (Array.toList_inj.1 h)

/-- The numbers that have been given: each less than how many, no two lines one number. -/
structure Good (D : DataW Unit) : Prop where
  tidy : Tidy D
  lt : ∀ s, has D (key s) = true → ∃ c : Nat, (∀ z, D.atKey (key s) z = num c) ∧ c < size D
  inj : ∀ s t, has D (key s) = true → has D (key t) = true → (∀ z, D.atKey (key s) z = D.atKey (key t) z) → s = t

/-- What has a number keeps it. -/
def More (D D' : DataW Unit) : Prop := ∀ s, has D (key s) = true → has D' (key s) = true ∧ ∀ z, D'.atKey (key s) z = D.atKey (key s) z

theorem More.refl (D : DataW Unit) : More D D := fun _ h => ⟨h, fun _ => rfl⟩
theorem More.trans {A B C : DataW Unit} (h : More A B) (g : More B C) : More A C := fun s hs => ⟨(g s (h s hs).1).1, fun z => ((g s (h s hs).1).2 z).trans ((h s hs).2 z)⟩

theorem good_empty : Good (.map []) := ⟨tidy_empty, fun s h => by simp [has_eq] at h, fun s t h => by simp [has_eq] at h⟩

theorem num_ne {a b : Nat} (h : num a = num b) : a = b := by
  simp only [num, DataW.lit.injEq, Lit.int.injEq, true_and] at h
  omega

theorem good_put {D : DataW Unit} (h : Good D) {s : ByteArray} (hs : has D (key s) = false) : Good (D.put (key s) (num (size D))) ∧ More D (D.put (key s) (num (size D))) ∧
    (has (D.put (key s) (num (size D))) (key s) = true) ∧ (∀ z, (D.put (key s) (num (size D))).atKey (key s) z = num (size D)) ∧ size (D.put (key s) (num (size D))) = size D + 1 := by
  have hk : WideAt.IsKeyLit (key s) := trivial
  have e1 := has_put_same h.tidy.isMap hk (num (size D))
  have e2 := fun z => atKey_put_same h.tidy.isMap hk (num (size D)) z
  have e3 : size (D.put (key s) (num (size D))) = size D + 1 := by rw [size_put h.tidy, hs]; rfl
  have oth : ∀ t, t ≠ s → has (D.put (key s) (num (size D))) (key t) = has D (key t) ∧ ∀ z, (D.put (key s) (num (size D))).atKey (key t) z = D.atKey (key t) z := fun t ht =>
    ⟨has_put_other (fun e => ht (key_inj e)) _, fun z => atKey_put_other (fun e => ht (key_inj e)) _ z⟩
  refine ⟨⟨h.tidy.put hk _, ?_, ?_⟩, ?_, e1, e2, e3⟩
  · intro t ht
    by_cases hts : t = s
    · subst hts; exact ⟨_, e2, by omega⟩
    · rw [(oth t hts).1] at ht
      obtain ⟨c, hc, hlt⟩ := h.lt t ht
      exact ⟨c, fun z => ((oth t hts).2 z).trans (hc z), by omega⟩
  · intro t u ht hu he
    by_cases hts : t = s
    · by_cases hus : u = s
      · rw [hts, hus]
      · rw [(oth u hus).1] at hu
        obtain ⟨c, hc, hlt⟩ := h.lt u hu
        have := he .nil
        rw [hts, e2, (oth u hus).2, hc] at this
        have := num_ne this
        omega
    · rw [(oth t hts).1] at ht
      by_cases hus : u = s
      · obtain ⟨c, hc, hlt⟩ := h.lt t ht
        have := he .nil
        rw [hus, e2, (oth t hts).2, hc] at this
        have := num_ne this
        omega
      · rw [(oth u hus).1] at hu
        exact h.inj t u ht hu fun z => by rw [← (oth t hts).2, ← (oth u hus).2]; exact he z
  · intro t ht
    by_cases hts : t = s
    · subst hts; rw [hs] at ht; cases ht
    · exact ⟨by rw [(oth t hts).1]; exact ht, (oth t hts).2⟩

/-- zs are the numbers of the lines xs. -/
def Nums (D : DataW Unit) (xs : List ByteArray) (zs : List Nat) : Prop := zs.length = xs.length ∧ ∀ (i : Nat) s, xs[i]? = some s → has D (key s) = true ∧ ∃ c, zs[i]? = some c ∧ ∀ z, D.atKey (key s) z = num c

theorem Nums.more {D D' : DataW Unit} {xs : List ByteArray} {zs : List Nat} (h : Nums D xs zs) (m : More D D') : Nums D' xs zs :=
  ⟨h.1, fun i s hs => by
    obtain ⟨h1, c, h2, h3⟩ := h.2 i s hs
    exact ⟨(m s h1).1, c, h2, fun z => ((m s h1).2 z).trans (h3 z)⟩⟩

/-- Numbers are alike just if lines are. -/
theorem Nums.eq {D : DataW Unit} (g : Good D) {xs ys : List ByteArray} {zs us : List Nat} (h : Nums D xs zs) (k : Nums D ys us) {i j : Nat} {s t : ByteArray} (hs : xs[i]? = some s) (ht : ys[j]? = some t) {a b : Nat} (ha : zs[i]? = some a) (hb : us[j]? = some b) : a = b ↔ s = t := by
  obtain ⟨h1, c, h2, h3⟩ := h.2 i s hs
  obtain ⟨k1, d, k2, k3⟩ := k.2 j t ht
  rw [ha] at h2
  rw [hb] at k2
  cases h2
  cases k2
  constructor
  · intro e
    subst e
    exact g.inj s t h1 k1 fun z => by rw [h3, k3]
  · intro e
    subst e
    exact num_ne ((h3 .nil).symm.trans (k3 .nil))

end Go.Proofs.YtdpoeagmeiedcaaDoor
