/-
  Lines that are none, between steps: what is read is the same.
-/
import Derived.Test.YtanjcjnkppnhcaaDoorTdF
import Derived.Test.YtanjcjnkppnhcaaDoorTdKG
namespace Go.Proofs.YtanjcjnkppnhcaaDoor
open Go Go.RowKit

theorem nls_nl {a : UInt8} (h : a = 10) (l : List UInt8) : nls (a :: l) = [] :: nls l := by rw [nls, if_pos h]
theorem nls_app : ∀ (a b : List UInt8), nls (a ++ 10 :: b) = nls a ++ nls b
  | [], b => by
    show nls (10 :: b) = nls [] ++ nls b
    rw [nls_nl rfl]
    rfl
  | c :: a, b => by
    have ih := nls_app a b
    show nls (c :: (a ++ 10 :: b)) = nls (c :: a) ++ nls b
    obtain ⟨x, xs, hx⟩ : ∃ x xs, nls a = x :: xs := by
      cases h : nls a with
      | nil => exact absurd h (nls_ne a)
      | cons x xs => exact ⟨x, xs, rfl⟩
    rw [hx] at ih
    rw [nls, ih]
    conv => rhs; rw [nls, hx]
    by_cases h : c = 10
    · rw [if_pos h, if_pos h]; simp
    · rw [if_neg h, if_neg h]; simp
/-- Is a line one that says nothing? -/
def skipB (l : List UInt8) : Bool := decide ((lineP l).2.2 = 0) && !(lineP l).2.1
def okP : (List Fl) ⊕ (Nat × Int) → Option (List Fl)
  | .inl xs => some xs
  | .inr _ => none
theorem okP_filter : ∀ (ls : List (List UInt8)) (i j : Nat) (acc : List Fl), okP (parseP ls i acc) = okP (parseP (ls.filter fun l => !skipB l) j acc)
  | [], _, _, _ => rfl
  | l :: ls, i, j, acc => by
    rw [List.filter_cons]
    by_cases h : (lineP l).2.2 = 0
    · cases h2 : (lineP l).2.1 with
      | false =>
        have hs : skipB l = true := by unfold skipB; rw [h, h2]; rfl
        rw [if_neg (by rw [hs]; simp), ← okP_filter ls (i + 1) j acc]
        rw [parseP, if_neg (by rw [h]; simp), if_pos h2]
      | true =>
        have hs : skipB l = false := by unfold skipB; rw [h2]; simp
        rw [if_pos (by rw [hs]; rfl)]
        by_cases h32 : acc.length = 32
        · have e : ∀ ms i, parseP (l :: ms) i acc = .inr (32, 4) := fun ms i => by rw [parseP, if_neg (by rw [h]; simp), if_neg (by rw [h2]; simp), if_pos h32]
          rw [e, e]
        · have e : ∀ ms i, parseP (l :: ms) i acc = parseP ms (i + 1) (acc ++ [(lineP l).1]) := fun ms i => by rw [parseP, if_neg (by rw [h]; simp), if_neg (by rw [h2]; simp), if_neg h32]
          rw [e, e]
          exact okP_filter ls (i + 1) (j + 1) (acc ++ [(lineP l).1])
    · have hs : skipB l = false := by unfold skipB; rw [decide_eq_false h]; rfl
      rw [if_pos (by rw [hs]; rfl)]
      have e : ∀ ms i, parseP (l :: ms) i acc = .inr (i, (lineP l).2.2) := fun ms i => by rw [parseP, if_pos h]
      rw [e, e]
      rfl
/-- What is put ahead of a step. -/
def insL (a : Nat) : List UInt8 := if a % 4 = 0 then [10] else if a % 4 = 1 then [35, 32, 112, 105, 99, 107, 32, 57, 10] else if a % 4 = 2 then [32, 32, 32, 10, 32, 32, 35, 32, 120, 10] else []
def mixL : List Fl → List Nat → List UInt8
  | x :: l, a :: at' => insL a ++ stepG x ++ mixL l at'
  | _, _ => []
theorem mixL_snoc : ∀ (l : List Fl) (at' : List Nat) (x : Fl) (a : Nat), l.length = at'.length → mixL (l ++ [x]) (at' ++ [a]) = mixL l at' ++ insL a ++ stepG x
  | [], [], x, a, _ => by simp [mixL]
  | y :: l, b :: at', x, a, h => by
    have ih := mixL_snoc l at' x a (by simpa using h)
    show insL b ++ stepG y ++ mixL (l ++ [x]) (at' ++ [a]) = insL b ++ stepG y ++ mixL l at' ++ insL a ++ stepG x
    rw [ih]
    simp
  | [], _ :: _, _, _, h => by simp at h
  | _ :: _, [], _, _, h => by simp at h
theorem ins_filter (a : Nat) (r : List UInt8) : (nls (insL a ++ r)).filter (fun l => !skipB l) = (nls r).filter fun l => !skipB l := by
  unfold insL
  by_cases h0 : a % 4 = 0
  · rw [if_pos h0, show ([10] : List UInt8) ++ r = [] ++ 10 :: r from rfl, nls_app, List.filter_append]
    have : (nls []).filter (fun l => !skipB l) = [] := by decide +kernel
    rw [this, List.nil_append]
  · rw [if_neg h0]
    by_cases h1 : a % 4 = 1
    · rw [if_pos h1, show ([35, 32, 112, 105, 99, 107, 32, 57, 10] : List UInt8) ++ r = [35, 32, 112, 105, 99, 107, 32, 57] ++ 10 :: r from rfl, nls_app, List.filter_append]
      have : (nls [35, 32, 112, 105, 99, 107, 32, 57]).filter (fun l => !skipB l) = [] := by decide +kernel
      rw [this, List.nil_append]
    · rw [if_neg h1]
      by_cases h2 : a % 4 = 2
      · rw [if_pos h2, show ([32, 32, 32, 10, 32, 32, 35, 32, 120, 10] : List UInt8) ++ r = [32, 32, 32, 10, 32, 32, 35, 32, 120] ++ 10 :: r from rfl, nls_app, List.filter_append]
        have : (nls [32, 32, 32, 10, 32, 32, 35, 32, 120]).filter (fun l => !skipB l) = [] := by decide +kernel
        rw [this, List.nil_append]
      · rw [if_neg h2, List.nil_append]
theorem stepG_app (x : Fl) : ∃ y, ∀ r, nls (stepG x ++ r) = nls y ++ nls r := by
  refine ⟨x.1.data.toList ++ [32] ++ Lib.itoa x.2.1 ++ (if (x.1.toList == [114, 101, 119, 111, 114, 100]) = true then [32] ++ x.2.2.data.toList else []), fun r => ?_⟩
  rw [← nls_app]
  unfold stepG
  simp
theorem mix_filter : ∀ (l : List Fl) (at' : List Nat), l.length = at'.length → (nls (mixL l at')).filter (fun l => !skipB l) = (nls (stepsG l)).filter fun l => !skipB l
  | [], [], _ => rfl
  | x :: l, a :: at', h => by
    have ih := mix_filter l at' (by simpa using h)
    obtain ⟨y, hy⟩ := stepG_app x
    show (nls (insL a ++ stepG x ++ mixL l at')).filter _ = (nls (stepsG (x :: l))).filter _
    rw [List.append_assoc, ins_filter, hy, List.filter_append, ih]
    have : stepsG (x :: l) = stepG x ++ stepsG l := by unfold stepsG; rw [List.flatMap_cons]
    rw [this, hy, List.filter_append]
  | [], _ :: _, h => by simp at h
  | _ :: _, [], h => by simp at h
theorem mix_same (l : List Fl) (at' : List Nat) (h : l.length = at'.length) : okP (parseP (nls (mixL l at')) 0 []) = okP (parseP (nls (stepsG l)) 0 []) := by
  rw [okP_filter _ 0 0, mix_filter l at' h, ← okP_filter _ 0 0]
#print axioms mix_same
end Go.Proofs.YtanjcjnkppnhcaaDoor
