/-
  Two changes far from each other: what comes of the texts.
-/
import Derived.Test.YtiefenfogjlnoaaMPlain
namespace Go.Proofs.Ytiefenfogjlnoaa
open Go.RowKit

theorem wholeL_ended {x : List UInt8} (h : Ended x) : wholeL x = true := by
  obtain ⟨y, rfl, _⟩ := h
  simp [wholeL]
theorem cutL_one {x : List UInt8} (h : Ended x) : cutL x = [x] := by
  have h1 := cutL_ended h
  have h2 := cutL_flat x
  match hc : cutL x with
  | [] => rw [hc] at h1; cases h1
  | [y] => rw [hc] at h2; simpa using h2
  | y :: z :: r => rw [hc] at h1; simp at h1
theorem cutL_cons {x r : List UInt8} (h : Ended x) : cutL (x ++ r) = x :: cutL r := by rw [cutL_append _ _ (wholeL_ended h), cutL_one h]; rfl
theorem cutL_all : ∀ {M : List (List UInt8)} {r : List UInt8}, (∀ x ∈ M, Ended x) → cutL (M.flatten ++ r) = M ++ cutL r
  | [], r, _ => rfl
  | x :: M, r, h => by
    rw [List.flatten_cons, List.append_assoc, cutL_cons (h x List.mem_cons_self), cutL_all fun y hy => h y (List.mem_cons_of_mem _ hy)]
    rfl

theorem mk_inj {a b : List UInt8} (h : mk a = mk b) : a = b := by
  have := congrArg (fun s : ByteArray => s.data.toList) h
  simpa [mk] using this

theorem pls_dels {α : Type} (x a : α) (l : List (Nat × α)) : pls ((2, x) :: (3, a) :: l) 0 = none :: pls l 1 := by
  simp [pls]

/-- A line between: it begins with an m. -/
def MidL (x : List UInt8) : Prop := Ended x ∧ x.head? = some 109

theorem far_txt (p q a b : List UInt8) (M : List (List UInt8)) (hM : ∀ x ∈ M, MidL x) (h0 : M ≠ []) (ha : (10 : UInt8) ∉ a) (hb : (10 : UInt8) ∉ b) :
    txtAll p q (allC (lns (mk ([120, 10] ++ (M.flatten ++ [121, 10])))) (lns (mk ((97 :: a ++ [10]) ++ (M.flatten ++ [121, 10])))) (lns (mk ([120, 10] ++ (M.flatten ++ (98 :: b ++ [10])))))) = (97 :: a ++ [10]) ++ (M.flatten ++ (98 :: b ++ [10])) ∧
    clashes (allC (lns (mk ([120, 10] ++ (M.flatten ++ [121, 10])))) (lns (mk ((97 :: a ++ [10]) ++ (M.flatten ++ [121, 10])))) (lns (mk ([120, 10] ++ (M.flatten ++ (98 :: b ++ [10])))))) = 0 := by
  have eX : Ended [120, 10] := ⟨[120], rfl, by decide⟩
  have eY : Ended [121, 10] := ⟨[121], rfl, by decide⟩
  have eA : Ended (97 :: a ++ [10]) := ⟨97 :: a, rfl, by simp; exact ha⟩
  have eC : Ended (98 :: b ++ [10]) := ⟨98 :: b, rfl, by simp; exact hb⟩
  have eM : ∀ x ∈ M, Ended x := fun x hx => (hM x hx).1
  have key : ∀ (u v : List UInt8), Ended u → Ended v → lns (mk (u ++ (M.flatten ++ v))) = mk u :: (M.map mk ++ [mk v]) := by
    intro u v hu hv
    show (cutL (mk (u ++ (M.flatten ++ v))).data.toList).map mk = _
    rw [show (mk (u ++ (M.flatten ++ v))).data.toList = u ++ (M.flatten ++ v) by simp [mk], cutL_cons hu, cutL_all eM, cutL_one hv]
    simp
  rw [key _ _ eX eY, key _ _ eA eY, key _ _ eX eC]
  have hXA : mk [120, 10] ≠ mk (97 :: a ++ [10]) := fun e => by have := mk_inj e; simp at this
  have hYC : mk [121, 10] ≠ mk (98 :: b ++ [10]) := fun e => by have := mk_inj e; simp at this
  have hAM : mk (97 :: a ++ [10]) ∉ M.map mk ++ [mk [121, 10]] := by
    intro h
    rw [List.mem_append, List.mem_singleton, List.mem_map] at h
    rcases h with ⟨x, hx, e⟩ | e
    · have := mk_inj e
      have h2 := (hM x hx).2
      rw [this] at h2
      simp at h2
    · have := mk_inj e
      simp at this
  have hO := ed_ahead hXA hAM
  have hT : ed (mk [120, 10] :: (M.map mk ++ [mk [121, 10]])) (mk [120, 10] :: (M.map mk ++ [mk (98 :: b ++ [10])])) = ((mk [120, 10] :: M.map mk).map fun x => (1, x)) ++ [(2, mk [121, 10]), (3, mk (98 :: b ++ [10]))] := ed_behind hYC (mk [120, 10] :: M.map mk)
  have hlen : (M.map mk ++ [mk [121, 10]]).length = M.length + 1 := by simp
  have hm : M.map mk ≠ [] := by simpa using h0
  have F := far_out hm (places_ed (mk [120, 10] :: (M.map mk ++ [mk [121, 10]])) (mk (97 :: a ++ [10]) :: (M.map mk ++ [mk [121, 10]]))) (places_ed (mk [120, 10] :: (M.map mk ++ [mk [121, 10]])) (mk [120, 10] :: (M.map mk ++ [mk (98 :: b ++ [10])])))
    (by
      intro i h1 h2
      rw [hO]
      have hk := pls_keep (M.map mk ++ [mk [121, 10]]) [] 1 (i - 1)
      rw [List.append_nil] at hk
      obtain ⟨i, rfl⟩ : ∃ z, i = z + 1 := ⟨i - 1, by omega⟩
      rw [pls_dels, List.getElem?_cons_succ]
      simp only [Nat.add_sub_cancel] at hk
      rw [hk, if_pos (by rw [hlen]; simp at h2; omega)]
      congr 2
      omega)
    (by
      intro j
      rw [hO, pls_dels]
      simp)
    (by
      intro i h2
      rw [hT]
      have hk := pls_keep (mk [120, 10] :: M.map mk) [(2, mk [121, 10]), (3, mk (98 :: b ++ [10]))] 0 i
      rw [hk, if_pos (by simp at h2 ⊢; omega)]
      simp)
    (by
      intro j
      rw [hT]
      have hk := pls_keep (mk [120, 10] :: M.map mk) [(2, mk [121, 10]), (3, mk (98 :: b ++ [10]))] 0 ((M.map mk).length + 1)
      rw [hk, if_neg (by simp)]
      simp [pls])
  have hl : (mk [120, 10] :: (M.map mk ++ [mk [121, 10]])).length + 1 = (M.map mk).length + 3 := by simp
  unfold allC
  rw [hl]
  obtain ⟨f1, f2⟩ := F
  obtain ⟨g1, g2⟩ := txt_calm p q f1
  refine ⟨?_, g2⟩
  rw [g1]
  have f2' := congrArg cat f2
  refine f2'.trans ?_
  unfold cat
  simp only [List.map_cons, List.map_append, List.map_map, List.map_nil, List.flatten_cons, List.flatten_append, List.flatten_nil, List.append_nil]
  have hmm : M.map ((fun s : ByteArray => s.data.toList) ∘ mk) = M := by
    conv => rhs; rw [← List.map_id M]
    exact List.map_congr_left fun x _ => by simp [mk]
  rw [hmm]
  simp [mk]

end Go.Proofs.Ytiefenfogjlnoaa
