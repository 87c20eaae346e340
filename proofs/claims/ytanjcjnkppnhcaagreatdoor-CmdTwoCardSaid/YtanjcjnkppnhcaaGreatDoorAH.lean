/-
  words of a text: cut at each blank.
-/
import Derived.Lib.Split
import Derived.Lib.IndexBytes
import Derived.Lib.IndexLaws

namespace Go.Proofs.YtanjcjnkppnhcaaGreatDoor
open Go

/-- A text's words with single blanks between. -/
def fls : List UInt8 → List (List UInt8)
  | [] => [[]]
  | c :: l => if c = 32 then [] :: fls l else match fls l with
    | [] => [[c]]
    | x :: xs => (c :: x) :: xs
theorem fls_ne : ∀ l : List UInt8, fls l ≠ []
  | [] => by simp [fls]
  | c :: l => by
    unfold fls
    split
    · simp
    · split <;> simp
theorem fls_none : ∀ {l : List UInt8}, (∀ k : Nat, l[k]? ≠ some 32) → fls l = [l]
  | [], _ => rfl
  | c :: l, h => by
    have hc : ¬ c = 32 := fun e => h 0 (by rw [e]; rfl)
    have ih := fls_none (l := l) fun k hk => h (k + 1) (by simpa using hk)
    unfold fls
    rw [if_neg hc, ih]
theorem fls_hit : ∀ {l : List UInt8} {i : Nat}, l[i]? = some 32 → (∀ k : Nat, k < i → l[k]? ≠ some 32) → fls l = l.take i :: fls (l.drop (i + 1))
  | [], _, h, _ => by simp at h
  | c :: l, 0, h, _ => by
    have hc : c = 32 := by simpa using h
    conv => lhs; unfold fls
    rw [if_pos hc]
    simp
  | c :: l, i + 1, h, hb => by
    have hc : ¬ c = 32 := fun e => hb 0 (by omega) (by rw [e]; rfl)
    have ih := fls_hit (l := l) (i := i) (by simpa using h) fun k hk hh => hb (k + 1) (by omega) (by simpa using hh)
    conv => lhs; unfold fls
    rw [if_neg hc, ih]
    simp
theorem fls_le : ∀ {l x : List UInt8}, x ∈ fls l → x.length ≤ l.length
  | [], x, h => by simp [fls] at h; subst h; simp
  | c :: l, x, h => by
    unfold fls at h
    split at h
    · rcases List.mem_cons.1 h with rfl | h
      · simp
      · have := fls_le h; simp; omega
    · cases hl : fls l with
      | nil => rw [hl] at h; simp at h; subst h; simp
      | cons y ys =>
        rw [hl] at h
        rcases List.mem_cons.1 h with rfl | h
        · have := fls_le (l := l) (x := y) (by rw [hl]; exact List.mem_cons_self); simp; omega
        · have := fls_le (l := l) (x := x) (by rw [hl]; exact List.mem_cons_of_mem _ h); simp; omega
theorem fls_len : ∀ l : List UInt8, (fls l).length ≤ l.length + 1
  | [] => by simp [fls]
  | c :: l => by
    have := fls_len l
    unfold fls
    split
    · simp; omega
    · split
      · simp
      · rename_i h; rw [h] at this; simp at this ⊢; omega
theorem split_fls : ∀ (n : Nat) (l : List UInt8), l.length ≤ n → Lib.split l [32] = fls l
  | n, l, hn => by
    rcases Int.lt_or_le (Lib.indexByte l 32) 0 with hx | hx
    · have hm : Lib.indexByte l 32 = -1 := by have := Lib.indexByte_ge l 32; omega
      rw [fls_none (Lib.indexByte_none hm)]
      unfold Lib.split
      rw [Lib.count_miss (by rw [Lib.index_one]; exact hm)]
      rfl
    · obtain ⟨i, hi⟩ : ∃ i : Nat, Lib.indexByte l 32 = i := ⟨(Lib.indexByte l 32).toNat, by omega⟩
      obtain ⟨h1, h2⟩ := Lib.indexByte_some hi
      rw [fls_hit h1 h2]
      have hx2 : Lib.index l [32] = i := by rw [Lib.index_one]; exact hi
      have hl := (List.getElem?_eq_some_iff.1 h1).1
      match n, hn with
      | 0, hn => omega
      | n + 1, hn =>
        have ih := split_fls n (l.drop (i + 1)) (by rw [List.length_drop]; omega)
        unfold Lib.split at ih ⊢
        rw [Lib.count_hit (by simp) hx2]
        rw [show 1 + Lib.count (l.drop (i + [(32 : UInt8)].length)) [32] = Lib.count (l.drop (i + 1)) [32] + 1 by rw [Nat.add_comm]; rfl]
        unfold Lib.splitK
        rw [if_neg (by rw [hx2]; simp), hx2]
        simp only [Int.toNat_natCast, Nat.add_zero, List.length_singleton]
        rw [ih]
theorem count_fls : ∀ (n : Nat) (l : List UInt8), l.length ≤ n → (fls l).length = Lib.count l [32] + 1
  | n, l, hn => by
    rcases Int.lt_or_le (Lib.indexByte l 32) 0 with hx | hx
    · have hm : Lib.indexByte l 32 = -1 := by have := Lib.indexByte_ge l 32; omega
      rw [fls_none (Lib.indexByte_none hm), Lib.count_miss (by rw [Lib.index_one]; exact hm)]
      rfl
    · obtain ⟨i, hi⟩ : ∃ i : Nat, Lib.indexByte l 32 = i := ⟨(Lib.indexByte l 32).toNat, by omega⟩
      obtain ⟨h1, h2⟩ := Lib.indexByte_some hi
      rw [fls_hit h1 h2]
      have hx2 : Lib.index l [32] = i := by rw [Lib.index_one]; exact hi
      have hl := (List.getElem?_eq_some_iff.1 h1).1
      match n, hn with
      | 0, hn => omega
      | n + 1, hn =>
        have ih := count_fls n (l.drop (i + 1)) (by rw [List.length_drop]; omega)
        rw [Lib.count_hit (by simp) hx2, List.length_cons, ih]
        show Lib.count (l.drop (i + 1)) [32] + 1 + 1 = 1 + Lib.count (l.drop (i + 1)) [32] + 1
        omega
theorem splitB_fls (s : ByteArray) : (Lib.splitB ⟨#[32]⟩ 0 (Lib.countB s ⟨#[32]⟩) s).map (·.data.toList) = fls s.data.toList := by
  rw [Lib.splitB_data]
  exact split_fls _ _ (Nat.le_refl _)
theorem splitB_len32 (s : ByteArray) : (Lib.splitB ⟨#[32]⟩ 0 (Lib.countB s ⟨#[32]⟩) s).length = Lib.countB s ⟨#[32]⟩ + 1 := by
  have h := congrArg List.length (splitB_fls s)
  rw [List.length_map, count_fls _ _ (Nat.le_refl _)] at h
  exact h
theorem fls_blank {a : UInt8} (h : a = 32) (l : List UInt8) : fls (a :: l) = [] :: fls l := by
  rw [fls, if_pos h]
theorem fls_more {a : UInt8} (h : ¬ a = 32) {l x : List UInt8} {xs : List (List UInt8)} (hl : fls l = x :: xs) : fls (a :: l) = (a :: x) :: xs := by
  rw [fls, if_neg h, hl]
theorem fls_snoc : ∀ (l : List UInt8) (c : UInt8) (ys : List (List UInt8)) (z : List UInt8), fls l = ys ++ [z] → fls (l ++ [c]) = if c = 32 then ys ++ [z] ++ [[]] else ys ++ [z ++ [c]]
  | [], c, ys, z, h => by
    rw [fls] at h
    cases ys with
    | nil =>
      injection h with h _
      subst h
      simp [fls]
    | cons y ys =>
      injection h with _ h
      simp at h
  | a :: l, c, ys, z, h => by
    rw [List.cons_append]
    by_cases ha : a = 32
    · rw [fls_blank ha] at h ⊢
      cases ys with
      | nil =>
        injection h with _ h
        exact absurd h (fls_ne l)
      | cons y ys =>
        injection h with h1 h2
        subst h1
        rw [fls_snoc l c ys z h2]
        split <;> simp
    · cases hl : fls l with
      | nil => exact absurd hl (fls_ne l)
      | cons x xs =>
        rw [fls_more ha hl] at h
        cases ys with
        | nil =>
          injection h with h1 h2
          have ih := fls_snoc l c [] x (by rw [hl, h2]; rfl)
          by_cases hc : c = 32
          · rw [if_pos hc] at ih ⊢
            rw [fls_more ha (by rw [ih]; rfl), h1]
            rfl
          · rw [if_neg hc] at ih ⊢
            rw [fls_more ha (by rw [ih]; rfl), ← h1]
            rfl
        | cons y ys =>
          injection h with h1 h2
          have ih := fls_snoc l c (x :: ys) z (by rw [hl, h2]; rfl)
          by_cases hc : c = 32
          · rw [if_pos hc] at ih ⊢
            rw [fls_more ha (by rw [ih]; rfl), h1]
            rfl
          · rw [if_neg hc] at ih ⊢
            rw [fls_more ha (by rw [ih]; rfl), h1]
            rfl
end Go.Proofs.YtanjcjnkppnhcaaGreatDoor
