/-
  lines of a text: cut at each end of line.
-/
import Derived.Lib.Split
import Derived.Lib.IndexBytes
import Derived.Lib.IndexLaws
namespace Go.Proofs.YtanjcjnkppnhcaaDoor
open Go

/-- A text's lines, without their ends. -/
def nls : List UInt8 → List (List UInt8)
  | [] => [[]]
  | c :: l => if c = 10 then [] :: nls l else match nls l with
    | [] => [[c]]
    | x :: xs => (c :: x) :: xs
theorem nls_ne : ∀ l : List UInt8, nls l ≠ []
  | [] => by simp [nls]
  | c :: l => by
    unfold nls
    split
    · simp
    · split <;> simp
theorem nls_none : ∀ {l : List UInt8}, (∀ k : Nat, l[k]? ≠ some 10) → nls l = [l]
  | [], _ => rfl
  | c :: l, h => by
    have hc : ¬ c = 10 := fun e => h 0 (by rw [e]; rfl)
    have ih := nls_none (l := l) fun k hk => h (k + 1) (by simpa using hk)
    unfold nls
    rw [if_neg hc, ih]
theorem nls_hit : ∀ {l : List UInt8} {i : Nat}, l[i]? = some 10 → (∀ k : Nat, k < i → l[k]? ≠ some 10) → nls l = l.take i :: nls (l.drop (i + 1))
  | [], _, h, _ => by simp at h
  | c :: l, 0, h, _ => by
    have hc : c = 10 := by simpa using h
    conv => lhs; unfold nls
    rw [if_pos hc]
    simp
  | c :: l, i + 1, h, hb => by
    have hc : ¬ c = 10 := fun e => hb 0 (by omega) (by rw [e]; rfl)
    have ih := nls_hit (l := l) (i := i) (by simpa using h) fun k hk hh => hb (k + 1) (by omega) (by simpa using hh)
    conv => lhs; unfold nls
    rw [if_neg hc, ih]
    simp
theorem nls_le : ∀ {l x : List UInt8}, x ∈ nls l → x.length ≤ l.length
  | [], x, h => by simp [nls] at h; subst h; simp
  | c :: l, x, h => by
    unfold nls at h
    split at h
    · rcases List.mem_cons.1 h with rfl | h
      · simp
      · have := nls_le h; simp; omega
    · cases hl : nls l with
      | nil => rw [hl] at h; simp at h; subst h; simp
      | cons y ys =>
        rw [hl] at h
        rcases List.mem_cons.1 h with rfl | h
        · have := nls_le (l := l) (x := y) (by rw [hl]; exact List.mem_cons_self); simp; omega
        · have := nls_le (l := l) (x := x) (by rw [hl]; exact List.mem_cons_of_mem _ h); simp; omega
theorem nls_len : ∀ l : List UInt8, (nls l).length ≤ l.length + 1
  | [] => by simp [nls]
  | c :: l => by
    have := nls_len l
    unfold nls
    split
    · simp; omega
    · split
      · simp
      · rename_i h; rw [h] at this; simp at this ⊢; omega
theorem split_nls : ∀ (n : Nat) (l : List UInt8), l.length ≤ n → Lib.split l [10] = nls l
  | n, l, hn => by
    rcases Int.lt_or_le (Lib.indexByte l 10) 0 with hx | hx
    · have hm : Lib.indexByte l 10 = -1 := by have := Lib.indexByte_ge l 10; omega
      rw [nls_none (Lib.indexByte_none hm)]
      unfold Lib.split
      rw [Lib.count_miss (by rw [Lib.index_one]; exact hm)]
      rfl
    · obtain ⟨i, hi⟩ : ∃ i : Nat, Lib.indexByte l 10 = i := ⟨(Lib.indexByte l 10).toNat, by omega⟩
      obtain ⟨h1, h2⟩ := Lib.indexByte_some hi
      rw [nls_hit h1 h2]
      have hx2 : Lib.index l [10] = i := by rw [Lib.index_one]; exact hi
      have hl := (List.getElem?_eq_some_iff.1 h1).1
      match n, hn with
      | 0, hn => omega
      | n + 1, hn =>
        have ih := split_nls n (l.drop (i + 1)) (by rw [List.length_drop]; omega)
        unfold Lib.split at ih ⊢
        rw [Lib.count_hit (by simp) hx2]
        rw [show 1 + Lib.count (l.drop (i + [(10 : UInt8)].length)) [10] = Lib.count (l.drop (i + 1)) [10] + 1 by rw [Nat.add_comm]; rfl]
        unfold Lib.splitK
        rw [if_neg (by rw [hx2]; simp), hx2]
        simp only [Int.toNat_natCast, Nat.add_zero, List.length_singleton]
        rw [ih]
theorem count_nls : ∀ (n : Nat) (l : List UInt8), l.length ≤ n → (nls l).length = Lib.count l [10] + 1
  | n, l, hn => by
    rcases Int.lt_or_le (Lib.indexByte l 10) 0 with hx | hx
    · have hm : Lib.indexByte l 10 = -1 := by have := Lib.indexByte_ge l 10; omega
      rw [nls_none (Lib.indexByte_none hm), Lib.count_miss (by rw [Lib.index_one]; exact hm)]
      rfl
    · obtain ⟨i, hi⟩ : ∃ i : Nat, Lib.indexByte l 10 = i := ⟨(Lib.indexByte l 10).toNat, by omega⟩
      obtain ⟨h1, h2⟩ := Lib.indexByte_some hi
      rw [nls_hit h1 h2]
      have hx2 : Lib.index l [10] = i := by rw [Lib.index_one]; exact hi
      have hl := (List.getElem?_eq_some_iff.1 h1).1
      match n, hn with
      | 0, hn => omega
      | n + 1, hn =>
        have ih := count_nls n (l.drop (i + 1)) (by rw [List.length_drop]; omega)
        rw [Lib.count_hit (by simp) hx2, List.length_cons, ih]
        show Lib.count (l.drop (i + 1)) [10] + 1 + 1 = 1 + Lib.count (l.drop (i + 1)) [10] + 1
        omega
theorem splitB_nls (s : ByteArray) : (Lib.splitB ⟨#[10]⟩ 0 (Lib.countB s ⟨#[10]⟩) s).map (·.data.toList) = nls s.data.toList := by
  rw [Lib.splitB_data]
  exact split_nls _ _ (Nat.le_refl _)
theorem splitB_len (s : ByteArray) : (Lib.splitB ⟨#[10]⟩ 0 (Lib.countB s ⟨#[10]⟩) s).length = Lib.countB s ⟨#[10]⟩ + 1 := by
  have h := congrArg List.length (splitB_nls s)
  rw [List.length_map, count_nls _ _ (Nat.le_refl _)] at h
  exact h
end Go.Proofs.YtanjcjnkppnhcaaDoor
