/-
  Text, the plain part: what the pieces are as one text.
-/
import Derived.Test.YtiefenfogjlnoaaChunks
namespace Go.Proofs.Ytiefenfogjlnoaa
open Go.RowKit

abbrev oursB : ByteArray := { data := #[60, 60, 60, 60, 60, 60, 60, 32] }
abbrev midB : ByteArray := { data := #[61, 61, 61, 61, 61, 61, 61, 10] }
abbrev theirsB : ByteArray := { data := #[62, 62, 62, 62, 62, 62, 62, 32] }
abbrev nlB : ByteArray := { data := #[10] }

/-- What clashes, as it stands in the text. -/
abbrev markB (sa sn so st : ByteArray) : ByteArray := oursB ++ sa ++ nlB ++ so ++ midB ++ st ++ theirsB ++ sn ++ nlB
def markL (a n so st : List UInt8) : List UInt8 := oursB.data.toList ++ a ++ [10] ++ so ++ midB.data.toList ++ st ++ theirsB.data.toList ++ n ++ [10]
theorem append_data (a b : ByteArray) : (a ++ b).data.toList = a.data.toList ++ b.data.toList := by simp
theorem markB_data (sa sn so st : ByteArray) : (markB sa sn so st).data.toList = markL sa.data.toList sn.data.toList so.data.toList st.data.toList := by
  unfold markB markL
  simp only [append_data]

def txtC (a n : List UInt8) (c : Ck ByteArray) : List UInt8 := if c.clash = true then markL a n (endL (cat c.ours)) (endL (cat c.theirs)) else cat c.out
def txtAll (a n : List UInt8) (cs : List (Ck ByteArray)) : List UInt8 := cs.flatMap (txtC a n)
def clashes (cs : List (Ck ByteArray)) : Nat := (cs.filter (·.clash)).length

theorem txtAll_take {a n : List UInt8} {cs : List (Ck ByteArray)} {k : Nat} {c : Ck ByteArray} (h : cs[k]? = some c) : txtAll a n (cs.take (k + 1)) = txtAll a n (cs.take k) ++ txtC a n c := by
  unfold txtAll
  rw [List.take_add_one, h, List.flatMap_append]
  simp
theorem clashes_take {cs : List (Ck ByteArray)} {k : Nat} {c : Ck ByteArray} (h : cs[k]? = some c) : clashes (cs.take (k + 1)) = clashes (cs.take k) + if c.clash = true then 1 else 0 := by
  unfold clashes
  rw [List.take_add_one, h, List.filter_append, List.length_append]
  cases hc : c.clash <;> simp [hc]
theorem clashes_le (cs : List (Ck ByteArray)) : clashes cs ≤ cs.length := List.length_filter_le _ _

theorem flatMap_le {α β : Type} {f : α → List β} {M : Nat} : ∀ {l : List α}, (∀ x ∈ l, (f x).length ≤ M) → (l.flatMap f).length ≤ l.length * M
  | [], _ => by simp
  | x :: l, h => by
    have h1 := h x (List.mem_cons_self ..)
    have h2 := flatMap_le (f := f) (M := M) (l := l) (fun y hy => h y (List.mem_cons_of_mem _ hy))
    rw [List.flatMap_cons, List.length_append, List.length_cons, Nat.add_mul]
    omega
theorem mem_flatMap_le {α β : Type} {f : α → List β} : ∀ {l : List α} {x : α}, x ∈ l → (f x).length ≤ (l.flatMap f).length
  | [], _, h => by cases h
  | y :: l, x, h => by
    rw [List.flatMap_cons, List.length_append]
    rcases List.mem_cons.1 h with rfl | h
    · omega
    · have := mem_flatMap_le (f := f) h; omega

theorem cat_append (a b : List ByteArray) : cat (a ++ b) = cat a ++ cat b := by simp [cat]
theorem cat_flatMap {α : Type} (f : α → List ByteArray) : ∀ l : List α, cat (l.flatMap f) = l.flatMap fun x => cat (f x)
  | [] => rfl
  | x :: l => by rw [List.flatMap_cons, cat_append, cat_flatMap f l, List.flatMap_cons]
theorem cat_map_mk (ls : List (List UInt8)) : cat (ls.map mk) = ls.flatten := by
  unfold cat
  rw [List.map_map]
  congr 1
  rw [show ((fun x : ByteArray => x.data.toList) ∘ mk) = id from by funext l; simp [mk]]
  simp
theorem cat_lines (l : List UInt8) : cat ((cutL l).map mk) = l := by rw [cat_map_mk, cutL_flat]
theorem mem_cat {xs : List ByteArray} {s : ByteArray} (h : s ∈ xs) : s.size ≤ (cat xs).length := by
  have := mem_flatMap_le (f := fun x : ByteArray => x.data.toList) h
  have e : xs.flatMap (fun x : ByteArray => x.data.toList) = cat xs := by simp [cat, List.flatMap_def]
  rw [e, size_data] at this
  exact this

theorem out_of (xs ys zs : List ByteArray) : ∀ c ∈ allC xs ys zs, c.out = [] ∨ c.out = c.base ∨ c.out = c.ours ∨ c.out = c.theirs := by
  refine chunks_all (places_ed xs ys) (places_ed xs zs) _ ?_ ?_
  · intro i j k n j1 k1 m _ _ _ _ _
    unfold decideC
    split
    · simp
    · split
      · simp
      · simp
  · intro x _
    simp

/-- Each piece is no longer than the texts. -/
theorem piece_le (xs ys zs : List ByteArray) {M : Nat} (h1 : (cat xs).length ≤ M) (h2 : (cat ys).length ≤ M) (h3 : (cat zs).length ≤ M) {c : Ck ByteArray} (hc : c ∈ allC xs ys zs) :
    (cat c.base).length ≤ M ∧ (cat c.ours).length ≤ M ∧ (cat c.theirs).length ≤ M ∧ (cat c.out).length ≤ M := by
  obtain ⟨p1, p2, p3⟩ := chunks_parts (places_ed xs ys) (places_ed xs zs) (xs.length + 1) 0 0 0 (.inl (by omega)) (Nat.zero_le _) (Beh.zero _ _) (Beh.zero _ _)
  rw [List.drop_zero] at p1 p2 p3
  have q1 := mem_flatMap_le (f := fun c : Ck ByteArray => cat c.base) hc
  have q2 := mem_flatMap_le (f := fun c : Ck ByteArray => cat c.ours) hc
  have q3 := mem_flatMap_le (f := fun c : Ck ByteArray => cat c.theirs) hc
  rw [← cat_flatMap] at q1 q2 q3
  unfold allC at q1 q2 q3
  rw [p1] at q1
  rw [p2] at q2
  rw [p3] at q3
  refine ⟨by omega, by omega, by omega, ?_⟩
  rcases out_of xs ys zs c hc with e | e | e | e <;> rw [e]
  · simp [cat]
  all_goals omega
theorem piece_len (xs ys zs : List ByteArray) {M : Nat} (h1 : xs.length ≤ M) (h2 : ys.length ≤ M) (h3 : zs.length ≤ M) {c : Ck ByteArray} (hc : c ∈ allC xs ys zs) :
    c.base.length ≤ M ∧ c.ours.length ≤ M ∧ c.theirs.length ≤ M ∧ c.out.length ≤ M := by
  obtain ⟨p1, p2, p3⟩ := chunks_parts (places_ed xs ys) (places_ed xs zs) (xs.length + 1) 0 0 0 (.inl (by omega)) (Nat.zero_le _) (Beh.zero _ _) (Beh.zero _ _)
  rw [List.drop_zero] at p1 p2 p3
  have q1 := mem_flatMap_le (f := fun c : Ck ByteArray => c.base) hc
  have q2 := mem_flatMap_le (f := fun c : Ck ByteArray => c.ours) hc
  have q3 := mem_flatMap_le (f := fun c : Ck ByteArray => c.theirs) hc
  unfold allC at q1 q2 q3
  rw [p1] at q1
  rw [p2] at q2
  rw [p3] at q3
  refine ⟨by omega, by omega, by omega, ?_⟩
  rcases out_of xs ys zs c hc with e | e | e | e <;> rw [e]
  · simp
  all_goals omega

theorem chunks_len (p q : List (Option Nat)) (b o t : List ByteArray) : ∀ f i j k, (chunks p q b o t f i j k).length ≤ 2 * f
  | 0, _, _, _ => by simp [chunks]
  | f + 1, i, j, k => by
    rw [chunks]
    split
    · simp
    · rw [List.length_append, List.length_append]
      have := chunks_len p q b o t f
      have h1 : ∀ i j k n j1 k1, (firstC b o t i j k n j1 k1).length ≤ 1 := fun i j k n j1 k1 => by unfold firstC; split <;> simp
      have h2 : ∀ i j k m, (keptC b o t i j k m).length ≤ 1 := fun i j k m => by unfold keptC; split <;> simp
      have a1 := h1 i j k (nx (isK p q) (b.length - i) i) (atD p (nx (isK p q) (b.length - i) i) o.length) (atD q (nx (isK p q) (b.length - i) i) t.length)
      have a2 := h2 (nx (isK p q) (b.length - i) i) (atD p (nx (isK p q) (b.length - i) i) o.length) (atD q (nx (isK p q) (b.length - i) i) t.length) (rn (isRun p q (nx (isK p q) (b.length - i) i) (atD p (nx (isK p q) (b.length - i) i) o.length) (atD q (nx (isK p q) (b.length - i) i) t.length)) (b.length - nx (isK p q) (b.length - i) i) 0)
      have a3 := this (nx (isK p q) (b.length - i) i + rn (isRun p q (nx (isK p q) (b.length - i) i) (atD p (nx (isK p q) (b.length - i) i) o.length) (atD q (nx (isK p q) (b.length - i) i) t.length)) (b.length - nx (isK p q) (b.length - i) i) 0)
        (atD p (nx (isK p q) (b.length - i) i) o.length + rn (isRun p q (nx (isK p q) (b.length - i) i) (atD p (nx (isK p q) (b.length - i) i) o.length) (atD q (nx (isK p q) (b.length - i) i) t.length)) (b.length - nx (isK p q) (b.length - i) i) 0)
        (atD q (nx (isK p q) (b.length - i) i) t.length + rn (isRun p q (nx (isK p q) (b.length - i) i) (atD p (nx (isK p q) (b.length - i) i) o.length) (atD q (nx (isK p q) (b.length - i) i) t.length)) (b.length - nx (isK p q) (b.length - i) i) 0)
      omega

theorem endL_le (l : List UInt8) : (endL l).length ≤ l.length + 1 := by unfold endL; split <;> simp
theorem txtC_le {a n : List UInt8} {c : Ck ByteArray} (ha : a.length ≤ 1000) (hn : n.length ≤ 1000) (h2 : (cat c.ours).length ≤ 20000) (h3 : (cat c.theirs).length ≤ 20000) (h4 : (cat c.out).length ≤ 20000) : (txtC a n c).length ≤ 50000 := by
  unfold txtC
  split
  · have := endL_le (cat c.ours)
    have := endL_le (cat c.theirs)
    unfold markL
    simp only [List.length_append, List.length_cons, List.length_nil]
    omega
  · omega

/-! ### A builder -/
theorem isb_below {T e : TypeId} {B b : Nat} {bs : List Value} {w w' : World} (h : Lib.IsBuilder T e B b bs w) (hb : Below w.heap.size w w') : Lib.IsBuilder T e B b bs w' := by
  have key : ∀ p, Lib.BuilderAt T e B b p bs w → Lib.BuilderAt T e B b p bs w' := by
    rintro p ⟨h1, v, h2, h3, h4⟩
    have hlt := (Array.getElem?_eq_some_iff.1 h2).1
    exact ⟨h1, v, (hb.block b hlt).trans h2, own_keep h3 hb, h4⟩
  rcases h with h | h
  · exact .inl (key _ h)
  · exact .inr (key _ h)

theorem own5_at {w : World} {base g cap n : Nat} {e : TypeId} {xs : List Value} (h : w.ownsRow base e 5 (.slice (some ⟨g, 0, none⟩) n cap) n xs) {i : Nat} {x : Value} (hi : xs[i]? = some x) : w.cell? ⟨g, i, none⟩ = some x := by
  rw [h.cellAt i (by rw [← h.1]; exact (List.getElem?_eq_some_iff.1 hi).1)]
  exact hi

theorem tx_form {w : World} {B : Nat} {v : Value} {ss : List ByteArray} (h : Tx w B v ss) : ∃ A c, v = .slice A ss.length c := by
  rcases h.2 with ⟨rfl, h0⟩ | ⟨g, cap, cur, rfl, _⟩
  · exact ⟨none, 0, by rw [h0]⟩
  · exact ⟨_, _, rfl⟩

/-- One chunk out of the row. -/
theorem OutR.at {w : World} {B : Nat} {A : Option Addr} {m cap : Nat} {cs : List (Ck ByteArray)} (h : OutR w B (.slice A m cap) cs) {k : Nat} {c : Ck ByteArray} (hc : cs[k]? = some c) :
    ∃ (g : Nat) (A1 A2 A3 A4 : Option Addr) (c1 c2 c3 c4 : Nat), A = some ⟨g, 0, none⟩ ∧ w.cell? ⟨g, k * 5, none⟩ = some (.slice A1 c.base.length c1) ∧ w.cell? ⟨g, k * 5 + 1, none⟩ = some (.slice A2 c.ours.length c2) ∧ w.cell? ⟨g, k * 5 + 2, none⟩ = some (.slice A3 c.theirs.length c3) ∧
      w.cell? ⟨g, k * 5 + 3, none⟩ = some (.bool c.clash) ∧ w.cell? ⟨g, k * 5 + 4, none⟩ = some (.slice A4 c.out.length c4) ∧ Strs w (.slice A1 c.base.length c1) c.base ∧ Strs w (.slice A2 c.ours.length c2) c.ours ∧ Strs w (.slice A3 c.theirs.length c3) c.theirs ∧ Strs w (.slice A4 c.out.length c4) c.out := by
  obtain ⟨vals, h1, h2⟩ := h
  have hlt := (List.getElem?_eq_some_iff.1 hc).1
  obtain ⟨a, b, d, e, k0, k1, k2, k3, k4, t1, t2, t3, t4⟩ := h2.at hc
  obtain ⟨A1, c1, rfl⟩ := tx_form t1
  obtain ⟨A2, c2, rfl⟩ := tx_form t2
  obtain ⟨A3, c3, rfl⟩ := tx_form t3
  obtain ⟨A4, c4, rfl⟩ := tx_form t4
  obtain ⟨g, cap', hv, _, _⟩ := World.ownsRow.form h1 (by omega)
  injection hv with e1 e2 e3
  subst e1; subst e2; subst e3
  exact ⟨g, A1, A2, A3, A4, c1, c2, c3, c4, rfl, own5_at h1 k0, own5_at h1 k1, own5_at h1 k2, own5_at h1 k3, own5_at h1 k4, Strs.of_own t1 rfl, Strs.of_own t2 rfl, Strs.of_own t3 rfl, Strs.of_own t4 rfl⟩

end Go.Proofs.Ytiefenfogjlnoaa
