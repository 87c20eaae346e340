/-
  Edits and hunks in memory; what a hunk is, by plain lists.
-/
import Derived.Test.YtdpoeagmeiedcaaDoorRMat
import Derived.WalkSmall
import Derived.Laws.Rows
import Derived.BigQuiet
import Derived.Deep.QuietTactic
import Derived.IntWalk
namespace Go.Proofs.YtdpoeagmeiedcaaDoor
open Go Go.RowKit

/-- Where cell j of element i stands, as a walk spells it. -/
def adr (ad : Addr) (i k : Nat) : Nat → Addr
  | 0 => ad.add (i * k)
  | j + 1 => ⟨(ad.add (i * k)).block, (ad.add (i * k)).off + (j + 1), none⟩

section
variable {α : Type} {k : Nat} {enc : α → List Value} {w w' : World} {v : Value} {l : List α}
/-- The slice value v has the elements l, each of k cells. -/
def Reads (k : Nat) (enc : α → List Value) (w : World) (v : Value) (l : List α) : Prop :=
  ∃ (A : Option Addr) (c : Nat), v = .slice A l.length c ∧ l.length ≤ c ∧ c ≤ maxLen ∧ (A = none → c = 0) ∧
    ∀ ad : Addr, A = some ad → ∀ (i : Nat) (x : α), l[i]? = some x → ∀ (j : Nat) (u : Value), (enc x)[j]? = some u → w.cell? (adr ad i k j) = some u
theorem Reads.nil (w : World) : Reads k enc w (.slice none 0 0) ([] : List α) := ⟨none, 0, rfl, Nat.le_refl _, Nat.zero_le _, fun _ => rfl, fun _ h => by cases h⟩
theorem Reads.keep (h : Reads k enc w v l) (hk : ∀ p : Addr, p.block < w.heap.size → w'.cell? p = w.cell? p) : Reads k enc w' v l := by
  obtain ⟨A, c, hv, h1, h2, h3, h4⟩ := h
  refine ⟨A, c, hv, h1, h2, h3, fun ad ha i x hx j u hu => ?_⟩
  have hc := h4 ad ha i x hx j u hu
  rw [hk _ (World.block_lt_of_cell? w _ hc)]
  exact hc
theorem Reads.below (h : Reads k enc w v l) (hb : Below w.heap.size w w') : Reads k enc w' v l := h.keep fun _ hp => hb.cell hp
theorem Reads.alloc (h : Reads k enc w v l) (o : Obj) : Reads k enc (w.alloc o) v l := h.keep fun p hp => World.cell?_alloc_lt w o p hp
theorem Reads.drewN (h : Reads k enc w v l) (n : Nat) : Reads k enc (w.drewN n) v l := h
theorem Reads.form (h : Reads k enc w v l) : ∃ A c, v = .slice A l.length c := by
  obtain ⟨A, c, hv, _⟩ := h
  exact ⟨_, _, hv⟩
theorem Reads.len {A : Option Addr} {n c : Nat} (h : Reads k enc w (.slice A n c) l) : n = l.length ∧ n ≤ c ∧ c ≤ maxLen := by
  obtain ⟨A', c', hv, h1, h2, h3, h4⟩ := h
  injection hv with e1 e2 e3
  subst e3
  exact ⟨e2, by omega, h2⟩
/-- The element i. -/
theorem Reads.at_ {A : Option Addr} {n c : Nat} (h : Reads k enc w (.slice A n c) l) {i : Nat} {x : α} (hi : l[i]? = some x) :
    ∃ ad : Addr, A = some ad ∧ ∀ (j : Nat) (u : Value), (enc x)[j]? = some u → w.cell? (adr ad i k j) = some u := by
  obtain ⟨A', c', hv, h1, h2, h3, h4⟩ := h
  injection hv with e1 e2 e3
  subst e1; subst e3
  cases A with
  | none => have := h3 rfl; have := (List.getElem?_eq_some_iff.1 hi).1; omega
  | some ad => exact ⟨ad, rfl, fun j u hu => h4 ad rfl i x hi j u hu⟩
theorem flat_len (hk : ∀ x, (enc x).length = k) : ∀ l : List α, (l.flatMap enc).length = l.length * k
  | [] => by simp
  | x :: l => by rw [List.flatMap_cons, List.length_append, hk, flat_len hk l, List.length_cons, Nat.succ_mul]; omega
theorem flat_at (hk : ∀ x, (enc x).length = k) : ∀ (l : List α) (i j : Nat) (x : α), l[i]? = some x → j < k → (l.flatMap enc)[i * k + j]? = (enc x)[j]?
  | [], i, j, x, h, _ => by simp at h
  | y :: l, 0, j, x, h, hj => by
    simp at h; subst h
    rw [List.flatMap_cons, Nat.zero_mul, Nat.zero_add, List.getElem?_append_left (by rw [hk]; exact hj)]
  | y :: l, i + 1, j, x, h, hj => by
    rw [List.flatMap_cons, Nat.succ_mul, List.getElem?_append_right (by rw [hk]; omega), hk, show i * k + k + j - k = i * k + j by omega]
    exact flat_at hk l i j x (by simpa using h) hj
theorem add_zero_addr (g m : Nat) : (⟨g, 0, none⟩ : Addr).add m = ⟨g, m, none⟩ := by
  unfold Addr.add
  split
  · rename_i h; subst h; rfl
  · simp
theorem Reads.of_own {base : Nat} {e : TypeId} (hk : ∀ x, (enc x).length = k) (h : w.ownsRow base e k v l.length (l.flatMap enc)) : Reads k enc w v l := by
  rcases h.2 with ⟨rfl, h0⟩ | ⟨g, cap, cur, hv, hb, hg, hnc, hm, hcs, ht⟩
  · have : l = [] := List.eq_nil_of_length_eq_zero h0
    subst this
    exact Reads.nil w
  · refine ⟨some ⟨g, 0, none⟩, cap, hv, hnc, hm, (fun h => by cases h), fun ad ha i x hx j u hu => ?_⟩
    obtain rfl := Option.some.inj ha
    have hj : j < k := by rw [← hk x]; exact (List.getElem?_eq_some_iff.1 hu).1
    have := h.cells (g := g) (by rw [hv]; rfl) (i * k + j) u (by rw [flat_at hk l i j x hx hj]; exact hu)
    rw [add_zero_addr] at this
    cases j with
    | zero => unfold adr; rw [add_zero_addr]; exact this
    | succ j => unfold adr; rw [add_zero_addr]; exact this
end

/-- An edit: what is done with a line. -/
abbrev EdI := Int × ByteArray
def cEd (e : EdI) : List Value := [.int .i64 e.1, .string e.2]
theorem cEd_len (e : EdI) : (cEd e).length = 2 := rfl
theorem Eds.at_ {w : World} {A : Option Addr} {n c : Nat} {l : List EdI} (h : Reads 2 cEd w (.slice A n c) l) {i : Nat} {e : EdI} (hi : l[i]? = some e) :
    ∃ ad : Addr, A = some ad ∧ w.cell? (ad.add (i * 2)) = some (.int .i64 e.1) ∧ w.cell? ⟨(ad.add (i * 2)).block, (ad.add (i * 2)).off + 1, none⟩ = some (.string e.2) := by
  obtain ⟨ad, rfl, hc⟩ := h.at_ hi
  exact ⟨ad, rfl, hc 0 _ rfl, hc 1 _ rfl⟩
/-- A hunk. -/
structure Hk where
  at_ : Int
  del : Int
  to_ : Int
  add : Int
  ls : List EdI
/-- Five cells a hunk, its lines where the fifth says. -/
def HksIn (w : World) (v : Value) (hs : List Hk) : Prop :=
  ∃ (A : Option Addr) (c : Nat), v = .slice A hs.length c ∧ hs.length ≤ c ∧ c ≤ maxLen ∧ (A = none → c = 0) ∧
    ∀ ad : Addr, A = some ad → ∀ (i : Nat) (x : Hk), hs[i]? = some x → ∃ vl, w.cell? (adr ad i 5 0) = some (.int .i64 x.at_) ∧ w.cell? (adr ad i 5 1) = some (.int .i64 x.del) ∧ w.cell? (adr ad i 5 2) = some (.int .i64 x.to_) ∧
      w.cell? (adr ad i 5 3) = some (.int .i64 x.add) ∧ w.cell? (adr ad i 5 4) = some vl ∧ Reads 2 cEd w vl x.ls
theorem HksIn.nil (w : World) : HksIn w (.slice none 0 0) [] := ⟨none, 0, rfl, Nat.le_refl _, Nat.zero_le _, fun _ => rfl, fun _ h => by cases h⟩
theorem HksIn.below {w w' : World} {v : Value} {hs : List Hk} (h : HksIn w v hs) (hb : Below w.heap.size w w') : HksIn w' v hs := by
  obtain ⟨A, c, hv, h1, h2, h3, h4⟩ := h
  refine ⟨A, c, hv, h1, h2, h3, fun ad ha i x hx => ?_⟩
  obtain ⟨vl, c0, c1, c2, c3, c4, r⟩ := h4 ad ha i x hx
  have k : ∀ {p : Addr} {u : Value}, w.cell? p = some u → w'.cell? p = some u := fun hc => (hb.cell (World.block_lt_of_cell? _ _ hc)).trans hc
  exact ⟨vl, k c0, k c1, k c2, k c3, k c4, r.below hb⟩
theorem HksIn.form {w : World} {v : Value} {hs : List Hk} (h : HksIn w v hs) : ∃ A c, v = .slice A hs.length c := by
  obtain ⟨A, c, hv, _⟩ := h
  exact ⟨_, _, hv⟩
theorem HksIn.len {w : World} {A : Option Addr} {n c : Nat} {hs : List Hk} (h : HksIn w (.slice A n c) hs) : n = hs.length ∧ n ≤ c ∧ c ≤ maxLen := by
  obtain ⟨A', c', hv, h1, h2, h3, h4⟩ := h
  injection hv with e1 e2 e3
  subst e3
  exact ⟨e2, by omega, h2⟩
theorem HksIn.at_ {w : World} {A : Option Addr} {n c : Nat} {hs : List Hk} (h : HksIn w (.slice A n c) hs) {i : Nat} {x : Hk} (hi : hs[i]? = some x) :
    ∃ (ad : Addr) (vl : Value), A = some ad ∧ w.cell? (ad.add (i * 5)) = some (.int .i64 x.at_) ∧ w.cell? ⟨(ad.add (i * 5)).block, (ad.add (i * 5)).off + 1, none⟩ = some (.int .i64 x.del) ∧ w.cell? ⟨(ad.add (i * 5)).block, (ad.add (i * 5)).off + 2, none⟩ = some (.int .i64 x.to_) ∧
      w.cell? ⟨(ad.add (i * 5)).block, (ad.add (i * 5)).off + 3, none⟩ = some (.int .i64 x.add) ∧ w.cell? ⟨(ad.add (i * 5)).block, (ad.add (i * 5)).off + 4, none⟩ = some vl ∧ Reads 2 cEd w vl x.ls := by
  obtain ⟨A', c', hv, h1, h2, h3, h4⟩ := h
  injection hv with e1 e2 e3
  subst e1; subst e3
  cases A with
  | none => have := h3 rfl; have := (List.getElem?_eq_some_iff.1 hi).1; omega
  | some ad =>
    obtain ⟨vl, r⟩ := h4 ad rfl i x hi
    exact ⟨ad, vl, rfl, r⟩

/-! ### What a hunk is -/
def isDel (e : EdI) : Bool := e.1 == 1 || e.1 == 2
def isAdd (e : EdI) : Bool := e.1 == 1 || e.1 == 3
def dels (l : List EdI) : Nat := (l.filter isDel).length
def adds (l : List EdI) : Nat := (l.filter isAdd).length
def okOp (e : EdI) : Bool := e.1 == 1 || e.1 == 2 || e.1 == 3
/-- The lines that are not added stand in a, one behind the other. -/
def matchL (a : List ByteArray) : Nat → List EdI → Bool
  | _, [] => true
  | i, e :: l => if e.1 = 3 then matchL a i l else decide (a[i]? = some e.2) && matchL a (i + 1) l
/-- What is wrong of a hunk; 0: nothing. -/
def wrongH (a : List ByteArray) (h : Hk) (done made : Int) : Int :=
  if (h.ls.all okOp) = false then 2 else if h.del ≠ dels h.ls ∨ h.add ≠ adds h.ls ∨ h.at_ < done ∨ h.to_ < 0 ∨ h.to_ ≠ made + (h.at_ - done) then 1
    else if (a.length : Int) - dels h.ls < h.at_ then 4 else if matchL a h.at_.toNat h.ls = false then 9 else 0
def newL (l : List EdI) : List ByteArray := (l.filter fun e => e.1 != 2).map (·.2)
/-- The hunks done in a: what it is then; or the first that can't be done, and why. -/
def applyH (a : List ByteArray) : List Hk → Nat → List ByteArray → Nat → (Nat × Int) ⊕ List ByteArray
  | [], done, out, _ => .inr (out ++ a.drop done)
  | h :: hs, done, out, i => if wrongH a h done out.length ≠ 0 then .inl (i, wrongH a h done out.length) else applyH a hs (h.at_ + h.del).toNat (out ++ ((a.drop done).take (h.at_.toNat - done) ++ newL h.ls)) (i + 1)

theorem dels_snoc (l : List EdI) (e : EdI) : dels (l ++ [e]) = dels l + if isDel e then 1 else 0 := by
  unfold dels; rw [List.filter_append, List.length_append]; by_cases h : isDel e = true <;> simp [h]
theorem adds_snoc (l : List EdI) (e : EdI) : adds (l ++ [e]) = adds l + if isAdd e then 1 else 0 := by
  unfold adds; rw [List.filter_append, List.length_append]; by_cases h : isAdd e = true <;> simp [h]
theorem dels_le (l : List EdI) : dels l ≤ l.length := List.length_filter_le _ _
theorem adds_le (l : List EdI) : adds l ≤ l.length := List.length_filter_le _ _
theorem take_snocP {α : Type} {l : List α} {k : Nat} {e : α} (h : l[k]? = some e) : l.take (k + 1) = l.take k ++ [e] := by rw [List.take_add_one, h]; rfl
theorem newL_snoc (l : List EdI) (e : EdI) : newL (l ++ [e]) = newL l ++ if e.1 = 2 then [] else [e.2] := by
  unfold newL; rw [List.filter_append, List.map_append]; by_cases h : e.1 = 2 <;> simp [h]
theorem newL_le (l : List EdI) : (newL l).length ≤ l.length := by unfold newL; rw [List.length_map]; exact List.length_filter_le _ _
theorem wrongH_ok {a : List ByteArray} {h : Hk} {done made : Int} (hw : wrongH a h done made = 0) : (h.ls.all okOp) = true ∧ h.del = dels h.ls ∧ h.add = adds h.ls ∧ done ≤ h.at_ ∧ 0 ≤ h.to_ ∧ h.to_ = made + (h.at_ - done) ∧ h.at_ + dels h.ls ≤ a.length ∧ matchL a h.at_.toNat h.ls = true := by
  unfold wrongH at hw
  split at hw
  · omega
  · rename_i h1
    split at hw
    · omega
    · rename_i h2
      split at hw
      · omega
      · rename_i h3
        split at hw
        · omega
        · rename_i h4
          exact ⟨by simpa using h1, by omega, by omega, by omega, by omega, by omega, by omega, by simpa using h4⟩
theorem wrongH_1249 (a : List ByteArray) (h : Hk) (done made : Int) : wrongH a h done made = 0 ∨ wrongH a h done made = 1 ∨ wrongH a h done made = 2 ∨ wrongH a h done made = 4 ∨ wrongH a h done made = 9 := by
  unfold wrongH
  split
  · simp
  · split
    · simp
    · split
      · simp
      · split <;> simp
end Go.Proofs.YtdpoeagmeiedcaaDoor
