/-
  Rows of structs in memory: a slice whose elements have k cells each, read; files, entries, lines.
-/
import Derived.Test.YtanjcjnkppnhcaaDoorSOrd
import Derived.Test.YtanjcjnkppnhcaaDoorBase
import Derived.WalkSmall
import Derived.Laws.Rows
import Derived.Maps.AppendAt
import Derived.Deep.AppendLies
import Derived.Deep.RegionLaw
import Derived.Deep.QuietTactic
import Derived.BigQuiet
import Derived.IntWalk
import Derived.OpenShut
import Derived.LoopTactic
import Derived.Deep.LoopGhost
import Derived.Deep.DeepCutAuto
import Derived.Deep.CutBlock
namespace Go.Proofs.YtanjcjnkppnhcaaDoor
open Go.RowKit

theorem below_drewN {B : Nat} {a w : World} (h : Below B a w) (n : Nat) : Below B a (w.drewN n) := ⟨h.os, h.tape, h.output, h.size, h.block⟩
theorem own_keep {w w' : World} {base : Nat} {e : TypeId} {size : Nat} {v : Value} {n : Nat} {xs : List Value} (h : w.ownsRow base e size v n xs) (hb : Below w.heap.size w w') : w'.ownsRow base e size v n xs :=
  h.kept (row := none) ⟨hb.os, hb.tape, hb.output, hb.size, fun k hk _ => hb.block k hk⟩ (by
    cases h' : v.ownBlock with
    | none => exact .inl rfl
    | some k => exact .inr (by simp))
theorem own_form {w : World} {base size : Nat} {e : TypeId} {v : Value} {n : Nat} {xs : List Value} (h : w.ownsRow base e size v n xs) : ∃ A c, v = .slice A n c := by
  rcases h.2 with ⟨rfl, rfl⟩ | ⟨g, cap, cur, rfl, _⟩
  · exact ⟨_, _, rfl⟩
  · exact ⟨_, _, rfl⟩
theorem own_len {w : World} {base size : Nat} {e : TypeId} {A : Option Addr} {m c : Nat} {n : Nat} {xs : List Value} (h : w.ownsRow base e size (.slice A m c) n xs) : m = n ∧ n ≤ c ∧ c ≤ maxLen := by
  rcases h.2 with ⟨h1, rfl⟩ | ⟨g, cap, cur, h1, _, _, hn, hm, _⟩
  · injection h1 with a b d
    exact ⟨b, by omega, by rw [d]; exact Nat.zero_le _⟩
  · injection h1 with a b d
    exact ⟨b, by omega, by rw [d]; exact hm⟩

/-- Where cell j of element i stands, as a walk spells it. -/
def adr (ad : Addr) (i k : Nat) : Nat → Addr
  | 0 => ad.add (i * k)
  | j + 1 => ⟨(ad.add (i * k)).block, (ad.add (i * k)).off + (j + 1), none⟩

section
variable {α : Type} {k : Nat} {enc : α → List Value} {w w' : World} {v : Value} {l : List α}
/-- The slice value v has the elements l, each of k cells. -/
def Reads (k : Nat) (enc : α → List Value) (w : World) (v : Value) (l : List α) : Prop :=
  ∃ (A : Option Addr) (c : Nat), v = .slice A l.length c ∧ l.length ≤ c ∧ c ≤ maxLen ∧ (A = none → c = 0) ∧
    ∀ ad : Addr, A = some ad → ∀ (i : Nat) (x : α), l[i]? = some x → ∀ (j : Nat) (u : Value), (enc x)[j]? = some u → w.cell? (adr ad i k j) = some u
theorem Reads.nil (w : World) : Reads k enc w (.slice none 0 0) ([] : List α) := ⟨none, 0, rfl, Nat.le_refl _, Nat.zero_le _, fun _ => rfl, fun _ h => by cases h⟩
theorem Reads.keep (h : Reads k enc w v l) (hk : ∀ p : Addr, p.block < w.heap.size → w'.cell? p = w.cell? p) : Reads k enc w' v l := by
  obtain ⟨A, c, hv, h1, h2, h3, h4⟩ := h
  refine ⟨A, c, hv, h1, h2, h3, fun ad ha i x hx j u hu => ?_⟩
  have hc := h4 ad ha i x hx j u hu
  rw [hk _ (World.block_lt_of_cell? w _ hc)]
  exact hc
theorem Reads.below (h : Reads k enc w v l) (hb : Below w.heap.size w w') : Reads k enc w' v l := h.keep fun _ hp => hb.cell hp
theorem Reads.alloc (h : Reads k enc w v l) (o : Obj) : Reads k enc (w.alloc o) v l := h.keep fun p hp => World.cell?_alloc_lt w o p hp
theorem Reads.drewN (h : Reads k enc w v l) (n : Nat) : Reads k enc (w.drewN n) v l := h
theorem Reads.form (h : Reads k enc w v l) : ∃ A c, v = .slice A l.length c := by
  obtain ⟨A, c, hv, _⟩ := h
  exact ⟨_, _, hv⟩
theorem Reads.len {A : Option Addr} {n c : Nat} (h : Reads k enc w (.slice A n c) l) : n = l.length ∧ n ≤ c ∧ c ≤ maxLen := by
  obtain ⟨A', c', hv, h1, h2, h3, h4⟩ := h
  injection hv with e1 e2 e3
  subst e3
  exact ⟨e2, by omega, h2⟩
/-- The element i. -/
theorem Reads.at_ {A : Option Addr} {n c : Nat} (h : Reads k enc w (.slice A n c) l) {i : Nat} {x : α} (hi : l[i]? = some x) :
    ∃ ad : Addr, A = some ad ∧ ∀ (j : Nat) (u : Value), (enc x)[j]? = some u → w.cell? (adr ad i k j) = some u := by
  obtain ⟨A', c', hv, h1, h2, h3, h4⟩ := h
  injection hv with e1 e2 e3
  subst e1; subst e3
  cases A with
  | none => have := h3 rfl; have := (List.getElem?_eq_some_iff.1 hi).1; omega
  | some ad => exact ⟨ad, rfl, fun j u hu => h4 ad rfl i x hi j u hu⟩

theorem flat_len (hk : ∀ x, (enc x).length = k) : ∀ l : List α, (l.flatMap enc).length = l.length * k
  | [] => by simp
  | x :: l => by rw [List.flatMap_cons, List.length_append, hk, flat_len hk l, List.length_cons, Nat.succ_mul]; omega
theorem flat_at (hk : ∀ x, (enc x).length = k) : ∀ (l : List α) (i j : Nat) (x : α), l[i]? = some x → j < k → (l.flatMap enc)[i * k + j]? = (enc x)[j]?
  | [], i, j, x, h, _ => by simp at h
  | y :: l, 0, j, x, h, hj => by
    simp at h; subst h
    rw [List.flatMap_cons, Nat.zero_mul, Nat.zero_add, List.getElem?_append_left (by rw [hk]; exact hj)]
  | y :: l, i + 1, j, x, h, hj => by
    rw [List.flatMap_cons, Nat.succ_mul, List.getElem?_append_right (by rw [hk]; omega), hk, show i * k + k + j - k = i * k + j by omega]
    exact flat_at hk l i j x (by simpa using h) hj
theorem add_zero_addr (g m : Nat) : (⟨g, 0, none⟩ : Addr).add m = ⟨g, m, none⟩ := by
  unfold Addr.add
  split
  · rename_i h; subst h; rfl
  · simp
theorem Reads.of_own {base : Nat} {e : TypeId} (hk : ∀ x, (enc x).length = k) (h : w.ownsRow base e k v l.length (l.flatMap enc)) : Reads k enc w v l := by
  rcases h.2 with ⟨rfl, h0⟩ | ⟨g, cap, cur, hv, hb, hg, hnc, hm, hcs, ht⟩
  · have : l = [] := List.eq_nil_of_length_eq_zero h0
    subst this
    exact Reads.nil w
  · refine ⟨some ⟨g, 0, none⟩, cap, hv, hnc, hm, (fun h => by cases h), fun ad ha i x hx j u hu => ?_⟩
    obtain rfl := Option.some.inj ha
    have hj : j < k := by rw [← hk x]; exact (List.getElem?_eq_some_iff.1 hu).1
    have := h.cells (g := g) (by rw [hv]; rfl) (i * k + j) u (by rw [flat_at hk l i j x hx hj]; exact hu)
    rw [add_zero_addr] at this
    cases j with
    | zero => unfold adr; rw [add_zero_addr]; exact this
    | succ j => unfold adr; rw [add_zero_addr]; exact this
end

/-- The cells of a file. -/
def cF (f : Fl) : List Value := [.string f.1, .int .i64 f.2.1, .string f.2.2]
abbrev En := ByteArray × Int × Int × ByteArray × Int × Int
/-- The cells of an entry. -/
def cE (e : En) : List Value := [.string e.1, .int .i64 e.2.1, .int .i64 e.2.2.1, .string e.2.2.2.1, .int .i64 e.2.2.2.2.1, .int .i64 e.2.2.2.2.2]
abbrev Ln := ByteArray × Int × Int
/-- The cells of a line. -/
def cL (x : Ln) : List Value := [.string x.1, .int .u8 x.2.1, .int .u8 x.2.2]
theorem cF_len (f : Fl) : (cF f).length = 3 := rfl
theorem cE_len (e : En) : (cE e).length = 6 := rfl
theorem cL_len (x : Ln) : (cL x).length = 3 := rfl
theorem fileInfo : (Tryd.prog.info? 37).map (fun i => (i.zero, i.size, i.bytes)) = some (some (.agg #[.string ⟨#[]⟩, .int .i64 0, .string ⟨#[]⟩]), 3, 40) := by kernel_rfl


theorem strInfo : (Tryd.prog.info? 9).map (fun i => (i.zero, i.size, i.bytes)) = some (some (.string { data := #[] }), 1, 16) := by kernel_rfl

theorem Fils.at_ {w : World} {A : Option Addr} {n c : Nat} {l : List Fl} (h : Reads 3 cF w (.slice A n c) l) {i : Nat} {f : Fl} (hi : l[i]? = some f) :
    ∃ ad : Addr, A = some ad ∧ w.cell? (ad.add (i * 3)) = some (.string f.1) ∧ w.cell? ⟨(ad.add (i * 3)).block, (ad.add (i * 3)).off + 1, none⟩ = some (.int .i64 f.2.1) ∧ w.cell? ⟨(ad.add (i * 3)).block, (ad.add (i * 3)).off + 2, none⟩ = some (.string f.2.2) := by
  obtain ⟨ad, ha, hc⟩ := h.at_ hi
  exact ⟨ad, ha, hc 0 _ rfl, hc 1 _ rfl, hc 2 _ rfl⟩
theorem Ents.at_ {w : World} {A : Option Addr} {n c : Nat} {l : List En} (h : Reads 6 cE w (.slice A n c) l) {i : Nat} {e : En} (hi : l[i]? = some e) :
    ∃ ad : Addr, A = some ad ∧ w.cell? (ad.add (i * 6)) = some (.string e.1) ∧ w.cell? ⟨(ad.add (i * 6)).block, (ad.add (i * 6)).off + 1, none⟩ = some (.int .i64 e.2.1) ∧ w.cell? ⟨(ad.add (i * 6)).block, (ad.add (i * 6)).off + 2, none⟩ = some (.int .i64 e.2.2.1) ∧
      w.cell? ⟨(ad.add (i * 6)).block, (ad.add (i * 6)).off + 3, none⟩ = some (.string e.2.2.2.1) ∧ w.cell? ⟨(ad.add (i * 6)).block, (ad.add (i * 6)).off + 4, none⟩ = some (.int .i64 e.2.2.2.2.1) ∧ w.cell? ⟨(ad.add (i * 6)).block, (ad.add (i * 6)).off + 5, none⟩ = some (.int .i64 e.2.2.2.2.2) := by
  obtain ⟨ad, ha, hc⟩ := h.at_ hi
  exact ⟨ad, ha, hc 0 _ rfl, hc 1 _ rfl, hc 2 _ rfl, hc 3 _ rfl, hc 4 _ rfl, hc 5 _ rfl⟩
theorem Lins.at_ {w : World} {A : Option Addr} {n c : Nat} {l : List Ln} (h : Reads 3 cL w (.slice A n c) l) {i : Nat} {f : Ln} (hi : l[i]? = some f) :
    ∃ ad : Addr, A = some ad ∧ w.cell? (ad.add (i * 3)) = some (.string f.1) ∧ w.cell? ⟨(ad.add (i * 3)).block, (ad.add (i * 3)).off + 1, none⟩ = some (.int .u8 f.2.1) ∧ w.cell? ⟨(ad.add (i * 3)).block, (ad.add (i * 3)).off + 2, none⟩ = some (.int .u8 f.2.2) := by
  obtain ⟨ad, ha, hc⟩ := h.at_ hi
  exact ⟨ad, ha, hc 0 _ rfl, hc 1 _ rfl, hc 2 _ rfl⟩
end Go.Proofs.YtanjcjnkppnhcaaDoor
