/-
  CodeBack: what its loops hold; one item put.
-/
import Derived.Test.YtpkikibcfkdodaaKKnown
namespace Go.Proofs.Ytpkikibcfkdodaa
open Go Go.RowKit

/-- An item: a text or a number. -/
abbrev It := Bool × Int × ByteArray
def encIt (x : It) : List UInt8 := if x.1 = true then encT x.2.2 else encI x.2.1
def encAll (its : List It) : List UInt8 := its.flatMap encIt
theorem encAll_take {its : List It} {k : Nat} {x : It} (h : its[k]? = some x) : encAll (its.take (k + 1)) = encAll (its.take k) ++ encIt x := by
  have hlt := (List.getElem?_eq_some_iff.1 h).1
  have e := (List.getElem?_eq_some_iff.1 h).2
  unfold encAll
  rw [List.take_succ_eq_append_getElem hlt, e, List.flatMap_append]; simp
theorem encAll_drop {its : List It} {k : Nat} {x : It} (h : its[k]? = some x) : encAll (its.drop k) = encIt x ++ encAll (its.drop (k + 1)) := by
  have hlt := (List.getElem?_eq_some_iff.1 h).1
  have e := (List.getElem?_eq_some_iff.1 h).2
  unfold encAll
  rw [List.drop_eq_getElem_cons hlt, e, List.flatMap_cons]
theorem encAll_split (its : List It) (k : Nat) : encAll its = encAll (its.take k) ++ encAll (its.drop k) := by
  unfold encAll
  rw [← List.flatMap_append, List.take_append_drop]
/-- The items lie in the cells from A on, three each. -/
def Items (w : World) (A : Option Addr) (its : List It) : Prop := ∀ i x, its[i]? = some x → ∃ ad, A = some ad ∧ (-9223372036854775808 ≤ x.2.1 ∧ x.2.1 ≤ 9223372036854775807) ∧ x.2.2.size ≤ 9223372036854775807 ∧
  w.cell? (ad.add (i * 3)) = some (.bool x.1) ∧ w.cell? ⟨(ad.add (i * 3)).block, (ad.add (i * 3)).off + 1, none⟩ = some (.int .i64 x.2.1) ∧ w.cell? ⟨(ad.add (i * 3)).block, (ad.add (i * 3)).off + 2, none⟩ = some (.string x.2.2)
theorem below_cell {w w' : World} (h : Below w.heap.size w w') {a : Addr} {v : Value} (hc : w.cell? a = some v) : w'.cell? a = some v := by
  have := h.block a.block (World.block_lt_of_cell? w a hc)
  simp only [World.cell?] at hc ⊢
  rw [this]; exact hc
theorem Items.below {w w' : World} {A : Option Addr} {its : List It} (h : Items w A its) (hb : Below w.heap.size w w') : Items w' A its := by
  intro i x hx
  obtain ⟨ad, ha, h1, h2, c0, c1, c2⟩ := h i x hx
  exact ⟨ad, ha, h1, h2, below_cell hb c0, below_cell hb c1, below_cell hb c2⟩
def Short (its : List It) : Prop := ∀ x ∈ its, x.2.2.size ≤ 300
theorem encIt_len {x : It} (h1 : -9223372036854775808 ≤ x.2.1 ∧ x.2.1 ≤ 9223372036854775807) (h2 : x.2.2.size ≤ 300) : (encIt x).length ≤ 310 := by
  unfold encIt
  split
  · exact encT_len h2
  · have := encI_len h1; omega

/-- An Enc and a row of the same bytes, apart. -/
structure Both (w : World) (B E : Nat) (v wv : Value) (l : List UInt8) : Prop where
  enc : EncAt w B E v l
  own : BOwn w B wv l
  apart : wv.ownBlock = none ∨ wv.ownBlock ≠ v.ownBlock

theorem own_ne_new {w : World} {B g n : Nat} {v : Value} {xs : List Value} (h : w.ownsRow B 5 1 v n xs) (hg : w.heap.size ≤ g) : v.ownBlock ≠ some g := fun e => by have := (World.ownsRow.lt h g e).2; omega
/-- The Enc took more; the row stands. -/
theorem Both.put {w w' : World} {B E : Nat} {v wv : Value} {l l' : List UInt8} (h : Both w B E v wv l) (hp : Put w B E v l' w') : ∃ v', EncAt w' B E v' l' ∧ BOwn w' B wv l ∧ (wv.ownBlock = none ∨ wv.ownBlock ≠ v'.ownBlock) ∧ Below B w w' := by
  obtain ⟨v', hE, hT, hS⟩ := hp
  refine ⟨v', hE, hT.own h.own (own_blk_ne h.own h.enc.blk (by decide)) h.apart, ?_, hT.below (Nat.le_trans h.enc.lo (Nat.le_of_lt h.enc.blk.lt)) h.enc.lo (fun g hg => h.enc.row g hg)⟩
  rcases h.apart with e | e
  · exact .inl e
  · rcases hS with hs | ⟨g, hs, hg⟩
    · rw [hs]; exact .inr e
    · rw [hs]; exact .inr (own_ne_new h.own hg)
/-- The row took more; the Enc stands. -/
theorem Both.grow {w w' : World} {B E : Nat} {v wv wv' : Value} {l l' : List UInt8} (hE : EncAt w B E v l') (ho : BOwn w B wv l) (ha : wv.ownBlock = none ∨ wv.ownBlock ≠ v.ownBlock) (ho' : BOwn w' B wv' l') (hg : w.grownBy w' wv.ownBlock) (hs : Same1 w wv.ownBlock wv'.ownBlock) :
    Both w' B E v wv' l' := by
  have hne : some E ≠ wv.ownBlock := fun e => own_blk_ne ho hE.blk (by decide) e.symm
  have hv : v.ownBlock = none ∨ v.ownBlock ≠ wv.ownBlock := by
    rcases ha with e | e
    · rw [e]; cases v.ownBlock <;> simp
    · exact .inr fun x => e x.symm
  refine ⟨⟨hE.blk.grown hg hne, hE.own.kept hg hv, hE.lo⟩, ho', ?_⟩
  rcases hs with e | ⟨g, e, hgg⟩
  · rw [e]; exact ha
  · refine .inr ?_
    rw [e]
    exact fun x => own_ne_new hE.own hgg x.symm
theorem Both.below {w w' : World} {B E : Nat} {v wv : Value} {l : List UInt8} (h : Both w B E v wv l) (hb : Below w.heap.size w w') : Both w' B E v wv l := ⟨h.enc.below hb, own_keep h.own hb, h.apart⟩

/-- A row's bytes behind another's. -/
theorem append_own (w : World) (B B2 : Nat) (v u : Value) (l m : List UInt8) (ho : BOwn w B v l) (hu : BOwn w B2 u m) (hl : l.length + m.length ≤ 1000000) (h0 : 0 < m.length) (hB : B ≤ w.heap.size) :
    ∃ v' w', (∀ ty, (Builtin.append_ #[22, 22] ty #[v, u]).run Try.prog w = .ok v' w') ∧ BOwn w' B v' (l ++ m) ∧ w.grownBy w' v.ownBlock ∧ Same1 w v.ownBlock v'.ownBlock := by
  obtain ⟨i0, hi0, hz0, hz1, hz2⟩ := info_parts byteInfo
  rcases hu.2 with ⟨_, h1⟩ | ⟨g, cap, cur, rfl, _⟩
  · omega
  obtain ⟨v2, w2, hr, h1, h2, _, h3⟩ := run_append_own_at (P := Try.prog) w B 22 22 5 i0 _ 1 1 Try.underlying22 hi0 hz0 hz1 hz2 rfl (by decide) v _ _ ho ⟨g, 0, none⟩ m.length cap (bc m) (by rw [Lib.byteCells_length, Nat.mul_one]) (fun j u hj => by rw [Addr.add_lit, Nat.zero_add]; exact BOwn.cells hu j u hj) (bc_one m) (by unfold maxLen; omega) (by omega) hB
  refine ⟨v2, w2, fun ty => hr, ?_, h2, h3.imp id fun h => ⟨_, h, Nat.le_refl _⟩⟩
  show w2.ownsRow B 5 1 v2 _ (Lib.byteCells _)
  rw [List.length_append, Lib.byteCells_append]
  exact h1
theorem encI_pos (n : Int) : 0 < (encI n).length := by
  unfold encI
  by_cases h1 : zz n < 128
  · rw [enc_small h1]; simp
  · rw [enc_big h1]; simp
theorem encIt_pos (x : It) : 0 < (encIt x).length := by
  unfold encIt encT
  split
  · rw [List.length_append]; have := encI_pos x.2.2.size; omega
  · exact encI_pos _
theorem encAll_len {its : List It} (hb : ∀ x ∈ its, -9223372036854775808 ≤ x.2.1 ∧ x.2.1 ≤ 9223372036854775807) (hs : Short its) : (encAll its).length ≤ its.length * 310 := by
  induction its with
  | nil => simp [encAll]
  | cons x t ih =>
    have h1 := encIt_len (hb x (List.mem_cons_self ..)) (hs x (List.mem_cons_self ..))
    have h2 := ih (fun y hy => hb y (List.mem_cons_of_mem _ hy)) (fun y hy => hs y (List.mem_cons_of_mem _ hy))
    have e : encAll (x :: t) = encIt x ++ encAll t := by unfold encAll; rw [List.flatMap_cons]
    rw [e, List.length_append, List.length_cons, Nat.add_mul]
    omega
#print axioms append_own
end Go.Proofs.Ytpkikibcfkdodaa
