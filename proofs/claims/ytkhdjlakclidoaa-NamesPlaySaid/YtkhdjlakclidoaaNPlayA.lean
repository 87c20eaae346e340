/-
  Any act of the document's table; two tables apart.
-/
import Derived.Test.YtkhdjlakclidoaaNTwin
import Derived.Test.YtkhdjlakclidoaaNAct1
import Derived.Test.YtkhdjlakclidoaaNAct2
import Derived.Test.YtkhdjlakclidoaaNAct3
import Derived.Test.YtkhdjlakclidoaaNAct4
import Derived.Test.YtkhdjlakclidoaaNAct5
import Derived.Test.YtkhdjlakclidoaaNAct6
import Derived.Test.YtkhdjlakclidoaaNKnown
namespace Go.Proofs.Ytkhdjlakclidoaa
open Go Go.RowKit

/-- What an act is told, and what it leaves. -/
def aC (op N M : Int) (nm : ByteArray) (l : List Rf) (br : ByteArray) : Int :=
  if op = 1 then setC l nm N else if op = 2 then swC l br nm N M else if op = 3 then delC l nm br else if op = 4 then attC nm else if op = 5 then detC N else if op = 6 then movC l br N else 0
def aL (op N M : Int) (nm : ByteArray) (l : List Rf) (br : ByteArray) : List Rf :=
  if op = 1 then setL l nm N else if op = 2 then swL l br nm N M else if op = 3 then delL l nm br else if op = 6 then movL l br N else l
def aB (op N : Int) (nm br : ByteArray) : ByteArray := if op = 4 then attB br nm else if op = 5 then detB br N else br
def aD (op N : Int) (nm br : ByteArray) (d : Int) : Int := if op = 4 then attD d nm else if op = 5 then detD d N else if op = 6 then movD br d N else d

theorem act_any (w : World) (B T : Nat) (v : Value) (l : List Rf) (br nm : ByteArray) (d op N M : Int) (hnm : nm.size ≤ 1000000) (h : Doc w B T v l br d) (hpos : ∀ (k : Nat) (x : Rf), l[k]? = some x → 1 ≤ x.2) (hbr : br.size = 0 ∨ goodN br = true) :
    Calls Try.prog 16 #[.pointer (some ⟨T, 0, none⟩), .agg #[.int .i64 op, .int .i64 N, .int .i64 M, .string nm]] w (Acted w B T v (aC op N M nm l br) (aL op N M nm l br) (aB op N nm br) (aD op N nm br d)) := by
  by_cases h1 : op = 1
  · subst h1; exact act_1 w B T v l br nm d N M hnm h
  by_cases h2 : op = 2
  · subst h2; exact act_2 w B T v l br nm d N M hnm h hpos
  by_cases h3 : op = 3
  · subst h3; exact act_3 w B T v l br nm d N M hnm h
  by_cases h4 : op = 4
  · subst h4; exact act_4 w B T v l br nm d N M hnm h
  by_cases h5 : op = 5
  · subst h5; exact act_5 w B T v l br nm d N M hnm h
  by_cases h6 : op = 6
  · subst h6; exact act_6 w B T v l br nm d N M hnm h hbr
  have e1 : aC op N M nm l br = 0 := by unfold aC; rw [if_neg h1, if_neg h2, if_neg h3, if_neg h4, if_neg h5, if_neg h6]
  have e2 : aL op N M nm l br = l := by unfold aL; rw [if_neg h1, if_neg h2, if_neg h3, if_neg h6]
  have e3 : aB op N nm br = br := by unfold aB; rw [if_neg h4, if_neg h5]
  have e4 : aD op N nm br d = d := by unfold aD; rw [if_neg h4, if_neg h5, if_neg h6]
  rw [e1, e2, e3, e4]
  exact act_none w B T v l br nm d op N M hnm h (by omega)

/-- A table, where another one has been turned. -/
theorem tab_two {w w' : World} {B T D : Nat} {v u : Value} {l l2 : List Rf} {br br2 : ByteArray} {d d2 : Int} (h : Tab w B T v l br d) (hD : Doc w B D u l2 br2 d2) (t : Two w w' D u.ownBlock) (hne : T ≠ D) (ha : ∀ g, v.ownBlock = some g → u.ownBlock ≠ some g) : Tab w' B T v l br d := by
  have h1 : u.ownBlock ≠ some T := own_blk_ne hD.own h.blk (by decide)
  have h2 : v.ownBlock ≠ some D := own_blk_ne h.own hD.blk (by decide)
  refine ⟨(t.block T h.blk.lt hne (fun e => h1 e.symm)).trans h.blk, ?_, h.lo, h.few, h.up⟩
  obtain ⟨a, b⟩ := h.own
  refine ⟨a, b.imp id ?_⟩
  rintro ⟨g, cap, cur, rfl, hg, hh, r⟩
  refine ⟨g, cap, cur, rfl, hg, (t.block g (Array.getElem?_eq_some_iff.1 hh).1 (fun e => h2 (by rw [← e]; rfl)) (fun e => ha g rfl e.symm)).trans hh, r⟩
theorem doc_two {w w' : World} {B T D : Nat} {v u : Value} {l l2 : List Rf} {br br2 : ByteArray} {d d2 : Int} (h : Tab w B T v l br d) (hD : Doc w B D u l2 br2 d2) (t : Two w w' T v.ownBlock) (hne : T ≠ D) (ha : ∀ g, v.ownBlock = some g → u.ownBlock ≠ some g) : Doc w' B D u l2 br2 d2 := by
  have h1 : u.ownBlock ≠ some T := own_blk_ne hD.own h.blk (by decide)
  have h2 : v.ownBlock ≠ some D := own_blk_ne h.own hD.blk (by decide)
  refine ⟨(t.block D hD.blk.lt (Ne.symm hne) (fun e => h2 e.symm)).trans hD.blk, ?_, hD.lo, hD.few, hD.up⟩
  obtain ⟨a, b⟩ := hD.own
  refine ⟨a, b.imp id ?_⟩
  rintro ⟨g, cap, cur, rfl, hg, hh, r⟩
  refine ⟨g, cap, cur, rfl, hg, (t.block g (Array.getElem?_eq_some_iff.1 hh).1 (fun e => h1 (by rw [← e]; rfl)) (fun e => ha g e.symm rfl)).trans hh, r⟩

/-- Both tables say the same, and are apart. -/
structure Both (B : Nat) (w : World) (T D : Nat) (v u : Value) (l : List Rf) (br : ByteArray) (d : Int) (l2 : List Rf) (br2 : ByteArray) (d2 : Int) : Prop where
  tab : Tab w B T v l br d
  doc : Doc w B D u l2 br2 d2
  ne : T ≠ D
  apart : ∀ g, v.ownBlock = some g → u.ownBlock ≠ some g
  base : B ≤ w.heap.size
theorem Both.below {B : Nat} {w w' : World} {T D : Nat} {v u : Value} {l l2 : List Rf} {br br2 : ByteArray} {d d2 : Int} (h : Both B w T D v u l br d l2 br2 d2) (hb : Below w.heap.size w w') : Both B w' T D v u l br d l2 br2 d2 :=
  ⟨h.tab.below hb, h.doc.below hb, h.ne, h.apart, Nat.le_trans h.base hb.size⟩
/-- Behind a call on the program's table. -/
theorem Both.did {B : Nat} {w w' : World} {T D : Nat} {v u : Value} {c : Int} {l l' l2 : List Rf} {br br' br2 : ByteArray} {d d' d2 : Int} {e : Ending} (h : Both B w T D v u l br d l2 br2 d2) (hd : Did w B T v c l' br' d' e w') :
    e = .returned (.int .i64 c) ∧ ∃ v', Both B w' T D v' u l' br' d' l2 br2 d2 ∧ Below B w w' := by
  obtain ⟨he, v', t', k, cm⟩ := hd
  refine ⟨he, v', ⟨t', doc_two h.tab h.doc k h.ne h.apart, h.ne, fun g hg e => ?_, Nat.le_trans h.base k.size⟩, k.below h.tab.lo (own_le_block h.tab.own) h.base⟩
  have hu := (World.ownsRow.lt h.doc.own g e).2
  rcases cm with e1 | ⟨g1, e1, h1⟩
  · exact h.apart g (by rw [← e1]; exact hg) e
  · rw [hg] at e1
    have := Option.some.inj e1
    omega
/-- Behind an act on the document's. -/
theorem Both.acted {B : Nat} {w w' : World} {T D : Nat} {v u : Value} {c : Int} {l l2 l2' : List Rf} {br br2 br2' : ByteArray} {d d2 d2' : Int} {e : Ending} (h : Both B w T D v u l br d l2 br2 d2) (hd : Acted w B D u c l2' br2' d2' e w') (hf : l2'.length ≤ 64) (hu : Rising l2') :
    e = .returned (.int .i64 c) ∧ ∃ u', Both B w' T D v u' l br d l2' br2' d2' ∧ Below B w w' := by
  obtain ⟨he, u', o, b, hB, k, cm⟩ := hd
  refine ⟨he, u', ⟨tab_two h.tab h.doc k h.ne h.apart, ⟨b, o, hB, hf, hu⟩, h.ne, fun g hg e => ?_, Nat.le_trans h.base k.size⟩, k.below hB (own_le_block h.doc.own) h.base⟩
  have hv := (World.ownsRow.lt h.tab.own g hg).2
  rcases cm g e with e1 | e1
  · exact h.apart g hg e1
  · omega
#print axioms Both.acted
end Go.Proofs.Ytkhdjlakclidoaa
