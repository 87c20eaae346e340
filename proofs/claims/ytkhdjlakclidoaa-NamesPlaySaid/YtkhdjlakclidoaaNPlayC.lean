/-
  A block of another kind behind a call on a table; a twin among the two tables.
-/
import Derived.Test.YtkhdjlakclidoaaNPlayB
namespace Go.Proofs.Ytkhdjlakclidoaa
open Go Go.RowKit

theorem did_blk {w w' : World} {B T g : Nat} {v : Value} {c : Int} {l l' : List Rf} {br br' : ByteArray} {d d' : Int} {e : Ending} {t : TypeId} {cs : Array Value} (h : Tab w B T v l br d) (hd : Did w B T v c l' br' d' e w') (hb : Blk w g t cs) (h1 : t ≠ 53) (h2 : 43 ≠ t) : Blk w' g t cs := by
  obtain ⟨_, _, _, k, _⟩ := hd
  exact (k.block g hb.lt (hb.ne_ h.blk h1) (fun e => own_blk_ne h.own hb h2 e.symm)).trans hb
theorem acted_blk {w w' : World} {B T g : Nat} {v : Value} {c : Int} {l l' : List Rf} {br br' : ByteArray} {d d' : Int} {e : Ending} {t : TypeId} {cs : Array Value} (h : Doc w B T v l br d) (hd : Acted w B T v c l' br' d' e w') (hb : Blk w g t cs) (h1 : t ≠ 29) (h2 : 43 ≠ t) : Blk w' g t cs := by
  obtain ⟨_, _, _, _, _, k, _⟩ := hd
  exact (k.block g hb.lt (hb.ne_ h.blk h1) (fun e => own_blk_ne h.own hb h2 e.symm)).trans hb
/-- Another table, apart from the one on which a call was. -/
theorem did_far {w w' : World} {B C T T' : Nat} {v v2 : Value} {c : Int} {l' l1 l2 : List Rf} {br' br1 br2 : ByteArray} {d' d1 d2 : Int} {e : Ending} (h1 : Tab w B T v l1 br1 d1) (hd : Did w B T v c l' br' d' e w') (h2 : Tab w C T' v2 l2 br2 d2) (hT : T ≠ T') (hv : ∀ g, v.ownBlock = some g → v2.ownBlock ≠ some g) : Tab w' C T' v2 l2 br2 d2 := by
  obtain ⟨_, _, _, k, _⟩ := hd
  have n1 : v.ownBlock ≠ some T' := own_blk_ne h1.own h2.blk (by decide)
  have n2 : v2.ownBlock ≠ some T := own_blk_ne h2.own h1.blk (by decide)
  refine ⟨(k.block T' h2.blk.lt (Ne.symm hT) (fun e => n1 e.symm)).trans h2.blk, ?_, h2.lo, h2.few, h2.up⟩
  obtain ⟨a, b⟩ := h2.own
  refine ⟨a, b.imp id ?_⟩
  rintro ⟨g, cap, cur, rfl, hg, hh, r⟩
  exact ⟨g, cap, cur, rfl, hg, (k.block g (Array.getElem?_eq_some_iff.1 hh).1 (fun e => n2 (by rw [← e]; rfl)) (fun e => hv g e.symm rfl)).trans hh, r⟩
theorem Tab.base_ {w : World} {B C T : Nat} {v : Value} {l : List Rf} {br : ByteArray} {d : Int} (h : Tab w C T v l br d) (hB : B ≤ C) : Tab w B T v l br d := by
  refine ⟨h.blk, ?_, Nat.le_trans hB h.lo, h.few, h.up⟩
  obtain ⟨a, b⟩ := h.own
  refine ⟨a, b.imp id ?_⟩
  rintro ⟨g, cap, cur, hv, hg, r⟩
  exact ⟨g, cap, cur, hv, Nat.le_trans hB hg, r⟩
#print axioms did_far
end Go.Proofs.Ytkhdjlakclidoaa
