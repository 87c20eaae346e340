/-
  Behind take and decide, the plain part.
-/
import Derived.Test.YtiefenfogjlnoaaRowC
namespace Go.Proofs.Ytiefenfogjlnoaa
open Go.RowKit

theorem Cs.below {w0 w w' : World} {C : Nat} {v0 v1 v2 vp vq : Value} {xs ys zs : List ByteArray} {p q : List (Option Nat)} {i j k : Nat} {cs : List (Ck ByteArray)} (h : Cs w0 w C v0 v1 v2 vp vq xs ys zs p q i j k cs) (hb : Below w.heap.size w w') : Cs w0 w' C v0 v1 v2 vp vq xs ys zs p q i j k cs := by
  obtain ⟨v8, h1, h2⟩ := h.c
  exact ⟨⟨v8, h1.below hb, h2.below hb⟩, h.a, h.b, h.d, h.p1.below hb, h.p2.below hb, h.g.trans (hb.mono h.g.size), h.cb⟩

/-- Behind take and decide: the chunk in a block of its own. -/
structure Bt (w0 w : World) (C X : Nat) (v0 v1 v2 vp vq v8 a b d e : Value) (xs ys zs : List ByteArray) (p q : List (Option Nat)) (i j k : Nat) (cs : List (Ck ByteArray)) (ck : Ck ByteArray) : Prop where
  c : Cutr w C v0 v1 v2 vp vq (.int .i64 (i : Int)) (.int .i64 (j : Int)) (.int .i64 (k : Int)) v8
  o : OutR w w0.heap.size v8 cs
  x : Five w X a b d (.bool ck.clash) e
  nx : v8.ownBlock ≠ some X
  o1 : Tx w w0.heap.size a ck.base
  o2 : Tx w w0.heap.size b ck.ours
  o3 : Tx w w0.heap.size d ck.theirs
  o4 : Tx w w0.heap.size e ck.out
  a : Strs w0 v0 xs
  b : Strs w0 v1 ys
  d : Strs w0 v2 zs
  p1 : Pl w vp p
  p2 : Pl w vq q
  g : Below w0.heap.size w0 w
  cb : w0.heap.size ≤ C

theorem bt_of {w0 w w1 w2 : World} {C : Nat} {v0 v1 v2 vp vq v8 : Value} {A1 A2 A3 : Option Addr} {n1 n2 n3 c1 c2 c3 : Nat} {xs ys zs l1 l2 l3 : List ByteArray} {p q : List (Option Nat)} {i j k i2 j2 k2 : Nat} {cs : List (Ck ByteArray)} {e : Ending}
    (h : Cs w0 w C v0 v1 v2 vp vq xs ys zs p q i j k cs) (hv : Cutr w C v0 v1 v2 vp vq (.int .i64 (i : Int)) (.int .i64 (j : Int)) (.int .i64 (k : Int)) v8) (ho : OutR w w0.heap.size v8 cs)
    (o1 : Tx w1 w.heap.size (.slice A1 n1 c1) l1) (o2 : Tx w1 w.heap.size (.slice A2 n2 c2) l2) (o3 : Tx w1 w.heap.size (.slice A3 n3 c3) l3)
    (hq : Cutr w1 C v0 v1 v2 vp vq (.int .i64 (i2 : Int)) (.int .i64 (j2 : Int)) (.int .i64 (k2 : Int)) v8) (hg : w.grownBy w1 (some C))
    (hd : Decided (w1.alloc (.cells #[.slice A1 n1 c1, .slice A2 n2 c2, .slice A3 n3 c3, .bool false, .slice none 0 0] 34)) w1.heap.size (.slice A1 n1 c1) (.slice A2 n2 c2) (.slice A3 n3 c3) (decideC l1 l2 l3) e w2) :
    ∃ v4, e = .returned (.tuple #[]) ∧ Bt w0 w2 C w1.heap.size v0 v1 v2 vp vq v8 (.slice A1 n1 c1) (.slice A2 n2 c2) (.slice A3 n3 c3) v4 xs ys zs p q i2 j2 k2 cs (decideC l1 l2 l3) := by
  obtain ⟨v4, he, hx, h4, hgx⟩ := hd
  have hle := h.g.size
  have hB1 : Below w1.heap.size w1 (w1.alloc (.cells #[.slice A1 n1 c1, .slice A2 n2 c2, .slice A3 n3 c3, .bool false, .slice none 0 0] 34)) := (Below.refl _ _).alloc (Nat.le_refl _) _
  have hB : Below w1.heap.size w1 w2 := hB1.grown hgx (by simp) (fun k hk => by injection hk with hk; omega)
  have e1 : (decideC l1 l2 l3).base = l1 := by
    unfold decideC
    split
    · rfl
    · split <;> rfl
  have e2 : (decideC l1 l2 l3).ours = l2 := by
    unfold decideC
    split
    · rfl
    · split <;> rfl
  have e3 : (decideC l1 l2 l3).theirs = l3 := by
    unfold decideC
    split
    · rfl
    · split <;> rfl
  have ho1 : OutR w1 w0.heap.size v8 cs := ho.kept hg hv.ty (by decide) (ho.ne hv.ty (by decide))
  refine ⟨v4, he, hq.below hB, ho1.below hB, hx, ?_, ?_, ?_, ?_, ?_, h.a, h.b, h.d, (own_keep (h.p1.kept hg (.inr (own_apart h.p1 hv.ty (by decide)))) hB), (own_keep (h.p2.kept hg (.inr (own_apart h.p2 hv.ty (by decide)))) hB), ?_, h.cb⟩
  · intro hc
    obtain ⟨vals, g1, _⟩ := ho1
    have := (g1.lt _ hc).2
    omega
  · rw [e1]; exact own_le (own_keep o1 hB) hle
  · rw [e2]; exact own_le (own_keep o2 hB) hle
  · rw [e3]; exact own_le (own_keep o3 hB) hle
  · exact own_le h4 (by have := hg.size; simp; omega)
  · exact (h.g.grown hg hle (fun k hk => by injection hk with hk; have := h.cb; omega)).trans (hB.mono (Nat.le_trans hle hg.size))

theorem chunkInfo : (Try.prog.info? 34).map (fun i => (i.zero, i.size, i.bytes)) = some (some (.agg #[.slice none 0 0, .slice none 0 0, .slice none 0 0, .bool false, .slice none 0 0]), 5, 104) := by kernel_rfl

section
variable {w0 w w1 : World} {C X : Nat} {v0 v1 v2 vp vq v8 a b d e v9 : Value} {xs ys zs : List ByteArray} {p q : List (Option Nat)} {i j k : Nat} {cs : List (Ck ByteArray)} {ck : Ck ByteArray} {vals : List Value} {us : Array Value}

/-- Behind the append: what the store needs; the chunk's cells. -/
theorem bt_grown (h : Bt w0 w C X v0 v1 v2 vp vq v8 a b d e xs ys zs p q i j k cs ck) (hg : (w.alloc (.cells us 34)).drew.grownBy w1 v8.ownBlock) :
    w1.cell? ⟨C, 8, none⟩ = some v8 ∧ w1.frozen? ⟨C, 8, none⟩ = false ∧ Five w1 X a b d (.bool ck.clash) e := by
  have hB : Below w.heap.size w (w.alloc (.cells us 34)).drew := ((Below.refl _ _).alloc (Nat.le_refl _) _).drew
  have hc := h.c.below hB
  have hb := hg.block C hc.lt (Ne.symm (h.o.ne h.c.ty (by decide)))
  exact ⟨(World.cell?_of_block (w := (w.alloc (.cells us 34)).drew) (a := ⟨C, 8, none⟩) hb).trans hc.c8, (World.frozen?_of_block (w := (w.alloc (.cells us 34)).drew) (a := ⟨C, 8, none⟩) hb).trans (hc.z 8), (h.x.below hB).same (hg.block X (h.x.below hB).lt (Ne.symm h.nx))⟩

theorem bt_close (h : Bt w0 w C X v0 v1 v2 vp vq v8 a b d e xs ys zs p q i j k cs ck) (ho : w.ownsRow w0.heap.size 34 5 v8 cs.length vals) (hv : CkV w w0.heap.size vals cs) (hg : (w.alloc (.cells us 34)).drew.grownBy w1 v8.ownBlock)
    (h9 : w1.ownsRow w0.heap.size 34 5 v9 (cs.length + 1) (vals ++ [a, b, d, .bool ck.clash, e])) : Cs w0 (w1.setCell ⟨C, 8, none⟩ v9) C v0 v1 v2 vp vq xs ys zs p q i j k (cs ++ [ck]) := by
  have hB : Below w.heap.size w (w.alloc (.cells us 34)).drew := ((Below.refl _ _).alloc (Nat.le_refl _) _).drew
  have hne : ∀ {t : TypeId} {g : Nat}, Ty w g t → t ≠ 34 → some g ≠ v8.ownBlock := fun ty hn => Ne.symm (h.o.ne ty hn)
  have hc1 : Cutr w1 C v0 v1 v2 vp vq (.int .i64 (i : Int)) (.int .i64 (j : Int)) (.int .i64 (k : Int)) v8 := by
    have hc := h.c.below hB
    have hb := hg.block C hc.lt (hne h.c.ty (by decide))
    have cc : ∀ k : Nat, w1.cell? ⟨C, k, none⟩ = (w.alloc (.cells us 34)).drew.cell? ⟨C, k, none⟩ := fun k => World.cell?_of_block (w := (w.alloc (.cells us 34)).drew) hb
    exact ⟨(cc 0).trans hc.c0, (cc 1).trans hc.c1, (cc 2).trans hc.c2, (cc 3).trans hc.c3, (cc 4).trans hc.c4, (cc 5).trans hc.c5, (cc 6).trans hc.c6, (cc 7).trans hc.c7, (cc 8).trans hc.c8, fun k => (World.frozen?_of_block (w := (w.alloc (.cells us 34)).drew) hb).trans (hc.z k), hc.ty.same hb⟩
  have gs := grown_store w1 C 8 v9
  have own9 : ∀ {ve : Value} {bs n : Nat} {et : TypeId} {vs : List Value}, et ≠ 34 → et ≠ 54 → w.ownsRow bs et 1 ve n vs → (w1.setCell ⟨C, 8, none⟩ v9).ownsRow bs et 1 ve n vs := fun {ve bs n et vs} h34 h54 hr => by
    have r1 := own_keep hr hB
    have r2 : w1.ownsRow bs et 1 ve n vs := r1.kept hg (by
      cases hve : ve.ownBlock with
      | none => exact .inl rfl
      | some g =>
        refine .inr fun hh => ?_
        obtain ⟨_, o1, _⟩ := h.o
        have ty := own_ty o1 hh.symm
        exact own_apart r1 (ty.same (hB.block g ty.lt)) h34 hve)
    exact r2.kept gs (.inr (own_apart r2 hc1.ty h54))
  have tx9 : ∀ v ss, Tx w w0.heap.size v ss → Tx (w1.setCell ⟨C, 8, none⟩ v9) w0.heap.size v ss := fun v ss hr => own9 (by decide) (by decide) hr
  have o : ∀ k : Nat, k ≠ 8 → (w1.setCell ⟨C, 8, none⟩ v9).cell? ⟨C, k, none⟩ = w1.cell? ⟨C, k, none⟩ := fun k hk => World.cell?_setCell_other w1 _ _ v9 (by simp)
  refine ⟨⟨v9, ⟨(o 0 (by omega)).trans hc1.c0, (o 1 (by omega)).trans hc1.c1, (o 2 (by omega)).trans hc1.c2, (o 3 (by omega)).trans hc1.c3, (o 4 (by omega)).trans hc1.c4, (o 5 (by omega)).trans hc1.c5, (o 6 (by omega)).trans hc1.c6, (o 7 (by omega)).trans hc1.c7, set_same hc1.c8, fun k => by simp [hc1.z k], hc1.ty.set _ _ _⟩, ?_⟩, h.a, h.b, h.d, own9 (by decide) (by decide) h.p1, own9 (by decide) (by decide) h.p2, ?_, h.cb⟩
  · exact ⟨_, by rw [List.length_append]; exact h9.kept gs (.inr (own_apart h9 hc1.ty (by decide))), CkV.snoc (tx9 _ _ h.o1) (tx9 _ _ h.o2) (tx9 _ _ h.o3) (tx9 _ _ h.o4) (hv.keep tx9)⟩
  · exact (((h.g.trans (hB.mono h.g.size)).grown hg (by have := h.g.size; have := hB.size; omega) (fun k hk => (ho.lt k hk).1))).setCell h.cb v9
end

end Go.Proofs.Ytiefenfogjlnoaa
