/-
  simfs: a disk as it is told by its values; what a call may turn; Cut.
-/
import Derived.Test.YtcnmlgmlijgmhaaDoorSfS
namespace Go.Proofs.YtcnmlgmlijgmhaaDoor
open Go Go.RowKit Go.Maps

def cB (b : Bool) : List Value := [.bool b]
theorem cB_len (b : Bool) : (cB b).length = 1 := rfl
/-- Where a disk lies. -/
structure Loc where
  F : Nat
  bf : Nat
  bs : Nat
  vp : Value
  vk : Value
def Loc.foot (L : Loc) (k : Nat) : Prop := k = L.F ∨ k = L.bf ∨ k = L.bs ∨ L.vp.ownBlock = some k
/-- A disk by its values. -/
structure DK where
  T : Tr
  S : Tr
  ps : List Ov
  q : Int
  now : Int
  ino : Int
  ops : Int
  off : Bool
  armed : Int
  ks : List Bool
def okO (o : Ov) : Prop := (o.1 = 0 ∨ o.1 = 1 ∨ o.1 = 2) ∧ o.2.1.size ≤ 1000 ∧ o.2.2.1.size ≤ 1000
def Short (T : Tr) : Prop := ∀ x ∈ T, x.1.size ≤ 1000
structure DiskIs (w : World) (B : Nat) (L : Loc) (N : Nat) (D : DK) : Prop where
  fs : FsIs w L.F L.bf L.bs N D.T D.S L.vp D.q D.now D.ino D.ops D.off D.armed L.vk
  ps : w.ownsRow B 80 7 L.vp D.ps.length (D.ps.flatMap cO)
  ks : w.ownsRow B 4 1 L.vk D.ks.length (D.ks.flatMap cB)
  lo : B ≤ L.F ∧ B ≤ L.bf ∧ B ≤ L.bs
  sT : Short D.T
  sS : Short D.S
  so : ∀ o ∈ D.ps, okO o
/-- Nothing but blocks of X, and new ones, has turned. -/
structure Turns (w w' : World) (X : Nat → Prop) : Prop where
  os : w'.os = w.os
  tape : w'.tape = w.tape
  output : w'.output = w.output
  size : w.heap.size ≤ w'.heap.size
  block : ∀ k, k < w.heap.size → ¬ X k → w'.heap[k]? = w.heap[k]?
theorem Turns.refl (w : World) (X : Nat → Prop) : Turns w w X := ⟨rfl, rfl, rfl, Nat.le_refl _, fun _ _ _ => rfl⟩
theorem Turns.of_grown {w w' : World} {b : Nat} {X : Nat → Prop} (h : w.grownBy w' (some b)) (hb : X b) : Turns w w' X := ⟨h.os, h.tape, h.output, h.size, fun k hk hx => h.block k hk (fun e => hx (by obtain rfl := Option.some.inj e; exact hb))⟩
theorem Turns.of_below {w w' : World} {X : Nat → Prop} (h : Below w.heap.size w w') : Turns w w' X := ⟨h.os, h.tape, h.output, h.size, fun k hk _ => h.block k hk⟩
theorem Turns.trans {w w1 w2 : World} {X : Nat → Prop} (h : Turns w w1 X) (g : Turns w1 w2 X) : Turns w w2 X :=
  ⟨g.os.trans h.os, g.tape.trans h.tape, g.output.trans h.output, Nat.le_trans h.size g.size, fun k hk hx => (g.block k (Nat.lt_of_lt_of_le hk h.size) hx).trans (h.block k hk hx)⟩
structure Next (w : World) (L : Loc) (w' : World) (L' : Loc) : Prop where
  F : L'.F = L.F
  foot : ∀ k, L'.foot k → L.foot k ∨ w.heap.size ≤ k
  t : Turns w w' L.foot
theorem Next.refl (w : World) (L : Loc) : Next w L w L := ⟨rfl, fun _ h => .inl h, Turns.refl _ _⟩
theorem Next.trans {w w1 w2 : World} {L L1 L2 : Loc} (h : Next w L w1 L1) (g : Next w1 L1 w2 L2) : Next w L w2 L2 :=
  ⟨g.F.trans h.F, fun k hk => (g.foot k hk).elim (h.foot k) (fun hs => .inr (Nat.le_trans h.t.size hs)),
    ⟨g.t.os.trans h.t.os, g.t.tape.trans h.t.tape, g.t.output.trans h.t.output, Nat.le_trans h.t.size g.t.size, fun k hk hx =>
      (g.t.block k (Nat.lt_of_lt_of_le hk h.t.size) (fun hf => (h.foot k hf).elim hx (fun hs => by omega))).trans (h.t.block k hk hx)⟩⟩
section
variable {w w' : World} {B N : Nat} {L L' : Loc} {D : DK}
theorem DiskIs.foot_lo (h : DiskIs w B L N D) (k : Nat) (hk : L.foot k) : B ≤ k := by
  rcases hk with rfl | rfl | rfl | e
  · exact h.lo.1
  · exact h.lo.2.1
  · exact h.lo.2.2
  · exact (h.ps.lt k e).1
theorem DiskIs.foot_lt (h : DiskIs w B L N D) (k : Nat) (hk : L.foot k) : k < w.heap.size := by
  rcases hk with rfl | rfl | rfl | e
  · exact h.fs.x.lt
  · exact h.fs.f.lt
  · exact h.fs.s.lt
  · exact (h.ps.lt k e).2
theorem Next.below (h : Next w L w' L') (hd : DiskIs w B L N D) (hB : B ≤ w.heap.size) : Below B w w' :=
  ⟨h.t.os, h.t.tape, h.t.output, h.t.size, fun k hk => h.t.block k (by omega) (fun hf => by have := hd.foot_lo k hf; omega)⟩
theorem DiskIs.below (h : DiskIs w B L N D) (hb : Below w.heap.size w w') : DiskIs w' B L N D :=
  ⟨h.fs.below hb, own_keep h.ps hb, own_keep h.ks hb, h.lo, h.sT, h.sS, h.so⟩
/-- Another's call, which touches nothing of this disk. -/
theorem DiskIs.apart (h : DiskIs w B L N D) {X : Nat → Prop} (ht : Turns w w' X) (hx : ∀ k, L.foot k → ¬ X k) (hk : ∀ k, L.vk.ownBlock = some k → ¬ X k) : DiskIs w' B L N D := by
  have hF := ht.block L.F h.fs.x.lt (hx _ (.inl rfl))
  have hf := ht.block L.bf h.fs.f.lt (hx _ (.inr (.inl rfl)))
  have hs := ht.block L.bs h.fs.s.lt (hx _ (.inr (.inr (.inl rfl))))
  refine ⟨⟨hF.trans h.fs.x, ?_, ?_, h.fs.ne⟩, ?_, ?_, h.lo, h.sT, h.sS, h.so⟩
  · obtain ⟨es, clock, hh, r⟩ := h.fs.f
    exact ⟨es, clock, hf.trans hh, r⟩
  · obtain ⟨es, clock, hh, r⟩ := h.fs.s
    exact ⟨es, clock, hs.trans hh, r⟩
  · obtain ⟨h1, h2⟩ := h.ps
    refine ⟨h1, h2.imp id ?_⟩
    rintro ⟨g, cap, cur, e, hg, hh, rest⟩
    exact ⟨g, cap, cur, e, hg, (ht.block g (Array.getElem?_eq_some_iff.1 hh).1 (hx _ (.inr (.inr (.inr (by rw [e]; rfl)))))).trans hh, rest⟩
  · obtain ⟨h1, h2⟩ := h.ks
    refine ⟨h1, h2.imp id ?_⟩
    rintro ⟨g, cap, cur, e, hg, hh, rest⟩
    exact ⟨g, cap, cur, e, hg, (ht.block g (Array.getElem?_eq_some_iff.1 hh).1 (hk _ (by rw [e]; rfl))).trans hh, rest⟩
end

/-! ### What a cut keeps -/
def cutN (S : Tr) (ps : List Ov) (ks : List Bool) : Nat → Tr
  | 0 => S
  | i + 1 => match ps[i]? with
    | some o => if (ks[i]?).getD false && refO (cutN S ps ks i) o == 0 then doO (cutN S ps ks i) o else cutN S ps ks i
    | none => cutN S ps ks i
theorem Short.ins {T : Tr} {x : ByteArray × FV} (h : Short T) (hx : x.1.size ≤ 1000) : Short (insT x T) := by
  induction T with
  | nil => intro y hy; simp [insT] at hy; subst hy; exact hx
  | cons z T ih =>
    intro y hy
    unfold insT at hy
    split at hy
    · rcases List.mem_cons.1 hy with rfl | hy
      · exact hx
      · exact h y hy
    · rcases List.mem_cons.1 hy with rfl | hy
      · exact h _ (List.mem_cons_self ..)
      · exact ih (fun a ha => h a (List.mem_cons_of_mem _ ha)) y hy
theorem Short.del {T : Tr} (h : Short T) (p : ByteArray) : Short (delT T p) := fun x hx => h x (List.mem_filter.1 hx).1
theorem Short.put {T : Tr} (h : Short T) {p : ByteArray} (hp : p.size ≤ 1000) (f : FV) : Short (putT T p f) := (h.del p).ins hp
theorem Short.do_ {T : Tr} (h : Short T) {o : Ov} (ho : okO o) : Short (doO T o) := by
  unfold doO
  split
  · exact h.del _
  · split
    · exact (h.del _).put ho.2.2 _
    · exact h.put ho.2.2 _
theorem Short.cut {S : Tr} (h : Short S) {ps : List Ov} (ho : ∀ o ∈ ps, okO o) (ks : List Bool) : ∀ i, Short (cutN S ps ks i)
  | 0 => h
  | i + 1 => by
    have ih := Short.cut h ho ks i
    unfold cutN
    split
    · rename_i o hi
      split
      · exact ih.do_ (ho o (List.mem_of_getElem? hi))
      · exact ih
    · exact ih
theorem cutN_yes {S : Tr} {ps : List Ov} {ks : List Bool} {i : Nat} {o : Ov} (h : ps[i]? = some o) (hk : ks[i]? = some true) (hr : refO (cutN S ps ks i) o = 0) : cutN S ps ks (i + 1) = doO (cutN S ps ks i) o := by
  show (match ps[i]? with | some o => _ | none => _) = _
  rw [h]; simp [hk, hr]
theorem cutN_ref {S : Tr} {ps : List Ov} {ks : List Bool} {i : Nat} {o : Ov} (h : ps[i]? = some o) (hr : refO (cutN S ps ks i) o ≠ 0) : cutN S ps ks (i + 1) = cutN S ps ks i := by
  show (match ps[i]? with | some o => _ | none => _) = _
  rw [h]; simp [hr]
theorem cutN_no {S : Tr} {ps : List Ov} {ks : List Bool} {i : Nat} {o : Ov} (h : ps[i]? = some o) (hk : (ks[i]?).getD false = false) : cutN S ps ks (i + 1) = cutN S ps ks i := by
  show (match ps[i]? with | some o => _ | none => _) = _
  rw [h]; simp [hk]

theorem Ops.at_ {w : World} {A : Option Addr} {n c : Nat} {l : List Ov} (h : Reads 7 cO w (.slice A n c) l) {i : Nat} {k : Int} {fr p : ByteArray} {m t j : Int} {s : ByteArray} (hi : l[i]? = some (k, fr, p, m, t, j, s)) :
    ∃ ad : Addr, A = some ad ∧ w.cell? (ad.add (i * 7)) = some (.int .i64 k) ∧ w.cell? ⟨(ad.add (i * 7)).block, (ad.add (i * 7)).off + 1, none⟩ = some (.string fr) ∧ w.cell? ⟨(ad.add (i * 7)).block, (ad.add (i * 7)).off + 2, none⟩ = some (.string p) ∧
      w.cell? ⟨(ad.add (i * 7)).block, (ad.add (i * 7)).off + 3, none⟩ = some (.int .i64 m) ∧ w.cell? ⟨(ad.add (i * 7)).block, (ad.add (i * 7)).off + 4, none⟩ = some (.int .i64 t) ∧ w.cell? ⟨(ad.add (i * 7)).block, (ad.add (i * 7)).off + 5, none⟩ = some (.int .i64 j) ∧ w.cell? ⟨(ad.add (i * 7)).block, (ad.add (i * 7)).off + 6, none⟩ = some (.string s) := by
  obtain ⟨ad, rfl, hc⟩ := h.at_ hi
  exact ⟨ad, rfl, hc 0 _ rfl, hc 1 _ rfl, hc 2 _ rfl, hc 3 _ rfl, hc 4 _ rfl, hc 5 _ rfl, hc 6 _ rfl⟩
theorem Bools.at_ {w : World} {A : Option Addr} {n c : Nat} {l : List Bool} (h : Reads 1 cB w (.slice A n c) l) {i : Nat} {b : Bool} (hi : l[i]? = some b) : ∃ ad : Addr, A = some ad ∧ w.cell? (ad.add i) = some (.bool b) := by
  obtain ⟨ad, rfl, hc⟩ := h.at_ hi
  have := hc 0 _ rfl
  exact ⟨ad, rfl, by simpa [adr] using this⟩
end Go.Proofs.YtcnmlgmlijgmhaaDoor
