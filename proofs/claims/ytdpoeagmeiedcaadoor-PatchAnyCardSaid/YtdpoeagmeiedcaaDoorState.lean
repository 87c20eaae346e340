/-
  The state while measure lays its rows: two numbered texts, the table, the grid: in whatever order the last two come.
-/
import Derived.Test.YtdpoeagmeiedcaaDoorMade
namespace Go.Proofs.YtdpoeagmeiedcaaDoor
open Go.RowKit Go.Maps Go.WideMaps

theorem own_ne_map {w : World} {base : Nat} {e : TypeId} {g n : Nat} {xs : List Value} (h : w.ownsRow base e 1 (sl g n) n xs) {K : TypeId} {R : Value → Option (DataW Unit × List MemPlace)} {bm N : Nat} {D : DataW Unit} (m : w.ownsMap Tryd.prog K R bm N D) : g ≠ bm := by
  rintro rfl
  obtain ⟨es, cl, hmap, _⟩ := m
  rcases h.2 with ⟨h', _⟩ | ⟨g', cap, cur, h', _, hg, _⟩
  · cases h'
  · injection h' with h1
    injection h1 with h1
    injection h1 with h1
    subst h1
    rw [hmap] at hg
    cases hg

theorem three_ne_map {w : World} {b : Nat} {x y z : Value} (h : Three w b x y z) {K : TypeId} {R : Value → Option (DataW Unit × List MemPlace)} {bm N : Nat} {D : DataW Unit} (m : w.ownsMap Tryd.prog K R bm N D) : b ≠ bm := by
  rintro rfl
  obtain ⟨es, cl, hmap, _⟩ := m
  have := h.c0
  unfold World.cell? at this
  simp [hmap] at this

structure St (w0 w : World) (b4 bm : Nat) (v u : Value) (xs ys : List ByteArray) (R N : Nat) (D : DataW Unit) (oa ob : Option (Nat × List Nat)) (og oG : Option Nat) : Prop where
  p : Pre w0 w b4 bm v u xs ys N D
  hR : R ≤ maxLen
  fa : ∀ g zs, oa = some (g, zs) → w.ownsRow (b4 + 1) 3 1 (sl g xs.length) xs.length (i64s zs) ∧ Nums D xs zs ∧ og ≠ some g ∧ oG ≠ some g
  fb : ∀ g zs, ob = some (g, zs) → w.ownsRow (b4 + 1) 3 1 (sl g ys.length) ys.length (i64s zs) ∧ Nums D ys zs ∧ og ≠ some g ∧ oG ≠ some g
  fr : ∀ g, og = some g → w.ownsRow (b4 + 1) 92 1 (sl g R) R (u16s (List.replicate R 0)) ∧ b4 ≠ g
  fG : ∀ g, oG = some g → Three w g nils nils nils ∧ og ≠ some g ∧ w0.heap.size ≤ g ∧ b4 ≠ g

theorem st_start {w0 w : World} {b4 bm : Nat} {v u : Value} {xs ys : List ByteArray} {R N : Nat} {D : DataW Unit} (p : Pre w0 w b4 bm v u xs ys N D) (hR : R ≤ maxLen) : St w0 w b4 bm v u xs ys R N D none none none none :=
  ⟨p, hR, fun _ _ h => (by cases h), fun _ _ h => (by cases h), fun _ h => (by cases h), fun _ h => (by cases h)⟩

variable {w0 w : World} {b4 bm : Nat} {v u : Value} {xs ys : List ByteArray} {R N : Nat} {D : DataW Unit} {oa ob : Option (Nat × List Nat)} {og oG : Option Nat}

theorem own_lt {w : World} {base : Nat} {e : TypeId} {g n : Nat} {xs : List Value} (h : w.ownsRow base e 1 (sl g n) n xs) : g < w.heap.size := (h.lt g rfl).2

theorem St.drew (h : St w0 w b4 bm v u xs ys R N D oa ob og oG) : St w0 w.drew b4 bm v u xs ys R N D oa ob og oG :=
  ⟨h.p.drew, h.hR, h.fa, h.fb, h.fr, fun g e => ⟨(h.fG g e).1.below (Below.refl _ _).drew, (h.fG g e).2⟩⟩

theorem St.make (h : St w0 w b4 bm v u xs ys R N D oa ob none oG) : St w0 (w.alloc (.cells (madeCells #[.int .u16 0] R) 92)) b4 bm v u xs ys R N D oa ob (some w.heap.size) oG := by
  have E := (Below.refl w.heap.size w).alloc (Nat.le_refl _) (.cells (madeCells #[.int .u16 0] R) 92)
  refine ⟨h.p.below E, h.hR, fun g zs e => ?_, fun g zs e => ?_, fun g e => ?_, fun g e => ?_⟩
  · obtain ⟨h1, h2, _, h4⟩ := h.fa g zs e
    have := own_lt h1
    exact ⟨h1.alloc _, h2, fun e => (by injection e with e; omega), h4⟩
  · obtain ⟨h1, h2, _, h4⟩ := h.fb g zs e
    have := own_lt h1
    exact ⟨h1.alloc _, h2, fun e => (by injection e with e; omega), h4⟩
  · injection e with e
    subst e
    have := h.p.r.lt
    exact ⟨made_row w _ R h.p.r.lt h.hR, by omega⟩
  · obtain ⟨h1, _, h3, h4⟩ := h.fG g e
    have := h1.lt
    exact ⟨h1.below E, fun e => (by injection e with e; omega), h3, h4⟩

theorem St.lay (h : St w0 w b4 bm v u xs ys R N D oa ob og none) : St w0 (w.alloc (.cells #[.slice none 0 0, .slice none 0 0, .slice none 0 0] 85)) b4 bm v u xs ys R N D oa ob og (some w.heap.size) := by
  have E := (Below.refl w.heap.size w).alloc (Nat.le_refl _) (.cells #[.slice none 0 0, .slice none 0 0, .slice none 0 0] 85)
  refine ⟨h.p.below E, h.hR, fun g zs e => ?_, fun g zs e => ?_, fun g e => ?_, fun g e => ?_⟩
  · obtain ⟨h1, h2, h3, _⟩ := h.fa g zs e
    have := own_lt h1
    exact ⟨h1.alloc _, h2, h3, fun e => (by injection e with e; omega)⟩
  · obtain ⟨h1, h2, h3, _⟩ := h.fb g zs e
    have := own_lt h1
    exact ⟨h1.alloc _, h2, h3, fun e => (by injection e with e; omega)⟩
  · obtain ⟨h1, h2⟩ := h.fr g e
    exact ⟨h1.alloc _, h2⟩
  · injection e with e
    subst e
    have := h.p.r.lt
    refine ⟨Three.new w _ _ _ 85, fun e => ?_, h.p.g.size, by omega⟩
    have := own_lt (h.fr _ e).1
    omega

theorem St.kept {w' : World} (h : St w0 w b4 bm v u xs ys R N D oa ob og oG) {D' : DataW Unit} {N' : Nat} (p : Pre w0 w' b4 bm v u xs ys N' D') (hM : More D D') (hg : w.grownBy w' (some bm)) : St w0 w' b4 bm v u xs ys R N' D' oa ob og oG := by
  refine ⟨p, h.hR, fun g zs e => ?_, fun g zs e => ?_, fun g e => ?_, fun g e => ?_⟩
  · obtain ⟨h1, h2, h3⟩ := h.fa g zs e
    exact ⟨h1.kept hg (.inr (by simp [Value.ownBlock, own_ne_map h1 h.p.m])), h2.more hM, h3⟩
  · obtain ⟨h1, h2, h3⟩ := h.fb g zs e
    exact ⟨h1.kept hg (.inr (by simp [Value.ownBlock, own_ne_map h1 h.p.m])), h2.more hM, h3⟩
  · obtain ⟨h1, h3⟩ := h.fr g e
    exact ⟨h1.kept hg (.inr (by simp [Value.ownBlock, own_ne_map h1 h.p.m])), h3⟩
  · obtain ⟨h1, h3, h4, h5⟩ := h.fG g e
    exact ⟨h1.apart hg (three_ne_map h1 h.p.m), h3, h4, h5⟩

/-- Behind the first text's numbers. -/
def Call1 (w0 : World) (b4 bm : Nat) (v u : Value) (xs ys : List ByteArray) (R N : Nat) (ob : Option (Nat × List Nat)) (og oG : Option Nat) (e : Ending) (w' : World) : Prop :=
  ∃ (ga : Nat) (zs : List Nat) (D : DataW Unit), e = .returned (.slice (some ⟨ga, 0, none⟩) xs.length xs.length) ∧ St w0 w' b4 bm v u xs ys R N D (some (ga, zs)) ob og oG
def Call2 (w0 : World) (b4 bm : Nat) (v u : Value) (xs ys : List ByteArray) (R N : Nat) (oa : Option (Nat × List Nat)) (og oG : Option Nat) (e : Ending) (w' : World) : Prop :=
  ∃ (gb : Nat) (zs : List Nat) (D : DataW Unit), e = .returned (.slice (some ⟨gb, 0, none⟩) ys.length ys.length) ∧ St w0 w' b4 bm v u xs ys R N D oa (some (gb, zs)) og oG

theorem st_call1 (h : St w0 w b4 bm v u xs ys R N D oa ob og oG) (hsz : ∀ s ∈ xs, s.size ≤ maxLen) (hn : xs.length ≤ 1000) (hN : N ≤ 1000) :
    Calls Tryd.prog 71 #[v, .map (some bm)] w (Call1 w0 b4 bm v u xs ys R (N + xs.length) ob og oG) :=
  (numb_first h.p hsz hn hN).mono fun e w' k => by
    obtain ⟨ga, zs, D1, he, hga, hra, hNa, hMa, P1, hg1⟩ := k
    have k := h.kept P1 hMa hg1
    refine ⟨ga, zs, D1, he, ⟨k.p, k.hR, fun g us e => ?_, k.fb, k.fr, k.fG⟩⟩
    injection e with e
    injection e with e1 e2
    subst e1; subst e2
    refine ⟨hra, hNa, fun e => ?_, fun e => ?_⟩
    · have := own_lt (h.fr _ e).1
      omega
    · have := (h.fG _ e).1.lt
      omega

theorem st_call2 (h : St w0 w b4 bm v u xs ys R N D oa ob og oG) (hsz : ∀ s ∈ ys, s.size ≤ maxLen) (hn : ys.length ≤ 1000) (hN : N ≤ 1000) :
    Calls Tryd.prog 71 #[u, .map (some bm)] w (Call2 w0 b4 bm v u xs ys R (N + ys.length) oa og oG) :=
  (numb_second h.p hsz hn hN).mono fun e w' k => by
    obtain ⟨ga, zs, D1, he, hga, hra, hNa, hMa, P1, hg1⟩ := k
    have k := h.kept P1 hMa hg1
    refine ⟨ga, zs, D1, he, ⟨k.p, k.hR, k.fa, fun g us e => ?_, k.fr, k.fG⟩⟩
    injection e with e
    injection e with e1 e2
    subst e1; subst e2
    refine ⟨hra, hNa, fun e => ?_, fun e => ?_⟩
    · have := own_lt (h.fr _ e).1
      omega
    · have := (h.fG _ e).1.lt
      omega

theorem set_same {w : World} {a : Addr} {u v : Value} (h : w.cell? a = some u) : (w.setCell a v).cell? a = some v := World.cell?_setCell_same' w a v (by simp [h])

/-- The grid is filled. -/
theorem three_fill {w : World} {b : Nat} {x y z : Value} (h : Three w b x y z) (x' y' z' : Value) : Three (((w.setCell ⟨b, 0, none⟩ x').setCell ⟨b, 1, none⟩ y').setCell ⟨b, 2, none⟩ z') b x' y' z' := by
  have h1 : (w.setCell ⟨b, 0, none⟩ x').cell? ⟨b, 1, none⟩ = some y := by rw [World.cell?_setCell_other _ _ _ _ (by simp)]; exact h.c1
  have h2 : ((w.setCell ⟨b, 0, none⟩ x').setCell ⟨b, 1, none⟩ y').cell? ⟨b, 2, none⟩ = some z := by rw [World.cell?_setCell_other _ _ _ _ (by simp), World.cell?_setCell_other _ _ _ _ (by simp)]; exact h.c2
  refine ⟨?_, ?_, set_same h2, ?_, ?_, ?_, ?_⟩
  · rw [World.cell?_setCell_other _ _ _ _ (by simp), World.cell?_setCell_other _ _ _ _ (by simp)]; exact set_same h.c0
  · rw [World.cell?_setCell_other _ _ _ _ (by simp)]; exact set_same h1
  · simp [h.z0]
  · simp [h.z1]
  · simp [h.z2]
  · simpa [World.setCell] using h.lt

theorem grown_fill (w : World) (b : Nat) (x' y' z' : Value) : w.grownBy (((w.setCell ⟨b, 0, none⟩ x').setCell ⟨b, 1, none⟩ y').setCell ⟨b, 2, none⟩ z') (some b) := by
  refine ⟨rfl, rfl, rfl, by simp [World.setCell], fun k _ hne => ?_⟩
  have hk : k ≠ b := fun e => hne (by rw [e])
  rw [Below.heap_setCell _ _ _ _ hk, Below.heap_setCell _ _ _ _ hk, Below.heap_setCell _ _ _ _ hk]

/-- The grid's cells are written where it was laid first. -/
theorem st_close {ga gb gr G : Nat} {zs us : List Nat} (h : St w0 w b4 bm v u xs ys R N D (some (ga, zs)) (some (gb, us)) (some gr) (some G)) :
    Mid w0 b4 xs ys R (.pointer (some ⟨G, 0, none⟩)) (((w.setCell ⟨G, 0, none⟩ (.slice (some ⟨ga, 0, none⟩) xs.length xs.length)).setCell ⟨G, 1, none⟩ (.slice (some ⟨gb, 0, none⟩) ys.length ys.length)).setCell ⟨G, 2, none⟩ (.slice (some ⟨gr, 0, none⟩) R R)) := by
  obtain ⟨a1, a2, a3, a4⟩ := h.fa _ _ rfl
  obtain ⟨b1, b2, b3, b5⟩ := h.fb _ _ rfl
  obtain ⟨r1, r2⟩ := h.fr _ rfl
  obtain ⟨G1, G2, G3, G4⟩ := h.fG _ rfl
  have hg := grown_fill w G (sl ga xs.length) (sl gb ys.length) (sl gr R)
  exact ⟨G, ga, gb, gr, zs, us, D, rfl, h.p.good, a2, b2, three_fill G1 _ _ _, a1.kept hg (.inr (by simpa [Value.ownBlock] using fun e : ga = G => a4 (by rw [e]))), b1.kept hg (.inr (by simpa [Value.ownBlock] using fun e : gb = G => b5 (by rw [e]))),
    r1.kept hg (.inr (by simpa [Value.ownBlock] using fun e : gr = G => G2 (by rw [e]))), h.p.r.apart hg G4, h.p.g.grown hg h.p.g.size (fun k hk => by injection hk with hk; omega), fun e => G2 (by rw [e]), fun e => a3 (by rw [e]), fun e => b3 (by rw [e]), r2, h.p.l1⟩

/-- The grid is laid last, whole. -/
theorem st_close_whole {ga gb gr : Nat} {zs us : List Nat} (h : St w0 w b4 bm v u xs ys R N D (some (ga, zs)) (some (gb, us)) (some gr) none) :
    Mid w0 b4 xs ys R (.pointer (some ⟨w.heap.size, 0, none⟩)) (w.alloc (.cells #[.slice (some ⟨ga, 0, none⟩) xs.length xs.length, .slice (some ⟨gb, 0, none⟩) ys.length ys.length, .slice (some ⟨gr, 0, none⟩) R R] 85)) := by
  obtain ⟨a1, a2, a3, a4⟩ := h.fa _ _ rfl
  obtain ⟨b1, b2, b3, b5⟩ := h.fb _ _ rfl
  obtain ⟨r1, r2⟩ := h.fr _ rfl
  exact mid_close h.p a2 b2 a1 b1 r1 (fun e => a3 (by rw [e])) (fun e => b3 (by rw [e])) r2

theorem Three.far {w : World} {b g : Nat} {x y z : Value} (h : Three w b x y z) (hne : b ≠ g) (p : Nat) (v : Value) : Three (w.setCell ⟨g, p, none⟩ v) b x y z :=
  h.apart (g := g) ⟨rfl, rfl, rfl, by simp [World.setCell], fun k _ hk => Below.heap_setCell _ _ _ _ (fun e => hk (by rw [e]))⟩ hne

/-- The table is made last, behind the grid that is laid whole. -/
theorem st_close_make {ga gb : Nat} {zs us : List Nat} (h : St w0 w b4 bm v u xs ys R N D (some (ga, zs)) (some (gb, us)) none none) :
    Mid w0 b4 xs ys R (.pointer (some ⟨w.heap.size, 0, none⟩)) ((w.alloc (.cells #[.slice (some ⟨ga, 0, none⟩) xs.length xs.length, .slice (some ⟨gb, 0, none⟩) ys.length ys.length, .slice (some ⟨w.heap.size + 1, 0, none⟩) R R] 85)).alloc (.cells (madeCells #[.int .u16 0] R) 92)) := by
  obtain ⟨a1, a2, a3, a4⟩ := h.fa _ _ rfl
  obtain ⟨b1, b2, b3, b5⟩ := h.fb _ _ rfl
  have la := own_lt a1
  have lb := own_lt b1
  have l4 := h.p.r.lt
  have T := Three.new w (sl ga xs.length) (sl gb ys.length) (sl (w.heap.size + 1) R) 85
  have p1 := h.p.alloc (.cells #[sl ga xs.length, sl gb ys.length, sl (w.heap.size + 1) R] 85)
  have hz : (w.alloc (.cells #[sl ga xs.length, sl gb ys.length, sl (w.heap.size + 1) R] 85)).heap.size = w.heap.size + 1 := by simp
  have m := made_row (w.alloc (.cells #[sl ga xs.length, sl gb ys.length, sl (w.heap.size + 1) R] 85)) (b4 + 1) R p1.r.lt h.hR
  rw [hz] at m
  exact ⟨w.heap.size, ga, gb, w.heap.size + 1, zs, us, D, rfl, h.p.good, a2, b2, T.below ((Below.refl _ _).alloc (Nat.le_refl _) _), (a1.alloc _).alloc _, (b1.alloc _).alloc _, m, (p1.alloc _).r, (p1.alloc _).g, by omega, by omega, by omega, by omega, h.p.l1⟩

/-- The table is made last, behind the grid that is written where it was laid. -/
theorem st_close_late {ga gb G : Nat} {zs us : List Nat} (h : St w0 w b4 bm v u xs ys R N D (some (ga, zs)) (some (gb, us)) none (some G)) :
    Mid w0 b4 xs ys R (.pointer (some ⟨G, 0, none⟩)) ((((w.setCell ⟨G, 0, none⟩ (.slice (some ⟨ga, 0, none⟩) xs.length xs.length)).setCell ⟨G, 1, none⟩ (.slice (some ⟨gb, 0, none⟩) ys.length ys.length)).setCell ⟨G, 2, none⟩ (.slice (some ⟨w.heap.size, 0, none⟩) R R)).alloc (.cells (madeCells #[.int .u16 0] R) 92)) := by
  obtain ⟨a1, a2, a3, a4⟩ := h.fa _ _ rfl
  obtain ⟨b1, b2, b3, b5⟩ := h.fb _ _ rfl
  obtain ⟨G1, G2, G3, G4⟩ := h.fG _ rfl
  have la := own_lt a1
  have lb := own_lt b1
  have lG := G1.lt
  have l4 := h.p.r.lt
  have hg := grown_fill w G (sl ga xs.length) (sl gb ys.length) (sl w.heap.size R)
  have hT := three_fill G1 (sl ga xs.length) (sl gb ys.length) (sl w.heap.size R)
  have hz : (((w.setCell ⟨G, 0, none⟩ (sl ga xs.length)).setCell ⟨G, 1, none⟩ (sl gb ys.length)).setCell ⟨G, 2, none⟩ (sl w.heap.size R)).heap.size = w.heap.size := by simp [World.setCell]
  have a5 := a1.kept hg (.inr (by simpa [Value.ownBlock] using fun e : ga = G => a4 (by rw [e])))
  have b6 := b1.kept hg (.inr (by simpa [Value.ownBlock] using fun e : gb = G => b5 (by rw [e])))
  have r6 := h.p.r.apart hg G4
  have g6 := h.p.g.grown hg h.p.g.size (fun k hk => by injection hk with hk; omega)
  have E := (Below.refl _ (((w.setCell ⟨G, 0, none⟩ (sl ga xs.length)).setCell ⟨G, 1, none⟩ (sl gb ys.length)).setCell ⟨G, 2, none⟩ (sl w.heap.size R))).alloc (Nat.le_refl _) (.cells (madeCells #[.int .u16 0] R) 92)
  have m := made_row (((w.setCell ⟨G, 0, none⟩ (sl ga xs.length)).setCell ⟨G, 1, none⟩ (sl gb ys.length)).setCell ⟨G, 2, none⟩ (sl w.heap.size R)) (b4 + 1) R r6.lt h.hR
  rw [hz] at m
  exact ⟨G, ga, gb, w.heap.size, zs, us, D, rfl, h.p.good, a2, b2, hT.below E, a5.alloc _, b6.alloc _, m, r6.below E, g6.trans (E.mono g6.size), by omega, by omega, by omega, by omega, h.p.l1⟩

end Go.Proofs.YtdpoeagmeiedcaaDoor
