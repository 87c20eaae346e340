/-
  take, the plain part: what stands while the chunk is laid.
-/
import Derived.Test.YtiefenfogjlnoaaDecide
namespace Go.Proofs.Ytiefenfogjlnoaa
open Go.RowKit

abbrev nilv : Value := .slice none 0 0

/-- The five cells written anew. -/
theorem five_fill {w : World} {X : Nat} {v0 v1 v2 v3 v4 : Value} (h : Five w X v0 v1 v2 v3 v4) (a b c d e : Value) : Five (((((w.setCell ⟨X, 0, none⟩ a).setCell ⟨X, 1, none⟩ b).setCell ⟨X, 2, none⟩ c).setCell ⟨X, 3, none⟩ d).setCell ⟨X, 4, none⟩ e) X a b c d e := by
  refine ⟨?_, ?_, ?_, ?_, set_same (u := v4) ?_, fun k => ?_, ?_⟩
  · rw [World.cell?_setCell_other _ _ _ _ (by simp), World.cell?_setCell_other _ _ _ _ (by simp), World.cell?_setCell_other _ _ _ _ (by simp), World.cell?_setCell_other _ _ _ _ (by simp)]; exact set_same h.c0
  · rw [World.cell?_setCell_other _ _ _ _ (by simp), World.cell?_setCell_other _ _ _ _ (by simp), World.cell?_setCell_other _ _ _ _ (by simp)]; exact set_same (by rw [World.cell?_setCell_other _ _ _ _ (by simp)]; exact h.c1)
  · rw [World.cell?_setCell_other _ _ _ _ (by simp), World.cell?_setCell_other _ _ _ _ (by simp)]; exact set_same (by rw [World.cell?_setCell_other _ _ _ _ (by simp), World.cell?_setCell_other _ _ _ _ (by simp)]; exact h.c2)
  · rw [World.cell?_setCell_other _ _ _ _ (by simp)]; exact set_same (by rw [World.cell?_setCell_other _ _ _ _ (by simp), World.cell?_setCell_other _ _ _ _ (by simp), World.cell?_setCell_other _ _ _ _ (by simp)]; exact h.c3)
  · rw [World.cell?_setCell_other _ _ _ _ (by simp), World.cell?_setCell_other _ _ _ _ (by simp), World.cell?_setCell_other _ _ _ _ (by simp), World.cell?_setCell_other _ _ _ _ (by simp)]; exact h.c4
  · simp [h.z k]
  · exact row_set (row_set (row_set (row_set (row_set h.row _ _) _ _) _ _) _ _) _ _

theorem fill_grown (w : World) (X : Nat) (a b c d e : Value) : w.grownBy (((((w.setCell ⟨X, 0, none⟩ a).setCell ⟨X, 1, none⟩ b).setCell ⟨X, 2, none⟩ c).setCell ⟨X, 3, none⟩ d).setCell ⟨X, 4, none⟩ e) (some X) :=
  ((((grown_store w X 0 a).trans (grown_store _ X 1 b)).trans (grown_store _ X 2 c)).trans (grown_store _ X 3 d)).trans (grown_store _ X 4 e)

theorem Five.apart {w w' : World} {X Y : Nat} {v0 v1 v2 v3 v4 : Value} (h : Five w X v0 v1 v2 v3 v4) (hg : w.grownBy w' (some Y)) (hne : X ≠ Y) : Five w' X v0 v1 v2 v3 v4 :=
  h.same (hg.block X h.lt (fun e => hne (Option.some.inj e)))
theorem Cutr.apart {w w' : World} {C Y : Nat} {v0 v1 v2 v3 v4 v5 v6 v7 v8 : Value} (h : Cutr w C v0 v1 v2 v3 v4 v5 v6 v7 v8) (hg : w.grownBy w' (some Y)) (hne : C ≠ Y) : Cutr w' C v0 v1 v2 v3 v4 v5 v6 v7 v8 := by
  have hb := hg.block C h.lt (fun e => hne (Option.some.inj e))
  have hc : ∀ k : Nat, w'.cell? ⟨C, k, none⟩ = w.cell? ⟨C, k, none⟩ := fun k => World.cell?_of_block (w := w) hb
  exact ⟨(hc 0).trans h.c0, (hc 1).trans h.c1, (hc 2).trans h.c2, (hc 3).trans h.c3, (hc 4).trans h.c4, (hc 5).trans h.c5, (hc 6).trans h.c6, (hc 7).trans h.c7, (hc 8).trans h.c8, fun k => (World.frozen?_of_block (w := w) hb).trans (h.z k), h.ty.same hb⟩

/-- What stands while the chunk is laid: the cutter, the three pieces, the copies so far, the block so far. -/
structure Tk (w0 w : World) (T C : Nat) (v0 v1 v2 v3 v4 v5 v6 v7 v8 u1 u2 u3 : Value) (l1 l2 l3 : List ByteArray) (o1 o2 o3 : Option Value) (oX : Option Nat) : Prop where
  q : Cutr w C v0 v1 v2 v3 v4 v5 v6 v7 v8
  a : Strs w u1 l1
  b : Strs w u2 l2
  d : Strs w u3 l3
  g : Below w0.heap.size w0 w
  cl : C < w0.heap.size
  tl : w0.heap.size ≤ T
  t : Five w T (.slice none 0 0) (.slice none 0 0) (.slice none 0 0) (.bool false) (.slice none 0 0)
  r1 : ∀ v, o1 = some v → w.ownsRow w0.heap.size 9 1 v l1.length (l1.map Value.string)
  r2 : ∀ v, o2 = some v → w.ownsRow w0.heap.size 9 1 v l2.length (l2.map Value.string)
  r3 : ∀ v, o3 = some v → w.ownsRow w0.heap.size 9 1 v l3.length (l3.map Value.string)
  x : ∀ X, oX = some X → w0.heap.size ≤ X ∧ T ≠ X ∧ Five w X (.slice none 0 0) (.slice none 0 0) (.slice none 0 0) (.bool false) (.slice none 0 0)

theorem tk_start {w : World} {C : Nat} {v0 v1 v2 v3 v4 v5 v6 v7 v8 u1 u2 u3 : Value} {l1 l2 l3 : List ByteArray} (h : Cutr w C v0 v1 v2 v3 v4 v5 v6 v7 v8) (a : Strs w u1 l1) (b : Strs w u2 l2) (d : Strs w u3 l3) :
    Tk w (w.alloc (.cells #[.slice none 0 0, .slice none 0 0, .slice none 0 0, .bool false, .slice none 0 0] 34)) w.heap.size C v0 v1 v2 v3 v4 v5 v6 v7 v8 u1 u2 u3 l1 l2 l3 none none none none := by
  have hb := (Below.refl w.heap.size w).alloc (Nat.le_refl _) (.cells #[.slice none 0 0, .slice none 0 0, .slice none 0 0, .bool false, .slice none 0 0] 34)
  exact ⟨h.below hb, a.below hb, b.below hb, d.below hb, hb, h.lt, Nat.le_refl _, Five.new w _ _ _ _ _, (fun v hv => by cases hv), (fun v hv => by cases hv), (fun v hv => by cases hv), (fun v hv => by cases hv)⟩

/-- The chunk is laid in a block of its own. -/
def TkMid (w0 : World) (T C : Nat) (v0 v1 v2 v3 v4 v5 v6 v7 v8 : Value) (l1 l2 l3 : List ByteArray) (v : Value) (w : World) : Prop :=
  ∃ (X : Nat) (A1 A2 A3 : Option Addr) (n1 n2 n3 c1 c2 c3 : Nat), v = .pointer (some ⟨X, 0, none⟩) ∧ w0.heap.size ≤ X ∧ T ≠ X ∧ Five w X (.slice A1 n1 c1) (.slice A2 n2 c2) (.slice A3 n3 c3) (.bool false) (.slice none 0 0) ∧
    w.ownsRow w0.heap.size 9 1 (.slice A1 n1 c1) l1.length (l1.map Value.string) ∧ w.ownsRow w0.heap.size 9 1 (.slice A2 n2 c2) l2.length (l2.map Value.string) ∧ w.ownsRow w0.heap.size 9 1 (.slice A3 n3 c3) l3.length (l3.map Value.string) ∧ Cutr w C v0 v1 v2 v3 v4 v5 v6 v7 v8 ∧ Below w0.heap.size w0 w ∧ C < w0.heap.size ∧ w0.heap.size ≤ T ∧ Five w T (.slice none 0 0) (.slice none 0 0) (.slice none 0 0) (.bool false) (.slice none 0 0)

section
variable {w0 w : World} {T C : Nat} {v0 v1 v2 v3 v4 v5 v6 v7 v8 u1 u2 u3 : Value} {l1 l2 l3 : List ByteArray} {o1 o2 o3 : Option Value} {oX : Option Nat}

theorem Tk.below {w' : World} (h : Tk w0 w T C v0 v1 v2 v3 v4 v5 v6 v7 v8 u1 u2 u3 l1 l2 l3 o1 o2 o3 oX) (hb : Below w.heap.size w w') : Tk w0 w' T C v0 v1 v2 v3 v4 v5 v6 v7 v8 u1 u2 u3 l1 l2 l3 o1 o2 o3 oX :=
  ⟨h.q.below hb, h.a.below hb, h.b.below hb, h.d.below hb, h.g.trans (hb.mono h.g.size), h.cl, h.tl, h.t.below hb, fun v hv => own_keep (h.r1 v hv) hb, fun v hv => own_keep (h.r2 v hv) hb, fun v hv => own_keep (h.r3 v hv) hb, fun X hX => ⟨(h.x X hX).1, (h.x X hX).2.1, (h.x X hX).2.2.below hb⟩⟩
theorem Tk.drew (h : Tk w0 w T C v0 v1 v2 v3 v4 v5 v6 v7 v8 u1 u2 u3 l1 l2 l3 o1 o2 o3 oX) : Tk w0 w.drew T C v0 v1 v2 v3 v4 v5 v6 v7 v8 u1 u2 u3 l1 l2 l3 o1 o2 o3 oX := h.below (Below.refl _ w).drew
theorem Tk.lay (h : Tk w0 w T C v0 v1 v2 v3 v4 v5 v6 v7 v8 u1 u2 u3 l1 l2 l3 o1 o2 o3 none) : Tk w0 (w.alloc (.cells #[.slice none 0 0, .slice none 0 0, .slice none 0 0, .bool false, .slice none 0 0] 34)) T C v0 v1 v2 v3 v4 v5 v6 v7 v8 u1 u2 u3 l1 l2 l3 o1 o2 o3 (some w.heap.size) := by
  have h1 := h.below ((Below.refl w.heap.size w).alloc (Nat.le_refl _) (.cells #[.slice none 0 0, .slice none 0 0, .slice none 0 0, .bool false, .slice none 0 0] 34))
  exact ⟨h1.q, h1.a, h1.b, h1.d, h1.g, h1.cl, h1.tl, h1.t, h1.r1, h1.r2, h1.r3, fun X hX => by obtain rfl := Option.some.inj hX; exact ⟨h.g.size, Nat.ne_of_lt h.t.lt, Five.new w _ _ _ _ _⟩⟩
theorem tk_call1 (h : Tk w0 w T C v0 v1 v2 v3 v4 v5 v6 v7 v8 u1 u2 u3 l1 l2 l3 none o2 o3 oX) (hl : l1.length ≤ 1000) : Calls Try.prog 37 #[u1] w fun e w' => ∃ v, e = .returned v ∧ Tk w0 w' T C v0 v1 v2 v3 v4 v5 v6 v7 v8 u1 u2 u3 l1 l2 l3 (some v) o2 o3 oX :=
  (clone_any w u1 l1 h.a (by omega)).mono fun e w' ⟨v, he, ho, hb⟩ => by
    have h1 := h.below hb
    exact ⟨v, he, h1.q, h1.a, h1.b, h1.d, h1.g, h1.cl, h1.tl, h1.t, fun u hu => by obtain rfl := Option.some.inj hu; exact own_le ho h.g.size, h1.r2, h1.r3, h1.x⟩
theorem tk_call2 (h : Tk w0 w T C v0 v1 v2 v3 v4 v5 v6 v7 v8 u1 u2 u3 l1 l2 l3 o1 none o3 oX) (hl : l2.length ≤ 1000) : Calls Try.prog 37 #[u2] w fun e w' => ∃ v, e = .returned v ∧ Tk w0 w' T C v0 v1 v2 v3 v4 v5 v6 v7 v8 u1 u2 u3 l1 l2 l3 o1 (some v) o3 oX :=
  (clone_any w u2 l2 h.b (by omega)).mono fun e w' ⟨v, he, ho, hb⟩ => by
    have h1 := h.below hb
    exact ⟨v, he, h1.q, h1.a, h1.b, h1.d, h1.g, h1.cl, h1.tl, h1.t, h1.r1, fun u hu => by obtain rfl := Option.some.inj hu; exact own_le ho h.g.size, h1.r3, h1.x⟩
theorem tk_call3 (h : Tk w0 w T C v0 v1 v2 v3 v4 v5 v6 v7 v8 u1 u2 u3 l1 l2 l3 o1 o2 none oX) (hl : l3.length ≤ 1000) : Calls Try.prog 37 #[u3] w fun e w' => ∃ v, e = .returned v ∧ Tk w0 w' T C v0 v1 v2 v3 v4 v5 v6 v7 v8 u1 u2 u3 l1 l2 l3 o1 o2 (some v) oX :=
  (clone_any w u3 l3 h.d (by omega)).mono fun e w' ⟨v, he, ho, hb⟩ => by
    have h1 := h.below hb
    exact ⟨v, he, h1.q, h1.a, h1.b, h1.d, h1.g, h1.cl, h1.tl, h1.t, h1.r1, h1.r2, fun u hu => by obtain rfl := Option.some.inj hu; exact own_le ho h.g.size, h1.x⟩

theorem Tk.sq (h : Tk w0 w T C v0 v1 v2 v3 v4 v5 v6 v7 v8 u1 u2 u3 l1 l2 l3 o1 o2 o3 oX) : w.cell? ⟨C, 0, none⟩ = some v0 ∧ w.cell? ⟨C, 1, none⟩ = some v1 ∧ w.cell? ⟨C, 2, none⟩ = some v2 ∧ w.cell? ⟨C, 5, none⟩ = some v5 ∧ w.cell? ⟨C, 6, none⟩ = some v6 ∧ w.cell? ⟨C, 7, none⟩ = some v7 := ⟨h.q.c0, h.q.c1, h.q.c2, h.q.c5, h.q.c6, h.q.c7⟩
theorem mid_sq {v : Value} (h : TkMid w0 T C v0 v1 v2 v3 v4 v5 v6 v7 v8 l1 l2 l3 v w) : w.cell? ⟨C, 0, none⟩ = some v0 ∧ w.cell? ⟨C, 1, none⟩ = some v1 ∧ w.cell? ⟨C, 2, none⟩ = some v2 ∧ w.cell? ⟨C, 5, none⟩ = some v5 ∧ w.cell? ⟨C, 6, none⟩ = some v6 ∧ w.cell? ⟨C, 7, none⟩ = some v7 := by
  obtain ⟨_, _, _, _, _, _, _, _, _, _, _, _, _, _, _, _, _, q, _⟩ := h
  exact ⟨q.c0, q.c1, q.c2, q.c5, q.c6, q.c7⟩

variable {A1 A2 A3 : Option Addr} {n1 n2 n3 c1 c2 c3 X : Nat}
theorem tk_close (h : Tk w0 w T C v0 v1 v2 v3 v4 v5 v6 v7 v8 u1 u2 u3 l1 l2 l3 (some (.slice A1 n1 c1)) (some (.slice A2 n2 c2)) (some (.slice A3 n3 c3)) (some X)) :
    TkMid w0 T C v0 v1 v2 v3 v4 v5 v6 v7 v8 l1 l2 l3 (.pointer (some ⟨X, 0, none⟩)) (((((w.setCell ⟨X, 0, none⟩ (.slice A1 n1 c1)).setCell ⟨X, 1, none⟩ (.slice A2 n2 c2)).setCell ⟨X, 2, none⟩ (.slice A3 n3 c3)).setCell ⟨X, 3, none⟩ (.bool false)).setCell ⟨X, 4, none⟩ (.slice none 0 0)) := by
  obtain ⟨x1, x2, x3⟩ := h.x X rfl
  have hg := fill_grown w X (.slice A1 n1 c1) (.slice A2 n2 c2) (.slice A3 n3 c3) (.bool false) (.slice none 0 0)
  exact ⟨X, A1, A2, A3, n1, n2, n3, c1, c2, c3, rfl, x1, x2, five_fill x3 _ _ _ _ _, (h.r1 _ rfl).kept hg (.inr (own_apart (h.r1 _ rfl) x3.ty (by decide))), (h.r2 _ rfl).kept hg (.inr (own_apart (h.r2 _ rfl) x3.ty (by decide))), (h.r3 _ rfl).kept hg (.inr (own_apart (h.r3 _ rfl) x3.ty (by decide))), h.q.apart hg (by have := h.cl; omega), h.g.grown hg h.g.size (fun k hk => by injection hk with hk; omega), h.cl, h.tl, h.t.apart hg x2⟩
theorem tk_close_whole (h : Tk w0 w T C v0 v1 v2 v3 v4 v5 v6 v7 v8 u1 u2 u3 l1 l2 l3 (some (.slice A1 n1 c1)) (some (.slice A2 n2 c2)) (some (.slice A3 n3 c3)) none) :
    TkMid w0 T C v0 v1 v2 v3 v4 v5 v6 v7 v8 l1 l2 l3 (.pointer (some ⟨w.heap.size, 0, none⟩)) (w.alloc (.cells #[.slice A1 n1 c1, .slice A2 n2 c2, .slice A3 n3 c3, .bool false, .slice none 0 0] 34)) := by
  have h1 := h.below ((Below.refl w.heap.size w).alloc (Nat.le_refl _) (.cells #[.slice A1 n1 c1, .slice A2 n2 c2, .slice A3 n3 c3, .bool false, .slice none 0 0] 34))
  exact ⟨w.heap.size, A1, A2, A3, n1, n2, n3, c1, c2, c3, rfl, h.g.size, Nat.ne_of_lt h.t.lt, Five.new w _ _ _ _ _, h1.r1 _ rfl, h1.r2 _ rfl, h1.r3 _ rfl, h1.q, h1.g, h1.cl, h1.tl, h1.t⟩
end

/-- The cutter goes on. -/
theorem Cutr.move {w : World} {C : Nat} {v0 v1 v2 v3 v4 v5 v6 v7 v8 : Value} (h : Cutr w C v0 v1 v2 v3 v4 v5 v6 v7 v8) (a b c : Value) : Cutr (((w.setCell ⟨C, 5, none⟩ a).setCell ⟨C, 6, none⟩ b).setCell ⟨C, 7, none⟩ c) C v0 v1 v2 v3 v4 a b c v8 := by
  have o : ∀ k : Nat, k ≠ 5 → k ≠ 6 → k ≠ 7 → (((w.setCell ⟨C, 5, none⟩ a).setCell ⟨C, 6, none⟩ b).setCell ⟨C, 7, none⟩ c).cell? ⟨C, k, none⟩ = w.cell? ⟨C, k, none⟩ := fun k h5 h6 h7 => by
    rw [World.cell?_setCell_other _ _ _ _ (by simp), World.cell?_setCell_other _ _ _ _ (by simp), World.cell?_setCell_other _ _ _ _ (by simp)]
  refine ⟨(o 0 (by omega) (by omega) (by omega)).trans h.c0, (o 1 (by omega) (by omega) (by omega)).trans h.c1, (o 2 (by omega) (by omega) (by omega)).trans h.c2, (o 3 (by omega) (by omega) (by omega)).trans h.c3, (o 4 (by omega) (by omega) (by omega)).trans h.c4, ?_, ?_, set_same (u := v7) ?_, (o 8 (by omega) (by omega) (by omega)).trans h.c8, fun k => by simp [h.z k], ((h.ty.set _ _ _).set _ _ _).set _ _ _⟩
  · rw [World.cell?_setCell_other _ _ _ _ (by simp), World.cell?_setCell_other _ _ _ _ (by simp)]; exact set_same h.c5
  · rw [World.cell?_setCell_other _ _ _ _ (by simp)]; exact set_same (u := v6) (by rw [World.cell?_setCell_other _ _ _ _ (by simp)]; exact h.c6)
  · rw [World.cell?_setCell_other _ _ _ _ (by simp), World.cell?_setCell_other _ _ _ _ (by simp)]; exact h.c7

/-- What take answers: the chunk, undecided; the cutter stands behind it. -/
def Taken (w : World) (C : Nat) (v0 v1 v2 v3 v4 v8 : Value) (i2 j2 k2 : Nat) (l1 l2 l3 : List ByteArray) (e : Ending) (w' : World) : Prop :=
  ∃ (A1 A2 A3 : Option Addr) (n1 n2 n3 c1 c2 c3 : Nat), e = .returned (.agg #[.slice A1 n1 c1, .slice A2 n2 c2, .slice A3 n3 c3, .bool false, .slice none 0 0]) ∧
    w'.ownsRow w.heap.size 9 1 (.slice A1 n1 c1) l1.length (l1.map Value.string) ∧ w'.ownsRow w.heap.size 9 1 (.slice A2 n2 c2) l2.length (l2.map Value.string) ∧ w'.ownsRow w.heap.size 9 1 (.slice A3 n3 c3) l3.length (l3.map Value.string) ∧
    Cutr w' C v0 v1 v2 v3 v4 (.int .i64 (i2 : Int)) (.int .i64 (j2 : Int)) (.int .i64 (k2 : Int)) v8 ∧ w.grownBy w' (some C)

theorem fill_row {w : World} {T : Nat} {v0 v1 v2 v3 v4 a b c d e : Value} (h : Five w T v0 v1 v2 v3 v4) : (((((w.setCell ⟨T, 0, none⟩ a).setCell ⟨T, 1, none⟩ b).setCell ⟨T, 2, none⟩ c).setCell ⟨T, 3, none⟩ d).setCell ⟨T, 4, none⟩ e).heap[T]? = some (.cells #[a, b, c, d, e] 34 (0, 0)) :=
  row_set (row_set (row_set (row_set (row_set h.row _ _) _ _) _ _) _ _) _ _

theorem taken_close {w wx : World} {T C : Nat} {v0 v1 v2 v3 v4 v5 v6 v7 v8 : Value} {l1 l2 l3 : List ByteArray} {A1 A2 A3 : Option Addr} {n1 n2 n3 c1 c2 c3 : Nat} (i2 j2 k2 : Nat)
    (o1 : wx.ownsRow w.heap.size 9 1 (.slice A1 n1 c1) l1.length (l1.map Value.string)) (o2 : wx.ownsRow w.heap.size 9 1 (.slice A2 n2 c2) l2.length (l2.map Value.string)) (o3 : wx.ownsRow w.heap.size 9 1 (.slice A3 n3 c3) l3.length (l3.map Value.string))
    (q : Cutr wx C v0 v1 v2 v3 v4 v5 v6 v7 v8) (g : Below w.heap.size w wx) (hC : C < w.heap.size) (hT : w.heap.size ≤ T) (t : Five wx T (.slice none 0 0) (.slice none 0 0) (.slice none 0 0) (.bool false) (.slice none 0 0)) :
    Taken w C v0 v1 v2 v3 v4 v8 i2 j2 k2 l1 l2 l3 (.returned (.agg #[.slice A1 n1 c1, .slice A2 n2 c2, .slice A3 n3 c3, .bool false, .slice none 0 0]))
      ((((((((wx.setCell ⟨C, 5, none⟩ (.int .i64 (i2 : Int))).setCell ⟨C, 6, none⟩ (.int .i64 (j2 : Int))).setCell ⟨C, 7, none⟩ (.int .i64 (k2 : Int))).setCell ⟨T, 0, none⟩ (.slice A1 n1 c1)).setCell ⟨T, 1, none⟩ (.slice A2 n2 c2)).setCell ⟨T, 2, none⟩ (.slice A3 n3 c3)).setCell ⟨T, 3, none⟩ (.bool false)).setCell ⟨T, 4, none⟩ (.slice none 0 0)) := by
  have q1 := q.move (.int .i64 (i2 : Int)) (.int .i64 (j2 : Int)) (.int .i64 (k2 : Int))
  have g1 : wx.grownBy (((wx.setCell ⟨C, 5, none⟩ (.int .i64 (i2 : Int))).setCell ⟨C, 6, none⟩ (.int .i64 (j2 : Int))).setCell ⟨C, 7, none⟩ (.int .i64 (k2 : Int))) (some C) := ((grown_store wx C 5 _).trans (grown_store _ C 6 _)).trans (grown_store _ C 7 _)
  have t1 := t.apart g1 (by omega)
  have a1 := o1.kept g1 (.inr (own_apart o1 q.ty (by decide)))
  have a2 := o2.kept g1 (.inr (own_apart o2 q.ty (by decide)))
  have a3 := o3.kept g1 (.inr (own_apart o3 q.ty (by decide)))
  have hs := g.size
  generalize (((wx.setCell ⟨C, 5, none⟩ (.int .i64 (i2 : Int))).setCell ⟨C, 6, none⟩ (.int .i64 (j2 : Int))).setCell ⟨C, 7, none⟩ (.int .i64 (k2 : Int))) = w1 at *
  have g2 := fill_grown w1 T (.slice A1 n1 c1) (.slice A2 n2 c2) (.slice A3 n3 c3) (.bool false) (.slice none 0 0)
  refine ⟨A1, A2, A3, n1, n2, n3, c1, c2, c3, rfl, a1.kept g2 (.inr (own_apart a1 t1.ty (by decide))), a2.kept g2 (.inr (own_apart a2 t1.ty (by decide))), a3.kept g2 (.inr (own_apart a3 t1.ty (by decide))), q1.apart g2 (by omega), ?_⟩
  have g3 := (grown_below g (some C)).trans g1
  exact ⟨g2.os.trans g3.os, g2.tape.trans g3.tape, g2.output.trans g3.output, Nat.le_trans g3.size g2.size, fun k hk hne => (g2.block k (Nat.lt_of_lt_of_le hk g3.size) (fun e => by injection e with e; omega)).trans (g3.block k hk hne)⟩

end Go.Proofs.Ytiefenfogjlnoaa
