/-
  rectoref11.common: the document's own table of the longest common rows.
  rectoref11.common: its contract.
  rectoref11.common: the walk.
-/
import Derived.Test.YtapcnmnnichamaaGreatDoorKMem
import Derived.Test.YtapcnmnnichamaaGreatDoorVA
import Derived.StillTailTactics
import Derived.BigRegion
import Derived.Deep.OwnRows
import Derived.BigQuiet

namespace Go.Proofs.YtapcnmnnichamaaGreatDoor.Mg
open Go Go.RowKit

/-- What the table has at a place. -/
def cT (xs ys : List ByteArray) (i j : Nat) : Nat := lc (xs.drop i) (ys.drop j)
theorem cT_end_a (xs ys : List ByteArray) (j : Nat) : cT xs ys xs.length j = 0 := by unfold cT; rw [List.drop_length]; rfl
theorem cT_end_b (xs ys : List ByteArray) (i : Nat) : cT xs ys i ys.length = 0 := by unfold cT; rw [List.drop_length, lc_nil_right]
theorem cT_le (xs ys : List ByteArray) (i j : Nat) : cT xs ys i j ≤ ys.length := by
  unfold cT
  refine Nat.le_trans (lc_le_right _ _) ?_
  rw [List.length_drop]; omega
theorem lc_near {α : Type} [DecidableEq α] : ∀ (n : Nat) (xs ys : List α), xs.length + ys.length ≤ n → (∀ y, lc xs ys ≤ lc xs (y :: ys)) ∧ (∀ x, lc (x :: xs) ys ≤ lc xs ys + 1) := by
  intro n
  induction n with
  | zero =>
    intro xs ys h
    have h1 : xs = [] := List.eq_nil_of_length_eq_zero (by omega)
    have h2 : ys = [] := List.eq_nil_of_length_eq_zero (by omega)
    subst h1; subst h2
    exact ⟨fun y => Nat.zero_le _, fun x => by rw [lc_nil_right]; omega⟩
  | succ n ih =>
    intro xs ys h
    constructor
    · intro y
      cases xs with
      | nil => exact Nat.zero_le _
      | cons z xs =>
        rw [lc_cons]
        split
        · exact (ih xs ys (by simp only [List.length_cons] at h; omega)).2 z
        · exact Nat.le_max_right _ _
    · intro x
      cases ys with
      | nil => rw [lc_nil_right]; omega
      | cons y ys =>
        have hi := ih xs ys (by simp only [List.length_cons] at h; omega)
        have h1 := hi.1 y
        have h2 := hi.2 x
        rw [lc_cons]
        split
        · omega
        · exact Nat.max_le.2 ⟨by omega, by omega⟩
/-- What the table's rule makes of its neighbours. -/
theorem cT_step {xs ys : List ByteArray} {i j : Nat} {x y : ByteArray} (hx : xs[i]? = some x) (hy : ys[j]? = some y) :
    cT xs ys i j = if x = y ∧ max (cT xs ys (i + 1) j) (cT xs ys i (j + 1)) < cT xs ys (i + 1) (j + 1) + 1 then cT xs ys (i + 1) (j + 1) + 1 else max (cT xs ys (i + 1) j) (cT xs ys i (j + 1)) := by
  have hs := lc_step hx hy
  obtain ⟨hi, rfl⟩ := List.getElem?_eq_some_iff.1 hx
  obtain ⟨hj, rfl⟩ := List.getElem?_eq_some_iff.1 hy
  have n1 := (lc_near _ (xs.drop (i + 1)) (ys.drop (j + 1)) (Nat.le_refl _)).2 xs[i]
  have n2 := (lc_near _ (ys.drop (j + 1)) (xs.drop (i + 1)) (Nat.le_refl _)).2 ys[j]
  rw [← List.drop_eq_getElem_cons hi] at n1
  rw [← List.drop_eq_getElem_cons hj, lc_symm, lc_symm (ys.drop (j + 1))] at n2
  unfold cT
  rw [hs]
  by_cases e : xs[i] = ys[j]
  · rw [if_pos e]
    by_cases h : max (lc (xs.drop (i + 1)) (ys.drop j)) (lc (xs.drop i) (ys.drop (j + 1))) < lc (xs.drop (i + 1)) (ys.drop (j + 1)) + 1
    · rw [if_pos ⟨e, h⟩]
    · rw [if_neg (fun c => h c.2)]
      have := Nat.max_le.2 ⟨n2, n1⟩
      omega
  · rw [if_neg e, if_neg (fun c => e c.1)]

/-- A row of the table, told by a function. -/
def RowF (w : World) (g M : Nat) (F : Nat → Nat) : Prop := ∃ cs : Array Value, Blk w g 3 cs ∧ cs.size = M ∧ ∀ t, t < M → cs[t]? = some (.int .i64 (F t : Int))
theorem RowF.below {w w' : World} {g M : Nat} {F : Nat → Nat} (h : RowF w g M F) (hb : Below w.heap.size w w') : RowF w' g M F := by
  obtain ⟨cs, hc, h1, h2⟩ := h
  exact ⟨cs, hc.below hb hc.lt, h1, h2⟩
theorem RowF.cell {w : World} {g M : Nat} {F : Nat → Nat} (h : RowF w g M F) {t : Nat} (ht : t < M) : w.cell? ⟨g, t, none⟩ = some (.int .i64 (F t : Int)) := by
  obtain ⟨cs, hc, _, h2⟩ := h
  rw [hc.cell]; exact h2 t ht
/-- All but block g stands. -/
structure But (wi w : World) (g : Nat) : Prop where
  os : w.os = wi.os
  tape : w.tape = wi.tape
  output : w.output = wi.output
  size : w.heap.size = wi.heap.size
  oth : ∀ k, k ≠ g → w.heap[k]? = wi.heap[k]?
theorem But.refl (w : World) (g : Nat) : But w w g := ⟨rfl, rfl, rfl, rfl, fun _ _ => rfl⟩
theorem But.drewN {wi w : World} {g : Nat} (h : But wi w g) (n : Nat) : But wi (w.drewN n) g := ⟨h.os, h.tape, h.output, h.size, h.oth⟩
theorem But.drew {wi w : World} {g : Nat} (h : But wi w g) : But wi w.drew g := ⟨h.os, h.tape, h.output, h.size, h.oth⟩
theorem But.set_ {wi w : World} {g : Nat} (h : But wi w g) (i : Nat) (v : Value) : But wi (w.setCell ⟨g, i, none⟩ v) g :=
  ⟨h.os, h.tape, h.output, by rw [← h.size]; simp, fun k hk => (Below.heap_setCell w _ v k hk).trans (h.oth k hk)⟩
theorem But.cell {wi w : World} {g : Nat} (h : But wi w g) {p : Addr} (hp : p.block ≠ g) : w.cell? p = wi.cell? p := by
  simp only [World.cell?]
  rw [h.oth _ hp]
theorem But.blk {wi w : World} {g k : Nat} {t : TypeId} {cs : Array Value} (h : But wi w g) (hb : Blk wi k t cs) (hk : k ≠ g) : Blk w k t cs := (h.oth k hk).trans hb
theorem But.below {wi w : World} {g B : Nat} (h : But wi w g) (hB : B ≤ g) : Below B wi w := ⟨h.os, h.tape, h.output, by rw [h.size]; exact Nat.le_refl _, fun k hk => h.oth k (by omega)⟩
end Go.Proofs.YtapcnmnnichamaaGreatDoor.Mg

namespace Go.Proofs.YtapcnmnnichamaaGreatDoor.Mg
open Go Go.RowKit

theorem rowsInfo : (Tryz.prog.info? 187).map (fun i => (i.zero, i.size, i.bytes)) = some (some (.slice none 0 0), 1, 24) := by kernel_rfl
theorem intInfoC : (Tryz.prog.info? 3).map (fun i => (i.zero, i.size, i.bytes)) = some (some (.int .i64 0), 1, 8) := by kernel_rfl

/-- The table's rows, from k on. -/
def topV (G n m k : Nat) : Nat → Value := fun t => if k ≤ t then .slice (some ⟨G + 1 + (n - t), 0, none⟩) (m + 1) (m + 1) else .slice none 0 0
/-- The table, its rows from k on filled. -/
structure OutT (w wr : World) (G : Nat) (xs ys : List ByteArray) (k : Nat) : Prop where
  since : w.Since G wr
  size : wr.heap.size = G + 1 + (xs.length + 1 - k)
  top : wr.rowIs G 187 (xs.length + 1) (topV G xs.length ys.length k)
  done : ∀ t, k ≤ t → t ≤ xs.length → wr.rowIs (G + 1 + (xs.length - t)) 3 (ys.length + 1) (fun j => .int .i64 (cT xs ys t j))
/-- .. and row p made, filled behind q, v at q. -/
structure InnT (w wi : World) (G : Nat) (xs ys : List ByteArray) (p q : Nat) (v : Nat) : Prop where
  since : w.Since G wi
  size : wi.heap.size = G + 1 + (xs.length + 1 - p)
  top : wi.rowIs G 187 (xs.length + 1) (topV G xs.length ys.length p)
  done : ∀ t, p + 1 ≤ t → t ≤ xs.length → wi.rowIs (G + 1 + (xs.length - t)) 3 (ys.length + 1) (fun j => .int .i64 (cT xs ys t j))
  cur : wi.rowIs (G + 1 + (xs.length - p)) 3 (ys.length + 1) (fun j => .int .i64 ((if q + 1 ≤ j then cT xs ys p j else if j = q then v else 0 : Nat) : Int))
theorem OutT.start (w : World) (xs ys : List ByteArray) : OutT w (w.alloc (.cells (madeCells #[.slice none 0 0] (xs.length + 1)) 187)) w.heap.size xs ys (xs.length + 1) :=
  ⟨(World.Since.refl _ _).alloc (Nat.le_refl _) _, by simp, (World.rowIs_made w _ (xs.length + 1) 187).congr (fun j hj => by simp only [topV]; rw [if_neg (by omega)]), fun t h1 h2 => by omega⟩
theorem OutT.drewN {w wr : World} {G : Nat} {xs ys : List ByteArray} {k : Nat} (h : OutT w wr G xs ys k) (n : Nat) : OutT w (wr.drewN n) G xs ys k :=
  ⟨⟨h.since.os, h.since.tape, h.since.output, h.since.size, h.since.block⟩, h.size, h.top, h.done⟩
theorem InnT.drewN {w wr : World} {G : Nat} {xs ys : List ByteArray} {p q v : Nat} (h : InnT w wr G xs ys p q v) (n : Nat) : InnT w (wr.drewN n) G xs ys p q v :=
  ⟨⟨h.since.os, h.since.tape, h.since.output, h.since.size, h.since.block⟩, h.size, h.top, h.done, h.cur⟩
theorem InnT.drew {w wr : World} {G : Nat} {xs ys : List ByteArray} {p q v : Nat} (h : InnT w wr G xs ys p q v) : InnT w wr.drew G xs ys p q v :=
  ⟨h.since.drew, h.size, h.top, h.done, h.cur⟩
theorem InnT.start {w wr : World} {G : Nat} {xs ys : List ByteArray} {p : Nat} (h : OutT w wr G xs ys (p + 1)) (hp : p ≤ xs.length) :
    InnT w ((wr.alloc (.cells (madeCells #[.int .i64 0] (ys.length + 1)) 3)).setCell ⟨G, p, none⟩ (.slice (some ⟨wr.heap.size, 0, none⟩) (ys.length + 1) (ys.length + 1))) G xs ys p ys.length 0 := by
  have hnew := World.rowIs_made wr (.int .i64 0) (ys.length + 1) 3
  have hsz : wr.heap.size = G + 1 + (xs.length - p) := by rw [h.size]; omega
  rw [hsz] at hnew ⊢
  refine ⟨(h.since.alloc (by rw [h.size]; omega) _).setCell (Nat.le_refl _) _, by simp [h.size]; omega, ((h.top.alloc _).set p _).congr (fun t ht => ?_), fun t h1 h2 => ((h.done t h1 h2).alloc _).setOther (by show G + 1 + (xs.length - t) ≠ G; omega) _,
    (hnew.setOther (by show G + 1 + (xs.length - p) ≠ G; omega) _).congr (fun j hj => ?_)⟩
  · simp only [topV]
    by_cases e : t = p
    · subst e; simp
    · rw [if_neg e]
      by_cases hlt : p + 1 ≤ t
      · rw [if_pos hlt, if_pos (by omega)]
      · rw [if_neg hlt, if_neg (by omega)]
  · rw [if_neg (by omega)]
    simp
theorem InnT.store {w wi : World} {G : Nat} {xs ys : List ByteArray} {p q v : Nat} (h : InnT w wi G xs ys p q v) (hp : p ≤ xs.length) (u : Nat) :
    InnT w (wi.setCell ⟨G + 1 + (xs.length - p), q, none⟩ (.int .i64 (u : Int))) G xs ys p q u :=
  ⟨h.since.setCell (by show G ≤ G + 1 + (xs.length - p); omega) _, by simp [h.size], h.top.setOther (by show G ≠ G + 1 + (xs.length - p); omega) _,
    fun t h1 h2 => (h.done t h1 h2).setOther (by show G + 1 + (xs.length - t) ≠ G + 1 + (xs.length - p); omega) _,
    (h.cur.set q _).congr (fun j hj => by
      by_cases e : j = q
      · subst e; rw [if_pos rfl, if_neg (by omega), if_pos rfl]
      · rw [if_neg e, if_neg e, if_neg e])⟩
theorem InnT.next {w wi : World} {G : Nat} {xs ys : List ByteArray} {p q v : Nat} (h : InnT w wi G xs ys p (q + 1) v) (hv : v = cT xs ys p (q + 1)) : InnT w wi G xs ys p q 0 :=
  ⟨h.since, h.size, h.top, h.done, h.cur.congr (fun j hj => by
    by_cases e : j = q + 1
    · subst e; subst hv; rw [if_neg (by omega), if_pos rfl, if_pos (by omega)]
    · by_cases e2 : q + 1 + 1 ≤ j
      · rw [if_pos e2, if_pos (by omega)]
      · rw [if_neg e2, if_neg e, if_neg (by omega)]; simp)⟩
theorem InnT.done_ {w wi : World} {G : Nat} {xs ys : List ByteArray} {p v : Nat} (h : InnT w wi G xs ys p 0 v) (hv : v = cT xs ys p 0) : OutT w wi G xs ys p :=
  ⟨h.since, h.size, h.top, fun t h1 h2 => by
    by_cases e : t = p
    · subst e
      exact h.cur.congr (fun j hj => by
        by_cases e : j = 0
        · subst e; subst hv; rw [if_neg (by omega), if_pos rfl]
        · rw [if_pos (by omega)])
    · exact h.done t (by omega) h2⟩
theorem InnT.last {w wi : World} {G : Nat} {xs ys : List ByteArray} {q v : Nat} (h : InnT w wi G xs ys xs.length q v) (hv : v = cT xs ys xs.length q) : OutT w wi G xs ys xs.length :=
  ⟨h.since, h.size, h.top, fun t h1 h2 => by
    obtain rfl : t = xs.length := by omega
    exact h.cur.congr (fun j hj => by
      simp only [cT_end_a] at hv ⊢
      subst hv
      split
      · rfl
      · split <;> rfl)⟩
/-- What stands in the cells at (p, q). -/
theorem InnT.rowP {w wi : World} {G : Nat} {xs ys : List ByteArray} {p q v : Nat} (h : InnT w wi G xs ys p q v) (hp : p ≤ xs.length) : wi.cell? ⟨G, p, none⟩ = some (.slice (some ⟨G + 1 + (xs.length - p), 0, none⟩) (ys.length + 1) (ys.length + 1)) := by
  rw [h.top.cell (by omega)]; simp only [topV]; rw [if_pos (Nat.le_refl _)]
theorem InnT.rowS {w wi : World} {G : Nat} {xs ys : List ByteArray} {p q v : Nat} (h : InnT w wi G xs ys p q v) (hp : p < xs.length) : wi.cell? ⟨G, p + 1, none⟩ = some (.slice (some ⟨G + 1 + (xs.length - (p + 1)), 0, none⟩) (ys.length + 1) (ys.length + 1)) := by
  rw [h.top.cell (by omega)]; simp only [topV]; rw [if_pos (by omega)]
theorem InnT.at_ {w wi : World} {G : Nat} {xs ys : List ByteArray} {p q v : Nat} (h : InnT w wi G xs ys p q v) (hq : q ≤ ys.length) : wi.cell? ⟨G + 1 + (xs.length - p), q, none⟩ = some (.int .i64 (v : Int)) := by
  rw [h.cur.cell (by omega), if_neg (by omega), if_pos rfl]
theorem InnT.right {w wi : World} {G : Nat} {xs ys : List ByteArray} {p q v : Nat} (h : InnT w wi G xs ys p q v) (hq : q < ys.length) : wi.cell? ⟨G + 1 + (xs.length - p), q + 1, none⟩ = some (.int .i64 (cT xs ys p (q + 1) : Int)) := by
  rw [h.cur.cell (by omega), if_pos (by omega)]
theorem InnT.under {w wi : World} {G : Nat} {xs ys : List ByteArray} {p q v : Nat} (h : InnT w wi G xs ys p q v) (hp : p < xs.length) {j : Nat} (hj : j ≤ ys.length) : wi.cell? ⟨G + 1 + (xs.length - (p + 1)), j, none⟩ = some (.int .i64 (cT xs ys (p + 1) j : Int)) :=
  (h.done (p + 1) (Nat.le_refl _) (by omega)).cell (by omega)

/-- The whole table. -/
def Tabled (w : World) (xs ys : List ByteArray) (e : Ending) (w' : World) : Prop :=
  ∃ G, e = .returned (.slice (some ⟨G, 0, none⟩) (xs.length + 1) (xs.length + 1)) ∧ w.heap.size ≤ G ∧ OutT w w' G xs ys 0 ∧ Below w.heap.size w w'
end Go.Proofs.YtapcnmnnichamaaGreatDoor.Mg

namespace Go.Proofs.YtapcnmnnichamaaGreatDoor.Mg
open Go Go.RowKit Go.Maps Go.WideMaps

set_option maxRecDepth 100000 in
set_option maxHeartbeats 2000000 in
theorem refCommon_tab (w : World) (v u : Value) (xs ys : List ByteArray) (h : Strs w v xs) (g : Strs w u ys) (hxl : xs.length ≤ 256) (hyl : ys.length ≤ 256) :
    Calls Tryz.prog 135 #[v, u] w (Tabled w xs ys) := by
  obtain ⟨A, n0, c, rfl⟩ := h.form
  obtain ⟨B, m0, d, rfl⟩ := g.form
  obtain rfl := h.len.1
  obtain rfl := g.len.1
  obtain ⟨N, hN⟩ : ∃ N, N = xs.length + 1 := ⟨_, rfl⟩
  obtain ⟨M, hM⟩ : ∃ M, M = ys.length + 1 := ⟨_, rfl⟩
  have e1 : IntKind.i64.wrap ((xs.length : Int) + 1) = (N : Int) := by rw [hN]; exact IntWalk.i64_in _ (by omega)
  have e2 : IntKind.i64.wrap ((ys.length : Int) + 1) = (M : Int) := by rw [hM]; exact IntWalk.i64_in _ (by omega)
  have mk1 := fun W => run_make_row' (P := Tryz.prog) 221 187 (.slice none 0 0) 24 Tryz.underlying221 rowsInfo rfl .i64 .i64 N (by omega) (by omega) W
  have S0 := Lib.hid (OutT.start w xs ys)
  rw [← hN] at S0
  have HN := Lib.hid hN
  have HM := Lib.hid hM
  have H0 := Lib.hid h
  have G0 := Lib.hid g
  clear h g hN hM
  go_enter Tryz.func135, Tryz.ntmps135
  go_wp2_with fail
  obtain ⟨G, hG⟩ : ∃ G, G = w.heap.size := ⟨_, rfl⟩
  rw [← hG] at S0 ⊢
  have HG := Lib.hid hG
  clear hG mk1
  go_loopw [6, 7] (fun s6 _ wr => ∃ (k : Nat) (z : Int), k ≤ xs.length + 1 ∧ s6 = .int .i64 z ∧ Hid (z = (k : Int) - 1) ∧ Hid (OutT w wr G xs ys k)) (fun s6 _ _ => (intOf s6 + 1).toNat)
  case atStart => exact ⟨xs.length + 1, _, Nat.le_refl _, rfl, (by show (_ : Int) = _; omega), by rw [← HN.out]; exact S0⟩
  case round =>
    clear S0
    obtain ⟨k, z, hk, rfl, hz, hO⟩ := hrel
    by_cases hk0 : k = 0
    · subst hk0
      obtain rfl : z = -1 := by have := hz.out; omega
      go_wp2
      go_ret
      have hO1 := hO.out
      exact ⟨G, by rw [HN.out]; rfl, by rw [HG.out]; exact Nat.le_refl _, hO1, by rw [← HG.out]; exact ⟨hO1.since.os, hO1.since.tape, hO1.since.output, hO1.since.size, hO1.since.block⟩⟩
    · obtain ⟨p, rfl⟩ : ∃ p, k = p + 1 := ⟨k - 1, by omega⟩
      obtain rfl : z = (p : Int) := by have := hz.out; omega
      have hp : p ≤ xs.length := by omega
      have hp0 : (0 : Int) ≤ (p : Int) := Int.natCast_nonneg _
      have hpN : (p : Int) < (N : Int) := by have := HN.out; omega
      have mk2 := run_make_row' (P := Tryz.prog) 187 3 (.int .i64 0) 8 Tryz.underlying187 intInfoC rfl .i64 .i64 M (by have := HM.out; omega) (by have := HM.out; omega) wr
      have st1 : (wr.alloc (.cells (madeCells #[.int .i64 0] M) 3)).cell? ⟨G, p, none⟩ = some (topV G xs.length ys.length (p + 1) p) := (hO.out.top.alloc _).cell (by omega)
      have st2 : (wr.alloc (.cells (madeCells #[.int .i64 0] M) 3)).frozen? ⟨G, p, none⟩ = false := (hO.out.top.alloc _).frozen p
      have S1 := Lib.hid (InnT.start hO.out hp)
      rw [← HM.out] at S1
      clear hO
      go_wp2_with fail
      clear mk2 st1 st2
      generalize (wr.alloc (.cells (madeCells #[.int .i64 0] M) 3)).setCell ⟨G, p, none⟩ (.slice (some ⟨wr.heap.size, 0, none⟩) M M) = wi0 at S1 ⊢
      go_loopw [7] (fun s7 wi => ∃ (q : Nat) (z : Int), q ≤ ys.length ∧ s7 = .int .i64 z ∧ Hid (z = (q : Int) - 1) ∧ Hid (InnT w wi G xs ys p q (cT xs ys p q))) (fun s7 _ => (intOf s7 + 1).toNat)
      case atStart => exact ⟨ys.length, _, Nat.le_refl _, rfl, rfl, by rw [cT_end_b]; exact S1⟩
      case round =>
        clear S1
        obtain ⟨wi, hwi⟩ : ∃ wi : World, wi = wr := ⟨_, rfl⟩
        rw [← hwi] at hrel ⊢
        clear hwi
        obtain ⟨q, z, hq, rfl, hz2, hI⟩ := hrel
        by_cases hq0 : q = 0
        · subst hq0
          obtain rfl : z = -1 := by have := hz2.out; omega
          have hO := InnT.done_ hI.out rfl
          go_wp2
          go_roundw
          case rel => exact ⟨p, _, by omega, rfl, rfl, hO⟩
          case measure => simp [intOf]
        · obtain ⟨j, rfl⟩ : ∃ j, q = j + 1 := ⟨q - 1, by omega⟩
          obtain rfl : z = (j : Int) := by have := hz2.out; omega
          have hj0 : (0 : Int) ≤ (j : Int) := Int.natCast_nonneg _
          have hjM : (j : Int) < (M : Int) := by have := HM.out; omega
          by_cases hpl : p < xs.length
          · have hpl1 : (p : Int) < (xs.length : Int) := by omega
            have hpN1 : (p : Int) + 1 < (N : Int) := by have := HN.out; omega
            have hjM1 : (j : Int) + 1 < (M : Int) := by have := HM.out; omega
            have hsp : IntKind.i64.wrap ((p : Int) + 1) = (p : Int) + 1 := IntWalk.i64_in _ (by omega)
            have hsj : IntKind.i64.wrap ((j : Int) + 1) = (j : Int) + 1 := IntWalk.i64_in _ (by omega)
            obtain ⟨s, hs⟩ : ∃ s, xs[p]? = some s := ⟨_, List.getElem?_eq_getElem (by omega)⟩
            obtain ⟨t, ht⟩ : ∃ t, ys[j]? = some t := ⟨_, List.getElem?_eq_getElem (by omega)⟩
            have hstep := Lib.hid (cT_step hs ht)
            have HS := Lib.hid hs
            have HT := Lib.hid ht
            have b12 := cT_le xs ys (p + 1) (j + 1)
            have b1 := cT_le xs ys (p + 1) j
            have b2 := cT_le xs ys p (j + 1)
            have I0 := Lib.hid (InnT.next hI.out rfl)
            have P0 := I0.out.rowP hp
            have P1 := I0.out.rowS hpl
            have P2 := I0.out.under hpl (show j ≤ ys.length by omega)
            have P3 : wi.cell? ⟨G + 1 + (xs.length - p), j, none⟩ = some (.int .i64 0) := I0.out.at_ (show j ≤ ys.length by omega)
            have P4 := I0.out.cur.frozen j
            have HI := Lib.hid I0
            clear hs ht hI
            rw [← HM.out] at P0 P1
            obtain ⟨c1, hc1⟩ : ∃ c, c = cT xs ys (p + 1) j := ⟨_, rfl⟩
            obtain ⟨c2, hc2⟩ : ∃ c, c = cT xs ys p (j + 1) := ⟨_, rfl⟩
            obtain ⟨c12, hc12⟩ : ∃ c, c = cT xs ys (p + 1) (j + 1) := ⟨_, rfl⟩
            rw [← hc1] at P2 b1
            rw [← hc2] at b2
            rw [← hc12] at b12
            rw [← hc1, ← hc2, ← hc12] at hstep
            have HC1 := Lib.hid hc1
            have HC2 := Lib.hid hc2
            have HC12 := Lib.hid hc12
            clear hc1 hc2 hc12
            have I1 := Lib.hid ((InnT.store I0.out hp c1).drew)
            have hsc : IntKind.i64.wrap ((c12 : Int) + 1) = (c12 : Int) + 1 := IntWalk.i64_in _ (by omega)
            have hss : (s.toList == t.toList) = decide (s = t) := by
              rw [ByteArray.toList_eq, ByteArray.toList_eq]
              by_cases e : s = t
              · simp [e]
              · simp [e]
                intro h
                exact e (ByteArray.ext h)
            have HSS := Lib.hid hss
            clear hss I0 HI
            go_wp2_with fail
            go_region
            go_wp2_with fail
            generalize (wi.setCell ⟨G + 1 + (xs.length - p), j, none⟩ (.int .i64 (c1 : Int))).drew = w1 at I1 ⊢
            clear P0 P1 P2 P3 P4
            have Q0 := I1.out.rowP hp
            have Q2 := I1.out.right (show j < ys.length by omega)
            have Q3 := I1.out.at_ (show j ≤ ys.length by omega)
            have Q4 := I1.out.cur.frozen j
            rw [← HC2.out] at Q2
            rw [← HM.out] at Q0
            by_cases hcc : c1 < c2
            case' pos =>
              have hci : (c1 : Int) < (c2 : Int) := by omega
              go_quiet (fail)
              go_wp2_with fail
              have I2 := Lib.hid ((I1.out.drewN (nq + 1)).store hp c2)
              go_region
              go_wp2_with fail
              generalize (w1.drewN (nq + 1)).setCell ⟨G + 1 + (xs.length - p), j, none⟩ (.int .i64 (c2 : Int)) = w2 at I2 ⊢
              obtain ⟨cm, hcm⟩ : ∃ cm, cm = c2 := ⟨_, rfl⟩
              have HCM := Lib.hid (show cm = max c1 c2 by omega)
              rw [← hcm] at I2
              clear hcm
            case' neg =>
              have hci : (decide ((c1 : Int) < (c2 : Int))) = false := decide_eq_false (by omega)
              go_quiet (fail)
              go_wp2_with fail
              have I2 := Lib.hid (I1.out.drewN nq)
              obtain ⟨cm, hcm⟩ : ∃ cm, cm = c1 := ⟨_, rfl⟩
              have HCM := Lib.hid (show cm = max c1 c2 by omega)
              rw [← hcm] at I2
              clear hcm
              generalize w1.drewN nq = w2 at I2 ⊢
            all_goals
              have hcmle : cm ≤ ys.length := by have := HCM.out; omega
              clear hci hcc I1 Q0 Q2 Q3 Q4
              have R0 := I2.out.rowP hp
              have R1 := I2.out.rowS hpl
              have R2 := I2.out.under hpl (show j + 1 ≤ ys.length by omega)
              have R3 := I2.out.at_ (show j ≤ ys.length by omega)
              have R4 := I2.out.cur.frozen j
              rw [← HM.out] at R0 R1
              rw [← HC12.out] at R2
              obtain ⟨a1, s1, rfl, hs1, cs1⟩ := (H0.out).cell (k := p) (by omega)
              obtain ⟨a2, s2, rfl, hs2, cs2⟩ := (G0.out).cell (k := j) (by omega)
              obtain rfl : s1 = s := Option.some.inj (hs1.symm.trans HS.out)
              obtain rfl : s2 = t := Option.some.inj (hs2.symm.trans HT.out)
              have d1 : w2.cell? (a1.add p) = some (.string s1) := (I2.out.since.cell (a := a1.add p) (by rw [HG.out]; exact World.block_lt_of_cell? _ _ cs1)).trans cs1
              have d2 : w2.cell? (a2.add j) = some (.string s2) := (I2.out.since.cell (a := a2.add j) (by rw [HG.out]; exact World.block_lt_of_cell? _ _ cs2)).trans cs2
              have hjl : (j : Int) < (ys.length : Int) := by omega
              clear hs1 hs2 cs1 cs2
              by_cases hst : s1 = s2
              case pos =>
                subst hst
                by_cases hgt : cm < c12 + 1
                case pos =>
                  have hgi : (cm : Int) < (c12 : Int) + 1 := by omega
                  have hv : c12 + 1 = cT xs ys p j := by rw [hstep.out, if_pos ⟨rfl, by have := HCM.out; omega⟩]
                  have HV := Lib.hid hv
                  clear hv
                  go_quiet (fail)
                  go_wp2_with fail
                  have I3 := Lib.hid ((I2.out.drewN (nq + 1)).store hp (c12 + 1))
                  rw [HV.out] at I3
                  rw [show ((cT xs ys p j : Nat) : Int) = (c12 : Int) + 1 from by rw [← HV.out]; omega] at I3
                  go_region
                  go_wp2
                  go_roundw
                  case rel => exact ⟨j, _, by omega, rfl, rfl, I3⟩
                  case measure => simp [intOf]
                case neg =>
                  have hgi : (decide ((cm : Int) < (c12 : Int) + 1)) = false := decide_eq_false (by omega)
                  have hv : cm = cT xs ys p j := by rw [hstep.out, if_neg (by have := HCM.out; omega)]; exact HCM.out
                  have I3 := Lib.hid ((I2.out.drewN 0))
                  rw [hv] at I3
                  clear hv
                  go_quiet (fail)
                  go_wp2
                  go_roundw
                  case rel => exact ⟨j, _, by omega, rfl, rfl, I3.out.drewN nq⟩
                  case measure => simp [intOf]
              case neg =>
                have hse := HSS.out
                rw [decide_eq_false hst] at hse
                have hv : cm = cT xs ys p j := by rw [hstep.out, if_neg (fun e => hst e.1)]; exact HCM.out
                have I3 := Lib.hid (I2.out.drewN 0)
                rw [hv] at I3
                clear hv
                go_quiet (fail)
                go_wp2
                go_roundw
                case rel => exact ⟨j, _, by omega, rfl, rfl, I3.out.drewN nq⟩
                case measure => simp [intOf]
          · obtain rfl : p = xs.length := by omega
            have hO := InnT.last hI.out rfl
            go_wp2
            go_roundw
            case rel => exact ⟨xs.length, _, by omega, rfl, rfl, hO⟩
            case measure => simp [intOf]
end Go.Proofs.YtapcnmnnichamaaGreatDoor.Mg
