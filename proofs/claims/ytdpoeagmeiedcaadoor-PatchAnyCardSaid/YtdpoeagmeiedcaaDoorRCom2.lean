/-
  rectoref11.common: its contract.
-/
import Derived.Test.YtdpoeagmeiedcaaDoorRCom
import Derived.Deep.OwnRows
import Derived.BigQuiet
namespace Go.Proofs.YtdpoeagmeiedcaaDoor
open Go Go.RowKit

theorem rowsInfo : (Tryd.prog.info? 82).map (fun i => (i.zero, i.size, i.bytes)) = some (some (.slice none 0 0), 1, 24) := by kernel_rfl
theorem intInfoC : (Tryd.prog.info? 3).map (fun i => (i.zero, i.size, i.bytes)) = some (some (.int .i64 0), 1, 8) := by kernel_rfl

/-- The table's rows, from k on. -/
def topV (G n m k : Nat) : Nat → Value := fun t => if k ≤ t then .slice (some ⟨G + 1 + (n - t), 0, none⟩) (m + 1) (m + 1) else .slice none 0 0
/-- The table, its rows from k on filled. -/
structure OutT (w wr : World) (G : Nat) (xs ys : List ByteArray) (k : Nat) : Prop where
  since : w.Since G wr
  size : wr.heap.size = G + 1 + (xs.length + 1 - k)
  top : wr.rowIs G 82 (xs.length + 1) (topV G xs.length ys.length k)
  done : ∀ t, k ≤ t → t ≤ xs.length → wr.rowIs (G + 1 + (xs.length - t)) 3 (ys.length + 1) (fun j => .int .i64 (cT xs ys t j))
/-- .. and row p made, filled behind q, v at q. -/
structure InnT (w wi : World) (G : Nat) (xs ys : List ByteArray) (p q : Nat) (v : Nat) : Prop where
  since : w.Since G wi
  size : wi.heap.size = G + 1 + (xs.length + 1 - p)
  top : wi.rowIs G 82 (xs.length + 1) (topV G xs.length ys.length p)
  done : ∀ t, p + 1 ≤ t → t ≤ xs.length → wi.rowIs (G + 1 + (xs.length - t)) 3 (ys.length + 1) (fun j => .int .i64 (cT xs ys t j))
  cur : wi.rowIs (G + 1 + (xs.length - p)) 3 (ys.length + 1) (fun j => .int .i64 ((if q + 1 ≤ j then cT xs ys p j else if j = q then v else 0 : Nat) : Int))
theorem OutT.start (w : World) (xs ys : List ByteArray) : OutT w (w.alloc (.cells (madeCells #[.slice none 0 0] (xs.length + 1)) 82)) w.heap.size xs ys (xs.length + 1) :=
  ⟨(World.Since.refl _ _).alloc (Nat.le_refl _) _, by simp, (World.rowIs_made w _ (xs.length + 1) 82).congr (fun j hj => by simp only [topV]; rw [if_neg (by omega)]), fun t h1 h2 => by omega⟩
theorem OutT.drewN {w wr : World} {G : Nat} {xs ys : List ByteArray} {k : Nat} (h : OutT w wr G xs ys k) (n : Nat) : OutT w (wr.drewN n) G xs ys k :=
  ⟨⟨h.since.os, h.since.tape, h.since.output, h.since.size, h.since.block⟩, h.size, h.top, h.done⟩
theorem InnT.drewN {w wr : World} {G : Nat} {xs ys : List ByteArray} {p q v : Nat} (h : InnT w wr G xs ys p q v) (n : Nat) : InnT w (wr.drewN n) G xs ys p q v :=
  ⟨⟨h.since.os, h.since.tape, h.since.output, h.since.size, h.since.block⟩, h.size, h.top, h.done, h.cur⟩
theorem InnT.drew {w wr : World} {G : Nat} {xs ys : List ByteArray} {p q v : Nat} (h : InnT w wr G xs ys p q v) : InnT w wr.drew G xs ys p q v :=
  ⟨h.since.drew, h.size, h.top, h.done, h.cur⟩
theorem InnT.start {w wr : World} {G : Nat} {xs ys : List ByteArray} {p : Nat} (h : OutT w wr G xs ys (p + 1)) (hp : p ≤ xs.length) :
    InnT w ((wr.alloc (.cells (madeCells #[.int .i64 0] (ys.length + 1)) 3)).setCell ⟨G, p, none⟩ (.slice (some ⟨wr.heap.size, 0, none⟩) (ys.length + 1) (ys.length + 1))) G xs ys p ys.length 0 := by
  have hnew := World.rowIs_made wr (.int .i64 0) (ys.length + 1) 3
  have hsz : wr.heap.size = G + 1 + (xs.length - p) := by rw [h.size]; omega
  rw [hsz] at hnew ⊢
  refine ⟨(h.since.alloc (by rw [h.size]; omega) _).setCell (Nat.le_refl _) _, by simp [h.size]; omega, ((h.top.alloc _).set p _).congr (fun t ht => ?_), fun t h1 h2 => ((h.done t h1 h2).alloc _).setOther (by show G + 1 + (xs.length - t) ≠ G; omega) _,
    (hnew.setOther (by show G + 1 + (xs.length - p) ≠ G; omega) _).congr (fun j hj => ?_)⟩
  · simp only [topV]
    by_cases e : t = p
    · subst e; simp
    · rw [if_neg e]
      by_cases hlt : p + 1 ≤ t
      · rw [if_pos hlt, if_pos (by omega)]
      · rw [if_neg hlt, if_neg (by omega)]
  · rw [if_neg (by omega)]
    simp
theorem InnT.store {w wi : World} {G : Nat} {xs ys : List ByteArray} {p q v : Nat} (h : InnT w wi G xs ys p q v) (hp : p ≤ xs.length) (u : Nat) :
    InnT w (wi.setCell ⟨G + 1 + (xs.length - p), q, none⟩ (.int .i64 (u : Int))) G xs ys p q u :=
  ⟨h.since.setCell (by show G ≤ G + 1 + (xs.length - p); omega) _, by simp [h.size], h.top.setOther (by show G ≠ G + 1 + (xs.length - p); omega) _,
    fun t h1 h2 => (h.done t h1 h2).setOther (by show G + 1 + (xs.length - t) ≠ G + 1 + (xs.length - p); omega) _,
    (h.cur.set q _).congr (fun j hj => by
      by_cases e : j = q
      · subst e; rw [if_pos rfl, if_neg (by omega), if_pos rfl]
      · rw [if_neg e, if_neg e, if_neg e])⟩
theorem InnT.next {w wi : World} {G : Nat} {xs ys : List ByteArray} {p q v : Nat} (h : InnT w wi G xs ys p (q + 1) v) (hv : v = cT xs ys p (q + 1)) : InnT w wi G xs ys p q 0 :=
  ⟨h.since, h.size, h.top, h.done, h.cur.congr (fun j hj => by
    by_cases e : j = q + 1
    · subst e; subst hv; rw [if_neg (by omega), if_pos rfl, if_pos (by omega)]
    · by_cases e2 : q + 1 + 1 ≤ j
      · rw [if_pos e2, if_pos (by omega)]
      · rw [if_neg e2, if_neg e, if_neg (by omega)]; simp)⟩
theorem InnT.done_ {w wi : World} {G : Nat} {xs ys : List ByteArray} {p v : Nat} (h : InnT w wi G xs ys p 0 v) (hv : v = cT xs ys p 0) : OutT w wi G xs ys p :=
  ⟨h.since, h.size, h.top, fun t h1 h2 => by
    by_cases e : t = p
    · subst e
      exact h.cur.congr (fun j hj => by
        by_cases e : j = 0
        · subst e; subst hv; rw [if_neg (by omega), if_pos rfl]
        · rw [if_pos (by omega)])
    · exact h.done t (by omega) h2⟩
theorem InnT.last {w wi : World} {G : Nat} {xs ys : List ByteArray} {q v : Nat} (h : InnT w wi G xs ys xs.length q v) (hv : v = cT xs ys xs.length q) : OutT w wi G xs ys xs.length :=
  ⟨h.since, h.size, h.top, fun t h1 h2 => by
    obtain rfl : t = xs.length := by omega
    exact h.cur.congr (fun j hj => by
      simp only [cT_end_a] at hv ⊢
      subst hv
      split
      · rfl
      · split <;> rfl)⟩
/-- What stands in the cells at (p, q). -/
theorem InnT.rowP {w wi : World} {G : Nat} {xs ys : List ByteArray} {p q v : Nat} (h : InnT w wi G xs ys p q v) (hp : p ≤ xs.length) : wi.cell? ⟨G, p, none⟩ = some (.slice (some ⟨G + 1 + (xs.length - p), 0, none⟩) (ys.length + 1) (ys.length + 1)) := by
  rw [h.top.cell (by omega)]; simp only [topV]; rw [if_pos (Nat.le_refl _)]
theorem InnT.rowS {w wi : World} {G : Nat} {xs ys : List ByteArray} {p q v : Nat} (h : InnT w wi G xs ys p q v) (hp : p < xs.length) : wi.cell? ⟨G, p + 1, none⟩ = some (.slice (some ⟨G + 1 + (xs.length - (p + 1)), 0, none⟩) (ys.length + 1) (ys.length + 1)) := by
  rw [h.top.cell (by omega)]; simp only [topV]; rw [if_pos (by omega)]
theorem InnT.at_ {w wi : World} {G : Nat} {xs ys : List ByteArray} {p q v : Nat} (h : InnT w wi G xs ys p q v) (hq : q ≤ ys.length) : wi.cell? ⟨G + 1 + (xs.length - p), q, none⟩ = some (.int .i64 (v : Int)) := by
  rw [h.cur.cell (by omega), if_neg (by omega), if_pos rfl]
theorem InnT.right {w wi : World} {G : Nat} {xs ys : List ByteArray} {p q v : Nat} (h : InnT w wi G xs ys p q v) (hq : q < ys.length) : wi.cell? ⟨G + 1 + (xs.length - p), q + 1, none⟩ = some (.int .i64 (cT xs ys p (q + 1) : Int)) := by
  rw [h.cur.cell (by omega), if_pos (by omega)]
theorem InnT.under {w wi : World} {G : Nat} {xs ys : List ByteArray} {p q v : Nat} (h : InnT w wi G xs ys p q v) (hp : p < xs.length) {j : Nat} (hj : j ≤ ys.length) : wi.cell? ⟨G + 1 + (xs.length - (p + 1)), j, none⟩ = some (.int .i64 (cT xs ys (p + 1) j : Int)) :=
  (h.done (p + 1) (Nat.le_refl _) (by omega)).cell (by omega)

/-- The whole table. -/
def Tabled (w : World) (xs ys : List ByteArray) (e : Ending) (w' : World) : Prop :=
  ∃ G, e = .returned (.slice (some ⟨G, 0, none⟩) (xs.length + 1) (xs.length + 1)) ∧ w.heap.size ≤ G ∧ OutT w w' G xs ys 0 ∧ Below w.heap.size w w'
end Go.Proofs.YtdpoeagmeiedcaaDoor
