/-
  index.Same: whether entries are alike, all but times and sizes.
-/
import Derived.Test.YtkdoccmflknipaaSSame
import Derived.Deep.RegionHeld3
import Derived.Deep.RegionWith
namespace Go.Proofs.Ytkdoccmflknipaa
open Go.RowKit

/-- An entry without its time and size. -/
def stillE (e : En) : En := (e.1, e.2.1, e.2.2.1, e.2.2.2.1, 0, 0)
/-- The value of an entry. -/
abbrev vE (e : En) : Value := .agg #[.string e.1, .int .i64 e.2.1, .int .i64 e.2.2.1, .string e.2.2.2.1, .int .i64 e.2.2.2.2.1, .int .i64 e.2.2.2.2.2]
theorem entrySize : (Try.prog.info? 61).map (·.size) = some 6 := by kernel_rfl
def StillTo (p : ByteArray) (st m : Int) (d : ByteArray) (w : World) (e : Ending) (w' : World) : Prop := e = .returned (.agg #[.string p, .int .i64 st, .int .i64 m, .string d, .int .i64 0, .int .i64 0]) ∧ Below w.heap.size w w'
set_option maxHeartbeats 2000000 in
theorem still_any (p : ByteArray) (st m : Int) (d : ByteArray) (tm sz : Int) (w : World) :
    Calls Try.prog 49 #[.agg #[.string p, .int .i64 st, .int .i64 m, .string d, .int .i64 tm, .int .i64 sz]] w (StillTo p st m d w) := by
  go_enter Try.func49, Try.ntmps49
  go_wp2
  refine bodyPost_ret (results_cell_row (fn := Try.f49) rfl _ _ (w.heap.size + 1) 61 #[.string p, .int .i64 st, .int .i64 m, .string d, .int .i64 0, .int .i64 0] (0, 0) _ rfl (heap_alloc2_new w _ _) Try.underlying61 rfl entrySize) rfl ⟨rfl, ?_⟩
  exact ((Below.refl _ _).alloc (Nat.le_refl _) _).alloc (by simp) _

def AlikeTo (x y : En) (w : World) (e : Ending) (w' : World) : Prop := e = .returned (.bool (decide (stillE x = stillE y))) ∧ Below w.heap.size w w'
def cls4 (x y : En) : Prop := x.1 = y.1 ∧ x.2.1 = y.2.1 ∧ x.2.2.1 = y.2.2.1 ∧ x.2.2.2.1 = y.2.2.2.1
theorem still_eq {x y : En} : stillE x = stillE y ↔ x.1 = y.1 ∧ x.2.1 = y.2.1 ∧ x.2.2.1 = y.2.2.1 ∧ x.2.2.2.1 = y.2.2.2.1 := by
  constructor
  · intro h
    exact ⟨congrArg (fun z => z.1) h, congrArg (fun z => z.2.1) h, congrArg (fun z => z.2.2.1) h, congrArg (fun z => z.2.2.2.1) h⟩
  · rintro ⟨h1, h2, h3, h4⟩
    unfold stillE
    rw [h1, h2, h3, h4]
theorem ret_bool {p q : Bool} (h : p = q) : Ending.returned (.bool p) = .returned (.bool q) := by rw [h]
theorem two_rows {w : World} {G : Nat} {p p' d d' : ByteArray} {st m tm sz st' m' tm' sz' : Int} {t : TypeId} (h : w.heap[G]? = some (.cells #[.string p, .int .i64 st, .int .i64 m, .string d, .int .i64 tm, .int .i64 sz] t (0, 0))) (g : w.heap[G + 1]? = some (.cells #[.string p', .int .i64 st', .int .i64 m', .string d', .int .i64 tm', .int .i64 sz'] t (0, 0))) :
    w.cell? ⟨G, 0, none⟩ = some (.string p) ∧ w.cell? ⟨G, 1, none⟩ = some (.int .i64 st) ∧ w.cell? ⟨G, 2, none⟩ = some (.int .i64 m) ∧ w.cell? ⟨G, 3, none⟩ = some (.string d) ∧ w.cell? ⟨G, 4, none⟩ = some (.int .i64 tm) ∧ w.cell? ⟨G, 5, none⟩ = some (.int .i64 sz) ∧ w.cell? ⟨G + 1, 0, none⟩ = some (.string p') ∧ w.cell? ⟨G + 1, 1, none⟩ = some (.int .i64 st') ∧ w.cell? ⟨G + 1, 2, none⟩ = some (.int .i64 m') ∧ w.cell? ⟨G + 1, 3, none⟩ = some (.string d') ∧ w.cell? ⟨G + 1, 4, none⟩ = some (.int .i64 tm') ∧ w.cell? ⟨G + 1, 5, none⟩ = some (.int .i64 sz') :=
  ⟨cell_of_row w G 0 _ t (0, 0) h, cell_of_row w G 1 _ t (0, 0) h, cell_of_row w G 2 _ t (0, 0) h, cell_of_row w G 3 _ t (0, 0) h, cell_of_row w G 4 _ t (0, 0) h, cell_of_row w G 5 _ t (0, 0) h,
    cell_of_row w (G + 1) 0 _ t (0, 0) g, cell_of_row w (G + 1) 1 _ t (0, 0) g, cell_of_row w (G + 1) 2 _ t (0, 0) g, cell_of_row w (G + 1) 3 _ t (0, 0) g, cell_of_row w (G + 1) 4 _ t (0, 0) g, cell_of_row w (G + 1) 5 _ t (0, 0) g⟩
set_option maxHeartbeats 4000000 in
theorem alike_any (x y : En) (w : World) : Calls Try.prog 48 #[vE x, vE y] w (AlikeTo x y w) := by
  obtain ⟨p, st, m, d, tm, sz⟩ := x
  obtain ⟨p', st', m', d', tm', sz'⟩ := y
  have B0 := ((Below.refl w.heap.size w).alloc (Nat.le_refl _) (.cells #[.string p, .int .i64 st, .int .i64 m, .string d, .int .i64 tm, .int .i64 sz] 61)).alloc (by simp) (.cells #[.string p', .int .i64 st', .int .i64 m', .string d', .int .i64 tm', .int .i64 sz'] 61)
  have k0 := heap_alloc2_new w (.cells #[.string p, .int .i64 st, .int .i64 m, .string d, .int .i64 tm, .int .i64 sz] 61) (.cells #[.string p', .int .i64 st', .int .i64 m', .string d', .int .i64 tm', .int .i64 sz'] 61)
  have k1 := heap_alloc2_old w (.cells #[.string p, .int .i64 st, .int .i64 m, .string d, .int .i64 tm, .int .i64 sz] 61) (.cells #[.string p', .int .i64 st', .int .i64 m', .string d', .int .i64 tm', .int .i64 sz'] 61)
  have HE := Lib.hid (still_eq (x := (p, st, m, d, tm, sz)) (y := (p', st', m', d', tm', sz')))
  obtain ⟨w1, hw1⟩ : ∃ w1, w1 = (w.alloc (.cells #[.string p, .int .i64 st, .int .i64 m, .string d, .int .i64 tm, .int .i64 sz] 61)).alloc (.cells #[.string p', .int .i64 st', .int .i64 m', .string d', .int .i64 tm', .int .i64 sz'] 61) := ⟨_, rfl⟩
  have hs1 := B0.size
  rw [← hw1] at B0 k0 k1 hs1
  obtain ⟨G, hG⟩ : ∃ G, G = w.heap.size := ⟨_, rfl⟩
  rw [← hG] at k0 k1
  have z0 : w1.drew.cell? ⟨G, 0, none⟩ = some (.string p) ∧ w1.drew.cell? ⟨G, 1, none⟩ = some (.int .i64 st) ∧ w1.drew.cell? ⟨G, 2, none⟩ = some (.int .i64 m) ∧ w1.drew.cell? ⟨G, 3, none⟩ = some (.string d) ∧ w1.drew.cell? ⟨G, 4, none⟩ = some (.int .i64 tm) ∧ w1.drew.cell? ⟨G, 5, none⟩ = some (.int .i64 sz) ∧ w1.drew.cell? ⟨G + 1, 0, none⟩ = some (.string p') ∧ w1.drew.cell? ⟨G + 1, 1, none⟩ = some (.int .i64 st') ∧ w1.drew.cell? ⟨G + 1, 2, none⟩ = some (.int .i64 m') ∧ w1.drew.cell? ⟨G + 1, 3, none⟩ = some (.string d') ∧ w1.drew.cell? ⟨G + 1, 4, none⟩ = some (.int .i64 tm') ∧ w1.drew.cell? ⟨G + 1, 5, none⟩ = some (.int .i64 sz') := two_rows (w := w1) k1 k0
  have HB0 := Lib.hid B0
  clear B0
  by_cases h0 : p = p'
  · subst h0
    by_cases h1 : st = st'
    · subst h1
      by_cases h2 : m = m'
      · subst h2
        by_cases h3 : d = d'
        · subst h3
          have HT : Hid (decide (stillE (p, st, m, d, tm, sz) = stillE (p, st, m, d, tm', sz')) = true) := Lib.hid (decide_eq_true (HE.out.2 ⟨rfl, rfl, rfl, rfl⟩))
          go_enter Try.func48, Try.ntmps48
          go_wp2_with fail
          rw [← hw1, ← hG]
          clear hw1 hG
          go_region_held3 (fun w' => w'.cell? ⟨G, 0, none⟩ = some (.string p) ∧ w'.cell? ⟨G, 1, none⟩ = some (.int .i64 st) ∧ w'.cell? ⟨G, 2, none⟩ = some (.int .i64 m) ∧ w'.cell? ⟨G, 3, none⟩ = some (.string d) ∧ w'.cell? ⟨G, 4, none⟩ = some (.int .i64 tm) ∧ w'.cell? ⟨G, 5, none⟩ = some (.int .i64 sz) ∧ w'.cell? ⟨G + 1, 0, none⟩ = some (.string p) ∧ w'.cell? ⟨G + 1, 1, none⟩ = some (.int .i64 st) ∧ w'.cell? ⟨G + 1, 2, none⟩ = some (.int .i64 m) ∧ w'.cell? ⟨G + 1, 3, none⟩ = some (.string d) ∧ w'.cell? ⟨G + 1, 4, none⟩ = some (.int .i64 tm') ∧ w'.cell? ⟨G + 1, 5, none⟩ = some (.int .i64 sz')) (first | exact z3 | exact z2 | exact z0) (first
            | (go_at_call 49; (with_reducible refine (still_any p st m d tm' sz' w2).mono ?_); rintro e w3 ⟨rfl, b3⟩; have B3 := B2.trans (b3.mono B2.size); have z3 := two_rows ((b3.block _ (Array.getElem?_eq_some_iff.1 r2).1).trans r2) ((b3.block _ (Array.getElem?_eq_some_iff.1 s2).1).trans s2))
            | (go_at_call 49; (with_reducible refine (still_any p st m d tm sz _).mono ?_); rintro e w2 ⟨rfl, b2⟩; have B2 : Below w1.heap.size w1 w2 := ((Below.refl _ _).drew).trans b2; have r2 := (B2.block _ (Array.getElem?_eq_some_iff.1 k1).1).trans k1; have s2 := (B2.block _ (Array.getElem?_eq_some_iff.1 k0).1).trans k0; have z2 := two_rows r2 s2))
          go_wp2_with fail
          go_ret
          exact ⟨ret_bool (HT.out).symm, HB0.out.trans (B3.mono hs1)⟩
        · have HF : Hid (decide (stillE (p, st, m, d, tm, sz) = stillE (p, st, m, d', tm', sz')) = false) := Lib.hid (decide_eq_false fun e => h3 (HE.out.1 e).2.2.2)
          have g3 : ¬ d.toList = d'.toList := fun e => h3 (tl_eq e)
          have g3' : (d.toList == d'.toList) = false := by simpa using g3
          clear h3
          go_enter Try.func48, Try.ntmps48
          go_wp2_with fail
          rw [← hw1, ← hG]
          clear hw1 hG
          go_region_held3 (fun w' => w'.cell? ⟨G, 0, none⟩ = some (.string p) ∧ w'.cell? ⟨G, 1, none⟩ = some (.int .i64 st) ∧ w'.cell? ⟨G, 2, none⟩ = some (.int .i64 m) ∧ w'.cell? ⟨G, 3, none⟩ = some (.string d) ∧ w'.cell? ⟨G, 4, none⟩ = some (.int .i64 tm) ∧ w'.cell? ⟨G, 5, none⟩ = some (.int .i64 sz) ∧ w'.cell? ⟨G + 1, 0, none⟩ = some (.string p) ∧ w'.cell? ⟨G + 1, 1, none⟩ = some (.int .i64 st) ∧ w'.cell? ⟨G + 1, 2, none⟩ = some (.int .i64 m) ∧ w'.cell? ⟨G + 1, 3, none⟩ = some (.string d') ∧ w'.cell? ⟨G + 1, 4, none⟩ = some (.int .i64 tm') ∧ w'.cell? ⟨G + 1, 5, none⟩ = some (.int .i64 sz')) (first | exact z3 | exact z2 | exact z0) (first
            | (go_at_call 49; (with_reducible refine (still_any p st m d' tm' sz' w2).mono ?_); rintro e w3 ⟨rfl, b3⟩; have B3 := B2.trans (b3.mono B2.size); have z3 := two_rows ((b3.block _ (Array.getElem?_eq_some_iff.1 r2).1).trans r2) ((b3.block _ (Array.getElem?_eq_some_iff.1 s2).1).trans s2))
            | (go_at_call 49; (with_reducible refine (still_any p st m d tm sz _).mono ?_); rintro e w2 ⟨rfl, b2⟩; have B2 : Below w1.heap.size w1 w2 := ((Below.refl _ _).drew).trans b2; have r2 := (B2.block _ (Array.getElem?_eq_some_iff.1 k1).1).trans k1; have s2 := (B2.block _ (Array.getElem?_eq_some_iff.1 k0).1).trans k0; have z2 := two_rows r2 s2))
          go_wp2_with fail
          go_ret
          exact ⟨ret_bool (HF.out).symm, HB0.out.trans (B3.mono hs1)⟩
      · have HF : Hid (decide (stillE (p, st, m, d, tm, sz) = stillE (p, st, m', d', tm', sz')) = false) := Lib.hid (decide_eq_false fun e => h2 (HE.out.1 e).2.2.1)
        have g2' : (m == m') = false := by simpa using h2
        go_enter Try.func48, Try.ntmps48
        go_wp2_with fail
        rw [← hw1, ← hG]
        clear hw1 hG
        go_region_held3 (fun w' => w'.cell? ⟨G, 0, none⟩ = some (.string p) ∧ w'.cell? ⟨G, 1, none⟩ = some (.int .i64 st) ∧ w'.cell? ⟨G, 2, none⟩ = some (.int .i64 m) ∧ w'.cell? ⟨G, 3, none⟩ = some (.string d) ∧ w'.cell? ⟨G, 4, none⟩ = some (.int .i64 tm) ∧ w'.cell? ⟨G, 5, none⟩ = some (.int .i64 sz) ∧ w'.cell? ⟨G + 1, 0, none⟩ = some (.string p) ∧ w'.cell? ⟨G + 1, 1, none⟩ = some (.int .i64 st) ∧ w'.cell? ⟨G + 1, 2, none⟩ = some (.int .i64 m') ∧ w'.cell? ⟨G + 1, 3, none⟩ = some (.string d') ∧ w'.cell? ⟨G + 1, 4, none⟩ = some (.int .i64 tm') ∧ w'.cell? ⟨G + 1, 5, none⟩ = some (.int .i64 sz')) (first | exact z3 | exact z2 | exact z0) (first
          | (go_at_call 49; (with_reducible refine (still_any p st m' d' tm' sz' w2).mono ?_); rintro e w3 ⟨rfl, b3⟩; have B3 := B2.trans (b3.mono B2.size); have z3 := two_rows ((b3.block _ (Array.getElem?_eq_some_iff.1 r2).1).trans r2) ((b3.block _ (Array.getElem?_eq_some_iff.1 s2).1).trans s2))
          | (go_at_call 49; (with_reducible refine (still_any p st m d tm sz _).mono ?_); rintro e w2 ⟨rfl, b2⟩; have B2 : Below w1.heap.size w1 w2 := ((Below.refl _ _).drew).trans b2; have r2 := (B2.block _ (Array.getElem?_eq_some_iff.1 k1).1).trans k1; have s2 := (B2.block _ (Array.getElem?_eq_some_iff.1 k0).1).trans k0; have z2 := two_rows r2 s2))
        go_wp2_with fail
        go_ret
        exact ⟨ret_bool (HF.out).symm, HB0.out.trans (B3.mono hs1)⟩
    · have HF : Hid (decide (stillE (p, st, m, d, tm, sz) = stillE (p, st', m', d', tm', sz')) = false) := Lib.hid (decide_eq_false fun e => h1 (HE.out.1 e).2.1)
      have g1' : (st == st') = false := by simpa using h1
      go_enter Try.func48, Try.ntmps48
      go_wp2_with fail
      rw [← hw1, ← hG]
      clear hw1 hG
      go_region_held3 (fun w' => w'.cell? ⟨G, 0, none⟩ = some (.string p) ∧ w'.cell? ⟨G, 1, none⟩ = some (.int .i64 st) ∧ w'.cell? ⟨G, 2, none⟩ = some (.int .i64 m) ∧ w'.cell? ⟨G, 3, none⟩ = some (.string d) ∧ w'.cell? ⟨G, 4, none⟩ = some (.int .i64 tm) ∧ w'.cell? ⟨G, 5, none⟩ = some (.int .i64 sz) ∧ w'.cell? ⟨G + 1, 0, none⟩ = some (.string p) ∧ w'.cell? ⟨G + 1, 1, none⟩ = some (.int .i64 st') ∧ w'.cell? ⟨G + 1, 2, none⟩ = some (.int .i64 m') ∧ w'.cell? ⟨G + 1, 3, none⟩ = some (.string d') ∧ w'.cell? ⟨G + 1, 4, none⟩ = some (.int .i64 tm') ∧ w'.cell? ⟨G + 1, 5, none⟩ = some (.int .i64 sz')) (first | exact z3 | exact z2 | exact z0) (first
        | (go_at_call 49; (with_reducible refine (still_any p st' m' d' tm' sz' w2).mono ?_); rintro e w3 ⟨rfl, b3⟩; have B3 := B2.trans (b3.mono B2.size); have z3 := two_rows ((b3.block _ (Array.getElem?_eq_some_iff.1 r2).1).trans r2) ((b3.block _ (Array.getElem?_eq_some_iff.1 s2).1).trans s2))
        | (go_at_call 49; (with_reducible refine (still_any p st m d tm sz _).mono ?_); rintro e w2 ⟨rfl, b2⟩; have B2 : Below w1.heap.size w1 w2 := ((Below.refl _ _).drew).trans b2; have r2 := (B2.block _ (Array.getElem?_eq_some_iff.1 k1).1).trans k1; have s2 := (B2.block _ (Array.getElem?_eq_some_iff.1 k0).1).trans k0; have z2 := two_rows r2 s2))
      go_wp2_with fail
      go_ret
      exact ⟨ret_bool (HF.out).symm, HB0.out.trans (B3.mono hs1)⟩
  · have HF : Hid (decide (stillE (p, st, m, d, tm, sz) = stillE (p', st', m', d', tm', sz')) = false) := Lib.hid (decide_eq_false fun e => h0 (HE.out.1 e).1)
    have g0 : ¬ p.toList = p'.toList := fun e => h0 (tl_eq e)
    have g0' : (p.toList == p'.toList) = false := by simpa using g0
    clear h0
    go_enter Try.func48, Try.ntmps48
    go_wp2_with fail
    rw [← hw1, ← hG]
    clear hw1 hG
    go_region_held3 (fun w' => w'.cell? ⟨G, 0, none⟩ = some (.string p) ∧ w'.cell? ⟨G, 1, none⟩ = some (.int .i64 st) ∧ w'.cell? ⟨G, 2, none⟩ = some (.int .i64 m) ∧ w'.cell? ⟨G, 3, none⟩ = some (.string d) ∧ w'.cell? ⟨G, 4, none⟩ = some (.int .i64 tm) ∧ w'.cell? ⟨G, 5, none⟩ = some (.int .i64 sz) ∧ w'.cell? ⟨G + 1, 0, none⟩ = some (.string p') ∧ w'.cell? ⟨G + 1, 1, none⟩ = some (.int .i64 st') ∧ w'.cell? ⟨G + 1, 2, none⟩ = some (.int .i64 m') ∧ w'.cell? ⟨G + 1, 3, none⟩ = some (.string d') ∧ w'.cell? ⟨G + 1, 4, none⟩ = some (.int .i64 tm') ∧ w'.cell? ⟨G + 1, 5, none⟩ = some (.int .i64 sz')) (first | exact z3 | exact z2 | exact z0) (first
      | (go_at_call 49; (with_reducible refine (still_any p' st' m' d' tm' sz' w2).mono ?_); rintro e w3 ⟨rfl, b3⟩; have B3 := B2.trans (b3.mono B2.size); have z3 := two_rows ((b3.block _ (Array.getElem?_eq_some_iff.1 r2).1).trans r2) ((b3.block _ (Array.getElem?_eq_some_iff.1 s2).1).trans s2))
      | (go_at_call 49; (with_reducible refine (still_any p st m d tm sz _).mono ?_); rintro e w2 ⟨rfl, b2⟩; have B2 : Below w1.heap.size w1 w2 := ((Below.refl _ _).drew).trans b2; have r2 := (B2.block _ (Array.getElem?_eq_some_iff.1 k1).1).trans k1; have s2 := (B2.block _ (Array.getElem?_eq_some_iff.1 k0).1).trans k0; have z2 := two_rows r2 s2))
    go_wp2_with fail
    go_ret
    exact ⟨ret_bool (HF.out).symm, HB0.out.trans (B3.mono hs1)⟩
end Go.Proofs.Ytkdoccmflknipaa
