/-
  rectoref14.entry: what is wrong of an entry; where nothing is, it stands behind the one ahead.
-/
import Derived.Test.YtkdoccmflknipaaSSameG
import Derived.Test.YtkdoccmflknipaaSFew
namespace Go.Proofs.Ytkdoccmflknipaa
open Go.RowKit

/-- The entry i has a stage that may be, and stands behind the one ahead. -/
def okAt (l : List En) (i : Nat) : Prop := ∀ x, l[i]? = some x → 0 ≤ x.2.1 ∧ x.2.1 ≤ 3 ∧ ∀ j y, j + 1 = i → l[j]? = some y → ¬ cb x.1 y.1 < 0 ∧ (y.1 = x.1 → y.2.1 < x.2.1)
theorem okAt_zero {l : List En} {i : Nat} {x : En} (h0 : i = 0) (hx : l[i]? = some x) (h1 : 0 ≤ x.2.1) (h2 : x.2.1 ≤ 3) : okAt l i := fun z hz => by
  rw [hx] at hz
  obtain rfl := Option.some.inj hz
  exact ⟨h1, h2, fun j y hj => by omega⟩
theorem okAt_succ {l : List En} {i n : Nat} {x y : En} (hi : i = n + 1) (hx : l[i]? = some x) (hy : l[n]? = some y) (h1 : 0 ≤ x.2.1) (h2 : x.2.1 ≤ 3) (a : ¬ cb x.1 y.1 < 0) (b : y.1 = x.1 → y.2.1 < x.2.1) : okAt l i := fun z hz => by
  rw [hx] at hz
  obtain rfl := Option.some.inj hz
  refine ⟨h1, h2, fun j u hj hu => ?_⟩
  obtain rfl : j = n := by omega
  rw [hy] at hu
  obtain rfl := Option.some.inj hu
  exact ⟨a, b⟩
theorem mode_any (m : Int) (w : World) : Calls Try.prog 51 #[.int .i64 m] w fun e w' => e = .returned (.bool (decide (m = 1) || decide (m = 2))) ∧ w' = w := by
  by_cases h1 : m = 1
  · subst h1
    go_enter Try.func51, Try.ntmps51
    go_wp2
    go_ret
    exact ⟨rfl, rfl⟩
  · have e1 : (m == 1) = false := by simpa using h1
    by_cases h2 : m = 2
    · subst h2
      go_enter Try.func51, Try.ntmps51
      go_wp2
      go_ret
      exact ⟨rfl, rfl⟩
    · have e2 : (m == 2) = false := by simpa using h2
      have HR := Lib.hid (show (decide (m = 1) || decide (m = 2)) = false by rw [decide_eq_false h1, decide_eq_false h2]; rfl)
      rw [HR.out]
      go_enter Try.func51, Try.ntmps51
      go_wp2
      go_ret
      exact ⟨rfl, rfl⟩
def EntryTo (l : List En) (i : Nat) (w : World) (e : Ending) (w' : World) : Prop := ∃ n : Int, e = .returned (.int .i64 n) ∧ (n = 0 → okAt l i) ∧ Below w.heap.size w w'

set_option maxRecDepth 100000 in
set_option maxHeartbeats 8000000 in
theorem entry_any (w : World) (v : Value) (l : List En) (i : Nat) (h : Reads 6 cE w v l) (hil : i < l.length) (hl : l.length ≤ 100000) (hs : ∀ x ∈ l, x.1.size ≤ 1000000) :
    Calls Try.prog 26 #[v, .int .i64 i] w (EntryTo l i w) := by
  obtain ⟨A, c, rfl⟩ := h.form
  have HO := Lib.hid h
  have HS := Lib.hid hs
  obtain ⟨x, hx⟩ : ∃ x, l[i]? = some x := ⟨_, List.getElem?_eq_getElem hil⟩
  obtain ⟨ad, rfl, a0, a1, a2, a3, a4, a5⟩ := Ents.at_ h hx
  have HXI := Lib.hid hx
  have HSP := Lib.hid (hs x (List.mem_of_getElem? hx))
  obtain ⟨p, st, m, d, tm, sz⟩ := x
  have HSP : Hid (p.size ≤ 1000000) := HSP
  have i0 : (0 : Int) ≤ (i : Int) := Int.natCast_nonneg _
  have i1 : (i : Int) < (l.length : Int) := by omega
  have hcl := World.block_lt_of_cell? _ _ a0
  obtain ⟨w1, hw1⟩ : ∃ w1, w1 = w.alloc (.cells #[.string p, .int .i64 st, .int .i64 m, .string d, .int .i64 tm, .int .i64 sz] 64) := ⟨_, rfl⟩
  have B1 : Below w.heap.size w w1 := by rw [hw1]; exact (Below.refl _ _).alloc (Nat.le_refl _) _
  obtain ⟨G, hG⟩ : ∃ G, G = w.heap.size := ⟨_, rfl⟩
  have k1 : w1.heap[G]? = some (.cells #[.string p, .int .i64 st, .int .i64 m, .string d, .int .i64 tm, .int .i64 sz] 64 (0, 0)) := by rw [hw1, hG]; exact heap_alloc_new w _
  have CH := Lib.hid (refCheck_any p w1 (by have := HSP.out; omega))
  clear h hs hx
  go_enter Try.func26, Try.ntmps26
  go_wp2_with fail
  rw [← hw1, ← hG]
  clear hw1 hG
  refine CH.out.mono ?_
  rintro e w2 ⟨rfl, b2⟩
  have B2 : Below w.heap.size w w2 := B1.trans (b2.mono B1.size)
  have K2 : Hid (w2.heap[G]? = some (.cells #[.string p, .int .i64 st, .int .i64 m, .string d, .int .i64 tm, .int .i64 sz] 64 (0, 0))) := Lib.hid ((b2.block G (Array.getElem?_eq_some_iff.1 k1).1).trans k1)
  have g0 : w2.cell? ⟨G, 0, none⟩ = some (.string p) := cell_of_row w2 G 0 _ _ (0, 0) K2.out
  have g1 : w2.cell? ⟨G, 1, none⟩ = some (.int .i64 st) := cell_of_row w2 G 1 _ _ (0, 0) K2.out
  have g2 : w2.cell? ⟨G, 2, none⟩ = some (.int .i64 m) := cell_of_row w2 G 2 _ _ (0, 0) K2.out
  have g3 : w2.cell? ⟨G, 3, none⟩ = some (.string d) := cell_of_row w2 G 3 _ _ (0, 0) K2.out
  have g4 : w2.cell? ⟨G, 4, none⟩ = some (.int .i64 tm) := cell_of_row w2 G 4 _ _ (0, 0) K2.out
  have g5 : w2.cell? ⟨G, 5, none⟩ = some (.int .i64 sz) := cell_of_row w2 G 5 _ _ (0, 0) K2.out
  obtain ⟨ck, hck⟩ : ∃ ck, ck = chk p.data.toList := ⟨_, rfl⟩
  rw [← hck]
  clear hck b2 B1 k1 CH a0 a1 a2 a3 a4 a5 hcl
  by_cases hc0 : ck = 0
  · subst hc0
    by_cases h1 : st < 0
    · have h1b : st < 0 := h1
      go_wp2_with (go_at_call 51; refine (mode_any _ _).mono ?_; rintro e w' ⟨rfl, hw'⟩; rw [hw']; clear hw' w')
      go_ret
      exact ⟨1, rfl, (fun h => absurd h (by decide)), B2⟩
    · by_cases h2 : 3 < st
      · have h1b : ¬ st < 0 := h1
        go_wp2_with (go_at_call 51; refine (mode_any _ _).mono ?_; rintro e w' ⟨rfl, hw'⟩; rw [hw']; clear hw' w')
        go_ret
        exact ⟨1, rfl, (fun h => absurd h (by decide)), B2⟩
      · have h1 : 0 ≤ st := by omega
        have h2 : st ≤ 3 := by omega
        have h1n : ¬ st < 0 := by omega
        have h2n : ¬ 3 < st := by omega
        cases h3 : (decide (m = 1) || decide (m = 2)) with
        | false =>
          go_wp2_with (go_at_call 51; refine (mode_any _ _).mono ?_; rintro e w' ⟨rfl, hw'⟩; rw [hw']; clear hw' w')
          go_ret
          exact ⟨1, rfl, (fun h => absurd h (by decide)), B2⟩
        | true =>
          by_cases h4 : tm < 0
          · go_wp2_with (go_at_call 51; refine (mode_any _ _).mono ?_; rintro e w' ⟨rfl, hw'⟩; rw [hw']; clear hw' w')
            go_ret
            exact ⟨1, rfl, (fun h => absurd h (by decide)), B2⟩
          · by_cases h5 : sz < 0
            · go_wp2_with (go_at_call 51; refine (mode_any _ _).mono ?_; rintro e w' ⟨rfl, hw'⟩; rw [hw']; clear hw' w')
              go_ret
              exact ⟨1, rfl, (fun h => absurd h (by decide)), B2⟩
            · have h4n : ¬ tm < 0 := h4
              have h5n : ¬ sz < 0 := h5
              by_cases h6 : 4096 < d.size
              · have h6i : (4096 : Int) < (d.size : Int) := by omega
                go_wp2_with (go_at_call 51; refine (mode_any _ _).mono ?_; rintro e w' ⟨rfl, hw'⟩; rw [hw']; clear hw' w')
                go_ret
                exact ⟨4, rfl, (fun h => absurd h (by decide)), B2⟩
              · have h6i : ¬ (4096 : Int) < (d.size : Int) := by omega
                have HST := Lib.hid (And.intro h1 h2)
                by_cases hi0 : i = 0
                · have HF : Hid (okAt l i) := Lib.hid (okAt_zero hi0 HXI.out HST.out.1 HST.out.2)
                  have nb : decide ((0 : Int) < (i : Int)) = false := decide_eq_false (by omega)
                  have nb2 : decide (0 < i) = false := decide_eq_false (by omega)
                  clear hi0
                  go_wp2_with (go_at_call 51; refine (mode_any _ _).mono ?_; rintro e w' ⟨rfl, hw'⟩; rw [hw']; clear hw' w')
                  go_quiet (fail)
                  obtain ⟨w3, hw3⟩ : ∃ w3, w3 = w2.drewN nq := ⟨_, rfl⟩
                  have B3 : Below w.heap.size w w3 := by rw [hw3]; exact below_drewN B2 _
                  have k3 : w3.heap[G]? = some (.cells #[.string p, .int .i64 st, .int .i64 m, .string d, .int .i64 tm, .int .i64 sz] 64 (0, 0)) := by rw [hw3]; exact K2.out
                  rw [← hw3]
                  clear hw3
                  clear nb nb2
                  have s3 := B3.size
                  have K3 := Lib.hid k3
                  have n0 : (0 : Int) ≤ (i : Int) := Int.natCast_nonneg _
                  clear k3
                  go_wp2_with fail
                  go_loopw [7] (fun s7 wr => ∃ k : Nat, k ≤ i ∧ s7 = .int .i64 k ∧ Below w3.heap.size w3 wr) (fun s7 _ => i - (intOf s7).toNat)
                  case atStart => exact ⟨0, Nat.zero_le _, rfl, Below.refl _ _⟩
                  case round =>
                    obtain ⟨k, hk, rfl, hb⟩ := hrel
                    have K4 := (hb.block G (Array.getElem?_eq_some_iff.1 K3.out).1).trans K3.out
                    have g0 : wr.cell? ⟨G, 0, none⟩ = some (.string p) := cell_of_row wr G 0 _ _ (0, 0) K4
                    have g1 : wr.cell? ⟨G, 1, none⟩ = some (.int .i64 st) := cell_of_row wr G 1 _ _ (0, 0) K4
                    have k0 : (0 : Int) ≤ (k : Int) := Int.natCast_nonneg _
                    by_cases hlt : k < i
                    · obtain ⟨y, hy⟩ : ∃ y, l[k]? = some y := ⟨_, List.getElem?_eq_getElem (by omega)⟩
                      obtain ⟨ad', had, c0, c1, c2, c3, c4, c5⟩ := Ents.at_ ((HO.out.below B3).below hb) hy
                      obtain rfl := Option.some.inj had
                      obtain ⟨yp, ys, ym, yd, yt, yz⟩ := y
                      have k1 : (k : Int) < (i : Int) := by omega
                      have k2 : (k : Int) < (l.length : Int) := by omega
                      clear K4 hy
                      by_cases hyp : yp = p
                      · subst hyp
                        by_cases h0 : ys = 0
                        · subst h0
                          go_wp2_with fail
                          go_quiet (fail)
                          go_wp2
                          go_ret
                          exact ⟨6, rfl, (fun h => absurd h (by decide)), B3.trans ((below_drewN hb _).mono s3)⟩
                        · have h0b : (ys == 0) = false := by simpa using h0
                          by_cases h1 : st = 0
                          · subst h1
                            go_wp2_with fail
                            go_quiet (fail)
                            go_wp2
                            go_ret
                            exact ⟨6, rfl, (fun h => absurd h (by decide)), B3.trans ((below_drewN hb _).mono s3)⟩
                          · have h1b : (st == 0) = false := by simpa using h1
                            go_wp2_with fail
                            go_quiet (fail)
                            go_wp2
                            go_roundw
                            case rel => exact ⟨k + 1, by omega, by go_num, below_drewN hb _⟩
                            case measure => simp [intOf]; omega
                      · have hne : (yp.toList == p.toList) = false := by rw [bytes_beq]; exact decide_eq_false hyp
                        have hne2 : ¬ yp.toList = p.toList := fun e => hyp (tl_eq e)
                        clear hyp
                        go_wp2_with fail
                        go_quiet (fail)
                        go_wp2
                        go_roundw
                        case rel => exact ⟨k + 1, by omega, by go_num, below_drewN hb _⟩
                        case measure => simp [intOf]; omega
                    · obtain rfl : k = i := by omega
                      obtain ⟨w4, hw4⟩ : ∃ w4, w4 = wr := ⟨_, rfl⟩
                      rw [← hw4] at hb K4 ⊢
                      have B4 : Below w.heap.size w w4 := B3.trans (hb.mono s3)
                      have s4 := B4.size
                      have K5 := Lib.hid K4
                      clear hw4 g0 g1 K4
                      go_wp2_with fail
                      go_loopw [8] (fun s8 wr => ∃ j : Nat, j ≤ k ∧ s8 = .int .i64 j ∧ Below w4.heap.size w4 wr) (fun s8 _ => k - (intOf s8).toNat)
                      case atStart => exact ⟨0, Nat.zero_le _, rfl, Below.refl _ _⟩
                      case round =>
                        obtain ⟨j, hj, rfl, hb⟩ := hrel
                        have K6 := (hb.block G (Array.getElem?_eq_some_iff.1 K5.out).1).trans K5.out
                        have g0 : wr.cell? ⟨G, 0, none⟩ = some (.string p) := cell_of_row wr G 0 _ _ (0, 0) K6
                        have j0 : (0 : Int) ≤ (j : Int) := Int.natCast_nonneg _
                        by_cases hlt : j < k
                        · obtain ⟨y, hy⟩ : ∃ y, l[j]? = some y := ⟨_, List.getElem?_eq_getElem (by omega)⟩
                          obtain ⟨ad', had, c0, c1, c2, c3, c4, c5⟩ := Ents.at_ ((HO.out.below B4).below hb) hy
                          obtain rfl := Option.some.inj had
                          have CL := Lib.hid fun W => refClash_any y.1 p W (HS.out y (List.mem_of_getElem? hy)) HSP.out
                          obtain ⟨yp, ys, ym, yd, yt, yz⟩ := y
                          have k1 : (j : Int) < (k : Int) := by omega
                          have k2 : (j : Int) < (l.length : Int) := by omega
                          obtain ⟨cl, hcl⟩ : ∃ cl, cl = cls yp.data.toList p.data.toList := ⟨_, rfl⟩
                          have CL : Hid (∀ W, Calls Try.prog 52 #[.string yp, .string p] W fun e w' => e = .returned (.bool cl) ∧ w' = W) := Lib.hid fun W => (CL.out W).mono fun e w' ⟨he, hw⟩ => ⟨by rw [he, hcl], hw.symm⟩
                          clear K6 hy hcl
                          go_wp2_with fail
                          go_quiet ((go_at_call 52; exact Calls.quiet_of_same (CL.out _)))
                          cases cl with
                          | true =>
                            go_wp2
                            go_ret
                            exact ⟨11, rfl, (fun h => absurd h (by decide)), B4.trans ((below_drewN hb _).mono s4)⟩
                          | false =>
                            go_wp2
                            go_roundw
                            case rel => exact ⟨j + 1, by omega, by go_num, below_drewN hb _⟩
                            case measure => simp [intOf]; omega
                        · obtain rfl : j = k := by omega
                          go_wp2
                          go_ret
                          exact ⟨0, rfl, fun _ => HF.out, B4.trans (hb.mono s4)⟩
                · obtain ⟨n, hn⟩ : ∃ n, i = n + 1 := ⟨i - 1, by omega⟩
                  have n00 : (0 : Int) < (i : Int) := by omega
                  have n01 : 0 < i := by omega
                  have nb : decide ((0 : Int) < (i : Int)) = true := decide_eq_true n00
                  have nb2 : decide (0 < i) = true := decide_eq_true n01
                  have hw1 : IntKind.i64.wrap ((i : Int) - 1) = (n : Int) := by rw [IntKind.wrap_i64] <;> omega
                  have z0 : (0 : Int) ≤ (n : Int) := Int.natCast_nonneg _
                  have z1 : (n : Int) < (l.length : Int) := by omega
                  obtain ⟨y, hy⟩ : ∃ y, l[n]? = some y := ⟨_, List.getElem?_eq_getElem (by omega)⟩
                  obtain ⟨ad', had, c0, c1, c2, c3, c4, c5⟩ := Ents.at_ (HO.out.below B2) hy
                  obtain rfl := Option.some.inj had
                  have HP := Lib.hid fun a b => okAt_succ (l := l) hn HXI.out hy HST.out.1 HST.out.2 a b
                  obtain ⟨yp, ys, ym, yd, yt, yz⟩ := y
                  have hlc := less_cb yp p
                  clear hy hn hi0
                  by_cases hc : cb yp p < 0
                  · have hls : Op.bytesLess yp.toList p.toList = true := by rw [hlc]; exact decide_eq_true hc
                    have hne : (yp.toList == p.toList) = false := by rw [bytes_beq]; exact decide_eq_false (cb_ne hc)
                    have hne2 : ¬ yp.toList = p.toList := fun e => cb_ne hc (tl_eq e)
                    have HF : Hid (okAt l i) := Lib.hid (HP.out (by show ¬ cb p yp < 0; rw [cb_swap yp p]; omega) (fun e => absurd e (cb_ne hc)))
                    clear hlc hc
                    go_wp2_with (go_at_call 51; refine (mode_any _ _).mono ?_; rintro e w' ⟨rfl, hw'⟩; rw [hw']; clear hw' w')
                    go_quiet (fail)
                    obtain ⟨w3, hw3⟩ : ∃ w3, w3 = w2.drewN nq := ⟨_, rfl⟩
                    have B3 : Below w.heap.size w w3 := by rw [hw3]; exact below_drewN B2 _
                    have k3 : w3.heap[G]? = some (.cells #[.string p, .int .i64 st, .int .i64 m, .string d, .int .i64 tm, .int .i64 sz] 64 (0, 0)) := by rw [hw3]; exact K2.out
                    rw [← hw3]
                    clear hw3
                    have s3 := B3.size
                    have K3 := Lib.hid k3
                    have n0 : (0 : Int) ≤ (i : Int) := Int.natCast_nonneg _
                    clear k3
                    go_wp2_with fail
                    go_loopw [7] (fun s7 wr => ∃ k : Nat, k ≤ i ∧ s7 = .int .i64 k ∧ Below w3.heap.size w3 wr) (fun s7 _ => i - (intOf s7).toNat)
                    case atStart => exact ⟨0, Nat.zero_le _, rfl, Below.refl _ _⟩
                    case round =>
                      obtain ⟨k, hk, rfl, hb⟩ := hrel
                      have K4 := (hb.block G (Array.getElem?_eq_some_iff.1 K3.out).1).trans K3.out
                      have g0 : wr.cell? ⟨G, 0, none⟩ = some (.string p) := cell_of_row wr G 0 _ _ (0, 0) K4
                      have g1 : wr.cell? ⟨G, 1, none⟩ = some (.int .i64 st) := cell_of_row wr G 1 _ _ (0, 0) K4
                      have k0 : (0 : Int) ≤ (k : Int) := Int.natCast_nonneg _
                      by_cases hlt : k < i
                      · obtain ⟨y, hy⟩ : ∃ y, l[k]? = some y := ⟨_, List.getElem?_eq_getElem (by omega)⟩
                        obtain ⟨ad', had, c0, c1, c2, c3, c4, c5⟩ := Ents.at_ ((HO.out.below B3).below hb) hy
                        obtain rfl := Option.some.inj had
                        obtain ⟨yp, ys, ym, yd, yt, yz⟩ := y
                        have k1 : (k : Int) < (i : Int) := by omega
                        have k2 : (k : Int) < (l.length : Int) := by omega
                        clear K4 hy
                        by_cases hyp : yp = p
                        · subst hyp
                          by_cases h0 : ys = 0
                          · subst h0
                            go_wp2_with fail
                            go_quiet (fail)
                            go_wp2
                            go_ret
                            exact ⟨6, rfl, (fun h => absurd h (by decide)), B3.trans ((below_drewN hb _).mono s3)⟩
                          · have h0b : (ys == 0) = false := by simpa using h0
                            by_cases h1 : st = 0
                            · subst h1
                              go_wp2_with fail
                              go_quiet (fail)
                              go_wp2
                              go_ret
                              exact ⟨6, rfl, (fun h => absurd h (by decide)), B3.trans ((below_drewN hb _).mono s3)⟩
                            · have h1b : (st == 0) = false := by simpa using h1
                              go_wp2_with fail
                              go_quiet (fail)
                              go_wp2
                              go_roundw
                              case rel => exact ⟨k + 1, by omega, by go_num, below_drewN hb _⟩
                              case measure => simp [intOf]; omega
                        · have hne : (yp.toList == p.toList) = false := by rw [bytes_beq]; exact decide_eq_false hyp
                          have hne2 : ¬ yp.toList = p.toList := fun e => hyp (tl_eq e)
                          clear hyp
                          go_wp2_with fail
                          go_quiet (fail)
                          go_wp2
                          go_roundw
                          case rel => exact ⟨k + 1, by omega, by go_num, below_drewN hb _⟩
                          case measure => simp [intOf]; omega
                      · obtain rfl : k = i := by omega
                        obtain ⟨w4, hw4⟩ : ∃ w4, w4 = wr := ⟨_, rfl⟩
                        rw [← hw4] at hb K4 ⊢
                        have B4 : Below w.heap.size w w4 := B3.trans (hb.mono s3)
                        have s4 := B4.size
                        have K5 := Lib.hid K4
                        clear hw4 g0 g1 K4
                        go_wp2_with fail
                        go_loopw [8] (fun s8 wr => ∃ j : Nat, j ≤ k ∧ s8 = .int .i64 j ∧ Below w4.heap.size w4 wr) (fun s8 _ => k - (intOf s8).toNat)
                        case atStart => exact ⟨0, Nat.zero_le _, rfl, Below.refl _ _⟩
                        case round =>
                          obtain ⟨j, hj, rfl, hb⟩ := hrel
                          have K6 := (hb.block G (Array.getElem?_eq_some_iff.1 K5.out).1).trans K5.out
                          have g0 : wr.cell? ⟨G, 0, none⟩ = some (.string p) := cell_of_row wr G 0 _ _ (0, 0) K6
                          have j0 : (0 : Int) ≤ (j : Int) := Int.natCast_nonneg _
                          by_cases hlt : j < k
                          · obtain ⟨y, hy⟩ : ∃ y, l[j]? = some y := ⟨_, List.getElem?_eq_getElem (by omega)⟩
                            obtain ⟨ad', had, c0, c1, c2, c3, c4, c5⟩ := Ents.at_ ((HO.out.below B4).below hb) hy
                            obtain rfl := Option.some.inj had
                            have CL := Lib.hid fun W => refClash_any y.1 p W (HS.out y (List.mem_of_getElem? hy)) HSP.out
                            obtain ⟨yp, ys, ym, yd, yt, yz⟩ := y
                            have k1 : (j : Int) < (k : Int) := by omega
                            have k2 : (j : Int) < (l.length : Int) := by omega
                            obtain ⟨cl, hcl⟩ : ∃ cl, cl = cls yp.data.toList p.data.toList := ⟨_, rfl⟩
                            have CL : Hid (∀ W, Calls Try.prog 52 #[.string yp, .string p] W fun e w' => e = .returned (.bool cl) ∧ w' = W) := Lib.hid fun W => (CL.out W).mono fun e w' ⟨he, hw⟩ => ⟨by rw [he, hcl], hw.symm⟩
                            clear K6 hy hcl
                            go_wp2_with fail
                            go_quiet ((go_at_call 52; exact Calls.quiet_of_same (CL.out _)))
                            cases cl with
                            | true =>
                              go_wp2
                              go_ret
                              exact ⟨11, rfl, (fun h => absurd h (by decide)), B4.trans ((below_drewN hb _).mono s4)⟩
                            | false =>
                              go_wp2
                              go_roundw
                              case rel => exact ⟨j + 1, by omega, by go_num, below_drewN hb _⟩
                              case measure => simp [intOf]; omega
                          · obtain rfl : j = k := by omega
                            go_wp2
                            go_ret
                            exact ⟨0, rfl, fun _ => HF.out, B4.trans (hb.mono s4)⟩
                  · have hls : Op.bytesLess yp.toList p.toList = false := by rw [hlc]; exact decide_eq_false hc
                    by_cases he : yp = p
                    · have he2 : p = yp := he.symm
                      clear he
                      subst he2
                      by_cases hge : st ≤ ys
                      · clear hlc hc
                        go_wp2_with (go_at_call 51; refine (mode_any _ _).mono ?_; rintro e w' ⟨rfl, hw'⟩; rw [hw']; clear hw' w')
                        go_quiet (fail)
                        go_wp2
                        go_ret
                        exact ⟨6, rfl, (fun h => absurd h (by decide)), below_drewN B2 _⟩
                      · have HF : Hid (okAt l i) := Lib.hid (HP.out (by show ¬ cb p p < 0; rw [cb_self]; omega) (fun _ => by show ys < st; omega))
                        have hge2 : ys < st := by omega
                        clear hlc hc
                        go_wp2_with (go_at_call 51; refine (mode_any _ _).mono ?_; rintro e w' ⟨rfl, hw'⟩; rw [hw']; clear hw' w')
                        go_quiet (fail)
                        obtain ⟨w3, hw3⟩ : ∃ w3, w3 = w2.drewN nq := ⟨_, rfl⟩
                        have B3 : Below w.heap.size w w3 := by rw [hw3]; exact below_drewN B2 _
                        have k3 : w3.heap[G]? = some (.cells #[.string p, .int .i64 st, .int .i64 m, .string d, .int .i64 tm, .int .i64 sz] 64 (0, 0)) := by rw [hw3]; exact K2.out
                        rw [← hw3]
                        clear hw3
                        have s3 := B3.size
                        have K3 := Lib.hid k3
                        have n0 : (0 : Int) ≤ (i : Int) := Int.natCast_nonneg _
                        clear k3
                        go_wp2_with fail
                        go_loopw [7] (fun s7 wr => ∃ k : Nat, k ≤ i ∧ s7 = .int .i64 k ∧ Below w3.heap.size w3 wr) (fun s7 _ => i - (intOf s7).toNat)
                        case atStart => exact ⟨0, Nat.zero_le _, rfl, Below.refl _ _⟩
                        case round =>
                          obtain ⟨k, hk, rfl, hb⟩ := hrel
                          have K4 := (hb.block G (Array.getElem?_eq_some_iff.1 K3.out).1).trans K3.out
                          have g0 : wr.cell? ⟨G, 0, none⟩ = some (.string p) := cell_of_row wr G 0 _ _ (0, 0) K4
                          have g1 : wr.cell? ⟨G, 1, none⟩ = some (.int .i64 st) := cell_of_row wr G 1 _ _ (0, 0) K4
                          have k0 : (0 : Int) ≤ (k : Int) := Int.natCast_nonneg _
                          by_cases hlt : k < i
                          · obtain ⟨y, hy⟩ : ∃ y, l[k]? = some y := ⟨_, List.getElem?_eq_getElem (by omega)⟩
                            obtain ⟨ad', had, c0, c1, c2, c3, c4, c5⟩ := Ents.at_ ((HO.out.below B3).below hb) hy
                            obtain rfl := Option.some.inj had
                            obtain ⟨yp, ys, ym, yd, yt, yz⟩ := y
                            have k1 : (k : Int) < (i : Int) := by omega
                            have k2 : (k : Int) < (l.length : Int) := by omega
                            clear K4 hy
                            by_cases hyp : yp = p
                            · subst hyp
                              by_cases h0 : ys = 0
                              · subst h0
                                go_wp2_with fail
                                go_quiet (fail)
                                go_wp2
                                go_ret
                                exact ⟨6, rfl, (fun h => absurd h (by decide)), B3.trans ((below_drewN hb _).mono s3)⟩
                              · have h0b : (ys == 0) = false := by simpa using h0
                                by_cases h1 : st = 0
                                · subst h1
                                  go_wp2_with fail
                                  go_quiet (fail)
                                  go_wp2
                                  go_ret
                                  exact ⟨6, rfl, (fun h => absurd h (by decide)), B3.trans ((below_drewN hb _).mono s3)⟩
                                · have h1b : (st == 0) = false := by simpa using h1
                                  go_wp2_with fail
                                  go_quiet (fail)
                                  go_wp2
                                  go_roundw
                                  case rel => exact ⟨k + 1, by omega, by go_num, below_drewN hb _⟩
                                  case measure => simp [intOf]; omega
                            · have hne : (yp.toList == p.toList) = false := by rw [bytes_beq]; exact decide_eq_false hyp
                              have hne2 : ¬ yp.toList = p.toList := fun e => hyp (tl_eq e)
                              clear hyp
                              go_wp2_with fail
                              go_quiet (fail)
                              go_wp2
                              go_roundw
                              case rel => exact ⟨k + 1, by omega, by go_num, below_drewN hb _⟩
                              case measure => simp [intOf]; omega
                          · obtain rfl : k = i := by omega
                            obtain ⟨w4, hw4⟩ : ∃ w4, w4 = wr := ⟨_, rfl⟩
                            rw [← hw4] at hb K4 ⊢
                            have B4 : Below w.heap.size w w4 := B3.trans (hb.mono s3)
                            have s4 := B4.size
                            have K5 := Lib.hid K4
                            clear hw4 g0 g1 K4
                            go_wp2_with fail
                            go_loopw [8] (fun s8 wr => ∃ j : Nat, j ≤ k ∧ s8 = .int .i64 j ∧ Below w4.heap.size w4 wr) (fun s8 _ => k - (intOf s8).toNat)
                            case atStart => exact ⟨0, Nat.zero_le _, rfl, Below.refl _ _⟩
                            case round =>
                              obtain ⟨j, hj, rfl, hb⟩ := hrel
                              have K6 := (hb.block G (Array.getElem?_eq_some_iff.1 K5.out).1).trans K5.out
                              have g0 : wr.cell? ⟨G, 0, none⟩ = some (.string p) := cell_of_row wr G 0 _ _ (0, 0) K6
                              have j0 : (0 : Int) ≤ (j : Int) := Int.natCast_nonneg _
                              by_cases hlt : j < k
                              · obtain ⟨y, hy⟩ : ∃ y, l[j]? = some y := ⟨_, List.getElem?_eq_getElem (by omega)⟩
                                obtain ⟨ad', had, c0, c1, c2, c3, c4, c5⟩ := Ents.at_ ((HO.out.below B4).below hb) hy
                                obtain rfl := Option.some.inj had
                                have CL := Lib.hid fun W => refClash_any y.1 p W (HS.out y (List.mem_of_getElem? hy)) HSP.out
                                obtain ⟨yp, ys, ym, yd, yt, yz⟩ := y
                                have k1 : (j : Int) < (k : Int) := by omega
                                have k2 : (j : Int) < (l.length : Int) := by omega
                                obtain ⟨cl, hcl⟩ : ∃ cl, cl = cls yp.data.toList p.data.toList := ⟨_, rfl⟩
                                have CL : Hid (∀ W, Calls Try.prog 52 #[.string yp, .string p] W fun e w' => e = .returned (.bool cl) ∧ w' = W) := Lib.hid fun W => (CL.out W).mono fun e w' ⟨he, hw⟩ => ⟨by rw [he, hcl], hw.symm⟩
                                clear K6 hy hcl
                                go_wp2_with fail
                                go_quiet ((go_at_call 52; exact Calls.quiet_of_same (CL.out _)))
                                cases cl with
                                | true =>
                                  go_wp2
                                  go_ret
                                  exact ⟨11, rfl, (fun h => absurd h (by decide)), B4.trans ((below_drewN hb _).mono s4)⟩
                                | false =>
                                  go_wp2
                                  go_roundw
                                  case rel => exact ⟨j + 1, by omega, by go_num, below_drewN hb _⟩
                                  case measure => simp [intOf]; omega
                              · obtain rfl : j = k := by omega
                                go_wp2
                                go_ret
                                exact ⟨0, rfl, fun _ => HF.out, B4.trans (hb.mono s4)⟩
                    · have hne : (yp.toList == p.toList) = false := by rw [bytes_beq]; exact decide_eq_false he
                      have hne2 : ¬ yp.toList = p.toList := fun e => he (tl_eq e)
                      clear hlc hc he
                      go_wp2_with (go_at_call 51; refine (mode_any _ _).mono ?_; rintro e w' ⟨rfl, hw'⟩; rw [hw']; clear hw' w')
                      go_quiet (fail)
                      go_wp2
                      go_ret
                      exact ⟨6, rfl, (fun h => absurd h (by decide)), below_drewN B2 _⟩
  · have hcb : (ck == 0) = false := by simpa using hc0
    have HC := Lib.hid hc0
    go_wp2
    go_ret
    exact ⟨ck, rfl, (fun h => absurd h HC.out), B2⟩
end Go.Proofs.Ytkdoccmflknipaa
