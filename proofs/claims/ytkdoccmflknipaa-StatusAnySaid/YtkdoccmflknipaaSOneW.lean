/-
  The walk of StatusOne.
-/
import Derived.Test.YtkdoccmflknipaaSOne
import Derived.Deep.RegionHeld3
import Derived.Laws.IdiomStrings
namespace Go.Proofs.Ytkdoccmflknipaa
open Go.RowKit

/-- The bytes of a slice that came in. -/
def BytesAt (w : World) (A : Option Addr) (l : List UInt8) : Prop := ∀ ad : Addr, A = some ad → ∀ i, i < l.length → w.cell? (ad.add i) = some (.int .u8 ((l.getD i 0).toNat : Nat))

/-- Three trees in a row. -/
structure Three (w : World) (R : Nat) (r0 r1 r2 : Value) (l0 l1 l2 : List Fl) : Prop where
  row : w.heap[R]? = some (.cells #[r0, r1, r2] 23 (0, 0))
  o0 : OneF l0
  o1 : OneF l1
  o2 : OneF l2
  q0 : Reads 3 cF w r0 l0
  q1 : Reads 3 cF w r1 l1
  q2 : Reads 3 cF w r2 l2
theorem Three.below {w w' : World} {R : Nat} {r0 r1 r2 : Value} {l0 l1 l2 : List Fl} (h : Three w R r0 r1 r2 l0 l1 l2) (hb : Below w.heap.size w w') : Three w' R r0 r1 r2 l0 l1 l2 :=
  ⟨(hb.block R (Array.getElem?_eq_some_iff.1 h.row).1).trans h.row, h.o0, h.o1, h.o2, h.q0.below hb, h.q1.below hb, h.q2.below hb⟩

theorem Three.cells {w : World} {R : Nat} {r0 r1 r2 : Value} {l0 l1 l2 : List Fl} (h : Three w R r0 r1 r2 l0 l1 l2) : w.cell? ⟨R, 0, none⟩ = some r0 ∧ w.cell? ⟨R, 1, none⟩ = some r1 ∧ w.cell? ⟨R, 2, none⟩ = some r2 :=
  ⟨cell_of_row w R 0 _ _ (0, 0) h.row, cell_of_row w R 1 _ _ (0, 0) h.row, cell_of_row w R 2 _ _ (0, 0) h.row⟩

theorem conv_any {w : World} {A : Option Addr} {l : List UInt8} (h : BytesAt w A l) (c : Nat) : ∃ s : ByteArray, ∀ W, Below w.heap.size w W → (convert 47 9 (.slice A l.length c)).run Try.prog W = .ok (.string s) W := by
  cases A with
  | none => exact ⟨ByteArray.empty, fun W _ => run_convert_bytes_nil W 47 5 Try.underlying47 Try.underlying5 l.length c 9 Try.underlying9⟩
  | some a =>
    refine ⟨⟨l.toArray⟩, fun W hb => run_convert_bytes_back W 47 9 5 a c l Try.underlying47 Try.underlying5 Try.underlying9 fun j hj => ?_⟩
    have := h a rfl j hj
    rw [hb.cell (World.block_lt_of_cell? _ _ this), this]
    simp [List.getD_eq_getElem?_getD, List.getElem?_eq_getElem hj]

/-- A store into a cell that holds a slice. -/
theorem reads_set {w : World} {v : Value} {l : List Fl} (h : Reads 3 cF w v l) {p : Addr} {B : Option Addr} {n c : Nat} (hu : w.cell? p = some (.slice B n c)) (x : Value) : Reads 3 cF (w.setCell p x) v l := by
  obtain ⟨A, c', hv, h1, h2, h3, h4⟩ := h
  refine ⟨A, c', hv, h1, h2, h3, fun ad ha i f hf j u hj => ?_⟩
  have hc := h4 ad ha i f hf j u hj
  rw [World.cell?_setCell_other w p _ x (fun e => by
    rw [← e, hu] at hc
    have hcu := Option.some.inj hc
    rw [← hcu] at hj
    match j, hj with
    | 0, hj => simp [cF] at hj
    | 1, hj => simp [cF] at hj
    | 2, hj => simp [cF] at hj
    | j + 3, hj => simp [cF] at hj)]
  exact hc
theorem reads_form {w : World} {v : Value} {l : List Fl} (h : Reads 3 cF w v l) : ∃ A n c, v = .slice A n c := by
  obtain ⟨A, c, h⟩ := h.form
  exact ⟨A, _, c, h⟩

/-- The file laid, and its tree put into the row. -/
def laidW (w : World) (R t : Nat) (s : ByteArray) : World := (w.setCell ⟨R, t, none⟩ (.slice (some ⟨w.heap.size, 0, none⟩) 1 1)).alloc (.cells #[.string pf, .int .i64 1, .string s] 56)
theorem set_size (w : World) (p : Addr) (x : Value) : (w.setCell p x).heap.size = w.heap.size := by simp
theorem laid_new (w : World) (R t : Nat) (s : ByteArray) : Reads 3 cF (laidW w R t s) (.slice (some ⟨w.heap.size, 0, none⟩) 1 1) [(pf, 1, s)] := by
  have h0 := heap_alloc_new (w.setCell ⟨R, t, none⟩ (.slice (some ⟨w.heap.size, 0, none⟩) 1 1)) (.cells #[.string pf, .int .i64 1, .string s] 56)
  rw [set_size] at h0
  exact reads_block (l := [(pf, 1, s)]) h0 rfl (by unfold maxLen; simp)
theorem laid_old {w : World} {R t : Nat} {s : ByteArray} {B : Option Addr} {n c : Nat} (hu : w.cell? ⟨R, t, none⟩ = some (.slice B n c)) {v : Value} {l : List Fl} (h : Reads 3 cF w v l) : Reads 3 cF (laidW w R t s) v l :=
  (reads_set h (B := B) (n := n) (c := c) hu _).alloc _
theorem laid_row {w : World} {R t : Nat} {s : ByteArray} {cs : Array Value} {ty : TypeId} (h : w.heap[R]? = some (.cells cs ty (0, 0))) : (laidW w R t s).heap[R]? = some (.cells (cs.setIfInBounds t (.slice (some ⟨w.heap.size, 0, none⟩) 1 1)) ty (0, 0)) :=
  (heap_alloc_old _ _ (by rw [set_size]; exact (Array.getElem?_eq_some_iff.1 h).1)).trans (set_row _ _ _ _ _ _ _ h)
theorem laid_far {w : World} {R t D : Nat} {s : ByteArray} {o : Obj} (h : w.heap[D]? = some o) (hne : D ≠ R) : (laidW w R t s).heap[D]? = some o :=
  (heap_alloc_old _ _ (by rw [set_size]; exact (Array.getElem?_eq_some_iff.1 h).1)).trans ((Below.heap_setCell _ ⟨R, t, none⟩ _ D hne).trans h)
theorem laid_below {w0 w : World} {B R t : Nat} {s : ByteArray} (h : Below B w0 w) (hB : B ≤ w.heap.size) (hR : B ≤ R) : Below B w0 (laidW w R t s) := (h.setCell (p := ⟨R, t, none⟩) hR _).alloc (by rw [set_size]; exact hB) _

theorem one_long (w : World) (A B C : Option Addr) (n m r c d f : Nat) (k : Int) (hn : n ≤ 9223372036854775807) (hm : m ≤ 9223372036854775807) (hr : r ≤ 9223372036854775807) (h : 100 < n ∨ 100 < m ∨ 100 < r) :
    Calls Try.prog 5 #[.slice A n c, .slice B m d, .slice C r f, .int .u8 k] w (YesTo w) := by
  by_cases h1 : (100 : Int) < (n : Int)
  · go_enter Try.func5, Try.ntmps5
    go_wp2_with fail
    refine (known_yes w).mono ?_
    rintro e w1 ⟨rfl, b1⟩
    go_wp2_with fail
    go_ret
    exact ⟨rfl, b1⟩
  · by_cases h2 : (100 : Int) < (m : Int)
    · go_enter Try.func5, Try.ntmps5
      go_wp2_with fail
      refine (known_yes w).mono ?_
      rintro e w1 ⟨rfl, b1⟩
      go_wp2_with fail
      go_ret
      exact ⟨rfl, b1⟩
    · have h3 : (100 : Int) < (r : Int) := by omega
      go_enter Try.func5, Try.ntmps5
      go_wp2_with fail
      refine (known_yes w).mono ?_
      rintro e w1 ⟨rfl, b1⟩
      go_wp2_with fail
      go_ret
      exact ⟨rfl, b1⟩

set_option maxRecDepth 100000 in
set_option maxHeartbeats 4000000 in
theorem one_walk (w : World) (A B C : Option Addr) (x y z : List UInt8) (c d f : Nat) (k : Int) (hx : BytesAt w A x) (hy : BytesAt w B y) (hz : BytesAt w C z) (nx : x.length ≤ 100) (ny : y.length ≤ 100) (nz : z.length ≤ 100) (hk : 0 ≤ k ∧ k < 256) :
    Calls Try.prog 5 #[.slice A x.length c, .slice B y.length d, .slice C z.length f, .int .u8 k] w (YesTo w) := by
  have e1 : ¬ (100 : Int) < (x.length : Int) := by omega
  have e2 : ¬ (100 : Int) < (y.length : Int) := by omega
  have e3 : ¬ (100 : Int) < (z.length : Int) := by omega
  obtain ⟨s0, C0⟩ := conv_any hx c
  obtain ⟨s1, C1⟩ := conv_any hy d
  obtain ⟨s2, C2⟩ := conv_any hz f
  have k0 := hk.1
  have k1 := hk.2
  clear hx hy hz hk
  go_enter Try.func5, Try.ntmps5
  go_wp2_with fail
  refine (known_yes w).mono ?_
  rintro e w1 ⟨rfl, b1⟩
  have b2 := b1.alloc b1.size (.cells #[.slice none 0 0, .slice none 0 0, .slice none 0 0] 23)
  have c0 := C0 _ b2
  have c1 := C1 _ b2
  have c2 := C2 _ b2
  have h1 := heap_alloc2_old w1 (.cells #[.slice none 0 0, .slice none 0 0, .slice none 0 0] 23) (.cells #[.string s0, .string s1, .string s2] 9)
  have h2 := heap_alloc2_new w1 (.cells #[.slice none 0 0, .slice none 0 0, .slice none 0 0] 23) (.cells #[.string s0, .string s1, .string s2] 9)
  have b3 := b2.alloc b2.size (.cells #[.string s0, .string s1, .string s2] 9)
  have HW := Lib.hid b1.size
  clear C0 C1 C2 b1 b2
  go_wp2_with fail
  obtain ⟨R, hR⟩ : ∃ R, R = w1.heap.size := ⟨_, rfl⟩
  have HR : Hid (w.heap.size ≤ R) := Lib.hid (by rw [hR]; exact HW.out)
  obtain ⟨W3, hW3⟩ : ∃ W3, W3 = (w1.alloc (.cells #[.slice none 0 0, .slice none 0 0, .slice none 0 0] 23)).alloc (.cells #[.string s0, .string s1, .string s2] 9) := ⟨_, rfl⟩
  rw [← hW3] at h1 h2 b3 ⊢
  rw [← hR] at h1 h2 ⊢
  clear hW3 hR c0 c1 c2 HW
  have T0 : Three W3 R (.slice none 0 0) (.slice none 0 0) (.slice none 0 0) [] [] [] := ⟨h1, .inl rfl, .inl rfl, .inl rfl, Reads.nil _, Reads.nil _, Reads.nil _⟩
  clear h1
  go_loopw [11] (fun s11 wr => ∃ (t : Nat) (r0 r1 r2 : Value) (l0 l1 l2 : List Fl), t ≤ 3 ∧ s11 = .int .i64 t ∧ Three wr R r0 r1 r2 l0 l1 l2 ∧ wr.heap[R + 1]? = some (.cells #[.string s0, .string s1, .string s2] 9 (0, 0)) ∧ Below w.heap.size w wr) (fun s11 _ => 3 - (intOf s11).toNat)
  case atStart => exact ⟨0, _, _, _, _, _, _, by omega, rfl, T0, h2, b3⟩
  case round =>
    clear T0 h2 b3
    obtain ⟨t, r0, r1, r2, l0, l1, l2, ht, rfl, T, hD, hb⟩ := hrel
    obtain ⟨A0, n0, c0, rfl⟩ := reads_form T.q0
    obtain ⟨A1, n1, c1, rfl⟩ := reads_form T.q1
    obtain ⟨A2, n2, c2, rfl⟩ := reads_form T.q2
    have x0 : wr.cell? ⟨R, 0, none⟩ = some (.slice A0 n0 c0) := cell_of_row wr R 0 _ _ (0, 0) T.row
    have x1 : wr.cell? ⟨R, 1, none⟩ = some (.slice A1 n1 c1) := cell_of_row wr R 1 _ _ (0, 0) T.row
    have x2 : wr.cell? ⟨R, 2, none⟩ = some (.slice A2 n2 c2) := cell_of_row wr R 2 _ _ (0, 0) T.row
    have f0 : wr.frozen? ⟨R, 0, none⟩ = false := by simp [World.frozen?, T.row]
    have f1 : wr.frozen? ⟨R, 1, none⟩ = false := by simp [World.frozen?, T.row]
    have f2 : wr.frozen? ⟨R, 2, none⟩ = false := by simp [World.frozen?, T.row]
    have y0 : wr.cell? ⟨R + 1, 0, none⟩ = some (.string s0) := cell_of_row wr (R + 1) 0 _ _ (0, 0) hD
    have y1 : wr.cell? ⟨R + 1, 1, none⟩ = some (.string s1) := cell_of_row wr (R + 1) 1 _ _ (0, 0) hD
    have y2 : wr.cell? ⟨R + 1, 2, none⟩ = some (.string s2) := cell_of_row wr (R + 1) 2 _ _ (0, 0) hD
    have hRl : R < wr.heap.size := (Array.getElem?_eq_some_iff.1 T.row).1
    have hsz := hb.size
    have HT := Lib.hid T
    have HD := Lib.hid hD
    clear T hD
    by_cases h0 : t = 0
    · subst h0
      go_wp2_with fail
      · have HL := laid_row (t := 0) (s := s0) HT.out.row
        exact ⟨⟨1, .slice (some ⟨wr.heap.size, 0, none⟩) 1 1, _, _, [(pf, 1, s0)], _, _, by omega, rfl, (⟨HL, .inr ⟨_, rfl⟩, HT.out.o1, HT.out.o2, laid_new wr R 0 s0, laid_old x0 HT.out.q1, laid_old x0 HT.out.q2⟩ : Three (laidW wr R 0 s0) R _ _ _ _ _ _), laid_far (t := 0) (s := s0) HD.out (by omega), laid_below (t := 0) (s := s0) hb hsz HR.out⟩, by simp [intOf]⟩
      · exact ⟨⟨1, _, _, _, _, _, _, by omega, rfl, HT.out, HD.out, hb⟩, by simp [intOf]⟩
    · by_cases h1 : t = 1
      · subst h1
        go_wp2_with fail
        · have HL := laid_row (t := 1) (s := s1) HT.out.row
          exact ⟨⟨2, _, .slice (some ⟨wr.heap.size, 0, none⟩) 1 1, _, _, [(pf, 1, s1)], _, by omega, rfl, (⟨HL, HT.out.o0, .inr ⟨_, rfl⟩, HT.out.o2, laid_old x1 HT.out.q0, laid_new wr R 1 s1, laid_old x1 HT.out.q2⟩ : Three (laidW wr R 1 s1) R _ _ _ _ _ _), laid_far (t := 1) (s := s1) HD.out (by omega), laid_below (t := 1) (s := s1) hb hsz HR.out⟩, by simp [intOf]⟩
        · exact ⟨⟨2, _, _, _, _, _, _, by omega, rfl, HT.out, HD.out, hb⟩, by simp [intOf]⟩
      · by_cases h2 : t = 2
        · subst h2
          go_wp2_with fail
          · have HL := laid_row (t := 2) (s := s2) HT.out.row
            exact ⟨⟨3, _, _, .slice (some ⟨wr.heap.size, 0, none⟩) 1 1, _, _, [(pf, 1, s2)], by omega, rfl, (⟨HL, HT.out.o0, HT.out.o1, .inr ⟨_, rfl⟩, laid_old x2 HT.out.q0, laid_old x2 HT.out.q1, laid_new wr R 2 s2⟩ : Three (laidW wr R 2 s2) R _ _ _ _ _ _), laid_far (t := 2) (s := s2) HD.out (by omega), laid_below (t := 2) (s := s2) hb hsz HR.out⟩, by simp [intOf]⟩
          · exact ⟨⟨3, _, _, _, _, _, _, by omega, rfl, HT.out, HD.out, hb⟩, by simp [intOf]⟩
        · obtain rfl : t = 3 := by omega
          have P := HT.out
          have HS : Hid (wr.drew.cell? ⟨R, 0, none⟩ = some (.slice A0 n0 c0) ∧ wr.drew.cell? ⟨R, 1, none⟩ = some (.slice A1 n1 c1) ∧ wr.drew.cell? ⟨R, 2, none⟩ = some (.slice A2 n2 c2)) := Lib.hid ⟨x0, x1, x2⟩
          have z0 := HS.out
          have m1 := Nat.le_trans P.o1.len (by decide : 1 ≤ 100000)
          have OF := Lib.hid (of_any wr.drew _ l1 P.q1 m1)
          have HL := Lib.hid (show ∀ W u, Below wr.heap.size wr W → Reads 6 cE W u (l1.map toE) → Calls Try.prog 12 #[.slice A0 n0 c0, u, .slice A2 n2 c2] W (OwnTo 58 3 cL (rowsOf l0 (l1.map toE) l2) W) from fun W u hW hu =>
            rows_any W _ _ _ l0 (l1.map toE) l2 (P.q0.below hW) hu (P.q2.below hW) (Nat.le_trans P.o0.len (by decide)) (by rw [List.length_map]; exact Nat.le_trans P.o1.len (by decide)) (Nat.le_trans P.o2.len (by decide)) P.o0.rise (by rw [stageE_toE]; exact P.o1.rise) P.o2.rise)
          clear P m1 x0 x1 x2 y0 y1 y2 f0 f1 f2
          go_wp2_with fail
          go_region_held3 (fun w' => w'.cell? ⟨R, 0, none⟩ = some (.slice A0 n0 c0) ∧ w'.cell? ⟨R, 1, none⟩ = some (.slice A1 n1 c1) ∧ w'.cell? ⟨R, 2, none⟩ = some (.slice A2 n2 c2)) (first | exact z6 | exact z5 | exact z0) (first
            | (go_at_call 12; (with_reducible refine (HL.out w5 _ B5 R5.out).mono ?_); rintro e w6 ⟨v6, rfl, o6, b6⟩; have O6 := Lib.hid o6; have B6 := B5.trans (b6.mono B5.size); have z6 := (HT.out.below B6).cells; clear o6 b6)
            | (go_at_call 23; (with_reducible refine OF.out.mono ?_); rintro e w5 ⟨v5, rfl, o5, b5⟩; have R5 := Lib.hid (Reads.of_own cE_len o5); have B5 : Below wr.heap.size wr w5 := ((Below.refl _ _).drew).trans b5; have z5 := (HT.out.below B5).cells; clear o5 b5))
          have T6 := HT.out.below B6
          have LX := Lib.hid (show ∀ n, Calls Try.prog 24 #[.slice A0 n0 c0, .slice A1 n1 c1, .int .u8 65] (w6.drewN n) (fun e w' => e = .returned (.int .u8 (letS l0 l1 65)) ∧ ∃ q, w' = (w6.drewN n).drewN q) from fun n => letter_any _ _ _ l0 l1 65 (T6.q0.drewN n) (T6.q1.drewN n))
          have P0 := Lib.hid T6.o0.rise
          have HV := Lib.hid (one_rows T6.o0 T6.o1 T6.o2)
          obtain ⟨X, hX⟩ : ∃ X, X = letS l0 l1 65 := ⟨_, rfl⟩
          obtain ⟨Y, hY⟩ : ∃ Y, Y = letS l1 l2 63 := ⟨_, rfl⟩
          have O7 := Lib.hid (show w6.ownsRow w5.heap.size 58 3 v6 (rowsOf l0 (l1.map toE) l2).length ((rowsOf l0 (l1.map toE) l2).flatMap cL) from O6.out)
          rw [HV.out, ← hX, ← hY] at O7
          rw [← hX] at LX
          have HY := Lib.hid hY
          have BW := Lib.hid (hb.trans (B6.mono hsz))
          have HT6 := Lib.hid T6
          clear HT z0 z5 z6 OF HL HS B5 R5 T6 O6 HV hX hY B6
          have z6 := HT6.out.cells
          go_wp2_with fail
          go_quiet ((go_at_call 24; exact Calls.quiet_of (LX.out _)))
          obtain ⟨w7, hw7⟩ : ∃ w7, w7 = w6.drewN nq := ⟨_, rfl⟩
          have b67 : Below w6.heap.size w6 w7 := by rw [hw7]; exact below_drewN (Below.refl _ _) _
          have HT7 := Lib.hid (HT6.out.below b67)
          have O8 := Lib.hid (own_keep O7.out b67)
          have BW7 : Hid (Below w.heap.size w w7) := Lib.hid (by rw [hw7]; exact below_drewN BW.out _)
          rw [← hw7]
          clear hw7 z6 LX HT6 O7 b67 BW
          have LY := Lib.hid (show ∀ n, Calls Try.prog 24 #[.slice A1 n1 c1, .slice A2 n2 c2, .int .u8 63] (w7.drewN n) (fun e w' => e = .returned (.int .u8 (letS l1 l2 63)) ∧ ∃ q, w' = (w7.drewN n).drewN q) from fun n => letter_any _ _ _ l1 l2 63 (HT7.out.q1.drewN n) (HT7.out.q2.drewN n))
          rw [← HY.out] at LY
          have z7 := HT7.out.cells
          go_wp2_with fail
          go_quiet ((go_at_call 24; exact Calls.quiet_of (LY.out _)))
          obtain ⟨w8, hw8⟩ : ∃ w8, w8 = w7.drewN nq := ⟨_, rfl⟩
          have b78 : Below w7.heap.size w7 w8 := by rw [hw8]; exact below_drewN (Below.refl _ _) _
          have HT8 := Lib.hid (HT7.out.below b78)
          have O9 := Lib.hid (own_keep O8.out b78)
          have BW8 : Hid (Below w.heap.size w w8) := Lib.hid (by rw [hw8]; exact below_drewN BW7.out _)
          rw [← hw8]
          clear hw8 z7 LY HT7 O8 b78 BW7
          have z8 := HT8.out.cells
          have RS := Lib.hid (rises_any w8 _ l0 HT8.out.q0 (Nat.le_trans HT8.out.o0.len (by decide)))
          by_cases h32 : X = 32 ∧ Y = 32
          · obtain ⟨rfl, rfl⟩ := h32
            obtain ⟨A6, c6, rfl⟩ : ∃ A6 c6, v6 = .slice A6 0 c6 := by
              have := O9.out
              rw [if_pos ⟨rfl, rfl⟩] at this
              exact own_form this
            clear O9
            go_wp2_with fail
            go_ret
            exact ⟨rfl, BW8.out⟩
          · have O10 := O9.out
            rw [if_neg h32] at O10
            rcases O10.2 with ⟨_, h0⟩ | ⟨g, cap, cur, rfl, hg, hgb, hn, hcm, hcs, ht⟩
            · cases h0
            have u0 : w8.cell? ⟨g, 0, none⟩ = some (.string ⟨#[102]⟩) := O10.cellAt 0 (by simp)
            have u1 : w8.cell? ⟨g, 1, none⟩ = some (.int .u8 X) := O10.cellAt 1 (by simp)
            have u2 : w8.cell? ⟨g, 2, none⟩ = some (.int .u8 Y) := O10.cellAt 2 (by simp)
            simp only [List.length_cons, List.length_nil, Nat.zero_add] at hn ⊢
            clear hg hgb hcs ht O10 O9
            by_cases hX : X = 32
            · subst hX
              have hY : ¬ Y = 32 := fun h => h32 ⟨rfl, h⟩
              have hYb : (Y == 32) = false := by simpa using hY
              clear h32
              go_wp2_with fail
              refine RS.out.mono ?_
              rintro e w9 ⟨b, rfl, hbr, q9, rfl⟩
              obtain rfl : b = true := hbr.2 P0.out
              clear hbr
              go_wp2_with fail
              go_ret
              exact ⟨rfl, below_drewN BW8.out _⟩
            · have hXb : (X == 32) = false := by simpa using hX
              clear h32
              go_wp2_with fail
              refine RS.out.mono ?_
              rintro e w9 ⟨b, rfl, hbr, q9, rfl⟩
              obtain rfl : b = true := hbr.2 P0.out
              clear hbr
              go_wp2_with fail
              go_ret
              exact ⟨rfl, below_drewN BW8.out _⟩
end Go.Proofs.Ytkdoccmflknipaa
