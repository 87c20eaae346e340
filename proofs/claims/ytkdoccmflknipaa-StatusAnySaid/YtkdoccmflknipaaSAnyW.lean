/-
  The walk of StatusAny.
-/
import Derived.Test.YtkdoccmflknipaaSWrong
import Derived.Test.YtkdoccmflknipaaSRefS
import Derived.Test.YtkdoccmflknipaaSLines
import Derived.Laws.IdiomStrings
import Derived.Deep.RegionHeld
namespace Go.Proofs.Ytkdoccmflknipaa
open Go.RowKit

attribute [-go_sem] run_string_add_if
def strB (l : List UInt8) : ByteArray := ⟨l.toArray⟩
theorem strB_size (l : List UInt8) : (strB l).size = l.length := by simp [strB, ByteArray.size]
theorem strB_line (l : List UInt8) (p : ByteArray) (X Y : Int) : ((strB l ++ strB [b8 X, b8 Y, 32]) ++ p) ++ ⟨#[10]⟩ = strB (l ++ lineB (p, X, Y)) := by
  apply ByteArray.ext
  simp [strB, lineB, ByteArray.data_append]
def LinCells (ad : Addr) (i : Nat) (p : ByteArray) (X Y : Int) (W : World) : Prop :=
  W.cell? (ad.add (i * 3)) = some (.string p) ∧ W.cell? ⟨(ad.add (i * 3)).block, (ad.add (i * 3)).off + 1, none⟩ = some (.int .u8 X) ∧ W.cell? ⟨(ad.add (i * 3)).block, (ad.add (i * 3)).off + 2, none⟩ = some (.int .u8 Y)
theorem conv3_cells (wr : World) (X Y : Int) (hX : Let8 X) (hY : Let8 Y) : ∀ j (hj : j < [b8 X, b8 Y, 32].length), (wr.alloc (.cells #[.int .u8 X, .int .u8 Y, .int .u8 32] 5)).drew.cell? ((⟨wr.heap.size, 0, none⟩ : Addr).add j) = some (.int .u8 ([b8 X, b8 Y, 32][j].toNat : Int)) := fun j hj => by
  have h : ∀ (i : Nat) (u : Value), [Value.int .u8 X, .int .u8 Y, .int .u8 32][i]? = some u → (wr.alloc (.cells #[.int .u8 X, .int .u8 Y, .int .u8 32] 5)).drew.cell? ((⟨wr.heap.size, 0, none⟩ : Addr).add i) = some u := World.news_of_block (w := (wr.alloc (.cells #[.int .u8 X, .int .u8 Y, .int .u8 32] 5)).drew) (cs := #[.int .u8 X, .int .u8 Y, .int .u8 32]) (t := 5) (fr := (0, 0)) (heap_alloc_new wr (.cells #[.int .u8 X, .int .u8 Y, .int .u8 32] 5))
  match j, hj with
  | 0, _ =>
    show _ = some (Value.int .u8 (((b8 X).toNat : Nat) : Int))
    rw [b8_toNat hX]
    exact h 0 _ rfl
  | 1, _ =>
    show _ = some (Value.int .u8 (((b8 Y).toNat : Nat) : Int))
    rw [b8_toNat hY]
    exact h 1 _ rfl
  | 2, _ => exact h 2 _ rfl
theorem conv3 (wr : World) (X Y : Int) (hX : Let8 X) (hY : Let8 Y) : (convert 47 9 (.slice (some ⟨wr.heap.size, 0, none⟩) 3 3)).run Try.prog ((wr.alloc (.cells #[.int .u8 X, .int .u8 Y, .int .u8 32] 5)).drew) = .ok (.string (strB [b8 X, b8 Y, 32])) ((wr.alloc (.cells #[.int .u8 X, .int .u8 Y, .int .u8 32] 5)).drew) := by
  have := run_convert_bytes_back (P := Try.prog) ((wr.alloc (.cells #[.int .u8 X, .int .u8 Y, .int .u8 32] 5)).drew) 47 9 5 ⟨wr.heap.size, 0, none⟩ 3 [b8 X, b8 Y, 32] Try.underlying47 Try.underlying5 Try.underlying9 (conv3_cells wr X Y hX hY)
  exact this
theorem unl_let (a b : Option Fl) : Let8 (unl a b) := by
  unfold Let8
  rcases unl_cases a b with h | h | h | h <;> omega
theorem chg_let (a b : Option Fl) : Let8 (chg a b) := by
  unfold chg
  split
  · unfold Let8; omega
  · exact unl_let a b
theorem rows_fit {l wk : List Fl} {ix : List En} (h1 : ∀ x ∈ l, x.1.size ≤ 100) (h2 : ∀ x ∈ ix, x.1.size ≤ 100) (h3 : ∀ x ∈ wk, x.1.size ≤ 100) : ∀ x ∈ rowsOf l ix wk, x.1.size ≤ 1000 ∧ Let8 x.2.1 ∧ Let8 x.2.2 := fun x hx => by
  unfold rowsOf linesOf at hx
  obtain ⟨p, hp, rfl⟩ := List.mem_map.1 (List.mem_filter.1 hx).1
  have hs : p.size ≤ 100 := by
    rcases (allP_mem l ix wk p).1 hp with h | h | h
    · obtain ⟨f, hf, rfl⟩ := List.mem_map.1 h
      exact h1 f hf
    · obtain ⟨f, hf, rfl⟩ := List.mem_map.1 h
      exact h2 f hf
    · obtain ⟨f, hf, rfl⟩ := List.mem_map.1 h
      exact h3 f hf
  unfold lineOf
  split
  · exact ⟨by simp only; omega, by unfold Let8; simp, by unfold Let8; simp⟩
  · exact ⟨by simp only; omega, unl_let _ _, chg_let _ _⟩

set_option maxRecDepth 100000 in
set_option maxHeartbeats 8000000 in
theorem any_walk (w : World) (v u z : Value) (l : List Fl) (ix : List En) (wk : List Fl) (h : Reads 3 cF w v l) (g : Reads 6 cE w u ix) (hz : Reads 3 cF w z wk) : Calls Try.prog 3 #[v, u, z] w (YesTo w) := by
  obtain ⟨A1, c1, rfl⟩ := h.form
  obtain ⟨A2, c2, rfl⟩ := g.form
  obtain ⟨A3, c3, rfl⟩ := hz.form
  have H0 := Lib.hid h
  have G0 := Lib.hid g
  have Z0 := Lib.hid hz
  clear h g hz
  go_enter Try.func3, Try.ntmps3
  go_wp2_with fail
  refine (known_yes w).mono ?_
  rintro e w1 ⟨rfl, B1⟩
  have s1 := B1.size
  go_wp2_with fail
  refine (fewF_any w1 _ l (H0.out.below B1)).mono ?_
  rintro e w2 ⟨b, rfl, hb2, q, hq⟩
  have b2 : Below w1.heap.size w1 w2 := by rw [hq]; exact below_drewN (Below.refl _ _) _
  have B2 : Below w.heap.size w w2 := B1.trans (b2.mono s1)
  clear hq b2
  cases b with
  | false =>
    clear hb2
    go_wp2_with fail
    go_ret
    exact ⟨rfl, B2⟩
  | true =>
    have F2 := Lib.hid (hb2 rfl)
    clear hb2
    have s2 := B2.size
    go_wp2_with fail
    refine (fewF_any w2 _ wk (Z0.out.below B2)).mono ?_
    rintro e w3 ⟨b, rfl, hb3, q, hq⟩
    have b3 : Below w2.heap.size w2 w3 := by rw [hq]; exact below_drewN (Below.refl _ _) _
    have B3 : Below w.heap.size w w3 := B2.trans (b3.mono s2)
    clear hq b3
    cases b with
    | false =>
      clear hb3
      go_wp2_with fail
      go_ret
      exact ⟨rfl, B3⟩
    | true =>
      have F3 := Lib.hid (hb3 rfl)
      clear hb3
      have s3 := B3.size
      go_wp2_with fail
      refine (fewE_any w3 _ ix (G0.out.below B3)).mono ?_
      rintro e w4 ⟨b, rfl, hb4, q, hq⟩
      have b4 : Below w3.heap.size w3 w4 := by rw [hq]; exact below_drewN (Below.refl _ _) _
      have B4 : Below w.heap.size w w4 := B3.trans (b4.mono s3)
      clear hq b4
      cases b with
      | false =>
        clear hb4
        go_wp2_with fail
        go_ret
        exact ⟨rfl, B4⟩
      | true =>
        have F4 := Lib.hid (hb4 rfl)
        clear hb4
        have s4 := B4.size
        go_wp2_with fail
        refine (rises_any w4 _ l (H0.out.below B4) (by have := F2.out.1; omega)).mono ?_
        rintro e w5 ⟨b, rfl, hb5, q, hq⟩
        have b5 : Below w4.heap.size w4 w5 := by rw [hq]; exact below_drewN (Below.refl _ _) _
        have B5 : Below w.heap.size w w5 := B4.trans (b5.mono s4)
        clear hq b5
        cases b with
        | false =>
          clear hb5
          go_wp2_with fail
          go_ret
          exact ⟨rfl, B5⟩
        | true =>
          have F5 := Lib.hid (hb5.1 rfl)
          clear hb5
          have s5 := B5.size
          go_wp2_with fail
          refine (rises_any w5 _ wk (Z0.out.below B5) (by have := F3.out.1; omega)).mono ?_
          rintro e w6 ⟨b, rfl, hb6, q, hq⟩
          have b6 : Below w5.heap.size w5 w6 := by rw [hq]; exact below_drewN (Below.refl _ _) _
          have B6 : Below w.heap.size w w6 := B5.trans (b6.mono s5)
          clear hq b6
          cases b with
          | false =>
            clear hb6
            go_wp2_with fail
            go_ret
            exact ⟨rfl, B6⟩
          | true =>
            have F6 := Lib.hid (hb6.1 rfl)
            clear hb6
            have s6 := B6.size
            go_wp2_with fail
            refine (ofE_any w6 _ ix (G0.out.below B6) (by have := F4.out.1; omega)).mono ?_
            rintro e w7 ⟨v7, rfl, o7, b7⟩
            have B7 : Below w.heap.size w w7 := B6.trans (b7.mono s6)
            have s7 := B7.size
            have R7 := Lib.hid (Reads.of_own cE_len o7)
            clear o7 b7
            go_wp2_with fail
            refine (checkIndex_any w7 _ ix R7.out (by have := F4.out.1; omega) (fun x hx => by have := (F4.out.2 x hx).1; omega)).mono ?_
            rintro e w8 ⟨A, k, c, n, rfl, hok, b8⟩
            have B8 : Below w.heap.size w w8 := B7.trans (b8.mono s7)
            have s8 := B8.size
            have we := wrong_err A k c n w8
            clear b8 R7 B1 B2 B3 B4 B5 B6 B7 s1 s2 s3 s4 s5 s6 s7
            by_cases hn : n = 0
            · have HK := Lib.hid (hok hn)
              subst hn
              clear hok
              have PR := Lib.hid (stage_rise 0 (ok_pair HK.out))
              have SK := Lib.hid (stages_ok HK.out)
              have FIT := Lib.hid (rows_fit (l := l) (ix := ix) (wk := wk) (fun x hx => (F2.out.2 x hx).1) (fun x hx => (F4.out.2 x hx).1) (fun x hx => (F3.out.2 x hx).1))
              have LEN := Lib.hid (show (rowsOf l ix wk).length ≤ 240 from Nat.le_trans (linesOf_len _ _) (Nat.le_trans (allP_len l ix wk) (by have h1 := F2.out.1; have h2 := F4.out.1; have h3 := F3.out.1; omega)))
              obtain ⟨L, hL⟩ : ∃ L, L = rowsOf l ix wk := ⟨_, rfl⟩
              obtain ⟨tp, htp⟩ : ∃ tp, tp = trackP l ix := ⟨_, rfl⟩
              have n1 : l.length ≤ 80 := F2.out.1
              have n2 : wk.length ≤ 80 := F3.out.1
              have n3 : ix.length ≤ 80 := F4.out.1
              have C1 := Lib.hid fun W hW => rows_any W _ _ _ l ix wk (H0.out.below hW) (G0.out.below hW) (Z0.out.below hW) (by omega) (by omega) (by omega) F5.out PR.out F6.out
              have C2 := Lib.hid fun W hW => lawOf_any W _ l (H0.out.below hW) (by omega)
              have C3 := Lib.hid fun W hW => ofE_any W _ ix (G0.out.below hW) (by omega)
              have C4 := Lib.hid fun W hW => lawOf_any W _ wk (Z0.out.below hW) (by omega)
              have C5 := Lib.hid fun W v u z h g hz => refStatus_any W v u z l ix wk h g hz (by omega) (by omega) (by omega) SK.out
              have C6 := Lib.hid fun W hW => tracked_any W _ _ l ix (H0.out.below hW) (G0.out.below hW) (by omega) (by omega)
              have C7 := Lib.hid fun W v u g h => refTrack_any W v u l ix g h (by omega) (by omega) SK.out
              rw [← hL] at C1 C5 FIT LEN
              rw [← htp] at C6 C7
              clear hL htp PR SK
              go_wp2_with fail
              refine (C1.out w8 B8).mono ?_
              rintro e w9 ⟨v9, rfl, o9, b9⟩
              have B9 := B8.trans (b9.mono s8)
              have s9 := B9.size
              have R9 := Lib.hid (Reads.of_own cL_len o9)
              obtain ⟨A9, c9, rfl⟩ := own_form o9
              clear o9 b9 C1 s8 B8
              go_wp2_with fail
              refine (C2.out w9 B9).mono ?_
              rintro e w10 ⟨v10, rfl, o10, b10⟩
              have B10 := B9.trans (b10.mono s9)
              have s10 := B10.size
              have Q9 := Lib.hid (R9.out.below b10)
              have R10 := Lib.hid (own_reads o10)
              obtain ⟨A10, c10, rfl⟩ := own_form o10
              clear o10 b10 R9 B9 s9
              go_wp2_with fail
              refine (C3.out w10 B10).mono ?_
              rintro e w11 ⟨v11, rfl, o11, b11⟩
              have B11 := B10.trans (b11.mono s10)
              have s11 := B11.size
              have P9 := Lib.hid (Q9.out.below b11)
              have P10 := Lib.hid (R10.out.below b11)
              have R11 := Lib.hid (Reads.of_own cE_len o11)
              obtain ⟨A11, c11, rfl⟩ := own_form o11
              clear o11 b11 R10 Q9 B10 s10
              go_wp2_with fail
              refine (C4.out w11 B11).mono ?_
              rintro e w12 ⟨v12, rfl, o12, b12⟩
              have B12 := B11.trans (b12.mono s11)
              have s12 := B12.size
              have Q9 := Lib.hid (P9.out.below b12)
              have Q10 := Lib.hid (P10.out.below b12)
              have Q11 := Lib.hid (R11.out.below b12)
              have R12 := Lib.hid (own_reads o12)
              obtain ⟨A12, c12, rfl⟩ := own_form o12
              clear o12 b12 R11 P9 P10 B11 s11 C4
              go_wp2_with fail
              refine (C5.out w12 _ _ _ Q10.out Q11.out R12.out).mono ?_
              rintro e w13 ⟨v13, rfl, o13, b13⟩
              have B13 := B12.trans (b13.mono s12)
              have s13 := B13.size
              have P9 := Lib.hid (Q9.out.below b13)
              have R13 := Lib.hid (Reads.of_own cL_len o13)
              obtain ⟨A13, c13, rfl⟩ := own_form o13
              clear o13 b13 Q9 Q10 Q11 R12 B12 s12 C5
              go_wp2_with fail
              refine (lines_any w13 _ _ L L P9.out R13.out).mono ?_
              rintro e w14 ⟨rfl, q14, h14⟩
              rw [decide_eq_true rfl]
              have b14 : Below w13.heap.size w13 w14 := by rw [h14]; exact below_drewN (Below.refl _ _) _
              have B14 := B13.trans (b14.mono s13)
              have s14 := B14.size
              have Q9 := Lib.hid (P9.out.below b14)
              have Q13 := Lib.hid (R13.out.below b14)
              clear h14 b14 P9 R13 B13 s13
              go_wp2_with fail
              refine (C6.out w14 B14).mono ?_
              rintro e w15 ⟨v15, rfl, o15, b15⟩
              have B15 := B14.trans (b15.mono s14)
              have s15 := B15.size
              have P9 := Lib.hid (Q9.out.below b15)
              have P13 := Lib.hid (Q13.out.below b15)
              have T15 := Lib.hid (Strs.of_own o15 rfl)
              obtain ⟨A15, c15, rfl⟩ := own_form o15
              clear o15 b15 Q9 Q13 B14 s14 C6
              go_wp2_with fail
              refine (C2.out w15 B15).mono ?_
              rintro e w16 ⟨v16, rfl, o16, b16⟩
              have B16 := B15.trans (b16.mono s15)
              have s16 := B16.size
              have Q9 := Lib.hid (P9.out.below b16)
              have Q13 := Lib.hid (P13.out.below b16)
              have T16 := Lib.hid (T15.out.below b16)
              have R16 := Lib.hid (own_reads o16)
              obtain ⟨A16, c16, rfl⟩ := own_form o16
              clear o16 b16 P9 P13 T15 B15 s15 C2
              go_wp2_with fail
              refine (C3.out w16 B16).mono ?_
              rintro e w17 ⟨v17, rfl, o17, b17⟩
              have B17 := B16.trans (b17.mono s16)
              have s17 := B17.size
              have P9 := Lib.hid (Q9.out.below b17)
              have P13 := Lib.hid (Q13.out.below b17)
              have T17 := Lib.hid (T16.out.below b17)
              have Q16 := Lib.hid (R16.out.below b17)
              have R17 := Lib.hid (Reads.of_own cE_len o17)
              obtain ⟨A17, c17, rfl⟩ := own_form o17
              clear o17 b17 Q9 Q13 T16 R16 B16 s16 C3
              go_wp2_with fail
              refine (C7.out w17 _ _ Q16.out R17.out).mono ?_
              rintro e w18 ⟨v18, rfl, o18, b18⟩
              have B18 := B17.trans (b18.mono s17)
              have s18 := B18.size
              have Q9 := Lib.hid (P9.out.below b18)
              have Q13 := Lib.hid (P13.out.below b18)
              have T18 := Lib.hid (T17.out.below b18)
              have U18 := Lib.hid (Strs.of_own o18 rfl)
              obtain ⟨A18, c18, rfl⟩ := own_form o18
              clear o18 b18 P9 P13 T17 Q16 R17 B17 s17 C7
              go_wp2_with fail
              refine (texts_any w18 _ _ tp tp T18.out U18.out).mono ?_
              rintro e w19 ⟨rfl, q19, h19⟩
              rw [decide_eq_true rfl]
              have b19 : Below w18.heap.size w18 w19 := by rw [h19]; exact below_drewN (Below.refl _ _) _
              have B19 := B18.trans (b19.mono s18)
              have s19 := B19.size
              have P9 := Lib.hid (Q9.out.below b19)
              have P13 := Lib.hid (Q13.out.below b19)
              clear h19 b19 Q9 Q13 T18 U18 B18 s18 H0 G0 Z0 F2 F3 F4 F5 F6 HK n1 n2 n3
              have HLN := LEN.out
              go_wp2_with fail
              go_loopw [9, 10, 11] (fun s9 s10 s11 wr => ∃ (k : Nat) (acc : ByteArray) (cl : Bool), k ≤ L.length ∧ s9 = .string acc ∧ s10 = .bool cl ∧ s11 = .int .i64 k ∧ Hid (acc = strB (linesB (L.take k))) ∧ Hid (cl = cleanB (L.take k)) ∧ Below w19.heap.size w19 wr) (fun _ _ s11 _ => L.length - (intOf s11).toNat)
              case atStart => exact ⟨0, ⟨#[]⟩, true, Nat.zero_le _, rfl, rfl, rfl, Lib.hid rfl, Lib.hid rfl, Below.refl _ _⟩
              case round =>
                obtain ⟨k, acc, cl, hk, rfl, rfl, rfl, hacc, hcl, hb⟩ := hrel
                by_cases hlt : k < L.length
                · obtain ⟨x, hx⟩ : ∃ x, L[k]? = some x := ⟨_, List.getElem?_eq_getElem hlt⟩
                  obtain ⟨ad, rfl, c0, c1, c2⟩ := Lins.at_ P13.out hx
                  obtain ⟨z1, z2, z3⟩ := FIT.out x (List.mem_of_getElem? hx)
                  have HT := Lib.hid (take_snoc hx)
                  have hsz1 : acc.size ≤ 240960 := by
                    rw [hacc.out, strB_size]
                    refine Nat.le_trans (linesB_len (L.take k) fun y hy => (FIT.out y (List.mem_of_mem_take hy)).1) ?_
                    have : (L.take k).length ≤ 240 := by rw [List.length_take]; omega
                    exact Nat.mul_le_mul_right 1004 this
                  obtain ⟨p, X, Y⟩ := x
                  have ZZ := Lib.hid fun W (hW : Below w19.heap.size w19 W) => (⟨(hW.cell (World.block_lt_of_cell? _ _ c0)).trans c0, (hW.cell (World.block_lt_of_cell? _ _ c1)).trans c1, (hW.cell (World.block_lt_of_cell? _ _ c2)).trans c2⟩ : LinCells ad k p X Y W)
                  unfold LinCells at ZZ
                  have z0 := ZZ.out _ hb.drew
                  have k0 : (0 : Int) ≤ (k : Int) := Int.natCast_nonneg _
                  have k1 : (k : Int) < (L.length : Int) := by omega
                  have hbs := hb.size
                  simp only at z1
                  have CV := conv3 wr X Y z2 z3
                  obtain ⟨q0, hq0⟩ : ∃ q, q = strB [b8 X, b8 Y, 32] := ⟨_, rfl⟩
                  rw [← hq0] at CV
                  have hs0 : q0.size = 3 := by rw [hq0, strB_size]; rfl
                  obtain ⟨q1, e1, m1, p1⟩ := sum_named acc q0 (by omega)
                  obtain ⟨q2, e2, m2, p2⟩ := sum_named q1 p (by omega)
                  obtain ⟨q3, e3, m3, p3⟩ := sum_named q2 ⟨#[10]⟩ (by have : (ByteArray.mk #[10]).size = 1 := rfl; omega)
                  have HQ := Lib.hid (show q3 = strB (linesB (L.take (k + 1))) by rw [e3, e2, e1, hq0, hacc.out, HT.out, linesB_snoc]; exact strB_line _ _ _ _)
                  have HC := Lib.hid (show (cl && (decide (X = 32) && decide (Y = 63))) = cleanB (L.take (k + 1)) by rw [HT.out, hcl.out]; simp [cleanB])
                  have hb1 := (hb.alloc hbs (.cells #[.int .u8 X, .int .u8 Y, .int .u8 32] 5)).drew
                  have y1 := ZZ.out _ hb1
                  clear hx c0 c1 c2 e1 e2 e3 m1 m2 m3 hacc hcl hq0 HT hs0
                  go_wp2_with fail
                  go_region_held (fun w' => w'.cell? (ad.add (k * 3)) = some (.string p) ∧ w'.cell? ⟨(ad.add (k * 3)).block, (ad.add (k * 3)).off + 1, none⟩ = some (.int .u8 X) ∧ w'.cell? ⟨(ad.add (k * 3)).block, (ad.add (k * 3)).off + 2, none⟩ = some (.int .u8 Y)) (first | exact z0 | exact y1) (fail)
                  obtain ⟨x0, x1, x2⟩ := y1
                  clear z0 CV p1 p2 p3
                  cases cl with
                  | false =>
                    go_wp2_with fail
                    go_roundw
                    case rel => exact ⟨k + 1, q3, false, by omega, rfl, rfl, by go_num, HQ, HC, hb1⟩
                    case measure => simp [intOf]; omega
                  | true =>
                    by_cases hX : X = 32
                    · subst hX
                      by_cases hY : Y = 63
                      · subst hY
                        go_wp2_with fail
                        go_roundw
                        case rel => exact ⟨k + 1, q3, true, by omega, rfl, rfl, by go_num, HQ, HC, hb1⟩
                        case measure => simp [intOf]; omega
                      · have hYb : (Y == 63) = false := by simpa using hY
                        have HC2 : Hid (false = cleanB (L.take (k + 1))) := Lib.hid (by rw [← HC.out]; simp [hY])
                        go_wp2_with fail
                        go_roundw
                        case rel => exact ⟨k + 1, q3, false, by omega, rfl, rfl, by go_num, HQ, HC2, hb1⟩
                        case measure => simp [intOf]; omega
                    · have hXb : (X == 32) = false := by simpa using hX
                      have HC2 : Hid (false = cleanB (L.take (k + 1))) := Lib.hid (by rw [← HC.out]; simp [hX])
                      go_wp2_with fail
                      go_roundw
                      case rel => exact ⟨k + 1, q3, false, by omega, rfl, rfl, by go_num, HQ, HC2, hb1⟩
                      case measure => simp [intOf]; omega
                · obtain rfl : k = L.length := by omega
                  rw [List.take_length] at hacc hcl
                  have R9 := Lib.hid (P9.out.below hb)
                  have TX := Lib.hid (text_any wr _ L R9.out (by omega) FIT.out)
                  have CX := Lib.hid fun W (hW : Below wr.heap.size wr W) => clean_any W _ L (R9.out.below hW) (by omega)
                  have HA : Hid ((⟨(linesB L).toArray⟩ : ByteArray) = acc) := Lib.hid hacc.out.symm
                  unfold TextTo at TX
                  rw [HA.out] at TX
                  rw [← hcl.out] at CX
                  have B20 := B19.trans (hb.mono s19)
                  have s20 := B20.size
                  clear hacc hcl hb R9 HA B19
                  go_wp2_with fail
                  refine TX.out.mono ?_
                  rintro e w21 ⟨rfl, b21⟩
                  have B21 := B20.trans (b21.mono s20)
                  have s21 := B21.size
                  go_wp2_with fail
                  refine (CX.out w21 b21).mono ?_
                  rintro e w22 ⟨rfl, b22⟩
                  have B22 := Lib.hid (B21.trans (b22.mono s21))
                  clear TX CX b21 b22 B20 B21 s20 s21
                  cases cl with
                  | false =>
                    go_wp2_with fail
                    go_ret
                    exact ⟨rfl, B22.out⟩
                  | true =>
                    go_wp2_with fail
                    go_ret
                    exact ⟨rfl, B22.out⟩
            · have hnb : (n == 0) = false := by simpa using hn
              clear hok
              go_wp2_with fail
              go_ret
              exact ⟨rfl, B8⟩
end Go.Proofs.Ytkdoccmflknipaa
