/-
  rectoref11.kept: of each line of base where it is kept.
  rectoref11.between: a piece that is not kept.
  rectoref11.Chunks: the row of pieces, and how far a run goes.
-/
import Derived.Test.YtapcnmnnichamaaGreatDoorWB
import Derived.Test.YtapcnmnnichamaaGreatDoorVM
import Derived.Test.YtapcnmnnichamaaGreatDoorVB
import Derived.Deep.AppendLies

namespace Go.Proofs.YtapcnmnnichamaaGreatDoor.Mg
open Go Go.RowKit

theorem edA_append (l m : List (Nat × ByteArray)) : edA (l ++ m) = edA l ++ edA m := by simp [edA]
theorem edB_append (l m : List (Nat × ByteArray)) : edB (l ++ m) = edB l ++ edB m := by simp [edB]
theorem edA_1 (s : ByteArray) : edA [((1 : Nat), s)] = [s] := by rw [edA_cons]; simp [edA]
theorem edB_1 (s : ByteArray) : edB [((1 : Nat), s)] = [s] := by rw [edB_cons]; simp [edB]
theorem edA_2 (s : ByteArray) : edA [((2 : Nat), s)] = [s] := by rw [edA_cons]; simp [edA]
theorem edB_2 (s : ByteArray) : edB [((2 : Nat), s)] = [] := by rw [edB_cons]; simp [edB]
theorem edA_3 (s : ByteArray) : edA [((3 : Nat), s)] = [] := by rw [edA_cons]; simp [edA]
theorem edB_3 (s : ByteArray) : edB [((3 : Nat), s)] = [s] := by rw [edB_cons]; simp [edB]
theorem pls_append (m : List (Nat × ByteArray)) : ∀ (l : List (Nat × ByteArray)) (_ : ∀ e ∈ l, e.1 = 1 ∨ e.1 = 2 ∨ e.1 = 3) (a : Nat), pls (l ++ m) a = pls l a ++ pls m (a + (edB l).length)
  | [], _, a => by simp [pls, edB]
  | (k, x) :: l, h, a => by
    have ih := pls_append m l (fun e he => h e (List.mem_cons_of_mem _ he))
    have hk := h (k, x) (List.mem_cons_self ..)
    simp only at hk
    rw [List.cons_append, edB_cons]
    simp only [pls]
    rcases hk with rfl | rfl | rfl
    · simp only [if_true]
      rw [ih, if_neg (by omega), List.cons_append, List.length_cons, show a + 1 + (edB l).length = a + ((edB l).length + 1) by omega]
    · simp only [if_true]
      rw [if_neg (by omega), if_neg (by omega), ih, List.cons_append]
    · rw [if_neg (by omega), if_neg (by omega), if_neg (by omega), if_neg (by omega), if_neg (by omega), ih, List.length_cons, show a + 1 + (edB l).length = a + ((edB l).length + 1) by omega]
/-- As the program writes a place. -/
def pzV : Option (Option Nat) → Value
  | some (some j) => .int .i64 (j : Int)
  | some none => .int .i64 (-1)
  | none => .int .i64 0
/-- How far the edits before the k-th have come. -/
structure KeptAt (l : List (Nat × ByteArray)) (k i j : Nat) : Prop where
  i : i = (edA (l.take k)).length
  j : j = (edB (l.take k)).length
theorem KeptAt.zero (l : List (Nat × ByteArray)) : KeptAt l 0 0 0 := ⟨by simp [edA], by simp [edB]⟩
theorem take_snocK {l : List (Nat × ByteArray)} {k : Nat} {e : Nat × ByteArray} (h : l[k]? = some e) : l.take (k + 1) = l.take k ++ [e] := by rw [List.take_add_one, h]; rfl
theorem KeptAt.split {l : List (Nat × ByteArray)} {k : Nat} {e : Nat × ByteArray} (h : l[k]? = some e) : l = l.take k ++ e :: l.drop (k + 1) := by
  obtain ⟨hk, rfl⟩ := List.getElem?_eq_some_iff.1 h
  rw [← List.drop_eq_getElem_cons hk, List.take_append_drop]
theorem KeptAt.one {l : List (Nat × ByteArray)} {k i j : Nat} {s : ByteArray} (hops : ∀ e ∈ l, e.1 = 1 ∨ e.1 = 2 ∨ e.1 = 3) (h : KeptAt l k i j) (hs : l[k]? = some (1, s)) : KeptAt l (k + 1) (i + 1) (j + 1) ∧ i < (edA l).length ∧ (pls l 0)[i]? = some (some j) := by
  have hspl := KeptAt.split hs
  have ht := fun e (he : e ∈ l.take k) => hops e (List.mem_of_mem_take he)
  refine ⟨⟨?_, ?_⟩, ?_, ?_⟩
  · rw [take_snocK hs, edA_append, h.i, edA_1]; simp
  · rw [take_snocK hs, edB_append, h.j, edB_1]; simp
  · rw [hspl, edA_append, edA_cons, h.i]; simp
  · rw [hspl, pls_append _ _ ht, h.i, ← (show (pls (l.take k) 0).length = (edA (l.take k)).length from pls_len _ ht 0), List.getElem?_append_right (Nat.le_refl _), Nat.sub_self, h.j]
    simp [pls]
theorem KeptAt.two {l : List (Nat × ByteArray)} {k i j : Nat} {s : ByteArray} (hops : ∀ e ∈ l, e.1 = 1 ∨ e.1 = 2 ∨ e.1 = 3) (h : KeptAt l k i j) (hs : l[k]? = some (2, s)) : KeptAt l (k + 1) (i + 1) j ∧ i < (edA l).length ∧ (pls l 0)[i]? = some none := by
  have hspl := KeptAt.split hs
  have ht := fun e (he : e ∈ l.take k) => hops e (List.mem_of_mem_take he)
  refine ⟨⟨?_, ?_⟩, ?_, ?_⟩
  · rw [take_snocK hs, edA_append, h.i, edA_2]; simp
  · rw [take_snocK hs, edB_append, h.j, edB_2]; simp
  · rw [hspl, edA_append, edA_cons, h.i]; simp
  · rw [hspl, pls_append _ _ ht, h.i, ← (show (pls (l.take k) 0).length = (edA (l.take k)).length from pls_len _ ht 0), List.getElem?_append_right (Nat.le_refl _), Nat.sub_self]
    simp [pls]
theorem KeptAt.three {l : List (Nat × ByteArray)} {k i j : Nat} {s : ByteArray} (h : KeptAt l k i j) (hs : l[k]? = some (3, s)) : KeptAt l (k + 1) i (j + 1) :=
  ⟨by rw [take_snocK hs, edA_append, h.i, edA_3]; simp, by rw [take_snocK hs, edB_append, h.j, edB_3]; simp⟩

/-- The places, in a row of the call's own. -/
def KeptTo (w : World) (p : List (Option Nat)) (n : Nat) (e : Ending) (w' : World) : Prop :=
  ∃ G, e = .returned (.slice (some ⟨G, 0, none⟩) n n) ∧ w.heap.size ≤ G ∧ w'.rowIs G 3 n (fun t => pzV p[t]?) ∧ Below w.heap.size w w'
/-- Filled up to i. -/
def keptV (p : List (Option Nat)) (i : Nat) : Nat → Value := fun t => if t < i then pzV p[t]? else .int .i64 0

set_option maxRecDepth 100000 in
set_option maxHeartbeats 2000000 in
theorem refKept_any (w : World) (base : Nat) (v : Value) (l : List (Nat × ByteArray)) (n : Nat) (h : w.ownsRow base 223 2 v l.length (edCells l)) (hops0 : ∀ x ∈ l, x.1 = 1 ∨ x.1 = 2 ∨ x.1 = 3) (hel : l.length ≤ 1000) (hn : n = (edA l).length) (hn1 : n ≤ 1000) :
    Calls Tryz.prog 113 #[v, .int .i64 (n : Int)] w (KeptTo w (pls l 0) n) := by
  have hops := Lib.hid hops0
  have HO := Lib.hid h
  have HN := Lib.hid hn
  obtain ⟨A, m, c, rfl⟩ : ∃ A m c, v = .slice A m c := by
    rcases h.2 with ⟨rfl, _⟩ | ⟨g, cap, cur, rfl, _⟩
    · exact ⟨_, _, _, rfl⟩
    · exact ⟨_, _, _, rfl⟩
  obtain rfl : m = l.length := by
    rcases h.2 with ⟨e, e2⟩ | ⟨g, cap, cur, e, _⟩
    · cases e; exact e2.symm
    · cases e; rfl
  have mk1 := fun W => run_make_row' (P := Tryz.prog) 187 3 (.int .i64 0) 8 Tryz.underlying187 intInfoC rfl .i64 .i64 n (by omega) (by omega) W
  have R0 := Lib.hid ((World.rowIs_made w (.int .i64 0) n 3).congr (g := keptV (pls l 0) 0) (fun i _ => by simp [keptV]))
  have S0 := Lib.hid ((Below.refl w.heap.size w).alloc (Nat.le_refl _) (.cells (madeCells #[.int .i64 0] n) 3))
  clear h hops0 hn
  go_enter Tryz.func113, Tryz.ntmps113
  go_wp2_with fail
  obtain ⟨G, hG⟩ : ∃ G, G = w.heap.size := ⟨_, rfl⟩
  rw [← hG] at R0 ⊢
  have HG := Lib.hid hG
  clear hG mk1
  go_loopw [6, 7, 8] (fun s6 s7 s8 wr => ∃ k i j : Nat, k ≤ l.length ∧ s8 = .int .i64 k ∧ s6 = .int .i64 i ∧ s7 = .int .i64 j ∧ Hid (KeptAt l k i j) ∧ Hid (wr.rowIs G 3 n (keptV (pls l 0) i)) ∧ Hid (Below w.heap.size w wr)) (fun _ _ s8 _ => l.length - (intOf s8).toNat)
  case atStart => exact ⟨0, 0, 0, Nat.zero_le _, rfl, rfl, rfl, KeptAt.zero l, R0, S0⟩
  case round =>
    clear R0 S0
    obtain ⟨k, i, j, hk, rfl, rfl, rfl, hka, hr, hb⟩ := hrel
    have k0 : (0 : Int) ≤ (k : Int) := Int.natCast_nonneg _
    have i0 : (0 : Int) ≤ (i : Int) := Int.natCast_nonneg _
    have hil : i ≤ l.length := by rw [hka.out.i]; unfold edA; rw [List.length_map]; exact Nat.le_trans (List.length_filter_le _ _) (by rw [List.length_take]; omega)
    have hjl : j ≤ l.length := by rw [hka.out.j]; unfold edB; rw [List.length_map]; exact Nat.le_trans (List.length_filter_le _ _) (by rw [List.length_take]; omega)
    by_cases hlt : k < l.length
    · obtain ⟨⟨op, s⟩, hs⟩ : ∃ x, l[k]? = some x := ⟨_, List.getElem?_eq_getElem hlt⟩
      have ho := own2_keep HO.out hb.out
      obtain ⟨g, rfl⟩ : ∃ g, A = some ⟨g, 0, none⟩ := by
        rcases ho.2 with ⟨_, e2⟩ | ⟨g, cap, cur, e, _⟩
        · omega
        · cases e; exact ⟨_, rfl⟩
      have k1 : (k : Int) < (l.length : Int) := by omega
      obtain ⟨x1, x2⟩ := edCells_at hs
      have c1 := own2_at ho x1
      have hop := hops.out _ (List.mem_of_getElem? hs)
      simp only at hop
      have HS := Lib.hid hs
      clear ho x1 x2 hs
      rcases hop with rfl | rfl | rfl
      · obtain ⟨K1, hi2, hpl⟩ := hka.out.one hops.out HS.out
        have hin : (i : Int) < (n : Int) := by have := HN.out; omega
        have r1 := hr.out.cell (i := i) (by omega)
        have r2 := hr.out.frozen i
        have R1 := Lib.hid ((hr.out.set i (.int .i64 (j : Int))).congr (g := keptV (pls l 0) (i + 1)) (fun t _ => by
          simp only [keptV]
          by_cases e : t = i
          · subst e; rw [if_pos rfl, if_pos (by omega), hpl]; rfl
          · rw [if_neg e]
            by_cases e2 : t < i
            · rw [if_pos e2, if_pos (by omega)]
            · rw [if_neg e2, if_neg (by omega)]))
        have B1 := Lib.hid (hb.out.setCell (p := ⟨G, i, none⟩) (by rw [HG.out]; exact Nat.le_refl _) (.int .i64 (j : Int)))
        have HK1 := Lib.hid K1
        clear K1 hi2 hpl hka
        go_wp2
        go_roundw
        case rel => exact ⟨k + 1, i + 1, j + 1, by omega, by go_num, by go_num, by go_num, HK1.out, R1.out, B1.out⟩
        case measure => simp [intOf]; omega
      · obtain ⟨K1, hi2, hpl⟩ := hka.out.two hops.out HS.out
        have hin : (i : Int) < (n : Int) := by have := HN.out; omega
        have r1 := hr.out.cell (i := i) (by omega)
        have r2 := hr.out.frozen i
        have R1 := Lib.hid ((hr.out.set i (.int .i64 (-1))).congr (g := keptV (pls l 0) (i + 1)) (fun t _ => by
          simp only [keptV]
          by_cases e : t = i
          · subst e; rw [if_pos rfl, if_pos (by omega), hpl]; rfl
          · rw [if_neg e]
            by_cases e2 : t < i
            · rw [if_pos e2, if_pos (by omega)]
            · rw [if_neg e2, if_neg (by omega)]))
        have B1 := Lib.hid (hb.out.setCell (p := ⟨G, i, none⟩) (by rw [HG.out]; exact Nat.le_refl _) (.int .i64 (-1)))
        have HK1 := Lib.hid K1
        clear K1 hi2 hpl hka
        go_wp2
        go_roundw
        case rel => exact ⟨k + 1, i + 1, j, by omega, by go_num, by go_num, rfl, HK1.out, R1.out, B1.out⟩
        case measure => simp [intOf]; omega
      · have HK1 := Lib.hid (hka.out.three HS.out)
        clear hka
        go_wp2
        go_roundw
        case rel => exact ⟨k + 1, i, j + 1, by omega, by go_num, rfl, by go_num, HK1.out, hr.out, hb.out⟩
        case measure => simp [intOf]; omega
    · obtain rfl : k = l.length := by omega
      have hin := Lib.hid (show i = n by rw [hka.out.i, List.take_length, HN.out])
      go_wp2
      go_ret
      refine ⟨G, rfl, by rw [HG.out]; exact Nat.le_refl _, hr.out.congr (fun t ht => ?_), hb.out⟩
      simp only [keptV]
      rw [if_pos (by have := hin.out; omega)]
end Go.Proofs.YtapcnmnnichamaaGreatDoor.Mg

namespace Go.Proofs.YtapcnmnnichamaaGreatDoor.Mg
open Go Go.RowKit

/-- A piece by value: its texts are the call's arguments. -/
def BetwTo (w : World) (v0 v1 v2 : Value) (xs ys zs : List ByteArray) (c : Ck ByteArray) (e : Ending) (w' : World) : Prop :=
  ∃ ve, e = .returned (.agg #[v0, v1, v2, .bool c.clash, ve]) ∧ (∀ W0, Strs W0 v0 xs → Strs W0 v1 ys → Strs W0 v2 zs → Strs W0 ve c.out) ∧ Below w.heap.size w w'

set_option maxHeartbeats 2000000 in
theorem refBetween_any (w : World) (v0 v1 v2 : Value) (xs ys zs : List ByteArray) (h0 : Strs w v0 xs) (h1 : Strs w v1 ys) (h2 : Strs w v2 zs) :
    Calls Tryz.prog 114 #[v0, v1, v2] w (BetwTo w v0 v1 v2 xs ys zs (decideC xs ys zs)) := by
  obtain ⟨A0, n0, c0, rfl⟩ := h0.form
  obtain ⟨A1, n1, c1, rfl⟩ := h1.form
  obtain ⟨A2, n2, c2, rfl⟩ := h2.form
  have B1 := (Below.refl w.heap.size w).alloc (Nat.le_refl _) (.cells #[.slice none 0 0, .slice none 0 0, .slice none 0 0, .bool false, .slice none 0 0] 168)
  have B2 := Lib.hid (B1.alloc B1.size (.cells #[.slice A0 n0 c0, .slice A1 n1 c1, .slice A2 n2 c2, .bool false, .slice none 0 0] 168))
  have K6 := (Blk.new w 168 #[.slice none 0 0, .slice none 0 0, .slice none 0 0, .bool false, .slice none 0 0]).alloc (.cells #[.slice A0 n0 c0, .slice A1 n1 c1, .slice A2 n2 c2, .bool false, .slice none 0 0] 168)
  have K7 := Blk.new (w.alloc (.cells #[.slice none 0 0, .slice none 0 0, .slice none 0 0, .bool false, .slice none 0 0] 168)) 168 #[.slice A0 n0 c0, .slice A1 n1 c1, .slice A2 n2 c2, .bool false, .slice none 0 0]
  have hz : (w.alloc (.cells #[.slice none 0 0, .slice none 0 0, .slice none 0 0, .bool false, .slice none 0 0] 168)).heap.size = w.heap.size + 1 := by simp
  rw [hz] at K7
  have H0 := Lib.hid h0
  have H1 := Lib.hid h1
  have H2 := Lib.hid h2
  clear B1 hz h0 h1 h2
  have EQ := Lib.hid fun W' (hb : Below w.heap.size w W') => refEqual_any W' _ _ ys xs (H1.out.below hb) (H0.out.below hb)
  have EQ2 := Lib.hid fun W' (hb : Below w.heap.size w W') => refEqual_any W' _ _ zs xs (H2.out.below hb) (H0.out.below hb)
  have EQ3 := Lib.hid fun W' (hb : Below w.heap.size w W') => refEqual_any W' _ _ ys zs (H1.out.below hb) (H2.out.below hb)
  obtain ⟨X, hX⟩ : ∃ X, X = w.heap.size := ⟨_, rfl⟩
  obtain ⟨Y, hY⟩ : ∃ Y, Y = w.heap.size + 1 := ⟨_, rfl⟩
  have hXY : X ≠ Y := by omega
  have hYX : Y ≠ X := by omega
  have HX := Lib.hid (show w.heap.size ≤ X by omega)
  have HY := Lib.hid (show w.heap.size ≤ Y by omega)
  by_cases e1 : ys = xs
  · have hd : decideC xs ys zs = ⟨xs, ys, zs, false, zs⟩ := by unfold decideC; rw [if_pos e1]
    rw [hd]
    clear hd
    have HE1 := Lib.hid e1
    clear e1
    go_enter Tryz.func114, Tryz.ntmps114
    go_wp2_with fail
    rw [← hY, ← hX]
    generalize (w.alloc (.cells #[.slice none 0 0, .slice none 0 0, .slice none 0 0, .bool false, .slice none 0 0] 168)).alloc (.cells #[.slice A0 n0 c0, .slice A1 n1 c1, .slice A2 n2 c2, .bool false, .slice none 0 0] 168) = W at *
    rw [← hX] at K6
    rw [← hY] at K7
    clear hX hY
    refine (EQ.out W B2.out).mono ?_
    rintro e w2 ⟨q1, rfl, hq1⟩
    rw [decide_eq_true HE1.out]
    have K61 : Blk w2 X 168 #[.slice none 0 0, .slice none 0 0, .slice none 0 0, .bool false, .slice none 0 0] := by rw [hq1]; exact K6
    have K71 : Blk w2 Y 168 #[.slice A0 n0 c0, .slice A1 n1 c1, .slice A2 n2 c2, .bool false, .slice none 0 0] := by rw [hq1]; exact K7
    have B3 := Lib.hid (show Below w.heap.size w w2 by rw [hq1]; exact below_drewN B2.out _)
    clear hq1 K6 K7
    have y0 := K71.cell 0
    have y1 := K71.cell 1
    have y2 := K71.cell 2
    have y3 := K71.cell 3
    have y4 := K71.cell 4
    have x0 := K61.cell 0
    have f0 := K61.frozen 0
    have x1 := K61.cell 1
    have f1 := K61.frozen 1
    have x2 := K61.cell 2
    have f2 := K61.frozen 2
    have x3 := K61.cell 3
    have f3 := K61.frozen 3
    have x4 := K61.cell 4
    have f4 := K61.frozen 4
    have g3 := K71.frozen 3
    have g4 := K71.frozen 4
    have KF := Lib.hid (((((((K61.far (p := ⟨Y, 4, none⟩) hXY (.slice A2 n2 c2)).set_ 0 (.slice A0 n0 c0)).set_ 1 (.slice A1 n1 c1)).set_ 2 (.slice A2 n2 c2)).set_ 3 (.bool false)).set_ 4 (.slice A2 n2 c2)))
    have BF := Lib.hid ((((((B3.out.setCell (p := ⟨Y, 4, none⟩) HY.out (.slice A2 n2 c2)).setCell (p := ⟨X, 0, none⟩) HX.out (.slice A0 n0 c0)).setCell (p := ⟨X, 1, none⟩) HX.out (.slice A1 n1 c1)).setCell (p := ⟨X, 2, none⟩) HX.out (.slice A2 n2 c2)).setCell (p := ⟨X, 3, none⟩) HX.out (.bool false)).setCell (p := ⟨X, 4, none⟩) HX.out (.slice A2 n2 c2))
    clear K61 K71
    go_wp2
    refine bodyPost_ret (results_cell_row (fn := Tryz.f114) rfl _ _ X 168 #[.slice A0 n0 c0, .slice A1 n1 c1, .slice A2 n2 c2, .bool false, .slice A2 n2 c2] (0, 0) _ rfl (by first | exact KF.out | simpa using KF.out) Tryz.underlying168 rfl (by kernel_rfl)) rfl ⟨.slice A2 n2 c2, rfl, ?_, ?_⟩
    · exact fun _ _ _ d => d
    · first | exact BF.out | simpa using BF.out
  · by_cases e2 : zs = xs
    · have hd : decideC xs ys zs = ⟨xs, ys, zs, false, ys⟩ := by unfold decideC; rw [if_neg e1, if_pos (.inl e2)]
      rw [hd]
      clear hd
      have HE1 := Lib.hid e1
      clear e1
      have HE2 := Lib.hid e2
      clear e2
      go_enter Tryz.func114, Tryz.ntmps114
      go_wp2_with fail
      rw [← hY, ← hX]
      generalize (w.alloc (.cells #[.slice none 0 0, .slice none 0 0, .slice none 0 0, .bool false, .slice none 0 0] 168)).alloc (.cells #[.slice A0 n0 c0, .slice A1 n1 c1, .slice A2 n2 c2, .bool false, .slice none 0 0] 168) = W at *
      rw [← hX] at K6
      rw [← hY] at K7
      clear hX hY
      refine (EQ.out W B2.out).mono ?_
      rintro e w2 ⟨q1, rfl, hq1⟩
      rw [decide_eq_false HE1.out]
      have K61 : Blk w2 X 168 #[.slice none 0 0, .slice none 0 0, .slice none 0 0, .bool false, .slice none 0 0] := by rw [hq1]; exact K6
      have K71 : Blk w2 Y 168 #[.slice A0 n0 c0, .slice A1 n1 c1, .slice A2 n2 c2, .bool false, .slice none 0 0] := by rw [hq1]; exact K7
      have B3 := Lib.hid (show Below w.heap.size w w2 by rw [hq1]; exact below_drewN B2.out _)
      clear hq1 K6 K7
      go_wp2_with fail
      refine (EQ2.out w2 B3.out).mono ?_
      rintro e w3 ⟨q2, rfl, hq2⟩
      rw [decide_eq_true HE2.out]
      have K62 : Blk w3 X 168 #[.slice none 0 0, .slice none 0 0, .slice none 0 0, .bool false, .slice none 0 0] := by rw [hq2]; exact K61
      have K72 : Blk w3 Y 168 #[.slice A0 n0 c0, .slice A1 n1 c1, .slice A2 n2 c2, .bool false, .slice none 0 0] := by rw [hq2]; exact K71
      have B4 := Lib.hid (show Below w.heap.size w w3 by rw [hq2]; exact below_drewN B3.out _)
      clear hq2 K61 K71
      have y0 := K72.cell 0
      have y1 := K72.cell 1
      have y2 := K72.cell 2
      have y3 := K72.cell 3
      have y4 := K72.cell 4
      have x0 := K62.cell 0
      have f0 := K62.frozen 0
      have x1 := K62.cell 1
      have f1 := K62.frozen 1
      have x2 := K62.cell 2
      have f2 := K62.frozen 2
      have x3 := K62.cell 3
      have f3 := K62.frozen 3
      have x4 := K62.cell 4
      have f4 := K62.frozen 4
      have g3 := K72.frozen 3
      have g4 := K72.frozen 4
      have KF := Lib.hid (((((((K62.far (p := ⟨Y, 4, none⟩) hXY (.slice A1 n1 c1)).set_ 0 (.slice A0 n0 c0)).set_ 1 (.slice A1 n1 c1)).set_ 2 (.slice A2 n2 c2)).set_ 3 (.bool false)).set_ 4 (.slice A1 n1 c1)))
      have BF := Lib.hid ((((((B4.out.setCell (p := ⟨Y, 4, none⟩) HY.out (.slice A1 n1 c1)).setCell (p := ⟨X, 0, none⟩) HX.out (.slice A0 n0 c0)).setCell (p := ⟨X, 1, none⟩) HX.out (.slice A1 n1 c1)).setCell (p := ⟨X, 2, none⟩) HX.out (.slice A2 n2 c2)).setCell (p := ⟨X, 3, none⟩) HX.out (.bool false)).setCell (p := ⟨X, 4, none⟩) HX.out (.slice A1 n1 c1))
      clear K62 K72
      go_wp2
      refine bodyPost_ret (results_cell_row (fn := Tryz.f114) rfl _ _ X 168 #[.slice A0 n0 c0, .slice A1 n1 c1, .slice A2 n2 c2, .bool false, .slice A1 n1 c1] (0, 0) _ rfl (by first | exact KF.out | simpa using KF.out) Tryz.underlying168 rfl (by kernel_rfl)) rfl ⟨.slice A1 n1 c1, rfl, ?_, ?_⟩
      · exact fun _ _ b _ => b
      · first | exact BF.out | simpa using BF.out
    · by_cases e3 : ys = zs
      · have hd : decideC xs ys zs = ⟨xs, ys, zs, false, ys⟩ := by unfold decideC; rw [if_neg e1, if_pos (.inr e3)]
        rw [hd]
        clear hd
        have HE1 := Lib.hid e1
        clear e1
        have HE2 := Lib.hid e2
        clear e2
        have HE3 := Lib.hid e3
        clear e3
        go_enter Tryz.func114, Tryz.ntmps114
        go_wp2_with fail
        rw [← hY, ← hX]
        generalize (w.alloc (.cells #[.slice none 0 0, .slice none 0 0, .slice none 0 0, .bool false, .slice none 0 0] 168)).alloc (.cells #[.slice A0 n0 c0, .slice A1 n1 c1, .slice A2 n2 c2, .bool false, .slice none 0 0] 168) = W at *
        rw [← hX] at K6
        rw [← hY] at K7
        clear hX hY
        refine (EQ.out W B2.out).mono ?_
        rintro e w2 ⟨q1, rfl, hq1⟩
        rw [decide_eq_false HE1.out]
        have K61 : Blk w2 X 168 #[.slice none 0 0, .slice none 0 0, .slice none 0 0, .bool false, .slice none 0 0] := by rw [hq1]; exact K6
        have K71 : Blk w2 Y 168 #[.slice A0 n0 c0, .slice A1 n1 c1, .slice A2 n2 c2, .bool false, .slice none 0 0] := by rw [hq1]; exact K7
        have B3 := Lib.hid (show Below w.heap.size w w2 by rw [hq1]; exact below_drewN B2.out _)
        clear hq1 K6 K7
        go_wp2_with fail
        refine (EQ2.out w2 B3.out).mono ?_
        rintro e w3 ⟨q2, rfl, hq2⟩
        rw [decide_eq_false HE2.out]
        have K62 : Blk w3 X 168 #[.slice none 0 0, .slice none 0 0, .slice none 0 0, .bool false, .slice none 0 0] := by rw [hq2]; exact K61
        have K72 : Blk w3 Y 168 #[.slice A0 n0 c0, .slice A1 n1 c1, .slice A2 n2 c2, .bool false, .slice none 0 0] := by rw [hq2]; exact K71
        have B4 := Lib.hid (show Below w.heap.size w w3 by rw [hq2]; exact below_drewN B3.out _)
        clear hq2 K61 K71
        go_wp2_with fail
        refine (EQ3.out w3 B4.out).mono ?_
        rintro e w4 ⟨q3, rfl, hq3⟩
        rw [decide_eq_true HE3.out]
        have K63 : Blk w4 X 168 #[.slice none 0 0, .slice none 0 0, .slice none 0 0, .bool false, .slice none 0 0] := by rw [hq3]; exact K62
        have K73 : Blk w4 Y 168 #[.slice A0 n0 c0, .slice A1 n1 c1, .slice A2 n2 c2, .bool false, .slice none 0 0] := by rw [hq3]; exact K72
        have B5 := Lib.hid (show Below w.heap.size w w4 by rw [hq3]; exact below_drewN B4.out _)
        clear hq3 K62 K72
        have y0 := K73.cell 0
        have y1 := K73.cell 1
        have y2 := K73.cell 2
        have y3 := K73.cell 3
        have y4 := K73.cell 4
        have x0 := K63.cell 0
        have f0 := K63.frozen 0
        have x1 := K63.cell 1
        have f1 := K63.frozen 1
        have x2 := K63.cell 2
        have f2 := K63.frozen 2
        have x3 := K63.cell 3
        have f3 := K63.frozen 3
        have x4 := K63.cell 4
        have f4 := K63.frozen 4
        have g3 := K73.frozen 3
        have g4 := K73.frozen 4
        have KF := Lib.hid (((((((K63.far (p := ⟨Y, 4, none⟩) hXY (.slice A1 n1 c1)).set_ 0 (.slice A0 n0 c0)).set_ 1 (.slice A1 n1 c1)).set_ 2 (.slice A2 n2 c2)).set_ 3 (.bool false)).set_ 4 (.slice A1 n1 c1)))
        have BF := Lib.hid ((((((B5.out.setCell (p := ⟨Y, 4, none⟩) HY.out (.slice A1 n1 c1)).setCell (p := ⟨X, 0, none⟩) HX.out (.slice A0 n0 c0)).setCell (p := ⟨X, 1, none⟩) HX.out (.slice A1 n1 c1)).setCell (p := ⟨X, 2, none⟩) HX.out (.slice A2 n2 c2)).setCell (p := ⟨X, 3, none⟩) HX.out (.bool false)).setCell (p := ⟨X, 4, none⟩) HX.out (.slice A1 n1 c1))
        clear K63 K73
        go_wp2
        refine bodyPost_ret (results_cell_row (fn := Tryz.f114) rfl _ _ X 168 #[.slice A0 n0 c0, .slice A1 n1 c1, .slice A2 n2 c2, .bool false, .slice A1 n1 c1] (0, 0) _ rfl (by first | exact KF.out | simpa using KF.out) Tryz.underlying168 rfl (by kernel_rfl)) rfl ⟨.slice A1 n1 c1, rfl, ?_, ?_⟩
        · exact fun _ _ b _ => b
        · first | exact BF.out | simpa using BF.out
      · have hd : decideC xs ys zs = ⟨xs, ys, zs, true, []⟩ := by unfold decideC; rw [if_neg e1, if_neg (by rintro (h | h) <;> contradiction)]
        rw [hd]
        clear hd
        have HE1 := Lib.hid e1
        clear e1
        have HE2 := Lib.hid e2
        clear e2
        have HE3 := Lib.hid e3
        clear e3
        go_enter Tryz.func114, Tryz.ntmps114
        go_wp2_with fail
        rw [← hY, ← hX]
        generalize (w.alloc (.cells #[.slice none 0 0, .slice none 0 0, .slice none 0 0, .bool false, .slice none 0 0] 168)).alloc (.cells #[.slice A0 n0 c0, .slice A1 n1 c1, .slice A2 n2 c2, .bool false, .slice none 0 0] 168) = W at *
        rw [← hX] at K6
        rw [← hY] at K7
        clear hX hY
        refine (EQ.out W B2.out).mono ?_
        rintro e w2 ⟨q1, rfl, hq1⟩
        rw [decide_eq_false HE1.out]
        have K61 : Blk w2 X 168 #[.slice none 0 0, .slice none 0 0, .slice none 0 0, .bool false, .slice none 0 0] := by rw [hq1]; exact K6
        have K71 : Blk w2 Y 168 #[.slice A0 n0 c0, .slice A1 n1 c1, .slice A2 n2 c2, .bool false, .slice none 0 0] := by rw [hq1]; exact K7
        have B3 := Lib.hid (show Below w.heap.size w w2 by rw [hq1]; exact below_drewN B2.out _)
        clear hq1 K6 K7
        go_wp2_with fail
        refine (EQ2.out w2 B3.out).mono ?_
        rintro e w3 ⟨q2, rfl, hq2⟩
        rw [decide_eq_false HE2.out]
        have K62 : Blk w3 X 168 #[.slice none 0 0, .slice none 0 0, .slice none 0 0, .bool false, .slice none 0 0] := by rw [hq2]; exact K61
        have K72 : Blk w3 Y 168 #[.slice A0 n0 c0, .slice A1 n1 c1, .slice A2 n2 c2, .bool false, .slice none 0 0] := by rw [hq2]; exact K71
        have B4 := Lib.hid (show Below w.heap.size w w3 by rw [hq2]; exact below_drewN B3.out _)
        clear hq2 K61 K71
        go_wp2_with fail
        refine (EQ3.out w3 B4.out).mono ?_
        rintro e w4 ⟨q3, rfl, hq3⟩
        rw [decide_eq_false HE3.out]
        have K63 : Blk w4 X 168 #[.slice none 0 0, .slice none 0 0, .slice none 0 0, .bool false, .slice none 0 0] := by rw [hq3]; exact K62
        have K73 : Blk w4 Y 168 #[.slice A0 n0 c0, .slice A1 n1 c1, .slice A2 n2 c2, .bool false, .slice none 0 0] := by rw [hq3]; exact K72
        have B5 := Lib.hid (show Below w.heap.size w w4 by rw [hq3]; exact below_drewN B4.out _)
        clear hq3 K62 K72
        have y0 := K73.cell 0
        have y1 := K73.cell 1
        have y2 := K73.cell 2
        have y3 := K73.cell 3
        have y4 := K73.cell 4
        have x0 := K63.cell 0
        have f0 := K63.frozen 0
        have x1 := K63.cell 1
        have f1 := K63.frozen 1
        have x2 := K63.cell 2
        have f2 := K63.frozen 2
        have x3 := K63.cell 3
        have f3 := K63.frozen 3
        have x4 := K63.cell 4
        have f4 := K63.frozen 4
        have g3 := K73.frozen 3
        have g4 := K73.frozen 4
        have KF := Lib.hid (((((((K63.far (p := ⟨Y, 3, none⟩) hXY (.bool true)).set_ 0 (.slice A0 n0 c0)).set_ 1 (.slice A1 n1 c1)).set_ 2 (.slice A2 n2 c2)).set_ 3 (.bool true)).set_ 4 (.slice none 0 0)))
        have BF := Lib.hid ((((((B5.out.setCell (p := ⟨Y, 3, none⟩) HY.out (.bool true)).setCell (p := ⟨X, 0, none⟩) HX.out (.slice A0 n0 c0)).setCell (p := ⟨X, 1, none⟩) HX.out (.slice A1 n1 c1)).setCell (p := ⟨X, 2, none⟩) HX.out (.slice A2 n2 c2)).setCell (p := ⟨X, 3, none⟩) HX.out (.bool true)).setCell (p := ⟨X, 4, none⟩) HX.out (.slice none 0 0))
        clear K63 K73
        go_wp2
        refine bodyPost_ret (results_cell_row (fn := Tryz.f114) rfl _ _ X 168 #[.slice A0 n0 c0, .slice A1 n1 c1, .slice A2 n2 c2, .bool true, .slice none 0 0] (0, 0) _ rfl (by first | exact KF.out | simpa using KF.out) Tryz.underlying168 rfl (by kernel_rfl)) rfl ⟨.slice none 0 0, rfl, ?_, ?_⟩
        · exact fun W0 _ _ _ => Strs.nil W0
        · first | exact BF.out | simpa using BF.out
end Go.Proofs.YtapcnmnnichamaaGreatDoor.Mg

namespace Go.Proofs.YtapcnmnnichamaaGreatDoor.Mg
open Go Go.RowKit

/-- Five values a piece; its texts may be any slices. -/
def CkS (w : World) : List Value → List (Ck ByteArray) → Prop
  | vals, [] => vals = []
  | vals, c :: cs => ∃ a b d e rest, vals = a :: b :: d :: .bool c.clash :: e :: rest ∧ Strs w a c.base ∧ Strs w b c.ours ∧ Strs w d c.theirs ∧ Strs w e c.out ∧ CkS w rest cs
theorem CkS.below {w w' : World} (hb : Below w.heap.size w w') : ∀ {cs : List (Ck ByteArray)} {vals : List Value}, CkS w vals cs → CkS w' vals cs
  | [], _, h => h
  | _ :: _, _, ⟨a, b, d, e, rest, hv, h1, h2, h3, h4, h5⟩ => ⟨a, b, d, e, rest, hv, h1.below hb, h2.below hb, h3.below hb, h4.below hb, CkS.below hb h5⟩
theorem CkS.snoc {w : World} {c : Ck ByteArray} {a b d e : Value} (h1 : Strs w a c.base) (h2 : Strs w b c.ours) (h3 : Strs w d c.theirs) (h4 : Strs w e c.out) : ∀ {cs : List (Ck ByteArray)} {vals : List Value}, CkS w vals cs → CkS w (vals ++ [a, b, d, .bool c.clash, e]) (cs ++ [c])
  | [], _, h => by rw [show _ = [] from h]; exact ⟨a, b, d, e, [], rfl, h1, h2, h3, h4, rfl⟩
  | _ :: _, _, ⟨a', b', d', e', rest, hv, g1, g2, g3, g4, g5⟩ => ⟨a', b', d', e', _, by rw [hv]; rfl, g1, g2, g3, g4, CkS.snoc h1 h2 h3 h4 g5⟩
theorem CkS.at {w : World} : ∀ {cs : List (Ck ByteArray)} {vals : List Value} {i : Nat} {c : Ck ByteArray}, CkS w vals cs → cs[i]? = some c →
    ∃ a b d e, vals[i * 5]? = some a ∧ vals[i * 5 + 1]? = some b ∧ vals[i * 5 + 2]? = some d ∧ vals[i * 5 + 3]? = some (.bool c.clash) ∧ vals[i * 5 + 4]? = some e ∧ Strs w a c.base ∧ Strs w b c.ours ∧ Strs w d c.theirs ∧ Strs w e c.out
  | [], _, _, _, _, hi => by simp at hi
  | c0 :: cs, _, 0, c, ⟨a, b, d, e, rest, hv, g1, g2, g3, g4, _⟩, hi => by
    simp at hi
    subst hi
    rw [hv]
    exact ⟨a, b, d, e, rfl, rfl, rfl, rfl, rfl, g1, g2, g3, g4⟩
  | c0 :: cs, _, i + 1, c, ⟨a, b, d, e, rest, hv, _, _, _, _, g5⟩, hi => by
    rw [List.getElem?_cons_succ] at hi
    obtain ⟨a', b', d', e', k0, k1, k2, k3, k4, r⟩ := CkS.at g5 hi
    rw [hv]
    refine ⟨a', b', d', e', ?_, ?_, ?_, ?_, ?_, r⟩
    · rw [show (i + 1) * 5 = i * 5 + 5 by omega]; exact k0
    · rw [show (i + 1) * 5 + 1 = i * 5 + 1 + 5 by omega]; exact k1
    · rw [show (i + 1) * 5 + 2 = i * 5 + 2 + 5 by omega]; exact k2
    · rw [show (i + 1) * 5 + 3 = i * 5 + 3 + 5 by omega]; exact k3
    · rw [show (i + 1) * 5 + 4 = i * 5 + 4 + 5 by omega]; exact k4
theorem rowIs_below {W w' : World} {g n : Nat} {t : TypeId} {f : Nat → Value} (h : W.rowIs g t n f) (hb : Below W.heap.size W w') : w'.rowIs g t n f := h.of_block (hb.block g h.lt)
/-- A step, and that its run goes no further. -/
structure StepM (p q : List (Option Nat)) (b o t : List ByteArray) (i j k n j1 k1 m : Nat) : Prop where
  s : Step p q b o t i j k n j1 k1 m
  max : n + m < b.length → ¬ (p[n + m]? = some (some (j1 + m)) ∧ q[n + m]? = some (some (k1 + m)))
theorem stepM_any (p q : List (Option Nat)) (b o t : List ByteArray) (hp : p.length = b.length) (hq : q.length = b.length) (i j k f : Nat) (hi : i ≤ b.length) (he : ¬(i = b.length ∧ j = o.length ∧ k = t.length)) :
    ∃ n j1 k1 m, StepM p q b o t i j k n j1 k1 m ∧ chunks p q b o t (f + 1) i j k = firstC b o t i j k n j1 k1 ++ (keptC b o t n j1 k1 m ++ chunks p q b o t f (n + m) (j1 + m) (k1 + m)) := by
  obtain ⟨n, j1, k1, m, s, h1, h2, h3, h4⟩ := step_any p q b o t hp hq i j k hi
  refine ⟨n, j1, k1, m, ⟨s, fun hlt hc => ?_⟩, chunks_step p q b o t f i j k n j1 k1 m h1 h2 h3 h4 he⟩
  have hr := (rn_ge (isRun p q n j1 k1) (b.length - n) 0).2.2.2 (by rw [← h4]; omega)
  rw [← h4] at hr
  unfold isRun at hr
  rw [decide_eq_true hc.1, decide_eq_true hc.2] at hr
  cases hr
/-- .. at the end too. -/
theorem stepM_all (p q : List (Option Nat)) (b o t : List ByteArray) (hp : p.length = b.length) (hq : q.length = b.length) (i j k f : Nat) (hi : i ≤ b.length) :
    ∃ n j1 k1 m, StepM p q b o t i j k n j1 k1 m ∧ chunks p q b o t (f + 1) i j k = firstC b o t i j k n j1 k1 ++ (keptC b o t n j1 k1 m ++ chunks p q b o t f (n + m) (j1 + m) (k1 + m)) := by
  by_cases he : i = b.length ∧ j = o.length ∧ k = t.length
  · obtain ⟨rfl, rfl, rfl⟩ := he
    refine ⟨b.length, o.length, t.length, 0, ⟨⟨Nat.le_refl _, Nat.le_refl _, fun x h1 h2 => by omega, fun h => by omega, fun _ => ⟨rfl, rfl, rfl⟩, fun h => by omega, fun x h => by omega, by omega⟩, fun h => by omega⟩, ?_⟩
    have e0 := chunks_end p q b o t f b.length o.length t.length ⟨rfl, rfl, rfl⟩
    simp only [Nat.add_zero]
    rw [chunks_end p q b o t (f + 1) b.length o.length t.length ⟨rfl, rfl, rfl⟩, e0]
    simp [firstC, keptC]
  · exact stepM_any p q b o t hp hq i j k f hi he
/-- The document's pieces; or whose lines are too many. -/
def RefChunked (w : World) (b o t : List ByteArray) (cs : List (Ck ByteArray)) (e : Ending) (w' : World) : Prop :=
  (b.length ≤ 256 ∧ o.length ≤ 256 ∧ t.length ≤ 256 ∧ ∃ v vals, e = .returned (.tuple #[v, wrong0]) ∧ w'.ownsRow w.heap.size 168 5 v cs.length vals ∧ CkS w' vals cs ∧ Below w.heap.size w w') ∨
  ∃ k g : Nat, (Over b.length o.length k ∨ (b.length ≤ 256 ∧ o.length ≤ 256 ∧ Over b.length t.length k)) ∧ e = .returned (.tuple #[.slice none 0 0, wrongG g 4]) ∧ Blk w' g 82 #[.string bLines, .int .i64 (k : Int)] ∧ Below w.heap.size w w'
/-- A piece of a text. -/
theorem Strs.piece {w : World} {A : Option Addr} {n c : Nat} {ss : List ByteArray} (h : Strs w (.slice A n c) ss) {i k : Nat} (hi : i ≤ k) (hk : k ≤ n) :
    Strs w (.slice (if c = i then A else A.map (·.add i)) (k - i) (c - i)) (cutL2 ss i k) := by
  have h2 := (h.take hk).cut hi
  have e : (ss.take k).drop i = cutL2 ss i k := by unfold cutL2; rw [List.drop_take]
  rw [e] at h2
  exact h2
end Go.Proofs.YtapcnmnnichamaaGreatDoor.Mg
