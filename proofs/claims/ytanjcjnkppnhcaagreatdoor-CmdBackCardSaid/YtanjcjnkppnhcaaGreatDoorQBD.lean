/-
  rectoref17.Hear: verb by verb.
-/
import Derived.Test.YtanjcjnkppnhcaaGreatDoorQBC
import Derived.OwnWalk
import Derived.Deep.RegionHeld3

namespace Go.Proofs.YtanjcjnkppnhcaaGreatDoor
open Go Go.RowKit

set_option maxRecDepth 100000 in
set_option maxHeartbeats 8000000 in
theorem hear_3 (s : ByteArray) (w : World) (hs : s.size ≤ 100000) (nm : ByteArray) (n : Nat) (tx : ByteArray) (f : Bool) (l : List Fl) (h : parseK s.data.toList = .ok 3 nm n tx f l) : Calls Tryz.prog 32 #[.string s] w (HearTo (vB 3, nm, (n : Int), tx, f, l) w) := by
  obtain ⟨hk, hv, h14, hr, hp, hc⟩ := parseK_ok h
  clear h
  have C1 := Lib.hid fun W => refCut_any s 10 W (by omega)
  have L1 := cutL_len 10 s.data.toList
  obtain ⟨⟨cl, cm, cb⟩, hcx⟩ : ∃ x, x = cutL 10 s.data.toList := ⟨_, rfl⟩
  rw [← hcx] at C1 L1 hv h14 hr hp
  dsimp only at C1 L1 hv h14 hr hp
  rw [size_listB] at L1
  have hrm : cb = false → mkW cm = ⟨#[]⟩ := fun h => by
    have := @cut_gone 10 s.data.toList
    rw [← hcx] at this
    exact congrArg mkW (this h)
  have C2 := Lib.hid fun W => refCut_any (mkW cl) 32 W (by rw [mkW_size]; omega)
  have L2 := cutL_len 32 cl
  obtain ⟨⟨dv, ds, db⟩, hd⟩ : ∃ x, x = cutL 32 cl := ⟨_, rfl⟩
  rw [list_mkW, ← hd] at C2
  rw [← hd] at L2 hv hr
  dsimp only at C2 L2 hv hr
  rw [hv] at C2
  have zs : (mkW ds).size ≤ 100000 := by rw [mkW_size]; omega
  have zm : (mkW cm).size ≤ 100000 := by rw [mkW_size]; omega
  have hpm : parseP (nls (mkW cm).data.toList) 0 [] = .inl l := by rw [list_mkW]; exact hp
  generalize mkW ds = rs at *
  generalize mkW cm = rm at *
  clear hp hcx hd L1 L2 hv
  have PL := Lib.hid fun W => (show Calls Tryz.prog 49 #[.string ⟨#[98, 114, 97, 110, 99, 104]⟩] W fun e w' => e = .returned (.int .i64 3) ∧ Below W.heap.size W w' by
    have := refPlace_any (vB 3) W
    rw [place_vB (by decide)] at this
    exact this)
  have AT := Lib.hid fun W => (show Calls Tryz.prog 40 #[.string ⟨#[99, 109, 100]⟩, .int .i64 3, .int .i64 2] W fun x w' => ∃ g, x = .returned (.agg #[.slice (some ⟨g, 0, none⟩) 1 1, .int .i64 2]) ∧ Blk w' g 91 #[.string bCmd, .int .i64 3] ∧ W.heap.size ≤ g ∧ Below W.heap.size W w' from refAt_any bCmd 3 2 W)
  have C2 := Lib.hid fun W => (show Calls Tryz.prog 67 #[.string (mkW cl), .int .u8 32] W fun e w' => e = .returned (.tuple #[.string ⟨#[98, 114, 97, 110, 99, 104]⟩, .string rs, .bool db]) ∧ ∃ n, w' = w'.drewN 0 ∧ w' = W.drewN n from (C2.out W).mono fun e w' h => ⟨h.1, h.2.imp fun n h => ⟨rfl, h⟩⟩)
  obtain rfl := h14 (by decide)
  clear h14
  have hrm0 := hrm rfl
  clear hrm
  have hl0 : l = [] := by
    have h0 : parseP (nls (⟨#[]⟩ : ByteArray).data.toList) 0 [] = .inl [] := by decide +kernel
    rw [hrm0, h0] at hpm
    exact (Sum.inl.inj hpm).symm
  subst hl0
  clear hpm hrm0 zm
  have hnm : nm.size ≤ 1000000 := readK_size hr zs
  obtain ⟨no, rfl, hcs⟩ := readK_words (k := 3) rfl hr
  obtain ⟨rfl, -, hw⟩ : f = false ∧ True ∧ readW 3 (wordsK rs db) = some (nm, n) := by
    rcases hcs with ⟨h1, h2, -⟩ | ⟨h1, -, h3⟩
    · first | (cases h2; done) | exact absurd (hf.symm.trans h1) (by simp)
    · exact ⟨h1, trivial, h3⟩
  clear hcs
  obtain ⟨x, hx⟩ : ∃ x, wordsK rs db = [x] := readW_one (by omega) hw
  rw [hx] at hw no
  obtain ⟨rfl, rfl⟩ : nm = x ∧ n = 0 := readW_names (by omega) hw
  obtain rfl := words_given hx (by simp)
  have FI := Lib.hid (fields_one rs nm zs hx)
  obtain ⟨q1, q2, q3⟩ : nm ≠ ⟨#[]⟩ ∧ nm.toList.isEmpty = false ∧ ¬ nm.toList = [] := by
    rcases emptyB nm with ⟨h, -⟩ | h
    · exact absurd h (no nm (by simp))
    · exact h
  have HC := Lib.hid hc
  have HNM := Lib.hid hnm
  clear hk hr hw no hx hc hnm zs hs q1
  have T0 := Lib.hid (HS.first w)
  obtain ⟨g, hg⟩ : ∃ g, g = w.heap.size := ⟨_, rfl⟩
  have HG := Lib.hid hg
  rw [← hg] at T0
  unfold zero6 at T0
  go_enter Tryz.func32, Tryz.ntmps32
  go_wp2_with fail
  rw [← hg]
  clear hg
  generalize (w.alloc (.cells #[.string ⟨#[]⟩, .string ⟨#[]⟩, .int .i64 0, .string ⟨#[]⟩, .bool false, .slice none 0 0] 56)).alloc (.cells #[.slice none 0 0, .int .i64 0] 31) = w1 at *
  refine (C1.out _).mono ?_
  rintro e w2 ⟨rfl, q1, hw2⟩
  have T2 := Lib.hid (show HS w g w2 by rw [hw2]; exact T0.out.below (below_drewN (Below.refl _ _) q1))
  clear C1 hw2 T0
  go_wp2_with fail
  refine (C2.out _).mono ?_
  rintro e w3 ⟨rfl, q2, -, hw3⟩
  have T3 := Lib.hid (show HS w g w3 by rw [hw3]; exact T2.out.below (below_drewN (Below.refl _ _) q2))
  clear C2 hw3 T2
  go_wp2_with fail
  refine (PL.out _).mono ?_
  rintro e w4 ⟨rfl, d4⟩
  have T4 := Lib.hid (T3.out.below d4)
  clear PL d4 T3
  have T5 := Lib.hid (T4.out.below ((Below.refl _ _).alloc (Nat.le_refl _) (.cells #[.string ⟨#[98, 114, 97, 110, 99, 104]⟩, .string ⟨#[]⟩, .int .i64 0, .string ⟨#[]⟩, .bool false, .slice none 0 0] 56)))
  have K5 := Lib.hid (Blk.new w4 56 #[.string ⟨#[98, 114, 97, 110, 99, 104]⟩, .string ⟨#[]⟩, .int .i64 0, .string ⟨#[]⟩, .bool false, .slice none 0 0])
  obtain ⟨b, hb⟩ : ∃ b, b = w4.heap.size := ⟨_, rfl⟩
  have HGB := Lib.hid (show g + 1 < b by rw [hb]; exact T4.out.res2.lt)
  rw [← hb] at K5
  go_wp2_with fail
  rw [← hb]
  clear hb T4
  generalize w4.alloc (.cells #[.string ⟨#[98, 114, 97, 110, 99, 104]⟩, .string ⟨#[]⟩, .int .i64 0, .string ⟨#[]⟩, .bool false, .slice none 0 0] 56) = w5 at *
  refine (AT.out _).mono ?_
  rintro e w6 ⟨g6, rfl, -, -, d6⟩
  have T6 := Lib.hid (T5.out.below d6)
  have K6 := Lib.hid (K5.out.below d6 K5.out.lt)
  have d7 := (Below.refl w6.heap.size w6).alloc (Nat.le_refl _) (.cells #[.slice (some ⟨g6, 0, none⟩) 1 1, .int .i64 2] 31)
  have T7 := Lib.hid (T6.out.below d7)
  have K7 := Lib.hid (K6.out.below d7 K6.out.lt)
  clear AT d6 d7 T5 K5 T6 K6
  go_wp2_with fail
  generalize w6.alloc (.cells #[.slice (some ⟨g6, 0, none⟩) 1 1, .int .i64 2] 31) = w7 at *
  refine (FI.out _).mono ?_
  rintro e w8 ⟨a, c, rfl, a0, hc1, hca, d8⟩
  have T8 := Lib.hid (T7.out.below d8)
  have K8 := Lib.hid (K7.out.below d8 K7.out.lt)
  have HAB := Lib.hid (show a ≠ b by have := K7.out.lt; omega)
  have nab := HAB.out
  have hc := HC.out
  have hnm := HNM.out
  clear FI d8 T7 K7 hca HC HNM
  have T9 : Hid (HS w g (w8.setCell ⟨b, 1, none⟩ (.string nm))) := Lib.hid (T8.out.set (i := 1) HGB.out (.string nm))
  have K9 : Hid (Blk (w8.setCell ⟨b, 1, none⟩ (.string nm)) b 56 #[.string ⟨#[98, 114, 97, 110, 99, 104]⟩, .string nm, .int .i64 0, .string ⟨#[]⟩, .bool false, .slice none 0 0]) := Lib.hid (K8.out.set_ 1 (.string nm))
  have CK := Lib.hid fun W hl => (show Calls Tryz.prog 23 #[.agg #[.string ⟨#[98, 114, 97, 110, 99, 104]⟩, .string nm, .int .i64 0, .string ⟨#[]⟩, .bool false, .slice none 0 0]] W fun e w' => e = .returned (.agg #[.slice none 0 0, .int .i64 0]) ∧ Below W.heap.size W w' from check_ref (k := 3) (by decide) hc hnm none 0 W hl)
  clear hc hnm hc1
  have x0 := K8.out.cell 0
  have x1 := K8.out.cell 1
  have x2 := K8.out.cell 2
  have x3 := K8.out.cell 3
  have x4 := K8.out.cell 4
  have x5 := K8.out.cell 5
  have g1 := K8.out.frozen 1
  go_wp2_with fail
  clear x0 x1 x2 x3 x4 x5 a0 nab HAB g1
  refine (CK.out _ (Reads.nil _)).mono ?_
  rintro e w10 ⟨rfl, d10⟩
  have T10 := Lib.hid (T9.out.below d10)
  have K10 := Lib.hid (K9.out.below d10 K9.out.lt)
  have d11 := (Below.refl w10.heap.size w10).alloc (Nat.le_refl _) (.cells #[.slice none 0 0, .int .i64 0] 31)
  have T11 := Lib.hid (T10.out.below d11)
  have K11 := Lib.hid (K10.out.below d11 K10.out.lt)
  have Z11 := Lib.hid (Blk.new w10 31 #[.slice none 0 0, .int .i64 0])
  obtain ⟨gz, hgz⟩ : ∃ x, x = w10.heap.size := ⟨_, rfl⟩
  have HGZ := Lib.hid (show g + 1 < gz ∧ b < gz by rw [hgz]; exact ⟨T10.out.res2.lt, K10.out.lt⟩)
  rw [← hgz] at Z11
  clear CK d10 d11 T9 K9 T8 K8 T10 K10
  go_wp2_with fail
  rw [← hgz]
  clear hgz
  generalize w10.alloc (.cells #[.slice none 0 0, .int .i64 0] 31) = w11 at *
  have e1 := Z11.out.cell 1
  have e0 := Z11.out.cell 0
  go_upto_region 71 with fail
  have x0 := K11.out.cell 0
  have x1 := K11.out.cell 1
  have x2 := K11.out.cell 2
  have x3 := K11.out.cell 3
  have x4 := K11.out.cell 4
  have x5 := K11.out.cell 5
  have SZ := Lib.hid fun V (h : Blk V b 56 #[.string ⟨#[98, 114, 97, 110, 99, 104]⟩, .string nm, .int .i64 0, .string ⟨#[]⟩, .bool false, .slice none 0 0]) (k : Blk V gz 31 #[.slice none 0 0, .int .i64 0]) => (⟨h.cell 0, h.cell 1, h.cell 2, h.cell 3, h.cell 4, h.cell 5, k.cell 0, k.cell 1⟩ : V.cell? ⟨b, 0, none⟩ = some (.string ⟨#[98, 114, 97, 110, 99, 104]⟩) ∧ V.cell? ⟨b, 1, none⟩ = some (.string nm) ∧ V.cell? ⟨b, 2, none⟩ = some (.int .i64 0) ∧ V.cell? ⟨b, 3, none⟩ = some (.string ⟨#[]⟩) ∧ V.cell? ⟨b, 4, none⟩ = some (.bool false) ∧ V.cell? ⟨b, 5, none⟩ = some (.slice none 0 0) ∧ V.cell? ⟨gz, 0, none⟩ = some (.slice none 0 0) ∧ V.cell? ⟨gz, 1, none⟩ = some (.int .i64 0))
  have n1 : b ≠ g := by have := HGB.out; omega
  have n2 : b ≠ g + 1 := by have := HGB.out; omega
  have n3 : gz ≠ g := by have := HGZ.out; omega
  have n4 : gz ≠ g + 1 := by have := HGZ.out; omega
  have T12 := Lib.hid (show HS w g w11.drew from T11.out.below (below_drewN (Below.refl _ _) 1))
  have K12 := Lib.hid (show Blk w11.drew b 56 #[.string ⟨#[98, 114, 97, 110, 99, 104]⟩, .string nm, .int .i64 0, .string ⟨#[]⟩, .bool false, .slice none 0 0] from K11.out)
  have Z12 := Lib.hid (show Blk w11.drew gz 31 #[.slice none 0 0, .int .i64 0] from Z11.out)
  refine wp_region_held_drew (S := fun V => V.cell? ⟨b, 0, none⟩ = some (.string ⟨#[98, 114, 97, 110, 99, 104]⟩) ∧ V.cell? ⟨b, 1, none⟩ = some (.string nm) ∧ V.cell? ⟨b, 2, none⟩ = some (.int .i64 0) ∧ V.cell? ⟨b, 3, none⟩ = some (.string ⟨#[]⟩) ∧ V.cell? ⟨b, 4, none⟩ = some (.bool false) ∧ V.cell? ⟨b, 5, none⟩ = some (.slice none 0 0) ∧ V.cell? ⟨gz, 0, none⟩ = some (.slice none 0 0) ∧ V.cell? ⟨gz, 1, none⟩ = some (.int .i64 0)) (by kernel_rfl) (SZ.out _ K12.out Z12.out) (fun hHeld => ?_)
  generalize w11.drew = w12 at *
  obtain ⟨z0, z1, z2, z3, z4, z5, z6, z7⟩ := T12.out.cells
  obtain ⟨f0, f1, f2, f3, f4, f5, f6, f7⟩ := T12.out.frozen
  have K13 := Lib.hid (far6 K12.out n1 (.string ⟨#[98, 114, 97, 110, 99, 104]⟩) (.string nm) (.int .i64 0) (.string ⟨#[]⟩) (.bool false) (.slice none 0 0))
  have Z13 := Lib.hid (far6 Z12.out n3 (.string ⟨#[98, 114, 97, 110, 99, 104]⟩) (.string nm) (.int .i64 0) (.string ⟨#[]⟩) (.bool false) (.slice none 0 0))
  have K14 := Lib.hid ((K13.out.far (p := ⟨g + 1, 0, none⟩) n2 (.slice none 0 0)).far (p := ⟨g + 1, 1, none⟩) n2 (.int .i64 0))
  have Z14 := Lib.hid ((Z13.out.far (p := ⟨g + 1, 0, none⟩) n4 (.slice none 0 0)).far (p := ⟨g + 1, 1, none⟩) n4 (.int .i64 0))
  refine wpAnyH_take (i := 0) (oi := { dst := some 233, op := Op.load 56 (Operand.tmp 11), type := 56, pos := "ref.go:560", after := #[], guard := none }) (v := ?vp0) rfl (by kernel_rfl) (by kernel_rfl) (by kernel_rfl) (fun _ _ _ h => h) (Or.inl ⟨by rfl, ?yp0⟩) (by assumption) ?rp0
  case yp0 => (intro w' hSw; (try dsimp only at hSw); go_split_ands; go_simp; try with_reducible rfl)
  try simp only [Act.put, List.setIfInBounds_toArray, List.set_cons_zero, List.set_cons_succ]
  refine wpAnyH_take (i := 1) (oi := { dst := some 234, op := Op.load 31 (Operand.tmp 16), type := 31, pos := "ref.go:560", after := #[{ on := 2, ground := Ground.gcOnly Departure.lateStores }], guard := none }) (v := ?vp1) rfl (by kernel_rfl) (by kernel_rfl) (by kernel_rfl) (fun _ _ _ h => h) (Or.inl ⟨by rfl, ?yp1⟩) (by assumption) ?rp1
  case yp1 => (intro w' hSw; (try dsimp only at hSw); go_split_ands; go_simp; try with_reducible rfl)
  try simp only [Act.put, List.setIfInBounds_toArray, List.set_cons_zero, List.set_cons_succ]
  refine wpAnyH_ready (rs := [2]) (by kernel_rfl) (by simp) ?_
  refine AllReadyH.cons (o := { dst := none, op := Op.store 56 (Operand.tmp 2) (Operand.tmp 233), type := 0, pos := "ref.go:560", after := #[{ on := 0, ground := Ground.data }, { on := 0, ground := Ground.phase }, { on := 1, ground := Ground.textOnly Departure.lateStores }], guard := none }) rfl (fun K hK => ?_) AllReadyH.nil
  go_simp
  refine hK.out _ _ (SZ.out _ K13.out Z13.out) (fun hHeld2 => ?_)
  clear hK K hHeld
  try simp only [Act.put, List.setIfInBounds_toArray, List.set_cons_zero, List.set_cons_succ]
  refine wpAnyH_ready (rs := [3]) (by kernel_rfl) (by simp) ?_
  refine AllReadyH.cons (o := { dst := none, op := Op.store 31 (Operand.tmp 3) (Operand.tmp 234), type := 0, pos := "ref.go:560", after := #[{ on := 1, ground := Ground.data }, { on := 2, ground := Ground.chain }, { on := 0, ground := Ground.phase }, { on := 1, ground := Ground.phase }, { on := 2, ground := Ground.phase }], guard := none }) rfl (fun K hK => ?_) AllReadyH.nil
  go_simp
  refine hK.out _ _ (SZ.out _ K14.out Z14.out) (fun hHeld3 => ?_)
  clear hK K hHeld2
  try simp only [Act.put, List.setIfInBounds_toArray, List.set_cons_zero, List.set_cons_succ]
  refine wpAnyH_done (by kernel_rfl) ?_ _
  have RE := Lib.hid (T12.out.done (.string ⟨#[98, 114, 97, 110, 99, 104]⟩) (.string nm) (.int .i64 0) (.string ⟨#[]⟩) (.bool false) (.slice none 0 0) (.slice none 0 0) (.int .i64 0))
  unfold endW at RE
  go_wp2_with fail
  exact bodyPost_ret (results_cc (fn := Tryz.f32) rfl _ _ g (g + 1) 56 31 _ _ (0, 0) (0, 0) _ _ rfl RE.out.1 Tryz.underlying56 rfl refCmdSize rfl RE.out.2.1 Tryz.underlying31 rfl wrongSize31) rfl ⟨_, _, rfl, Reads.nil _, RE.out.2.2⟩
set_option maxRecDepth 100000 in
set_option maxHeartbeats 8000000 in
theorem hear_4 (s : ByteArray) (w : World) (hs : s.size ≤ 100000) (nm : ByteArray) (n : Nat) (tx : ByteArray) (f : Bool) (l : List Fl) (h : parseK s.data.toList = .ok 4 nm n tx f l) : Calls Tryz.prog 32 #[.string s] w (HearTo (vB 4, nm, (n : Int), tx, f, l) w) := by
  obtain ⟨hk, hv, h14, hr, hp, hc⟩ := parseK_ok h
  clear h
  have C1 := Lib.hid fun W => refCut_any s 10 W (by omega)
  have L1 := cutL_len 10 s.data.toList
  obtain ⟨⟨cl, cm, cb⟩, hcx⟩ : ∃ x, x = cutL 10 s.data.toList := ⟨_, rfl⟩
  rw [← hcx] at C1 L1 hv h14 hr hp
  dsimp only at C1 L1 hv h14 hr hp
  rw [size_listB] at L1
  have hrm : cb = false → mkW cm = ⟨#[]⟩ := fun h => by
    have := @cut_gone 10 s.data.toList
    rw [← hcx] at this
    exact congrArg mkW (this h)
  have C2 := Lib.hid fun W => refCut_any (mkW cl) 32 W (by rw [mkW_size]; omega)
  have L2 := cutL_len 32 cl
  obtain ⟨⟨dv, ds, db⟩, hd⟩ : ∃ x, x = cutL 32 cl := ⟨_, rfl⟩
  rw [list_mkW, ← hd] at C2
  rw [← hd] at L2 hv hr
  dsimp only at C2 L2 hv hr
  rw [hv] at C2
  have zs : (mkW ds).size ≤ 100000 := by rw [mkW_size]; omega
  have zm : (mkW cm).size ≤ 100000 := by rw [mkW_size]; omega
  have hpm : parseP (nls (mkW cm).data.toList) 0 [] = .inl l := by rw [list_mkW]; exact hp
  generalize mkW ds = rs at *
  generalize mkW cm = rm at *
  clear hp hcx hd L1 L2 hv
  have PL := Lib.hid fun W => (show Calls Tryz.prog 49 #[.string ⟨#[100, 101, 108, 101, 116, 101]⟩] W fun e w' => e = .returned (.int .i64 4) ∧ Below W.heap.size W w' by
    have := refPlace_any (vB 4) W
    rw [place_vB (by decide)] at this
    exact this)
  have AT := Lib.hid fun W => (show Calls Tryz.prog 40 #[.string ⟨#[99, 109, 100]⟩, .int .i64 4, .int .i64 2] W fun x w' => ∃ g, x = .returned (.agg #[.slice (some ⟨g, 0, none⟩) 1 1, .int .i64 2]) ∧ Blk w' g 91 #[.string bCmd, .int .i64 4] ∧ W.heap.size ≤ g ∧ Below W.heap.size W w' from refAt_any bCmd 4 2 W)
  have C2 := Lib.hid fun W => (show Calls Tryz.prog 67 #[.string (mkW cl), .int .u8 32] W fun e w' => e = .returned (.tuple #[.string ⟨#[100, 101, 108, 101, 116, 101]⟩, .string rs, .bool db]) ∧ ∃ n, w' = w'.drewN 0 ∧ w' = W.drewN n from (C2.out W).mono fun e w' h => ⟨h.1, h.2.imp fun n h => ⟨rfl, h⟩⟩)
  obtain rfl := h14 (by decide)
  clear h14
  have hrm0 := hrm rfl
  clear hrm
  have hl0 : l = [] := by
    have h0 : parseP (nls (⟨#[]⟩ : ByteArray).data.toList) 0 [] = .inl [] := by decide +kernel
    rw [hrm0, h0] at hpm
    exact (Sum.inl.inj hpm).symm
  subst hl0
  clear hpm hrm0 zm
  have hnm : nm.size ≤ 1000000 := readK_size hr zs
  obtain ⟨no, rfl, hcs⟩ := readK_words (k := 4) rfl hr
  obtain ⟨rfl, -, hw⟩ : f = false ∧ True ∧ readW 4 (wordsK rs db) = some (nm, n) := by
    rcases hcs with ⟨h1, h2, -⟩ | ⟨h1, -, h3⟩
    · first | (cases h2; done) | exact absurd (hf.symm.trans h1) (by simp)
    · exact ⟨h1, trivial, h3⟩
  clear hcs
  obtain ⟨x, hx⟩ : ∃ x, wordsK rs db = [x] := readW_one (by omega) hw
  rw [hx] at hw no
  obtain ⟨rfl, rfl⟩ : nm = x ∧ n = 0 := readW_names (by omega) hw
  obtain rfl := words_given hx (by simp)
  have FI := Lib.hid (fields_one rs nm zs hx)
  obtain ⟨q1, q2, q3⟩ : nm ≠ ⟨#[]⟩ ∧ nm.toList.isEmpty = false ∧ ¬ nm.toList = [] := by
    rcases emptyB nm with ⟨h, -⟩ | h
    · exact absurd h (no nm (by simp))
    · exact h
  have HC := Lib.hid hc
  have HNM := Lib.hid hnm
  clear hk hr hw no hx hc hnm zs hs q1
  have T0 := Lib.hid (HS.first w)
  obtain ⟨g, hg⟩ : ∃ g, g = w.heap.size := ⟨_, rfl⟩
  have HG := Lib.hid hg
  rw [← hg] at T0
  unfold zero6 at T0
  go_enter Tryz.func32, Tryz.ntmps32
  go_wp2_with fail
  rw [← hg]
  clear hg
  generalize (w.alloc (.cells #[.string ⟨#[]⟩, .string ⟨#[]⟩, .int .i64 0, .string ⟨#[]⟩, .bool false, .slice none 0 0] 56)).alloc (.cells #[.slice none 0 0, .int .i64 0] 31) = w1 at *
  refine (C1.out _).mono ?_
  rintro e w2 ⟨rfl, q1, hw2⟩
  have T2 := Lib.hid (show HS w g w2 by rw [hw2]; exact T0.out.below (below_drewN (Below.refl _ _) q1))
  clear C1 hw2 T0
  go_wp2_with fail
  refine (C2.out _).mono ?_
  rintro e w3 ⟨rfl, q2, -, hw3⟩
  have T3 := Lib.hid (show HS w g w3 by rw [hw3]; exact T2.out.below (below_drewN (Below.refl _ _) q2))
  clear C2 hw3 T2
  go_wp2_with fail
  refine (PL.out _).mono ?_
  rintro e w4 ⟨rfl, d4⟩
  have T4 := Lib.hid (T3.out.below d4)
  clear PL d4 T3
  have T5 := Lib.hid (T4.out.below ((Below.refl _ _).alloc (Nat.le_refl _) (.cells #[.string ⟨#[100, 101, 108, 101, 116, 101]⟩, .string ⟨#[]⟩, .int .i64 0, .string ⟨#[]⟩, .bool false, .slice none 0 0] 56)))
  have K5 := Lib.hid (Blk.new w4 56 #[.string ⟨#[100, 101, 108, 101, 116, 101]⟩, .string ⟨#[]⟩, .int .i64 0, .string ⟨#[]⟩, .bool false, .slice none 0 0])
  obtain ⟨b, hb⟩ : ∃ b, b = w4.heap.size := ⟨_, rfl⟩
  have HGB := Lib.hid (show g + 1 < b by rw [hb]; exact T4.out.res2.lt)
  rw [← hb] at K5
  go_wp2_with fail
  rw [← hb]
  clear hb T4
  generalize w4.alloc (.cells #[.string ⟨#[100, 101, 108, 101, 116, 101]⟩, .string ⟨#[]⟩, .int .i64 0, .string ⟨#[]⟩, .bool false, .slice none 0 0] 56) = w5 at *
  refine (AT.out _).mono ?_
  rintro e w6 ⟨g6, rfl, -, -, d6⟩
  have T6 := Lib.hid (T5.out.below d6)
  have K6 := Lib.hid (K5.out.below d6 K5.out.lt)
  have d7 := (Below.refl w6.heap.size w6).alloc (Nat.le_refl _) (.cells #[.slice (some ⟨g6, 0, none⟩) 1 1, .int .i64 2] 31)
  have T7 := Lib.hid (T6.out.below d7)
  have K7 := Lib.hid (K6.out.below d7 K6.out.lt)
  clear AT d6 d7 T5 K5 T6 K6
  go_wp2_with fail
  generalize w6.alloc (.cells #[.slice (some ⟨g6, 0, none⟩) 1 1, .int .i64 2] 31) = w7 at *
  refine (FI.out _).mono ?_
  rintro e w8 ⟨a, c, rfl, a0, hc1, hca, d8⟩
  have T8 := Lib.hid (T7.out.below d8)
  have K8 := Lib.hid (K7.out.below d8 K7.out.lt)
  have HAB := Lib.hid (show a ≠ b by have := K7.out.lt; omega)
  have nab := HAB.out
  have hc := HC.out
  have hnm := HNM.out
  clear FI d8 T7 K7 hca HC HNM
  have T9 : Hid (HS w g (w8.setCell ⟨b, 1, none⟩ (.string nm))) := Lib.hid (T8.out.set (i := 1) HGB.out (.string nm))
  have K9 : Hid (Blk (w8.setCell ⟨b, 1, none⟩ (.string nm)) b 56 #[.string ⟨#[100, 101, 108, 101, 116, 101]⟩, .string nm, .int .i64 0, .string ⟨#[]⟩, .bool false, .slice none 0 0]) := Lib.hid (K8.out.set_ 1 (.string nm))
  have CK := Lib.hid fun W hl => (show Calls Tryz.prog 23 #[.agg #[.string ⟨#[100, 101, 108, 101, 116, 101]⟩, .string nm, .int .i64 0, .string ⟨#[]⟩, .bool false, .slice none 0 0]] W fun e w' => e = .returned (.agg #[.slice none 0 0, .int .i64 0]) ∧ Below W.heap.size W w' from check_ref (k := 4) (by decide) hc hnm none 0 W hl)
  clear hc hnm hc1
  have x0 := K8.out.cell 0
  have x1 := K8.out.cell 1
  have x2 := K8.out.cell 2
  have x3 := K8.out.cell 3
  have x4 := K8.out.cell 4
  have x5 := K8.out.cell 5
  have g1 := K8.out.frozen 1
  go_wp2_with fail
  clear x0 x1 x2 x3 x4 x5 a0 nab HAB g1
  refine (CK.out _ (Reads.nil _)).mono ?_
  rintro e w10 ⟨rfl, d10⟩
  have T10 := Lib.hid (T9.out.below d10)
  have K10 := Lib.hid (K9.out.below d10 K9.out.lt)
  have d11 := (Below.refl w10.heap.size w10).alloc (Nat.le_refl _) (.cells #[.slice none 0 0, .int .i64 0] 31)
  have T11 := Lib.hid (T10.out.below d11)
  have K11 := Lib.hid (K10.out.below d11 K10.out.lt)
  have Z11 := Lib.hid (Blk.new w10 31 #[.slice none 0 0, .int .i64 0])
  obtain ⟨gz, hgz⟩ : ∃ x, x = w10.heap.size := ⟨_, rfl⟩
  have HGZ := Lib.hid (show g + 1 < gz ∧ b < gz by rw [hgz]; exact ⟨T10.out.res2.lt, K10.out.lt⟩)
  rw [← hgz] at Z11
  clear CK d10 d11 T9 K9 T8 K8 T10 K10
  go_wp2_with fail
  rw [← hgz]
  clear hgz
  generalize w10.alloc (.cells #[.slice none 0 0, .int .i64 0] 31) = w11 at *
  have e1 := Z11.out.cell 1
  have e0 := Z11.out.cell 0
  go_upto_region 71 with fail
  have x0 := K11.out.cell 0
  have x1 := K11.out.cell 1
  have x2 := K11.out.cell 2
  have x3 := K11.out.cell 3
  have x4 := K11.out.cell 4
  have x5 := K11.out.cell 5
  have SZ := Lib.hid fun V (h : Blk V b 56 #[.string ⟨#[100, 101, 108, 101, 116, 101]⟩, .string nm, .int .i64 0, .string ⟨#[]⟩, .bool false, .slice none 0 0]) (k : Blk V gz 31 #[.slice none 0 0, .int .i64 0]) => (⟨h.cell 0, h.cell 1, h.cell 2, h.cell 3, h.cell 4, h.cell 5, k.cell 0, k.cell 1⟩ : V.cell? ⟨b, 0, none⟩ = some (.string ⟨#[100, 101, 108, 101, 116, 101]⟩) ∧ V.cell? ⟨b, 1, none⟩ = some (.string nm) ∧ V.cell? ⟨b, 2, none⟩ = some (.int .i64 0) ∧ V.cell? ⟨b, 3, none⟩ = some (.string ⟨#[]⟩) ∧ V.cell? ⟨b, 4, none⟩ = some (.bool false) ∧ V.cell? ⟨b, 5, none⟩ = some (.slice none 0 0) ∧ V.cell? ⟨gz, 0, none⟩ = some (.slice none 0 0) ∧ V.cell? ⟨gz, 1, none⟩ = some (.int .i64 0))
  have n1 : b ≠ g := by have := HGB.out; omega
  have n2 : b ≠ g + 1 := by have := HGB.out; omega
  have n3 : gz ≠ g := by have := HGZ.out; omega
  have n4 : gz ≠ g + 1 := by have := HGZ.out; omega
  have T12 := Lib.hid (show HS w g w11.drew from T11.out.below (below_drewN (Below.refl _ _) 1))
  have K12 := Lib.hid (show Blk w11.drew b 56 #[.string ⟨#[100, 101, 108, 101, 116, 101]⟩, .string nm, .int .i64 0, .string ⟨#[]⟩, .bool false, .slice none 0 0] from K11.out)
  have Z12 := Lib.hid (show Blk w11.drew gz 31 #[.slice none 0 0, .int .i64 0] from Z11.out)
  refine wp_region_held_drew (S := fun V => V.cell? ⟨b, 0, none⟩ = some (.string ⟨#[100, 101, 108, 101, 116, 101]⟩) ∧ V.cell? ⟨b, 1, none⟩ = some (.string nm) ∧ V.cell? ⟨b, 2, none⟩ = some (.int .i64 0) ∧ V.cell? ⟨b, 3, none⟩ = some (.string ⟨#[]⟩) ∧ V.cell? ⟨b, 4, none⟩ = some (.bool false) ∧ V.cell? ⟨b, 5, none⟩ = some (.slice none 0 0) ∧ V.cell? ⟨gz, 0, none⟩ = some (.slice none 0 0) ∧ V.cell? ⟨gz, 1, none⟩ = some (.int .i64 0)) (by kernel_rfl) (SZ.out _ K12.out Z12.out) (fun hHeld => ?_)
  generalize w11.drew = w12 at *
  obtain ⟨z0, z1, z2, z3, z4, z5, z6, z7⟩ := T12.out.cells
  obtain ⟨f0, f1, f2, f3, f4, f5, f6, f7⟩ := T12.out.frozen
  have K13 := Lib.hid (far6 K12.out n1 (.string ⟨#[100, 101, 108, 101, 116, 101]⟩) (.string nm) (.int .i64 0) (.string ⟨#[]⟩) (.bool false) (.slice none 0 0))
  have Z13 := Lib.hid (far6 Z12.out n3 (.string ⟨#[100, 101, 108, 101, 116, 101]⟩) (.string nm) (.int .i64 0) (.string ⟨#[]⟩) (.bool false) (.slice none 0 0))
  have K14 := Lib.hid ((K13.out.far (p := ⟨g + 1, 0, none⟩) n2 (.slice none 0 0)).far (p := ⟨g + 1, 1, none⟩) n2 (.int .i64 0))
  have Z14 := Lib.hid ((Z13.out.far (p := ⟨g + 1, 0, none⟩) n4 (.slice none 0 0)).far (p := ⟨g + 1, 1, none⟩) n4 (.int .i64 0))
  refine wpAnyH_take (i := 0) (oi := { dst := some 233, op := Op.load 56 (Operand.tmp 11), type := 56, pos := "ref.go:560", after := #[], guard := none }) (v := ?vp0) rfl (by kernel_rfl) (by kernel_rfl) (by kernel_rfl) (fun _ _ _ h => h) (Or.inl ⟨by rfl, ?yp0⟩) (by assumption) ?rp0
  case yp0 => (intro w' hSw; (try dsimp only at hSw); go_split_ands; go_simp; try with_reducible rfl)
  try simp only [Act.put, List.setIfInBounds_toArray, List.set_cons_zero, List.set_cons_succ]
  refine wpAnyH_take (i := 1) (oi := { dst := some 234, op := Op.load 31 (Operand.tmp 16), type := 31, pos := "ref.go:560", after := #[{ on := 2, ground := Ground.gcOnly Departure.lateStores }], guard := none }) (v := ?vp1) rfl (by kernel_rfl) (by kernel_rfl) (by kernel_rfl) (fun _ _ _ h => h) (Or.inl ⟨by rfl, ?yp1⟩) (by assumption) ?rp1
  case yp1 => (intro w' hSw; (try dsimp only at hSw); go_split_ands; go_simp; try with_reducible rfl)
  try simp only [Act.put, List.setIfInBounds_toArray, List.set_cons_zero, List.set_cons_succ]
  refine wpAnyH_ready (rs := [2]) (by kernel_rfl) (by simp) ?_
  refine AllReadyH.cons (o := { dst := none, op := Op.store 56 (Operand.tmp 2) (Operand.tmp 233), type := 0, pos := "ref.go:560", after := #[{ on := 0, ground := Ground.data }, { on := 0, ground := Ground.phase }, { on := 1, ground := Ground.textOnly Departure.lateStores }], guard := none }) rfl (fun K hK => ?_) AllReadyH.nil
  go_simp
  refine hK.out _ _ (SZ.out _ K13.out Z13.out) (fun hHeld2 => ?_)
  clear hK K hHeld
  try simp only [Act.put, List.setIfInBounds_toArray, List.set_cons_zero, List.set_cons_succ]
  refine wpAnyH_ready (rs := [3]) (by kernel_rfl) (by simp) ?_
  refine AllReadyH.cons (o := { dst := none, op := Op.store 31 (Operand.tmp 3) (Operand.tmp 234), type := 0, pos := "ref.go:560", after := #[{ on := 1, ground := Ground.data }, { on := 2, ground := Ground.chain }, { on := 0, ground := Ground.phase }, { on := 1, ground := Ground.phase }, { on := 2, ground := Ground.phase }], guard := none }) rfl (fun K hK => ?_) AllReadyH.nil
  go_simp
  refine hK.out _ _ (SZ.out _ K14.out Z14.out) (fun hHeld3 => ?_)
  clear hK K hHeld2
  try simp only [Act.put, List.setIfInBounds_toArray, List.set_cons_zero, List.set_cons_succ]
  refine wpAnyH_done (by kernel_rfl) ?_ _
  have RE := Lib.hid (T12.out.done (.string ⟨#[100, 101, 108, 101, 116, 101]⟩) (.string nm) (.int .i64 0) (.string ⟨#[]⟩) (.bool false) (.slice none 0 0) (.slice none 0 0) (.int .i64 0))
  unfold endW at RE
  go_wp2_with fail
  exact bodyPost_ret (results_cc (fn := Tryz.f32) rfl _ _ g (g + 1) 56 31 _ _ (0, 0) (0, 0) _ _ rfl RE.out.1 Tryz.underlying56 rfl refCmdSize rfl RE.out.2.1 Tryz.underlying31 rfl wrongSize31) rfl ⟨_, _, rfl, Reads.nil _, RE.out.2.2⟩
set_option maxRecDepth 100000 in
set_option maxHeartbeats 8000000 in
theorem hear_7 (s : ByteArray) (w : World) (hs : s.size ≤ 100000) (nm : ByteArray) (n : Nat) (tx : ByteArray) (f : Bool) (l : List Fl) (h : parseK s.data.toList = .ok 7 nm n tx f l) : Calls Tryz.prog 32 #[.string s] w (HearTo (vB 7, nm, (n : Int), tx, f, l) w) := by
  obtain ⟨hk, hv, h14, hr, hp, hc⟩ := parseK_ok h
  clear h
  have C1 := Lib.hid fun W => refCut_any s 10 W (by omega)
  have L1 := cutL_len 10 s.data.toList
  obtain ⟨⟨cl, cm, cb⟩, hcx⟩ : ∃ x, x = cutL 10 s.data.toList := ⟨_, rfl⟩
  rw [← hcx] at C1 L1 hv h14 hr hp
  dsimp only at C1 L1 hv h14 hr hp
  rw [size_listB] at L1
  have hrm : cb = false → mkW cm = ⟨#[]⟩ := fun h => by
    have := @cut_gone 10 s.data.toList
    rw [← hcx] at this
    exact congrArg mkW (this h)
  have C2 := Lib.hid fun W => refCut_any (mkW cl) 32 W (by rw [mkW_size]; omega)
  have L2 := cutL_len 32 cl
  obtain ⟨⟨dv, ds, db⟩, hd⟩ : ∃ x, x = cutL 32 cl := ⟨_, rfl⟩
  rw [list_mkW, ← hd] at C2
  rw [← hd] at L2 hv hr
  dsimp only at C2 L2 hv hr
  rw [hv] at C2
  have zs : (mkW ds).size ≤ 100000 := by rw [mkW_size]; omega
  have zm : (mkW cm).size ≤ 100000 := by rw [mkW_size]; omega
  have hpm : parseP (nls (mkW cm).data.toList) 0 [] = .inl l := by rw [list_mkW]; exact hp
  generalize mkW ds = rs at *
  generalize mkW cm = rm at *
  clear hp hcx hd L1 L2 hv
  have PL := Lib.hid fun W => (show Calls Tryz.prog 49 #[.string ⟨#[109, 101, 114, 103, 101]⟩] W fun e w' => e = .returned (.int .i64 7) ∧ Below W.heap.size W w' by
    have := refPlace_any (vB 7) W
    rw [place_vB (by decide)] at this
    exact this)
  have AT := Lib.hid fun W => (show Calls Tryz.prog 40 #[.string ⟨#[99, 109, 100]⟩, .int .i64 7, .int .i64 2] W fun x w' => ∃ g, x = .returned (.agg #[.slice (some ⟨g, 0, none⟩) 1 1, .int .i64 2]) ∧ Blk w' g 91 #[.string bCmd, .int .i64 7] ∧ W.heap.size ≤ g ∧ Below W.heap.size W w' from refAt_any bCmd 7 2 W)
  have C2 := Lib.hid fun W => (show Calls Tryz.prog 67 #[.string (mkW cl), .int .u8 32] W fun e w' => e = .returned (.tuple #[.string ⟨#[109, 101, 114, 103, 101]⟩, .string rs, .bool db]) ∧ ∃ n, w' = w'.drewN 0 ∧ w' = W.drewN n from (C2.out W).mono fun e w' h => ⟨h.1, h.2.imp fun n h => ⟨rfl, h⟩⟩)
  obtain rfl := h14 (by decide)
  clear h14
  have hrm0 := hrm rfl
  clear hrm
  have hl0 : l = [] := by
    have h0 : parseP (nls (⟨#[]⟩ : ByteArray).data.toList) 0 [] = .inl [] := by decide +kernel
    rw [hrm0, h0] at hpm
    exact (Sum.inl.inj hpm).symm
  subst hl0
  clear hpm hrm0 zm
  have hnm : nm.size ≤ 1000000 := readK_size hr zs
  obtain ⟨no, rfl, hcs⟩ := readK_words (k := 7) rfl hr
  obtain ⟨rfl, -, hw⟩ : f = false ∧ True ∧ readW 7 (wordsK rs db) = some (nm, n) := by
    rcases hcs with ⟨h1, h2, -⟩ | ⟨h1, -, h3⟩
    · first | (cases h2; done) | exact absurd (hf.symm.trans h1) (by simp)
    · exact ⟨h1, trivial, h3⟩
  clear hcs
  obtain ⟨x, hx⟩ : ∃ x, wordsK rs db = [x] := readW_one (by omega) hw
  rw [hx] at hw no
  obtain ⟨rfl, rfl⟩ : nm = x ∧ n = 0 := readW_names (by omega) hw
  obtain rfl := words_given hx (by simp)
  have FI := Lib.hid (fields_one rs nm zs hx)
  obtain ⟨q1, q2, q3⟩ : nm ≠ ⟨#[]⟩ ∧ nm.toList.isEmpty = false ∧ ¬ nm.toList = [] := by
    rcases emptyB nm with ⟨h, -⟩ | h
    · exact absurd h (no nm (by simp))
    · exact h
  have HC := Lib.hid hc
  have HNM := Lib.hid hnm
  clear hk hr hw no hx hc hnm zs hs q1
  have T0 := Lib.hid (HS.first w)
  obtain ⟨g, hg⟩ : ∃ g, g = w.heap.size := ⟨_, rfl⟩
  have HG := Lib.hid hg
  rw [← hg] at T0
  unfold zero6 at T0
  go_enter Tryz.func32, Tryz.ntmps32
  go_wp2_with fail
  rw [← hg]
  clear hg
  generalize (w.alloc (.cells #[.string ⟨#[]⟩, .string ⟨#[]⟩, .int .i64 0, .string ⟨#[]⟩, .bool false, .slice none 0 0] 56)).alloc (.cells #[.slice none 0 0, .int .i64 0] 31) = w1 at *
  refine (C1.out _).mono ?_
  rintro e w2 ⟨rfl, q1, hw2⟩
  have T2 := Lib.hid (show HS w g w2 by rw [hw2]; exact T0.out.below (below_drewN (Below.refl _ _) q1))
  clear C1 hw2 T0
  go_wp2_with fail
  refine (C2.out _).mono ?_
  rintro e w3 ⟨rfl, q2, -, hw3⟩
  have T3 := Lib.hid (show HS w g w3 by rw [hw3]; exact T2.out.below (below_drewN (Below.refl _ _) q2))
  clear C2 hw3 T2
  go_wp2_with fail
  refine (PL.out _).mono ?_
  rintro e w4 ⟨rfl, d4⟩
  have T4 := Lib.hid (T3.out.below d4)
  clear PL d4 T3
  have T5 := Lib.hid (T4.out.below ((Below.refl _ _).alloc (Nat.le_refl _) (.cells #[.string ⟨#[109, 101, 114, 103, 101]⟩, .string ⟨#[]⟩, .int .i64 0, .string ⟨#[]⟩, .bool false, .slice none 0 0] 56)))
  have K5 := Lib.hid (Blk.new w4 56 #[.string ⟨#[109, 101, 114, 103, 101]⟩, .string ⟨#[]⟩, .int .i64 0, .string ⟨#[]⟩, .bool false, .slice none 0 0])
  obtain ⟨b, hb⟩ : ∃ b, b = w4.heap.size := ⟨_, rfl⟩
  have HGB := Lib.hid (show g + 1 < b by rw [hb]; exact T4.out.res2.lt)
  rw [← hb] at K5
  go_wp2_with fail
  rw [← hb]
  clear hb T4
  generalize w4.alloc (.cells #[.string ⟨#[109, 101, 114, 103, 101]⟩, .string ⟨#[]⟩, .int .i64 0, .string ⟨#[]⟩, .bool false, .slice none 0 0] 56) = w5 at *
  refine (AT.out _).mono ?_
  rintro e w6 ⟨g6, rfl, -, -, d6⟩
  have T6 := Lib.hid (T5.out.below d6)
  have K6 := Lib.hid (K5.out.below d6 K5.out.lt)
  have d7 := (Below.refl w6.heap.size w6).alloc (Nat.le_refl _) (.cells #[.slice (some ⟨g6, 0, none⟩) 1 1, .int .i64 2] 31)
  have T7 := Lib.hid (T6.out.below d7)
  have K7 := Lib.hid (K6.out.below d7 K6.out.lt)
  clear AT d6 d7 T5 K5 T6 K6
  go_wp2_with fail
  generalize w6.alloc (.cells #[.slice (some ⟨g6, 0, none⟩) 1 1, .int .i64 2] 31) = w7 at *
  refine (FI.out _).mono ?_
  rintro e w8 ⟨a, c, rfl, a0, hc1, hca, d8⟩
  have T8 := Lib.hid (T7.out.below d8)
  have K8 := Lib.hid (K7.out.below d8 K7.out.lt)
  have HAB := Lib.hid (show a ≠ b by have := K7.out.lt; omega)
  have nab := HAB.out
  have hc := HC.out
  have hnm := HNM.out
  clear FI d8 T7 K7 hca HC HNM
  have T9 : Hid (HS w g (w8.setCell ⟨b, 1, none⟩ (.string nm))) := Lib.hid (T8.out.set (i := 1) HGB.out (.string nm))
  have K9 : Hid (Blk (w8.setCell ⟨b, 1, none⟩ (.string nm)) b 56 #[.string ⟨#[109, 101, 114, 103, 101]⟩, .string nm, .int .i64 0, .string ⟨#[]⟩, .bool false, .slice none 0 0]) := Lib.hid (K8.out.set_ 1 (.string nm))
  have CK := Lib.hid fun W hl => (show Calls Tryz.prog 23 #[.agg #[.string ⟨#[109, 101, 114, 103, 101]⟩, .string nm, .int .i64 0, .string ⟨#[]⟩, .bool false, .slice none 0 0]] W fun e w' => e = .returned (.agg #[.slice none 0 0, .int .i64 0]) ∧ Below W.heap.size W w' from check_ref (k := 7) (by decide) hc hnm none 0 W hl)
  clear hc hnm hc1
  have x0 := K8.out.cell 0
  have x1 := K8.out.cell 1
  have x2 := K8.out.cell 2
  have x3 := K8.out.cell 3
  have x4 := K8.out.cell 4
  have x5 := K8.out.cell 5
  have g1 := K8.out.frozen 1
  go_wp2_with fail
  clear x0 x1 x2 x3 x4 x5 a0 nab HAB g1
  refine (CK.out _ (Reads.nil _)).mono ?_
  rintro e w10 ⟨rfl, d10⟩
  have T10 := Lib.hid (T9.out.below d10)
  have K10 := Lib.hid (K9.out.below d10 K9.out.lt)
  have d11 := (Below.refl w10.heap.size w10).alloc (Nat.le_refl _) (.cells #[.slice none 0 0, .int .i64 0] 31)
  have T11 := Lib.hid (T10.out.below d11)
  have K11 := Lib.hid (K10.out.below d11 K10.out.lt)
  have Z11 := Lib.hid (Blk.new w10 31 #[.slice none 0 0, .int .i64 0])
  obtain ⟨gz, hgz⟩ : ∃ x, x = w10.heap.size := ⟨_, rfl⟩
  have HGZ := Lib.hid (show g + 1 < gz ∧ b < gz by rw [hgz]; exact ⟨T10.out.res2.lt, K10.out.lt⟩)
  rw [← hgz] at Z11
  clear CK d10 d11 T9 K9 T8 K8 T10 K10
  go_wp2_with fail
  rw [← hgz]
  clear hgz
  generalize w10.alloc (.cells #[.slice none 0 0, .int .i64 0] 31) = w11 at *
  have e1 := Z11.out.cell 1
  have e0 := Z11.out.cell 0
  go_upto_region 71 with fail
  have x0 := K11.out.cell 0
  have x1 := K11.out.cell 1
  have x2 := K11.out.cell 2
  have x3 := K11.out.cell 3
  have x4 := K11.out.cell 4
  have x5 := K11.out.cell 5
  have SZ := Lib.hid fun V (h : Blk V b 56 #[.string ⟨#[109, 101, 114, 103, 101]⟩, .string nm, .int .i64 0, .string ⟨#[]⟩, .bool false, .slice none 0 0]) (k : Blk V gz 31 #[.slice none 0 0, .int .i64 0]) => (⟨h.cell 0, h.cell 1, h.cell 2, h.cell 3, h.cell 4, h.cell 5, k.cell 0, k.cell 1⟩ : V.cell? ⟨b, 0, none⟩ = some (.string ⟨#[109, 101, 114, 103, 101]⟩) ∧ V.cell? ⟨b, 1, none⟩ = some (.string nm) ∧ V.cell? ⟨b, 2, none⟩ = some (.int .i64 0) ∧ V.cell? ⟨b, 3, none⟩ = some (.string ⟨#[]⟩) ∧ V.cell? ⟨b, 4, none⟩ = some (.bool false) ∧ V.cell? ⟨b, 5, none⟩ = some (.slice none 0 0) ∧ V.cell? ⟨gz, 0, none⟩ = some (.slice none 0 0) ∧ V.cell? ⟨gz, 1, none⟩ = some (.int .i64 0))
  have n1 : b ≠ g := by have := HGB.out; omega
  have n2 : b ≠ g + 1 := by have := HGB.out; omega
  have n3 : gz ≠ g := by have := HGZ.out; omega
  have n4 : gz ≠ g + 1 := by have := HGZ.out; omega
  have T12 := Lib.hid (show HS w g w11.drew from T11.out.below (below_drewN (Below.refl _ _) 1))
  have K12 := Lib.hid (show Blk w11.drew b 56 #[.string ⟨#[109, 101, 114, 103, 101]⟩, .string nm, .int .i64 0, .string ⟨#[]⟩, .bool false, .slice none 0 0] from K11.out)
  have Z12 := Lib.hid (show Blk w11.drew gz 31 #[.slice none 0 0, .int .i64 0] from Z11.out)
  refine wp_region_held_drew (S := fun V => V.cell? ⟨b, 0, none⟩ = some (.string ⟨#[109, 101, 114, 103, 101]⟩) ∧ V.cell? ⟨b, 1, none⟩ = some (.string nm) ∧ V.cell? ⟨b, 2, none⟩ = some (.int .i64 0) ∧ V.cell? ⟨b, 3, none⟩ = some (.string ⟨#[]⟩) ∧ V.cell? ⟨b, 4, none⟩ = some (.bool false) ∧ V.cell? ⟨b, 5, none⟩ = some (.slice none 0 0) ∧ V.cell? ⟨gz, 0, none⟩ = some (.slice none 0 0) ∧ V.cell? ⟨gz, 1, none⟩ = some (.int .i64 0)) (by kernel_rfl) (SZ.out _ K12.out Z12.out) (fun hHeld => ?_)
  generalize w11.drew = w12 at *
  obtain ⟨z0, z1, z2, z3, z4, z5, z6, z7⟩ := T12.out.cells
  obtain ⟨f0, f1, f2, f3, f4, f5, f6, f7⟩ := T12.out.frozen
  have K13 := Lib.hid (far6 K12.out n1 (.string ⟨#[109, 101, 114, 103, 101]⟩) (.string nm) (.int .i64 0) (.string ⟨#[]⟩) (.bool false) (.slice none 0 0))
  have Z13 := Lib.hid (far6 Z12.out n3 (.string ⟨#[109, 101, 114, 103, 101]⟩) (.string nm) (.int .i64 0) (.string ⟨#[]⟩) (.bool false) (.slice none 0 0))
  have K14 := Lib.hid ((K13.out.far (p := ⟨g + 1, 0, none⟩) n2 (.slice none 0 0)).far (p := ⟨g + 1, 1, none⟩) n2 (.int .i64 0))
  have Z14 := Lib.hid ((Z13.out.far (p := ⟨g + 1, 0, none⟩) n4 (.slice none 0 0)).far (p := ⟨g + 1, 1, none⟩) n4 (.int .i64 0))
  refine wpAnyH_take (i := 0) (oi := { dst := some 233, op := Op.load 56 (Operand.tmp 11), type := 56, pos := "ref.go:560", after := #[], guard := none }) (v := ?vp0) rfl (by kernel_rfl) (by kernel_rfl) (by kernel_rfl) (fun _ _ _ h => h) (Or.inl ⟨by rfl, ?yp0⟩) (by assumption) ?rp0
  case yp0 => (intro w' hSw; (try dsimp only at hSw); go_split_ands; go_simp; try with_reducible rfl)
  try simp only [Act.put, List.setIfInBounds_toArray, List.set_cons_zero, List.set_cons_succ]
  refine wpAnyH_take (i := 1) (oi := { dst := some 234, op := Op.load 31 (Operand.tmp 16), type := 31, pos := "ref.go:560", after := #[{ on := 2, ground := Ground.gcOnly Departure.lateStores }], guard := none }) (v := ?vp1) rfl (by kernel_rfl) (by kernel_rfl) (by kernel_rfl) (fun _ _ _ h => h) (Or.inl ⟨by rfl, ?yp1⟩) (by assumption) ?rp1
  case yp1 => (intro w' hSw; (try dsimp only at hSw); go_split_ands; go_simp; try with_reducible rfl)
  try simp only [Act.put, List.setIfInBounds_toArray, List.set_cons_zero, List.set_cons_succ]
  refine wpAnyH_ready (rs := [2]) (by kernel_rfl) (by simp) ?_
  refine AllReadyH.cons (o := { dst := none, op := Op.store 56 (Operand.tmp 2) (Operand.tmp 233), type := 0, pos := "ref.go:560", after := #[{ on := 0, ground := Ground.data }, { on := 0, ground := Ground.phase }, { on := 1, ground := Ground.textOnly Departure.lateStores }], guard := none }) rfl (fun K hK => ?_) AllReadyH.nil
  go_simp
  refine hK.out _ _ (SZ.out _ K13.out Z13.out) (fun hHeld2 => ?_)
  clear hK K hHeld
  try simp only [Act.put, List.setIfInBounds_toArray, List.set_cons_zero, List.set_cons_succ]
  refine wpAnyH_ready (rs := [3]) (by kernel_rfl) (by simp) ?_
  refine AllReadyH.cons (o := { dst := none, op := Op.store 31 (Operand.tmp 3) (Operand.tmp 234), type := 0, pos := "ref.go:560", after := #[{ on := 1, ground := Ground.data }, { on := 2, ground := Ground.chain }, { on := 0, ground := Ground.phase }, { on := 1, ground := Ground.phase }, { on := 2, ground := Ground.phase }], guard := none }) rfl (fun K hK => ?_) AllReadyH.nil
  go_simp
  refine hK.out _ _ (SZ.out _ K14.out Z14.out) (fun hHeld3 => ?_)
  clear hK K hHeld2
  try simp only [Act.put, List.setIfInBounds_toArray, List.set_cons_zero, List.set_cons_succ]
  refine wpAnyH_done (by kernel_rfl) ?_ _
  have RE := Lib.hid (T12.out.done (.string ⟨#[109, 101, 114, 103, 101]⟩) (.string nm) (.int .i64 0) (.string ⟨#[]⟩) (.bool false) (.slice none 0 0) (.slice none 0 0) (.int .i64 0))
  unfold endW at RE
  go_wp2_with fail
  exact bodyPost_ret (results_cc (fn := Tryz.f32) rfl _ _ g (g + 1) 56 31 _ _ (0, 0) (0, 0) _ _ rfl RE.out.1 Tryz.underlying56 rfl refCmdSize rfl RE.out.2.1 Tryz.underlying31 rfl wrongSize31) rfl ⟨_, _, rfl, Reads.nil _, RE.out.2.2⟩
set_option maxRecDepth 100000 in
set_option maxHeartbeats 8000000 in
theorem hear_0b (s : ByteArray) (w : World) (hs : s.size ≤ 100000) (nm : ByteArray) (n : Nat) (tx : ByteArray) (f : Bool) (l : List Fl) (h : parseK s.data.toList = .ok 0 nm n tx f l) (hn0 : nm ≠ ⟨#[]⟩) : Calls Tryz.prog 32 #[.string s] w (HearTo (vB 0, nm, (n : Int), tx, f, l) w) := by
  obtain ⟨hk, hv, h14, hr, hp, hc⟩ := parseK_ok h
  clear h
  have C1 := Lib.hid fun W => refCut_any s 10 W (by omega)
  have L1 := cutL_len 10 s.data.toList
  obtain ⟨⟨cl, cm, cb⟩, hcx⟩ : ∃ x, x = cutL 10 s.data.toList := ⟨_, rfl⟩
  rw [← hcx] at C1 L1 hv h14 hr hp
  dsimp only at C1 L1 hv h14 hr hp
  rw [size_listB] at L1
  have hrm : cb = false → mkW cm = ⟨#[]⟩ := fun h => by
    have := @cut_gone 10 s.data.toList
    rw [← hcx] at this
    exact congrArg mkW (this h)
  have C2 := Lib.hid fun W => refCut_any (mkW cl) 32 W (by rw [mkW_size]; omega)
  have L2 := cutL_len 32 cl
  obtain ⟨⟨dv, ds, db⟩, hd⟩ : ∃ x, x = cutL 32 cl := ⟨_, rfl⟩
  rw [list_mkW, ← hd] at C2
  rw [← hd] at L2 hv hr
  dsimp only at C2 L2 hv hr
  rw [hv] at C2
  have zs : (mkW ds).size ≤ 100000 := by rw [mkW_size]; omega
  have zm : (mkW cm).size ≤ 100000 := by rw [mkW_size]; omega
  have hpm : parseP (nls (mkW cm).data.toList) 0 [] = .inl l := by rw [list_mkW]; exact hp
  generalize mkW ds = rs at *
  generalize mkW cm = rm at *
  clear hp hcx hd L1 L2 hv
  have PL := Lib.hid fun W => (show Calls Tryz.prog 49 #[.string ⟨#[97, 100, 100]⟩] W fun e w' => e = .returned (.int .i64 0) ∧ Below W.heap.size W w' by
    have := refPlace_any (vB 0) W
    rw [place_vB (by decide)] at this
    exact this)
  have AT := Lib.hid fun W => (show Calls Tryz.prog 40 #[.string ⟨#[99, 109, 100]⟩, .int .i64 0, .int .i64 2] W fun x w' => ∃ g, x = .returned (.agg #[.slice (some ⟨g, 0, none⟩) 1 1, .int .i64 2]) ∧ Blk w' g 91 #[.string bCmd, .int .i64 0] ∧ W.heap.size ≤ g ∧ Below W.heap.size W w' from refAt_any bCmd 0 2 W)
  have C2 := Lib.hid fun W => (show Calls Tryz.prog 67 #[.string (mkW cl), .int .u8 32] W fun e w' => e = .returned (.tuple #[.string ⟨#[97, 100, 100]⟩, .string rs, .bool db]) ∧ ∃ n, w' = w'.drewN 0 ∧ w' = W.drewN n from (C2.out W).mono fun e w' h => ⟨h.1, h.2.imp fun n h => ⟨rfl, h⟩⟩)
  obtain rfl := h14 (by decide)
  clear h14
  have hrm0 := hrm rfl
  clear hrm
  have hl0 : l = [] := by
    have h0 : parseP (nls (⟨#[]⟩ : ByteArray).data.toList) 0 [] = .inl [] := by decide +kernel
    rw [hrm0, h0] at hpm
    exact (Sum.inl.inj hpm).symm
  subst hl0
  clear hpm hrm0 zm
  have hnm : nm.size ≤ 1000000 := readK_size hr zs
  obtain ⟨no, rfl, hcs⟩ := readK_words (k := 0) rfl hr
  obtain ⟨rfl, -, hw⟩ : f = false ∧ True ∧ readW 0 (wordsK rs db) = some (nm, n) := by
    rcases hcs with ⟨h1, h2, -⟩ | ⟨h1, -, h3⟩
    · first | (cases h2; done) | exact absurd (hf.symm.trans h1) (by simp)
    · exact ⟨h1, trivial, h3⟩
  clear hcs
  obtain ⟨x, hx⟩ : ∃ x, wordsK rs db = [x] := by
    rcases readW_zero hw with ⟨h, h2, -⟩ | ⟨x, h, -⟩
    · exact absurd h2 hn0
    · exact ⟨x, h⟩
  rw [hx] at hw no
  obtain ⟨rfl, rfl⟩ : nm = x ∧ n = 0 := readW_names (by omega) hw
  obtain rfl := words_given hx (by simp)
  have FI := Lib.hid (fields_one rs nm zs hx)
  obtain ⟨q1, q2, q3⟩ : nm ≠ ⟨#[]⟩ ∧ nm.toList.isEmpty = false ∧ ¬ nm.toList = [] := by
    rcases emptyB nm with ⟨h, -⟩ | h
    · exact absurd h (no nm (by simp))
    · exact h
  have HC := Lib.hid hc
  have HNM := Lib.hid hnm
  clear hk hr hw no hx hc hnm zs hs q1
  clear hn0
  have T0 := Lib.hid (HS.first w)
  obtain ⟨g, hg⟩ : ∃ g, g = w.heap.size := ⟨_, rfl⟩
  have HG := Lib.hid hg
  rw [← hg] at T0
  unfold zero6 at T0
  go_enter Tryz.func32, Tryz.ntmps32
  go_wp2_with fail
  rw [← hg]
  clear hg
  generalize (w.alloc (.cells #[.string ⟨#[]⟩, .string ⟨#[]⟩, .int .i64 0, .string ⟨#[]⟩, .bool false, .slice none 0 0] 56)).alloc (.cells #[.slice none 0 0, .int .i64 0] 31) = w1 at *
  refine (C1.out _).mono ?_
  rintro e w2 ⟨rfl, q1, hw2⟩
  have T2 := Lib.hid (show HS w g w2 by rw [hw2]; exact T0.out.below (below_drewN (Below.refl _ _) q1))
  clear C1 hw2 T0
  go_wp2_with fail
  refine (C2.out _).mono ?_
  rintro e w3 ⟨rfl, q2, -, hw3⟩
  have T3 := Lib.hid (show HS w g w3 by rw [hw3]; exact T2.out.below (below_drewN (Below.refl _ _) q2))
  clear C2 hw3 T2
  go_wp2_with fail
  refine (PL.out _).mono ?_
  rintro e w4 ⟨rfl, d4⟩
  have T4 := Lib.hid (T3.out.below d4)
  clear PL d4 T3
  have T5 := Lib.hid (T4.out.below ((Below.refl _ _).alloc (Nat.le_refl _) (.cells #[.string ⟨#[97, 100, 100]⟩, .string ⟨#[]⟩, .int .i64 0, .string ⟨#[]⟩, .bool false, .slice none 0 0] 56)))
  have K5 := Lib.hid (Blk.new w4 56 #[.string ⟨#[97, 100, 100]⟩, .string ⟨#[]⟩, .int .i64 0, .string ⟨#[]⟩, .bool false, .slice none 0 0])
  obtain ⟨b, hb⟩ : ∃ b, b = w4.heap.size := ⟨_, rfl⟩
  have HGB := Lib.hid (show g + 1 < b by rw [hb]; exact T4.out.res2.lt)
  rw [← hb] at K5
  go_wp2_with fail
  rw [← hb]
  clear hb T4
  generalize w4.alloc (.cells #[.string ⟨#[97, 100, 100]⟩, .string ⟨#[]⟩, .int .i64 0, .string ⟨#[]⟩, .bool false, .slice none 0 0] 56) = w5 at *
  refine (AT.out _).mono ?_
  rintro e w6 ⟨g6, rfl, -, -, d6⟩
  have T6 := Lib.hid (T5.out.below d6)
  have K6 := Lib.hid (K5.out.below d6 K5.out.lt)
  have d7 := (Below.refl w6.heap.size w6).alloc (Nat.le_refl _) (.cells #[.slice (some ⟨g6, 0, none⟩) 1 1, .int .i64 2] 31)
  have T7 := Lib.hid (T6.out.below d7)
  have K7 := Lib.hid (K6.out.below d7 K6.out.lt)
  clear AT d6 d7 T5 K5 T6 K6
  go_wp2_with fail
  generalize w6.alloc (.cells #[.slice (some ⟨g6, 0, none⟩) 1 1, .int .i64 2] 31) = w7 at *
  refine (FI.out _).mono ?_
  rintro e w8 ⟨a, c, rfl, a0, hc1, hca, d8⟩
  have T8 := Lib.hid (T7.out.below d8)
  have K8 := Lib.hid (K7.out.below d8 K7.out.lt)
  have HAB := Lib.hid (show a ≠ b by have := K7.out.lt; omega)
  have nab := HAB.out
  have hc := HC.out
  have hnm := HNM.out
  clear FI d8 T7 K7 hca HC HNM
  have T9 : Hid (HS w g (w8.setCell ⟨b, 1, none⟩ (.string nm))) := Lib.hid (T8.out.set (i := 1) HGB.out (.string nm))
  have K9 : Hid (Blk (w8.setCell ⟨b, 1, none⟩ (.string nm)) b 56 #[.string ⟨#[97, 100, 100]⟩, .string nm, .int .i64 0, .string ⟨#[]⟩, .bool false, .slice none 0 0]) := Lib.hid (K8.out.set_ 1 (.string nm))
  have CK := Lib.hid fun W hl => (show Calls Tryz.prog 23 #[.agg #[.string ⟨#[97, 100, 100]⟩, .string nm, .int .i64 0, .string ⟨#[]⟩, .bool false, .slice none 0 0]] W fun e w' => e = .returned (.agg #[.slice none 0 0, .int .i64 0]) ∧ Below W.heap.size W w' from check_ref (k := 0) (by decide) hc hnm none 0 W hl)
  clear hc hnm hc1
  have x0 := K8.out.cell 0
  have x1 := K8.out.cell 1
  have x2 := K8.out.cell 2
  have x3 := K8.out.cell 3
  have x4 := K8.out.cell 4
  have x5 := K8.out.cell 5
  have g1 := K8.out.frozen 1
  go_wp2_with fail
  clear x0 x1 x2 x3 x4 x5 a0 nab HAB g1
  refine (CK.out _ (Reads.nil _)).mono ?_
  rintro e w10 ⟨rfl, d10⟩
  have T10 := Lib.hid (T9.out.below d10)
  have K10 := Lib.hid (K9.out.below d10 K9.out.lt)
  have d11 := (Below.refl w10.heap.size w10).alloc (Nat.le_refl _) (.cells #[.slice none 0 0, .int .i64 0] 31)
  have T11 := Lib.hid (T10.out.below d11)
  have K11 := Lib.hid (K10.out.below d11 K10.out.lt)
  have Z11 := Lib.hid (Blk.new w10 31 #[.slice none 0 0, .int .i64 0])
  obtain ⟨gz, hgz⟩ : ∃ x, x = w10.heap.size := ⟨_, rfl⟩
  have HGZ := Lib.hid (show g + 1 < gz ∧ b < gz by rw [hgz]; exact ⟨T10.out.res2.lt, K10.out.lt⟩)
  rw [← hgz] at Z11
  clear CK d10 d11 T9 K9 T8 K8 T10 K10
  go_wp2_with fail
  rw [← hgz]
  clear hgz
  generalize w10.alloc (.cells #[.slice none 0 0, .int .i64 0] 31) = w11 at *
  have e1 := Z11.out.cell 1
  have e0 := Z11.out.cell 0
  go_upto_region 71 with fail
  have x0 := K11.out.cell 0
  have x1 := K11.out.cell 1
  have x2 := K11.out.cell 2
  have x3 := K11.out.cell 3
  have x4 := K11.out.cell 4
  have x5 := K11.out.cell 5
  have SZ := Lib.hid fun V (h : Blk V b 56 #[.string ⟨#[97, 100, 100]⟩, .string nm, .int .i64 0, .string ⟨#[]⟩, .bool false, .slice none 0 0]) (k : Blk V gz 31 #[.slice none 0 0, .int .i64 0]) => (⟨h.cell 0, h.cell 1, h.cell 2, h.cell 3, h.cell 4, h.cell 5, k.cell 0, k.cell 1⟩ : V.cell? ⟨b, 0, none⟩ = some (.string ⟨#[97, 100, 100]⟩) ∧ V.cell? ⟨b, 1, none⟩ = some (.string nm) ∧ V.cell? ⟨b, 2, none⟩ = some (.int .i64 0) ∧ V.cell? ⟨b, 3, none⟩ = some (.string ⟨#[]⟩) ∧ V.cell? ⟨b, 4, none⟩ = some (.bool false) ∧ V.cell? ⟨b, 5, none⟩ = some (.slice none 0 0) ∧ V.cell? ⟨gz, 0, none⟩ = some (.slice none 0 0) ∧ V.cell? ⟨gz, 1, none⟩ = some (.int .i64 0))
  have n1 : b ≠ g := by have := HGB.out; omega
  have n2 : b ≠ g + 1 := by have := HGB.out; omega
  have n3 : gz ≠ g := by have := HGZ.out; omega
  have n4 : gz ≠ g + 1 := by have := HGZ.out; omega
  have T12 := Lib.hid (show HS w g w11.drew from T11.out.below (below_drewN (Below.refl _ _) 1))
  have K12 := Lib.hid (show Blk w11.drew b 56 #[.string ⟨#[97, 100, 100]⟩, .string nm, .int .i64 0, .string ⟨#[]⟩, .bool false, .slice none 0 0] from K11.out)
  have Z12 := Lib.hid (show Blk w11.drew gz 31 #[.slice none 0 0, .int .i64 0] from Z11.out)
  refine wp_region_held_drew (S := fun V => V.cell? ⟨b, 0, none⟩ = some (.string ⟨#[97, 100, 100]⟩) ∧ V.cell? ⟨b, 1, none⟩ = some (.string nm) ∧ V.cell? ⟨b, 2, none⟩ = some (.int .i64 0) ∧ V.cell? ⟨b, 3, none⟩ = some (.string ⟨#[]⟩) ∧ V.cell? ⟨b, 4, none⟩ = some (.bool false) ∧ V.cell? ⟨b, 5, none⟩ = some (.slice none 0 0) ∧ V.cell? ⟨gz, 0, none⟩ = some (.slice none 0 0) ∧ V.cell? ⟨gz, 1, none⟩ = some (.int .i64 0)) (by kernel_rfl) (SZ.out _ K12.out Z12.out) (fun hHeld => ?_)
  generalize w11.drew = w12 at *
  obtain ⟨z0, z1, z2, z3, z4, z5, z6, z7⟩ := T12.out.cells
  obtain ⟨f0, f1, f2, f3, f4, f5, f6, f7⟩ := T12.out.frozen
  have K13 := Lib.hid (far6 K12.out n1 (.string ⟨#[97, 100, 100]⟩) (.string nm) (.int .i64 0) (.string ⟨#[]⟩) (.bool false) (.slice none 0 0))
  have Z13 := Lib.hid (far6 Z12.out n3 (.string ⟨#[97, 100, 100]⟩) (.string nm) (.int .i64 0) (.string ⟨#[]⟩) (.bool false) (.slice none 0 0))
  have K14 := Lib.hid ((K13.out.far (p := ⟨g + 1, 0, none⟩) n2 (.slice none 0 0)).far (p := ⟨g + 1, 1, none⟩) n2 (.int .i64 0))
  have Z14 := Lib.hid ((Z13.out.far (p := ⟨g + 1, 0, none⟩) n4 (.slice none 0 0)).far (p := ⟨g + 1, 1, none⟩) n4 (.int .i64 0))
  refine wpAnyH_take (i := 0) (oi := { dst := some 233, op := Op.load 56 (Operand.tmp 11), type := 56, pos := "ref.go:560", after := #[], guard := none }) (v := ?vp0) rfl (by kernel_rfl) (by kernel_rfl) (by kernel_rfl) (fun _ _ _ h => h) (Or.inl ⟨by rfl, ?yp0⟩) (by assumption) ?rp0
  case yp0 => (intro w' hSw; (try dsimp only at hSw); go_split_ands; go_simp; try with_reducible rfl)
  try simp only [Act.put, List.setIfInBounds_toArray, List.set_cons_zero, List.set_cons_succ]
  refine wpAnyH_take (i := 1) (oi := { dst := some 234, op := Op.load 31 (Operand.tmp 16), type := 31, pos := "ref.go:560", after := #[{ on := 2, ground := Ground.gcOnly Departure.lateStores }], guard := none }) (v := ?vp1) rfl (by kernel_rfl) (by kernel_rfl) (by kernel_rfl) (fun _ _ _ h => h) (Or.inl ⟨by rfl, ?yp1⟩) (by assumption) ?rp1
  case yp1 => (intro w' hSw; (try dsimp only at hSw); go_split_ands; go_simp; try with_reducible rfl)
  try simp only [Act.put, List.setIfInBounds_toArray, List.set_cons_zero, List.set_cons_succ]
  refine wpAnyH_ready (rs := [2]) (by kernel_rfl) (by simp) ?_
  refine AllReadyH.cons (o := { dst := none, op := Op.store 56 (Operand.tmp 2) (Operand.tmp 233), type := 0, pos := "ref.go:560", after := #[{ on := 0, ground := Ground.data }, { on := 0, ground := Ground.phase }, { on := 1, ground := Ground.textOnly Departure.lateStores }], guard := none }) rfl (fun K hK => ?_) AllReadyH.nil
  go_simp
  refine hK.out _ _ (SZ.out _ K13.out Z13.out) (fun hHeld2 => ?_)
  clear hK K hHeld
  try simp only [Act.put, List.setIfInBounds_toArray, List.set_cons_zero, List.set_cons_succ]
  refine wpAnyH_ready (rs := [3]) (by kernel_rfl) (by simp) ?_
  refine AllReadyH.cons (o := { dst := none, op := Op.store 31 (Operand.tmp 3) (Operand.tmp 234), type := 0, pos := "ref.go:560", after := #[{ on := 1, ground := Ground.data }, { on := 2, ground := Ground.chain }, { on := 0, ground := Ground.phase }, { on := 1, ground := Ground.phase }, { on := 2, ground := Ground.phase }], guard := none }) rfl (fun K hK => ?_) AllReadyH.nil
  go_simp
  refine hK.out _ _ (SZ.out _ K14.out Z14.out) (fun hHeld3 => ?_)
  clear hK K hHeld2
  try simp only [Act.put, List.setIfInBounds_toArray, List.set_cons_zero, List.set_cons_succ]
  refine wpAnyH_done (by kernel_rfl) ?_ _
  have RE := Lib.hid (T12.out.done (.string ⟨#[97, 100, 100]⟩) (.string nm) (.int .i64 0) (.string ⟨#[]⟩) (.bool false) (.slice none 0 0) (.slice none 0 0) (.int .i64 0))
  unfold endW at RE
  go_wp2_with fail
  exact bodyPost_ret (results_cc (fn := Tryz.f32) rfl _ _ g (g + 1) 56 31 _ _ (0, 0) (0, 0) _ _ rfl RE.out.1 Tryz.underlying56 rfl refCmdSize rfl RE.out.2.1 Tryz.underlying31 rfl wrongSize31) rfl ⟨_, _, rfl, Reads.nil _, RE.out.2.2⟩
set_option maxRecDepth 100000 in
set_option maxHeartbeats 8000000 in
theorem hear_0a (s : ByteArray) (w : World) (hs : s.size ≤ 100000) (nm : ByteArray) (n : Nat) (tx : ByteArray) (f : Bool) (l : List Fl) (h : parseK s.data.toList = .ok 0 nm n tx f l) (hn0 : nm = ⟨#[]⟩) : Calls Tryz.prog 32 #[.string s] w (HearTo (vB 0, nm, (n : Int), tx, f, l) w) := by
  obtain ⟨hk, hv, h14, hr, hp, hc⟩ := parseK_ok h
  clear h
  have C1 := Lib.hid fun W => refCut_any s 10 W (by omega)
  have L1 := cutL_len 10 s.data.toList
  obtain ⟨⟨cl, cm, cb⟩, hcx⟩ : ∃ x, x = cutL 10 s.data.toList := ⟨_, rfl⟩
  rw [← hcx] at C1 L1 hv h14 hr hp
  dsimp only at C1 L1 hv h14 hr hp
  rw [size_listB] at L1
  have hrm : cb = false → mkW cm = ⟨#[]⟩ := fun h => by
    have := @cut_gone 10 s.data.toList
    rw [← hcx] at this
    exact congrArg mkW (this h)
  have C2 := Lib.hid fun W => refCut_any (mkW cl) 32 W (by rw [mkW_size]; omega)
  have L2 := cutL_len 32 cl
  obtain ⟨⟨dv, ds, db⟩, hd⟩ : ∃ x, x = cutL 32 cl := ⟨_, rfl⟩
  rw [list_mkW, ← hd] at C2
  rw [← hd] at L2 hv hr
  dsimp only at C2 L2 hv hr
  rw [hv] at C2
  have zs : (mkW ds).size ≤ 100000 := by rw [mkW_size]; omega
  have zm : (mkW cm).size ≤ 100000 := by rw [mkW_size]; omega
  have hpm : parseP (nls (mkW cm).data.toList) 0 [] = .inl l := by rw [list_mkW]; exact hp
  generalize mkW ds = rs at *
  generalize mkW cm = rm at *
  clear hp hcx hd L1 L2 hv
  have PL := Lib.hid fun W => (show Calls Tryz.prog 49 #[.string ⟨#[97, 100, 100]⟩] W fun e w' => e = .returned (.int .i64 0) ∧ Below W.heap.size W w' by
    have := refPlace_any (vB 0) W
    rw [place_vB (by decide)] at this
    exact this)
  have AT := Lib.hid fun W => (show Calls Tryz.prog 40 #[.string ⟨#[99, 109, 100]⟩, .int .i64 0, .int .i64 2] W fun x w' => ∃ g, x = .returned (.agg #[.slice (some ⟨g, 0, none⟩) 1 1, .int .i64 2]) ∧ Blk w' g 91 #[.string bCmd, .int .i64 0] ∧ W.heap.size ≤ g ∧ Below W.heap.size W w' from refAt_any bCmd 0 2 W)
  have C2 := Lib.hid fun W => (show Calls Tryz.prog 67 #[.string (mkW cl), .int .u8 32] W fun e w' => e = .returned (.tuple #[.string ⟨#[97, 100, 100]⟩, .string rs, .bool db]) ∧ ∃ n, w' = w'.drewN 0 ∧ w' = W.drewN n from (C2.out W).mono fun e w' h => ⟨h.1, h.2.imp fun n h => ⟨rfl, h⟩⟩)
  obtain rfl := h14 (by decide)
  clear h14
  have hrm0 := hrm rfl
  clear hrm
  have hl0 : l = [] := by
    have h0 : parseP (nls (⟨#[]⟩ : ByteArray).data.toList) 0 [] = .inl [] := by decide +kernel
    rw [hrm0, h0] at hpm
    exact (Sum.inl.inj hpm).symm
  subst hl0
  clear hpm hrm0 zm
  have hnm : nm.size ≤ 1000000 := readK_size hr zs
  obtain ⟨no, rfl, hcs⟩ := readK_words (k := 0) rfl hr
  obtain ⟨rfl, -, hw⟩ : f = false ∧ True ∧ readW 0 (wordsK rs db) = some (nm, n) := by
    rcases hcs with ⟨h1, h2, -⟩ | ⟨h1, -, h3⟩
    · first | (cases h2; done) | exact absurd (hf.symm.trans h1) (by simp)
    · exact ⟨h1, trivial, h3⟩
  clear hcs
  obtain ⟨hx, -, rfl⟩ : wordsK rs db = [] ∧ True ∧ n = 0 := by
    rcases readW_zero hw with ⟨h, -, h2⟩ | ⟨x, h, h1, -⟩
    · exact ⟨h, trivial, h2⟩
    · rw [h] at no
      exact absurd (h1.symm.trans hn0) (no x (by simp))
  subst hn0
  obtain rfl := no_words hx
  have HC := Lib.hid hc
  have HNM := Lib.hid hnm
  clear hk hr hw no hx hc hnm zs hs
  have T0 := Lib.hid (HS.first w)
  obtain ⟨g, hg⟩ : ∃ g, g = w.heap.size := ⟨_, rfl⟩
  have HG := Lib.hid hg
  rw [← hg] at T0
  unfold zero6 at T0
  go_enter Tryz.func32, Tryz.ntmps32
  go_wp2_with fail
  rw [← hg]
  clear hg
  generalize (w.alloc (.cells #[.string ⟨#[]⟩, .string ⟨#[]⟩, .int .i64 0, .string ⟨#[]⟩, .bool false, .slice none 0 0] 56)).alloc (.cells #[.slice none 0 0, .int .i64 0] 31) = w1 at *
  refine (C1.out _).mono ?_
  rintro e w2 ⟨rfl, q1, hw2⟩
  have T2 := Lib.hid (show HS w g w2 by rw [hw2]; exact T0.out.below (below_drewN (Below.refl _ _) q1))
  clear C1 hw2 T0
  go_wp2_with fail
  refine (C2.out _).mono ?_
  rintro e w3 ⟨rfl, q2, -, hw3⟩
  have T3 := Lib.hid (show HS w g w3 by rw [hw3]; exact T2.out.below (below_drewN (Below.refl _ _) q2))
  clear C2 hw3 T2
  go_wp2_with fail
  refine (PL.out _).mono ?_
  rintro e w4 ⟨rfl, d4⟩
  have T4 := Lib.hid (T3.out.below d4)
  clear PL d4 T3
  have T5 := Lib.hid (T4.out.below ((Below.refl _ _).alloc (Nat.le_refl _) (.cells #[.string ⟨#[97, 100, 100]⟩, .string ⟨#[]⟩, .int .i64 0, .string ⟨#[]⟩, .bool false, .slice none 0 0] 56)))
  have K5 := Lib.hid (Blk.new w4 56 #[.string ⟨#[97, 100, 100]⟩, .string ⟨#[]⟩, .int .i64 0, .string ⟨#[]⟩, .bool false, .slice none 0 0])
  obtain ⟨b, hb⟩ : ∃ b, b = w4.heap.size := ⟨_, rfl⟩
  have HGB := Lib.hid (show g + 1 < b by rw [hb]; exact T4.out.res2.lt)
  rw [← hb] at K5
  go_wp2_with fail
  rw [← hb]
  clear hb T4
  generalize w4.alloc (.cells #[.string ⟨#[97, 100, 100]⟩, .string ⟨#[]⟩, .int .i64 0, .string ⟨#[]⟩, .bool false, .slice none 0 0] 56) = w5 at *
  refine (AT.out _).mono ?_
  rintro e w6 ⟨g6, rfl, -, -, d6⟩
  have T6 := Lib.hid (T5.out.below d6)
  have K6 := Lib.hid (K5.out.below d6 K5.out.lt)
  have d7 := (Below.refl w6.heap.size w6).alloc (Nat.le_refl _) (.cells #[.slice (some ⟨g6, 0, none⟩) 1 1, .int .i64 2] 31)
  have T7 := Lib.hid (T6.out.below d7)
  have K7 := Lib.hid (K6.out.below d7 K6.out.lt)
  clear AT d6 d7 T5 K5 T6 K6
  have T8 := T7
  have K8 := K7
  have hc := HC.out
  have hnm := HNM.out
  clear HC HNM T7 K7
  have T9 : Hid (HS w g (w6.alloc (.cells #[.slice (some ⟨g6, 0, none⟩) 1 1, .int .i64 2] 31))) := Lib.hid T8.out
  have K9 : Hid (Blk (w6.alloc (.cells #[.slice (some ⟨g6, 0, none⟩) 1 1, .int .i64 2] 31)) b 56 #[.string ⟨#[97, 100, 100]⟩, .string ⟨#[]⟩, .int .i64 0, .string ⟨#[]⟩, .bool false, .slice none 0 0]) := Lib.hid K8.out
  have CK := Lib.hid fun W hl => (show Calls Tryz.prog 23 #[.agg #[.string ⟨#[97, 100, 100]⟩, .string ⟨#[]⟩, .int .i64 0, .string ⟨#[]⟩, .bool false, .slice none 0 0]] W fun e w' => e = .returned (.agg #[.slice none 0 0, .int .i64 0]) ∧ Below W.heap.size W w' from check_ref (k := 0) (by decide) hc hnm none 0 W hl)
  clear hc hnm
  have x0 := K8.out.cell 0
  have x1 := K8.out.cell 1
  have x2 := K8.out.cell 2
  have x3 := K8.out.cell 3
  have x4 := K8.out.cell 4
  have x5 := K8.out.cell 5
  go_wp2_with fail
  generalize w6.alloc (.cells #[.slice (some ⟨g6, 0, none⟩) 1 1, .int .i64 2] 31) = w7 at *
  clear x0 x1 x2 x3 x4 x5
  refine (CK.out _ (Reads.nil _)).mono ?_
  rintro e w10 ⟨rfl, d10⟩
  have T10 := Lib.hid (T9.out.below d10)
  have K10 := Lib.hid (K9.out.below d10 K9.out.lt)
  have d11 := (Below.refl w10.heap.size w10).alloc (Nat.le_refl _) (.cells #[.slice none 0 0, .int .i64 0] 31)
  have T11 := Lib.hid (T10.out.below d11)
  have K11 := Lib.hid (K10.out.below d11 K10.out.lt)
  have Z11 := Lib.hid (Blk.new w10 31 #[.slice none 0 0, .int .i64 0])
  obtain ⟨gz, hgz⟩ : ∃ x, x = w10.heap.size := ⟨_, rfl⟩
  have HGZ := Lib.hid (show g + 1 < gz ∧ b < gz by rw [hgz]; exact ⟨T10.out.res2.lt, K10.out.lt⟩)
  rw [← hgz] at Z11
  clear CK d10 d11 T9 K9 T8 K8 T10 K10
  go_wp2_with fail
  rw [← hgz]
  clear hgz
  generalize w10.alloc (.cells #[.slice none 0 0, .int .i64 0] 31) = w11 at *
  have e1 := Z11.out.cell 1
  have e0 := Z11.out.cell 0
  go_upto_region 71 with fail
  have x0 := K11.out.cell 0
  have x1 := K11.out.cell 1
  have x2 := K11.out.cell 2
  have x3 := K11.out.cell 3
  have x4 := K11.out.cell 4
  have x5 := K11.out.cell 5
  have SZ := Lib.hid fun V (h : Blk V b 56 #[.string ⟨#[97, 100, 100]⟩, .string ⟨#[]⟩, .int .i64 0, .string ⟨#[]⟩, .bool false, .slice none 0 0]) (k : Blk V gz 31 #[.slice none 0 0, .int .i64 0]) => (⟨h.cell 0, h.cell 1, h.cell 2, h.cell 3, h.cell 4, h.cell 5, k.cell 0, k.cell 1⟩ : V.cell? ⟨b, 0, none⟩ = some (.string ⟨#[97, 100, 100]⟩) ∧ V.cell? ⟨b, 1, none⟩ = some (.string ⟨#[]⟩) ∧ V.cell? ⟨b, 2, none⟩ = some (.int .i64 0) ∧ V.cell? ⟨b, 3, none⟩ = some (.string ⟨#[]⟩) ∧ V.cell? ⟨b, 4, none⟩ = some (.bool false) ∧ V.cell? ⟨b, 5, none⟩ = some (.slice none 0 0) ∧ V.cell? ⟨gz, 0, none⟩ = some (.slice none 0 0) ∧ V.cell? ⟨gz, 1, none⟩ = some (.int .i64 0))
  have n1 : b ≠ g := by have := HGB.out; omega
  have n2 : b ≠ g + 1 := by have := HGB.out; omega
  have n3 : gz ≠ g := by have := HGZ.out; omega
  have n4 : gz ≠ g + 1 := by have := HGZ.out; omega
  have T12 := Lib.hid (show HS w g w11.drew from T11.out.below (below_drewN (Below.refl _ _) 1))
  have K12 := Lib.hid (show Blk w11.drew b 56 #[.string ⟨#[97, 100, 100]⟩, .string ⟨#[]⟩, .int .i64 0, .string ⟨#[]⟩, .bool false, .slice none 0 0] from K11.out)
  have Z12 := Lib.hid (show Blk w11.drew gz 31 #[.slice none 0 0, .int .i64 0] from Z11.out)
  refine wp_region_held_drew (S := fun V => V.cell? ⟨b, 0, none⟩ = some (.string ⟨#[97, 100, 100]⟩) ∧ V.cell? ⟨b, 1, none⟩ = some (.string ⟨#[]⟩) ∧ V.cell? ⟨b, 2, none⟩ = some (.int .i64 0) ∧ V.cell? ⟨b, 3, none⟩ = some (.string ⟨#[]⟩) ∧ V.cell? ⟨b, 4, none⟩ = some (.bool false) ∧ V.cell? ⟨b, 5, none⟩ = some (.slice none 0 0) ∧ V.cell? ⟨gz, 0, none⟩ = some (.slice none 0 0) ∧ V.cell? ⟨gz, 1, none⟩ = some (.int .i64 0)) (by kernel_rfl) (SZ.out _ K12.out Z12.out) (fun hHeld => ?_)
  generalize w11.drew = w12 at *
  obtain ⟨z0, z1, z2, z3, z4, z5, z6, z7⟩ := T12.out.cells
  obtain ⟨f0, f1, f2, f3, f4, f5, f6, f7⟩ := T12.out.frozen
  have K13 := Lib.hid (far6 K12.out n1 (.string ⟨#[97, 100, 100]⟩) (.string ⟨#[]⟩) (.int .i64 0) (.string ⟨#[]⟩) (.bool false) (.slice none 0 0))
  have Z13 := Lib.hid (far6 Z12.out n3 (.string ⟨#[97, 100, 100]⟩) (.string ⟨#[]⟩) (.int .i64 0) (.string ⟨#[]⟩) (.bool false) (.slice none 0 0))
  have K14 := Lib.hid ((K13.out.far (p := ⟨g + 1, 0, none⟩) n2 (.slice none 0 0)).far (p := ⟨g + 1, 1, none⟩) n2 (.int .i64 0))
  have Z14 := Lib.hid ((Z13.out.far (p := ⟨g + 1, 0, none⟩) n4 (.slice none 0 0)).far (p := ⟨g + 1, 1, none⟩) n4 (.int .i64 0))
  refine wpAnyH_take (i := 0) (oi := { dst := some 233, op := Op.load 56 (Operand.tmp 11), type := 56, pos := "ref.go:560", after := #[], guard := none }) (v := ?vp0) rfl (by kernel_rfl) (by kernel_rfl) (by kernel_rfl) (fun _ _ _ h => h) (Or.inl ⟨by rfl, ?yp0⟩) (by assumption) ?rp0
  case yp0 => (intro w' hSw; (try dsimp only at hSw); go_split_ands; go_simp; try with_reducible rfl)
  try simp only [Act.put, List.setIfInBounds_toArray, List.set_cons_zero, List.set_cons_succ]
  refine wpAnyH_take (i := 1) (oi := { dst := some 234, op := Op.load 31 (Operand.tmp 16), type := 31, pos := "ref.go:560", after := #[{ on := 2, ground := Ground.gcOnly Departure.lateStores }], guard := none }) (v := ?vp1) rfl (by kernel_rfl) (by kernel_rfl) (by kernel_rfl) (fun _ _ _ h => h) (Or.inl ⟨by rfl, ?yp1⟩) (by assumption) ?rp1
  case yp1 => (intro w' hSw; (try dsimp only at hSw); go_split_ands; go_simp; try with_reducible rfl)
  try simp only [Act.put, List.setIfInBounds_toArray, List.set_cons_zero, List.set_cons_succ]
  refine wpAnyH_ready (rs := [2]) (by kernel_rfl) (by simp) ?_
  refine AllReadyH.cons (o := { dst := none, op := Op.store 56 (Operand.tmp 2) (Operand.tmp 233), type := 0, pos := "ref.go:560", after := #[{ on := 0, ground := Ground.data }, { on := 0, ground := Ground.phase }, { on := 1, ground := Ground.textOnly Departure.lateStores }], guard := none }) rfl (fun K hK => ?_) AllReadyH.nil
  go_simp
  refine hK.out _ _ (SZ.out _ K13.out Z13.out) (fun hHeld2 => ?_)
  clear hK K hHeld
  try simp only [Act.put, List.setIfInBounds_toArray, List.set_cons_zero, List.set_cons_succ]
  refine wpAnyH_ready (rs := [3]) (by kernel_rfl) (by simp) ?_
  refine AllReadyH.cons (o := { dst := none, op := Op.store 31 (Operand.tmp 3) (Operand.tmp 234), type := 0, pos := "ref.go:560", after := #[{ on := 1, ground := Ground.data }, { on := 2, ground := Ground.chain }, { on := 0, ground := Ground.phase }, { on := 1, ground := Ground.phase }, { on := 2, ground := Ground.phase }], guard := none }) rfl (fun K hK => ?_) AllReadyH.nil
  go_simp
  refine hK.out _ _ (SZ.out _ K14.out Z14.out) (fun hHeld3 => ?_)
  clear hK K hHeld2
  try simp only [Act.put, List.setIfInBounds_toArray, List.set_cons_zero, List.set_cons_succ]
  refine wpAnyH_done (by kernel_rfl) ?_ _
  have RE := Lib.hid (T12.out.done (.string ⟨#[97, 100, 100]⟩) (.string ⟨#[]⟩) (.int .i64 0) (.string ⟨#[]⟩) (.bool false) (.slice none 0 0) (.slice none 0 0) (.int .i64 0))
  unfold endW at RE
  go_wp2_with fail
  exact bodyPost_ret (results_cc (fn := Tryz.f32) rfl _ _ g (g + 1) 56 31 _ _ (0, 0) (0, 0) _ _ rfl RE.out.1 Tryz.underlying56 rfl refCmdSize rfl RE.out.2.1 Tryz.underlying31 rfl wrongSize31) rfl ⟨_, _, rfl, Reads.nil _, RE.out.2.2⟩
end Go.Proofs.YtanjcjnkppnhcaaGreatDoor
