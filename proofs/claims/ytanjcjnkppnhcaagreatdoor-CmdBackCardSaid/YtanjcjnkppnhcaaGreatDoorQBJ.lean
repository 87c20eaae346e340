/-
  rectoref17.Hear: verb by verb.
  The closed play 'known' of the words answers true.
  CmdTwo: whether any two commands are the same.
  rectolaw1.Texts; Check and Hear at any command.
-/
import Derived.Test.YtanjcjnkppnhcaaGreatDoorQBC
import Derived.OwnWalk
import Derived.Deep.RegionHeld3
import Derived.Test.YtanjcjnkppnhcaaGreatDoorQBB
import Derived.Test.YtanjcjnkppnhcaaGreatDoorQAX
import Derived.Test.YtanjcjnkppnhcaaGreatDoorQAV
import Derived.Test.YtanjcjnkppnhcaaGreatDoorQBD
import Derived.Test.YtanjcjnkppnhcaaGreatDoorQBE
import Derived.Test.YtanjcjnkppnhcaaGreatDoorQBF
import Derived.Test.YtanjcjnkppnhcaaGreatDoorQBG
import Derived.Test.YtanjcjnkppnhcaaGreatDoorQBH
import Derived.Test.YtanjcjnkppnhcaaGreatDoorQBI
import Derived.BigQuiet
import Derived.Deep.QuietTactic

namespace Go.Proofs.YtanjcjnkppnhcaaGreatDoor
open Go Go.RowKit

set_option maxRecDepth 100000 in
set_option maxHeartbeats 8000000 in
theorem hear_14 (s : ByteArray) (w : World) (hs : s.size ≤ 100000) (nm : ByteArray) (n : Nat) (tx : ByteArray) (f : Bool) (l : List Fl) (h : parseK s.data.toList = .ok 14 nm n tx f l) : Calls Tryz.prog 32 #[.string s] w (HearTo (vB 14, nm, (n : Int), tx, f, l) w) := by
  obtain ⟨hk, hv, h14, hr, hp, hc⟩ := parseK_ok h
  clear h
  have C1 := Lib.hid fun W => refCut_any s 10 W (by omega)
  have L1 := cutL_len 10 s.data.toList
  obtain ⟨⟨cl, cm, cb⟩, hcx⟩ : ∃ x, x = cutL 10 s.data.toList := ⟨_, rfl⟩
  rw [← hcx] at C1 L1 hv h14 hr hp
  dsimp only at C1 L1 hv h14 hr hp
  rw [size_listB] at L1
  have hrm : cb = false → mkW cm = ⟨#[]⟩ := fun h => by
    have := @cut_gone 10 s.data.toList
    rw [← hcx] at this
    exact congrArg mkW (this h)
  have C2 := Lib.hid fun W => refCut_any (mkW cl) 32 W (by rw [mkW_size]; omega)
  have L2 := cutL_len 32 cl
  obtain ⟨⟨dv, ds, db⟩, hd⟩ : ∃ x, x = cutL 32 cl := ⟨_, rfl⟩
  rw [list_mkW, ← hd] at C2
  rw [← hd] at L2 hv hr
  dsimp only at C2 L2 hv hr
  rw [hv] at C2
  have zs : (mkW ds).size ≤ 100000 := by rw [mkW_size]; omega
  have zm : (mkW cm).size ≤ 100000 := by rw [mkW_size]; omega
  have hpm : parseP (nls (mkW cm).data.toList) 0 [] = .inl l := by rw [list_mkW]; exact hp
  generalize mkW ds = rs at *
  generalize mkW cm = rm at *
  clear hp hcx hd L1 L2 hv
  have PL := Lib.hid fun W => (show Calls Tryz.prog 49 #[.string ⟨#[114, 101, 98, 97, 115, 101]⟩] W fun e w' => e = .returned (.int .i64 14) ∧ Below W.heap.size W w' by
    have := refPlace_any (vB 14) W
    rw [place_vB (by decide)] at this
    exact this)
  have AT := Lib.hid fun W => (show Calls Tryz.prog 40 #[.string ⟨#[99, 109, 100]⟩, .int .i64 14, .int .i64 2] W fun x w' => ∃ g, x = .returned (.agg #[.slice (some ⟨g, 0, none⟩) 1 1, .int .i64 2]) ∧ Blk w' g 91 #[.string bCmd, .int .i64 14] ∧ W.heap.size ≤ g ∧ Below W.heap.size W w' from refAt_any bCmd 14 2 W)
  have C2 := Lib.hid fun W => (show Calls Tryz.prog 67 #[.string (mkW cl), .int .u8 32] W fun e w' => e = .returned (.tuple #[.string ⟨#[114, 101, 98, 97, 115, 101]⟩, .string rs, .bool db]) ∧ ∃ n, w' = w'.drewN 0 ∧ w' = W.drewN n from (C2.out W).mono fun e w' h => ⟨h.1, h.2.imp fun n h => ⟨rfl, h⟩⟩)
  clear h14 hrm
  have hnm : nm.size ≤ 1000000 := readK_size hr zs
  obtain ⟨no, rfl, hcs⟩ := readK_words (k := 14) rfl hr
  obtain ⟨rfl, -, hw⟩ : f = false ∧ True ∧ readW 14 (wordsK rs db) = some (nm, n) := by
    rcases hcs with ⟨h1, h2, -⟩ | ⟨h1, -, h3⟩
    · first | (cases h2; done) | exact absurd (hf.symm.trans h1) (by simp)
    · exact ⟨h1, trivial, h3⟩
  clear hcs
  obtain ⟨x, hx⟩ := readW_one (by omega) hw
  rw [hx] at hw no
  obtain ⟨rfl, hnum⟩ := readW_nums (by omega) hw
  obtain rfl := words_given hx (by simp)
  have FI := Lib.hid (fields_one rs x zs hx)
  have NU := Lib.hid (number_ref hnum (Nat.le_trans (word_size hx (by simp)) zs))
  have n0 : (0 : Int) ≤ (n : Int) := Int.natCast_nonneg _
  have PA := Lib.hid fun W => (show Calls Tryz.prog 10 #[.string rm] W fun e w' => ∃ u, e = .returned (.tuple #[u, .agg #[.slice none 0 0, .int .i64 0]]) ∧ w'.ownsRow W.heap.size 81 3 u l.length (l.flatMap cF) ∧ Below W.heap.size W w' by
    have := refParse_any rm W zm
    rw [hpm] at this
    refine this.mono ?_
    rintro e w' (⟨xs, u, h1, rfl, h2, -, h3⟩ | ⟨i, k, g, h1, -⟩)
    · cases h1
      exact ⟨u, rfl, h2, h3⟩
    · cases h1)
  have HC := Lib.hid hc
  have HNM := Lib.hid hnm
  clear hk hr hw no hx hc hnm zs hs hnum hpm zm
  have T0 := Lib.hid (HS.first w)
  obtain ⟨g, hg⟩ : ∃ g, g = w.heap.size := ⟨_, rfl⟩
  have HG := Lib.hid hg
  rw [← hg] at T0
  unfold zero6 at T0
  go_enter Tryz.func32, Tryz.ntmps32
  go_wp2_with fail
  rw [← hg]
  clear hg
  generalize (w.alloc (.cells #[.string ⟨#[]⟩, .string ⟨#[]⟩, .int .i64 0, .string ⟨#[]⟩, .bool false, .slice none 0 0] 56)).alloc (.cells #[.slice none 0 0, .int .i64 0] 31) = w1 at *
  refine (C1.out _).mono ?_
  rintro e w2 ⟨rfl, q1, hw2⟩
  have T2 := Lib.hid (show HS w g w2 by rw [hw2]; exact T0.out.below (below_drewN (Below.refl _ _) q1))
  clear C1 hw2 T0
  go_wp2_with fail
  refine (C2.out _).mono ?_
  rintro e w3 ⟨rfl, q2, -, hw3⟩
  have T3 := Lib.hid (show HS w g w3 by rw [hw3]; exact T2.out.below (below_drewN (Below.refl _ _) q2))
  clear C2 hw3 T2
  go_wp2_with fail
  refine (PL.out _).mono ?_
  rintro e w4 ⟨rfl, d4⟩
  have T4 := Lib.hid (T3.out.below d4)
  clear PL d4 T3
  have T5 := Lib.hid (T4.out.below ((Below.refl _ _).alloc (Nat.le_refl _) (.cells #[.string ⟨#[114, 101, 98, 97, 115, 101]⟩, .string ⟨#[]⟩, .int .i64 0, .string ⟨#[]⟩, .bool false, .slice none 0 0] 56)))
  have K5 := Lib.hid (Blk.new w4 56 #[.string ⟨#[114, 101, 98, 97, 115, 101]⟩, .string ⟨#[]⟩, .int .i64 0, .string ⟨#[]⟩, .bool false, .slice none 0 0])
  obtain ⟨b, hb⟩ : ∃ b, b = w4.heap.size := ⟨_, rfl⟩
  have HGB := Lib.hid (show g + 1 < b by rw [hb]; exact T4.out.res2.lt)
  rw [← hb] at K5
  go_wp2_with fail
  rw [← hb]
  clear hb T4
  generalize w4.alloc (.cells #[.string ⟨#[114, 101, 98, 97, 115, 101]⟩, .string ⟨#[]⟩, .int .i64 0, .string ⟨#[]⟩, .bool false, .slice none 0 0] 56) = w5 at *
  refine (AT.out _).mono ?_
  rintro e w6 ⟨g6, rfl, -, -, d6⟩
  have T6 := Lib.hid (T5.out.below d6)
  have K6 := Lib.hid (K5.out.below d6 K5.out.lt)
  have d7 := (Below.refl w6.heap.size w6).alloc (Nat.le_refl _) (.cells #[.slice (some ⟨g6, 0, none⟩) 1 1, .int .i64 2] 31)
  have T7 := Lib.hid (T6.out.below d7)
  have K7 := Lib.hid (K6.out.below d7 K6.out.lt)
  clear AT d6 d7 T5 K5 T6 K6
  go_wp2_with fail
  generalize w6.alloc (.cells #[.slice (some ⟨g6, 0, none⟩) 1 1, .int .i64 2] 31) = w7 at *
  refine (FI.out _).mono ?_
  rintro e w8 ⟨a, c, rfl, a0, hc1, hca, d8⟩
  have T8 := Lib.hid (T7.out.below d8)
  have K8 := Lib.hid (K7.out.below d8 K7.out.lt)
  have HAB := Lib.hid (show a ≠ b by have := K7.out.lt; omega)
  have nab := HAB.out
  have hc := HC.out
  have hnm := HNM.out
  clear FI d8 T7 K7 hca HC HNM
  have HC := Lib.hid hc
  have HNM := Lib.hid hnm
  clear hc hnm hc1
  have x0 := K8.out.cell 0
  have x1 := K8.out.cell 1
  have x2 := K8.out.cell 2
  have x3 := K8.out.cell 3
  have x4 := K8.out.cell 4
  have x5 := K8.out.cell 5
  have g2 := K8.out.frozen 2
  have T9 : Hid (HS w g (w8.setCell ⟨b, 2, none⟩ (.int .i64 (n : Int)))) := Lib.hid (T8.out.set (i := 2) HGB.out (.int .i64 (n : Int)))
  have K9 : Hid (Blk (w8.setCell ⟨b, 2, none⟩ (.int .i64 (n : Int))) b 56 #[.string ⟨#[114, 101, 98, 97, 115, 101]⟩, .string ⟨#[]⟩, .int .i64 (n : Int), .string ⟨#[]⟩, .bool false, .slice none 0 0]) := Lib.hid (K8.out.set_ 2 (.int .i64 (n : Int)))
  go_wp2_with (go_at_call 69; refine (NU.out _).mono ?_; rintro e w0 ⟨rfl, h0⟩; obtain rfl := h0.symm)
  clear x0 x1 x2 x3 x4 x5 g2 a0 nab HAB T8 K8 NU n0
  generalize w8.setCell ⟨b, 2, none⟩ (.int .i64 (n : Int)) = w9 at *
  refine (PA.out _).mono ?_
  rintro e w10 ⟨u, rfl, o10, d10⟩
  obtain ⟨A9, c9, rfl⟩ := own_form o10
  have d11 := (Below.refl w10.heap.size w10).alloc (Nat.le_refl _) (.cells #[.slice none 0 0, .int .i64 0] 31)
  have T10 := Lib.hid ((T9.out.below d10).below d11)
  have K10 := Lib.hid ((K9.out.below d10 K9.out.lt).below d11 (K9.out.below d10 K9.out.lt).lt)
  have O10 := Lib.hid (own_keep o10 d11)
  have Y10 := Lib.hid (Blk.new w10 31 #[.slice none 0 0, .int .i64 0])
  clear o10 d10 d11 T9 K9 PA
  have y1 := Y10.out.cell 1
  have x0 := K10.out.cell 0
  have x1 := K10.out.cell 1
  have x2 := K10.out.cell 2
  have x3 := K10.out.cell 3
  have x4 := K10.out.cell 4
  have x5 := K10.out.cell 5
  have g5 := K10.out.frozen 5
  have hne := Lib.hid (own_blk_ne O10.out K10.out (by decide))
  have hc := HC.out
  have hnm := HNM.out
  clear HC HNM
  have T9 : Hid (HS w g ((w10.alloc (.cells #[.slice none 0 0, .int .i64 0] 31)).setCell ⟨b, 5, none⟩ (.slice A9 l.length c9))) := Lib.hid (T10.out.set (i := 5) HGB.out (.slice A9 l.length c9))
  have K9 : Hid (Blk ((w10.alloc (.cells #[.slice none 0 0, .int .i64 0] 31)).setCell ⟨b, 5, none⟩ (.slice A9 l.length c9)) b 56 #[.string ⟨#[114, 101, 98, 97, 115, 101]⟩, .string ⟨#[]⟩, .int .i64 (n : Int), .string ⟨#[]⟩, .bool false, .slice A9 l.length c9]) := Lib.hid (K10.out.set_ 5 (.slice A9 l.length c9))
  have O9 := Lib.hid (ownsRow_setCell_other O10.out (a := ⟨b, 5, none⟩) hne.out (.slice A9 l.length c9))
  have CK := Lib.hid fun W hl => (show Calls Tryz.prog 23 #[.agg #[.string ⟨#[114, 101, 98, 97, 115, 101]⟩, .string ⟨#[]⟩, .int .i64 (n : Int), .string ⟨#[]⟩, .bool false, .slice A9 l.length c9]] W fun e w' => e = .returned (.agg #[.slice none 0 0, .int .i64 0]) ∧ Below W.heap.size W w' from check_ref (k := 14) (by decide) hc hnm A9 c9 W hl)
  have T8 := T10
  have K8 := K10
  clear hc hnm T10 K10 O10 hne Y10
  go_wp2_with fail
  clear x0 x1 x2 x3 x4 x5 g5 y1
  generalize ((w10.alloc (.cells #[.slice none 0 0, .int .i64 0] 31)).setCell ⟨b, 5, none⟩ (.slice A9 l.length c9)) = wP at *
  refine (CK.out _ (Reads.of_own (enc := cF) cF_len O9.out)).mono ?_
  rintro e w10 ⟨rfl, d10⟩
  have T10 := Lib.hid (T9.out.below d10)
  have K10 := Lib.hid (K9.out.below d10 K9.out.lt)
  have O10 := Lib.hid (own_keep O9.out d10)
  have d11 := (Below.refl w10.heap.size w10).alloc (Nat.le_refl _) (.cells #[.slice none 0 0, .int .i64 0] 31)
  have T11 := Lib.hid (T10.out.below d11)
  have K11 := Lib.hid (K10.out.below d11 K10.out.lt)
  have Z11 := Lib.hid (Blk.new w10 31 #[.slice none 0 0, .int .i64 0])
  have O11 := Lib.hid (own_keep O10.out d11)
  obtain ⟨gz, hgz⟩ : ∃ x, x = w10.heap.size := ⟨_, rfl⟩
  have HGZ := Lib.hid (show g + 1 < gz ∧ b < gz by rw [hgz]; exact ⟨T10.out.res2.lt, K10.out.lt⟩)
  rw [← hgz] at Z11
  clear CK d10 d11 T9 K9 T8 K8 T10 K10
  go_wp2_with fail
  rw [← hgz]
  clear hgz
  generalize w10.alloc (.cells #[.slice none 0 0, .int .i64 0] 31) = w11 at *
  have e1 := Z11.out.cell 1
  have e0 := Z11.out.cell 0
  go_upto_region 71 with fail
  have x0 := K11.out.cell 0
  have x1 := K11.out.cell 1
  have x2 := K11.out.cell 2
  have x3 := K11.out.cell 3
  have x4 := K11.out.cell 4
  have x5 := K11.out.cell 5
  have SZ := Lib.hid fun V (h : Blk V b 56 #[.string ⟨#[114, 101, 98, 97, 115, 101]⟩, .string ⟨#[]⟩, .int .i64 (n : Int), .string ⟨#[]⟩, .bool false, .slice A9 l.length c9]) (k : Blk V gz 31 #[.slice none 0 0, .int .i64 0]) => (⟨h.cell 0, h.cell 1, h.cell 2, h.cell 3, h.cell 4, h.cell 5, k.cell 0, k.cell 1⟩ : V.cell? ⟨b, 0, none⟩ = some (.string ⟨#[114, 101, 98, 97, 115, 101]⟩) ∧ V.cell? ⟨b, 1, none⟩ = some (.string ⟨#[]⟩) ∧ V.cell? ⟨b, 2, none⟩ = some (.int .i64 (n : Int)) ∧ V.cell? ⟨b, 3, none⟩ = some (.string ⟨#[]⟩) ∧ V.cell? ⟨b, 4, none⟩ = some (.bool false) ∧ V.cell? ⟨b, 5, none⟩ = some (.slice A9 l.length c9) ∧ V.cell? ⟨gz, 0, none⟩ = some (.slice none 0 0) ∧ V.cell? ⟨gz, 1, none⟩ = some (.int .i64 0))
  have n1 : b ≠ g := by have := HGB.out; omega
  have n2 : b ≠ g + 1 := by have := HGB.out; omega
  have n3 : gz ≠ g := by have := HGZ.out; omega
  have n4 : gz ≠ g + 1 := by have := HGZ.out; omega
  have T12 := Lib.hid (show HS w g w11.drew from T11.out.below (below_drewN (Below.refl _ _) 1))
  have K12 := Lib.hid (show Blk w11.drew b 56 #[.string ⟨#[114, 101, 98, 97, 115, 101]⟩, .string ⟨#[]⟩, .int .i64 (n : Int), .string ⟨#[]⟩, .bool false, .slice A9 l.length c9] from K11.out)
  have Z12 := Lib.hid (show Blk w11.drew gz 31 #[.slice none 0 0, .int .i64 0] from Z11.out)
  have O12 := Lib.hid (own_keep O11.out (below_drewN (Below.refl w11.heap.size w11) 1))
  rw [show w11.drewN 1 = w11.drew from rfl] at O12
  refine wp_region_held_drew (S := fun V => V.cell? ⟨b, 0, none⟩ = some (.string ⟨#[114, 101, 98, 97, 115, 101]⟩) ∧ V.cell? ⟨b, 1, none⟩ = some (.string ⟨#[]⟩) ∧ V.cell? ⟨b, 2, none⟩ = some (.int .i64 (n : Int)) ∧ V.cell? ⟨b, 3, none⟩ = some (.string ⟨#[]⟩) ∧ V.cell? ⟨b, 4, none⟩ = some (.bool false) ∧ V.cell? ⟨b, 5, none⟩ = some (.slice A9 l.length c9) ∧ V.cell? ⟨gz, 0, none⟩ = some (.slice none 0 0) ∧ V.cell? ⟨gz, 1, none⟩ = some (.int .i64 0)) (by kernel_rfl) (SZ.out _ K12.out Z12.out) (fun hHeld => ?_)
  generalize w11.drew = w12 at *
  obtain ⟨z0, z1, z2, z3, z4, z5, z6, z7⟩ := T12.out.cells
  obtain ⟨f0, f1, f2, f3, f4, f5, f6, f7⟩ := T12.out.frozen
  have K13 := Lib.hid (far6 K12.out n1 (.string ⟨#[114, 101, 98, 97, 115, 101]⟩) (.string ⟨#[]⟩) (.int .i64 (n : Int)) (.string ⟨#[]⟩) (.bool false) (.slice A9 l.length c9))
  have Z13 := Lib.hid (far6 Z12.out n3 (.string ⟨#[114, 101, 98, 97, 115, 101]⟩) (.string ⟨#[]⟩) (.int .i64 (n : Int)) (.string ⟨#[]⟩) (.bool false) (.slice A9 l.length c9))
  have K14 := Lib.hid ((K13.out.far (p := ⟨g + 1, 0, none⟩) n2 (.slice none 0 0)).far (p := ⟨g + 1, 1, none⟩) n2 (.int .i64 0))
  have Z14 := Lib.hid ((Z13.out.far (p := ⟨g + 1, 0, none⟩) n4 (.slice none 0 0)).far (p := ⟨g + 1, 1, none⟩) n4 (.int .i64 0))
  refine wpAnyH_take (i := 0) (oi := { dst := some 233, op := Op.load 56 (Operand.tmp 11), type := 56, pos := "ref.go:560", after := #[], guard := none }) (v := ?vp0) rfl (by kernel_rfl) (by kernel_rfl) (by kernel_rfl) (fun _ _ _ h => h) (Or.inl ⟨by rfl, ?yp0⟩) (by assumption) ?rp0
  case yp0 => (intro w' hSw; (try dsimp only at hSw); go_split_ands; go_simp; try with_reducible rfl)
  try simp only [Act.put, List.setIfInBounds_toArray, List.set_cons_zero, List.set_cons_succ]
  refine wpAnyH_take (i := 1) (oi := { dst := some 234, op := Op.load 31 (Operand.tmp 16), type := 31, pos := "ref.go:560", after := #[{ on := 2, ground := Ground.gcOnly Departure.lateStores }], guard := none }) (v := ?vp1) rfl (by kernel_rfl) (by kernel_rfl) (by kernel_rfl) (fun _ _ _ h => h) (Or.inl ⟨by rfl, ?yp1⟩) (by assumption) ?rp1
  case yp1 => (intro w' hSw; (try dsimp only at hSw); go_split_ands; go_simp; try with_reducible rfl)
  try simp only [Act.put, List.setIfInBounds_toArray, List.set_cons_zero, List.set_cons_succ]
  refine wpAnyH_ready (rs := [2]) (by kernel_rfl) (by simp) ?_
  refine AllReadyH.cons (o := { dst := none, op := Op.store 56 (Operand.tmp 2) (Operand.tmp 233), type := 0, pos := "ref.go:560", after := #[{ on := 0, ground := Ground.data }, { on := 0, ground := Ground.phase }, { on := 1, ground := Ground.textOnly Departure.lateStores }], guard := none }) rfl (fun K hK => ?_) AllReadyH.nil
  go_simp
  refine hK.out _ _ (SZ.out _ K13.out Z13.out) (fun hHeld2 => ?_)
  clear hK K hHeld
  try simp only [Act.put, List.setIfInBounds_toArray, List.set_cons_zero, List.set_cons_succ]
  refine wpAnyH_ready (rs := [3]) (by kernel_rfl) (by simp) ?_
  refine AllReadyH.cons (o := { dst := none, op := Op.store 31 (Operand.tmp 3) (Operand.tmp 234), type := 0, pos := "ref.go:560", after := #[{ on := 1, ground := Ground.data }, { on := 2, ground := Ground.chain }, { on := 0, ground := Ground.phase }, { on := 1, ground := Ground.phase }, { on := 2, ground := Ground.phase }], guard := none }) rfl (fun K hK => ?_) AllReadyH.nil
  go_simp
  refine hK.out _ _ (SZ.out _ K14.out Z14.out) (fun hHeld3 => ?_)
  clear hK K hHeld2
  try simp only [Act.put, List.setIfInBounds_toArray, List.set_cons_zero, List.set_cons_succ]
  refine wpAnyH_done (by kernel_rfl) ?_ _
  have RE := Lib.hid (T12.out.done (.string ⟨#[114, 101, 98, 97, 115, 101]⟩) (.string ⟨#[]⟩) (.int .i64 (n : Int)) (.string ⟨#[]⟩) (.bool false) (.slice A9 l.length c9) (.slice none 0 0) (.int .i64 0))
  have OE := Lib.hid (T12.out.keep O12.out (.string ⟨#[114, 101, 98, 97, 115, 101]⟩) (.string ⟨#[]⟩) (.int .i64 (n : Int)) (.string ⟨#[]⟩) (.bool false) (.slice A9 l.length c9) (.slice none 0 0) (.int .i64 0))
  unfold endW at RE OE
  go_wp2_with fail
  exact bodyPost_ret (results_cc (fn := Tryz.f32) rfl _ _ g (g + 1) 56 31 _ _ (0, 0) (0, 0) _ _ rfl RE.out.1 Tryz.underlying56 rfl refCmdSize rfl RE.out.2.1 Tryz.underlying31 rfl wrongSize31) rfl ⟨_, _, rfl, Reads.of_own (enc := cF) cF_len OE.out, RE.out.2.2⟩
end Go.Proofs.YtanjcjnkppnhcaaGreatDoor

namespace Go.Proofs.YtanjcjnkppnhcaaGreatDoor
open Go Go.RowKit

abbrev sReset : ByteArray := ⟨#[114, 101, 115, 101, 116, 32, 104, 97, 114, 100, 32, 51]⟩
abbrev sRebase : ByteArray := ⟨#[114, 101, 98, 97, 115, 101, 32, 50, 10, 112, 105, 99, 107, 32, 51, 10]⟩
abbrev sJump : ByteArray := ⟨#[106, 117, 109, 112]⟩
abbrev sCommit : ByteArray := ⟨#[99, 111, 109, 109, 105, 116]⟩
abbrev bHardK : ByteArray := ⟨#[104, 97, 114, 100]⟩
abbrev lPick3 : List Fl := [(bPick, 3, ⟨#[]⟩)]
theorem parse_reset : parseK sReset.data.toList = .ok 6 bHardK 3 ⟨#[]⟩ false [] := by kernel_rfl
theorem parse_rebase : parseK sRebase.data.toList = .ok 14 ⟨#[]⟩ 2 ⟨#[]⟩ false lPick3 := by kernel_rfl
theorem parse_jump : parseK sJump.data.toList = .bad (-1) 5 := by kernel_rfl
theorem parse_commit : parseK sCommit.data.toList = .bad 2 1 := by kernel_rfl
theorem text_rebase : textK 14 ⟨#[]⟩ 2 ⟨#[]⟩ false lPick3 = sRebase.data.toList := by decide +kernel
theorem check_reset : checkK 6 bHardK 3 ⟨#[]⟩ [] = 0 := by decide +kernel

theorem verbs_at (w : World) : Calls Tryz.prog 27 #[] w fun e w' => ∃ g, e = .returned (.slice (some ⟨g, 0, none⟩) 20 20) ∧ (∀ (k : Nat) (x : ByteArray), verbsB[k]? = some x → w'.cell? ⟨g, k, none⟩ = some (.string x)) ∧ w.heap.size ≤ g ∧ Below w.heap.size w w' := by
  refine (verbs_any w).mono ?_
  rintro e w' ⟨rfl, rfl⟩
  exact ⟨w.heap.size, rfl, verbs_cells w, Nat.le_refl _, (Below.refl w.heap.size w).alloc (Nat.le_refl _) _⟩
theorem POk {w w' : World} {e : Ending} {k : Nat} {nm : ByteArray} {n : Nat} {tx : ByteArray} {f : Bool} {l : List Fl} (h : PTo (.ok k nm n tx f l) w e w') :
    ∃ A c, e = .returned (.tuple #[cpV (vB k, nm, (n : Int), tx, f, l) A c, .nilIface]) ∧ Reads 3 cF w' (.slice A l.length c) l ∧ Below w.heap.size w w' := by
  obtain ⟨⟨A, c, h1, h2⟩, h3⟩ := h
  exact ⟨A, c, h1, h2, h3⟩
theorem PBad {w w' : World} {e : Ending} {p c : Int} (h : PTo (.bad p c) w e w') :
    ∃ F, e = .returned (.tuple #[.agg zero6, .iface 76 (.pointer (some ⟨F, 0, none⟩))]) ∧ Below w.heap.size w w' := by
  obtain ⟨⟨F, h1, _⟩, h3⟩ := h
  exact ⟨F, h1, h3⟩
set_option maxRecDepth 100000 in
set_option maxHeartbeats 8000000 in
theorem known22_yes (w : World) (m : Int) (hm : w.cell? ⟨1, 0, none⟩ = some (.int .i64 m)) (h1 : 1 < w.heap.size) (hT : PowTab w) : Calls Tryz.prog 21 #[] w fun e w' => e = .returned (.bool true) ∧ Below w.heap.size w w' := by
  have HM := Lib.hid fun W (hW : Below w.heap.size w W) => (show W.cell? ⟨1, 0, none⟩ = some (.int .i64 m) by rw [hW.cell h1]; exact hm)
  have HT := Lib.hid fun W (hW : Below w.heap.size w W) => tabIs_below hT hW
  have HB := Lib.hid (Nat.le_of_lt h1)
  have P1 := cmdParse_any sReset w m hm h1 (by decide)
  rw [parse_reset] at P1
  have P1 := Lib.hid P1
  have P2 := Lib.hid fun W (hW : Below w.heap.size w W) => (show Calls Tryz.prog 31 #[.string sRebase] W (PTo (.ok 14 ⟨#[]⟩ 2 ⟨#[]⟩ false lPick3) W) from by rw [← parse_rebase]; exact cmdParse_any sRebase W m (HM.out W hW) (Nat.lt_of_lt_of_le h1 hW.size) (by decide))
  have P3 := Lib.hid fun W (hW : Below w.heap.size w W) => (show Calls Tryz.prog 31 #[.string sJump] W (PTo (.bad (-1) 5) W) from by rw [← parse_jump]; exact cmdParse_any sJump W m (HM.out W hW) (Nat.lt_of_lt_of_le h1 hW.size) (by decide))
  have P4 := Lib.hid fun W (hW : Below w.heap.size w W) => (show Calls Tryz.prog 31 #[.string sCommit] W (PTo (.bad 2 1) W) from by rw [← parse_commit]; exact cmdParse_any sCommit W m (HM.out W hW) (Nat.lt_of_lt_of_le h1 hW.size) (by decide))
  have V := Lib.hid fun W => verbs_at W
  clear hm h1 hT HM HB
  go_enter Tryz.func21, Tryz.ntmps21
  go_wp2_with fail
  refine P1.out.mono ?_
  intro e w1 hp1
  obtain ⟨A1, c1, rfl, r1, d1⟩ := POk hp1
  have D1 := Lib.hid d1
  have R1 := Lib.hid r1
  clear P1 hp1 r1 d1
  have D2 := Lib.hid (D1.out.alloc D1.out.size (.cells #[.string (vB 6), .string bHardK, .int .i64 3, .string ⟨#[]⟩, .bool false, .slice A1 0 c1] 52))
  have Q2 := Lib.hid (R1.out.below ((Below.refl w1.heap.size w1).alloc (Nat.le_refl _) (.cells #[.string (vB 6), .string bHardK, .int .i64 3, .string ⟨#[]⟩, .bool false, .slice A1 0 c1] 52)))
  have B2 := Lib.hid (Blk.new w1 52 #[.string (vB 6), .string bHardK, .int .i64 3, .string ⟨#[]⟩, .bool false, .slice A1 0 c1])
  obtain ⟨g1, hg⟩ : ∃ g, g = w1.heap.size := ⟨_, rfl⟩
  rw [← hg] at B2
  clear D1 R1
  go_wp2_with fail
  rw [← hg]
  clear hg
  generalize w1.alloc (.cells #[.string (vB 6), .string bHardK, .int .i64 3, .string ⟨#[]⟩, .bool false, .slice A1 0 c1] 52) = w2 at *
  refine (P2.out _ D2.out).mono ?_
  intro e w3 hp3
  obtain ⟨A3, c3, rfl, r3, d3⟩ := POk hp3
  have hb3 := (Below.refl w3.heap.size w3).alloc (Nat.le_refl _) (.cells #[.string (vB 14), .string ⟨#[]⟩, .int .i64 2, .string ⟨#[]⟩, .bool false, .slice A3 1 c3] 52)
  have D4 := Lib.hid ((D2.out.trans (d3.mono D2.out.size)).trans (hb3.mono (Nat.le_trans D2.out.size d3.size)))
  have Q4 := Lib.hid ((Q2.out.below d3).below hb3)
  have B4 := Lib.hid ((B2.out.below d3 B2.out.lt).below hb3 (B2.out.below d3 B2.out.lt).lt)
  have R4 := Lib.hid (r3.below hb3)
  have E4 := Lib.hid (Blk.new w3 52 #[.string (vB 14), .string ⟨#[]⟩, .int .i64 2, .string ⟨#[]⟩, .bool false, .slice A3 1 c3])
  obtain ⟨g3, hg⟩ : ∃ g, g = w3.heap.size := ⟨_, rfl⟩
  rw [← hg] at E4
  clear hp3 r3 d3 hb3 D2 Q2 B2 P2
  go_wp2_with fail
  rw [← hg]
  clear hg
  generalize w3.alloc (.cells #[.string (vB 14), .string ⟨#[]⟩, .int .i64 2, .string ⟨#[]⟩, .bool false, .slice A3 1 c3] 52) = w4 at *
  refine (P3.out _ D4.out).mono ?_
  intro e w5 hp5
  obtain ⟨F5, rfl, d5⟩ := PBad hp5
  have hb5 := d5.trans ((Below.refl w5.heap.size w5).alloc (Nat.le_refl _) (.cells zero6 52) |>.mono d5.size)
  have D6 := Lib.hid (D4.out.trans (hb5.mono D4.out.size))
  have Q6 := Lib.hid (Q4.out.below hb5)
  have B6 := Lib.hid (B4.out.below hb5 B4.out.lt)
  have R6 := Lib.hid (R4.out.below hb5)
  have E6 := Lib.hid (E4.out.below hb5 E4.out.lt)
  clear hp5 d5 hb5 D4 Q4 B4 R4 E4 P3
  unfold zero6 at *
  go_wp2_with fail
  generalize w5.alloc (.cells #[.string ⟨#[]⟩, .string ⟨#[]⟩, .int .i64 0, .string ⟨#[]⟩, .bool false, .slice none 0 0] 52) = w6 at *
  refine (P4.out _ D6.out).mono ?_
  intro e w7 hp7
  obtain ⟨F7, rfl, d7⟩ := PBad hp7
  have hb7 := d7.trans ((Below.refl w7.heap.size w7).alloc (Nat.le_refl _) (.cells zero6 52) |>.mono d7.size)
  have D8 := Lib.hid (D6.out.trans (hb7.mono D6.out.size))
  have Q8 := Lib.hid (Q6.out.below hb7)
  have B8 := Lib.hid (B6.out.below hb7 B6.out.lt)
  have R8 := Lib.hid (R6.out.below hb7)
  have E8 := Lib.hid (E6.out.below hb7 E6.out.lt)
  clear hp7 d7 hb7 D6 Q6 B6 R6 E6 P4
  unfold zero6 at *
  go_wp2_with fail
  generalize w7.alloc (.cells #[.string ⟨#[]⟩, .string ⟨#[]⟩, .int .i64 0, .string ⟨#[]⟩, .bool false, .slice none 0 0] 52) = w8 at *
  refine (V.out _).mono ?_
  rintro e w9 ⟨g9, rfl, h9, hg9, d9⟩
  have z0 : w9.cell? ⟨g9, 0, none⟩ = some (.string ⟨#[97, 100, 100]⟩) := h9 0 _ rfl
  have D9 := Lib.hid (D8.out.trans (d9.mono D8.out.size))
  have T9 := Lib.hid (HT.out _ D9.out)
  have Q9 := Lib.hid (Q8.out.below d9)
  have B9 := B8.out.below d9 B8.out.lt
  have R9 := Lib.hid (R8.out.below d9)
  have E9 := E8.out.below d9 E8.out.lt
  have x0 := B9.cell 0
  have x1 := B9.cell 1
  have x2 := B9.cell 2
  have x3 := B9.cell 3
  have x4 := B9.cell 4
  have x5 := B9.cell 5
  have y0 := E9.cell 0
  have y1 := E9.cell 1
  have y2 := E9.cell 2
  have y3 := E9.cell 3
  have y4 := E9.cell 4
  have y5 := E9.cell 5
  have TX := cmdText_any 14 (by decide) ⟨#[]⟩ 2 ⟨#[]⟩ false A3 lPick3 c3 w9 (by decide) (by decide) (by decide) (by decide) R9.out (by decide) (by unfold StepOkG; decide) T9.out
  rw [text_rebase] at TX
  have TX := Lib.hid (show Calls Tryz.prog 29 #[.agg #[.string (vB 14), .string ⟨#[]⟩, .int .i64 2, .string ⟨#[]⟩, .bool false, .slice A3 1 c3]] w9 fun e w' => e = .returned (.string sRebase) ∧ Below w9.heap.size w9 w' from TX.mono fun e w' ⟨s, h1, h2, h3⟩ => by
    have : s = sRebase := by cases s; exact congrArg ByteArray.mk (Array.toList_inj.1 h2)
    exact ⟨by rw [h1, this], h3⟩)
  have SM := Lib.hid fun W (hW : Below w9.heap.size w9 W) => (show Calls Tryz.prog 34 #[.agg #[.string (vB 6), .string bHardK, .int .i64 3, .string ⟨#[]⟩, .bool false, .slice A1 0 c1], .agg #[.string (vB 6), .string bHardK, .int .i64 3, .string ⟨#[]⟩, .bool false, .slice A1 0 c1]] W fun e w' => e = .returned (.bool true) ∧ Below W.heap.size W w' from (cmdSame_any W (vB 6, bHardK, 3, ⟨#[]⟩, false, []) (vB 6, bHardK, 3, ⟨#[]⟩, false, []) A1 A1 c1 c1 (Q9.out.below hW) (Q9.out.below hW)).mono fun e w' h => by rw [eqCP_refl] at h; exact h)
  have CK := Lib.hid fun W (hW : Below w9.heap.size w9 W) => (show Calls Tryz.prog 25 #[.agg #[.string (vB 6), .string bHardK, .int .i64 3, .string ⟨#[]⟩, .bool false, .slice A1 0 c1]] W fun e w' => e = .returned .nilIface ∧ Below W.heap.size W w' from (check_cmd 6 (by decide) bHardK 3 ⟨#[]⟩ false A1 [] c1 W (by decide) (Q9.out.below hW)).mono fun e w' h => by
    rw [check_reset] at h
    obtain ⟨h1, h2⟩ := h
    rcases h1 with ⟨_, h1⟩ | ⟨F, h0, _⟩
    · exact ⟨h1, h2⟩
    · exact absurd rfl h0)
  have GL1 : g1 < w9.heap.size := B9.lt
  have KX := Lib.hid fun W (hW : Below w9.heap.size w9 W) => (show W.cell? ⟨g1, 0, none⟩ = some (.string (vB 6)) ∧ W.cell? ⟨g1, 1, none⟩ = some (.string bHardK) ∧ W.cell? ⟨g1, 2, none⟩ = some (.int .i64 3) ∧ W.cell? ⟨g1, 3, none⟩ = some (.string ⟨#[]⟩) ∧ W.cell? ⟨g1, 4, none⟩ = some (.bool false) ∧ W.cell? ⟨g1, 5, none⟩ = some (.slice A1 0 c1) ∧ W.cell? ⟨g9, 0, none⟩ = some (.string ⟨#[97, 100, 100]⟩) from by
    have hz := World.block_lt_of_cell? _ _ z0
    have K := B9.below hW GL1
    exact ⟨K.cell 0, K.cell 1, K.cell 2, K.cell 3, K.cell 4, K.cell 5, (hW.cell (p := ⟨g9, 0, none⟩) hz).trans z0⟩)
  clear d9 h9 hg9 D8 Q8 B8 R8 E8 T9 B9 E9 V HT GL1 R9 Q9
  go_upto_region 6 with fail
  go_wp2_with fail
  refine TX.out.mono ?_
  rintro e w10 ⟨rfl, d10⟩
  have D10 := Lib.hid (D9.out.trans (d10.mono D9.out.size))
  have E10 := Lib.hid d10
  clear d10 TX x0 x1 x2 x3 x4 x5 y0 y1 y2 y3 y4 y5 z0
  obtain ⟨x0, x1, x2, x3, x4, x5, z0⟩ := KX.out _ E10.out
  have SM := Lib.hid (SM.out _ E10.out)
  go_wp2_with fail
  refine SM.out.mono ?_
  rintro e w11 ⟨rfl, d11⟩
  have E11 := Lib.hid (E10.out.trans (d11.mono E10.out.size))
  clear d11 SM x0 x1 x2 x3 x4 x5 z0
  obtain ⟨x0, x1, x2, x3, x4, x5, z0⟩ := KX.out _ E11.out
  have CK := Lib.hid (CK.out _ E11.out)
  go_wp2_with fail
  refine CK.out.mono ?_
  rintro e w12 ⟨rfl, d12⟩
  have E12 := Lib.hid (E11.out.trans (d12.mono E11.out.size))
  clear d12 CK x0 x1 x2 x3 x4 x5 z0 KX
  go_wp2_with fail
  go_ret
  exact ⟨rfl, D9.out.trans (E12.out.mono D9.out.size)⟩
end Go.Proofs.YtanjcjnkppnhcaaGreatDoor

namespace Go.Proofs.YtanjcjnkppnhcaaGreatDoor
open Go Go.RowKit

/-- Both boxes stand. -/
structure TB (w : World) (g : Nat) (xs ys : Array Value) (v : World) : Prop where
  one : Blk v g 52 xs
  two : Blk v (g + 1) 52 ys
  bel : Below w.heap.size w v
theorem TB.below {w : World} {g : Nat} {xs ys : Array Value} {v v' : World} (h : TB w g xs ys v) (hb : Below v.heap.size v v') : TB w g xs ys v' :=
  ⟨h.one.below hb h.one.lt, h.two.below hb h.two.lt, h.bel.trans (hb.mono h.bel.size)⟩
theorem TB.drew {w : World} {g : Nat} {xs ys : Array Value} {v : World} (h : TB w g xs ys v) : TB w g xs ys v.drew := h.below (below_drewN (Below.refl _ v) 1)
end Go.Proofs.YtanjcjnkppnhcaaGreatDoor

namespace Go.Proofs.YtanjcjnkppnhcaaGreatDoor
open Go Go.RowKit

theorem strs_form {w : World} {v : Value} {l : List ByteArray} (h : Strs w v l) : ∃ A c, v = .slice A l.length c := by
  obtain ⟨A, c, hv, _⟩ := h
  exact ⟨_, _, hv⟩
theorem strs_len {w : World} {A : Option Addr} {n c : Nat} {l : List ByteArray} (h : Strs w (.slice A n c) l) : n = l.length ∧ n ≤ c ∧ c ≤ maxLen := by
  obtain ⟨A', c', hv, h1, h2, h3, _⟩ := h
  injection hv with e1 e2 e3
  subst e3
  exact ⟨e2, by omega, h2⟩
theorem strs_at {w : World} {A : Option Addr} {n c : Nat} {ss : List ByteArray} (h : Strs w (.slice A n c) ss) {k : Nat} (hk : k < n) :
    ∃ (ad : Addr) (s : ByteArray), A = some ad ∧ ss[k]? = some s ∧ w.cell? (ad.add k) = some (.string s) := by
  obtain ⟨A', c', hv, h1, h2, h3, h4⟩ := h
  injection hv with e1 e2 e3
  subst e1; subst e3
  cases A with
  | none => have := h3 rfl; omega
  | some ad =>
    have hl : k < ss.length := by omega
    exact ⟨ad, ss[k], rfl, List.getElem?_eq_getElem hl, h4 ad rfl k _ (List.getElem?_eq_getElem hl)⟩
set_option maxRecDepth 100000 in
set_option maxHeartbeats 2000000 in
theorem rtexts_any (w : World) (v u : Value) (xs ys : List ByteArray) (h : Strs w v xs) (g : Strs w u ys) :
    Calls Tryz.prog 60 #[v, u] w (BoolTo (decide (xs = ys)) w) := by
  obtain ⟨A, c, rfl⟩ := strs_form h
  obtain ⟨B, d, rfl⟩ := strs_form g
  have hb1 : xs.length ≤ 9223372036854775807 := by have := (strs_len h).2; unfold maxLen at this; omega
  have hb2 : ys.length ≤ 9223372036854775807 := by have := (strs_len g).2; unfold maxLen at this; omega
  have HH := Lib.hid h
  have GG := Lib.hid g
  obtain ⟨n, hn⟩ : ∃ n, n = xs.length := ⟨_, rfl⟩
  obtain ⟨m, hm⟩ : ∃ n, n = ys.length := ⟨_, rfl⟩
  rw [← hn] at HH hb1 ⊢
  rw [← hm] at GG hb2 ⊢
  have HN := Lib.hid hn
  have GN := Lib.hid hm
  clear h g hn hm
  by_cases hnm : n = m
  · subst hnm
    go_enter Tryz.func60, Tryz.ntmps60
    go_wp2
    go_loopw [5] (fun i wr => ∃ k q : Nat, k ≤ n ∧ i = .int .i64 k ∧ Hid (∀ i, i < k → xs[i]? = ys[i]?) ∧ wr = w.drewN q) (fun i _ => n - (intOf i).toNat)
    case atStart => exact ⟨0, 0, Nat.zero_le _, rfl, Lib.hid (fun i hi => absurd hi (by omega)), rfl⟩
    case round =>
      obtain ⟨k, q, hk, rfl, HP, rfl⟩ := hrel
      by_cases hlt : k < n
      · obtain ⟨a, x, rfl, hx, hc1⟩ := strs_at HH.out hlt
        obtain ⟨b, y, rfl, hy, hc2⟩ := strs_at GG.out hlt
        have hi0 : (0 : Int) ≤ (k : Int) := Int.natCast_nonneg _
        have hi1 : (k : Int) < (n : Int) := by omega
        have HX := Lib.hid hx
        have HY := Lib.hid hy
        clear hx hy
        by_cases hxy : x = y
        · subst hxy
          go_wp2_with fail
          go_quiet (fail)
          go_wp2
          go_roundw
          case rel =>
            refine ⟨k + 1, _, by omega, by go_num, Lib.hid (fun i hi => ?_), rfl⟩
            by_cases hik : i < k
            · exact HP.out i hik
            · obtain rfl : i = k := by omega
              rw [HX.out, HY.out]
          case measure => simp [intOf]; omega
        · have e1 : ¬ x.toList = y.toList := fun e => hxy (tl_eq e)
          have e1' : (x.toList == y.toList) = false := by simpa using e1
          have HD : Hid (decide (xs = ys) = false) := Lib.hid (decide_eq_false fun e => by
            have := HX.out
            rw [e, HY.out] at this
            exact hxy (Option.some.inj this).symm)
          clear hxy
          go_wp2_with fail
          go_quiet (fail)
          go_wp2
          go_ret
          exact ⟨by rw [HD.out]; rfl, _, World.drewN_drewN _ _ _⟩
      · obtain rfl : k = n := by omega
        go_wp2
        go_ret
        exact ⟨by rw [decide_eq_true (prefix_all HP.out HN.out.symm GN.out.symm)]; rfl, q, rfl⟩
  · have hne : ((n : Int) == (m : Int)) = false := by rw [beq_eq_false_iff_ne]; omega
    have HD : Hid (decide (xs = ys) = false) := Lib.hid (decide_eq_false fun e => hnm (by rw [HN.out, GN.out, e]))
    go_enter Tryz.func60, Tryz.ntmps60
    go_wp2
    go_ret
    exact ⟨by rw [HD.out]; rfl, 0, rfl⟩
theorem rTexts_any (w : World) (v u : Value) (xs ys : List ByteArray) (h : Strs w v xs) (g : Strs w u ys) :
    Calls Tryz.prog 26 #[v, u] w (BoolTo (decide (xs = ys)) w) := by
  have T := Lib.hid (rtexts_any w v u xs ys h g)
  clear h g
  go_enter Tryz.func26, Tryz.ntmps26
  go_wp2_with fail
  refine T.out.mono ?_
  rintro e w1 ⟨rfl, q, rfl⟩
  go_wp2_with fail
  go_ret
  exact ⟨rfl, q, rfl⟩
theorem strs_verbs {w : World} {g : Nat} (h : ∀ (k : Nat) (x : ByteArray), verbsB[k]? = some x → w.cell? ⟨g, k, none⟩ = some (.string x)) : Strs w (.slice (some ⟨g, 0, none⟩) 20 20) verbsB :=
  ⟨some ⟨g, 0, none⟩, 20, rfl, Nat.le_refl _, by decide, (fun h => by cases h), fun ad ha i s hs => by
    obtain rfl := Option.some.inj ha
    rw [show (⟨g, 0, none⟩ : Addr).add i = ⟨g, i, none⟩ from (Lib.add_plain g 0 i).trans (by rw [Nat.zero_add])]
    exact h i s hs⟩
theorem refVerbs_at (w : World) : Calls Tryz.prog 28 #[] w fun e w' => ∃ g, e = .returned (.slice (some ⟨g, 0, none⟩) 20 20) ∧ (∀ (k : Nat) (x : ByteArray), verbsB[k]? = some x → w'.cell? ⟨g, k, none⟩ = some (.string x)) ∧ w.heap.size ≤ g ∧ Below w.heap.size w w' := by
  refine (refVerbs_any w).mono ?_
  rintro e w' ⟨rfl, rfl⟩
  exact ⟨w.heap.size, rfl, verbs_cells w, Nat.le_refl _, (Below.refl w.heap.size w).alloc (Nat.le_refl _) _⟩
/-- What Check tells of a command. -/
def chkV (x : CP) : Int := if placeV x.1 = -1 then 5 else checkK (placeV x.1).toNat x.2.1 x.2.2.1 x.2.2.2.1 x.2.2.2.2.2
theorem chkV_no {x : CP} (h : placeV x.1 = -1) : chkV x = 5 := if_pos h
theorem chkV_k {x : CP} {k : Nat} (h : placeV x.1 = (k : Int)) : chkV x = checkK k x.2.1 x.2.2.1 x.2.2.2.1 x.2.2.2.2.2 := by
  unfold chkV
  rw [h, if_neg (by omega)]
  rfl
theorem check_all (w : World) (x : CP) (A : Option Addr) (c : Nat) (hs : x.2.1.size ≤ 1000000) (hx : Reads 3 cF w (.slice A x.2.2.2.2.2.length c) x.2.2.2.2.2) :
    Calls Tryz.prog 25 #[cpV x A c] w fun e w' => ((chkV x = 0 ∧ e = .returned .nilIface) ∨ ∃ F, chkV x ≠ 0 ∧ e = .returned (.iface 76 (.pointer (some ⟨F, 0, none⟩))) ∧ Blk w' F 78 #[.string bCmd, .int .i64 (placeV x.1), .iface 73 (.int .i64 (chkV x))]) ∧ Below w.heap.size w w' := by
  obtain ⟨v, nm, n, tx, f, l⟩ := x
  rcases place_cases v with h | ⟨k, hk, rfl, h⟩
  · rw [show chkV (v, nm, n, tx, f, l) = 5 from chkV_no h, show placeV (v, nm, n, tx, f, l).1 = -1 from h]
    refine (check_none v h nm n tx f A l.length c w).mono ?_
    rintro e w' ⟨⟨F, h1, h2⟩, h3⟩
    exact ⟨.inr ⟨F, by decide, h1, h2⟩, h3⟩
  · rw [show chkV (vB k, nm, n, tx, f, l) = checkK k nm n tx l from chkV_k h, show placeV (vB k, nm, n, tx, f, l).1 = (k : Int) from h]
    exact check_cmd k hk nm n tx f A l c w hs hx
theorem refCheck_all (w : World) (x : CP) (A : Option Addr) (c : Nat) (hs : x.2.1.size ≤ 1000000) (hn : -9223372036854775808 ≤ x.2.2.1) (hx : Reads 3 cF w (.slice A x.2.2.2.2.2.length c) x.2.2.2.2.2) :
    Calls Tryz.prog 23 #[cpV x A c] w (RfTo (placeV x.1) (chkV x) w) := by
  obtain ⟨v, nm, n, tx, f, l⟩ := x
  rcases place_cases v with h | ⟨k, hk, rfl, h⟩
  · rw [show chkV (v, nm, n, tx, f, l) = 5 from chkV_no h, show placeV (v, nm, n, tx, f, l).1 = -1 from h]
    exact refCheck_nov v h nm n tx f A l.length c w
  · rw [show chkV (vB k, nm, n, tx, f, l) = checkK k nm n tx l from chkV_k h, show placeV (vB k, nm, n, tx, f, l).1 = (k : Int) from h]
    exact refCheck_cmd k hk nm n tx f A l c w hs hn hx
theorem chk_14 (l : List UInt8) : 0 ≤ chk l ∧ chk l ≤ 14 := by
  unfold chk
  split
  · decide
  · split
    · decide
    · split <;> decide
theorem wlV_14 (tx : ByteArray) : 0 ≤ wlV tx ∧ wlV tx ≤ 14 := by
  unfold wlV
  split
  · decide
  · split <;> decide
theorem wMK_14 (k : Nat) (nm : ByteArray) : 0 ≤ wMK k nm ∧ wMK k nm ≤ 14 := by
  unfold wMK
  have := chk_14 nm.data.toList
  repeat' split
  all_goals first | exact this | decide
theorem wNK_14 (k : Nat) (nm : ByteArray) (n : Int) : 0 ≤ wNK k nm n ∧ wNK k nm n ≤ 14 := by
  unfold wNK
  repeat' split
  all_goals decide
theorem wTK_14 (k : Nat) (tx : ByteArray) : 0 ≤ wTK k tx ∧ wTK k tx ≤ 14 := by
  unfold wTK
  have := wlV_14 tx
  repeat' split
  all_goals first | exact this | decide
theorem wSV_14 (x : Fl) : 0 ≤ wSV x ∧ wSV x ≤ 14 := by
  unfold wSV
  have := wlV_14 x.2.2
  repeat' split
  all_goals first | exact this | decide
theorem wSs_14 : ∀ l : List Fl, 0 ≤ wSs l ∧ wSs l ≤ 14
  | [] => by decide
  | x :: l => by
    unfold wSs
    split
    · exact wSV_14 x
    · exact wSs_14 l
theorem wDK_14 (k : Nat) (l : List Fl) : 0 ≤ wDK k l ∧ wDK k l ≤ 14 := by
  unfold wDK
  have := wSs_14 l
  repeat' split
  all_goals first | exact this | decide
theorem chkV_14 (x : CP) : 0 ≤ chkV x ∧ chkV x ≤ 14 := by
  unfold chkV checkK
  have h1 := wMK_14 (placeV x.1).toNat x.2.1
  have h2 := wNK_14 (placeV x.1).toNat x.2.1 x.2.2.1
  have h3 := wTK_14 (placeV x.1).toNat x.2.2.2.1
  have h4 := wDK_14 (placeV x.1).toNat x.2.2.2.2.2
  repeat' split
  all_goals first | exact h1 | exact h2 | exact h3 | exact h4 | decide
theorem placeV_20 (v : ByteArray) : -1 ≤ placeV v ∧ placeV v ≤ 19 := by
  rcases place_cases v with h | ⟨k, hk, -, h⟩ <;> omega
theorem hear_ok {k : Nat} (s : ByteArray) (w : World) (hs : s.size ≤ 100000) (nm : ByteArray) (n : Nat) (tx : ByteArray) (f : Bool) (l : List Fl) (h : parseK s.data.toList = .ok k nm n tx f l) : Calls Tryz.prog 32 #[.string s] w (HearTo (vB k, nm, (n : Int), tx, f, l) w) := by
  obtain ⟨hk, -, -, hr, -, hc⟩ := parseK_ok h
  rcases k20 hk with rfl | rfl | rfl | rfl | rfl | rfl | rfl | rfl | rfl | rfl | rfl | rfl | rfl | rfl | rfl | rfl | rfl | rfl | rfl | rfl
  · by_cases hn0 : nm = ⟨#[]⟩
    · exact hear_0a s w hs nm n tx f l h hn0
    · exact hear_0b s w hs nm n tx f l h hn0
  · cases hf : f with
    | false => rw [hf] at h; exact hear_1a s w hs nm n tx false l h rfl
    | true => rw [hf] at h; exact hear_1b s w hs nm n tx true l h rfl
  · cases hg : (cutL 32 (cutL 10 s.data.toList).1).2.2 with
    | true => exact hear_2a s w hs nm n tx f l h hg
    | false =>
      exfalso
      obtain ⟨-, -, h3, -, -⟩ := readK_text (k := 2) rfl hr
      have h4 : tx = ⟨#[]⟩ := by rw [h3, cut_gone hg]; rfl
      have h5 : wTK 2 tx = 0 := by
        unfold checkK at hc
        split at hc
        · rename_i q; exact absurd hc q
        · split at hc
          · rename_i q; exact absurd hc q
          · split at hc
            · rename_i q; exact absurd hc q
            · rename_i q; exact Classical.not_not.1 q
      rw [h4] at h5
      cases h5
  · exact hear_3 s w hs nm n tx f l h
  · exact hear_4 s w hs nm n tx f l h
  · cases hf : f with
    | false =>
      rw [hf] at h
      by_cases hn0 : nm = ⟨#[]⟩
      · exact hear_5a s w hs nm n tx false l h rfl hn0
      · exact hear_5b s w hs nm n tx false l h rfl hn0
    | true =>
      rw [hf] at h
      by_cases hn0 : nm = ⟨#[]⟩
      · exact hear_5c s w hs nm n tx true l h rfl hn0
      · exact hear_5d s w hs nm n tx true l h rfl hn0
  · exact hear_6 s w hs nm n tx f l h
  · exact hear_7 s w hs nm n tx f l h
  · exact hear_8 s w hs nm n tx f l h
  · exact hear_9 s w hs nm n tx f l h
  · cases hg : (cutL 32 (cutL 10 s.data.toList).1).2.2 with
    | true => exact hear_10a s w hs nm n tx f l h hg
    | false => exact hear_10b s w hs nm n tx f l h hg
  · exact hear_11 s w hs nm n tx f l h
  · exact hear_12 s w hs nm n tx f l h
  · exact hear_13 s w hs nm n tx f l h
  · exact hear_14 s w hs nm n tx f l h
  · exact hear_15 s w hs nm n tx f l h
  · exact hear_16 s w hs nm n tx f l h
  · exact hear_17 s w hs nm n tx f l h
  · exact hear_18 s w hs nm n tx f l h
  · exact hear_19 s w hs nm n tx f l h
end Go.Proofs.YtanjcjnkppnhcaaGreatDoor
