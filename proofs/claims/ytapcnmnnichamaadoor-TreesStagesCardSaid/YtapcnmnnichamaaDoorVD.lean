/-
  take: the chunk's three texts, each in a row of its own.
-/
import Derived.Test.YtapcnmnnichamaaDoorVC

namespace Go.Proofs.YtapcnmnnichamaaDoor.Mg
open Go.RowKit

set_option maxRecDepth 100000 in
set_option maxHeartbeats 6000000 in
theorem take_any (w : World) (C n c m d r f i j k i2 j2 k2 : Nat) (A B D : Option Addr) (vp vq v8 : Value) (xs ys zs : List ByteArray) (h : Cutr w C (.slice A n c) (.slice B m d) (.slice D r f) vp vq (.int .i64 (i : Int)) (.int .i64 (j : Int)) (.int .i64 (k : Int)) v8)
    (h0 : Strs w (.slice A n c) xs) (h1 : Strs w (.slice B m d) ys) (h2 : Strs w (.slice D r f) zs) (hi : i ≤ i2) (hj : j ≤ j2) (hk : k ≤ k2) (ji : i2 ≤ n) (jj : j2 ≤ m) (jk : k2 ≤ r) (nl : n ≤ 1000) (ml : m ≤ 1000) (rl : r ≤ 1000) :
    Calls Tryd.prog 74 #[.pointer (some ⟨C, 0, none⟩), .int .i64 i2, .int .i64 j2, .int .i64 k2] w (Taken w C (.slice A n c) (.slice B m d) (.slice D r f) vp vq v8 i2 j2 k2 (cutL2 xs i i2) (cutL2 ys j j2) (cutL2 zs k k2)) := by
  have ca := h0.len.2.1
  have cb := h1.len.2.1
  have cd := h2.len.2.1
  have b1 : (0 : Int) ≤ (i : Int) := by omega
  have b2 : (0 : Int) ≤ (j : Int) := by omega
  have b3 : (0 : Int) ≤ (k : Int) := by omega
  have b4 : (i : Int) ≤ (i2 : Int) := by omega
  have b5 : (j : Int) ≤ (j2 : Int) := by omega
  have b6 : (k : Int) ≤ (k2 : Int) := by omega
  have b7 : (i2 : Int) ≤ (c : Int) := by omega
  have b8 : (j2 : Int) ≤ (d : Int) := by omega
  have b9 : (k2 : Int) ≤ (f : Int) := by omega
  have hS := And.intro h.c0 (And.intro h.c1 (And.intro h.c2 (And.intro h.c5 (And.intro h.c6 h.c7))))
  have hl1 : (cutL2 xs i i2).length ≤ 1000 := by unfold cutL2; rw [List.length_take]; omega
  have hl2 : (cutL2 ys j j2).length ≤ 1000 := by unfold cutL2; rw [List.length_take]; omega
  have hl3 : (cutL2 zs k k2).length ≤ 1000 := by unfold cutL2; rw [List.length_take]; omega
  have S0 : Tk w (w.alloc (.cells #[.slice none 0 0, .slice none 0 0, .slice none 0 0, .bool false, .slice none 0 0] 85)) w.heap.size C (.slice A n c) (.slice B m d) (.slice D r f) vp vq (.int .i64 (i : Int)) (.int .i64 (j : Int)) (.int .i64 (k : Int)) v8 (.slice (if c = i then A else Option.map (fun x => x.add i) A) (i2 - i) (c - i)) (.slice (if d = j then B else Option.map (fun x => x.add j) B) (j2 - j) (d - j)) (.slice (if f = k then D else Option.map (fun x => x.add k) D) (k2 - k) (f - k)) (cutL2 xs i i2) (cutL2 ys j j2) (cutL2 zs k k2) none none none none := tk_start h ((h0.cut (by omega)).take (by omega)) ((h1.cut (by omega)).take (by omega)) ((h2.cut (by omega)).take (by omega))
  clear h h0 h1 h2
  obtain ⟨P1, hP1⟩ : ∃ P, (if c = i then A else Option.map (fun x => x.add i) A) = P := ⟨_, rfl⟩
  obtain ⟨P2, hP2⟩ : ∃ P, (if d = j then B else Option.map (fun x => x.add j) B) = P := ⟨_, rfl⟩
  obtain ⟨P3, hP3⟩ : ∃ P, (if f = k then D else Option.map (fun x => x.add k) D) = P := ⟨_, rfl⟩
  rw [hP1, hP2, hP3] at S0
  go_enter Tryd.func74, Tryd.ntmps74
  go_upto_region 1 with fail
  have hS1 := S0.sq
  generalize (w.alloc (.cells #[.slice none 0 0, .slice none 0 0, .slice none 0 0, .bool false, .slice none 0 0] 85)) = W0 at *
  obtain ⟨T, hT⟩ : ∃ T, T = w.heap.size := ⟨_, rfl⟩
  rw [← hT] at S0 ⊢
  have HT := Lib.hid hT
  clear hT
  go_cut [9] (fun x9 wx => TkMid w T C (.slice A n c) (.slice B m d) (.slice D r f) vp vq (.int .i64 (i : Int)) (.int .i64 (j : Int)) (.int .i64 (k : Int)) v8 (cutL2 xs i i2) (cutL2 ys j j2) (cutL2 zs k k2) x9 wx)
  case first =>
    go_region_held3 (fun w' => w'.cell? ⟨C, 0, none⟩ = some (.slice A n c) ∧ w'.cell? ⟨C, 1, none⟩ = some (.slice B m d) ∧ w'.cell? ⟨C, 2, none⟩ = some (.slice D r f) ∧ w'.cell? ⟨C, 5, none⟩ = some (.int .i64 (i : Int)) ∧ w'.cell? ⟨C, 6, none⟩ = some (.int .i64 (j : Int)) ∧ w'.cell? ⟨C, 7, none⟩ = some (.int .i64 (k : Int))) (with_reducible first | exact S3.sq | exact S3.lay.sq | exact S2.sq | exact S2.lay.sq | exact S1.sq | exact S1.lay.sq | exact S0.sq | exact S0.drew.sq | exact S0.lay.sq | exact S0.lay.drew.sq | exact mid_sq (tk_close S3) | exact mid_sq (tk_close_whole S3) | exact mid_sq (tk_close S3.lay)) (first
      | (go_at_call 77; (first | (with_reducible refine (tk_call3 S2 hl3).mono ?_) | (with_reducible refine (tk_call3 S2.lay hl3).mono ?_) | (with_reducible refine (tk_call3 S2.drew hl3).mono ?_) | (with_reducible refine (tk_call3 S2.lay.drew hl3).mono ?_) | (with_reducible refine (tk_call3 S2.drew.drew hl3).mono ?_) | (with_reducible refine (tk_call3 S2.lay.drew.drew hl3).mono ?_) | (with_reducible refine (tk_call3 S2.drew.drew.drew hl3).mono ?_) | (with_reducible refine (tk_call3 S2.lay.drew.drew.drew hl3).mono ?_)); rintro e w3 ⟨s3, rfl, S3⟩; obtain ⟨A3, n3, c3, rfl⟩ := own_form (S3.r3 _ rfl); try (have F3 := (S3.x _ rfl).2.2; have f0 := F3.c0; have f1 := F3.c1; have f2 := F3.c2; have f3 := F3.c3; have f4 := F3.c4; have y0 := F3.z 0; have y1 := F3.z 1; have y2 := F3.z 2; have y3 := F3.z 3; have y4 := F3.z 4; have fl := F3.lt; clear F3))
      | (go_at_call 77; (first | (with_reducible refine (tk_call2 S1 hl2).mono ?_) | (with_reducible refine (tk_call2 S1.lay hl2).mono ?_) | (with_reducible refine (tk_call2 S1.drew hl2).mono ?_) | (with_reducible refine (tk_call2 S1.lay.drew hl2).mono ?_) | (with_reducible refine (tk_call2 S1.drew.drew hl2).mono ?_) | (with_reducible refine (tk_call2 S1.lay.drew.drew hl2).mono ?_) | (with_reducible refine (tk_call2 S1.drew.drew.drew hl2).mono ?_) | (with_reducible refine (tk_call2 S1.lay.drew.drew.drew hl2).mono ?_)); rintro e w2 ⟨s2, rfl, S2⟩; obtain ⟨A2, n2, c2, rfl⟩ := own_form (S2.r2 _ rfl); try (have F2 := (S2.x _ rfl).2.2; have f0 := F2.c0; have f1 := F2.c1; have f2 := F2.c2; have f3 := F2.c3; have f4 := F2.c4; have y0 := F2.z 0; have y1 := F2.z 1; have y2 := F2.z 2; have y3 := F2.z 3; have y4 := F2.z 4; have fl := F2.lt; clear F2))
      | (go_at_call 77; (first | (with_reducible refine (tk_call1 S0 hl1).mono ?_) | (with_reducible refine (tk_call1 S0.lay hl1).mono ?_) | (with_reducible refine (tk_call1 S0.drew hl1).mono ?_) | (with_reducible refine (tk_call1 S0.lay.drew hl1).mono ?_) | (with_reducible refine (tk_call1 S0.drew.drew hl1).mono ?_) | (with_reducible refine (tk_call1 S0.lay.drew.drew hl1).mono ?_) | (with_reducible refine (tk_call1 S0.drew.drew.drew hl1).mono ?_) | (with_reducible refine (tk_call1 S0.lay.drew.drew.drew hl1).mono ?_)); rintro e w1 ⟨s1, rfl, S1⟩; obtain ⟨A1, n1, c1, rfl⟩ := own_form (S1.r1 _ rfl); try (have F1 := (S1.x _ rfl).2.2; have f0 := F1.c0; have f1 := F1.c1; have f2 := F1.c2; have f3 := F1.c3; have f4 := F1.c4; have y0 := F1.z 0; have y1 := F1.z 1; have y2 := F1.z 2; have y3 := F1.z 3; have y4 := F1.z 4; have fl := F1.lt; clear F1)))
    all_goals (go_wp2_with fail; go_meet)
    all_goals (with_reducible first | exact tk_close S3 | exact tk_close_whole S3 | exact tk_close S3.lay)
  clear hS hS1 S0 hP1 hP2 hP3 hl1 hl2 hl3
  obtain ⟨X, A1, A2, A3, n1, n2, n3, c1, c2, c3, rfl, x1, x2, x3, o1, o2, o3, q, g, cl, tl, t⟩ := hcut
  have e5 := q.c5
  have e6 := q.c6
  have e7 := q.c7
  have z5 := q.z 5
  have z6 := q.z 6
  have z7 := q.z 7
  have f0 := x3.c0
  have f1 := x3.c1
  have f2 := x3.c2
  have f3 := x3.c3
  have f4 := x3.c4
  have y0 := t.c0
  have y1 := t.c1
  have y2 := t.c2
  have y3 := t.c3
  have y4 := t.c4
  have r0 := t.z 0
  have r1 := t.z 1
  have r2 := t.z 2
  have r3 := t.z 3
  have r4 := t.z 4
  have xl := x3.lt
  have tl' := t.lt
  have cl' := q.lt
  have n1 : C ≠ X := by omega
  have n2 : X ≠ C := by omega
  have n3 : C ≠ T := by omega
  have n4 : T ≠ C := by omega
  have n5 : X ≠ T := Ne.symm x2
  have HC := Lib.hid (taken_close i2 j2 k2 o1 o2 o3 q g cl tl t)
  have HR := fun a b c d e => Lib.hid (fill_row (a := a) (b := b) (c := c) (d := d) (e := e) ((t.apart (((grown_store wc C 5 (.int .i64 (i2 : Int))).trans (grown_store _ C 6 (.int .i64 (j2 : Int)))).trans (grown_store _ C 7 (.int .i64 (k2 : Int)))) n4)))
  clear x3 o1 o2 o3 q g t
  go_wp2_with fail
  refine bodyPost_ret (results_cell_row rfl _ _ T 85 _ (0, 0) _ rfl (HR _ _ _ _ _).out Tryd.underlying85 rfl rfl) rfl ?_
  exact HC.out

end Go.Proofs.YtapcnmnnichamaaDoor.Mg
