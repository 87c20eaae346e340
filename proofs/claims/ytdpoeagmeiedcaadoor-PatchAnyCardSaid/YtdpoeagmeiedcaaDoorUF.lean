/-
  rectoref11.ended.
  rectoref11.HunkText, of hunks whose numbers are below 60.
-/
import Derived.Test.YtdpoeagmeiedcaaDoorUT
import Derived.Test.YtdpoeagmeiedcaaDoorUE
import Derived.Deep.RegionHeld3

namespace Go.Proofs.YtdpoeagmeiedcaaDoor
open Go Go.RowKit

def strL (l : List UInt8) : ByteArray := ⟨l.toArray⟩
theorem strL_data (s : ByteArray) : strL s.data.toList = s := by unfold strL; simp
theorem strL_size (l : List UInt8) : (strL l).size = l.length := by unfold strL; simp [ByteArray.size]
theorem data_app (a b : ByteArray) : (a ++ b).data.toList = a.data.toList ++ b.data.toList := by rw [ByteArray.data_append, Array.toList_append]
theorem ext_data {a b : ByteArray} (h : a.data.toList = b.data.toList) : a = b := by rw [← strL_data a, ← strL_data b, h]
/-- A line with its end. -/
def endB (s : ByteArray) : ByteArray := trimB s ++ ⟨#[10]⟩
theorem trim_eq (l : List UInt8) : Lib.trimSuffix l [10] = if l.getLast? = some 10 then l.dropLast else l := by
  unfold Lib.trimSuffix Lib.hasSuffix
  rcases List.eq_nil_or_concat l with rfl | ⟨pre, c, rfl⟩
  · simp
  · rw [List.concat_eq_append]
    simp
    by_cases h : c = 10
    · rw [if_pos h, if_pos h.symm]
    · rw [if_neg h, if_neg (Ne.symm h)]
theorem endB_yes {s : ByteArray} (h : s.data.toList.getLast? = some 10) : endB s = s := by
  apply ext_data
  unfold endB
  rw [data_app]
  unfold trimB
  rw [trim_eq, if_pos h]
  obtain ⟨pre, hp⟩ : ∃ pre, s.data.toList = pre ++ [10] := by
    rcases List.eq_nil_or_concat s.data.toList with e | ⟨pre, c, e⟩
    · rw [e] at h; simp at h
    · rw [List.concat_eq_append] at e
      rw [e, List.getLast?_append] at h
      simp at h
      exact ⟨pre, by rw [e, h]⟩
  rw [hp]
  simp
theorem endB_no {s : ByteArray} (h : s.data.toList.getLast? ≠ some 10) : endB s = s ++ ⟨#[10]⟩ := by
  unfold endB trimB
  rw [trim_eq, if_neg h]

attribute [-go_sem] run_string_add_if
set_option maxHeartbeats 1000000 in
theorem ended_refP (s : ByteArray) (w : World) (hs : s.size ≤ 1000000) : Calls Tryd.prog 55 #[.string s] w fun e w' => e = .returned (.string (endB s)) ∧ w = w' := by
  have hz : (ByteArray.mk #[10]).size = 1 := rfl
  obtain ⟨s1, e1, n1, p1⟩ := sum_namedP s ⟨#[10]⟩ (by omega)
  by_cases h0 : s.size = 0
  · have hE : Hid (endB s = s1) := Lib.hid (by
      rw [e1]
      refine endB_no ?_
      have : s.data.toList = [] := List.eq_nil_of_length_eq_zero (by rw [← Lib.size_eq]; exact h0)
      rw [this]; simp)
    clear e1 n1 hz
    go_enter Tryd.func55, Tryd.ntmps55
    go_wp2_with fail
    go_ret
    exact ⟨by rw [hE.out]; rfl, rfl⟩
  · obtain ⟨n, hn⟩ : ∃ n, s.size = n + 1 := ⟨s.size - 1, by omega⟩
    have hl : n < s.size := by omega
    have hll : n < s.data.toList.length := by rw [← Lib.size_eq]; exact hl
    have hlast : s.data.toList.getLast? = some s[n] := by
      rw [List.getLast?_eq_getElem?, ← Lib.size_eq, hn, Nat.add_sub_cancel, List.getElem?_eq_getElem hll]
      rfl
    have HN := Lib.hid hn
    by_cases hc : s[n] = 10
    · have hE : Hid (endB s = s) := Lib.hid (endB_yes (by rw [hlast, hc]))
      have ht : ((s[n].toNat : Int) == 10) = true := by rw [hc]; rfl
      clear hlast hc e1 n1 hz h0
      go_enter Tryd.func55, Tryd.ntmps55
      go_wp2_with fail
      go_ret
      exact ⟨by rw [hE.out]; rfl, rfl⟩
    · have hE : Hid (endB s = s1) := Lib.hid (by
        rw [e1]
        refine endB_no ?_
        rw [hlast]
        intro e
        exact hc (Option.some.inj e))
      have ht : ((s[n].toNat : Int) == 10) = false := by
        rw [beq_eq_false_iff_ne]
        intro e
        exact hc (UInt8.toNat_inj.1 (show s[n].toNat = 10 by omega))
      clear hlast hc e1 n1 hz h0
      go_enter Tryd.func55, Tryd.ntmps55
      go_wp2_with fail
      go_ret
      exact ⟨by rw [hE.out]; rfl, rfl⟩
theorem endB_le (s : ByteArray) : (endB s).size ≤ s.size + 1 := by
  unfold endB
  rw [ByteArray.size_append]
  have := trimB_le s
  have : (ByteArray.mk #[10]).size = 1 := rfl
  omega
theorem dg_dec (n : Nat) (h : n ≤ 59) : dg n = ⟨(Lib.decDigits n).toArray⟩ := by
  have : ∀ j : Fin 60, dg j.1 = ⟨(Lib.decDigits j.1).toArray⟩ := by decide +kernel
  exact this ⟨n, by omega⟩
theorem dg_le (n : Nat) (h : n ≤ 59) : (dg n).size ≤ 2 := by rw [dg_dec n h]; exact digits_le n (by omega)
theorem line_end (o : Int) (s : ByteArray) : (lineB (o, s)).data.toList = (markP o).data.toList ++ (endB s).data.toList := by
  unfold lineB endB
  simp only [data_app, List.append_assoc]
theorem head_dg (a d t f : Nat) (ha : a ≤ 59) (hd : d ≤ 59) (ht : t ≤ 59) (hf : f ≤ 59) : (headB a d t f).data.toList = [64, 64, 32, 45] ++ ((dg a).data.toList ++ ([44] ++ ((dg d).data.toList ++ ([32, 43] ++ ((dg t).data.toList ++ ([44] ++ ((dg f).data.toList ++ [32, 64, 64, 10]))))))) := by
  rw [dg_dec a ha, dg_dec d hd, dg_dec t ht, dg_dec f hf]
  unfold headB pairB
  simp only [data_app, List.append_assoc]
theorem sum_list (l : List UInt8) (b : ByteArray) (h : l.length + b.size ≤ 9223372036854775807) : ∃ s, s = strL (l ++ b.data.toList) ∧ s.size = l.length + b.size ∧ ∀ w, (Op.stringOp .add (strL l) b).run Tryd.prog w = .ok (.string s) w := by
  obtain ⟨s, e, n, p⟩ := sum_namedP (strL l) b (by rw [strL_size]; exact h)
  refine ⟨s, ?_, by rw [n, strL_size], p⟩
  rw [e]
  apply ext_data
  rw [data_app]
  simp [strL]
end Go.Proofs.YtdpoeagmeiedcaaDoor

namespace Go.Proofs.YtdpoeagmeiedcaaDoor
open Go Go.RowKit

theorem op23 (o : Int) : o = 2 ∨ o = 3 ∨ ((o == 2) = false ∧ (o == 3) = false ∧ markP o = ⟨#[32]⟩) := by
  by_cases h2 : o = 2
  · exact .inl h2
  by_cases h3 : o = 3
  · exact .inr (.inl h3)
  · exact .inr (.inr ⟨by simpa using h2, by simpa using h3, by unfold markP; rw [if_neg h2, if_neg h3]⟩)
set_option maxRecDepth 100000 in
set_option maxHeartbeats 8000000 in
theorem hunkText_any (w : World) (v : Value) (hs : List Hk) (h : HksIn w v hs) (hl : hs.length ≤ 100) (h2 : ∀ x ∈ hs, HkTwo x) (h3 : ∀ x ∈ hs, x.at_ ≤ 59 ∧ x.del ≤ 59 ∧ x.to_ ≤ 59 ∧ x.add ≤ 59) :
    Calls Tryd.prog 26 #[v] w fun e w' => e = .returned (.string (strL (textL hs))) ∧ Below w.heap.size w w' := by
  obtain ⟨A, c, rfl⟩ := h.form
  have hnm : c ≤ 9223372036854775807 := by have := h.len.2.2; unfold maxLen at this; omega
  have hnc := h.len.2.1
  have HH := Lib.hid h
  have H2 := Lib.hid h2
  have H3 := Lib.hid h3
  clear h h2 h3
  go_enter Tryd.func26, Tryd.ntmps26
  go_wp2_with fail
  go_loopw [3, 4] (fun s3 s4 wr => ∃ k : Nat, k ≤ hs.length ∧ s4 = .int .i64 k ∧ s3 = .string (strL (textL (hs.take k))) ∧ Hid (Below w.heap.size w wr)) (fun _ s4 _ => hs.length - (intOf s4).toNat)
  case atStart => exact ⟨0, Nat.zero_le _, rfl, rfl, Lib.hid (Below.refl _ _)⟩
  case round =>
    obtain ⟨k, hk, rfl, rfl, hB⟩ := hrel
    have k0 : (0 : Int) ≤ (k : Int) := Int.natCast_nonneg _
    by_cases hlt : k < hs.length
    · have k1 : (k : Int) < (hs.length : Int) := by omega
      obtain ⟨x, hx⟩ : ∃ x, hs[k]? = some x := ⟨_, List.getElem?_eq_getElem hlt⟩
      obtain ⟨ad, vl, rfl, c0, c1, c2, c3, c4, hrd⟩ := HH.out.at2 hB.out hx
      have hx2 := H2.out x (List.mem_of_getElem? hx)
      have hx3 := H3.out x (List.mem_of_getElem? hx)
      have hTL := textL_le (hs := hs.take k) (fun y hy => H2.out y (List.mem_of_mem_take hy))
      rw [List.length_take] at hTL
      have HTK := Lib.hid (show textL (hs.take (k + 1)) = textL (hs.take k) ++ (headL x ++ linesL x.ls) by rw [take_snocP hx]; unfold textL; rw [List.flatMap_append]; simp)
      have hll := hx2.l
      have hss := Lib.hid hx2.s
      obtain ⟨a1, _⟩ := hx2.a
      obtain ⟨d1, _⟩ := hx2.d
      obtain ⟨t1, _⟩ := hx2.t
      obtain ⟨f1, _⟩ := hx2.f
      obtain ⟨a2, d2, t2, f2⟩ := hx3
      obtain ⟨at_, del, to_, add, ls⟩ := x
      simp only at c0 c1 c2 c3 hrd hll hss a1 a2 d1 d2 t1 t2 f1 f2
      obtain ⟨a, rfl⟩ : ∃ a : Nat, at_ = (a : Int) := ⟨at_.toNat, by omega⟩
      obtain ⟨d, rfl⟩ : ∃ d : Nat, del = (d : Int) := ⟨del.toNat, by omega⟩
      obtain ⟨t, rfl⟩ : ∃ t : Nat, to_ = (t : Int) := ⟨to_.toNat, by omega⟩
      obtain ⟨f, rfl⟩ : ∃ f : Nat, add = (f : Int) := ⟨add.toNat, by omega⟩
      have a3 : a ≤ 59 := by omega
      have d3 : d ≤ 59 := by omega
      have t3 : t ≤ 59 := by omega
      have f3 : f ≤ 59 := by omega
      obtain ⟨Al, cl, rfl⟩ := hrd.form
      have HRD := Lib.hid hrd
      have hlc := hrd.len.2.1
      have hlm : cl ≤ 9223372036854775807 := by have := hrd.len.2.2; unfold maxLen at this; omega
      have hhd : headL ⟨(a : Int), (d : Int), (t : Int), (f : Int), ls⟩ = (headB a d t f).data.toList := by unfold headL; simp
      rw [hhd, head_dg a d t f a3 d3 t3 f3] at HTK
      simp only at HTK
      have DA := Lib.hid (fun W => decimal_59 a a3 W)
      have DD := Lib.hid (fun W => decimal_59 d d3 W)
      have DT := Lib.hid (fun W => decimal_59 t t3 W)
      have DF := Lib.hid (fun W => decimal_59 f f3 W)
      have y1 := dg_le a a3
      have y2 := dg_le d d3
      have y3 := dg_le t t3
      have y4 := dg_le f f3
      have hTL2 : (textL (hs.take k)).length ≤ 200000000 := by omega
      clear hTL
      generalize hT : textL (hs.take k) = T at *
      have z1 : (ByteArray.mk #[64, 64, 32, 45]).size = 4 := rfl
      have z2 : (ByteArray.mk #[44]).size = 1 := rfl
      have z3 : (ByteArray.mk #[32, 43]).size = 2 := rfl
      have z4 : (ByteArray.mk #[32, 64, 64, 10]).size = 4 := rfl
      obtain ⟨s0, es0⟩ : ∃ s0, s0 = strL T := ⟨_, rfl⟩
      have n0 : s0.size = T.length := by rw [es0, strL_size]
      obtain ⟨s1, e1, n1, p1⟩ := sum_namedP s0 ⟨#[64, 64, 32, 45]⟩ (by omega)
      obtain ⟨s2, e2, n2, p2⟩ := sum_namedP s1 (dg a) (by omega)
      obtain ⟨s3, e3, n3, p3⟩ := sum_namedP s2 ⟨#[44]⟩ (by omega)
      obtain ⟨s4, e4, n4, p4⟩ := sum_namedP s3 (dg d) (by omega)
      obtain ⟨s5, e5, n5, p5⟩ := sum_namedP s4 ⟨#[32, 43]⟩ (by omega)
      obtain ⟨s6, e6, n6, p6⟩ := sum_namedP s5 (dg t) (by omega)
      obtain ⟨s7, e7, n7, p7⟩ := sum_namedP s6 ⟨#[44]⟩ (by omega)
      obtain ⟨s8, e8, n8, p8⟩ := sum_namedP s7 (dg f) (by omega)
      obtain ⟨s9, e9, n9, p9⟩ := sum_namedP s8 ⟨#[32, 64, 64, 10]⟩ (by omega)
      obtain ⟨HD, hHD⟩ : ∃ HD, HD = [64, 64, 32, 45] ++ ((dg a).data.toList ++ ([44] ++ ((dg d).data.toList ++ ([32, 43] ++ ((dg t).data.toList ++ ([44] ++ ((dg f).data.toList ++ [32, 64, 64, 10]))))))) := ⟨_, rfl⟩
      rw [← hHD] at HTK
      have HS9 := Lib.hid (show s9 = strL (T ++ HD) by
        apply ext_data
        rw [e9, e8, e7, e6, e5, e4, e3, e2, e1, es0, hHD]
        simp [strL])
      have hHL : HD.length ≤ 20 := by
        have h := congrArg ByteArray.size HS9.out
        rw [strL_size, List.length_append] at h
        omega
      rw [← es0]
      have HES0 := Lib.hid es0
      have bA := hB.out.alloc hB.out.size (.cells #[.int .i64 (a : Int), .int .i64 (d : Int), .int .i64 (t : Int), .int .i64 (f : Int), .slice Al ls.length cl] 114)
      have BA := Lib.hid bA
      have KX := Lib.hid (Blk.new wr 114 #[.int .i64 (a : Int), .int .i64 (d : Int), .int .i64 (t : Int), .int .i64 (f : Int), .slice Al ls.length cl])
      clear hx hx2 hrd hhd hT bA hB es0 e1 e2 e3 e4 e5 e6 e7 e8 e9 n0 n1 n2 n3 n4 n5 n6 n7 n8 n9 y1 y2 y3 y4 z1 z2 z3 z4 a1 d1 t1 f1 a2 d2 t2 f2 hHD
      go_upto_region 6 with fail
      generalize hW : wr.alloc (.cells #[.int .i64 (a : Int), .int .i64 (d : Int), .int .i64 (t : Int), .int .i64 (f : Int), .slice Al ls.length cl] 114) = W at *
      generalize wr.heap.size = X at *
      clear hW c0 c1 c2 c3 c4
      have KXd : Hid (Blk W.drew X 114 #[.int .i64 (a : Int), .int .i64 (d : Int), .int .i64 (t : Int), .int .i64 (f : Int), .slice Al ls.length cl]) := Lib.hid KX.out
      have BAd : Hid (Below w.heap.size w W.drew) := Lib.hid BA.out.drew
      have ZZ := Lib.hid (fun (w' : World) (b : Below W.drew.heap.size W.drew w') => (show w'.cell? ⟨X, 0, none⟩ = some (.int .i64 (a : Int)) ∧ w'.cell? ⟨X, 1, none⟩ = some (.int .i64 (d : Int)) ∧ w'.cell? ⟨X, 2, none⟩ = some (.int .i64 (t : Int)) ∧ w'.cell? ⟨X, 3, none⟩ = some (.int .i64 (f : Int)) from by have k := KXd.out.below b KXd.out.lt; exact ⟨k.cell 0, k.cell 1, k.cell 2, k.cell 3⟩))
      have q0 := ZZ.out W.drew (Below.refl _ _)
      go_region_held3 (fun w' => w'.cell? ⟨X, 0, none⟩ = some (.int .i64 (a : Int)) ∧ w'.cell? ⟨X, 1, none⟩ = some (.int .i64 (d : Int)) ∧ w'.cell? ⟨X, 2, none⟩ = some (.int .i64 (t : Int)) ∧ w'.cell? ⟨X, 3, none⟩ = some (.int .i64 (f : Int))) (first | exact q0 | exact q1 | exact q2 | exact q3 | exact q4) (first
        | (go_at_call 54; (with_reducible refine (DF.out w3).mono ?_); rintro e w4 ⟨rfl, b4⟩; have B4 := B3.trans (b4.mono B3.size); have q4 := ZZ.out w4 B4)
        | (go_at_call 54; (with_reducible refine (DT.out w2).mono ?_); rintro e w3 ⟨rfl, b3⟩; have B3 := B2.trans (b3.mono B2.size); have q3 := ZZ.out w3 B3)
        | (go_at_call 54; (with_reducible refine (DD.out w1).mono ?_); rintro e w2 ⟨rfl, b2⟩; have B2 := B1.trans (b2.mono B1.size); have q2 := ZZ.out w2 B2)
        | (go_at_call 54; (with_reducible refine (DA.out W.drew).mono ?_); rintro e w1 ⟨rfl, b1⟩; have B1 := b1; have q1 := ZZ.out w1 B1))
      all_goals
        have BQ := Lib.hid (BAd.out.trans (B4.mono BAd.out.size))
        have KQ := Lib.hid (KXd.out.below B4 KXd.out.lt)
        clear B1 B2 B3 B4 b1 b2 b3 b4 q0 q1 q2 q3 q4 p1 p2 p3 p4 p5 p6 p7 p8 p9 ZZ KXd BAd KX BA
        go_wp2_with fail
        go_loopw [3, 6] (fun s3 s6 wy => ∃ j : Nat, j ≤ ls.length ∧ s6 = .int .i64 j ∧ s3 = .string (strL (T ++ HD ++ linesL (ls.take j))) ∧ Hid (Below w4.heap.size w4 wy)) (fun _ s6 _ => ls.length - (intOf s6).toNat)
        case atStart => exact ⟨0, Nat.zero_le _, rfl, by rw [HS9.out]; simp [linesL], Lib.hid (Below.refl _ _)⟩
        case round =>
          obtain ⟨j, hj, rfl, rfl, hB2⟩ := hrel
          have j0 : (0 : Int) ≤ (j : Int) := Int.natCast_nonneg _
          have x4 := (KQ.out.below hB2.out KQ.out.lt).cell 4
          have hBW := BQ.out.trans (hB2.out.mono BQ.out.size)
          by_cases hjl : j < ls.length
          · have j1 : (j : Int) < (ls.length : Int) := by omega
            obtain ⟨x, hx⟩ : ∃ x, ls[j]? = some x := ⟨_, List.getElem?_eq_getElem hjl⟩
            obtain ⟨ad2, rfl, c0, c1⟩ := Eds.at_ (HRD.out.below hBW) hx
            have hsx := hss.out x (List.mem_of_getElem? hx)
            have HTJ := Lib.hid (show linesL (ls.take (j + 1)) = linesL (ls.take j) ++ (lineB x).data.toList by rw [take_snocP hx]; unfold linesL; rw [List.flatMap_append]; simp)
            have hLJ := linesL_le (l := ls.take j) (fun y hy => hss.out y (List.mem_of_mem_take hy))
            rw [List.length_take] at hLJ
            obtain ⟨o, s⟩ := x
            simp only at hsx
            have hel := endB_le s
            have hLT0 : (T ++ HD ++ linesL (ls.take j)).length ≤ 300000000 := by rw [List.length_append, List.length_append]; omega
            obtain ⟨LT, hLT⟩ : ∃ LT, LT = T ++ HD ++ linesL (ls.take j) := ⟨_, rfl⟩
            rw [← hLT]
            rw [← hLT] at hLT0
            have HLT := Lib.hid hLT
            have EN := Lib.hid (ended_refP s wr (by omega))
            clear hx hLT hLJ hBW
            rcases op23 o with rfl | rfl | ⟨m2, m3, hM⟩
            · have hM : markP 2 = ⟨#[45]⟩ := rfl
              obtain ⟨o, ho⟩ : ∃ o : Int, o = 2 := ⟨_, rfl⟩
              rw [← ho] at hM c0 HTJ
              
              obtain ⟨s1', e1, n1, p1⟩ := sum_list LT (markP o) (by have := markP_le o; omega)
              have hm1 := markP_le o
              obtain ⟨s2', e2, n2, p2⟩ := sum_namedP s1' (endB s) (by omega)
              have HN := Lib.hid (show s2' = strL (LT ++ (lineB (o, s)).data.toList) by
                apply ext_data
                rw [e2, data_app, e1, line_end]
                simp [strL])
              rw [hM] at p1
              clear e1 e2 n1 n2 hM hm1
              subst ho
              go_wp2_with fail
              refine EN.out.mono ?_
              rintro e w' ⟨rfl, rfl⟩
              go_wp2_with fail
              go_roundw
              case rel => exact ⟨j + 1, by omega, by go_num, by rw [HN.out, HTJ.out, ← List.append_assoc, HLT.out], hB2⟩
              case measure => simp [intOf]; omega
            · have hM : markP 3 = ⟨#[43]⟩ := rfl
              obtain ⟨o, ho⟩ : ∃ o : Int, o = 3 := ⟨_, rfl⟩
              rw [← ho] at hM c0 HTJ
              
              obtain ⟨s1', e1, n1, p1⟩ := sum_list LT (markP o) (by have := markP_le o; omega)
              have hm1 := markP_le o
              obtain ⟨s2', e2, n2, p2⟩ := sum_namedP s1' (endB s) (by omega)
              have HN := Lib.hid (show s2' = strL (LT ++ (lineB (o, s)).data.toList) by
                apply ext_data
                rw [e2, data_app, e1, line_end]
                simp [strL])
              rw [hM] at p1
              clear e1 e2 n1 n2 hM hm1
              subst ho
              go_wp2_with fail
              refine EN.out.mono ?_
              rintro e w' ⟨rfl, rfl⟩
              go_wp2_with fail
              go_roundw
              case rel => exact ⟨j + 1, by omega, by go_num, by rw [HN.out, HTJ.out, ← List.append_assoc, HLT.out], hB2⟩
              case measure => simp [intOf]; omega
            · skip
              obtain ⟨s1', e1, n1, p1⟩ := sum_list LT (markP o) (by have := markP_le o; omega)
              have hm1 := markP_le o
              obtain ⟨s2', e2, n2, p2⟩ := sum_namedP s1' (endB s) (by omega)
              have HN := Lib.hid (show s2' = strL (LT ++ (lineB (o, s)).data.toList) by
                apply ext_data
                rw [e2, data_app, e1, line_end]
                simp [strL])
              rw [hM] at p1
              clear e1 e2 n1 n2 hM hm1
              skip
              go_wp2_with fail
              refine EN.out.mono ?_
              rintro e w' ⟨rfl, rfl⟩
              go_wp2_with fail
              go_roundw
              case rel => exact ⟨j + 1, by omega, by go_num, by rw [HN.out, HTJ.out, ← List.append_assoc, HLT.out], hB2⟩
              case measure => simp [intOf]; omega
          · obtain rfl : j = ls.length := by omega
            have HF : Hid (T ++ HD ++ linesL (ls.take ls.length) = textL (hs.take (k + 1))) := Lib.hid (by rw [List.take_length, HTK.out, List.append_assoc])
            have HBW := Lib.hid hBW
            clear hBW
            go_wp2_with fail
            go_roundw
            case rel => exact ⟨k + 1, by omega, by go_num, by rw [HF.out], HBW⟩
            case measure => simp [intOf]; omega
    · obtain rfl : k = hs.length := by omega
      have HF : Hid (hs.take hs.length = hs) := Lib.hid (by rw [List.take_length])
      go_wp2_with fail
      go_ret
      exact ⟨by rw [HF.out]; rfl, hB.out⟩
end Go.Proofs.YtdpoeagmeiedcaaDoor
