/-
  rectoref17.step: a line as a step.
-/
import Derived.Test.YtanjcjnkppnhcaaGreatDoorQAC

namespace Go.Proofs.YtanjcjnkppnhcaaGreatDoor
open Go Go.RowKit

def stepP (s : List UInt8) : Fl × Int :=
  if (wordP (wordP s).2).1 = [] then (flZero, 2)
  else if knownV (mkW (wordP s).1) = false then (flZero, 5)
  else if (numP (wordP (wordP s).2).1).2 = false ∨ (numP (wordP (wordP s).2).1).1 = 0 then (flZero, 1)
  else if (textP (mkW (wordP s).1) (wordP (wordP s).2).2).2 ≠ 0 then (flZero, (textP (mkW (wordP s).1) (wordP (wordP s).2).2).2)
  else ((mkW (wordP s).1, ((numP (wordP (wordP s).2).1).1 : Int), mkW (textP (mkW (wordP s).1) (wordP (wordP s).2).2).1), 0)
theorem lineP_step (s : List UInt8) : lineP s = if (wordP s).1 = [] ∨ (wordP s).1.head? = some 35 then (flZero, false, 0) else ((stepP s).1, decide ((stepP s).2 = 0), (stepP s).2) := by
  unfold lineP stepP
  split
  · rfl
  · split
    · rfl
    · split
      · rfl
      · split
        · rfl
        · split
          · rename_i h; simp [h]
          · rfl
theorem rest_form (l : List UInt8) : (wordP l).2 = [] ∨ ∃ t, (wordP l).2 = 32 :: t := by
  unfold wordP
  split
  · exact .inl rfl
  · rename_i hx
    obtain ⟨o, ho⟩ : ∃ o : Nat, Lib.indexByte (Lib.trimLeftB l 32) 32 = (o : Int) := ⟨(Lib.indexByte (Lib.trimLeftB l 32) 32).toNat, by omega⟩
    obtain ⟨h1, _⟩ := Lib.indexByte_some ho
    obtain ⟨hlt, he⟩ := List.getElem?_eq_some_iff.1 h1
    refine .inr ⟨(Lib.trimLeftB l 32).drop (o + 1), ?_⟩
    dsimp only
    rw [ho, Int.toNat_natCast, List.drop_eq_getElem_cons hlt, he]
theorem dropW_head {l : List UInt8} {x : UInt8} {t : List UInt8} (h : l.dropWhile (· == (32 : UInt8)) = x :: t) : x ≠ 32 := by
  induction l with
  | nil => simp at h
  | cons a l ih =>
    by_cases ha : a = 32
    · rw [List.dropWhile_cons_of_pos (by simpa using ha)] at h
      exact ih h
    · rw [List.dropWhile_cons_of_neg (by simpa using ha)] at h
      injection h with h _
      exact h ▸ ha
theorem dropW_nil {l : List UInt8} : l.dropWhile (· == (32 : UInt8)) = [] ↔ ∀ x ∈ l, x = 32 := by
  induction l with
  | nil => simp
  | cons a l ih =>
    by_cases ha : a = 32
    · rw [List.dropWhile_cons_of_pos (by simpa using ha), ih]
      simp [ha]
    · rw [List.dropWhile_cons_of_neg (by simpa using ha)]
      simp [ha]
theorem trimB_nil (l : List UInt8) : Lib.trimB l 32 = [] ↔ ∀ x ∈ l, x = 32 := by
  unfold Lib.trimB Lib.trimLeftB Lib.trimRightB
  rw [dropW_nil]
  constructor
  · intro h
    have : l.reverse.dropWhile (· == (32 : UInt8)) = [] := by
      cases hd : l.reverse.dropWhile (· == (32 : UInt8)) with
      | nil => rfl
      | cons a t => exact absurd (h a (by rw [hd]; simp)) (dropW_head hd)
    have h2 := dropW_nil.1 this
    exact fun x hx => h2 x (List.mem_reverse.2 hx)
  · intro h x hx
    exact h x (List.mem_reverse.1 ((List.dropWhile_sublist _).subset (List.mem_reverse.1 hx)))
theorem word_nil (l : List UInt8) : (wordP l).1 = [] ↔ Lib.trimB l 32 = [] := by
  rw [trimB_nil, ← dropW_nil]
  unfold wordP
  split
  · rfl
  · rename_i hx
    obtain ⟨o, ho⟩ : ∃ o : Nat, Lib.indexByte (Lib.trimLeftB l 32) 32 = (o : Int) := ⟨(Lib.indexByte (Lib.trimLeftB l 32) 32).toNat, by omega⟩
    obtain ⟨h1, _⟩ := Lib.indexByte_some ho
    dsimp only
    rw [ho, Int.toNat_natCast]
    unfold Lib.trimLeftB at h1 ⊢
    cases hd : l.dropWhile (· == (32 : UInt8)) with
    | nil => rw [hd] at h1; simp at h1
    | cons a t =>
      rw [hd] at h1
      cases o with
      | zero => exact absurd (by simpa using h1) (dropW_head hd)
      | succ o => simp
theorem results_cell_tmp1 {fn : Func} {p u : Tmp} {ty : TypeId} (h : fn.results = #[.cell p ty, .tmp u]) (tmps : Array Value) (P : Program) (w : World) :
    (results fn tmps).run P w =
      ((asAddr (tmps.getD p undef)).run P w).andThen fun a w1 => ((loadVar ty a).run P w1).andThen fun x w2 => .ok (.tuple #[x, tmps.getD u undef]) w2 := by
  simp only [results, h]
  simp [Sem.run_bind, Result.andThen]
theorem results_row_tmp1 {P : Program} {fn : Func} {p u : Tmp} {ty : TypeId} (h : fn.results = #[.cell p ty, .tmp u]) (tmps : Array Value) (w : World) (g : Nat) (t : TypeId) (cs : Array Value) (fr : Nat × Nat) (d : TypeDesc)
    (hp : tmps.getD p undef = .pointer (some ⟨g, 0, none⟩)) (hg : w.heap[g]? = some (.cells cs t fr))
    (hu : P.underlying ty = some d) (hd : (match d with | .struct _ | .array _ _ => true | _ => false) = true) (hi : (P.info? ty).map (·.size) = some cs.size) :
    (results fn tmps).run P w = .ok (.tuple #[.agg cs, tmps.getD u undef]) w := by
  rw [results_cell_tmp1 h, hp]
  simp [asAddr, run_loadVar_row w g t ty cs fr d hg hu hd hi, Result.andThen]
theorem rstepSize : (Tryz.prog.info? 81).map (·.size) = some 3 := by kernel_rfl
theorem row3r {w : World} {g : Nat} {cs : Array Value} (h : Blk w g 81 cs) (hs : cs.size = 3) (a b c : Value) : Blk (((w.setCell ⟨g, 0, none⟩ a).setCell ⟨g, 1, none⟩ b).setCell ⟨g, 2, none⟩ c) g 81 #[a, b, c] := by
  have := ((h.set_ 0 a).set_ 1 b).set_ 2 c
  match cs, hs with
  | ⟨[x, y, z]⟩, _ => simpa using this
def StepTo (o : Fl × Int) (w : World) (e : Ending) (w' : World) : Prop := e = .returned (.tuple #[.agg #[.string o.1.1, .int .i64 o.1.2.1, .string o.1.2.2], .int .i64 o.2]) ∧ Below w.heap.size w w'
set_option maxRecDepth 100000 in
set_option maxHeartbeats 4000000 in
theorem refStep_any (s : ByteArray) (w : World) (hs : s.size ≤ 9223372036854775807) : Calls Tryz.prog 39 #[.string s] w (StepTo (stepP s.data.toList) w) := by
  obtain ⟨v, hv⟩ : ∃ v, v = mkW (wordP s.data.toList).1 := ⟨_, rfl⟩
  obtain ⟨r, hr⟩ : ∃ r, r = mkW (wordP s.data.toList).2 := ⟨_, rfl⟩
  obtain ⟨m, hm⟩ : ∃ m, m = mkW (wordP r.data.toList).1 := ⟨_, rfl⟩
  obtain ⟨r2, hr2⟩ : ∃ z, z = mkW (wordP r.data.toList).2 := ⟨_, rfl⟩
  have ev : (wordP s.data.toList).1 = v.data.toList := by rw [hv, list_mkW]
  have er : (wordP s.data.toList).2 = r.data.toList := by rw [hr, list_mkW]
  have em : (wordP r.data.toList).1 = m.data.toList := by rw [hm, list_mkW]
  have er2 : (wordP r.data.toList).2 = r2.data.toList := by rw [hr2, list_mkW]
  have lr : r.size ≤ 9223372036854775807 := by have := (word_len s.data.toList).2; rw [er, size_listB, size_listB] at this; omega
  have lm : m.size ≤ 9223372036854775807 := by have := (word_len r.data.toList).1; rw [em, size_listB, size_listB] at this; omega
  have lr2 : r2.size ≤ 9223372036854775807 := by have := (word_len r.data.toList).2; rw [er2, size_listB, size_listB] at this; omega
  have RF := rest_form r.data.toList
  rw [er2] at RF
  have RF := Lib.hid RF
  have W1 := Lib.hid fun W => refWord_any s W hs
  have W2 := Lib.hid fun W => refWord_any r W lr
  rw [← hv, ← hr] at W1
  rw [← hm, ← hr2] at W2
  have KV := Lib.hid fun W => refVerb_any v W
  have NM := Lib.hid fun W => refNumber_any m W lm
  have BL := Lib.hid fun W => refBlank_any r2 W lr2
  obtain ⟨n, hn⟩ : ∃ n, n = numP m.data.toList := ⟨_, rfl⟩
  have HR := Lib.hid (show numR m.data.toList = if n.2 = true then (n.1 : Int) else -1 by rw [hn]; rfl)
  obtain ⟨x, hx⟩ : ∃ x, x = textP v r2.data.toList := ⟨_, rfl⟩
  have HL := Lib.hid (show stepP s.data.toList = if m.data.toList = [] then (flZero, 2) else if knownV v = false then (flZero, 5)
      else if n.2 = false ∨ n.1 = 0 then (flZero, 1) else if x.2 ≠ 0 then (flZero, x.2) else ((v, (n.1 : Int), mkW x.1), 0) by
    unfold stepP
    rw [er, ev, em, er2, mkW_list, ← hn, ← hx])
  have HX := Lib.hid hx
  have L2 := Lib.hid lr2
  clear hv hr hm hr2 ev er em er2 lr lm hn hx hs
  have G0 := Lib.hid (Blk.new w 81 #[.string ⟨#[]⟩, .int .i64 0, .string ⟨#[]⟩])
  have B1 := Lib.hid ((Below.refl w.heap.size w).alloc (Nat.le_refl _) (.cells #[.string ⟨#[]⟩, .int .i64 0, .string ⟨#[]⟩] 81))
  obtain ⟨g, hg⟩ : ∃ g, g = w.heap.size := ⟨_, rfl⟩
  have HG := Lib.hid hg
  rw [← hg] at G0
  go_enter Tryz.func39, Tryz.ntmps39
  go_wp2_with fail
  rw [← hg]
  clear hg
  refine (W1.out _).mono ?_
  rintro e w2 ⟨rfl, q, rfl⟩
  have X2 := Lib.hid (show Blk ((w.alloc (.cells #[.string ⟨#[]⟩, .int .i64 0, .string ⟨#[]⟩] 81)).drewN q) g 81 _ from G0.out)
  have B2 := Lib.hid (below_drewN B1.out q)
  clear G0 B1
  generalize (w.alloc (.cells #[.string ⟨#[]⟩, .int .i64 0, .string ⟨#[]⟩] 81)).drewN q = w2 at *
  go_wp2_with fail
  refine (W2.out _).mono ?_
  rintro e w3 ⟨rfl, q3, rfl⟩
  have X3 := Lib.hid (show Blk (w2.drewN q3) g 81 _ from X2.out)
  have B3 := Lib.hid (below_drewN B2.out q3)
  clear B2 W1 W2 X2
  generalize w2.drewN q3 = w3 at *
  by_cases h2 : m.data.toList = []
  · have HV := Lib.hid (show stepP s.data.toList = (flZero, 2) by rw [HL.out, if_pos h2])
    obtain rfl : m = ⟨#[]⟩ := bytesB_eq h2
    clear h2 HL
    have c0 := X3.out.cell 0
    have f0 := X3.out.frozen 0
    have c1 := X3.out.cell 1
    have f1 := X3.out.frozen 1
    have c2 := X3.out.cell 2
    have f2 := X3.out.frozen 2
    go_wp2
    exact bodyPost_ret (results_row_tmp1 (fn := Tryz.f39) rfl _ _ g 81 _ (0, 0) _ rfl (row3r X3.out rfl (.string ⟨#[]⟩) (.int .i64 0) (.string ⟨#[]⟩)) Tryz.underlying81 rfl rstepSize) rfl ⟨by rw [HV.out]; rfl, below3s B3.out (by rw [HG.out]; exact Nat.le_refl _) _ _ _⟩
  have HM := Lib.hid h2
  obtain ⟨n1, n2⟩ := not_nilB h2
  clear h2
  go_wp2_with fail
  clear n1 n2
  refine (KV.out _).mono ?_
  rintro e w4 ⟨z, rfl, hz, hz1, d4⟩
  have hgl : g < w3.heap.size := (Array.getElem?_eq_some_iff.1 X3.out).1
  have X4 := Lib.hid (X3.out.below d4 hgl)
  have B4 := Lib.hid (B3.out.trans (d4.mono B3.out.size))
  clear B3 d4 KV X3 hgl
  cases hk : knownV v with
  | false =>
    have HV := Lib.hid (show stepP s.data.toList = (flZero, 5) by rw [HL.out, if_neg HM.out, if_pos hk])
    have z1 : z < 0 := by rw [hk] at hz; exact of_decide_eq_true hz
    clear hk hz HL
    have c0 := X4.out.cell 0
    have f0 := X4.out.frozen 0
    have c1 := X4.out.cell 1
    have f1 := X4.out.frozen 1
    have c2 := X4.out.cell 2
    have f2 := X4.out.frozen 2
    go_wp2
    exact bodyPost_ret (results_row_tmp1 (fn := Tryz.f39) rfl _ _ g 81 _ (0, 0) _ rfl (row3r X4.out rfl (.string ⟨#[]⟩) (.int .i64 0) (.string ⟨#[]⟩)) Tryz.underlying81 rfl rstepSize) rfl ⟨by rw [HV.out]; rfl, below3s B4.out (by rw [HG.out]; exact Nat.le_refl _) _ _ _⟩
  | true =>
    have HK := Lib.hid (show ¬ knownV v = false by rw [hk]; simp)
    have z1 : ¬ z < 0 := by rw [hk] at hz; exact of_decide_eq_false hz
    clear hk hz
    go_wp2_with fail
    clear z1 hz1
    refine (NM.out _).mono ?_
    rintro e w5 ⟨rfl, rfl⟩
    rw [HR.out]
    clear NM
    by_cases hb : n.2 = false ∨ n.1 = 0
    · have HV := Lib.hid (show stepP s.data.toList = (flZero, 1) by rw [HL.out, if_neg HM.out, if_neg HK.out, if_pos hb])
      have z1 : (if n.2 = true then (n.1 : Int) else -1) < 1 := by
        rcases hb with h | h
        · rw [h, if_neg (by simp)]; decide
        · rw [h]; split <;> decide
      clear hb HL
      generalize (if n.2 = true then (n.1 : Int) else -1) = z at *
      have c0 := X4.out.cell 0
      have f0 := X4.out.frozen 0
      have c1 := X4.out.cell 1
      have f1 := X4.out.frozen 1
      have c2 := X4.out.cell 2
      have f2 := X4.out.frozen 2
      go_wp2
      exact bodyPost_ret (results_row_tmp1 (fn := Tryz.f39) rfl _ _ g 81 _ (0, 0) _ rfl (row3r X4.out rfl (.string ⟨#[]⟩) (.int .i64 0) (.string ⟨#[]⟩)) Tryz.underlying81 rfl rstepSize) rfl ⟨by rw [HV.out]; rfl, below3s B4.out (by rw [HG.out]; exact Nat.le_refl _) _ _ _⟩
    have HBn := Lib.hid hb
    have z1 : ¬ (n.1 : Int) < 1 := fun h => hb (.inr (by omega))
    rw [if_pos (by cases hq : n.2 with | true => rfl | false => exact absurd (.inl hq) hb)]
    clear hb HR
    have HS := Lib.hid (show stepP s.data.toList = if x.2 ≠ 0 then (flZero, x.2) else ((v, (n.1 : Int), mkW x.1), 0) by rw [HL.out, if_neg HM.out, if_neg HK.out, if_neg HBn.out])
    clear HL HM HK HBn
    have r0 : (0 : Int) ≤ (r2.size : Int) := Int.natCast_nonneg _
    have r9 : (r2.size : Int) ≤ 9223372036854775807 := by have := L2.out; omega
    cases hr : (v.toList == [114, 101, 119, 111, 114, 100]) with
    | false =>
      have hxf : ((wordP r2.data.toList).1 = [] → x = ([], 0)) ∧ (¬ (wordP r2.data.toList).1 = [] → x = ([], 2)) := by
        rw [HX.out, word_nil]
        unfold textP
        rw [if_pos hr]
        exact ⟨fun h => if_pos h, fun h => if_neg h⟩
      have HXF := Lib.hid hxf
      clear hxf
      go_wp2_with fail
      refine (BL.out _).mono ?_
      rintro e w6 ⟨rfl, q5, rfl⟩
      have X5 := Lib.hid (show Blk (w5.drewN q5) g 81 _ from X4.out)
      have B5 := Lib.hid (below_drewN B4.out q5)
      generalize w5.drewN q5 = w6 at *
      clear X4 B4 BL
      by_cases hb : (wordP r2.data.toList).1 = []
      · have HV := Lib.hid (show stepP s.data.toList = ((v, (n.1 : Int), ⟨#[]⟩), 0) by rw [HS.out, HXF.out.1 hb, if_neg (by simp)]; rfl)
        rw [show decide ((wordP r2.data.toList).1 = []) = true from decide_eq_true hb]
        clear hb
        have c0 := X5.out.cell 0
        have f0 := X5.out.frozen 0
        have c1 := X5.out.cell 1
        have f1 := X5.out.frozen 1
        have c2 := X5.out.cell 2
        have f2 := X5.out.frozen 2
        go_wp2
        exact bodyPost_ret (results_row_tmp1 (fn := Tryz.f39) rfl _ _ g 81 _ (0, 0) _ rfl (row3r X5.out rfl (.string v) (.int .i64 (n.1 : Int)) (.string ⟨#[]⟩)) Tryz.underlying81 rfl rstepSize) rfl ⟨by rw [HV.out]; rfl, below3s B5.out (by rw [HG.out]; exact Nat.le_refl _) _ _ _⟩
      · have HV := Lib.hid (show stepP s.data.toList = (flZero, 2) by rw [HS.out, HXF.out.2 hb, if_pos (by simp)])
        rw [show decide ((wordP r2.data.toList).1 = []) = false from decide_eq_false hb]
        clear hb
        have c0 := X5.out.cell 0
        have f0 := X5.out.frozen 0
        have c1 := X5.out.cell 1
        have f1 := X5.out.frozen 1
        have c2 := X5.out.cell 2
        have f2 := X5.out.frozen 2
        go_wp2
        exact bodyPost_ret (results_row_tmp1 (fn := Tryz.f39) rfl _ _ g 81 _ (0, 0) _ rfl (row3r X5.out rfl (.string ⟨#[]⟩) (.int .i64 0) (.string ⟨#[]⟩)) Tryz.underlying81 rfl rstepSize) rfl ⟨by rw [HV.out]; rfl, below3s B5.out (by rw [HG.out]; exact Nat.le_refl _) _ _ _⟩
    | true =>
      have hxf : x = if Lib.trimPrefix r2.data.toList [32] = [] then ([], 2) else if 256 < (Lib.trimPrefix r2.data.toList [32]).length then ([], 4) else (Lib.trimPrefix r2.data.toList [32], 0) := by rw [HX.out]; unfold textP; rw [if_neg (by rw [hr]; simp)]
      have HXF := Lib.hid hxf
      clear hxf BL
      rcases RF.out with hn | ⟨t, ht⟩
      · have hx0 : x = ([], 2) := by rw [HXF.out, hn]; rfl
        have HV := Lib.hid (show stepP s.data.toList = (flZero, 2) by rw [HS.out, hx0, if_pos (by simp)])
        clear hx0
        obtain rfl : r2 = ⟨#[]⟩ := bytesB_eq (by rw [hn])
        clear hn r0 r9
        have c0 := X4.out.cell 0
        have f0 := X4.out.frozen 0
        have c1 := X4.out.cell 1
        have f1 := X4.out.frozen 1
        have c2 := X4.out.cell 2
        have f2 := X4.out.frozen 2
        go_wp2
        exact bodyPost_ret (results_row_tmp1 (fn := Tryz.f39) rfl _ _ g 81 _ (0, 0) _ rfl (row3r X4.out rfl (.string ⟨#[]⟩) (.int .i64 0) (.string ⟨#[]⟩)) Tryz.underlying81 rfl rstepSize) rfl ⟨by rw [HV.out]; rfl, below3s B4.out (by rw [HG.out]; exact Nat.le_refl _) _ _ _⟩
      · have hp : Lib.trimPrefix r2.data.toList [32] = t := by rw [ht]; rfl
        have hsz : r2.size = t.length + 1 := by rw [← size_listB, ht, List.length_cons]
        rw [hp] at HXF
        by_cases htn : t = []
        · have HV := Lib.hid (show stepP s.data.toList = (flZero, 2) by rw [HS.out, HXF.out, if_pos htn, if_pos (by simp)])
          have s1 : (r2.size : Int) < 2 := by rw [hsz, htn]; decide
          clear hp hsz htn ht
          have c0 := X4.out.cell 0
          have f0 := X4.out.frozen 0
          have c1 := X4.out.cell 1
          have f1 := X4.out.frozen 1
          have c2 := X4.out.cell 2
          have f2 := X4.out.frozen 2
          go_wp2
          exact bodyPost_ret (results_row_tmp1 (fn := Tryz.f39) rfl _ _ g 81 _ (0, 0) _ rfl (row3r X4.out rfl (.string ⟨#[]⟩) (.int .i64 0) (.string ⟨#[]⟩)) Tryz.underlying81 rfl rstepSize) rfl ⟨by rw [HV.out]; rfl, below3s B4.out (by rw [HG.out]; exact Nat.le_refl _) _ _ _⟩
        have htl : 0 < t.length := List.length_pos_iff.2 htn
        have s1 : ¬ (r2.size : Int) < 2 := by omega
        have s1' : (2 : Int) ≤ (r2.size : Int) := by omega
        by_cases h256 : 256 < t.length
        · have HV := Lib.hid (show stepP s.data.toList = (flZero, 4) by rw [HS.out, HXF.out, if_neg htn, if_pos h256, if_pos (by simp)])
          have s2 : (256 : Int) < (r2.size : Int) - 1 := by omega
          clear hp hsz htn ht htl h256
          have c0 := X4.out.cell 0
          have f0 := X4.out.frozen 0
          have c1 := X4.out.cell 1
          have f1 := X4.out.frozen 1
          have c2 := X4.out.cell 2
          have f2 := X4.out.frozen 2
          go_wp2
          exact bodyPost_ret (results_row_tmp1 (fn := Tryz.f39) rfl _ _ g 81 _ (0, 0) _ rfl (row3r X4.out rfl (.string ⟨#[]⟩) (.int .i64 0) (.string ⟨#[]⟩)) Tryz.underlying81 rfl rstepSize) rfl ⟨by rw [HV.out]; rfl, below3s B4.out (by rw [HG.out]; exact Nat.le_refl _) _ _ _⟩
        · have HV := Lib.hid (show stepP s.data.toList = ((v, (n.1 : Int), r2.extract 1 r2.size), 0) by
            rw [HS.out, HXF.out, if_neg htn, if_neg h256, if_neg (by simp), extract_mkW, ← size_listB, List.take_length, ht]; rfl)
          have s2 : ¬ (256 : Int) < (r2.size : Int) - 1 := by omega
          clear hp hsz htn ht htl h256
          have c0 := X4.out.cell 0
          have f0 := X4.out.frozen 0
          have c1 := X4.out.cell 1
          have f1 := X4.out.frozen 1
          have c2 := X4.out.cell 2
          have f2 := X4.out.frozen 2
          go_wp2
          exact bodyPost_ret (results_row_tmp1 (fn := Tryz.f39) rfl _ _ g 81 _ (0, 0) _ rfl (row3r X4.out rfl (.string v) (.int .i64 (n.1 : Int)) (.string (r2.extract 1 r2.size))) Tryz.underlying81 rfl rstepSize) rfl ⟨by rw [HV.out]; rfl, below3s B4.out (by rw [HG.out]; exact Nat.le_refl _) _ _ _⟩
end Go.Proofs.YtanjcjnkppnhcaaGreatDoor
