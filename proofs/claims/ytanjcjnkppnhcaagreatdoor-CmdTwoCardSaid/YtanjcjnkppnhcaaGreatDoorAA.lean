/-
  rectoref17.step: a line as a step.
  lines of a text: cut at each end of line.
  todo.Parse: any text as steps, or the first line that is none.
  todo: what is wrong with a step over commits.
  todo.Check: steps over commits, or the first that can not be done.
  todo.Plain, rectoref17.Plain: the picks that bring what one commit has beyond another.
  rectolaw21.Same: steps that are the document's.
-/
import Derived.Test.YtanjcjnkppnhcaaGreatDoorTdE
import Derived.Test.YtanjcjnkppnhcaaGreatDoorTdQ
import Derived.Lib.Split
import Derived.Lib.IndexBytes
import Derived.Lib.IndexLaws
import Derived.Test.YtanjcjnkppnhcaaGreatDoorGrGBases
import Derived.Test.YtanjcjnkppnhcaaGreatDoorGrGRefs

namespace Go.Proofs.YtanjcjnkppnhcaaGreatDoor
open Go Go.RowKit

def stepP (s : List UInt8) : Fl × Int :=
  if (wordP (wordP s).2).1 = [] then (flZero, 2)
  else if knownV (mkW (wordP s).1) = false then (flZero, 5)
  else if (numP (wordP (wordP s).2).1).2 = false ∨ (numP (wordP (wordP s).2).1).1 = 0 then (flZero, 1)
  else if (textP (mkW (wordP s).1) (wordP (wordP s).2).2).2 ≠ 0 then (flZero, (textP (mkW (wordP s).1) (wordP (wordP s).2).2).2)
  else ((mkW (wordP s).1, ((numP (wordP (wordP s).2).1).1 : Int), mkW (textP (mkW (wordP s).1) (wordP (wordP s).2).2).1), 0)
theorem lineP_step (s : List UInt8) : lineP s = if (wordP s).1 = [] ∨ (wordP s).1.head? = some 35 then (flZero, false, 0) else ((stepP s).1, decide ((stepP s).2 = 0), (stepP s).2) := by
  unfold lineP stepP
  split
  · rfl
  · split
    · rfl
    · split
      · rfl
      · split
        · rfl
        · split
          · rename_i h; simp [h]
          · rfl
theorem rest_form (l : List UInt8) : (wordP l).2 = [] ∨ ∃ t, (wordP l).2 = 32 :: t := by
  unfold wordP
  split
  · exact .inl rfl
  · rename_i hx
    obtain ⟨o, ho⟩ : ∃ o : Nat, Lib.indexByte (Lib.trimLeftB l 32) 32 = (o : Int) := ⟨(Lib.indexByte (Lib.trimLeftB l 32) 32).toNat, by omega⟩
    obtain ⟨h1, _⟩ := Lib.indexByte_some ho
    obtain ⟨hlt, he⟩ := List.getElem?_eq_some_iff.1 h1
    refine .inr ⟨(Lib.trimLeftB l 32).drop (o + 1), ?_⟩
    dsimp only
    rw [ho, Int.toNat_natCast, List.drop_eq_getElem_cons hlt, he]
theorem dropW_head {l : List UInt8} {x : UInt8} {t : List UInt8} (h : l.dropWhile (· == (32 : UInt8)) = x :: t) : x ≠ 32 := by
  induction l with
  | nil => simp at h
  | cons a l ih =>
    by_cases ha : a = 32
    · rw [List.dropWhile_cons_of_pos (by simpa using ha)] at h
      exact ih h
    · rw [List.dropWhile_cons_of_neg (by simpa using ha)] at h
      injection h with h _
      exact h ▸ ha
theorem dropW_nil {l : List UInt8} : l.dropWhile (· == (32 : UInt8)) = [] ↔ ∀ x ∈ l, x = 32 := by
  induction l with
  | nil => simp
  | cons a l ih =>
    by_cases ha : a = 32
    · rw [List.dropWhile_cons_of_pos (by simpa using ha), ih]
      simp [ha]
    · rw [List.dropWhile_cons_of_neg (by simpa using ha)]
      simp [ha]
theorem trimB_nil (l : List UInt8) : Lib.trimB l 32 = [] ↔ ∀ x ∈ l, x = 32 := by
  unfold Lib.trimB Lib.trimLeftB Lib.trimRightB
  rw [dropW_nil]
  constructor
  · intro h
    have : l.reverse.dropWhile (· == (32 : UInt8)) = [] := by
      cases hd : l.reverse.dropWhile (· == (32 : UInt8)) with
      | nil => rfl
      | cons a t => exact absurd (h a (by rw [hd]; simp)) (dropW_head hd)
    have h2 := dropW_nil.1 this
    exact fun x hx => h2 x (List.mem_reverse.2 hx)
  · intro h x hx
    exact h x (List.mem_reverse.1 ((List.dropWhile_sublist _).subset (List.mem_reverse.1 hx)))
theorem word_nil (l : List UInt8) : (wordP l).1 = [] ↔ Lib.trimB l 32 = [] := by
  rw [trimB_nil, ← dropW_nil]
  unfold wordP
  split
  · rfl
  · rename_i hx
    obtain ⟨o, ho⟩ : ∃ o : Nat, Lib.indexByte (Lib.trimLeftB l 32) 32 = (o : Int) := ⟨(Lib.indexByte (Lib.trimLeftB l 32) 32).toNat, by omega⟩
    obtain ⟨h1, _⟩ := Lib.indexByte_some ho
    dsimp only
    rw [ho, Int.toNat_natCast]
    unfold Lib.trimLeftB at h1 ⊢
    cases hd : l.dropWhile (· == (32 : UInt8)) with
    | nil => rw [hd] at h1; simp at h1
    | cons a t =>
      rw [hd] at h1
      cases o with
      | zero => exact absurd (by simpa using h1) (dropW_head hd)
      | succ o => simp
theorem results_cell_tmp1 {fn : Func} {p u : Tmp} {ty : TypeId} (h : fn.results = #[.cell p ty, .tmp u]) (tmps : Array Value) (P : Program) (w : World) :
    (results fn tmps).run P w =
      ((asAddr (tmps.getD p undef)).run P w).andThen fun a w1 => ((loadVar ty a).run P w1).andThen fun x w2 => .ok (.tuple #[x, tmps.getD u undef]) w2 := by
  simp only [results, h]
  simp [Sem.run_bind, Result.andThen]
theorem results_row_tmp1 {P : Program} {fn : Func} {p u : Tmp} {ty : TypeId} (h : fn.results = #[.cell p ty, .tmp u]) (tmps : Array Value) (w : World) (g : Nat) (t : TypeId) (cs : Array Value) (fr : Nat × Nat) (d : TypeDesc)
    (hp : tmps.getD p undef = .pointer (some ⟨g, 0, none⟩)) (hg : w.heap[g]? = some (.cells cs t fr))
    (hu : P.underlying ty = some d) (hd : (match d with | .struct _ | .array _ _ => true | _ => false) = true) (hi : (P.info? ty).map (·.size) = some cs.size) :
    (results fn tmps).run P w = .ok (.tuple #[.agg cs, tmps.getD u undef]) w := by
  rw [results_cell_tmp1 h, hp]
  simp [asAddr, run_loadVar_row w g t ty cs fr d hg hu hd hi, Result.andThen]
theorem rstepSize : (Tryz.prog.info? 81).map (·.size) = some 3 := by kernel_rfl
theorem row3r {w : World} {g : Nat} {cs : Array Value} (h : Blk w g 81 cs) (hs : cs.size = 3) (a b c : Value) : Blk (((w.setCell ⟨g, 0, none⟩ a).setCell ⟨g, 1, none⟩ b).setCell ⟨g, 2, none⟩ c) g 81 #[a, b, c] := by
  have := ((h.set_ 0 a).set_ 1 b).set_ 2 c
  match cs, hs with
  | ⟨[x, y, z]⟩, _ => simpa using this
def StepTo (o : Fl × Int) (w : World) (e : Ending) (w' : World) : Prop := e = .returned (.tuple #[.agg #[.string o.1.1, .int .i64 o.1.2.1, .string o.1.2.2], .int .i64 o.2]) ∧ Below w.heap.size w w'
set_option maxRecDepth 100000 in
set_option maxHeartbeats 4000000 in
theorem refStep_any (s : ByteArray) (w : World) (hs : s.size ≤ 9223372036854775807) : Calls Tryz.prog 39 #[.string s] w (StepTo (stepP s.data.toList) w) := by
  obtain ⟨v, hv⟩ : ∃ v, v = mkW (wordP s.data.toList).1 := ⟨_, rfl⟩
  obtain ⟨r, hr⟩ : ∃ r, r = mkW (wordP s.data.toList).2 := ⟨_, rfl⟩
  obtain ⟨m, hm⟩ : ∃ m, m = mkW (wordP r.data.toList).1 := ⟨_, rfl⟩
  obtain ⟨r2, hr2⟩ : ∃ z, z = mkW (wordP r.data.toList).2 := ⟨_, rfl⟩
  have ev : (wordP s.data.toList).1 = v.data.toList := by rw [hv, list_mkW]
  have er : (wordP s.data.toList).2 = r.data.toList := by rw [hr, list_mkW]
  have em : (wordP r.data.toList).1 = m.data.toList := by rw [hm, list_mkW]
  have er2 : (wordP r.data.toList).2 = r2.data.toList := by rw [hr2, list_mkW]
  have lr : r.size ≤ 9223372036854775807 := by have := (word_len s.data.toList).2; rw [er, size_listB, size_listB] at this; omega
  have lm : m.size ≤ 9223372036854775807 := by have := (word_len r.data.toList).1; rw [em, size_listB, size_listB] at this; omega
  have lr2 : r2.size ≤ 9223372036854775807 := by have := (word_len r.data.toList).2; rw [er2, size_listB, size_listB] at this; omega
  have RF := rest_form r.data.toList
  rw [er2] at RF
  have RF := Lib.hid RF
  have W1 := Lib.hid fun W => refWord_any s W hs
  have W2 := Lib.hid fun W => refWord_any r W lr
  rw [← hv, ← hr] at W1
  rw [← hm, ← hr2] at W2
  have KV := Lib.hid fun W => refVerb_any v W
  have NM := Lib.hid fun W => refNumber_any m W lm
  have BL := Lib.hid fun W => refBlank_any r2 W lr2
  obtain ⟨n, hn⟩ : ∃ n, n = numP m.data.toList := ⟨_, rfl⟩
  have HR := Lib.hid (show numR m.data.toList = if n.2 = true then (n.1 : Int) else -1 by rw [hn]; rfl)
  obtain ⟨x, hx⟩ : ∃ x, x = textP v r2.data.toList := ⟨_, rfl⟩
  have HL := Lib.hid (show stepP s.data.toList = if m.data.toList = [] then (flZero, 2) else if knownV v = false then (flZero, 5)
      else if n.2 = false ∨ n.1 = 0 then (flZero, 1) else if x.2 ≠ 0 then (flZero, x.2) else ((v, (n.1 : Int), mkW x.1), 0) by
    unfold stepP
    rw [er, ev, em, er2, mkW_list, ← hn, ← hx])
  have HX := Lib.hid hx
  have L2 := Lib.hid lr2
  clear hv hr hm hr2 ev er em er2 lr lm hn hx hs
  have G0 := Lib.hid (Blk.new w 81 #[.string ⟨#[]⟩, .int .i64 0, .string ⟨#[]⟩])
  have B1 := Lib.hid ((Below.refl w.heap.size w).alloc (Nat.le_refl _) (.cells #[.string ⟨#[]⟩, .int .i64 0, .string ⟨#[]⟩] 81))
  obtain ⟨g, hg⟩ : ∃ g, g = w.heap.size := ⟨_, rfl⟩
  have HG := Lib.hid hg
  rw [← hg] at G0
  go_enter Tryz.func39, Tryz.ntmps39
  go_wp2_with fail
  rw [← hg]
  clear hg
  refine (W1.out _).mono ?_
  rintro e w2 ⟨rfl, q, rfl⟩
  have X2 := Lib.hid (show Blk ((w.alloc (.cells #[.string ⟨#[]⟩, .int .i64 0, .string ⟨#[]⟩] 81)).drewN q) g 81 _ from G0.out)
  have B2 := Lib.hid (below_drewN B1.out q)
  clear G0 B1
  generalize (w.alloc (.cells #[.string ⟨#[]⟩, .int .i64 0, .string ⟨#[]⟩] 81)).drewN q = w2 at *
  go_wp2_with fail
  refine (W2.out _).mono ?_
  rintro e w3 ⟨rfl, q3, rfl⟩
  have X3 := Lib.hid (show Blk (w2.drewN q3) g 81 _ from X2.out)
  have B3 := Lib.hid (below_drewN B2.out q3)
  clear B2 W1 W2 X2
  generalize w2.drewN q3 = w3 at *
  by_cases h2 : m.data.toList = []
  · have HV := Lib.hid (show stepP s.data.toList = (flZero, 2) by rw [HL.out, if_pos h2])
    obtain rfl : m = ⟨#[]⟩ := bytesB_eq h2
    clear h2 HL
    have c0 := X3.out.cell 0
    have f0 := X3.out.frozen 0
    have c1 := X3.out.cell 1
    have f1 := X3.out.frozen 1
    have c2 := X3.out.cell 2
    have f2 := X3.out.frozen 2
    go_wp2
    exact bodyPost_ret (results_row_tmp1 (fn := Tryz.f39) rfl _ _ g 81 _ (0, 0) _ rfl (row3r X3.out rfl (.string ⟨#[]⟩) (.int .i64 0) (.string ⟨#[]⟩)) Tryz.underlying81 rfl rstepSize) rfl ⟨by rw [HV.out]; rfl, below3s B3.out (by rw [HG.out]; exact Nat.le_refl _) _ _ _⟩
  have HM := Lib.hid h2
  obtain ⟨n1, n2⟩ := not_nilB h2
  clear h2
  go_wp2_with fail
  clear n1 n2
  refine (KV.out _).mono ?_
  rintro e w4 ⟨z, rfl, hz, hz1, d4⟩
  have hgl : g < w3.heap.size := (Array.getElem?_eq_some_iff.1 X3.out).1
  have X4 := Lib.hid (X3.out.below d4 hgl)
  have B4 := Lib.hid (B3.out.trans (d4.mono B3.out.size))
  clear B3 d4 KV X3 hgl
  cases hk : knownV v with
  | false =>
    have HV := Lib.hid (show stepP s.data.toList = (flZero, 5) by rw [HL.out, if_neg HM.out, if_pos hk])
    have z1 : z < 0 := by rw [hk] at hz; exact of_decide_eq_true hz
    clear hk hz HL
    have c0 := X4.out.cell 0
    have f0 := X4.out.frozen 0
    have c1 := X4.out.cell 1
    have f1 := X4.out.frozen 1
    have c2 := X4.out.cell 2
    have f2 := X4.out.frozen 2
    go_wp2
    exact bodyPost_ret (results_row_tmp1 (fn := Tryz.f39) rfl _ _ g 81 _ (0, 0) _ rfl (row3r X4.out rfl (.string ⟨#[]⟩) (.int .i64 0) (.string ⟨#[]⟩)) Tryz.underlying81 rfl rstepSize) rfl ⟨by rw [HV.out]; rfl, below3s B4.out (by rw [HG.out]; exact Nat.le_refl _) _ _ _⟩
  | true =>
    have HK := Lib.hid (show ¬ knownV v = false by rw [hk]; simp)
    have z1 : ¬ z < 0 := by rw [hk] at hz; exact of_decide_eq_false hz
    clear hk hz
    go_wp2_with fail
    clear z1 hz1
    refine (NM.out _).mono ?_
    rintro e w5 ⟨rfl, rfl⟩
    rw [HR.out]
    clear NM
    by_cases hb : n.2 = false ∨ n.1 = 0
    · have HV := Lib.hid (show stepP s.data.toList = (flZero, 1) by rw [HL.out, if_neg HM.out, if_neg HK.out, if_pos hb])
      have z1 : (if n.2 = true then (n.1 : Int) else -1) < 1 := by
        rcases hb with h | h
        · rw [h, if_neg (by simp)]; decide
        · rw [h]; split <;> decide
      clear hb HL
      generalize (if n.2 = true then (n.1 : Int) else -1) = z at *
      have c0 := X4.out.cell 0
      have f0 := X4.out.frozen 0
      have c1 := X4.out.cell 1
      have f1 := X4.out.frozen 1
      have c2 := X4.out.cell 2
      have f2 := X4.out.frozen 2
      go_wp2
      exact bodyPost_ret (results_row_tmp1 (fn := Tryz.f39) rfl _ _ g 81 _ (0, 0) _ rfl (row3r X4.out rfl (.string ⟨#[]⟩) (.int .i64 0) (.string ⟨#[]⟩)) Tryz.underlying81 rfl rstepSize) rfl ⟨by rw [HV.out]; rfl, below3s B4.out (by rw [HG.out]; exact Nat.le_refl _) _ _ _⟩
    have HBn := Lib.hid hb
    have z1 : ¬ (n.1 : Int) < 1 := fun h => hb (.inr (by omega))
    rw [if_pos (by cases hq : n.2 with | true => rfl | false => exact absurd (.inl hq) hb)]
    clear hb HR
    have HS := Lib.hid (show stepP s.data.toList = if x.2 ≠ 0 then (flZero, x.2) else ((v, (n.1 : Int), mkW x.1), 0) by rw [HL.out, if_neg HM.out, if_neg HK.out, if_neg HBn.out])
    clear HL HM HK HBn
    have r0 : (0 : Int) ≤ (r2.size : Int) := Int.natCast_nonneg _
    have r9 : (r2.size : Int) ≤ 9223372036854775807 := by have := L2.out; omega
    cases hr : (v.toList == [114, 101, 119, 111, 114, 100]) with
    | false =>
      have hxf : ((wordP r2.data.toList).1 = [] → x = ([], 0)) ∧ (¬ (wordP r2.data.toList).1 = [] → x = ([], 2)) := by
        rw [HX.out, word_nil]
        unfold textP
        rw [if_pos hr]
        exact ⟨fun h => if_pos h, fun h => if_neg h⟩
      have HXF := Lib.hid hxf
      clear hxf
      go_wp2_with fail
      refine (BL.out _).mono ?_
      rintro e w6 ⟨rfl, q5, rfl⟩
      have X5 := Lib.hid (show Blk (w5.drewN q5) g 81 _ from X4.out)
      have B5 := Lib.hid (below_drewN B4.out q5)
      generalize w5.drewN q5 = w6 at *
      clear X4 B4 BL
      by_cases hb : (wordP r2.data.toList).1 = []
      · have HV := Lib.hid (show stepP s.data.toList = ((v, (n.1 : Int), ⟨#[]⟩), 0) by rw [HS.out, HXF.out.1 hb, if_neg (by simp)]; rfl)
        rw [show decide ((wordP r2.data.toList).1 = []) = true from decide_eq_true hb]
        clear hb
        have c0 := X5.out.cell 0
        have f0 := X5.out.frozen 0
        have c1 := X5.out.cell 1
        have f1 := X5.out.frozen 1
        have c2 := X5.out.cell 2
        have f2 := X5.out.frozen 2
        go_wp2
        exact bodyPost_ret (results_row_tmp1 (fn := Tryz.f39) rfl _ _ g 81 _ (0, 0) _ rfl (row3r X5.out rfl (.string v) (.int .i64 (n.1 : Int)) (.string ⟨#[]⟩)) Tryz.underlying81 rfl rstepSize) rfl ⟨by rw [HV.out]; rfl, below3s B5.out (by rw [HG.out]; exact Nat.le_refl _) _ _ _⟩
      · have HV := Lib.hid (show stepP s.data.toList = (flZero, 2) by rw [HS.out, HXF.out.2 hb, if_pos (by simp)])
        rw [show decide ((wordP r2.data.toList).1 = []) = false from decide_eq_false hb]
        clear hb
        have c0 := X5.out.cell 0
        have f0 := X5.out.frozen 0
        have c1 := X5.out.cell 1
        have f1 := X5.out.frozen 1
        have c2 := X5.out.cell 2
        have f2 := X5.out.frozen 2
        go_wp2
        exact bodyPost_ret (results_row_tmp1 (fn := Tryz.f39) rfl _ _ g 81 _ (0, 0) _ rfl (row3r X5.out rfl (.string ⟨#[]⟩) (.int .i64 0) (.string ⟨#[]⟩)) Tryz.underlying81 rfl rstepSize) rfl ⟨by rw [HV.out]; rfl, below3s B5.out (by rw [HG.out]; exact Nat.le_refl _) _ _ _⟩
    | true =>
      have hxf : x = if Lib.trimPrefix r2.data.toList [32] = [] then ([], 2) else if 256 < (Lib.trimPrefix r2.data.toList [32]).length then ([], 4) else (Lib.trimPrefix r2.data.toList [32], 0) := by rw [HX.out]; unfold textP; rw [if_neg (by rw [hr]; simp)]
      have HXF := Lib.hid hxf
      clear hxf BL
      rcases RF.out with hn | ⟨t, ht⟩
      · have hx0 : x = ([], 2) := by rw [HXF.out, hn]; rfl
        have HV := Lib.hid (show stepP s.data.toList = (flZero, 2) by rw [HS.out, hx0, if_pos (by simp)])
        clear hx0
        obtain rfl : r2 = ⟨#[]⟩ := bytesB_eq (by rw [hn])
        clear hn r0 r9
        have c0 := X4.out.cell 0
        have f0 := X4.out.frozen 0
        have c1 := X4.out.cell 1
        have f1 := X4.out.frozen 1
        have c2 := X4.out.cell 2
        have f2 := X4.out.frozen 2
        go_wp2
        exact bodyPost_ret (results_row_tmp1 (fn := Tryz.f39) rfl _ _ g 81 _ (0, 0) _ rfl (row3r X4.out rfl (.string ⟨#[]⟩) (.int .i64 0) (.string ⟨#[]⟩)) Tryz.underlying81 rfl rstepSize) rfl ⟨by rw [HV.out]; rfl, below3s B4.out (by rw [HG.out]; exact Nat.le_refl _) _ _ _⟩
      · have hp : Lib.trimPrefix r2.data.toList [32] = t := by rw [ht]; rfl
        have hsz : r2.size = t.length + 1 := by rw [← size_listB, ht, List.length_cons]
        rw [hp] at HXF
        by_cases htn : t = []
        · have HV := Lib.hid (show stepP s.data.toList = (flZero, 2) by rw [HS.out, HXF.out, if_pos htn, if_pos (by simp)])
          have s1 : (r2.size : Int) < 2 := by rw [hsz, htn]; decide
          clear hp hsz htn ht
          have c0 := X4.out.cell 0
          have f0 := X4.out.frozen 0
          have c1 := X4.out.cell 1
          have f1 := X4.out.frozen 1
          have c2 := X4.out.cell 2
          have f2 := X4.out.frozen 2
          go_wp2
          exact bodyPost_ret (results_row_tmp1 (fn := Tryz.f39) rfl _ _ g 81 _ (0, 0) _ rfl (row3r X4.out rfl (.string ⟨#[]⟩) (.int .i64 0) (.string ⟨#[]⟩)) Tryz.underlying81 rfl rstepSize) rfl ⟨by rw [HV.out]; rfl, below3s B4.out (by rw [HG.out]; exact Nat.le_refl _) _ _ _⟩
        have htl : 0 < t.length := List.length_pos_iff.2 htn
        have s1 : ¬ (r2.size : Int) < 2 := by omega
        have s1' : (2 : Int) ≤ (r2.size : Int) := by omega
        by_cases h256 : 256 < t.length
        · have HV := Lib.hid (show stepP s.data.toList = (flZero, 4) by rw [HS.out, HXF.out, if_neg htn, if_pos h256, if_pos (by simp)])
          have s2 : (256 : Int) < (r2.size : Int) - 1 := by omega
          clear hp hsz htn ht htl h256
          have c0 := X4.out.cell 0
          have f0 := X4.out.frozen 0
          have c1 := X4.out.cell 1
          have f1 := X4.out.frozen 1
          have c2 := X4.out.cell 2
          have f2 := X4.out.frozen 2
          go_wp2
          exact bodyPost_ret (results_row_tmp1 (fn := Tryz.f39) rfl _ _ g 81 _ (0, 0) _ rfl (row3r X4.out rfl (.string ⟨#[]⟩) (.int .i64 0) (.string ⟨#[]⟩)) Tryz.underlying81 rfl rstepSize) rfl ⟨by rw [HV.out]; rfl, below3s B4.out (by rw [HG.out]; exact Nat.le_refl _) _ _ _⟩
        · have HV := Lib.hid (show stepP s.data.toList = ((v, (n.1 : Int), r2.extract 1 r2.size), 0) by
            rw [HS.out, HXF.out, if_neg htn, if_neg h256, if_neg (by simp), extract_mkW, ← size_listB, List.take_length, ht]; rfl)
          have s2 : ¬ (256 : Int) < (r2.size : Int) - 1 := by omega
          clear hp hsz htn ht htl h256
          have c0 := X4.out.cell 0
          have f0 := X4.out.frozen 0
          have c1 := X4.out.cell 1
          have f1 := X4.out.frozen 1
          have c2 := X4.out.cell 2
          have f2 := X4.out.frozen 2
          go_wp2
          exact bodyPost_ret (results_row_tmp1 (fn := Tryz.f39) rfl _ _ g 81 _ (0, 0) _ rfl (row3r X4.out rfl (.string v) (.int .i64 (n.1 : Int)) (.string (r2.extract 1 r2.size))) Tryz.underlying81 rfl rstepSize) rfl ⟨by rw [HV.out]; rfl, below3s B4.out (by rw [HG.out]; exact Nat.le_refl _) _ _ _⟩
end Go.Proofs.YtanjcjnkppnhcaaGreatDoor

namespace Go.Proofs.YtanjcjnkppnhcaaGreatDoor
open Go

/-- A text's lines, without their ends. -/
def nls : List UInt8 → List (List UInt8)
  | [] => [[]]
  | c :: l => if c = 10 then [] :: nls l else match nls l with
    | [] => [[c]]
    | x :: xs => (c :: x) :: xs
theorem nls_ne : ∀ l : List UInt8, nls l ≠ []
  | [] => by simp [nls]
  | c :: l => by
    unfold nls
    split
    · simp
    · split <;> simp
theorem nls_none : ∀ {l : List UInt8}, (∀ k : Nat, l[k]? ≠ some 10) → nls l = [l]
  | [], _ => rfl
  | c :: l, h => by
    have hc : ¬ c = 10 := fun e => h 0 (by rw [e]; rfl)
    have ih := nls_none (l := l) fun k hk => h (k + 1) (by simpa using hk)
    unfold nls
    rw [if_neg hc, ih]
theorem nls_hit : ∀ {l : List UInt8} {i : Nat}, l[i]? = some 10 → (∀ k : Nat, k < i → l[k]? ≠ some 10) → nls l = l.take i :: nls (l.drop (i + 1))
  | [], _, h, _ => by simp at h
  | c :: l, 0, h, _ => by
    have hc : c = 10 := by simpa using h
    conv => lhs; unfold nls
    rw [if_pos hc]
    simp
  | c :: l, i + 1, h, hb => by
    have hc : ¬ c = 10 := fun e => hb 0 (by omega) (by rw [e]; rfl)
    have ih := nls_hit (l := l) (i := i) (by simpa using h) fun k hk hh => hb (k + 1) (by omega) (by simpa using hh)
    conv => lhs; unfold nls
    rw [if_neg hc, ih]
    simp
theorem nls_le : ∀ {l x : List UInt8}, x ∈ nls l → x.length ≤ l.length
  | [], x, h => by simp [nls] at h; subst h; simp
  | c :: l, x, h => by
    unfold nls at h
    split at h
    · rcases List.mem_cons.1 h with rfl | h
      · simp
      · have := nls_le h; simp; omega
    · cases hl : nls l with
      | nil => rw [hl] at h; simp at h; subst h; simp
      | cons y ys =>
        rw [hl] at h
        rcases List.mem_cons.1 h with rfl | h
        · have := nls_le (l := l) (x := y) (by rw [hl]; exact List.mem_cons_self); simp; omega
        · have := nls_le (l := l) (x := x) (by rw [hl]; exact List.mem_cons_of_mem _ h); simp; omega
theorem nls_len : ∀ l : List UInt8, (nls l).length ≤ l.length + 1
  | [] => by simp [nls]
  | c :: l => by
    have := nls_len l
    unfold nls
    split
    · simp; omega
    · split
      · simp
      · rename_i h; rw [h] at this; simp at this ⊢; omega
theorem split_nls : ∀ (n : Nat) (l : List UInt8), l.length ≤ n → Lib.split l [10] = nls l
  | n, l, hn => by
    rcases Int.lt_or_le (Lib.indexByte l 10) 0 with hx | hx
    · have hm : Lib.indexByte l 10 = -1 := by have := Lib.indexByte_ge l 10; omega
      rw [nls_none (Lib.indexByte_none hm)]
      unfold Lib.split
      rw [Lib.count_miss (by rw [Lib.index_one]; exact hm)]
      rfl
    · obtain ⟨i, hi⟩ : ∃ i : Nat, Lib.indexByte l 10 = i := ⟨(Lib.indexByte l 10).toNat, by omega⟩
      obtain ⟨h1, h2⟩ := Lib.indexByte_some hi
      rw [nls_hit h1 h2]
      have hx2 : Lib.index l [10] = i := by rw [Lib.index_one]; exact hi
      have hl := (List.getElem?_eq_some_iff.1 h1).1
      match n, hn with
      | 0, hn => omega
      | n + 1, hn =>
        have ih := split_nls n (l.drop (i + 1)) (by rw [List.length_drop]; omega)
        unfold Lib.split at ih ⊢
        rw [Lib.count_hit (by simp) hx2]
        rw [show 1 + Lib.count (l.drop (i + [(10 : UInt8)].length)) [10] = Lib.count (l.drop (i + 1)) [10] + 1 by rw [Nat.add_comm]; rfl]
        unfold Lib.splitK
        rw [if_neg (by rw [hx2]; simp), hx2]
        simp only [Int.toNat_natCast, Nat.add_zero, List.length_singleton]
        rw [ih]
theorem count_nls : ∀ (n : Nat) (l : List UInt8), l.length ≤ n → (nls l).length = Lib.count l [10] + 1
  | n, l, hn => by
    rcases Int.lt_or_le (Lib.indexByte l 10) 0 with hx | hx
    · have hm : Lib.indexByte l 10 = -1 := by have := Lib.indexByte_ge l 10; omega
      rw [nls_none (Lib.indexByte_none hm), Lib.count_miss (by rw [Lib.index_one]; exact hm)]
      rfl
    · obtain ⟨i, hi⟩ : ∃ i : Nat, Lib.indexByte l 10 = i := ⟨(Lib.indexByte l 10).toNat, by omega⟩
      obtain ⟨h1, h2⟩ := Lib.indexByte_some hi
      rw [nls_hit h1 h2]
      have hx2 : Lib.index l [10] = i := by rw [Lib.index_one]; exact hi
      have hl := (List.getElem?_eq_some_iff.1 h1).1
      match n, hn with
      | 0, hn => omega
      | n + 1, hn =>
        have ih := count_nls n (l.drop (i + 1)) (by rw [List.length_drop]; omega)
        rw [Lib.count_hit (by simp) hx2, List.length_cons, ih]
        show Lib.count (l.drop (i + 1)) [10] + 1 + 1 = 1 + Lib.count (l.drop (i + 1)) [10] + 1
        omega
theorem splitB_nls (s : ByteArray) : (Lib.splitB ⟨#[10]⟩ 0 (Lib.countB s ⟨#[10]⟩) s).map (·.data.toList) = nls s.data.toList := by
  rw [Lib.splitB_data]
  exact split_nls _ _ (Nat.le_refl _)
theorem splitB_len (s : ByteArray) : (Lib.splitB ⟨#[10]⟩ 0 (Lib.countB s ⟨#[10]⟩) s).length = Lib.countB s ⟨#[10]⟩ + 1 := by
  have h := congrArg List.length (splitB_nls s)
  rw [List.length_map, count_nls _ _ (Nat.le_refl _)] at h
  exact h
end Go.Proofs.YtanjcjnkppnhcaaGreatDoor

namespace Go.Proofs.YtanjcjnkppnhcaaGreatDoor
open Go Go.RowKit

def parseP : List (List UInt8) → Nat → List Fl → (List Fl) ⊕ (Nat × Int)
  | [], _, acc => .inl acc
  | l :: ls, i, acc =>
    if (lineP l).2.2 ≠ 0 then .inr (i, (lineP l).2.2)
    else if (lineP l).2.1 = false then parseP ls (i + 1) acc
    else if acc.length = 32 then .inr (32, 4)
    else parseP ls (i + 1) (acc ++ [(lineP l).1])
def bLine : ByteArray := ⟨#[108, 105, 110, 101]⟩
def bStep : ByteArray := ⟨#[115, 116, 101, 112]⟩
def FaultOf (F : Nat) (p : ByteArray) (n e : Int) (w : World) : Prop := w.heap[F]? = some (.cells #[.string p, .int .i64 n, .iface 73 (.int .i64 e)] 78 (0, 0))
def ParsedTo (r : (List Fl) ⊕ (Nat × Int)) (w : World) (e : Ending) (w' : World) : Prop :=
  (∃ xs u, r = .inl xs ∧ e = .returned (.tuple #[u, .nilIface]) ∧ w'.ownsRow w.heap.size 41 3 u xs.length (xs.flatMap cF) ∧ xs.length ≤ 32 ∧ Below w.heap.size w w') ∨
  ∃ i k F, r = .inr (i, k) ∧ e = .returned (.tuple #[.slice none 0 0, .iface 76 (.pointer (some ⟨F, 0, none⟩))]) ∧ w.heap.size ≤ F ∧ FaultOf F bLine i k w' ∧ Below w.heap.size w w'
theorem reads_one_step {w : World} {g : Nat} (x : Fl) (z : Blk w g 41 #[.string x.1, .int .i64 x.2.1, .string x.2.2]) : Reads 3 cF w (.slice (some ⟨g, 0, none⟩) 1 1) [x] := by
  refine ⟨some ⟨g, 0, none⟩, 1, rfl, Nat.le_refl _, by decide, by simp, fun ad hA i y hy j u hu => ?_⟩
  obtain rfl := Option.some.inj hA
  match i, hy with
  | 0, hy =>
    simp at hy
    subst hy
    match j, hu with
    | 0, hu => simp [cF] at hu; subst hu; exact z.cell 0
    | 1, hu => simp [cF] at hu; subst hu; exact z.cell 1
    | 2, hu => simp [cF] at hu; subst hu; exact z.cell 2
    | j + 3, hu => simp [cF] at hu
  | i + 1, hy => simp at hy
theorem drop_consB {α : Type} {l : List α} {k : Nat} {x : α} (h : l[k]? = some x) : l.drop k = x :: l.drop (k + 1) := by
  obtain ⟨hk, rfl⟩ := List.getElem?_eq_some_iff.1 h
  exact List.drop_eq_getElem_cons hk
theorem own_lower {w : World} {B B' k n : Nat} {e : TypeId} {v : Value} {xs : List Value} (h : w.ownsRow B e k v n xs) (hb : B' ≤ B) : w.ownsRow B' e k v n xs := ⟨h.1, h.2.imp id fun ⟨g, cap, cur, a, b, r⟩ => ⟨g, cap, cur, a, Nat.le_trans hb b, r⟩⟩
theorem ret_2u {a b c d : Value} (h1 : a = c) (h2 : b = d) : Ending.returned (.tuple #[a, b]) = .returned (.tuple #[c, d]) := by rw [h1, h2]
set_option maxRecDepth 100000 in
set_option maxHeartbeats 4000000 in
theorem parse_any (s : ByteArray) (w : World) (m : Int) (hm : w.cell? ⟨1, 0, none⟩ = some (.int .i64 m)) (hs : s.size ≤ 1000000) :
    Calls Tryz.prog 9 #[.string s] w (ParsedTo (parseP (nls s.data.toList) 0 []) w) := by
  have SP := Lib.hid (Tryz.strings_Split s ⟨#[10]⟩ m w (by omega) hm (by decide))
  have LN := splitB_len s
  have LS := splitB_nls s
  obtain ⟨L, hL⟩ : ∃ L, L = Lib.splitB ⟨#[10]⟩ 0 (Lib.countB s ⟨#[10]⟩) s := ⟨_, rfl⟩
  obtain ⟨R, hR⟩ : ∃ R, R = parseP (nls s.data.toList) 0 [] := ⟨_, rfl⟩
  rw [← hR]
  rw [← hL] at SP LN LS
  rw [← LN] at SP
  have HR0 := Lib.hid (show parseP ((L.drop 0).map (·.data.toList)) 0 [] = R by rw [List.drop_zero, LS, hR])
  have HSZ := Lib.hid (show ∀ x ∈ L, x.size ≤ 9223372036854775807 from fun x hx => by
    have h1 : x.data.toList ∈ nls s.data.toList := by rw [← LS]; exact List.mem_map_of_mem hx
    have h2 := nls_le h1
    rw [size_listB, size_listB] at h2
    omega)
  have HLN := Lib.hid (show L.length ≤ 1000001 by rw [← List.length_map (f := (·.data.toList)), LS]; have := nls_len s.data.toList; rw [size_listB] at this; omega)
  clear hL hR LN LS
  have ln0 : (0 : Int) ≤ (L.length : Int) := Int.natCast_nonneg _
  have ln1 : (L.length : Int) ≤ 1000001 := by have := HLN.out; omega
  have C0 := Lib.hid (show ∀ (k : Nat) (x : ByteArray), L[k]? = some x → (w.alloc (.cells (L.map Value.string).toArray 9)).cell? ⟨w.heap.size, k, none⟩ = some (.string x) from fun k x hx => by
    rw [cell_of_row _ _ k _ 9 (0, 0) (heap_alloc_new w _)]
    simp [hx])
  have B1 := Lib.hid ((Below.refl w.heap.size w).alloc (Nat.le_refl _) (.cells (L.map Value.string).toArray 9))
  have HW := Lib.hid (show w.heap.size < (w.alloc (.cells (L.map Value.string).toArray 9)).heap.size by simp)
  obtain ⟨gL, hgL⟩ : ∃ g, g = w.heap.size := ⟨_, rfl⟩
  have HGL := Lib.hid hgL
  go_enter Tryz.func9, Tryz.ntmps9
  go_wp2_with fail
  refine SP.out.mono ?_
  rintro e w1 ⟨rfl, hw1⟩
  rw [← hw1] at C0 B1 HW
  rw [← hgL] at C0 HW ⊢
  clear hw1 SP hgL
  go_wp2_with fail
  go_loopw [4, 5, 6, 7, 8, 9, 13] (fun s4 _ _ _ _ _ s13 wr => ∃ (k : Nat) (acc : List Fl), k ≤ L.length ∧ s13 = .int .i64 k ∧ Hid (acc.length ≤ 32) ∧ Hid (wr.ownsRow w1.heap.size 41 3 s4 acc.length (acc.flatMap cF)) ∧ Hid (parseP ((L.drop k).map (·.data.toList)) k acc = R) ∧ Hid (Below w1.heap.size w1 wr)) (fun _ _ _ _ _ _ s13 _ => L.length - (intOf s13).toNat)
  case atStart => exact ⟨0, [], Nat.zero_le _, rfl, Lib.hid (by simp), Lib.hid (World.ownsRow_nil _ _ _ _), HR0, Lib.hid (Below.refl _ _)⟩
  case round =>
    obtain ⟨k, acc, hk, rfl, HA, HO, HR, HB⟩ := hrel
    have k0 : (0 : Int) ≤ (k : Int) := Int.natCast_nonneg _
    by_cases hlt : k < L.length
    · obtain ⟨x, hx⟩ : ∃ x, L[k]? = some x := ⟨_, List.getElem?_eq_getElem hlt⟩
      have hki : (k : Int) < (L.length : Int) := by omega
      have c0 : wr.cell? ⟨gL, k, none⟩ = some (.string x) := (HB.out.cell (p := ⟨gL, k, none⟩) HW.out).trans (C0.out k x hx)
      have LA := Lib.hid (line_any x wr (HSZ.out x (List.mem_of_getElem? hx)))
      have HP := Lib.hid (show parseP (x.data.toList :: (L.drop (k + 1)).map (·.data.toList)) k acc = R by have := HR.out; rw [drop_consB hx] at this; exact this)
      have HLT := Lib.hid hlt
      unfold LineTo at LA
      unfold parseP at HP
      obtain ⟨o, ho⟩ : ∃ o, o = lineP x.data.toList := ⟨_, rfl⟩
      rw [← ho] at LA HP
      clear hx hlt hk HR ho
      go_wp2_with fail
      clear c0
      refine LA.out.mono ?_
      rintro e w2 ⟨rfl, b2⟩
      obtain ⟨⟨f1, f2, f3⟩, fb, fe⟩ := o
      dsimp only at HP ⊢
      have B2 := Lib.hid ((HB.out.trans (b2.mono HB.out.size)).alloc (Nat.le_trans HB.out.size b2.size) (.cells #[.string f1, .int .i64 f2, .string f3] 41))
      have O2 := Lib.hid ((own_keep HO.out b2).alloc (.cells #[.string f1, .int .i64 f2, .string f3] 41))
      clear b2 LA HO HB
      have Z2 := Lib.hid (Blk.new w2 41 #[.string f1, .int .i64 f2, .string f3])
      obtain ⟨z, hz⟩ : ∃ z, z = w2.heap.size := ⟨_, rfl⟩
      go_upto_region 6 with fail
      rw [← hz] at Z2 ⊢
      clear hz
      generalize w2.alloc (.cells #[.string f1, .int .i64 f2, .string f3] 41) = W at *
      have HBW := Lib.hid (B1.out.trans (B2.out.mono B1.out.size))
      by_cases he : fe = 0
      · subst he
        cases fb with
        | false =>
          have HP2 := Lib.hid (show parseP ((L.drop (k + 1)).map (·.data.toList)) (k + 1) acc = R by have := HP.out; rw [if_neg (by simp), if_pos rfl] at this; exact this)
          clear HP
          go_wp2
          go_roundw
          case rel => exact ⟨k + 1, acc, by have := HLT.out; omega, by go_num, HA, O2, HP2, B2⟩
          case measure => have := HLT.out; simp [intOf]; omega
        | true =>
          obtain ⟨A4, c4, hv4⟩ := own_form O2.out
          have al0 : (0 : Int) ≤ (acc.length : Int) := Int.natCast_nonneg _
          by_cases h32 : acc.length = 32
          · have HP2 := Lib.hid (show R = .inr (32, 4) by have := HP.out; rw [if_neg (by simp), if_neg (by simp), if_pos h32] at this; exact this.symm)
            have h32b : ((acc.length : Int) == 32) = true := by rw [h32]; rfl
            have h32c : (acc.length : Int) = 32 := by omega
            clear HP h32
            subst hv4
            go_wp2
            go_ret2
            exact .inr ⟨32, 4, W.heap.size, HP2.out, rfl, HBW.out.size, heap_alloc_new W _, HBW.out.alloc HBW.out.size _⟩
          · have HP2 := Lib.hid (show parseP ((L.drop (k + 1)).map (·.data.toList)) (k + 1) (acc ++ [(f1, f2, f3)]) = R by have := HP.out; rw [if_neg (by simp), if_neg (by simp), if_neg h32] at this; exact this)
            have HA2 := Lib.hid (show (acc ++ [(f1, f2, f3)]).length ≤ 32 by rw [List.length_append, List.length_singleton]; have := HA.out; omega)
            have h32c : ¬ (acc.length : Int) = 32 := by omega
            have h32b : ((acc.length : Int) == 32) = false := by simpa using h32c
            have O4 := Lib.hid (O2.out.alloc (.cells #[.string f1, .int .i64 f2, .string f3] 41))
            have R4 := Lib.hid (reads_one_step (f1, f2, f3) (Blk.new W 41 #[.string f1, .int .i64 f2, .string f3]))
            have B4 := Lib.hid (B2.out.alloc B2.out.size (.cells #[.string f1, .int .i64 f2, .string f3] 41))
            have z0 := Z2.out.cell 0
            have z1 := Z2.out.cell 1
            have z2 := Z2.out.cell 2
            have zlt : z < W.heap.size := Z2.out.lt
            clear HP h32
            subst hv4
            go_upto_region 12 with (at_builtin; go_loud (refine wpList_append_steps (W.alloc (.cells #[.string f1, .int .i64 f2, .string f3] 41)) rfl (.tmp 41) (.tmp 43) rfl w1.heap.size _ acc [(f1, f2, f3)] rfl O4.out _ _ _ rfl R4.out (by have := HA.out; simp; omega) B4.out.size ?_; intro A' c' w5 o5 b5 g5; have O5 := Lib.hid o5; have B5 := Lib.hid (B4.out.trans b5); clear o5 b5 g5))
            clear z0 z1 z2 O4 R4 B4 O2 Z2
            go_wp2
            go_roundw
            case rel => exact ⟨k + 1, acc ++ [(f1, f2, f3)], by have := HLT.out; omega, by go_num, HA2, Lib.hid (by have := O5.out; rw [show (acc ++ [(f1, f2, f3)]).length = acc.length + 1 by simp] at this; rw [show (acc ++ [(f1, f2, f3)]).length = acc.length + 1 by simp]; exact this), HP2, B5⟩
            case measure => have := HLT.out; simp [intOf]; omega
      · have HP2 := Lib.hid (show R = .inr (k, fe) by have := HP.out; rw [if_pos he] at this; exact this.symm)
        have heb : (fe == 0) = false := by simpa using he
        clear HP
        go_wp2
        go_ret2
        exact .inr ⟨k, fe, W.heap.size, HP2.out, rfl, HBW.out.size, heap_alloc_new W _, HBW.out.alloc HBW.out.size _⟩
    · obtain rfl : k = L.length := by omega
      have HP2 := Lib.hid (show R = .inl acc by have := HR.out; rw [List.drop_length] at this; exact this.symm)
      have HBW := Lib.hid (B1.out.trans (HB.out.mono B1.out.size))
      clear hlt hk
      go_wp2
      go_ret2
      exact .inl ⟨acc, _, HP2.out, rfl, own_lower HO.out B1.out.size, HA.out, HBW.out⟩
end Go.Proofs.YtanjcjnkppnhcaaGreatDoor

namespace Go.Proofs.YtanjcjnkppnhcaaGreatDoor
open Go Go.RowKit

/-- What is wrong with a step, where one ahead has begun something or none has. -/
def wrongV (gs : List (List Int)) (b : Bool) (x : Fl) : Int :=
  if knownV x.1 = false then 5 else if x.2.1 < 1 ∨ (gs.length : Int) < x.2.1 ∨ 1 < (G.par gs x.2.1).length then 1
  else if ((x.1.toList == [115, 113, 117, 97, 115, 104]) = true ∨ (x.1.toList == [102, 105, 120, 117, 112]) = true) ∧ b = false then 7 else 0
theorem par_at {gs : List (List Int)} {i : Nat} {l : List Int} (h : gs[i]? = some l) : G.par gs ((i : Int) + 1) = l := by
  unfold G.par
  rw [show ((i : Int) + 1).toNat - 1 = i by omega, List.getD_eq_getElem?_getD, h]
  rfl
set_option maxRecDepth 100000 in
set_option maxHeartbeats 4000000 in
theorem wrong_any (w : World) (x : Fl) (vg : Value) (gs : List (List Int)) (b : Bool) (hG : G.Rows w vg gs) (hN : gs.length ≤ 100000) (hc : -9223372036854775808 ≤ x.2.1 ∧ x.2.1 ≤ 9223372036854775807) :
    Calls Tryz.prog 44 #[.agg #[.string x.1, .int .i64 x.2.1, .string x.2.2], vg, .bool b] w fun e w' => e = .returned (.int .i64 (wrongV gs b x)) ∧ Below w.heap.size w w' := by
  obtain ⟨v, c, t⟩ := x
  obtain ⟨A, cp, rfl⟩ := hG.form
  have KV := Lib.hid fun W => knownV_any v W
  have HB := Lib.hid ((Below.refl w.heap.size w).alloc (Nat.le_refl _) (.cells #[.string v, .int .i64 c, .string t] 41))
  have HG := Lib.hid (hG.below HB.out)
  have hn0 : (0 : Int) ≤ (gs.length : Int) := Int.natCast_nonneg _
  have hn1 : (gs.length : Int) ≤ 100000 := by omega
  have hc1 := hc.1
  have hc2 := hc.2
  dsimp only at hc1 hc2
  clear hG hc
  have G0 := Lib.hid (Blk.new w 41 #[.string v, .int .i64 c, .string t])
  obtain ⟨g, hg⟩ : ∃ g, g = w.heap.size := ⟨_, rfl⟩
  rw [← hg] at G0
  go_enter Tryz.func44, Tryz.ntmps44
  go_wp2_with fail
  rw [← hg]
  clear hg
  refine (KV.out _).mono ?_
  rintro e w2 ⟨rfl, rfl⟩
  generalize w.alloc (.cells #[.string v, .int .i64 c, .string t] 41) = w2 at *
  have y0 := G0.out.cell 0
  have y1 := G0.out.cell 1
  cases hk : knownV v with
  | false =>
    have HV := Lib.hid (show wrongV gs b (v, c, t) = 5 by unfold wrongV; rw [if_pos hk])
    clear hk
    go_wp2
    go_ret
    exact ⟨by rw [HV.out]; rfl, HB.out⟩
  | true =>
    have HK := Lib.hid (show ¬ knownV v = false by rw [hk]; simp)
    clear hk
    by_cases h1 : c < 1
    · have HV := Lib.hid (show wrongV gs b (v, c, t) = 1 by unfold wrongV; rw [if_neg HK.out, if_pos (.inl h1)])
      go_wp2
      go_ret
      exact ⟨by rw [HV.out]; rfl, HB.out⟩
    by_cases h2 : (gs.length : Int) < c
    · have HV := Lib.hid (show wrongV gs b (v, c, t) = 1 by unfold wrongV; rw [if_neg HK.out, if_pos (.inr (.inl h2))])
      go_wp2
      go_ret
      exact ⟨by rw [HV.out]; rfl, HB.out⟩
    obtain ⟨i, hi⟩ : ∃ i : Nat, c = (i : Int) + 1 := ⟨(c - 1).toNat, by omega⟩
    subst hi
    have hil : i < gs.length := by omega
    obtain ⟨l, hl⟩ : ∃ l, gs[i]? = some l := ⟨_, List.getElem?_eq_getElem hil⟩
    obtain ⟨ad, u, rfl, c0, hI⟩ := HG.out.cell hl
    obtain ⟨A2, c2, rfl⟩ := hI.form
    have hlen := hI.len
    have l0 : (0 : Int) ≤ (l.length : Int) := Int.natCast_nonneg _
    have hp := par_at hl
    have hw : IntKind.i64.wrap ((i : Int) + 1 - 1) = (i : Int) := by rw [IntKind.wrap_i64] <;> omega
    have hii : (i : Int) < (gs.length : Int) := by omega
    have i0 : (0 : Int) ≤ (i : Int) := Int.natCast_nonneg _
    clear hl hI hlen
    by_cases h3 : 1 < l.length
    · have HV := Lib.hid (show wrongV gs b (v, (i : Int) + 1, t) = 1 by unfold wrongV; rw [if_neg HK.out, if_pos (.inr (.inr (by show 1 < (G.par gs ((i : Int) + 1)).length; rw [hp]; exact h3)))])
      have h3i : (1 : Int) < (l.length : Int) := by omega
      clear hp h3
      go_wp2
      go_ret
      exact ⟨by rw [HV.out]; rfl, HB.out⟩
    have HQ := Lib.hid (show ¬ ((i : Int) + 1 < 1 ∨ (gs.length : Int) < (i : Int) + 1 ∨ 1 < (G.par gs ((i : Int) + 1)).length) by rw [hp]; omega)
    have e1 : decide ((1 : Int) < (l.length : Int)) = false := decide_eq_false (by omega)
    have e2 : decide (1 < l.length) = false := decide_eq_false h3
    have e3 : decide ((gs.length : Int) < (i : Int) + 1) = false := decide_eq_false h2
    have e4 : decide ((i : Int) + 1 < 1) = false := decide_eq_false h1
    have e5 : decide (gs.length < i + 1) = false := decide_eq_false (by omega)
    clear hp l0 h1 h2
    go_upto_region 5 with fail
    clear e1 e2 e3 e4 e5 h3 hw c0 hii i0 y1
    cases hs : (v.toList == [115, 113, 117, 97, 115, 104]) with
    | true =>
      cases b with
      | false =>
        have HV := Lib.hid (show wrongV gs false (v, (i : Int) + 1, t) = 7 by unfold wrongV; rw [if_neg HK.out, if_neg HQ.out, if_pos ⟨.inl hs, rfl⟩])
        go_wp2
        go_ret
        exact ⟨by rw [HV.out]; rfl, HB.out⟩
      | true =>
        have HV := Lib.hid (show wrongV gs true (v, (i : Int) + 1, t) = 0 by unfold wrongV; rw [if_neg HK.out, if_neg HQ.out, if_neg (by simp)])
        go_wp2
        go_ret
        exact ⟨by rw [HV.out]; rfl, HB.out⟩
    | false =>
      cases hf : (v.toList == [102, 105, 120, 117, 112]) with
      | true =>
        cases b with
        | false =>
          have HV := Lib.hid (show wrongV gs false (v, (i : Int) + 1, t) = 7 by unfold wrongV; rw [if_neg HK.out, if_neg HQ.out, if_pos ⟨.inr hf, rfl⟩])
          go_wp2
          go_ret
          exact ⟨by rw [HV.out]; rfl, HB.out⟩
        | true =>
          have HV := Lib.hid (show wrongV gs true (v, (i : Int) + 1, t) = 0 by unfold wrongV; rw [if_neg HK.out, if_neg HQ.out, if_neg (by simp)])
          go_wp2
          go_ret
          exact ⟨by rw [HV.out]; rfl, HB.out⟩
      | false =>
        have HV := Lib.hid (show wrongV gs b (v, (i : Int) + 1, t) = 0 by unfold wrongV; rw [if_neg HK.out, if_neg HQ.out, if_neg (fun e => e.1.elim (fun e => by rw [hs] at e; cases e) fun e => by rw [hf] at e; cases e)])
        go_wp2
        go_ret
        exact ⟨by rw [HV.out]; rfl, HB.out⟩
end Go.Proofs.YtanjcjnkppnhcaaGreatDoor

namespace Go.Proofs.YtanjcjnkppnhcaaGreatDoor
open Go Go.RowKit

def chkS (gs : List (List Int)) : List Fl → Nat → Bool → Option (Nat × Int)
  | [], _, _ => none
  | x :: r, i, b => if wrongV gs b x ≠ 0 then some (i, wrongV gs b x) else chkS gs r (i + 1) (b || !(x.1.toList == [100, 114, 111, 112]))
def checkV (gs : List (List Int)) (l : List Fl) : Option (Nat × Int) := if 32 < l.length then some (32, 4) else chkS gs l 0 false
def CheckTo (o : Option (Nat × Int)) (w : World) (e : Ending) (w' : World) : Prop :=
  (o = none ∧ e = .returned .nilIface ∧ Below w.heap.size w w') ∨
  ∃ i k F, o = some (i, k) ∧ e = .returned (.iface 76 (.pointer (some ⟨F, 0, none⟩))) ∧ w.heap.size ≤ F ∧ FaultOf F bStep i k w' ∧ Below w.heap.size w w'
set_option maxRecDepth 100000 in
set_option maxHeartbeats 4000000 in
theorem checkS_any (w : World) (vl vg : Value) (l : List Fl) (gs : List (List Int)) (hl : Reads 3 cF w vl l) (hG : G.Rows w vg gs) (hN : gs.length ≤ 100000) (hc : ∀ x ∈ l, -9223372036854775808 ≤ x.2.1 ∧ x.2.1 ≤ 9223372036854775807) :
    Calls Tryz.prog 16 #[vl, vg] w (CheckTo (checkV gs l) w) := by
  obtain ⟨A, c, rfl⟩ := hl.form
  have HLN := hl.len
  have hlm : l.length ≤ 9223372036854775807 := by have := HLN.2; unfold maxLen at this; omega
  by_cases h32 : 32 < l.length
  · have HV := Lib.hid (show checkV gs l = some (32, 4) from if_pos h32)
    have h32i : (32 : Int) < (l.length : Int) := by omega
    clear h32 hl hG hc HLN
    go_enter Tryz.func16, Tryz.ntmps16
    go_wp2
    go_ret
    exact .inr ⟨32, 4, w.heap.size, HV.out, rfl, Nat.le_refl _, heap_alloc_new w _, (Below.refl _ _).alloc (Nat.le_refl _) _⟩
  obtain ⟨R, hR⟩ : ∃ R, R = checkV gs l := ⟨_, rfl⟩
  rw [← hR]
  have HR0 := Lib.hid (show chkS gs (l.drop 0) 0 false = R by rw [hR]; unfold checkV; rw [if_neg h32]; rfl)
  have HO := Lib.hid fun W (hW : Below w.heap.size w W) => hl.below hW
  have HG := Lib.hid fun W (hW : Below w.heap.size w W) => hG.below hW
  have HC := Lib.hid hc
  have h32i : ¬ (32 : Int) < (l.length : Int) := by omega
  have l0 : (0 : Int) ≤ (l.length : Int) := Int.natCast_nonneg _
  have l32 : (l.length : Int) ≤ 32 := by omega
  clear hR h32 hl hG hc HLN
  go_enter Tryz.func16, Tryz.ntmps16
  go_wp2_with fail
  go_loopw [5, 6, 7, 8, 18] (fun s5 _ _ _ s18 wr => ∃ (k : Nat) (b : Bool), k ≤ l.length ∧ s18 = .int .i64 k ∧ s5 = .bool b ∧ Hid (chkS gs (l.drop k) k b = R) ∧ Hid (Below w.heap.size w wr)) (fun _ _ _ _ s18 _ => l.length - (intOf s18).toNat)
  case atStart => exact ⟨0, false, Nat.zero_le _, rfl, rfl, HR0, Lib.hid (Below.refl _ _)⟩
  case round =>
    obtain ⟨k, b, hk, rfl, rfl, HR, HB⟩ := hrel
    have k0 : (0 : Int) ≤ (k : Int) := Int.natCast_nonneg _
    by_cases hlt : k < l.length
    · obtain ⟨x, hx⟩ : ∃ x, l[k]? = some x := ⟨_, List.getElem?_eq_getElem hlt⟩
      have hki : (k : Int) < (l.length : Int) := by omega
      obtain ⟨ad, rfl, c0, c1, c2⟩ := Fils.at_ (HO.out wr HB.out) hx
      have HP := Lib.hid (show chkS gs (x :: l.drop (k + 1)) k b = R by have := HR.out; rw [drop_consB hx] at this; exact this)
      unfold chkS at HP
      have WR := Lib.hid fun W (hW : Below w.heap.size w W) => wrong_any W x vg gs b (HG.out W hW) hN (HC.out x (List.mem_of_getElem? hx))
      have HLT := Lib.hid hlt
      obtain ⟨e, he⟩ : ∃ e, e = wrongV gs b x := ⟨_, rfl⟩
      rw [← he] at HP WR
      have B2 := Lib.hid (HB.out.alloc HB.out.size (.cells #[.string x.1, .int .i64 x.2.1, .string x.2.2] 41))
      have Z2 := Lib.hid (Blk.new wr 41 #[.string x.1, .int .i64 x.2.1, .string x.2.2])
      obtain ⟨z, hz⟩ : ∃ z, z = wr.heap.size := ⟨_, rfl⟩
      obtain ⟨v, cc, t⟩ := x
      dsimp only at c0 c1 c2 B2 Z2 HP WR
      clear hx hlt hk HR he HB
      go_upto_region 7 with fail
      rw [← hz] at Z2 ⊢
      clear hz c0 c1 c2
      generalize wr.alloc (.cells #[.string v, .int .i64 cc, .string t] 41) = w2 at *
      have y0 := Z2.out.cell 0
      have y1 := Z2.out.cell 1
      have y2 := Z2.out.cell 2
      go_wp2_with fail
      refine (WR.out _ B2.out).mono ?_
      rintro e3 w3 ⟨rfl, b3⟩
      have B3 := Lib.hid (B2.out.trans (b3.mono B2.out.size))
      have Z3 := Lib.hid (Z2.out.below b3 Z2.out.lt)
      clear y0 y1 y2 b3 Z2 WR B2
      by_cases he : e = 0
      · subst he
        have y0 := Z3.out.cell 0
        cases b with
        | true =>
          have HP2 := Lib.hid (show chkS gs (l.drop (k + 1)) (k + 1) true = R by have := HP.out; rw [if_neg (by simp)] at this; simpa using this)
          go_wp2
          go_roundw
          case rel => exact ⟨k + 1, true, by have := HLT.out; omega, by go_num, rfl, HP2, B3⟩
          case measure => have := HLT.out; simp [intOf]; omega
        | false =>
          cases hd : (v.toList == [100, 114, 111, 112]) with
          | true =>
            have HP2 := Lib.hid (show chkS gs (l.drop (k + 1)) (k + 1) false = R by have := HP.out; rw [if_neg (by simp), hd] at this; exact this)
            go_wp2
            go_roundw
            case rel => exact ⟨k + 1, false, by have := HLT.out; omega, by go_num, by simp, HP2, B3⟩
            case measure => have := HLT.out; simp [intOf]; omega
          | false =>
            have HP2 := Lib.hid (show chkS gs (l.drop (k + 1)) (k + 1) true = R by have := HP.out; rw [if_neg (by simp), hd] at this; exact this)
            go_wp2
            go_roundw
            case rel => exact ⟨k + 1, true, by have := HLT.out; omega, by go_num, by simp, HP2, B3⟩
            case measure => have := HLT.out; simp [intOf]; omega
      · have HP2 := Lib.hid (show R = some (k, e) by have := HP.out; rw [if_pos he] at this; exact this.symm)
        have heb : (e == 0) = false := by simpa using he
        clear HP
        go_wp2
        go_ret
        exact .inr ⟨k, e, w3.heap.size, HP2.out, rfl, B3.out.size, heap_alloc_new w3 _, B3.out.alloc B3.out.size _⟩
    · obtain rfl : k = l.length := by omega
      have HP2 := Lib.hid (show R = none by have := HR.out; rw [List.drop_length] at this; exact this.symm)
      go_wp2
      go_ret
      exact .inl ⟨HP2.out, rfl, HB.out⟩
end Go.Proofs.YtanjcjnkppnhcaaGreatDoor

namespace Go.Proofs.YtanjcjnkppnhcaaGreatDoor
open Go Go.RowKit

theorem rStepInfo : (Tryz.prog.info? 81).map (fun i => (i.zero, i.size, i.bytes)) = some (some (.agg #[.string ⟨#[]⟩, .int .i64 0, .string ⟨#[]⟩]), 3, 40) := by kernel_rfl
theorem run_append_rsteps (w : World) (ty : TypeId) (base : Nat) (v : Value) (xs ys : List Fl) (hown : w.ownsRow base 81 3 v xs.length (xs.flatMap cF)) (A : Option Addr) (m c : Nat) (h : Reads 3 cF w (.slice A m c) ys) (hl : xs.length + ys.length ≤ 1000000) (hbase : base ≤ w.heap.size) :
    ∃ A' c' w', (Builtin.append_ #[28, 28] ty #[v, .slice A m c]).run Tryz.prog w = .ok (.slice A' (xs ++ ys).length c') w' ∧ w'.ownsRow base 81 3 (.slice A' (xs ++ ys).length c') (xs ++ ys).length ((xs ++ ys).flatMap cF) ∧ Below base w w' ∧ w.grownBy w' v.ownBlock := by
  obtain ⟨i0, hi, hz0, hz1, hz2⟩ := info_parts rStepInfo
  obtain ⟨hm, hmc, hcm⟩ := h.len
  cases A with
  | none =>
    obtain ⟨A', c', hv, h1, h2, h3, h4⟩ := h
    injection hv with e1 e2 e3
    subst e1; subst e3
    have hc := h3 rfl
    subst hc
    have hm0 : m = 0 := by omega
    subst hm0
    have : ys = [] := List.eq_nil_of_length_eq_zero (by omega)
    subst this
    obtain ⟨A', c', rfl⟩ := own_form hown
    have hr := run_append_owned_none (P := Tryz.prog) (w := w) base 28 ty 81 i0 3 Tryz.underlying28 hi _ _ _ hown
    rw [List.append_nil]
    exact ⟨A', c', w, hr, hown, Below.refl _ _, World.grownBy.refl _ _⟩
  | some ad =>
    obtain ⟨v', w', hr, ho, hg, _⟩ := run_append_own (P := Tryz.prog) w base 28 ty 81 i0 (.agg #[.string ⟨#[]⟩, .int .i64 0, .string ⟨#[]⟩]) 3 40 Tryz.underlying28 hi hz0 hz1 hz2 rfl (by decide) v xs.length (xs.flatMap cF) hown ad m c (ys.flatMap cF) (by rw [flat_len cF_len, hm]) (reads_flat cF_len (by decide) h) (cF_one ys) (by unfold maxLen; omega) (by omega) hbase
    have ho2 : w'.ownsRow base 81 3 v' (xs ++ ys).length ((xs ++ ys).flatMap cF) := by rw [List.length_append, List.flatMap_append, ← hm]; exact ho
    obtain ⟨A', c', rfl⟩ := own_form ho2
    exact ⟨A', c', w', hr, ho2, (Below.refl base w).grown hg hbase fun k hk => (hown.lt k hk).1, hg⟩

theorem wpList_append_rsteps (w : World) {ops : Array Oper} {rest : List Oper} {o : Oper} {a : Act} {Q : Exit → Act → World → Prop} (hgd : o.guard = none) (s x : Operand)
    (ho : o.op = .call { callee := .builtin .append, args := #[s, x], argTypes := #[28, 28] })
    (base : Nat) (v : Value) (xs ys : List Fl) (hs : a.eval s = v) (hown : w.ownsRow base 81 3 v xs.length (xs.flatMap cF)) (A : Option Addr) (m c : Nat) (hx : a.eval x = .slice A m c) (h : Reads 3 cF w (.slice A m c) ys) (hl : xs.length + ys.length ≤ 1000000) (hbase : base ≤ w.heap.size)
    (hk : ∀ A' c' w', w'.ownsRow base 81 3 (.slice A' (xs ++ ys).length c') (xs ++ ys).length ((xs ++ ys).flatMap cF) → Below base w w' → w.grownBy w' v.ownBlock → wpList Tryz.prog ops Q rest (a.put o.dst (.slice A' (xs ++ ys).length c')) w') : wpList Tryz.prog ops Q (o :: rest) a w := by
  obtain ⟨A', c', w', hr, h2, h3, h4⟩ := run_append_rsteps w o.type base v xs ys hown A m c h hl hbase
  exact Lib.wpList_append_run w hgd s x _ _ ho _ _ hs hx _ _ hr (hk A' c' w' h2 h3 h4)

theorem reads_one_rstep {w : World} {g : Nat} (x : Fl) (z : Blk w g 81 #[.string x.1, .int .i64 x.2.1, .string x.2.2]) : Reads 3 cF w (.slice (some ⟨g, 0, none⟩) 1 1) [x] := by
  refine ⟨some ⟨g, 0, none⟩, 1, rfl, Nat.le_refl _, by decide, by simp, fun ad hA i y hy j u hu => ?_⟩
  obtain rfl := Option.some.inj hA
  match i, hy with
  | 0, hy =>
    simp at hy
    subst hy
    match j, hu with
    | 0, hu => simp [cF] at hu; subst hu; exact z.cell 0
    | 1, hu => simp [cF] at hu; subst hu; exact z.cell 1
    | 2, hu => simp [cF] at hu; subst hu; exact z.cell 2
    | j + 3, hu => simp [cF] at hu
  | i + 1, hy => simp at hy
def bPick : ByteArray := ⟨#[112, 105, 99, 107]⟩
/-- The picks of some commits. -/
def pickL (gs : List (List Int)) (X : List Int) : List Fl := X.filterMap fun c => if (G.par gs c).length < 2 then some (bPick, c, ⟨#[]⟩) else none
noncomputable def plainS (gs : List (List Int)) (onto frm : Int) : List Fl := pickL gs (G.onlL gs frm onto)
theorem pickL_snoc (gs : List (List Int)) {X : List Int} {k : Nat} {x : Int} (h : X[k]? = some x) : pickL gs (X.take (k + 1)) = pickL gs (X.take k) ++ (if (G.par gs x).length < 2 then [(bPick, x, ⟨#[]⟩)] else []) := by
  unfold pickL
  obtain ⟨hk, rfl⟩ := List.getElem?_eq_some_iff.1 h
  rw [List.take_succ_eq_append_getElem hk, List.filterMap_append]
  congr 1
  by_cases h2 : (G.par gs X[k]).length < 2
  · simp [h2]
  · simp [h2]
theorem pickL_len (gs : List (List Int)) (X : List Int) : (pickL gs X).length ≤ X.length := List.length_filterMap_le _ _
theorem onlL_in {gs : List (List Int)} {a b x : Int} (h : x ∈ G.onlL gs a b) : 1 ≤ x ∧ x ≤ gs.length := by
  obtain ⟨i, _, hf, rfl⟩ := G.mem_rowF.1 h
  unfold G.onl at hf
  rw [Bool.and_eq_true] at hf
  have h1 := hf.1
  unfold G.anc at h1
  exact (@of_decide_eq_true _ (_) h1).vld
theorem onlL_len (gs : List (List Int)) (a b : Int) : (G.onlL gs a b).length ≤ gs.length + 1 := G.rowF_len _ _
set_option maxRecDepth 100000 in
set_option maxHeartbeats 4000000 in
theorem plain_any (w : World) (v : Value) (gs : List (List Int)) (onto frm : Int) (hG : G.Rows w v gs) (hN : gs.length ≤ 2000) :
    Calls Tryz.prog 35 #[v, .int .i64 onto, .int .i64 frm] w (OwnTo 41 3 cF (plainS gs onto frm) w) := by
  have ON := G.only_any w v gs frm onto hG hN
  obtain ⟨X, hX⟩ : ∃ X, X = G.onlL gs frm onto := ⟨_, rfl⟩
  have HX := Lib.hid (show ∀ x ∈ X, 1 ≤ x ∧ x ≤ (gs.length : Int) by rw [hX]; exact fun x hx => onlL_in hx)
  have XL := Lib.hid (show X.length ≤ 2001 by rw [hX]; have := onlL_len gs frm onto; omega)
  have HP := Lib.hid (show plainS gs onto frm = pickL gs X by rw [hX]; rfl)
  rw [← hX] at ON
  unfold G.Nums at ON
  have ON1 := Lib.hid ON
  have HG := Lib.hid fun W (hW : Below w.heap.size w W) => hG.below hW
  obtain ⟨A, cg, rfl⟩ := hG.form
  have x0 : (0 : Int) ≤ (X.length : Int) := Int.natCast_nonneg _
  have x9 : (X.length : Int) ≤ 2001 := by have := XL.out; omega
  have g0 : (0 : Int) ≤ (gs.length : Int) := Int.natCast_nonneg _
  have g9 : (gs.length : Int) ≤ 2000 := by omega
  clear ON hG hX
  go_enter Tryz.func35, Tryz.ntmps35
  go_wp2_with fail
  refine ON1.out.mono ?_
  rintro e w1 ⟨u, rfl, oX, b1⟩
  have B1 := Lib.hid b1
  have IX := Lib.hid fun W (hW : Below w1.heap.size w1 W) => (G.Ints.of_own oX rfl).below hW
  obtain ⟨A1, c1, rfl⟩ := G.own_form oX
  clear ON1 oX b1
  go_wp2_with fail
  go_loopw [7, 9, 15] (fun s7 _ s15 wr => ∃ k : Nat, k ≤ X.length ∧ s15 = .int .i64 k ∧ Hid (wr.ownsRow w1.heap.size 41 3 s7 (pickL gs (X.take k)).length ((pickL gs (X.take k)).flatMap cF)) ∧ Hid (Below w1.heap.size w1 wr)) (fun _ _ s15 _ => X.length - (intOf s15).toNat)
  case atStart => exact ⟨0, Nat.zero_le _, rfl, Lib.hid (World.ownsRow_nil _ _ _ _), Lib.hid (Below.refl _ _)⟩
  case round =>
    obtain ⟨k, hk, rfl, HO, HB⟩ := hrel
    have k0 : (0 : Int) ≤ (k : Int) := Int.natCast_nonneg _
    by_cases hlt : k < X.length
    · obtain ⟨x, hx⟩ : ∃ x, X[k]? = some x := ⟨_, List.getElem?_eq_getElem hlt⟩
      have hki : (k : Int) < (X.length : Int) := by omega
      obtain ⟨ad, had, c0⟩ := (IX.out wr HB.out).cell hx
      subst had
      have hxr := HX.out x (List.mem_of_getElem? hx)
      have SN := Lib.hid (pickL_snoc gs hx)
      obtain ⟨i, hi⟩ : ∃ i : Nat, x = (i : Int) + 1 := ⟨(x - 1).toNat, by omega⟩
      subst hi
      have hil : i < gs.length := by omega
      obtain ⟨l, hl⟩ : ∃ l, gs[i]? = some l := ⟨_, List.getElem?_eq_getElem hil⟩
      obtain ⟨ag, ug, rfl, d0, hI⟩ := (HG.out wr (B1.out.trans (HB.out.mono B1.out.size))).cell hl
      obtain ⟨A2, c2, rfl⟩ := hI.form
      rw [par_at hl] at SN
      have hw : IntKind.i64.wrap ((i : Int) + 1 - 1) = (i : Int) := by rw [IntKind.wrap_i64] <;> omega
      have hii : (i : Int) < (gs.length : Int) := by omega
      have i0 : (0 : Int) ≤ (i : Int) := Int.natCast_nonneg _
      have HLT := Lib.hid hlt
      have PL := Lib.hid (show (pickL gs (X.take k)).length ≤ 2001 by have := pickL_len gs (X.take k); rw [List.length_take] at this; have := XL.out; omega)
      obtain ⟨acc, hacc⟩ : ∃ acc, acc = pickL gs (X.take k) := ⟨_, rfl⟩
      rw [← hacc] at SN PL HO
      clear hx hlt hk hxr hl hI hacc
      by_cases h2 : l.length < 2
      · rw [if_pos h2] at SN
        have e1 : decide ((l.length : Int) < 2) = true := decide_eq_true (by omega)
        have e2 : decide (l.length < 2) = true := decide_eq_true h2
        have h2i : (l.length : Int) < 2 := by omega
        have O4 := Lib.hid (HO.out.alloc (.cells #[.string bPick, .int .i64 ((i : Int) + 1), .string ⟨#[]⟩] 41))
        have R4 := Lib.hid (reads_one_step (bPick, (i : Int) + 1, ⟨#[]⟩) (Blk.new wr 41 #[.string bPick, .int .i64 ((i : Int) + 1), .string ⟨#[]⟩]))
        have B4 := Lib.hid (HB.out.alloc HB.out.size (.cells #[.string bPick, .int .i64 ((i : Int) + 1), .string ⟨#[]⟩] 41))
        obtain ⟨A4, c4, hv4⟩ := own_form HO.out
        subst hv4
        unfold bPick at O4 R4 B4
        go_upto_region 7 with (at_builtin; go_loud (refine wpList_append_steps (wr.alloc (.cells #[.string ⟨#[112, 105, 99, 107]⟩, .int .i64 ((i : Int) + 1), .string ⟨#[]⟩] 41)) rfl (.tmp 26) (.tmp 29) rfl w1.heap.size _ acc [(⟨#[112, 105, 99, 107]⟩, (i : Int) + 1, ⟨#[]⟩)] rfl O4.out _ _ _ rfl R4.out (by have := PL.out; simp; omega) B4.out.size ?_; intro A' c' w5 o5 b5 g5; have O5 := Lib.hid o5; have B5 := Lib.hid (B4.out.trans b5); clear o5 b5 g5))
        clear c0 d0 e1 e2 h2 h2i O4 R4 B4 HO
        go_wp2
        go_roundw
        case rel => exact ⟨k + 1, by have := HLT.out; omega, by go_num, Lib.hid (by rw [SN.out]; have := O5.out; rw [show (acc ++ [((⟨#[112, 105, 99, 107]⟩ : ByteArray), (i : Int) + 1, (⟨#[]⟩ : ByteArray))]).length = acc.length + 1 by simp] at this; rw [show (acc ++ [(bPick, (i : Int) + 1, (⟨#[]⟩ : ByteArray))]).length = acc.length + 1 by simp]; exact this), B5⟩
        case measure => have := HLT.out; simp [intOf]; omega
      · rw [if_neg h2, List.append_nil] at SN
        have e1 : decide ((l.length : Int) < 2) = false := decide_eq_false (by omega)
        have e2 : decide (l.length < 2) = false := decide_eq_false h2
        have h2i : ¬ (l.length : Int) < 2 := by omega
        go_wp2
        go_roundw
        case rel => exact ⟨k + 1, by have := HLT.out; omega, by go_num, Lib.hid (by rw [SN.out]; exact HO.out), HB⟩
        case measure => have := HLT.out; simp [intOf]; omega
    · obtain rfl : k = X.length := by omega
      have HO2 := Lib.hid (show wr.ownsRow w1.heap.size 41 3 u7 (pickL gs X).length ((pickL gs X).flatMap cF) by have := HO.out; rw [List.take_length] at this; exact this)
      clear HO hlt hk
      go_wp2
      go_ret
      exact ⟨_, rfl, by rw [HP.out]; exact own_lower HO2.out B1.out.size, B1.out.trans (HB.out.mono B1.out.size)⟩
end Go.Proofs.YtanjcjnkppnhcaaGreatDoor

namespace Go.Proofs.YtanjcjnkppnhcaaGreatDoor
open Go Go.RowKit

set_option maxRecDepth 100000 in
set_option maxHeartbeats 4000000 in
theorem same_yes (w : World) (va vb : Value) (l : List Fl) (ha : Reads 3 cF w va l) (hb : Reads 3 cF w vb l) :
    Calls Tryz.prog 12 #[va, vb] w fun e w' => e = .returned (.bool true) ∧ Below w.heap.size w w' := by
  obtain ⟨A1, c1, rfl⟩ := ha.form
  obtain ⟨A2, c2, rfl⟩ := hb.form
  have HLN := ha.len
  have hlm : (l.length : Int) ≤ 9223372036854775807 := by have := HLN.2; unfold maxLen at this; omega
  have HA := Lib.hid fun W (hW : Below w.heap.size w W) => ha.below hW
  have HB2 := Lib.hid fun W (hW : Below w.heap.size w W) => hb.below hW
  have l0 : (0 : Int) ≤ (l.length : Int) := Int.natCast_nonneg _
  clear ha hb HLN
  go_enter Tryz.func12, Tryz.ntmps12
  go_wp2_with fail
  go_loopw [5] (fun s5 wr => ∃ k : Nat, k ≤ l.length ∧ s5 = .int .i64 k ∧ Hid (Below w.heap.size w wr)) (fun s5 _ => l.length - (intOf s5).toNat)
  case atStart => exact ⟨0, Nat.zero_le _, rfl, Lib.hid (Below.refl _ _)⟩
  case round =>
    obtain ⟨k, hk, rfl, HB⟩ := hrel
    have k0 : (0 : Int) ≤ (k : Int) := Int.natCast_nonneg _
    by_cases hlt : k < l.length
    · obtain ⟨x, hx⟩ : ∃ x, l[k]? = some x := ⟨_, List.getElem?_eq_getElem hlt⟩
      have hki : (k : Int) < (l.length : Int) := by omega
      obtain ⟨ad, rfl, c0, c1', c2'⟩ := Fils.at_ (HA.out wr HB.out) hx
      obtain ⟨ae, rfl, d0, d1, d2⟩ := Fils.at_ (HB2.out wr HB.out) hx
      obtain ⟨v, c, t⟩ := x
      dsimp only at c0 c1' c2' d0 d1 d2
      have HLT := Lib.hid hlt
      clear hx hlt hk
      go_wp2_with fail
      go_quiet (fail)
      have HB3 := Lib.hid (below_drewN HB.out nq)
      go_wp2_with fail
      go_roundw
      case rel => exact ⟨k + 1, by have := HLT.out; omega, by go_num, HB3⟩
      case measure => have := HLT.out; simp [intOf]; omega
    · obtain rfl : k = l.length := by omega
      go_wp2
      go_ret
      exact ⟨rfl, HB.out⟩
end Go.Proofs.YtanjcjnkppnhcaaGreatDoor
