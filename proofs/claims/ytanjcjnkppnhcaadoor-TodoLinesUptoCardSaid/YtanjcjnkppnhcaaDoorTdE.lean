/-
  todo: a line as a step.
-/
import Derived.Test.YtanjcjnkppnhcaaDoorTdD
namespace Go.Proofs.YtanjcjnkppnhcaaDoor
open Go Go.RowKit

abbrev flZero : Fl := (⟨#[]⟩, 0, ⟨#[]⟩)
/-- A line as a step; whether there is one; what is wrong. -/
def lineP (s : List UInt8) : Fl × Bool × Int :=
  if (wordP s).1 = [] ∨ (wordP s).1.head? = some 35 then (flZero, false, 0)
  else if (wordP (wordP s).2).1 = [] then (flZero, false, 2)
  else if knownV (mkW (wordP s).1) = false then (flZero, false, 5)
  else if (numP (wordP (wordP s).2).1).2 = false ∨ (numP (wordP (wordP s).2).1).1 = 0 then (flZero, false, 1)
  else if (textP (mkW (wordP s).1) (wordP (wordP s).2).2).2 ≠ 0 then (flZero, false, (textP (mkW (wordP s).1) (wordP (wordP s).2).2).2)
  else ((mkW (wordP s).1, ((numP (wordP (wordP s).2).1).1 : Int), mkW (textP (mkW (wordP s).1) (wordP (wordP s).2).2).1), true, 0)
def LineTo (o : Fl × Bool × Int) (w : World) (e : Ending) (w' : World) : Prop := e = .returned (.tuple #[.agg #[.string o.1.1, .int .i64 o.1.2.1, .string o.1.2.2], .bool o.2.1, .int .i64 o.2.2]) ∧ Below w.heap.size w w'
theorem results_cell_tmp2 {fn : Func} {p u v : Tmp} {ty : TypeId} (h : fn.results = #[.cell p ty, .tmp u, .tmp v]) (tmps : Array Value) (P : Program) (w : World) :
    (results fn tmps).run P w =
      ((asAddr (tmps.getD p undef)).run P w).andThen fun a w1 => ((loadVar ty a).run P w1).andThen fun x w2 => .ok (.tuple #[x, tmps.getD u undef, tmps.getD v undef]) w2 := by
  simp only [results, h]
  simp [Sem.run_bind, Result.andThen]
theorem results_row_tmp2 {P : Program} {fn : Func} {p u v : Tmp} {ty : TypeId} (h : fn.results = #[.cell p ty, .tmp u, .tmp v]) (tmps : Array Value) (w : World) (g : Nat) (t : TypeId) (cs : Array Value) (fr : Nat × Nat) (d : TypeDesc)
    (hp : tmps.getD p undef = .pointer (some ⟨g, 0, none⟩)) (hg : w.heap[g]? = some (.cells cs t fr))
    (hu : P.underlying ty = some d) (hd : (match d with | .struct _ | .array _ _ => true | _ => false) = true) (hi : (P.info? ty).map (·.size) = some cs.size) :
    (results fn tmps).run P w = .ok (.tuple #[.agg cs, tmps.getD u undef, tmps.getD v undef]) w := by
  rw [results_cell_tmp2 h, hp]
  simp [asAddr, run_loadVar_row w g t ty cs fr d hg hu hd hi, Result.andThen]
theorem stepSize : (Tryd.prog.info? 37).map (·.size) = some 3 := by kernel_rfl
theorem row3s {w : World} {g : Nat} {cs : Array Value} (h : Blk w g 37 cs) (hs : cs.size = 3) (a b c : Value) : Blk (((w.setCell ⟨g, 0, none⟩ a).setCell ⟨g, 1, none⟩ b).setCell ⟨g, 2, none⟩ c) g 37 #[a, b, c] := by
  have := ((h.set_ 0 a).set_ 1 b).set_ 2 c
  match cs, hs with
  | ⟨[x, y, z]⟩, _ => simpa using this
theorem below3s {B : Nat} {w w' : World} {g : Nat} (h : Below B w w') (hg : B ≤ g) (a b c : Value) : Below B w (((w'.setCell ⟨g, 0, none⟩ a).setCell ⟨g, 1, none⟩ b).setCell ⟨g, 2, none⟩ c) :=
  ((h.setCell (p := ⟨g, 0, none⟩) hg a).setCell (p := ⟨g, 1, none⟩) hg b).setCell (p := ⟨g, 2, none⟩) hg c
theorem word_len (l : List UInt8) : (wordP l).1.length ≤ l.length ∧ (wordP l).2.length ≤ l.length := by
  have := trim_len l 32
  unfold wordP
  split
  · exact ⟨this, Nat.zero_le _⟩
  · exact ⟨by rw [List.length_take]; omega, by rw [List.length_drop]; omega⟩
theorem head_of {s : ByteArray} (h : 0 < s.size) : s.data.toList.head? = some s[0] := by
  rw [List.head?_eq_getElem?]
  exact List.getElem?_eq_getElem (by rw [size_listB]; exact h)
set_option maxRecDepth 100000 in
set_option maxHeartbeats 4000000 in
theorem line_any (s : ByteArray) (w : World) (hs : s.size ≤ 9223372036854775807) : Calls Tryd.prog 20 #[.string s] w (LineTo (lineP s.data.toList) w) := by
  obtain ⟨v, hv⟩ : ∃ v, v = mkW (wordP s.data.toList).1 := ⟨_, rfl⟩
  obtain ⟨r, hr⟩ : ∃ r, r = mkW (wordP s.data.toList).2 := ⟨_, rfl⟩
  obtain ⟨m, hm⟩ : ∃ m, m = mkW (wordP r.data.toList).1 := ⟨_, rfl⟩
  obtain ⟨r2, hr2⟩ : ∃ z, z = mkW (wordP r.data.toList).2 := ⟨_, rfl⟩
  have ev : (wordP s.data.toList).1 = v.data.toList := by rw [hv, list_mkW]
  have er : (wordP s.data.toList).2 = r.data.toList := by rw [hr, list_mkW]
  have em : (wordP r.data.toList).1 = m.data.toList := by rw [hm, list_mkW]
  have er2 : (wordP r.data.toList).2 = r2.data.toList := by rw [hr2, list_mkW]
  have lr : r.size ≤ 9223372036854775807 := by have := (word_len s.data.toList).2; rw [er, size_listB, size_listB] at this; omega
  have lm : m.size ≤ 9223372036854775807 := by have := (word_len r.data.toList).1; rw [em, size_listB, size_listB] at this; omega
  have lr2 : r2.size ≤ 9223372036854775807 := by have := (word_len r.data.toList).2; rw [er2, size_listB, size_listB] at this; omega
  have W1 := Lib.hid fun W => word_any s W hs
  have W2 := Lib.hid fun W => word_any r W lr
  rw [← hv, ← hr] at W1
  rw [← hm, ← hr2] at W2
  have KV := Lib.hid fun W => knownV_any v W
  have NM := Lib.hid fun W => number_any m W lm
  have TX := Lib.hid fun W => text_any v r2 W lr2
  obtain ⟨n, hn⟩ : ∃ n, n = numP m.data.toList := ⟨_, rfl⟩
  obtain ⟨x, hx⟩ : ∃ x, x = textP v r2.data.toList := ⟨_, rfl⟩
  rw [← hn] at NM
  rw [← hx] at TX
  have HL := Lib.hid (show lineP s.data.toList = if v.data.toList = [] ∨ v.data.toList.head? = some 35 then (flZero, false, 0) else if m.data.toList = [] then (flZero, false, 2) else if knownV v = false then (flZero, false, 5)
      else if n.2 = false ∨ n.1 = 0 then (flZero, false, 1) else if x.2 ≠ 0 then (flZero, false, x.2) else ((v, (n.1 : Int), mkW x.1), true, 0) by
    unfold lineP
    rw [er, ev, em, er2, mkW_list, ← hn, ← hx])
  clear hv hr hm hr2 ev er em er2 lr lm lr2 hn hx hs
  have G0 := Lib.hid (Blk.new w 37 #[.string ⟨#[]⟩, .int .i64 0, .string ⟨#[]⟩])
  have B1 := Lib.hid ((Below.refl w.heap.size w).alloc (Nat.le_refl _) (.cells #[.string ⟨#[]⟩, .int .i64 0, .string ⟨#[]⟩] 37))
  obtain ⟨g, hg⟩ : ∃ g, g = w.heap.size := ⟨_, rfl⟩
  have HG := Lib.hid hg
  rw [← hg] at G0
  go_enter Tryd.func20, Tryd.ntmps20
  go_wp2_with fail
  rw [← hg]
  clear hg
  refine (W1.out _).mono ?_
  rintro e w2 ⟨rfl, q, rfl⟩
  have X2 := Lib.hid (show Blk ((w.alloc (.cells #[.string ⟨#[]⟩, .int .i64 0, .string ⟨#[]⟩] 37)).drewN q) g 37 _ from G0.out)
  have B2 := Lib.hid (below_drewN B1.out q)
  clear G0 B1
  generalize (w.alloc (.cells #[.string ⟨#[]⟩, .int .i64 0, .string ⟨#[]⟩] 37)).drewN q = w2 at *
  by_cases h1 : v.data.toList = []
  · have HV := Lib.hid (show lineP s.data.toList = (flZero, false, 0) by rw [HL.out, if_pos (.inl h1)])
    obtain rfl : v = ⟨#[]⟩ := bytesB_eq h1
    clear h1 HL
    have c0 := X2.out.cell 0
    have f0 := X2.out.frozen 0
    have c1 := X2.out.cell 1
    have f1 := X2.out.frozen 1
    have c2 := X2.out.cell 2
    have f2 := X2.out.frozen 2
    go_wp2
    exact bodyPost_ret (results_row_tmp2 (fn := Tryd.f20) rfl _ _ g 37 _ (0, 0) _ rfl (row3s X2.out rfl (.string ⟨#[]⟩) (.int .i64 0) (.string ⟨#[]⟩)) Tryd.underlying37 rfl stepSize) rfl ⟨by rw [HV.out]; rfl, below3s B2.out (by rw [HG.out]; exact Nat.le_refl _) _ _ _⟩
  obtain ⟨n1, n2⟩ := not_nilB h1
  have hv0 : 0 < v.size := by
    rcases Nat.eq_zero_or_pos v.size with h | h
    · exact absurd (congrArg (fun b : ByteArray => b.data.toList) (nil_ofB h)) h1
    · exact h
  have hv0i : (0 : Int) < (v.size : Int) := by omega
  have hd := head_of hv0
  by_cases h35 : v[0] = 35
  · have HV := Lib.hid (show lineP s.data.toList = (flZero, false, 0) by rw [HL.out, if_pos (.inr (by rw [hd, h35]))])
    have b1 : ((v[0].toNat : Int) == 35) = true := by rw [h35]; rfl
    have b2 : (v[0].toNat : Int) = 35 := by rw [h35]; rfl
    clear h35 HL hd h1
    have c0 := X2.out.cell 0
    have f0 := X2.out.frozen 0
    have c1 := X2.out.cell 1
    have f1 := X2.out.frozen 1
    have c2 := X2.out.cell 2
    have f2 := X2.out.frozen 2
    go_wp2
    exact bodyPost_ret (results_row_tmp2 (fn := Tryd.f20) rfl _ _ g 37 _ (0, 0) _ rfl (row3s X2.out rfl (.string ⟨#[]⟩) (.int .i64 0) (.string ⟨#[]⟩)) Tryd.underlying37 rfl stepSize) rfl ⟨by rw [HV.out]; rfl, below3s B2.out (by rw [HG.out]; exact Nat.le_refl _) _ _ _⟩
  have HQ := Lib.hid (show ¬ (v.data.toList = [] ∨ v.data.toList.head? = some 35) from fun e => e.elim h1 fun e => h35 (by rw [hd] at e; exact Option.some.inj e))
  have b2 : ¬ (v[0].toNat : Int) = 35 := fun e => h35 (UInt8.toNat_inj.1 (by show v[0].toNat = 35; omega))
  have b1 : ((v[0].toNat : Int) == 35) = false := by simpa using b2
  clear h35 hd h1
  go_wp2_with fail
  clear b1 b2 n1 n2
  refine (W2.out _).mono ?_
  rintro e w3 ⟨rfl, q3, rfl⟩
  have X3 := Lib.hid (show Blk (w2.drewN q3) g 37 _ from X2.out)
  have B3 := Lib.hid (below_drewN B2.out q3)
  clear X2 B2
  generalize w2.drewN q3 = w3 at *
  by_cases h2 : m.data.toList = []
  · have HV := Lib.hid (show lineP s.data.toList = (flZero, false, 2) by rw [HL.out, if_neg HQ.out, if_pos h2])
    obtain rfl : m = ⟨#[]⟩ := bytesB_eq h2
    clear h2 HL
    have c0 := X3.out.cell 0
    have f0 := X3.out.frozen 0
    have c1 := X3.out.cell 1
    have f1 := X3.out.frozen 1
    have c2 := X3.out.cell 2
    have f2 := X3.out.frozen 2
    go_wp2
    exact bodyPost_ret (results_row_tmp2 (fn := Tryd.f20) rfl _ _ g 37 _ (0, 0) _ rfl (row3s X3.out rfl (.string ⟨#[]⟩) (.int .i64 0) (.string ⟨#[]⟩)) Tryd.underlying37 rfl stepSize) rfl ⟨by rw [HV.out]; rfl, below3s B3.out (by rw [HG.out]; exact Nat.le_refl _) _ _ _⟩
  have HM := Lib.hid h2
  obtain ⟨n1, n2⟩ := not_nilB h2
  clear h2
  go_wp2_with fail
  clear n1 n2
  refine (KV.out _).mono ?_
  rintro e w4 ⟨rfl, rfl⟩
  cases h3 : knownV v with
  | false =>
    have HV := Lib.hid (show lineP s.data.toList = (flZero, false, 5) by rw [HL.out, if_neg HQ.out, if_neg HM.out, if_pos h3])
    clear h3 HL
    have c0 := X3.out.cell 0
    have f0 := X3.out.frozen 0
    have c1 := X3.out.cell 1
    have f1 := X3.out.frozen 1
    have c2 := X3.out.cell 2
    have f2 := X3.out.frozen 2
    go_wp2
    exact bodyPost_ret (results_row_tmp2 (fn := Tryd.f20) rfl _ _ g 37 _ (0, 0) _ rfl (row3s X3.out rfl (.string ⟨#[]⟩) (.int .i64 0) (.string ⟨#[]⟩)) Tryd.underlying37 rfl stepSize) rfl ⟨by rw [HV.out]; rfl, below3s B3.out (by rw [HG.out]; exact Nat.le_refl _) _ _ _⟩
  | true =>
    have HK := Lib.hid (show ¬ knownV v = false by rw [h3]; simp)
    clear h3
    go_wp2_with fail
    refine (NM.out _).mono ?_
    rintro e w5 ⟨rfl, rfl⟩
    obtain ⟨nv, nb⟩ := n
    dsimp only at HL NM ⊢
    by_cases h4 : nb = false ∨ nv = 0
    · have HV := Lib.hid (show lineP s.data.toList = (flZero, false, 1) by rw [HL.out, if_neg HQ.out, if_neg HM.out, if_neg HK.out, if_pos h4])
      clear HL NM
      cases nb with
      | false =>
        clear h4
        have c0 := X3.out.cell 0
        have f0 := X3.out.frozen 0
        have c1 := X3.out.cell 1
        have f1 := X3.out.frozen 1
        have c2 := X3.out.cell 2
        have f2 := X3.out.frozen 2
        go_wp2
        exact bodyPost_ret (results_row_tmp2 (fn := Tryd.f20) rfl _ _ g 37 _ (0, 0) _ rfl (row3s X3.out rfl (.string ⟨#[]⟩) (.int .i64 0) (.string ⟨#[]⟩)) Tryd.underlying37 rfl stepSize) rfl ⟨by rw [HV.out]; rfl, below3s B3.out (by rw [HG.out]; exact Nat.le_refl _) _ _ _⟩
      | true =>
        obtain rfl : nv = 0 := h4.elim (fun e => by cases e) id
        clear h4
        have c0 := X3.out.cell 0
        have f0 := X3.out.frozen 0
        have c1 := X3.out.cell 1
        have f1 := X3.out.frozen 1
        have c2 := X3.out.cell 2
        have f2 := X3.out.frozen 2
        go_wp2
        exact bodyPost_ret (results_row_tmp2 (fn := Tryd.f20) rfl _ _ g 37 _ (0, 0) _ rfl (row3s X3.out rfl (.string ⟨#[]⟩) (.int .i64 0) (.string ⟨#[]⟩)) Tryd.underlying37 rfl stepSize) rfl ⟨by rw [HV.out]; rfl, below3s B3.out (by rw [HG.out]; exact Nat.le_refl _) _ _ _⟩
    · have HN := Lib.hid h4
      obtain rfl : nb = true := by cases nb; exact absurd (.inl rfl) h4; rfl
      have hn0 : ¬ (nv : Int) = 0 := fun e => h4 (.inr (by omega))
      have hn1 : ((nv : Int) == 0) = false := by simpa using hn0
      clear h4
      go_wp2_with fail
      clear hn0 hn1
      refine (TX.out _).mono ?_
      rintro e w6 ⟨rfl, q6, rfl⟩
      have X6 := Lib.hid (show Blk (w5.drewN q6) g 37 _ from X3.out)
      have B6 := Lib.hid (below_drewN B3.out q6)
      clear X3 B3
      generalize w5.drewN q6 = w6 at *
      obtain ⟨xt, xe⟩ := x
      dsimp only at HL TX ⊢
      by_cases h5 : xe = 0
      · subst h5
        have HV := Lib.hid (show lineP s.data.toList = ((v, (nv : Int), mkW xt), true, 0) by rw [HL.out, if_neg HQ.out, if_neg HM.out, if_neg HK.out, if_neg HN.out, if_neg (by simp)])
        clear HL TX
        have c0 := X6.out.cell 0
        have f0 := X6.out.frozen 0
        have c1 := X6.out.cell 1
        have f1 := X6.out.frozen 1
        have c2 := X6.out.cell 2
        have f2 := X6.out.frozen 2
        go_wp2
        exact bodyPost_ret (results_row_tmp2 (fn := Tryd.f20) rfl _ _ g 37 _ (0, 0) _ rfl (row3s X6.out rfl (.string v) (.int .i64 (nv : Int)) (.string (mkW xt))) Tryd.underlying37 rfl stepSize) rfl ⟨by rw [HV.out]; rfl, below3s B6.out (by rw [HG.out]; exact Nat.le_refl _) _ _ _⟩
      · have HV := Lib.hid (show lineP s.data.toList = (flZero, false, xe) by rw [HL.out, if_neg HQ.out, if_neg HM.out, if_neg HK.out, if_neg HN.out, if_pos h5])
        have h5b : (xe == 0) = false := by simpa using h5
        clear HL TX
        have c0 := X6.out.cell 0
        have f0 := X6.out.frozen 0
        have c1 := X6.out.cell 1
        have f1 := X6.out.frozen 1
        have c2 := X6.out.cell 2
        have f2 := X6.out.frozen 2
        go_wp2
        exact bodyPost_ret (results_row_tmp2 (fn := Tryd.f20) rfl _ _ g 37 _ (0, 0) _ rfl (row3s X6.out rfl (.string ⟨#[]⟩) (.int .i64 0) (.string ⟨#[]⟩)) Tryd.underlying37 rfl stepSize) rfl ⟨by rw [HV.out]; rfl, below3s B6.out (by rw [HG.out]; exact Nat.le_refl _) _ _ _⟩
end Go.Proofs.YtanjcjnkppnhcaaDoor
