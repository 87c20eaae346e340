/-
  CmdBack: the law.
-/
import Derived.Test.YtanjcjnkppnhcaaGreatDoorQBJ
import Derived.Test.YtanjcjnkppnhcaaGreatDoorQBK
import Derived.Test.YtanjcjnkppnhcaaGreatDoorQAY
import Derived.Test.YtanjcjnkppnhcaaGreatDoorQBL

namespace Go.Proofs.YtanjcjnkppnhcaaGreatDoor
open Go Go.RowKit

structure BB (w : World) (g : Nat) (xs : Array Value) (g3 : Nat) (ys : Array Value) (v : World) : Prop where
  one : Blk v g 52 xs
  two : Blk v g3 31 ys
  bel : Below w.heap.size w v
theorem BB.below {w : World} {g g3 : Nat} {xs ys : Array Value} {v v' : World} (h : BB w g xs g3 ys v) (hb : Below v.heap.size v v') : BB w g xs g3 ys v' :=
  ⟨h.one.below hb h.one.lt, h.two.below hb h.two.lt, h.bel.trans (hb.mono h.bel.size)⟩
theorem BB.drew {w : World} {g g3 : Nat} {xs ys : Array Value} {v : World} (h : BB w g xs g3 ys v) : BB w g xs g3 ys v.drew := h.below (below_drewN (Below.refl _ v) 1)
structure B3 (w : World) (g5 : Nat) (xs : Array Value) (g7 : Nat) (zs : Array Value) (g8 : Nat) (ys : Array Value) (v : World) : Prop where
  one : Blk v g5 52 xs
  ref : Blk v g7 56 zs
  two : Blk v g8 31 ys
  bel : Below w.heap.size w v
theorem B3.below {w : World} {g5 g7 g8 : Nat} {xs zs ys : Array Value} {v v' : World} (h : B3 w g5 xs g7 zs g8 ys v) (hb : Below v.heap.size v v') : B3 w g5 xs g7 zs g8 ys v' :=
  ⟨h.one.below hb h.one.lt, h.ref.below hb h.ref.lt, h.two.below hb h.two.lt, h.bel.trans (hb.mono h.bel.size)⟩
theorem B3.drew {w : World} {g5 g7 g8 : Nat} {xs zs ys : Array Value} {v : World} (h : B3 w g5 xs g7 zs g8 ys v) : B3 w g5 xs g7 zs g8 ys v.drew := h.below (below_drewN (Below.refl _ v) 1)
structure FewP (nm tx : ByteArray) (l : List Fl) : Prop where
  nm : nm.size ≤ 100
  tx : tx.size ≤ 400
  len : l.length ≤ 40
  all : ∀ x ∈ l, x.1.size ≤ 50 ∧ x.2.2.size ≤ 400
theorem few_of {x : CP} (h : fewC x = true) : FewP x.2.1 x.2.2.2.1 x.2.2.2.2.2 := by
  unfold fewC at h
  simp only [Bool.and_eq_true, decide_eq_true_eq] at h
  obtain ⟨-, h2, h3, h4, h5⟩ := h
  refine ⟨h2, h3, h4, fun y hy => ?_⟩
  have := List.all_eq_true.1 h5 y hy
  unfold fewS at this
  simp only [Bool.and_eq_true, decide_eq_true_eq] at this
  exact ⟨this.2, this.1⟩
theorem itoa_21 {n : Int} (h0 : -9223372036854775808 ≤ n) (h1 : n ≤ 9223372036854775807) : (Lib.itoa n).length ≤ 21 := by
  have := numB_size h0 h1
  rw [← size_listB, numB_list] at this
  exact this
theorem stepG_len {x : Fl} (h : x.1.size ≤ 50 ∧ x.2.2.size ≤ 400) (h0 : -9223372036854775808 ≤ x.2.1) (h1 : x.2.1 ≤ 9223372036854775807) : (stepG x).length ≤ 500 := by
  have h2 := itoa_21 h0 h1
  unfold stepG
  simp only [List.length_append, List.length_cons, List.length_nil, size_listB]
  split
  · simp only [List.length_append, List.length_cons, List.length_nil, size_listB]; omega
  · simp only [List.length_nil]; omega
theorem stepsG_len : ∀ {l : List Fl}, (∀ x ∈ l, (stepG x).length ≤ 500) → (stepsG l).length ≤ 500 * l.length
  | [], _ => by simp [stepsG]
  | x :: l, h => by
    have h1 := h x (by simp)
    have h2 := stepsG_len fun y hy => h y (List.mem_cons_of_mem x hy)
    unfold stepsG at h2 ⊢
    rw [List.flatMap_cons, List.length_append, List.length_cons]
    omega
theorem textK_len {k : Nat} (hk : k < 20) {nm tx : ByteArray} {n : Int} {f : Bool} {l : List Fl} (h : FewP nm tx l) (h0 : -9223372036854775808 ≤ n) (h1 : n ≤ 9223372036854775807) (hl : ∀ x ∈ l, -9223372036854775808 ≤ x.2.1 ∧ x.2.1 ≤ 9223372036854775807) : (textK k nm n tx f l).length ≤ 100000 := by
  have a1 := vB_size k hk
  have a2 := h.nm
  have a3 := h.tx
  have a4 := itoa_21 h0 h1
  have a5 := stepsG_len fun x hx => stepG_len (h.all x hx) (hl x hx).1 (hl x hx).2
  have a6 := h.len
  unfold textK
  simp only [List.length_append, size_listB]
  have b1 : (if hasNmK k = true ∧ nm ≠ ⟨#[]⟩ then 32 :: nm.data.toList else []).length ≤ 101 := by
    split
    · rw [List.length_cons, size_listB]; omega
    · simp
  have b2 : (if hasNK k nm = true then 32 :: Lib.itoa n else []).length ≤ 22 := by
    split
    · rw [List.length_cons]; omega
    · simp
  have b3 : (if hasFK k = true ∧ f = true then [32, 45, 102] else ([] : List UInt8)).length ≤ 3 := by
    split <;> simp
  have b4 : (if hasTK k = true ∧ tx ≠ ⟨#[]⟩ then 32 :: tx.data.toList else []).length ≤ 401 := by
    split
    · rw [List.length_cons, size_listB]; omega
    · simp
  have b5 : (if k = 14 then 10 :: stepsG l else []).length ≤ 20001 := by
    split
    · rw [List.length_cons]; omega
    · simp
  omega
theorem FewP.T {k : Nat} {nm tx : ByteArray} {l : List Fl} (h : FewP nm tx l) : FewP (nmT k nm) (txT k tx) (lT k l) := by
  refine ⟨?_, ?_, ?_, ?_⟩
  · unfold nmT; split
    · exact h.nm
    · exact Nat.zero_le _
  · unfold txT; split
    · exact h.tx
    · exact Nat.zero_le _
  · unfold lT; split
    · rw [List.length_map]; exact h.len
    · exact Nat.zero_le _
  · intro x hx
    unfold lT at hx
    split at hx
    · obtain ⟨y, hy, rfl⟩ := List.mem_map.1 hx
      have := h.all y hy
      refine ⟨this.1, ?_⟩
      unfold nrmS
      dsimp only
      split
      · exact this.2
      · exact Nat.zero_le _
    · cases hx
theorem lT_int {k : Nat} {l : List Fl} (h : ∀ x ∈ l, -9223372036854775808 ≤ x.2.1 ∧ x.2.1 ≤ 9223372036854775807) : ∀ x ∈ lT k l, -9223372036854775808 ≤ x.2.1 ∧ x.2.1 ≤ 9223372036854775807 := by
  intro x hx
  unfold lT at hx
  split at hx
  · obtain ⟨y, hy, rfl⟩ := List.mem_map.1 hx
    exact h y hy
  · cases hx
theorem okG_of {nm tx : ByteArray} {l : List Fl} (h : FewP nm tx l) (hl : ∀ x ∈ l, -9223372036854775808 ≤ x.2.1 ∧ x.2.1 ≤ 9223372036854775807) : ∀ x ∈ l, StepOkG x := fun x hx => by
  have := h.all x hx
  exact ⟨by omega, by omega, hl x hx⟩
theorem to14_of {o : Int} (h : 0 ≤ o ∧ o ≤ 14) (h0 : o ≠ 0) : To14 o := by unfold To14; omega
set_option maxRecDepth 100000 in
set_option maxHeartbeats 16000000 in
theorem cmdBack_many (w : World) (v nm : ByteArray) (n : Int) (tx : ByteArray) (f : Bool) (l : List Fl) (A : Option Addr) (c : Nat) (hx : Reads 3 cF w (.slice A l.length c) l) (hn : -9223372036854775808 ≤ n ∧ n ≤ 9223372036854775807) (hl : ∀ x ∈ l, -9223372036854775808 ≤ x.2.1 ∧ x.2.1 ≤ 9223372036854775807) (m : Int) (hm : w.cell? ⟨1, 0, none⟩ = some (.int .i64 m)) (h1 : 1 < w.heap.size) (hE : ErrType w) (hT : PowTab w) (hfew : fewC (v, nm, n, tx, f, l) = false) :
    Calls Tryz.prog 5 #[.agg #[.string v, .string nm, .int .i64 n, .string tx, .bool f, .slice A l.length c]] w fun e w' => e = .returned (.bool true) ∧ Below w.heap.size w w' := by
  have KN := Lib.hid fun W (hW : Below w.heap.size w W) => known22_yes W m (by rw [hW.cell h1]; exact hm) (Nat.lt_of_lt_of_le h1 hW.size) (tabIs_below hT hW)
  have FX := Lib.hid fun W (hW : Below w.heap.size w W) => (show Calls Tryz.prog 22 #[.agg #[.string v, .string nm, .int .i64 n, .string tx, .bool f, .slice A l.length c]] W fun e w' => e = .returned (.bool false) ∧ Below W.heap.size W w' by
    have := few_any W (v, nm, n, tx, f, l) A c (hx.below hW)
    rw [hfew] at this
    exact this)
  have T0 := Lib.hid (Blk.new w 52 #[.string v, .string nm, .int .i64 n, .string tx, .bool f, .slice A l.length c])
  have B0 := Lib.hid ((Below.refl w.heap.size w).alloc (Nat.le_refl _) (.cells #[.string v, .string nm, .int .i64 n, .string tx, .bool f, .slice A l.length c] 52))
  obtain ⟨g, hg⟩ : ∃ g, g = w.heap.size := ⟨_, rfl⟩
  rw [← hg] at T0
  have _keep := And.intro hn (And.intro hl hE)
  clear _keep
  clear hx hn hl hm h1 hE hT hfew
  go_enter Tryz.func5, Tryz.ntmps5
  go_wp2_with fail
  rw [← hg]
  clear hg
  generalize w.alloc (.cells #[.string v, .string nm, .int .i64 n, .string tx, .bool f, .slice A l.length c] 52) = w0 at *
  refine (KN.out _ B0.out).mono ?_
  rintro e w1 ⟨rfl, d1⟩
  have T1 := Lib.hid (T0.out.below d1 T0.out.lt)
  have B1 := Lib.hid (B0.out.trans (d1.mono B0.out.size))
  clear d1 T0 B0 KN
  have x0 := T1.out.cell 0
  have x1 := T1.out.cell 1
  have x2 := T1.out.cell 2
  have x3 := T1.out.cell 3
  have x4 := T1.out.cell 4
  have x5 := T1.out.cell 5
  go_wp2_with fail
  refine (FX.out _ B1.out).mono ?_
  rintro e w2 ⟨rfl, d2⟩
  have T2 := Lib.hid (T1.out.below d2 T1.out.lt)
  have B2 := Lib.hid (B1.out.trans (d2.mono B1.out.size))
  clear d2 T1 B1 FX x0 x1 x2 x3 x4 x5
  go_wp2_with fail
  go_ret
  exact ⟨rfl, B2.out⟩
set_option maxRecDepth 100000 in
set_option maxHeartbeats 16000000 in
theorem cmdBack_bad (w : World) (v nm : ByteArray) (n : Int) (tx : ByteArray) (f : Bool) (l : List Fl) (A : Option Addr) (c : Nat) (hx : Reads 3 cF w (.slice A l.length c) l) (hn : -9223372036854775808 ≤ n ∧ n ≤ 9223372036854775807) (hl : ∀ x ∈ l, -9223372036854775808 ≤ x.2.1 ∧ x.2.1 ≤ 9223372036854775807) (m : Int) (hm : w.cell? ⟨1, 0, none⟩ = some (.int .i64 m)) (h1 : 1 < w.heap.size) (hE : ErrType w) (hT : PowTab w) (hfew : fewC (v, nm, n, tx, f, l) = true) (ho : chkV (v, nm, n, tx, f, l) ≠ 0) :
    Calls Tryz.prog 5 #[.agg #[.string v, .string nm, .int .i64 n, .string tx, .bool f, .slice A l.length c]] w fun e w' => e = .returned (.bool true) ∧ Below w.heap.size w w' := by
  have KN := Lib.hid fun W (hW : Below w.heap.size w W) => known22_yes W m (by rw [hW.cell h1]; exact hm) (Nat.lt_of_lt_of_le h1 hW.size) (tabIs_below hT hW)
  have FX := Lib.hid fun W (hW : Below w.heap.size w W) => (show Calls Tryz.prog 22 #[.agg #[.string v, .string nm, .int .i64 n, .string tx, .bool f, .slice A l.length c]] W fun e w' => e = .returned (.bool true) ∧ Below W.heap.size W w' by
    have := few_any W (v, nm, n, tx, f, l) A c (hx.below hW)
    rw [hfew] at this
    exact this)
  have T0 := Lib.hid (Blk.new w 52 #[.string v, .string nm, .int .i64 n, .string tx, .bool f, .slice A l.length c])
  have B0 := Lib.hid ((Below.refl w.heap.size w).alloc (Nat.le_refl _) (.cells #[.string v, .string nm, .int .i64 n, .string tx, .bool f, .slice A l.length c] 52))
  obtain ⟨g, hg⟩ : ∃ g, g = w.heap.size := ⟨_, rfl⟩
  rw [← hg] at T0
  have FP := few_of hfew
  have hs : nm.size ≤ 1000000 := by have := FP.nm; dsimp only at this; omega
  have O1 := Lib.hid fun W (hW : Below w.heap.size w W) => (show Calls Tryz.prog 24 #[.agg #[.string v, .string nm, .int .i64 n, .string tx, .bool f, .slice A l.length c]] W fun e w' => ∃ A1 c1, e = .returned (.agg #[.string v, .string nm, .int .i64 n, .string tx, .bool f, .slice A1 l.length c1]) ∧ Reads 3 cF w' (.slice A1 l.length c1) l ∧ Below W.heap.size W w' from ofCmd_any W (v, nm, n, tx, f, l) A c (hx.below hW) (by have := FP.len; dsimp only at this ⊢; omega))
  have RC := Lib.hid fun W (A1 : Option Addr) (c1 : Nat) (hr : Reads 3 cF W (.slice A1 l.length c1) l) => (show Calls Tryz.prog 23 #[.agg #[.string v, .string nm, .int .i64 n, .string tx, .bool f, .slice A1 l.length c1]] W (RfTo (placeV v) (chkV (v, nm, n, tx, f, l)) W) from refCheck_all W (v, nm, n, tx, f, l) A1 c1 hs hn.1 hr)
  have CK := Lib.hid fun W (hW : Below w.heap.size w W) => (show Calls Tryz.prog 25 #[.agg #[.string v, .string nm, .int .i64 n, .string tx, .bool f, .slice A l.length c]] W fun e w' => ((chkV (v, nm, n, tx, f, l) = 0 ∧ e = .returned .nilIface) ∨ ∃ F, chkV (v, nm, n, tx, f, l) ≠ 0 ∧ e = .returned (.iface 76 (.pointer (some ⟨F, 0, none⟩))) ∧ Blk w' F 78 #[.string bCmd, .int .i64 (placeV v), .iface 73 (.int .i64 (chkV (v, nm, n, tx, f, l)))]) ∧ Below W.heap.size W w' from check_all W (v, nm, n, tx, f, l) A c hs (hx.below hW))
  have VB := Lib.hid fun W => verbs_at W
  have RV := Lib.hid fun W => refVerbs_at W
  have TX := Lib.hid fun W u1 u2 (h : Strs W u1 verbsB) (h' : Strs W u2 verbsB) => (show Calls Tryz.prog 26 #[u1, u2] W fun e w' => e = .returned (.bool true) ∧ ∃ q, w' = W.drewN q by
    have := rTexts_any W u1 u2 verbsB verbsB h h'
    rw [decide_eq_true rfl] at this
    exact this)
  have h14 := to14_of (chkV_14 (v, nm, n, tx, f, l)) ho
  have hp := placeV_20 v
  obtain ⟨o, hoo⟩ : ∃ o, o = chkV (v, nm, n, tx, f, l) := ⟨_, rfl⟩
  rw [← hoo] at RC CK h14 ho
  clear hoo
  obtain ⟨p, hpp⟩ : ∃ p, p = placeV v := ⟨_, rfl⟩
  rw [← hpp] at RC CK hp
  clear hpp
  have TL := Lib.hid fun W (hW : Below w.heap.size w W) F gw (hF : Blk W F 78 #[.string bCmd, .int .i64 p, .iface 73 (.int .i64 o)]) (hgw : Blk W gw 91 #[.string bCmd, .int .i64 p]) => tells_all W F gw bCmd p o hF hgw (by decide) (by omega) (by omega) h14 (hE.below hW) (tabIs_below hT hW)
  have hob : (o == 0) = false := by simpa using ho
  have HO := Lib.hid ho
  have _keep := And.intro hl h1
  clear _keep
  clear hx hn hl hm h1 hE hT hfew FP hs h14 hp
  go_enter Tryz.func5, Tryz.ntmps5
  go_wp2_with fail
  rw [← hg]
  clear hg
  generalize w.alloc (.cells #[.string v, .string nm, .int .i64 n, .string tx, .bool f, .slice A l.length c] 52) = w0 at *
  refine (KN.out _ B0.out).mono ?_
  rintro e w1 ⟨rfl, d1⟩
  have T1 := Lib.hid (T0.out.below d1 T0.out.lt)
  have B1 := Lib.hid (B0.out.trans (d1.mono B0.out.size))
  clear d1 T0 B0 KN
  have x0 := T1.out.cell 0
  have x1 := T1.out.cell 1
  have x2 := T1.out.cell 2
  have x3 := T1.out.cell 3
  have x4 := T1.out.cell 4
  have x5 := T1.out.cell 5
  go_wp2_with fail
  refine (FX.out _ B1.out).mono ?_
  rintro e w2 ⟨rfl, d2⟩
  have T2 := Lib.hid (T1.out.below d2 T1.out.lt)
  have B2 := Lib.hid (B1.out.trans (d2.mono B1.out.size))
  clear d2 T1 B1 FX x0 x1 x2 x3 x4 x5
  have x0 := T2.out.cell 0
  have x1 := T2.out.cell 1
  have x2 := T2.out.cell 2
  have x3 := T2.out.cell 3
  have x4 := T2.out.cell 4
  have x5 := T2.out.cell 5
  go_wp2_with fail
  refine (O1.out _ B2.out).mono ?_
  rintro e w3 ⟨A1, c1, rfl, r3, d3⟩
  have T3 := Lib.hid (T2.out.below d3 T2.out.lt)
  have B3 := Lib.hid (B2.out.trans (d3.mono B2.out.size))
  have R3 := Lib.hid r3
  clear d3 T2 B2 x0 x1 x2 x3 x4 x5 r3
  go_wp2_with fail
  refine (RC.out _ A1 c1 R3.out).mono ?_
  rintro e w4 ⟨⟨h0, -⟩ | ⟨gw, -, rfl, -, hgw⟩, d4⟩
  · exact absurd h0 ho
  have T4 := Lib.hid (T3.out.below d4 T3.out.lt)
  have B4 := Lib.hid (B3.out.trans (d4.mono B3.out.size))
  have d5 := (Below.refl w4.heap.size w4).alloc (Nat.le_refl _) (.cells #[.slice (some ⟨gw, 0, none⟩) 1 1, .int .i64 o] 31)
  have G5 := Lib.hid (Blk.below hgw d5 (Blk.lt hgw))
  have T5 : Hid (BB w g #[.string v, .string nm, .int .i64 n, .string tx, .bool f, .slice A l.length c] w4.heap.size #[.slice (some ⟨gw, 0, none⟩) 1 1, .int .i64 o] (w4.alloc (.cells #[.slice (some ⟨gw, 0, none⟩) 1 1, .int .i64 o] 31))) := Lib.hid ⟨T4.out.below d5 T4.out.lt, Blk.new w4 31 _, B4.out.trans (d5.mono B4.out.size)⟩
  obtain ⟨g3, hg3⟩ : ∃ g, g = w4.heap.size := ⟨_, rfl⟩
  rw [← hg3] at T5
  clear d4 hgw T4 B4 T3 B3 R3 RC O1 d5
  go_upto_region 6 with fail
  rw [← hg3]
  clear hg3
  generalize w4.alloc (.cells #[.slice (some ⟨gw, 0, none⟩) 1 1, .int .i64 o] 31) = w5 at *
  have CC := Lib.hid fun V (h : BB w g #[.string v, .string nm, .int .i64 n, .string tx, .bool f, .slice A l.length c] g3 #[.slice (some ⟨gw, 0, none⟩) 1 1, .int .i64 o] V) => (⟨h.one.cell 0, h.one.cell 1, h.one.cell 2, h.one.cell 3, h.one.cell 4, h.one.cell 5, h.two.cell 0, h.two.cell 1⟩ : V.cell? ⟨g, 0, none⟩ = some (.string v) ∧ V.cell? ⟨g, 1, none⟩ = some (.string nm) ∧ V.cell? ⟨g, 2, none⟩ = some (.int .i64 n) ∧ V.cell? ⟨g, 3, none⟩ = some (.string tx) ∧ V.cell? ⟨g, 4, none⟩ = some (.bool f) ∧ V.cell? ⟨g, 5, none⟩ = some (.slice A l.length c) ∧ V.cell? ⟨g3, 0, none⟩ = some (.slice (some ⟨gw, 0, none⟩) 1 1) ∧ V.cell? ⟨g3, 1, none⟩ = some (.int .i64 o))
  have Td := Lib.hid (T5.out.drew)
  have Gd : Hid (Blk w5.drew gw 91 #[.string bCmd, .int .i64 p]) := Lib.hid G5.out
  clear T5 G5
  go_region_held3 (fun V => V.cell? ⟨g, 0, none⟩ = some (.string v) ∧ V.cell? ⟨g, 1, none⟩ = some (.string nm) ∧ V.cell? ⟨g, 2, none⟩ = some (.int .i64 n) ∧ V.cell? ⟨g, 3, none⟩ = some (.string tx) ∧ V.cell? ⟨g, 4, none⟩ = some (.bool f) ∧ V.cell? ⟨g, 5, none⟩ = some (.slice A l.length c) ∧ V.cell? ⟨g3, 0, none⟩ = some (.slice (some ⟨gw, 0, none⟩) 1 1) ∧ V.cell? ⟨g3, 1, none⟩ = some (.int .i64 o)) (first | with_reducible exact CC.out _ Td.out | with_reducible exact CC.out _ T6.out | with_reducible exact CC.out _ T7.out | with_reducible exact CC.out _ T8.out | with_reducible exact CC.out _ T9.out | with_reducible exact CC.out _ T10.out)
    (first
      | (go_at_call 25; with_reducible refine (CK.out _ Td.out.bel).mono ?_; rintro e v1 ⟨⟨h0, -⟩ | ⟨F, -, rfl, hF⟩, d6⟩; (· exact absurd h0 HO.out); have T6 := Lib.hid (Td.out.below d6); have G6 := Lib.hid (Blk.below Gd.out d6 (Blk.lt Gd.out)); have F6 := Lib.hid hF; clear hF d6)
      | (go_at_call 11; with_reducible refine (TL.out _ T6.out.bel F gw F6.out G6.out).mono ?_; rintro e v2 ⟨rfl, d7⟩; have T7 := Lib.hid (T6.out.below d7); clear d7)
      | (go_at_call 27; with_reducible refine (VB.out _).mono ?_; rintro e v3 ⟨ga, rfl, hca, -, d8⟩; have T8 := Lib.hid (T7.out.below d8); have P8 := Lib.hid (strs_verbs hca); clear hca d8)
      | (go_at_call 28; with_reducible refine (RV.out _).mono ?_; rintro e v4 ⟨gb, rfl, hcb, -, d9⟩; have T9 := Lib.hid (T8.out.below d9); have P9 := Lib.hid (P8.out.below d9); have Q9 := Lib.hid (strs_verbs hcb); clear hcb d9)
      | (go_at_call 26; with_reducible refine (TX.out _ _ _ P9.out Q9.out).mono ?_; rintro e v5 ⟨rfl, q5, h5⟩; have T10 := Lib.hid (T9.out.below (show Below v4.heap.size v4 v5 by rw [h5]; exact below_drewN (Below.refl _ _) q5)); clear h5))
  all_goals
    have y1 := T10.out.two.cell 1
    clear ho
    have ho := HO.out
    go_wp2_with fail
    go_ret
    exact ⟨rfl, T10.out.bel⟩
set_option maxRecDepth 100000 in
set_option maxHeartbeats 16000000 in
theorem cmdBack_good (w : World) (v nm : ByteArray) (n : Int) (tx : ByteArray) (f : Bool) (l : List Fl) (A : Option Addr) (c : Nat) (hx : Reads 3 cF w (.slice A l.length c) l) (hn : -9223372036854775808 ≤ n ∧ n ≤ 9223372036854775807) (hl : ∀ x ∈ l, -9223372036854775808 ≤ x.2.1 ∧ x.2.1 ≤ 9223372036854775807) (m : Int) (hm : w.cell? ⟨1, 0, none⟩ = some (.int .i64 m)) (h1 : 1 < w.heap.size) (hE : ErrType w) (hT : PowTab w) (hfew : fewC (v, nm, n, tx, f, l) = true) (ho : chkV (v, nm, n, tx, f, l) = 0) :
    Calls Tryz.prog 5 #[.agg #[.string v, .string nm, .int .i64 n, .string tx, .bool f, .slice A l.length c]] w fun e w' => e = .returned (.bool true) ∧ Below w.heap.size w w' := by
  have KN := Lib.hid fun W (hW : Below w.heap.size w W) => known22_yes W m (by rw [hW.cell h1]; exact hm) (Nat.lt_of_lt_of_le h1 hW.size) (tabIs_below hT hW)
  have FX := Lib.hid fun W (hW : Below w.heap.size w W) => (show Calls Tryz.prog 22 #[.agg #[.string v, .string nm, .int .i64 n, .string tx, .bool f, .slice A l.length c]] W fun e w' => e = .returned (.bool true) ∧ Below W.heap.size W w' by
    have := few_any W (v, nm, n, tx, f, l) A c (hx.below hW)
    rw [hfew] at this
    exact this)
  have T0 := Lib.hid (Blk.new w 52 #[.string v, .string nm, .int .i64 n, .string tx, .bool f, .slice A l.length c])
  have B0 := Lib.hid ((Below.refl w.heap.size w).alloc (Nat.le_refl _) (.cells #[.string v, .string nm, .int .i64 n, .string tx, .bool f, .slice A l.length c] 52))
  obtain ⟨g, hg⟩ : ∃ g, g = w.heap.size := ⟨_, rfl⟩
  rw [← hg] at T0
  have FP := few_of hfew
  have hs : nm.size ≤ 1000000 := by have := FP.nm; dsimp only at this; omega
  have O1 := Lib.hid fun W (hW : Below w.heap.size w W) => (show Calls Tryz.prog 24 #[.agg #[.string v, .string nm, .int .i64 n, .string tx, .bool f, .slice A l.length c]] W fun e w' => ∃ A1 c1, e = .returned (.agg #[.string v, .string nm, .int .i64 n, .string tx, .bool f, .slice A1 l.length c1]) ∧ Reads 3 cF w' (.slice A1 l.length c1) l ∧ Below W.heap.size W w' from ofCmd_any W (v, nm, n, tx, f, l) A c (hx.below hW) (by have := FP.len; dsimp only at this ⊢; omega))
  have RC := Lib.hid fun W (A1 : Option Addr) (c1 : Nat) (hr : Reads 3 cF W (.slice A1 l.length c1) l) => (show Calls Tryz.prog 23 #[.agg #[.string v, .string nm, .int .i64 n, .string tx, .bool f, .slice A1 l.length c1]] W (RfTo (placeV v) (chkV (v, nm, n, tx, f, l)) W) from refCheck_all W (v, nm, n, tx, f, l) A1 c1 hs hn.1 hr)
  have CK := Lib.hid fun W (hW : Below w.heap.size w W) => (show Calls Tryz.prog 25 #[.agg #[.string v, .string nm, .int .i64 n, .string tx, .bool f, .slice A l.length c]] W fun e w' => ((chkV (v, nm, n, tx, f, l) = 0 ∧ e = .returned .nilIface) ∨ ∃ F, chkV (v, nm, n, tx, f, l) ≠ 0 ∧ e = .returned (.iface 76 (.pointer (some ⟨F, 0, none⟩))) ∧ Blk w' F 78 #[.string bCmd, .int .i64 (placeV v), .iface 73 (.int .i64 (chkV (v, nm, n, tx, f, l)))]) ∧ Below W.heap.size W w' from check_all W (v, nm, n, tx, f, l) A c hs (hx.below hW))
  have VB := Lib.hid fun W => verbs_at W
  have RV := Lib.hid fun W => refVerbs_at W
  have TX := Lib.hid fun W u1 u2 (h : Strs W u1 verbsB) (h' : Strs W u2 verbsB) => (show Calls Tryz.prog 26 #[u1, u2] W fun e w' => e = .returned (.bool true) ∧ ∃ q, w' = W.drewN q by
    have := rTexts_any W u1 u2 verbsB verbsB h h'
    rw [decide_eq_true rfl] at this
    exact this)
  have _keep := hE
  clear _keep
  have TL := Lib.hid fun W => tells_none W
  obtain ⟨k, hk, hv, hpl⟩ : ∃ k, k < 20 ∧ v = vB k ∧ placeV v = (k : Int) := by
    rcases place_cases v with h | h
    · rw [show chkV (v, nm, n, tx, f, l) = 5 from chkV_no h] at ho
      cases ho
    · exact h
  have hck : checkK k nm n tx l = 0 := (chkV_k (x := (v, nm, n, tx, f, l)) hpl).symm.trans ho
  rw [ho] at RC CK
  clear ho hpl
  have hlen := textK_len hk (f := f) FP hn.1 hn.2 hl
  have TXT := Lib.hid fun W (hW : Below w.heap.size w W) => (show Calls Tryz.prog 29 #[.agg #[.string v, .string nm, .int .i64 n, .string tx, .bool f, .slice A l.length c]] W (SaidTo (textK k nm n tx f l) W) by
    rw [hv]
    exact cmdText_any k hk nm n tx f A l c W (by have := FP.nm; dsimp only at this; omega) (by have := FP.tx; dsimp only at this; omega) hn.1 hn.2 (hx.below hW) (by have := FP.len; dsimp only at this; omega) (okG_of FP hl) (tabIs_below hT hW))
  have SAY := Lib.hid fun W (A1 : Option Addr) (c1 : Nat) (hr : Reads 3 cF W (.slice A1 l.length c1) l) => (show Calls Tryz.prog 30 #[.agg #[.string v, .string nm, .int .i64 n, .string tx, .bool f, .slice A1 l.length c1]] W (SaidTo (textK k nm n tx f l) W) by
    rw [hv]
    exact refSay_any k hk nm n tx f A1 l c1 W (by have := FP.nm; dsimp only at this; omega) (by have := FP.tx; dsimp only at this; omega) hn.1 hn.2 hr (by have := FP.len; dsimp only at this; omega) (okG_of FP hl))
  have PT := Lib.hid fun (h9 : n ≤ 1000000) => parse_text hk nm n tx f l hck fun _ => h9
  have TT := text_T hk nm n tx f l hck
  have FPT := FP.T (k := k)
  dsimp only at FPT
  have hlT := lT_int (k := k) hl
  have hn2 : -9223372036854775808 ≤ ((nT k nm n : Nat) : Int) ∧ ((nT k nm n : Nat) : Int) ≤ 9223372036854775807 := by
    have := hn.2
    unfold nT
    split <;> omega
  obtain ⟨nm2, hnm2⟩ : ∃ x, x = nmT k nm := ⟨_, rfl⟩
  obtain ⟨nn, hnn⟩ : ∃ x, x = nT k nm n := ⟨_, rfl⟩
  obtain ⟨tx2, htx2⟩ : ∃ x, x = txT k tx := ⟨_, rfl⟩
  obtain ⟨f2, hf2⟩ : ∃ x, x = fT k f := ⟨_, rfl⟩
  obtain ⟨l2, hl2⟩ : ∃ x, x = lT k l := ⟨_, rfl⟩
  rw [← hnm2, ← hnn, ← htx2, ← hf2, ← hl2] at PT TT
  rw [← hnm2, ← htx2, ← hl2] at FPT
  rw [← hnn] at hn2
  rw [← hl2] at hlT
  clear hnm2 hnn htx2 hf2 hl2
  have PA := Lib.hid fun W (hW : Below w.heap.size w W) (s : ByteArray) (hs0 : s.data.toList = textK k nm n tx f l) (h9 : n ≤ 1000000) => (show Calls Tryz.prog 31 #[.string s] W fun e w' => ∃ A2 c2, e = .returned (.tuple #[.agg #[.string v, .string nm2, .int .i64 (nn : Int), .string tx2, .bool f2, .slice A2 l2.length c2], .nilIface]) ∧ Reads 3 cF w' (.slice A2 l2.length c2) l2 ∧ Below W.heap.size W w' by
    have h2 := cmdParse_any s W m (by rw [hW.cell h1]; exact hm) (Nat.lt_of_lt_of_le h1 hW.size) (by rw [← size_listB, hs0]; exact hlen)
    rw [hs0, PT.out h9] at h2
    refine h2.mono fun e w' h3 => ?_
    rw [hv]
    exact POk h3)
  have HE := Lib.hid fun W (s : ByteArray) (hs0 : s.data.toList = textK k nm n tx f l) (h9 : n ≤ 1000000) => (show Calls Tryz.prog 32 #[.string s] W fun e w' => ∃ A3 c3, e = .returned (.tuple #[.agg #[.string v, .string nm2, .int .i64 (nn : Int), .string tx2, .bool f2, .slice A3 l2.length c3], .agg #[.slice none 0 0, .int .i64 0]]) ∧ Reads 3 cF w' (.slice A3 l2.length c3) l2 ∧ Below W.heap.size W w' by
    have h2 := hear_ok (k := k) s W (by rw [← size_listB, hs0]; exact hlen) nm2 nn tx2 f2 l2 (by rw [hs0]; exact PT.out h9)
    rw [hv]
    exact h2)
  have O2 := Lib.hid fun W A2 c2 (hr : Reads 3 cF W (.slice A2 l2.length c2) l2) => (show Calls Tryz.prog 24 #[.agg #[.string v, .string nm2, .int .i64 (nn : Int), .string tx2, .bool f2, .slice A2 l2.length c2]] W fun e w' => ∃ A4 c4, e = .returned (.agg #[.string v, .string nm2, .int .i64 (nn : Int), .string tx2, .bool f2, .slice A4 l2.length c4]) ∧ Reads 3 cF w' (.slice A4 l2.length c4) l2 ∧ Below W.heap.size W w' from ofCmd_any W (v, nm2, (nn : Int), tx2, f2, l2) A2 c2 hr (by have := FPT.len; dsimp only at this ⊢; omega))
  have SM := Lib.hid fun W A3 c3 A4 c4 (hr : Reads 3 cF W (.slice A4 l2.length c4) l2) (hq : Reads 3 cF W (.slice A3 l2.length c3) l2) => (show Calls Tryz.prog 33 #[.agg #[.string v, .string nm2, .int .i64 (nn : Int), .string tx2, .bool f2, .slice A4 l2.length c4], .agg #[.string v, .string nm2, .int .i64 (nn : Int), .string tx2, .bool f2, .slice A3 l2.length c3]] W fun e w' => e = .returned (.bool true) ∧ Below W.heap.size W w' by
    have := refSame_any W (v, nm2, (nn : Int), tx2, f2, l2) (v, nm2, (nn : Int), tx2, f2, l2) A4 A3 c4 c3 hr hq
    rw [eqCP_refl] at this
    exact this)
  have TX2 := Lib.hid fun W (hW : Below w.heap.size w W) A2 c2 (hr : Reads 3 cF W (.slice A2 l2.length c2) l2) => (show Calls Tryz.prog 29 #[.agg #[.string v, .string nm2, .int .i64 (nn : Int), .string tx2, .bool f2, .slice A2 l2.length c2]] W (fun e w' => ∃ s : ByteArray, e = .returned (.string s) ∧ s.data.toList = textK k nm n tx f l ∧ Below W.heap.size W w') by
    rw [hv, ← TT]
    exact cmdText_any k hk nm2 (nn : Int) tx2 f2 A2 l2 c2 W (by have := FPT.nm; omega) (by have := FPT.tx; omega) hn2.1 hn2.2 hr (by have := FPT.len; omega) (okG_of FPT hlT) (tabIs_below hT hW))
  obtain ⟨n2, hn2e⟩ : ∃ x, x = (nn : Int) := ⟨_, rfl⟩
  rw [← hn2e] at PA HE O2 SM TX2
  obtain ⟨L, hL⟩ : ∃ L, L = textK k nm n tx f l := ⟨_, rfl⟩
  rw [← hL] at TXT SAY PA HE TX2
  have HNB := Lib.hid hn
  have _keep := And.intro h1 hn2e
  clear _keep
  clear hx hn hl hm h1 hE hT hfew FP hs PT TT FPT hlT hlen hn2 hL hck hn2e hk hv
  go_enter Tryz.func5, Tryz.ntmps5
  go_wp2_with fail
  rw [← hg]
  clear hg
  generalize w.alloc (.cells #[.string v, .string nm, .int .i64 n, .string tx, .bool f, .slice A l.length c] 52) = w0 at *
  refine (KN.out _ B0.out).mono ?_
  rintro e w1 ⟨rfl, d1⟩
  have T1 := Lib.hid (T0.out.below d1 T0.out.lt)
  have B1 := Lib.hid (B0.out.trans (d1.mono B0.out.size))
  clear d1 T0 B0 KN
  have x0 := T1.out.cell 0
  have x1 := T1.out.cell 1
  have x2 := T1.out.cell 2
  have x3 := T1.out.cell 3
  have x4 := T1.out.cell 4
  have x5 := T1.out.cell 5
  go_wp2_with fail
  refine (FX.out _ B1.out).mono ?_
  rintro e w2 ⟨rfl, d2⟩
  have T2 := Lib.hid (T1.out.below d2 T1.out.lt)
  have B2 := Lib.hid (B1.out.trans (d2.mono B1.out.size))
  clear d2 T1 B1 FX x0 x1 x2 x3 x4 x5
  have x0 := T2.out.cell 0
  have x1 := T2.out.cell 1
  have x2 := T2.out.cell 2
  have x3 := T2.out.cell 3
  have x4 := T2.out.cell 4
  have x5 := T2.out.cell 5
  go_wp2_with fail
  refine (O1.out _ B2.out).mono ?_
  rintro e w3 ⟨A1, c1, rfl, r3, d3⟩
  have T3 := Lib.hid (T2.out.below d3 T2.out.lt)
  have B3 := Lib.hid (B2.out.trans (d3.mono B2.out.size))
  have R3 := Lib.hid r3
  clear d3 T2 B2 x0 x1 x2 x3 x4 x5 r3
  go_wp2_with fail
  refine (RC.out _ A1 c1 R3.out).mono ?_
  rintro e w4 ⟨⟨-, rfl⟩ | ⟨gw, h0, -⟩, d4⟩
  case inr => exact absurd rfl h0
  have T4 := Lib.hid (T3.out.below d4 T3.out.lt)
  have B4 := Lib.hid (B3.out.trans (d4.mono B3.out.size))
  have d5 := (Below.refl w4.heap.size w4).alloc (Nat.le_refl _) (.cells #[.slice none 0 0, .int .i64 0] 31)
  have T5 : Hid (BB w g #[.string v, .string nm, .int .i64 n, .string tx, .bool f, .slice A l.length c] w4.heap.size #[.slice none 0 0, .int .i64 0] (w4.alloc (.cells #[.slice none 0 0, .int .i64 0] 31))) := Lib.hid ⟨T4.out.below d5 T4.out.lt, Blk.new w4 31 _, B4.out.trans (d5.mono B4.out.size)⟩
  obtain ⟨g3, hg3⟩ : ∃ g, g = w4.heap.size := ⟨_, rfl⟩
  rw [← hg3] at T5
  clear d4 T4 B4 T3 B3 R3 RC d5
  go_upto_region 6 with fail
  rw [← hg3]
  clear hg3
  generalize w4.alloc (.cells #[.slice none 0 0, .int .i64 0] 31) = w5 at *
  have CC := Lib.hid fun V (h : BB w g #[.string v, .string nm, .int .i64 n, .string tx, .bool f, .slice A l.length c] g3 #[.slice none 0 0, .int .i64 0] V) => (⟨h.one.cell 0, h.one.cell 1, h.one.cell 2, h.one.cell 3, h.one.cell 4, h.one.cell 5, h.two.cell 0, h.two.cell 1⟩ : V.cell? ⟨g, 0, none⟩ = some (.string v) ∧ V.cell? ⟨g, 1, none⟩ = some (.string nm) ∧ V.cell? ⟨g, 2, none⟩ = some (.int .i64 n) ∧ V.cell? ⟨g, 3, none⟩ = some (.string tx) ∧ V.cell? ⟨g, 4, none⟩ = some (.bool f) ∧ V.cell? ⟨g, 5, none⟩ = some (.slice A l.length c) ∧ V.cell? ⟨g3, 0, none⟩ = some (.slice none 0 0) ∧ V.cell? ⟨g3, 1, none⟩ = some (.int .i64 0))
  have Td := Lib.hid (T5.out.drew)
  clear T5
  go_cut [27] (fun s27 wx => s27 = .bool false ∧ Hid (BB w g #[.string v, .string nm, .int .i64 n, .string tx, .bool f, .slice A l.length c] g3 #[.slice none 0 0, .int .i64 0] wx))
  case first =>
    go_region_held3 (fun V => V.cell? ⟨g, 0, none⟩ = some (.string v) ∧ V.cell? ⟨g, 1, none⟩ = some (.string nm) ∧ V.cell? ⟨g, 2, none⟩ = some (.int .i64 n) ∧ V.cell? ⟨g, 3, none⟩ = some (.string tx) ∧ V.cell? ⟨g, 4, none⟩ = some (.bool f) ∧ V.cell? ⟨g, 5, none⟩ = some (.slice A l.length c) ∧ V.cell? ⟨g3, 0, none⟩ = some (.slice none 0 0) ∧ V.cell? ⟨g3, 1, none⟩ = some (.int .i64 0)) (first | with_reducible exact CC.out _ Td.out | with_reducible exact CC.out _ T6.out | with_reducible exact CC.out _ T7.out | with_reducible exact CC.out _ T8.out | with_reducible exact CC.out _ T9.out | with_reducible exact CC.out _ T10.out)
      (first
        | (go_at_call 25; with_reducible refine (CK.out _ Td.out.bel).mono ?_; rintro e v1 ⟨⟨-, rfl⟩ | ⟨F, h0, -⟩, d6⟩; (rotate_left; (· exact absurd rfl h0)); have T6 := Lib.hid (Td.out.below d6); clear d6)
        | (go_at_call 11; with_reducible refine (TL.out _).mono ?_; rintro e v2 ⟨rfl, d7⟩; have T7 := Lib.hid (T6.out.below d7); clear d7)
        | (go_at_call 27; with_reducible refine (VB.out _).mono ?_; rintro e v3 ⟨ga, rfl, hca, -, d8⟩; have T8 := Lib.hid (T7.out.below d8); have P8 := Lib.hid (strs_verbs hca); clear hca d8)
        | (go_at_call 28; with_reducible refine (RV.out _).mono ?_; rintro e v4 ⟨gb, rfl, hcb, -, d9⟩; have T9 := Lib.hid (T8.out.below d9); have P9 := Lib.hid (P8.out.below d9); have Q9 := Lib.hid (strs_verbs hcb); clear hcb d9)
        | (go_at_call 26; with_reducible refine (TX.out _ _ _ P9.out Q9.out).mono ?_; rintro e v5 ⟨rfl, q5, h5⟩; have T10 := Lib.hid (T9.out.below (show Below v4.heap.size v4 v5 by rw [h5]; exact below_drewN (Below.refl _ _) q5)); clear h5))
    all_goals (go_wp2_with fail; go_meet)
    all_goals exact ⟨rfl, T10.out⟩
  case rest =>
    obtain ⟨rfl, T10⟩ := hcut
    have x2 := T10.out.one.cell 2
    have y1 := T10.out.two.cell 1
    have hn1 := HNB.out.1
    have hn9 := HNB.out.2
    by_cases h9 : n ≤ 1000000
    case neg =>
      have b8 : (1000000 : Int) < n := by omega
      have b9 : decide ((1000000 : Int) < n) = true := decide_eq_true b8
      clear h9 TXT SAY PA HE O2 SM TX2 O1 CK TL VB RV TX CC Td
      go_wp2_with fail
      go_ret
      exact ⟨rfl, T10.out.bel⟩
    have b8 : ¬ (1000000 : Int) < n := by omega
    have b9 : decide ((1000000 : Int) < n) = false := decide_eq_false b8
    have H9 := Lib.hid h9
    clear h9 x2 CK VB RV TX CC Td
    have x0 := T10.out.one.cell 0
    have x1 := T10.out.one.cell 1
    have x2 := T10.out.one.cell 2
    have x3 := T10.out.one.cell 3
    have x4 := T10.out.one.cell 4
    have x5 := T10.out.one.cell 5
    go_wp2_with fail
    refine (TXT.out _ T10.out.bel).mono ?_
    rintro e w11 ⟨s, rfl, hs1, d11⟩
    have T11 := Lib.hid (T10.out.below d11)
    have HS1 := Lib.hid hs1
    clear hs1 d11 T10 x0 x1 x2 x3 x4 x5 y1 b8 b9 hn1 hn9 TXT
    have x0 := T11.out.one.cell 0
    have x1 := T11.out.one.cell 1
    have x2 := T11.out.one.cell 2
    have x3 := T11.out.one.cell 3
    have x4 := T11.out.one.cell 4
    have x5 := T11.out.one.cell 5
    go_wp2_with fail
    refine (O1.out _ T11.out.bel).mono ?_
    rintro e w12 ⟨A4, c4, rfl, r4, d12⟩
    have T12 := Lib.hid (T11.out.below d12)
    have R4 := Lib.hid r4
    clear r4 d12 T11 x0 x1 x2 x3 x4 x5 O1
    go_wp2_with fail
    refine (SAY.out _ A4 c4 R4.out).mono ?_
    rintro e w13 ⟨s2, rfl, hs2, d13⟩
    obtain rfl : s2 = s := bytesB_eq (hs2.trans HS1.out.symm)
    have T13 := Lib.hid (T12.out.below d13)
    have HS2 := Lib.hid hs2
    clear hs2 d13 T12 R4 SAY
    have hss : (s2.toList == s2.toList) = true := by simp
    go_wp2_with fail
    refine (PA.out _ T13.out.bel s2 HS2.out H9.out).mono ?_
    rintro e w14 ⟨A2, c2, rfl, r2, d14⟩
    have T14 := Lib.hid (T13.out.below d14)
    have d15 := (Below.refl w14.heap.size w14).alloc (Nat.le_refl _) (.cells #[.string v, .string nm2, .int .i64 n2, .string tx2, .bool f2, .slice A2 l2.length c2] 52)
    have P15 := Lib.hid (Blk.new w14 52 #[.string v, .string nm2, .int .i64 n2, .string tx2, .bool f2, .slice A2 l2.length c2])
    have B15 := Lib.hid (T14.out.bel.trans (d15.mono T14.out.bel.size))
    have R15 := Lib.hid (r2.below d15)
    obtain ⟨g5, hg5⟩ : ∃ g, g = w14.heap.size := ⟨_, rfl⟩
    rw [← hg5] at P15
    clear d14 T13 T14 r2 d15 PA
    go_wp2_with fail
    rw [← hg5]
    clear hg5
    generalize w14.alloc (.cells #[.string v, .string nm2, .int .i64 n2, .string tx2, .bool f2, .slice A2 l2.length c2] 52) = w15 at *
    refine (HE.out _ s2 HS2.out H9.out).mono ?_
    rintro e w16 ⟨A3, c3, rfl, r3, d16⟩
    have P16 := Lib.hid (P15.out.below d16 P15.out.lt)
    have B16 := Lib.hid (B15.out.trans (d16.mono B15.out.size))
    have R16 := Lib.hid (R15.out.below d16)
    have d17 := (Below.refl w16.heap.size w16).alloc (Nat.le_refl _) (.cells #[.string v, .string nm2, .int .i64 n2, .string tx2, .bool f2, .slice A3 l2.length c3] 56)
    have d18 := (Below.refl (w16.alloc (.cells #[.string v, .string nm2, .int .i64 n2, .string tx2, .bool f2, .slice A3 l2.length c3] 56)).heap.size (w16.alloc (.cells #[.string v, .string nm2, .int .i64 n2, .string tx2, .bool f2, .slice A3 l2.length c3] 56))).alloc (Nat.le_refl _) (.cells #[.slice none 0 0, .int .i64 0] 31)
    have z17 := Blk.new w16 56 #[.string v, .string nm2, .int .i64 n2, .string tx2, .bool f2, .slice A3 l2.length c3]
    have z18 := Blk.new (w16.alloc (.cells #[.string v, .string nm2, .int .i64 n2, .string tx2, .bool f2, .slice A3 l2.length c3] 56)) 31 #[.slice none 0 0, .int .i64 0]
    rw [show (w16.alloc (.cells #[.string v, .string nm2, .int .i64 n2, .string tx2, .bool f2, .slice A3 l2.length c3] 56)).heap.size = w16.heap.size + 1 by simp] at z18
    have T18 : Hid (B3 w g5 #[.string v, .string nm2, .int .i64 n2, .string tx2, .bool f2, .slice A2 l2.length c2] w16.heap.size #[.string v, .string nm2, .int .i64 n2, .string tx2, .bool f2, .slice A3 l2.length c3] (w16.heap.size + 1) #[.slice none 0 0, .int .i64 0] ((w16.alloc (.cells #[.string v, .string nm2, .int .i64 n2, .string tx2, .bool f2, .slice A3 l2.length c3] 56)).alloc (.cells #[.slice none 0 0, .int .i64 0] 31))) := Lib.hid ⟨(P16.out.below d17 P16.out.lt).below d18 (P16.out.below d17 P16.out.lt).lt, z17.below d18 z17.lt, z18, (B16.out.trans (d17.mono B16.out.size)).trans (d18.mono (by have := B16.out.size; simp; omega))⟩
    have R18 := Lib.hid ((R16.out.below d17).below d18)
    have Q18 := Lib.hid ((r3.below d17).below d18)
    obtain ⟨g7, hg7⟩ : ∃ g, g = w16.heap.size := ⟨_, rfl⟩
    rw [← hg7] at T18
    clear d16 P15 B15 R15 P16 B16 R16 d17 d18 z17 z18 r3 HE
    go_upto_region 15 with fail
    rw [← hg7]
    clear hg7
    generalize (w16.alloc (.cells #[.string v, .string nm2, .int .i64 n2, .string tx2, .bool f2, .slice A3 l2.length c3] 56)).alloc (.cells #[.slice none 0 0, .int .i64 0] 31) = w18 at *
    obtain ⟨g8, hg8⟩ : ∃ g, g = g7 + 1 := ⟨_, rfl⟩
    rw [← hg8] at T18 ⊢
    clear hg8
    have CC := Lib.hid fun V (h : B3 w g5 #[.string v, .string nm2, .int .i64 n2, .string tx2, .bool f2, .slice A2 l2.length c2] g7 #[.string v, .string nm2, .int .i64 n2, .string tx2, .bool f2, .slice A3 l2.length c3] g8 #[.slice none 0 0, .int .i64 0] V) => (⟨h.one.cell 0, h.one.cell 1, h.one.cell 2, h.one.cell 3, h.one.cell 4, h.one.cell 5, h.ref.cell 0, h.ref.cell 1, h.ref.cell 2, h.ref.cell 3, h.ref.cell 4, h.ref.cell 5, h.two.cell 0, h.two.cell 1⟩ : V.cell? ⟨g5, 0, none⟩ = some (.string v) ∧ V.cell? ⟨g5, 1, none⟩ = some (.string nm2) ∧ V.cell? ⟨g5, 2, none⟩ = some (.int .i64 n2) ∧ V.cell? ⟨g5, 3, none⟩ = some (.string tx2) ∧ V.cell? ⟨g5, 4, none⟩ = some (.bool f2) ∧ V.cell? ⟨g5, 5, none⟩ = some (.slice A2 l2.length c2) ∧ V.cell? ⟨g7, 0, none⟩ = some (.string v) ∧ V.cell? ⟨g7, 1, none⟩ = some (.string nm2) ∧ V.cell? ⟨g7, 2, none⟩ = some (.int .i64 n2) ∧ V.cell? ⟨g7, 3, none⟩ = some (.string tx2) ∧ V.cell? ⟨g7, 4, none⟩ = some (.bool f2) ∧ V.cell? ⟨g7, 5, none⟩ = some (.slice A3 l2.length c3) ∧ V.cell? ⟨g8, 0, none⟩ = some (.slice none 0 0) ∧ V.cell? ⟨g8, 1, none⟩ = some (.int .i64 0))
    have Td := Lib.hid (T18.out.drew)
    have Rd : Hid (Reads 3 cF w18.drew (.slice A2 l2.length c2) l2) := Lib.hid (R18.out.below (below_drewN (Below.refl _ _) 1))
    have Qd : Hid (Reads 3 cF w18.drew (.slice A3 l2.length c3) l2) := Lib.hid (Q18.out.below (below_drewN (Below.refl _ _) 1))
    clear T18 R18 Q18
    go_region_held3 (fun V => V.cell? ⟨g5, 0, none⟩ = some (.string v) ∧ V.cell? ⟨g5, 1, none⟩ = some (.string nm2) ∧ V.cell? ⟨g5, 2, none⟩ = some (.int .i64 n2) ∧ V.cell? ⟨g5, 3, none⟩ = some (.string tx2) ∧ V.cell? ⟨g5, 4, none⟩ = some (.bool f2) ∧ V.cell? ⟨g5, 5, none⟩ = some (.slice A2 l2.length c2) ∧ V.cell? ⟨g7, 0, none⟩ = some (.string v) ∧ V.cell? ⟨g7, 1, none⟩ = some (.string nm2) ∧ V.cell? ⟨g7, 2, none⟩ = some (.int .i64 n2) ∧ V.cell? ⟨g7, 3, none⟩ = some (.string tx2) ∧ V.cell? ⟨g7, 4, none⟩ = some (.bool f2) ∧ V.cell? ⟨g7, 5, none⟩ = some (.slice A3 l2.length c3) ∧ V.cell? ⟨g8, 0, none⟩ = some (.slice none 0 0) ∧ V.cell? ⟨g8, 1, none⟩ = some (.int .i64 0)) (first | with_reducible exact CC.out _ Td.out | with_reducible exact CC.out _ T6.out | with_reducible exact CC.out _ T7.out | with_reducible exact CC.out _ T8.out | with_reducible exact CC.out _ T9.out)
      (first
        | (go_at_call 11; with_reducible refine (TL.out _).mono ?_; rintro e v1 ⟨rfl, d6⟩; have T6 := Lib.hid (Td.out.below d6); have R6 := Lib.hid (Rd.out.below d6); have Q6 := Lib.hid (Qd.out.below d6); clear d6)
        | (go_at_call 24; with_reducible refine (O2.out _ A2 c2 R6.out).mono ?_; rintro e v2 ⟨A5, c5, rfl, r5, d7⟩; have T7 := Lib.hid (T6.out.below d7); have R7 := Lib.hid (R6.out.below d7); have Q7 := Lib.hid (Q6.out.below d7); have S7 := Lib.hid r5; clear d7 r5)
        | (go_at_call 33; with_reducible refine (SM.out _ A3 c3 A5 c5 S7.out Q7.out).mono ?_; rintro e v3 ⟨rfl, d8⟩; have T8 := Lib.hid (T7.out.below d8); have R8 := Lib.hid (R7.out.below d8); clear d8)
        | (go_at_call 29; with_reducible refine (TX2.out _ T8.out.bel A2 c2 R8.out).mono ?_; rintro e v4 ⟨s3, rfl, hs3, d9⟩; obtain rfl := bytesB_eq (hs3.trans HS2.out.symm); have T9 := Lib.hid (T8.out.below d9); clear d9 hs3))
    all_goals (go_wp2_with fail; go_ret)
    all_goals exact ⟨rfl, T9.out.bel⟩
theorem cmdBack_any (w : World) (m : Int) (hm : w.cell? ⟨1, 0, none⟩ = some (.int .i64 m)) (h1 : 1 < w.heap.size) (v : Value) (x : CP) (hx : CmdAt w v x) (hE : ErrType w) (hT : PowTab w) :
    Calls Tryz.prog 5 #[v] w fun e w' => e = .returned (.bool true) ∧ Below w.heap.size w w' := by
  obtain ⟨A, c, rfl, hr, hn, hl⟩ := hx
  obtain ⟨v, nm, n, tx, f, l⟩ := x
  cases hfew : fewC (v, nm, n, tx, f, l) with
  | false => exact cmdBack_many w v nm n tx f l A c hr hn hl m hm h1 hE hT hfew
  | true =>
    by_cases ho : chkV (v, nm, n, tx, f, l) = 0
    · exact cmdBack_good w v nm n tx f l A c hr hn hl m hm h1 hE hT hfew ho
    · exact cmdBack_bad w v nm n tx f l A c hr hn hl m hm h1 hE hT hfew ho
end Go.Proofs.YtanjcjnkppnhcaaGreatDoor
