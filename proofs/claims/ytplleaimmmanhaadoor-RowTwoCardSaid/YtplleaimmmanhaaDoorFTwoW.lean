/-
  rectolaw14.RowTwo: what differs between two trees, whether they are the same, all paths.
-/
import Derived.Test.YtplleaimmmanhaaDoorFKnW
import Derived.Test.YtplleaimmmanhaaDoorFFew
import Derived.Test.YtplleaimmmanhaaDoorFRefL
import Derived.Test.YtplleaimmmanhaaDoorFRefQ
import Derived.Test.YtplleaimmmanhaaDoorFRefS
import Derived.Test.YtplleaimmmanhaaDoorFRises
import Derived.Deep.RegionHeld3
namespace Go.Proofs.YtplleaimmmanhaaDoor
open Go Go.RowKit

theorem Dels.at_ {w : World} {A : Option Addr} {n c : Nat} {l : List Dl} (h : Reads 2 cD w (.slice A n c) l) {i : Nat} {x : Dl} (hi : l[i]? = some x) :
    ∃ ad : Addr, A = some ad ∧ w.cell? (ad.add (i * 2)) = some (.string x.1) ∧ w.cell? ⟨(ad.add (i * 2)).block, (ad.add (i * 2)).off + 1, none⟩ = some (.string (whB x.2)) := by
  obtain ⟨ad, ha, hc⟩ := h.at_ hi
  exact ⟨ad, ha, hc 0 _ rfl, hc 1 _ rfl⟩
theorem trees_twoR {w : World} {v u : Value} {a b : List Fl} (h : Reads 3 cF w v a) (g : Reads 3 cF w u b) : Trees (w.alloc (.cells #[v, u] 26)) ⟨w.heap.size, 0, none⟩ [(v, a), (u, b)] := fun i r hr => by
  match i, hr with
  | 0, hr => obtain rfl := Option.some.inj hr; exact ⟨cell_of_row _ _ 0 _ 26 (0, 0) (heap_alloc_new w _), h.alloc _⟩
  | 1, hr => obtain rfl := Option.some.inj hr; exact ⟨cell_of_row _ _ 1 _ 26 (0, 0) (heap_alloc_new w _), g.alloc _⟩
  | i + 2, hr => simp at hr
/-- rectoref14.Paths of two trees. -/
theorem refPaths_two (w : World) (v u : Value) (a b : List Fl) (h : Reads 3 cF w v a) (g : Reads 3 cF w u b) (ha : a.length ≤ 10000) (hb : b.length ≤ 10000) :
    Calls Tryd.prog 11 #[.slice (some ⟨w.heap.size, 0, none⟩) 2 2] (w.alloc (.cells #[v, u] 26)) (TextsTo (paths2 a b) (w.alloc (.cells #[v, u] 26))) := by
  have := refPaths_any _ ⟨w.heap.size, 0, none⟩ 2 [(v, a), (u, b)] (trees_twoR h g) (by simp) (by simp [pathsR]; omega)
  rw [pathsR_two] at this
  exact this
theorem one_letter (W : World) (g : Nat) (x : Int) (h1 : 0 ≤ x) (h2 : x ≤ 255) (hc : W.cell? ⟨g, 0, none⟩ = some (.int .u8 x)) : (convert 36 9 (.slice (some ⟨g, 0, none⟩) 1 1)).run Tryd.prog W = .ok (.string (whB x)) W := by
  have := run_convert_bytes_back (P := Tryd.prog) W 36 9 5 ⟨g, 0, none⟩ 1 [UInt8.ofNat x.toNat] Tryd.underlying36 Tryd.underlying5 Tryd.underlying9 (fun j hj => by
    obtain rfl : j = 0 := by simpa using hj
    simp [Addr.add, hc]
    omega)
  exact this
theorem diffOf_at {f : ByteArray → Int} {ps : List ByteArray} {i : Nat} {p : ByteArray} (hp : ps[i]? = some p) (hf : f p ≠ 32) : (diffOf f ps)[(diffOf f (ps.take i)).length]? = some (p, f p) := by
  have e : diffOf f ps = diffOf f (ps.take i) ++ (p, f p) :: diffOf f (ps.drop (i + 1)) := by
    have h1 : ps = ps.take i ++ p :: ps.drop (i + 1) := by
      have h2 := List.take_append_drop i ps
      rw [List.drop_eq_getElem_cons (List.getElem?_eq_some_iff.1 hp).1, (List.getElem?_eq_some_iff.1 hp).2] at h2
      exact h2.symm
    have h3 : diffOf f (ps.take i ++ p :: ps.drop (i + 1)) = diffOf f (ps.take i) ++ (p, f p) :: diffOf f (ps.drop (i + 1)) := by
      unfold diffOf
      rw [List.map_append, List.filter_append, List.map_cons, List.filter_cons, if_pos (by simpa using hf)]
    rw [← h3, ← h1]
  rw [e, List.getElem?_append_right (Nat.le_refl _), Nat.sub_self]
  rfl
theorem unl_byte (a b : Option Fl) : 0 ≤ unl a b ∧ unl a b ≤ 255 := by rcases unl_cases a b with h | h | h | h <;> rw [h] <;> decide

set_option maxRecDepth 100000 in
set_option maxHeartbeats 8000000 in
theorem two_walk (w : World) (v u : Value) (a b : List Fl) (h : Reads 3 cF w v a) (g : Reads 3 cF w u b) :
    Calls Tryd.prog 3 #[v, u] w (YesTo w) := by
  have KN := Lib.hid (known_yes w)
  obtain ⟨A, c, rfl⟩ := h.form
  obtain ⟨A2, c2, rfl⟩ := g.form
  have HA := Lib.hid h
  have HB := Lib.hid g
  clear h g
  go_enter Tryd.func3, Tryd.ntmps3
  go_wp2_with fail
  refine KN.out.mono ?_
  rintro e w1 ⟨rfl, b1⟩
  have RA := Lib.hid (HA.out.below b1)
  have RB := Lib.hid (HB.out.below b1)
  have B1 := Lib.hid b1
  have FA := Lib.hid (fewF_any w1 _ a RA.out)
  clear KN HA HB b1
  go_wp2_with fail
  refine FA.out.mono ?_
  rintro e w2 ⟨ba, rfl, hba, qa, rfl⟩
  have HBA := Lib.hid hba
  clear hba FA
  cases ba with
  | false =>
    go_wp2_with fail
    go_ret
    exact ⟨rfl, below_drewN B1.out _⟩
  | true =>
  have LA := Lib.hid (HBA.out rfl).1
  have FB := Lib.hid (fewF_any (w1.drewN qa) _ b RB.out)
  clear HBA
  go_wp2_with fail
  refine FB.out.mono ?_
  rintro e w2 ⟨bb, rfl, hbb, qb, rfl⟩
  have HBB := Lib.hid hbb
  clear hbb FB
  cases bb with
  | false =>
    go_wp2_with fail
    go_ret
    exact ⟨rfl, below_drewN B1.out _⟩
  | true =>
  have LB := Lib.hid (HBB.out rfl).1
  have RS := Lib.hid fun q => rises_any (w1.drewN q) _ a RA.out (by have := LA.out; omega)
  clear HBB
  go_wp2_with fail
  refine (RS.out _).mono ?_
  rintro e w2 ⟨ra, rfl, hra, qc, rfl⟩
  have HRA := Lib.hid hra
  clear hra RS
  cases ra with
  | false =>
    go_wp2_with fail
    go_ret
    exact ⟨rfl, below_drewN B1.out _⟩
  | true =>
  have RI := Lib.hid (HRA.out.1 rfl)
  have RS := Lib.hid fun q => rises_any (w1.drewN q) _ b RB.out (by have := LB.out; omega)
  clear HRA
  go_wp2_with fail
  refine (RS.out _).mono ?_
  rintro e w2 ⟨rb, rfl, hrb, qd, rfl⟩
  have HRB := Lib.hid hrb
  clear hrb RS
  cases rb with
  | false =>
    go_wp2_with fail
    go_ret
    exact ⟨rfl, below_drewN B1.out _⟩
  | true =>
  have RJ := Lib.hid (HRB.out.1 rfl)
  clear HRB
  have O1 := Lib.hid fun q => lawOf_any (w1.drewN q) _ a RA.out (by have := LA.out; omega)
  go_wp2_with fail
  refine (O1.out _).mono ?_
  rintro e w2 ⟨x, rfl, ox, b2⟩
  have B2 := Lib.hid ((below_drewN B1.out _).trans (b2.mono B1.out.size))
  have RA2 := Lib.hid ((show Reads 3 cF (w1.drewN _) _ a from RA.out).below b2)
  have RB2 := Lib.hid ((show Reads 3 cF (w1.drewN _) _ b from RB.out).below b2)
  have RX2 := Lib.hid (Reads.of_own cF_len ox)
  obtain ⟨Ax, cx, rfl⟩ := own_form ox
  have O2 := Lib.hid (lawOf_any w2 _ b RB2.out (by have := LB.out; omega))
  clear O1 ox b2 RA RB B1
  go_wp2_with fail
  refine O2.out.mono ?_
  rintro e w3 ⟨y, rfl, oy, b3⟩
  have B3 := Lib.hid (B2.out.trans (b3.mono B2.out.size))
  have RA3 := Lib.hid (RA2.out.below b3)
  have RB3 := Lib.hid (RB2.out.below b3)
  have RX3 := Lib.hid (RX2.out.below b3)
  have RY3 := Lib.hid (Reads.of_own cF_len oy)
  obtain ⟨Ay, cy, rfl⟩ := own_form oy
  have PP := Lib.hid (refPaths_two w3 _ _ a b RX3.out RY3.out (by have := LA.out; omega) (by have := LB.out; omega))
  obtain ⟨W3, hW3⟩ : ∃ W3, W3 = w3.alloc (.cells #[.slice Ax a.length cx, .slice Ay b.length cy] 26) := ⟨_, rfl⟩
  have a3 : Below w3.heap.size w3 W3 := by rw [hW3]; exact (Below.refl _ _).alloc (Nat.le_refl _) _
  rw [← hW3] at PP
  clear O2 oy b3 RA2 RB2 RX2 B2
  go_wp2_with fail
  rw [← hW3]
  clear hW3
  have HPL := Lib.hid (paths2_len a b)
  obtain ⟨ps, hps⟩ : ∃ ps, ps = paths2 a b := ⟨_, rfl⟩
  rw [← hps] at PP HPL
  have HPS := Lib.hid hps
  clear hps
  refine PP.out.mono ?_
  rintro e w4 ⟨pv, rfl, op, b4⟩
  have b34 := a3.trans (b4.mono a3.size)
  have B4 := Lib.hid (B3.out.trans (b34.mono B3.out.size))
  have RA4 := Lib.hid (RA3.out.below b34)
  have RB4 := Lib.hid (RB3.out.below b34)
  have RX4 := Lib.hid (RX3.out.below b34)
  have RY4 := Lib.hid (RY3.out.below b34)
  have RP4 := Lib.hid (Strs.of_own op rfl)
  obtain ⟨Ap, cp, rfl⟩ := own_form op
  have DF := Lib.hid (diff_any w4 _ _ a b RA4.out RB4.out RI.out RJ.out (by have := LA.out; omega) (by have := LB.out; omega))
  have HDO := Lib.hid (show diffF a b = diffOf (fun p => unl (getF a p) (getF b p)) ps by rw [HPS.out]; rfl)
  obtain ⟨d, hd⟩ : ∃ d, d = diffF a b := ⟨_, rfl⟩
  rw [← hd] at DF HDO
  have HD := Lib.hid hd
  obtain ⟨fL, hfL⟩ : ∃ f, f = fun p => unl (getF a p) (getF b p) := ⟨_, rfl⟩
  have FP := Lib.hid (show ∀ p, fL p = unl (getF a p) (getF b p) from fun p => by rw [hfL])
  rw [← hfL] at HDO
  clear hd hfL PP op b4 a3 b34 RA3 RB3 RX3 RY3 B3
  go_wp2_with fail
  refine DF.out.mono ?_
  rintro e w5 ⟨dv, rfl, od, b5⟩
  have B5 := Lib.hid (B4.out.trans (b5.mono B4.out.size))
  have RA5 := Lib.hid (RA4.out.below b5)
  have RB5 := Lib.hid (RB4.out.below b5)
  have RX5 := Lib.hid (RX4.out.below b5)
  have RY5 := Lib.hid (RY4.out.below b5)
  have RP5 := Lib.hid (RP4.out.below b5)
  have RD5 := Lib.hid (Reads.of_own cD_len od)
  obtain ⟨Ad, cd, rfl⟩ := own_form od
  have hpl : ps.length ≤ 160 := by have := HPL.out; have := LA.out; have := LB.out; omega
  have hdl : d.length ≤ 160 := by rw [HDO.out]; exact Nat.le_trans (diffOf_len _ _) hpl
  clear DF od b5 RA4 RB4 RX4 RY4 RP4 B4
  go_wp2_with fail
  go_loopw [9, 10, 11] (fun s9 s10 _ wr => ∃ (n i : Nat), i ≤ ps.length ∧ n ≤ d.length ∧ s9 = .int .i64 n ∧ s10 = .int .i64 i ∧ Hid ((diffOf fL (ps.take i)).length = n) ∧ Below w5.heap.size w5 wr) (fun _ s10 _ _ => ps.length - (intOf s10).toNat)
  case atStart => exact ⟨0, 0, Nat.zero_le _, Nat.zero_le _, rfl, rfl, Lib.hid (by simp [diffOf]), Below.refl _ _⟩
  case round =>
    obtain ⟨n, i, hi, hn, rfl, rfl, HN, hb⟩ := hrel
    by_cases hlt : i < ps.length
    · obtain ⟨ap, p, rfl, hp, c0⟩ := strs_at (RP5.out.below hb) hlt
      have WH := Lib.hid (what_any wr _ _ a b p (RX5.out.below hb) (RY5.out.below hb) (by have := LA.out; omega) (by have := LB.out; omega))
      rw [← FP.out p] at WH
      have HT := Lib.hid (show diffOf fL (ps.take (i + 1)) = diffOf fL (ps.take i) ++ (if fL p ≠ 32 then [(p, fL p)] else []) by rw [take_snoc hp, diffOf_snoc])
      have HAt := Lib.hid (fun hf => @diffOf_at fL ps i p hp hf)
      have HBy := Lib.hid (show 0 ≤ fL p ∧ fL p ≤ 255 by rw [FP.out]; exact unl_byte _ _)
      obtain ⟨k, hk⟩ : ∃ k, k = fL p := ⟨_, rfl⟩
      rw [← hk] at WH HT HAt HBy
      have hbs := hb.size
      have HBR := Lib.hid hb
      clear hp hk hb
      go_wp2_with fail
      refine WH.out.mono ?_
      rintro e w6 ⟨rfl, b6⟩
      have HB6 := Lib.hid (HBR.out.trans (b6.mono hbs))
      have e0 := (b6.cell (World.block_lt_of_cell? _ _ c0)).trans c0
      clear b6 c0 WH
      by_cases hk32 : k = 32
      · subst hk32
        have HN2 := Lib.hid (show (diffOf fL (ps.take (i + 1))).length = n by rw [HT.out, if_neg (by simp), List.append_nil]; exact HN.out)
        clear e0
        go_wp2_with fail
        go_roundw
        case rel => exact ⟨n, i + 1, by omega, hn, rfl, by go_num, HN2, HB6.out⟩
        case measure => simp [intOf]; omega
      · have hx : d[n]? = some (p, k) := by have := HAt.out hk32; rw [← HDO.out, HN.out] at this; exact this
        have hnl := (List.getElem?_eq_some_iff.1 hx).1
        have HN2 := Lib.hid (show (diffOf fL (ps.take (i + 1))).length = n + 1 by rw [HT.out, if_pos hk32, List.length_append, HN.out]; rfl)
        obtain ⟨ad, rfl, c0, c1⟩ := Dels.at_ (RD5.out.below HB6.out) hx
        have hke : (k == 32) = false := by simpa using hk32
        have hnd : ¬ (d.length : Int) ≤ (n : Int) := by omega
        have hnd2 : decide ((d.length : Int) ≤ (n : Int)) = false := by simpa using hnl
        have hnd3 : decide (d.length ≤ n) = false := by simpa using hnl
        obtain ⟨hk1, hk2⟩ := HBy.out
        have CV := fun W (hc : W.cell? ⟨w6.heap.size, 0, none⟩ = some (.int .u8 k)) => one_letter W w6.heap.size k hk1 hk2 hc
        clear hx
        have zA : w6.drew.cell? (ap.add i) = some (.string p) ∧ w6.drew.cell? (ad.add (n * 2)) = some (.string p) ∧ w6.drew.cell? ⟨(ad.add (n * 2)).block, (ad.add (n * 2)).off + 1, none⟩ = some (.string (whB k)) := ⟨e0, c0, c1⟩
        have zB : (w6.alloc (.cells #[.int .u8 k] 5)).drew.cell? (ap.add i) = some (.string p) ∧ (w6.alloc (.cells #[.int .u8 k] 5)).drew.cell? (ad.add (n * 2)) = some (.string p) ∧ (w6.alloc (.cells #[.int .u8 k] 5)).drew.cell? ⟨(ad.add (n * 2)).block, (ad.add (n * 2)).off + 1, none⟩ = some (.string (whB k)) := ⟨cell_alloc_l (W := w6) _ e0, cell_alloc_l (W := w6) _ c0, cell_alloc_l (W := w6) _ c1⟩
        have CV1 := CV (w6.alloc (.cells #[.int .u8 k] 5)).drew (cell_new_l w6 (.int .u8 k) 5).1
        clear CV
        go_wp2_with fail
        refine wp_region_held_drew (S := fun w' => w'.cell? (ap.add i) = some (.string p) ∧ w'.cell? (ad.add (n * 2)) = some (.string p) ∧ w'.cell? ⟨(ad.add (n * 2)).block, (ad.add (n * 2)).off + 1, none⟩ = some (.string (whB k))) (by kernel_rfl) (zA) (fun hHeld => ?_)
        refine wpAnyH_take (i := 0) (oi := { dst := some 58, op := Op.move (Operand.tmp 9), type := 3, pos := "law.go:101", after := #[], guard := none }) (v := ?vp0) rfl (by kernel_rfl) (by kernel_rfl) (by kernel_rfl) (fun _ _ _ h => h) (Or.inl ⟨by rfl, ?yp0⟩) (by assumption) ?rp0
        case yp0 => (intro w' hSw; (try dsimp only at hSw); go_simp; try with_reducible rfl)
        try simp only [Act.put, List.setIfInBounds_toArray, List.set_cons_zero, List.set_cons_succ]
        refine wpAnyH_take (i := 1) (oi := { dst := some 59, op := Op.move (Operand.tmp 8), type := 31, pos := "law.go:101", after := #[], guard := none }) (v := ?vp1) rfl (by kernel_rfl) (by kernel_rfl) (by kernel_rfl) (fun _ _ _ h => h) (Or.inl ⟨by rfl, ?yp1⟩) (by assumption) ?rp1
        case yp1 => (intro w' hSw; (try dsimp only at hSw); go_simp; try with_reducible rfl)
        try simp only [Act.put, List.setIfInBounds_toArray, List.set_cons_zero, List.set_cons_succ]
        refine wpAnyH_take (i := 2) (oi := { dst := some 60, op := Op.call { callee := Callee.builtin Builtin.len, args := #[Operand.tmp 59], argTypes := #[31] }, type := 3, pos := "law.go:101", after := #[{ on := 1, ground := Ground.data }], guard := none }) (v := ?vp2) rfl (by kernel_rfl) (by kernel_rfl) (by kernel_rfl) (fun _ _ _ h => h) (Or.inl ⟨by rfl, ?yp2⟩) (by assumption) ?rp2
        case yp2 => (intro w' hSw; (try dsimp only at hSw); go_simp; try with_reducible rfl)
        try simp only [Act.put, List.setIfInBounds_toArray, List.set_cons_zero, List.set_cons_succ]
        refine wpAnyH_take (i := 3) (oi := { dst := some 61, op := Op.binOp BinOp.geq 3 (Operand.tmp 58) (Operand.tmp 60) 3, type := 4, pos := "law.go:101", after := #[{ on := 0, ground := Ground.data }, { on := 2, ground := Ground.data }], guard := none }) (v := ?vp3) rfl (by kernel_rfl) (by kernel_rfl) (by kernel_rfl) (fun _ _ _ h => h) (Or.inl ⟨by rfl, ?yp3⟩) (by assumption) ?rp3
        case yp3 => (intro w' hSw; (try dsimp only at hSw); go_simp; try with_reducible rfl)
        try simp only [Act.put, List.setIfInBounds_toArray, List.set_cons_zero, List.set_cons_succ]
        refine wpAnyH_take (i := 4) (oi := { dst := some 62, op := Op.move (Operand.tmp 61), type := 4, pos := "law.go:101", after := #[{ on := 3, ground := Ground.data }], guard := none }) (v := ?vp4) rfl (by kernel_rfl) (by kernel_rfl) (by kernel_rfl) (fun _ _ _ h => h) (Or.inl ⟨by rfl, ?yp4⟩) (by assumption) ?rp4
        case yp4 => (intro w' hSw; (try dsimp only at hSw); go_simp; try with_reducible rfl)
        try simp only [Act.put, List.setIfInBounds_toArray, List.set_cons_zero, List.set_cons_succ]
        refine wpAnyH_take (i := 5) (oi := { dst := some 63, op := Op.move (Operand.tmp 8), type := 31, pos := "law.go:101", after := #[{ on := 4, ground := Ground.guard }], guard := some (4, false) }) (v := ?vp5) rfl (by kernel_rfl) (by kernel_rfl) (by kernel_rfl) (fun _ _ _ h => h) (Or.inl ⟨by rfl, ?yp5⟩) (by assumption) ?rp5
        case yp5 => (intro w' hSw; (try dsimp only at hSw); go_simp; try with_reducible rfl)
        try simp only [Act.put, List.setIfInBounds_toArray, List.set_cons_zero, List.set_cons_succ]
        refine wpAnyH_take (i := 6) (oi := { dst := some 64, op := Op.move (Operand.tmp 9), type := 3, pos := "law.go:101", after := #[{ on := 4, ground := Ground.guard }], guard := some (4, false) }) (v := ?vp6) rfl (by kernel_rfl) (by kernel_rfl) (by kernel_rfl) (fun _ _ _ h => h) (Or.inl ⟨by rfl, ?yp6⟩) (by assumption) ?rp6
        case yp6 => (intro w' hSw; (try dsimp only at hSw); go_simp; try with_reducible rfl)
        try simp only [Act.put, List.setIfInBounds_toArray, List.set_cons_zero, List.set_cons_succ]
        refine wpAnyH_take (i := 7) (oi := { dst := some 65, op := Op.indexAddr 31 (Operand.tmp 63) (Operand.tmp 64), type := 0, pos := "law.go:101", after := #[{ on := 5, ground := Ground.data }, { on := 6, ground := Ground.data }, { on := 4, ground := Ground.guard }], guard := some (4, false) }) (v := ?vp7) rfl (by kernel_rfl) (by kernel_rfl) (by kernel_rfl) (fun _ _ _ h => h) (Or.inl ⟨by rfl, ?yp7⟩) (by assumption) ?rp7
        case yp7 => (intro w' hSw; (try dsimp only at hSw); go_simp; try with_reducible rfl)
        try simp only [Act.put, List.setIfInBounds_toArray, List.set_cons_zero, List.set_cons_succ]
        refine wpAnyH_take (i := 8) (oi := { dst := some 66, op := Op.fieldAddr 35 (Operand.tmp 65) 0, type := 0, pos := "law.go:101", after := #[{ on := 7, ground := Ground.data }, { on := 4, ground := Ground.guard }], guard := some (4, false) }) (v := ?vp8) rfl (by kernel_rfl) (by kernel_rfl) (by kernel_rfl) (fun _ _ _ h => h) (Or.inl ⟨by rfl, ?yp8⟩) (by assumption) ?rp8
        case yp8 => (intro w' hSw; (try dsimp only at hSw); go_simp; try with_reducible rfl)
        try simp only [Act.put, List.setIfInBounds_toArray, List.set_cons_zero, List.set_cons_succ]
        refine wpAnyH_take (i := 9) (oi := { dst := some 67, op := Op.load 9 (Operand.tmp 66), type := 9, pos := "law.go:101", after := #[{ on := 8, ground := Ground.data }, { on := 4, ground := Ground.guard }], guard := some (4, false) }) (v := ?vp9) rfl (by kernel_rfl) (by kernel_rfl) (by kernel_rfl) (fun _ _ _ h => h) (Or.inl ⟨by rfl, ?yp9⟩) (by assumption) ?rp9
        case yp9 => (intro w' hSw; (try dsimp only at hSw); go_simp; try with_reducible rfl)
        try simp only [Act.put, List.setIfInBounds_toArray, List.set_cons_zero, List.set_cons_succ]
        refine wpAnyH_take (i := 10) (oi := { dst := some 68, op := Op.move (Operand.tmp 7), type := 28, pos := "law.go:101", after := #[{ on := 4, ground := Ground.guard }], guard := some (4, false) }) (v := ?vp10) rfl (by kernel_rfl) (by kernel_rfl) (by kernel_rfl) (fun _ _ _ h => h) (Or.inl ⟨by rfl, ?yp10⟩) (by assumption) ?rp10
        case yp10 => (intro w' hSw; (try dsimp only at hSw); go_simp; try with_reducible rfl)
        try simp only [Act.put, List.setIfInBounds_toArray, List.set_cons_zero, List.set_cons_succ]
        refine wpAnyH_take (i := 11) (oi := { dst := some 69, op := Op.move (Operand.tmp 10), type := 3, pos := "law.go:101", after := #[{ on := 4, ground := Ground.guard }], guard := some (4, false) }) (v := ?vp11) rfl (by kernel_rfl) (by kernel_rfl) (by kernel_rfl) (fun _ _ _ h => h) (Or.inl ⟨by rfl, ?yp11⟩) (by assumption) ?rp11
        case yp11 => (intro w' hSw; (try dsimp only at hSw); go_simp; try with_reducible rfl)
        try simp only [Act.put, List.setIfInBounds_toArray, List.set_cons_zero, List.set_cons_succ]
        refine wpAnyH_take (i := 12) (oi := { dst := some 70, op := Op.indexAddr 28 (Operand.tmp 68) (Operand.tmp 69), type := 0, pos := "law.go:101", after := #[{ on := 10, ground := Ground.data }, { on := 11, ground := Ground.data }, { on := 4, ground := Ground.guard }], guard := some (4, false) }) (v := ?vp12) rfl (by kernel_rfl) (by kernel_rfl) (by kernel_rfl) (fun _ _ _ h => h) (Or.inl ⟨by rfl, ?yp12⟩) (by assumption) ?rp12
        case yp12 => (intro w' hSw; (try dsimp only at hSw); go_simp; try with_reducible rfl)
        try simp only [Act.put, List.setIfInBounds_toArray, List.set_cons_zero, List.set_cons_succ]
        refine wpAnyH_take (i := 13) (oi := { dst := some 71, op := Op.load 9 (Operand.tmp 70), type := 9, pos := "law.go:101", after := #[{ on := 12, ground := Ground.data }, { on := 4, ground := Ground.guard }], guard := some (4, false) }) (v := ?vp13) rfl (by kernel_rfl) (by kernel_rfl) (by kernel_rfl) (fun _ _ _ h => h) (Or.inl ⟨by rfl, ?yp13⟩) (by assumption) ?rp13
        case yp13 => (intro w' hSw; (try dsimp only at hSw); go_simp; try with_reducible rfl)
        try simp only [Act.put, List.setIfInBounds_toArray, List.set_cons_zero, List.set_cons_succ]
        refine wpAnyH_take (i := 14) (oi := { dst := some 72, op := Op.binOp BinOp.neq 9 (Operand.tmp 67) (Operand.tmp 71) 9, type := 4, pos := "law.go:101", after := #[{ on := 9, ground := Ground.data }, { on := 13, ground := Ground.data }, { on := 4, ground := Ground.guard }], guard := some (4, false) }) (v := ?vp14) rfl (by kernel_rfl) (by kernel_rfl) (by kernel_rfl) (fun _ _ _ h => h) (Or.inl ⟨by rfl, ?yp14⟩) (by assumption) ?rp14
        case yp14 => (intro w' hSw; (try dsimp only at hSw); go_simp; try with_reducible rfl)
        try simp only [Act.put, List.setIfInBounds_toArray, List.set_cons_zero, List.set_cons_succ]
        refine wpAnyH_take (i := 15) (oi := { dst := some 73, op := Op.pick (Operand.tmp 62) (Operand.const (Value.bool true)) (Operand.tmp 72), type := 4, pos := "law.go:101", after := #[{ on := 4, ground := Ground.data }, { on := 14, ground := Ground.data }], guard := none }) (v := ?vp15) rfl (by kernel_rfl) (by kernel_rfl) (by kernel_rfl) (fun _ _ _ h => h) (Or.inl ⟨by rfl, ?yp15⟩) (by assumption) ?rp15
        case yp15 => (intro w' hSw; (try dsimp only at hSw); go_simp; try with_reducible rfl)
        try simp only [Act.put, List.setIfInBounds_toArray, List.set_cons_zero, List.set_cons_succ]
        refine wpAnyH_take (i := 16) (oi := { dst := some 74, op := Op.move (Operand.tmp 73), type := 4, pos := "law.go:101", after := #[{ on := 15, ground := Ground.data }, { on := 4, ground := Ground.chain }], guard := none }) (v := ?vp16) rfl (by kernel_rfl) (by kernel_rfl) (by kernel_rfl) (fun _ _ _ h => h) (Or.inl ⟨by rfl, ?yp16⟩) (by assumption) ?rp16
        case yp16 => (intro w' hSw; (try dsimp only at hSw); go_simp; try with_reducible rfl)
        try simp only [Act.put, List.setIfInBounds_toArray, List.set_cons_zero, List.set_cons_succ]
        refine wpAnyH_take (i := 17) (oi := { dst := some 75, op := Op.move (Operand.tmp 8), type := 31, pos := "law.go:101", after := #[{ on := 16, ground := Ground.guard }], guard := some (16, false) }) (v := ?vp17) rfl (by kernel_rfl) (by kernel_rfl) (by kernel_rfl) (fun _ _ _ h => h) (Or.inl ⟨by rfl, ?yp17⟩) (by assumption) ?rp17
        case yp17 => (intro w' hSw; (try dsimp only at hSw); go_simp; try with_reducible rfl)
        try simp only [Act.put, List.setIfInBounds_toArray, List.set_cons_zero, List.set_cons_succ]
        refine wpAnyH_take (i := 18) (oi := { dst := some 76, op := Op.move (Operand.tmp 9), type := 3, pos := "law.go:101", after := #[{ on := 16, ground := Ground.guard }], guard := some (16, false) }) (v := ?vp18) rfl (by kernel_rfl) (by kernel_rfl) (by kernel_rfl) (fun _ _ _ h => h) (Or.inl ⟨by rfl, ?yp18⟩) (by assumption) ?rp18
        case yp18 => (intro w' hSw; (try dsimp only at hSw); go_simp; try with_reducible rfl)
        try simp only [Act.put, List.setIfInBounds_toArray, List.set_cons_zero, List.set_cons_succ]
        refine wpAnyH_take (i := 19) (oi := { dst := some 77, op := Op.indexAddr 31 (Operand.tmp 75) (Operand.tmp 76), type := 0, pos := "law.go:101", after := #[{ on := 17, ground := Ground.data }, { on := 18, ground := Ground.data }, { on := 16, ground := Ground.guard }], guard := some (16, false) }) (v := ?vp19) rfl (by kernel_rfl) (by kernel_rfl) (by kernel_rfl) (fun _ _ _ h => h) (Or.inl ⟨by rfl, ?yp19⟩) (by assumption) ?rp19
        case yp19 => (intro w' hSw; (try dsimp only at hSw); go_simp; try with_reducible rfl)
        try simp only [Act.put, List.setIfInBounds_toArray, List.set_cons_zero, List.set_cons_succ]
        refine wpAnyH_take (i := 20) (oi := { dst := some 78, op := Op.fieldAddr 35 (Operand.tmp 77) 1, type := 0, pos := "law.go:101", after := #[{ on := 19, ground := Ground.data }, { on := 16, ground := Ground.guard }], guard := some (16, false) }) (v := ?vp20) rfl (by kernel_rfl) (by kernel_rfl) (by kernel_rfl) (fun _ _ _ h => h) (Or.inl ⟨by rfl, ?yp20⟩) (by assumption) ?rp20
        case yp20 => (intro w' hSw; (try dsimp only at hSw); go_simp; try with_reducible rfl)
        try simp only [Act.put, List.setIfInBounds_toArray, List.set_cons_zero, List.set_cons_succ]
        refine wpAnyH_take (i := 21) (oi := { dst := some 79, op := Op.load 9 (Operand.tmp 78), type := 9, pos := "law.go:101", after := #[{ on := 20, ground := Ground.data }, { on := 16, ground := Ground.guard }], guard := some (16, false) }) (v := ?vp21) rfl (by kernel_rfl) (by kernel_rfl) (by kernel_rfl) (fun _ _ _ h => h) (Or.inl ⟨by rfl, ?yp21⟩) (by assumption) ?rp21
        case yp21 => (intro w' hSw; (try dsimp only at hSw); go_simp; try with_reducible rfl)
        try simp only [Act.put, List.setIfInBounds_toArray, List.set_cons_zero, List.set_cons_succ]
        refine wpAnyH_take (i := 22) (oi := { dst := some 80, op := Op.move (Operand.tmp 11), type := 5, pos := "law.go:101", after := #[{ on := 16, ground := Ground.guard }], guard := some (16, false) }) (v := ?vp22) rfl (by kernel_rfl) (by kernel_rfl) (by kernel_rfl) (fun _ _ _ h => h) (Or.inl ⟨by rfl, ?yp22⟩) (by assumption) ?rp22
        case yp22 => (intro w' hSw; (try dsimp only at hSw); go_simp; try with_reducible rfl)
        try simp only [Act.put, List.setIfInBounds_toArray, List.set_cons_zero, List.set_cons_succ]
        refine wpAnyH_ready (rs := [23]) (by kernel_rfl) (by simp) ?_
        refine AllReadyH.cons (o := { dst := some 81, op := Op.buildSlice 36 1 #[(0, Operand.tmp 80)], type := 36, pos := "law.go:101", after := #[{ on := 22, ground := Ground.data }, { on := 16, ground := Ground.guard }], guard := some (16, false) }) rfl (fun K hK => ?_) AllReadyH.nil
        go_simp
        refine hK.out _ _ (zB) (fun hHeldp23 => ?_)
        clear hK K hHeld
        try simp only [Act.put, List.setIfInBounds_toArray, List.set_cons_zero, List.set_cons_succ]
        refine wpAnyH_ready (rs := [24]) (by kernel_rfl) (by simp) ?_
        refine AllReadyH.cons (o := { dst := some 82, op := Op.convert 36 9 (Operand.tmp 81), type := 9, pos := "law.go:101", after := #[{ on := 23, ground := Ground.data }, { on := 16, ground := Ground.guard }], guard := some (16, false) }) rfl (fun K hK => ?_) AllReadyH.nil
        go_simp
        refine hK.out _ _ (zB) (fun hHeldp24 => ?_)
        clear hK K hHeldp23
        try simp only [Act.put, List.setIfInBounds_toArray, List.set_cons_zero, List.set_cons_succ]
        refine wpAnyH_take (i := 25) (oi := { dst := some 83, op := Op.binOp BinOp.neq 9 (Operand.tmp 79) (Operand.tmp 82) 9, type := 4, pos := "law.go:101", after := #[{ on := 21, ground := Ground.data }, { on := 24, ground := Ground.data }, { on := 16, ground := Ground.guard }], guard := some (16, false) }) (v := ?vp25) rfl (by kernel_rfl) (by kernel_rfl) (by kernel_rfl) (fun _ _ _ h => h) (Or.inl ⟨by rfl, ?yp25⟩) (by assumption) ?rp25
        case yp25 => (intro w' hSw; (try dsimp only at hSw); go_simp; try with_reducible rfl)
        try simp only [Act.put, List.setIfInBounds_toArray, List.set_cons_zero, List.set_cons_succ]
        refine wpAnyH_take (i := 26) (oi := { dst := some 84, op := Op.pick (Operand.tmp 74) (Operand.const (Value.bool true)) (Operand.tmp 83), type := 4, pos := "law.go:101", after := #[{ on := 16, ground := Ground.data }, { on := 25, ground := Ground.data }], guard := none }) (v := ?vp26) rfl (by kernel_rfl) (by kernel_rfl) (by kernel_rfl) (fun _ _ _ h => h) (Or.inl ⟨by rfl, ?yp26⟩) (by assumption) ?rp26
        case yp26 => (intro w' hSw; (try dsimp only at hSw); go_simp; try with_reducible rfl)
        try simp only [Act.put, List.setIfInBounds_toArray, List.set_cons_zero, List.set_cons_succ]
        refine wpAnyH_done (by kernel_rfl) ?_ _
        go_wp2_with fail
        go_roundw
        case rel => exact ⟨n + 1, i + 1, by omega, by omega, by go_num, by go_num, HN2, (HB6.out.alloc HB6.out.size _).drew⟩
        case measure => simp [intOf]; omega
    · obtain rfl : i = ps.length := by omega
      have hnd : n = d.length := by have := HN.out; rw [List.take_length, ← HDO.out] at this; exact this.symm
      subst hnd
      have HB6 := Lib.hid (B5.out.trans (hb.mono B5.out.size))
      have RA6 := Lib.hid (RA5.out.below hb)
      have RB6 := Lib.hid (RB5.out.below hb)
      have RP6 := Lib.hid (RP5.out.below hb)
      have SM := Lib.hid fun q => sameF_any (wr.drewN q) _ _ a b RA6.out RB6.out
      have SM0 := Lib.hid (sameF_any wr _ _ a b RA6.out RB6.out)
      have SR := Lib.hid fun q => refSame_any (wr.drewN q) _ _ a b (RX5.out.below (below_drewN hb q)) (RY5.out.below (below_drewN hb q))
      have PT := Lib.hid fun W (hW : Below wr.heap.size wr W) => paths_two W _ _ a b (RA6.out.below hW) (RB6.out.below hW) (by have := LA.out; omega) (by have := LB.out; omega)
      rw [← HPS.out] at PT
      have TX := Lib.hid fun W (hW : Below wr.heap.size wr W) u (hu : Strs W u ps) => texts_any W u _ ps ps hu (RP6.out.below hW)
      simp only [decide_true] at TX
      have HZ : Hid (decide (a = b) = decide (d.length = 0)) := Lib.hid (by
        rw [Bool.eq_iff_iff, decide_eq_true_iff, decide_eq_true_iff, List.length_eq_zero_iff, HD.out]
        exact (diff_none RI.out RJ.out).symm)
      obtain ⟨q, hq⟩ : ∃ q, q = decide (a = b) := ⟨_, rfl⟩
      rw [← hq] at SM SM0 SR HZ
      clear hq hb HN
      cases q with
      | true =>
        have hz1 : d.length = 0 := of_decide_eq_true HZ.out.symm
        have hz2 : ((d.length : Int) == 0) = true := by rw [hz1]; rfl
        have hz3 : (d.length : Int) = 0 := by rw [hz1]; rfl
        clear hz1 HZ
        go_wp2_with fail
        refine SM0.out.mono ?_
        rintro e w7 ⟨rfl, q7, rfl⟩
        go_wp2_with fail
        refine (SR.out _).mono ?_
        rintro e w8 ⟨rfl, q8, rfl⟩
        go_wp2_with fail
        refine (SM.out _).mono ?_
        rintro e w9 ⟨rfl, q9, rfl⟩
        generalize hwz : World.drewN _ _ = wz
        have BZ : Hid (Below wr.heap.size wr wz) := Lib.hid (by rw [← hwz]; first | exact below_drewN (Below.refl _ _) _ | exact below_drewN (below_drewN (Below.refl _ _) _) _)
        clear hwz
        have PZ := Lib.hid (PT.out wz BZ.out)
        obtain ⟨W5, hW5⟩ : ∃ W5, W5 = wz.alloc (.cells #[.slice A a.length c, .slice A2 b.length c2] 23) := ⟨_, rfl⟩
        have a5 : Below wz.heap.size wz W5 := by rw [hW5]; exact (Below.refl _ _).alloc (Nat.le_refl _) _
        have HW5 := Lib.hid hW5
        rw [← hW5] at PZ
        have BW5 := Lib.hid (BZ.out.trans (a5.mono BZ.out.size))
        clear hW5 a5
        go_wp2_with fail
        rw [← HW5.out]
        refine PZ.out.mono ?_
        rintro e w10 ⟨pu, rfl, opu, b10⟩
        have B10 := Lib.hid (BW5.out.trans (b10.mono BW5.out.size))
        have SU := Lib.hid (Strs.of_own opu rfl)
        have TZ := Lib.hid (TX.out w10 B10.out pu SU.out)
        obtain ⟨Au, cu, rfl⟩ := own_form opu
        clear opu b10
        go_wp2_with fail
        refine TZ.out.mono ?_
        rintro e w11 ⟨rfl, q11, rfl⟩
        go_wp2_with fail
        go_ret
        exact ⟨rfl, below_drewN (HB6.out.trans (B10.out.mono HB6.out.size)) _⟩
      | false =>
        have hz1 : ¬ d.length = 0 := of_decide_eq_false HZ.out.symm
        have hz2 : ((d.length : Int) == 0) = false := by rw [beq_eq_false_iff_ne]; omega
        have hz3 : ¬ (d.length : Int) = 0 := by omega
        clear hz1 HZ
        go_wp2_with fail
        refine SM0.out.mono ?_
        rintro e w7 ⟨rfl, q7, rfl⟩
        go_wp2_with fail
        refine (SR.out _).mono ?_
        rintro e w8 ⟨rfl, q8, rfl⟩
        go_wp2_with fail
        refine (SM.out _).mono ?_
        rintro e w9 ⟨rfl, q9, rfl⟩
        generalize hwz : World.drewN _ _ = wz
        have BZ : Hid (Below wr.heap.size wr wz) := Lib.hid (by rw [← hwz]; first | exact below_drewN (Below.refl _ _) _ | exact below_drewN (below_drewN (Below.refl _ _) _) _)
        clear hwz
        have PZ := Lib.hid (PT.out wz BZ.out)
        obtain ⟨W5, hW5⟩ : ∃ W5, W5 = wz.alloc (.cells #[.slice A a.length c, .slice A2 b.length c2] 23) := ⟨_, rfl⟩
        have a5 : Below wz.heap.size wz W5 := by rw [hW5]; exact (Below.refl _ _).alloc (Nat.le_refl _) _
        have HW5 := Lib.hid hW5
        rw [← hW5] at PZ
        have BW5 := Lib.hid (BZ.out.trans (a5.mono BZ.out.size))
        clear hW5 a5
        go_wp2_with fail
        rw [← HW5.out]
        refine PZ.out.mono ?_
        rintro e w10 ⟨pu, rfl, opu, b10⟩
        have B10 := Lib.hid (BW5.out.trans (b10.mono BW5.out.size))
        have SU := Lib.hid (Strs.of_own opu rfl)
        have TZ := Lib.hid (TX.out w10 B10.out pu SU.out)
        obtain ⟨Au, cu, rfl⟩ := own_form opu
        clear opu b10
        go_wp2_with fail
        refine TZ.out.mono ?_
        rintro e w11 ⟨rfl, q11, rfl⟩
        go_wp2_with fail
        go_ret
        exact ⟨rfl, below_drewN (HB6.out.trans (B10.out.mono HB6.out.size)) _⟩
end Go.Proofs.YtplleaimmmanhaaDoor
