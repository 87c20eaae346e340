/-
  The contract of Text.
-/
import Derived.Test.YtiefenfogjlnoaaTextP
import Derived.Deep.RegionHeld3
import Derived.Shelf.Strings.BuilderK
namespace Go.Proofs.Ytiefenfogjlnoaa
open Go.RowKit

def Texted (w : World) (l : List UInt8) (n : Nat) (e : Ending) (w' : World) : Prop := e = .returned (.tuple #[.string (mk l), .int .i64 (n : Int), .nilIface]) ∧ Below w.heap.size w w'

/-- The lines of a text, as strings. -/
abbrev lns (s : ByteArray) : List ByteArray := (cutL s.data.toList).map mk
theorem lns_cat (s : ByteArray) : cat (lns s) = s.data.toList := cat_lines _

theorem below_trans {a b c : World} (h : Below a.heap.size a b) (g : Below b.heap.size b c) : Below a.heap.size a c := h.trans (g.mono h.size)

open Go.Shelf in
theorem writeK (B b : Nat) (bs : List Value) (s : ByteArray) (w : World) (h : Lib.IsBuilderF 44 5 B b bs w) (hlen : bs.length + s.size ≤ 140737488355328) (hBw : B ≤ w.heap.size) :
    Calls Try.prog 17 #[.pointer (some ⟨b, 0, none⟩), .string s] w fun e w' => e = .returned (.tuple #[.int .i64 s.size, .nilIface]) ∧ (Lib.BuilderAtF 44 5 B b (.pointer (some ⟨b, 0, none⟩)) (bs ++ Lib.strCells s) w' ∧ Below B w w' ∧ Lib.OthersKept 5 (some b) w w') := Any.Builder_WriteString_k Try.lays166 Try.Builder_Extra_156 B b bs s w h hlen hBw
open Go.Shelf in
theorem stringF (B b : Nat) (l : List UInt8) (w : World) (h : Lib.IsBuilderF 44 5 B b (Lib.byteCells l) w) (hBw : B ≤ w.heap.size) :
    Calls Try.prog 20 #[.pointer (some ⟨b, 0, none⟩)] w fun e w' => e = .returned (.string ⟨l.toArray⟩) ∧ (Lib.IsBuilderF 44 5 B b (Lib.byteCells l) w' ∧ Below B w w') := Any.Builder_String_any_f Try.lays169 Try.Builder_Extra_169 B b l w h hBw

theorem isf_below {T e : TypeId} {B b : Nat} {bs : List Value} {w w' : World} (h : Lib.IsBuilderF T e B b bs w) (hb : Below w.heap.size w w') : Lib.IsBuilderF T e B b bs w' := by
  have key : ∀ p, Lib.BuilderAtF T e B b p bs w → Lib.BuilderAtF T e B b p bs w' := by
    rintro p ⟨h1, v, h2, h3, h4⟩
    have hlt := (Array.getElem?_eq_some_iff.1 h2).1
    refine ⟨h1, v, (hb.block b hlt).trans h2, ⟨h3.1, ?_⟩, h4⟩
    rcases h3.2 with hn | ⟨g, cap, cur, fz, hv, hbg, hg, rest⟩
    · exact .inl hn
    · exact .inr ⟨g, cap, cur, fz, hv, hbg, (hb.block g (Array.getElem?_eq_some_iff.1 hg).1).trans hg, rest⟩
  rcases h with h | h
  · exact .inl (key _ h)
  · exact .inr (key _ h)

/-- The row of a chunk, and the two cells that are read of it. -/
def Rw (X : Nat) (a1 a2 a3 a4 a5 : Value) (w : World) : Prop := w.heap[X]? = some (.cells #[a1, a2, a3, a4, a5] 34 (0, 0))
theorem Rw.two {X : Nat} {a1 a2 a3 a4 a5 : Value} {w : World} (h : Rw X a1 a2 a3 a4 a5 w) : w.cell? ⟨X, 1, none⟩ = some a2 ∧ w.cell? ⟨X, 2, none⟩ = some a3 := ⟨cell_of_row w X 1 _ 34 (0, 0) h, cell_of_row w X 2 _ 34 (0, 0) h⟩
theorem Rw.below {X : Nat} {a1 a2 a3 a4 a5 : Value} {w w' : World} (h : Rw X a1 a2 a3 a4 a5 w) (hb : Below w.heap.size w w') : Rw X a1 a2 a3 a4 a5 w' := (hb.block X (Array.getElem?_eq_some_iff.1 h).1).trans h
theorem Rw.kept {X b : Nat} {a1 a2 a3 a4 a5 : Value} {w w' : World} (h : Rw X a1 a2 a3 a4 a5 w) (hb : Lib.OthersKept 5 (some b) w w') (hne : X ≠ b) : Rw X a1 a2 a3 a4 a5 w' := hb X _ h (fun e => hne (Option.some.inj e)) (fun c fz e => by cases e)

/-- A sum of strings, its outcome by name. -/
theorem sum_named (a b : ByteArray) (h : a.size + b.size ≤ 9223372036854775807) : ∃ s, s = a ++ b ∧ s.size = a.size + b.size ∧ ∀ w, (Op.stringOp .add a b).run Try.prog w = .ok (.string s) w := ⟨_, rfl, ByteArray.size_append, fun w => run_string_add_sum w a b h⟩

attribute [-go_sem] run_string_add_if
set_option maxRecDepth 100000 in
set_option maxHeartbeats 8000000 in
theorem text_any (w : World) (sb so st sa sn : ByteArray) (h1 : sb.size ≤ 20000) (h2 : so.size ≤ 20000) (h3 : st.size ≤ 20000) (h4 : sa.size ≤ 1000) (h5 : sn.size ≤ 1000)
    (l1 : (lns sb).length ≤ 256) (l2 : (lns so).length ≤ 256) (l3 : (lns st).length ≤ 256) :
    Calls Try.prog 9 #[.string sb, .string so, .string st, .string sa, .string sn] w (Texted w (txtAll sa.data.toList sn.data.toList (allC (lns sb) (lns so) (lns st))) (clashes (allC (lns sb) (lns so) (lns st)))) := by
  have z1 : ∀ s ∈ lns sb, s.size ≤ maxLen := fun s hs => by have := mem_cat hs; rw [lns_cat, size_data] at this; unfold maxLen; omega
  have z2 : ∀ s ∈ lns so, s.size ≤ maxLen := fun s hs => by have := mem_cat hs; rw [lns_cat, size_data] at this; unfold maxLen; omega
  have z3 : ∀ s ∈ lns st, s.size ≤ maxLen := fun s hs => by have := mem_cat hs; rw [lns_cat, size_data] at this; unfold maxLen; omega
  have hG : Hid (∀ c ∈ allC (lns sb) (lns so) (lns st), (cat c.ours).length ≤ 20000 ∧ (cat c.theirs).length ≤ 20000 ∧ (cat c.out).length ≤ 20000 ∧ c.ours.length ≤ 256 ∧ c.theirs.length ≤ 256 ∧ c.out.length ≤ 256 ∧ (txtC sa.data.toList sn.data.toList c).length ≤ 50000) := Lib.hid fun c hc => by
    obtain ⟨_, a2, a3, a4⟩ := piece_le (lns sb) (lns so) (lns st) (M := 20000) (by rw [lns_cat, size_data]; exact h1) (by rw [lns_cat, size_data]; exact h2) (by rw [lns_cat, size_data]; exact h3) hc
    obtain ⟨_, b2, b3, b4⟩ := piece_len (lns sb) (lns so) (lns st) l1 l2 l3 hc
    exact ⟨a2, a3, a4, b2, b3, b4, txtC_le (by rw [size_data]; exact h4) (by rw [size_data]; exact h5) a2 a3 a4⟩
  have hL : (allC (lns sb) (lns so) (lns st)).length ≤ 600 := by have := chunks_len (pls (ed (lns sb) (lns so)) 0) (pls (ed (lns sb) (lns st)) 0) (lns sb) (lns so) (lns st) ((lns sb).length + 1) 0 0 0; unfold allC; omega
  have S1 := Lib.hid (split_any w sb (by omega))
  have S2 := Lib.hid fun w1 => split_any w1 so (by omega)
  have S3 := Lib.hid fun w1 => split_any w1 st (by omega)
  have CH := Lib.hid fun w1 v0 v1 v2 g0 g1 g2 => chunks_any w1 v0 v1 v2 (lns sb) (lns so) (lns st) g0 g1 g2 z1 z2 z3 l1 l2 l3
  have q1 : (cutL sb.data.toList).length = (lns sb).length := by simp
  have q2 : (cutL so.data.toList).length = (lns so).length := by simp
  have q3 : (cutL st.data.toList).length = (lns st).length := by simp
  have Q1 := Lib.hid q1
  have Q2 := Lib.hid q2
  have Q3 := Lib.hid q3
  clear z1 z2 z3 l1 l2 l3 h1 h2 h3 q1 q2 q3
  generalize allC (lns sb) (lns so) (lns st) = cs at *
  go_enter Try.func9, Try.ntmps9
  go_wp2_with fail
  refine S1.out.mono ?_
  rintro e w1 ⟨v1, rfl, o1, b1⟩
  have t1 := Strs.of_own o1 Q1.out
  go_wp2_with fail
  refine (S2.out w1).mono ?_
  rintro e w2 ⟨v2, rfl, o2, d2⟩
  have t2 := Strs.of_own o2 Q2.out
  have b2 := below_trans b1 d2
  have t1' := t1.below d2
  clear o1 o2 b1 S1 S2 t1 Q1 Q2
  go_wp2_with fail
  refine (S3.out w2).mono ?_
  rintro e w3 ⟨v3, rfl, o3, d3⟩
  have t3 := Strs.of_own o3 Q3.out
  have b3 := below_trans b2 d3
  have C3 := Lib.hid (CH.out w3 v1 v2 v3 (t1'.below d3) (t2.below d3) t3)
  clear o3 b2 S3 t1' t2 t3 d2 d3 CH Q3
  go_wp2_with fail
  refine C3.out.mono ?_
  rintro e w5 ⟨vC, rfl, o5, d5⟩
  have b5 := below_trans b3 d5
  obtain ⟨AC, cC, rfl⟩ := o5.form
  clear C3 b3 d5
  have IB := Lib.hid (Lib.IsBuilderF.of (Lib.fresh_isBuilder 44 5 w5))
  have d6 := (Below.refl w5.heap.size w5).alloc (Nat.le_refl _) (.cells #[.pointer none, .slice none 0 0] 44)
  have HO := Lib.hid o5
  have B5 := Lib.hid b5
  clear o5 b5
  go_wp2_with fail
  obtain ⟨b, hb⟩ : ∃ b, b = w5.heap.size := ⟨_, rfl⟩
  rw [← hb] at IB d6 ⊢
  have Hb := Lib.hid hb
  clear hb
  go_loopw [16, 34] (fun s16 s34 wr => ∃ k : Nat, k ≤ cs.length ∧ s34 = .int .i64 k ∧ s16 = .int .i64 (clashes (cs.take k) : Nat) ∧ Lib.IsBuilderF 44 5 b b (Lib.byteCells (txtAll sa.data.toList sn.data.toList (cs.take k))) wr ∧ Below b w5 wr) (fun _ s34 _ => cs.length - (intOf s34).toNat)
  case atStart => exact ⟨0, Nat.zero_le _, rfl, rfl, IB.out, d6⟩
  case round =>
    clear IB d6
    obtain ⟨k, hk, rfl, rfl, hI, hB⟩ := hrel
    have k0 : (0 : Int) ≤ (k : Int) := Int.natCast_nonneg _
    have hbl : b ≤ wr.heap.size := by have := Hb.out; rw [this]; rw [this] at hB; exact hB.size
    have hB5 : Below w5.heap.size w5 wr := by have := Hb.out; rw [this] at hB; exact hB
    by_cases hlt : k < cs.length
    · have k1 : (k : Int) < (cs.length : Int) := by omega
      obtain ⟨c, hc⟩ : ∃ c, cs[k]? = some c := ⟨_, List.getElem?_eq_getElem hlt⟩
      obtain ⟨g, A1, A2, A3, A4, c1, c2, c3, c4, rfl, x0, x1, x2, x3, x4, t1, t2, t3, t4⟩ := (HO.out.below hB5).at hc
      obtain ⟨m1, m2, m3, m4, m5, m6, m7⟩ := hG.out c (List.mem_of_getElem? hc)
      have HT := Lib.hid (txtAll_take (a := sa.data.toList) (n := sn.data.toList) hc)
      have HC := Lib.hid (clashes_take hc)
      have hcl := clashes_le (cs.take k)
      rw [List.length_take] at hcl
      have htl : (txtAll sa.data.toList sn.data.toList (cs.take k)).length ≤ 600 * 50000 := by
        have := flatMap_le (f := txtC sa.data.toList sn.data.toList) (M := 50000) (l := cs.take k) (fun x hx => (hG.out x (List.mem_of_mem_take hx)).2.2.2.2.2.2)
        rw [List.length_take] at this
        unfold txtAll
        have h6 : min k cs.length ≤ 600 := by omega
        exact Nat.le_trans this (Nat.mul_le_mul_right _ h6)
      have hD := (Below.refl wr.heap.size wr).alloc (Nat.le_refl _) (.cells #[.slice A1 c.base.length c1, .slice A2 c.ours.length c2, .slice A3 c.theirs.length c3, .bool c.clash, .slice A4 c.out.length c4] 34)
      cases hcc : c.clash with
      | false =>
        have HE : Hid (txtC sa.data.toList sn.data.toList c = cat c.out) := Lib.hid (by unfold txtC; rw [hcc]; rfl)
        rw [hcc] at x3 hD HC
        have J := Lib.hid (join_any _ _ c.out (t4.below hD) (by omega) (by omega))
        have HD := Lib.hid hD
        have HI := Lib.hid hI
        have HBl := Lib.hid hB
        clear hc t1 t2 t3 t4 hcc hD hI hB hB5
        generalize clashes (cs.take k) = n at *
        generalize txtAll sa.data.toList sn.data.toList (cs.take k) = T at *
        go_wp2_with fail
        refine J.out.mono ?_
        rintro e w6 ⟨rfl, d6⟩
        have hsz6 : b ≤ w6.heap.size := by have := HD.out.size; have := d6.size; omega
        have W := Lib.hid (writeK b b _ (mk (cat c.out)) w6 (isf_below (isf_below HI.out HD.out) d6) (by rw [Lib.byteCells_length, mk_size]; omega) hsz6)
        clear J
        go_wp2_with fail
        refine W.out.mono ?_
        rintro e w7 ⟨rfl, h7, d7, -⟩
        have HB7 := Lib.hid (((HBl.out.trans (HD.out.mono hbl)).trans (d6.mono (by have := HD.out.size; omega))).trans d7)
        have H7 := Lib.hid h7
        clear W d6 d7 h7
        go_wp2_with fail
        go_roundw
        case rel => exact ⟨k + 1, by omega, by go_num, by rw [HC.out]; rfl, by rw [HT.out, HE.out, Lib.byteCells_append]; exact .inr (by have := H7.out; rw [Lib.strCells_eq] at this; simpa [mk] using this), HB7.out⟩
        case measure => simp [intOf]; omega
      | true =>
        have HE : Hid (txtC sa.data.toList sn.data.toList c = markL sa.data.toList sn.data.toList (endL (cat c.ours)) (endL (cat c.theirs))) := Lib.hid (by unfold txtC; rw [hcc]; rfl)
        rw [hcc] at x3 hD HC
        have HW := Lib.hid fun w7 v h => wholeText_any w7 v c.ours h (by omega) (by omega)
        have HX := Lib.hid fun w7 v h => wholeText_any w7 v c.theirs h (by omega) (by omega)
        have hlE1 := endL_le (cat c.ours)
        have hlE2 := endL_le (cat c.theirs)
        have HD := Lib.hid hD
        have HI := Lib.hid hI
        have HBl := Lib.hid hB
        have T2 := Lib.hid (t2.below (hD.trans ((Below.refl _ _).drew.mono hD.size)))
        have T3 := Lib.hid (t3.below (hD.trans ((Below.refl _ _).drew.mono hD.size)))
        clear hc t1 t2 t3 t4 hcc hD hI hB hB5
        generalize clashes (cs.take k) = n at *
        generalize txtAll sa.data.toList sn.data.toList (cs.take k) = T at *
        generalize endL (cat c.ours) = E1 at *
        generalize endL (cat c.theirs) = E2 at *
        go_wp2_with fail
        have y1 : (mk E1).size ≤ 20001 := by rw [mk_size]; omega
        have y2 : (mk E2).size ≤ 20001 := by rw [mk_size]; omega
        have l1 : (ByteArray.mk #[60, 60, 60, 60, 60, 60, 60, 32]).size = 8 := rfl
        have l2 : (ByteArray.mk #[10]).size = 1 := rfl
        have l3 : (ByteArray.mk #[61, 61, 61, 61, 61, 61, 61, 10]).size = 8 := rfl
        have l4 : (ByteArray.mk #[62, 62, 62, 62, 62, 62, 62, 32]).size = 8 := rfl
        obtain ⟨s1, e1, n1, p1⟩ := sum_named ⟨#[60, 60, 60, 60, 60, 60, 60, 32]⟩ sa (by omega)
        obtain ⟨s2, e2, n2, p2⟩ := sum_named s1 ⟨#[10]⟩ (by omega)
        obtain ⟨s3, e3, n3, p3⟩ := sum_named s2 (mk E1) (by omega)
        obtain ⟨s4, e4, n4, p4⟩ := sum_named s3 ⟨#[61, 61, 61, 61, 61, 61, 61, 10]⟩ (by omega)
        obtain ⟨s5, e5, n5, p5⟩ := sum_named s4 (mk E2) (by omega)
        obtain ⟨s6, e6, n6, p6⟩ := sum_named s5 ⟨#[62, 62, 62, 62, 62, 62, 62, 32]⟩ (by omega)
        obtain ⟨s7, e7, n7, p7⟩ := sum_named s6 sn (by omega)
        obtain ⟨s8, e8, n8, p8⟩ := sum_named s7 ⟨#[10]⟩ (by omega)
        have eM : Hid (s8 = markB sa sn (mk E1) (mk E2)) := Lib.hid (by rw [e8, e7, e6, e5, e4, e3, e2, e1])
        clear l1 l2 l3 l4 e1 e2 e3 e4 e5 e6 e7 e8 n1 n2 n3 n4 n5 n6 n7 n8
        have R0 : Rw wr.heap.size (.slice A1 c.base.length c1) (.slice A2 c.ours.length c2) (.slice A3 c.theirs.length c3) (.bool true) (.slice A4 c.out.length c4) (wr.alloc (.cells #[.slice A1 c.base.length c1, .slice A2 c.ours.length c2, .slice A3 c.theirs.length c3, .bool true, .slice A4 c.out.length c4] 34)).drew := heap_alloc_new wr _
        have q0 := R0.two
        have hne : wr.heap.size ≠ b := by have h9 : b < wr.heap.size := HI.out.elim (·.lt) (·.lt); omega
        have W1 := Lib.hid (HW.out _ _ T2.out)
        have hbs : b ≤ (wr.alloc (.cells #[.slice A1 c.base.length c1, .slice A2 c.ours.length c2, .slice A3 c.theirs.length c3, .bool true, .slice A4 c.out.length c4] 34)).drew.heap.size := by have := HD.out.size; simp at this ⊢; omega
        have hXs : wr.heap.size < (wr.alloc (.cells #[.slice A1 c.base.length c1, .slice A2 c.ours.length c2, .slice A3 c.theirs.length c3, .bool true, .slice A4 c.out.length c4] 34)).drew.heap.size := by simp
        have HXs := Lib.hid hXs
        have hsz : (markB sa sn (mk E1) (mk E2)).size ≤ 50000 := by
          rw [← size_data, markB_data]
          unfold markL
          simp only [List.length_append, List.length_cons, List.length_nil, size_data]
          rw [mk_size, mk_size]
          omega
        have HSZ : Hid (s8.size ≤ 50000) := Lib.hid (by rw [eM.out]; exact hsz)
        clear hXs hsz
        go_region_held3 (fun w' => w'.cell? ⟨wr.heap.size, 1, none⟩ = some (.slice A2 c.ours.length c2) ∧ w'.cell? ⟨wr.heap.size, 2, none⟩ = some (.slice A3 c.theirs.length c3)) (first | exact q9 | exact q8 | exact q7 | exact q0) (first
          | (go_at_call 17; (with_reducible refine (writeK b b _ s8 w8 I8.out (by rw [Lib.byteCells_length]; have := HSZ.out; omega) hs8).mono ?_); rintro e w9 ⟨rfl, h9, d9, k9⟩; have q9 := (R8.kept k9 hne).two)
          | (go_at_call 19; (with_reducible refine (HX.out w7 _ (T3.out.below d7)).mono ?_); rintro e w8 ⟨rfl, d8⟩; have I8 := Lib.hid (isf_below I7.out d8); have hs8 := Nat.le_trans hs7 d8.size; have R8 := R7.below d8; have q8 := R8.two)
          | (go_at_call 19; (with_reducible refine W1.out.mono ?_); rintro e w7 ⟨rfl, d7⟩; have I7 := Lib.hid (isf_below (isf_below HI.out (HD.out.trans ((Below.refl _ _).drew.mono HD.out.size))) d7); have hs7 := Nat.le_trans hbs d7.size; have R7 := R0.below d7; have q7 := R7.two))
        all_goals
          have HB9 := Lib.hid ((((HBl.out.trans ((HD.out.trans ((Below.refl _ _).drew.mono HD.out.size)).mono hbl)).trans (d7.mono hbs)).trans (d8.mono hs7)).trans d9)
          have H9 := Lib.hid h9
          clear d7 d8 d9 h9 W1 I7 I8 R0 R7 R8 q0 q7 q8 q9 k9
          go_wp2_with fail
          go_roundw
          case rel => exact ⟨k + 1, by omega, by go_num, by rw [HC.out]; go_num, by rw [HT.out, HE.out, Lib.byteCells_append]; exact .inr (by have := H9.out; rw [Lib.strCells_eq, eM.out, markB_data] at this; simpa [mk] using this), HB9.out⟩
          case measure => simp [intOf]; omega
    · obtain rfl : k = cs.length := by omega
      rw [List.take_length] at hI
      have P := Lib.hid (stringF b b _ wr hI hbl)
      rw [List.take_length]
      clear hI
      go_wp2_with fail
      refine P.out.mono ?_
      rintro e w6 ⟨rfl, -, d6⟩
      go_wp2_with fail
      go_ret3
      exact ⟨rfl, B5.out.trans (((hB5.trans (by rw [← Hb.out]; exact d6)).mono B5.out.size))⟩

end Go.Proofs.Ytiefenfogjlnoaa
