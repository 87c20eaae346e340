/-
  todo.Text: steps in words (commits below 100).
-/
import Derived.Test.YtanjcjnkppnhcaaDoorTdJ
import Derived.Shelf.Strings.BuilderK
namespace Go.Proofs.YtanjcjnkppnhcaaDoor
open Go Go.RowKit

theorem sum_namedT (a b : ByteArray) (h : a.size + b.size ≤ 9223372036854775807) : ∃ s, s = a ++ b ∧ s.size = a.size + b.size ∧ ∀ w, (Op.stringOp .add a b).run Tryd.prog w = .ok (.string s) w := ⟨_, rfl, ByteArray.size_append, fun w => run_string_add_sum w a b h⟩
theorem digits_leT (i : Nat) (hi : i < 100) : (ByteArray.mk (Lib.decDigits i).toArray).size ≤ 2 := by
  have : ∀ j : Fin 100, (ByteArray.mk (Lib.decDigits j.1).toArray).size ≤ 2 := by decide +kernel
  exact this ⟨i, hi⟩
open Go.Shelf in
theorem writeKT (B b : Nat) (bs : List Value) (s : ByteArray) (w : World) (h : Lib.IsBuilderF 53 5 B b bs w) (hlen : bs.length + s.size ≤ 140737488355328) (hBw : B ≤ w.heap.size) :
    Calls Tryd.prog 16 #[.pointer (some ⟨b, 0, none⟩), .string s] w fun e w' => e = .returned (.tuple #[.int .i64 s.size, .nilIface]) ∧ (Lib.BuilderAtF 53 5 B b (.pointer (some ⟨b, 0, none⟩)) (bs ++ Lib.strCells s) w' ∧ Below B w w' ∧ Lib.OthersKept 5 (some b) w w') := Any.Builder_WriteString_k Tryd.lays166 Tryd.Builder_Extra_166 B b bs s w h hlen hBw
open Go.Shelf in
theorem stringFT (B b : Nat) (l : List UInt8) (w : World) (h : Lib.IsBuilderF 53 5 B b (Lib.byteCells l) w) (hBw : B ≤ w.heap.size) :
    Calls Tryd.prog 18 #[.pointer (some ⟨b, 0, none⟩)] w fun e w' => e = .returned (.string ⟨l.toArray⟩) ∧ (Lib.IsBuilderF 53 5 B b (Lib.byteCells l) w' ∧ Below B w w') := Any.Builder_String_any_f Tryd.lays169 Tryd.Builder_Extra_169 B b l w h hBw
theorem isf_belowT {T e : TypeId} {B b : Nat} {bs : List Value} {w w' : World} (h : Lib.IsBuilderF T e B b bs w) (hb : Below w.heap.size w w') : Lib.IsBuilderF T e B b bs w' := by
  have key : ∀ p, Lib.BuilderAtF T e B b p bs w → Lib.BuilderAtF T e B b p bs w' := by
    rintro p ⟨h1, v, h2, h3, h4⟩
    have hlt := (Array.getElem?_eq_some_iff.1 h2).1
    refine ⟨h1, v, (hb.block b hlt).trans h2, ⟨h3.1, ?_⟩, h4⟩
    rcases h3.2 with hn | ⟨g, cap, cur, fz, hv, hbg, hg, rest⟩
    · exact .inl hn
    · exact .inr ⟨g, cap, cur, fz, hv, hbg, (hb.block g (Array.getElem?_eq_some_iff.1 hg).1).trans hg, rest⟩
  rcases h with h | h
  · exact .inl (key _ h)
  · exact .inr (key _ h)
theorem Blk.othersT {w w' : World} {g b : Nat} {t : TypeId} {cs : Array Value} (h : Blk w g t cs) (hb : Lib.OthersKept 5 (some b) w w') (hne : g ≠ b) (ht : t ≠ 5) : Blk w' g t cs := hb g _ h (fun e => hne (Option.some.inj e)) (fun c fz e => by injection e with _ e; exact ht e)
attribute [-go_sem] run_string_add_if
/-- A step in words. -/
def stepL (x : Fl) : List UInt8 := x.1.data.toList ++ [32] ++ Lib.decDigits x.2.1.toNat ++ (if (x.1.toList == [114, 101, 119, 111, 114, 100]) = true then [32] ++ x.2.2.data.toList else []) ++ [10]
def stepsL (l : List Fl) : List UInt8 := l.flatMap stepL
def StepOk (x : Fl) : Prop := x.1.size ≤ 1000 ∧ x.2.2.size ≤ 1000 ∧ 0 ≤ x.2.1 ∧ x.2.1 < 100
theorem dd_len (i : Nat) (hi : i < 100) : (Lib.decDigits i).length ≤ 2 := by have := digits_leT i hi; rw [← size_listB] at this; simpa using this
theorem stepL_le {x : Fl} (h : StepOk x) : (stepL x).length ≤ 3000 := by
  obtain ⟨h1, h2, h3, h4⟩ := h
  have hd := dd_len x.2.1.toNat (by omega)
  unfold stepL
  rw [← size_listB] at h1 h2
  split <;> simp only [List.length_append, List.length_cons, List.length_nil] <;> omega
theorem stepsL_le {l : List Fl} (h : ∀ x ∈ l, StepOk x) : (stepsL l).length ≤ l.length * 3000 := by
  induction l with
  | nil => simp [stepsL]
  | cons x l ih =>
    have h1 := stepL_le (h x List.mem_cons_self)
    have h2 := ih fun y hy => h y (List.mem_cons_of_mem _ hy)
    unfold stepsL at h2 ⊢
    rw [List.flatMap_cons, List.length_append, List.length_cons, Nat.succ_mul]
    omega
theorem data_app (a b : ByteArray) : (a ++ b).data.toList = a.data.toList ++ b.data.toList := by rw [ByteArray.data_append, Array.toList_append]
set_option maxRecDepth 100000 in
set_option maxHeartbeats 8000000 in
theorem text_steps (w : World) (v : Value) (l : List Fl) (h : Reads 3 cF w v l) (hl : l.length ≤ 100) (h2 : ∀ x ∈ l, StepOk x) :
    Calls Tryd.prog 11 #[v] w fun e w' => e = .returned (.string ⟨(stepsL l).toArray⟩) ∧ Below w.heap.size w w' := by
  obtain ⟨A, c, rfl⟩ := h.form
  have HH := Lib.hid h
  have H2 := Lib.hid h2
  have IB := Lib.hid (Lib.IsBuilderF.of (Lib.fresh_isBuilder 53 5 w))
  have d6 := (Below.refl w.heap.size w).alloc (Nat.le_refl _) (.cells #[.pointer none, .slice none 0 0] 53)
  have ln0 : (0 : Int) ≤ (l.length : Int) := Int.natCast_nonneg _
  have ln9 : (l.length : Int) ≤ 100 := by omega
  clear h h2
  go_enter Tryd.func11, Tryd.ntmps11
  go_wp2_with fail
  obtain ⟨b, hb⟩ : ∃ b, b = w.heap.size := ⟨_, rfl⟩
  rw [← hb] at IB d6 ⊢
  have Hb := Lib.hid hb
  clear hb
  go_loopw [5, 8] (fun _ s8 wr => ∃ k : Nat, k ≤ l.length ∧ s8 = .int .i64 k ∧ Hid (Lib.IsBuilderF 53 5 b b (Lib.byteCells (stepsL (l.take k))) wr) ∧ Hid (Below b w wr)) (fun _ s8 _ => l.length - (intOf s8).toNat)
  case atStart => exact ⟨0, Nat.zero_le _, rfl, IB, Lib.hid d6⟩
  case round =>
    clear IB d6
    obtain ⟨k, hk, rfl, hI, hB⟩ := hrel
    have k0 : (0 : Int) ≤ (k : Int) := Int.natCast_nonneg _
    obtain ⟨wo, hwo⟩ : ∃ wo : World, wo = wr := ⟨_, rfl⟩
    rw [← hwo] at hI hB ⊢
    clear hwo
    have hbw : Hid (Below w.heap.size w wo) := Lib.hid (by have := Hb.out; rw [this] at hB; exact hB.out)
    have hbl : b ≤ wo.heap.size := by have := Hb.out; rw [this]; exact hbw.out.size
    by_cases hlt : k < l.length
    · have k1 : (k : Int) < (l.length : Int) := by omega
      obtain ⟨x, hx⟩ : ∃ x, l[k]? = some x := ⟨_, List.getElem?_eq_getElem hlt⟩
      obtain ⟨ad, rfl, c0, c1', c2'⟩ := Fils.at_ (HH.out.below hbw.out) hx
      obtain ⟨s1x, s2x, s3x, s4x⟩ := H2.out x (List.mem_of_getElem? hx)
      have hTL := stepsL_le (l := l.take k) (fun y hy => H2.out y (List.mem_of_mem_take hy))
      rw [List.length_take] at hTL
      have HTK := Lib.hid (show stepsL (l.take (k + 1)) = stepsL (l.take k) ++ stepL x by unfold stepsL; obtain ⟨hk', rfl⟩ := List.getElem?_eq_some_iff.1 hx; rw [List.take_succ_eq_append_getElem hk', List.flatMap_append]; simp)
      obtain ⟨vb, cc, tx⟩ := x
      dsimp only at c0 c1' c2' s1x s2x s3x s4x
      obtain ⟨a, rfl⟩ : ∃ a : Nat, cc = (a : Int) := ⟨cc.toNat, by omega⟩
      have a3 : a < 100 := by omega
      have y1 := digits_leT a a3
      have z1 : (ByteArray.mk #[32]).size = 1 := rfl
      obtain ⟨s1, e1, n1, p1⟩ := sum_namedT vb ⟨#[32]⟩ (by omega)
      obtain ⟨s2, e2, n2, p2⟩ := sum_namedT s1 ⟨(Lib.decDigits a).toArray⟩ (by omega)
      obtain ⟨s3, e3, n3, p3⟩ := sum_namedT ⟨#[32]⟩ tx (by omega)
      have eM : Hid (s2.data.toList = vb.data.toList ++ [32] ++ Lib.decDigits a) := Lib.hid (by rw [e2, e1, data_app, data_app])
      have eM3 : Hid (s3.data.toList = [32] ++ tx.data.toList) := Lib.hid (by rw [e3, data_app])
      have HSZ : Hid (s2.size ≤ 2000) := Lib.hid (by omega)
      have HSZ3 : Hid (s3.size ≤ 2000) := Lib.hid (by omega)
      have IT := Lib.hid fun W => Tryd.strconv_Itoa_small a a3 W
      have BB := Lib.hid ((hB.out.alloc hbl (.cells #[.string vb, .int .i64 (a : Int), .string tx] 37)))
      have KX := Lib.hid (Blk.new wo 37 #[.string vb, .int .i64 (a : Int), .string tx])
      have IX := Lib.hid (isf_belowT hI.out ((Below.refl wo.heap.size wo).alloc (Nat.le_refl _) (.cells #[.string vb, .int .i64 (a : Int), .string tx] 37)))
      have hneX : wo.heap.size ≠ b := by have h9 : b < wo.heap.size := hI.out.elim (·.lt) (·.lt); omega
      have hTL2 : (stepsL (l.take k)).length ≤ 300000 := by omega
      have HLT := Lib.hid hlt
      clear hx hTL hI hbw hB e1 e2 e3 n1 n2 n3 y1 z1 s1x s2x s3x s4x hlt hk
      generalize hT : stepsL (l.take k) = T at *
      clear hT
      go_upto_region 5 with fail
      generalize hW : wo.alloc (.cells #[.string vb, .int .i64 (a : Int), .string tx] 37) = W at *
      have hbW : b ≤ W.heap.size := by rw [← hW]; simp; omega
      generalize wo.heap.size = X at *
      clear hW c0 c1' c2'
      have HBWd := Lib.hid (show b ≤ W.drew.heap.size from hbW)
      have KXd : Hid (Blk W.drew X 37 #[.string vb, .int .i64 (a : Int), .string tx]) := Lib.hid KX.out
      have IXd : Hid (Lib.IsBuilderF 53 5 b b (Lib.byteCells T) W.drew) := Lib.hid (isf_belowT IX.out ((Below.refl _ _).drew))
      have q0 : W.drew.cell? ⟨X, 0, none⟩ = some (.string vb) ∧ W.drew.cell? ⟨X, 1, none⟩ = some (.int .i64 (a : Int)) := ⟨KX.out.cell 0, KX.out.cell 1⟩
      go_region_held3 (fun w' => w'.cell? ⟨X, 0, none⟩ = some (.string vb) ∧ w'.cell? ⟨X, 1, none⟩ = some (.int .i64 (a : Int))) (first | exact q0 | exact q9) (first
        | (go_at_call 16; (with_reducible refine (writeKT b b _ s2 W.drew IXd.out (by rw [Lib.byteCells_length]; have := HSZ.out; omega) HBWd.out).mono ?_); rintro e w9 ⟨rfl, h9, d9, k9⟩; have K9 := KXd.out.othersT k9 hneX (by decide); have q9 := (show w9.cell? ⟨X, 0, none⟩ = some (.string vb) ∧ w9.cell? ⟨X, 1, none⟩ = some (.int .i64 (a : Int)) from ⟨K9.cell 0, K9.cell 1⟩))
        | (go_at_call 17; (with_reducible refine (IT.out _).mono ?_); rintro e w' ⟨rfl, rfl⟩))
      all_goals
        have B9 := Lib.hid ((BB.out.drew).trans d9)
        have I9 : Hid (Lib.IsBuilderF 53 5 b b (Lib.byteCells (T ++ (vb.data.toList ++ [32] ++ Lib.decDigits a))) w9) := Lib.hid (by rw [Lib.byteCells_append, ← eM.out]; exact .inr (by have := h9; rw [Lib.strCells_eq] at this; exact this))
        have x0 := K9.cell 0
        have x2 := K9.cell 2
        have HBW9 := Lib.hid (show b ≤ w9.heap.size from Nat.le_trans hbW d9.size)
        have HL9 := Lib.hid (show (T ++ (vb.data.toList ++ [32] ++ Lib.decDigits a)).length ≤ 310000 by rw [← eM.out, List.length_append, size_listB]; have := HSZ.out; omega)
        clear h9 k9 K9 q0 q9 KX KXd IX IXd BB p1 p2 IT d9
        cases hr : (vb.toList == [114, 101, 119, 111, 114, 100]) with
        | false =>
          have HF := Lib.hid (show stepsL (l.take (k + 1)) = T ++ (vb.data.toList ++ [32] ++ Lib.decDigits a) ++ [10] by rw [HTK.out]; unfold stepL; dsimp only; rw [hr, if_neg (by simp)]; simp [Int.toNat_natCast])
          clear p3 HTK
          go_wp2_with fail
          refine (writeKT b b _ ⟨#[10]⟩ _ I9.out (by rw [Lib.byteCells_length]; have := HL9.out; show _ + 1 ≤ _; omega) HBW9.out).mono ?_
          rintro e w10 ⟨rfl, h10, d10, k10⟩
          have I10 : Hid (Lib.IsBuilderF 53 5 b b (Lib.byteCells (stepsL (l.take (k + 1)))) w10) := Lib.hid (by rw [HF.out, Lib.byteCells_append]; exact .inr (by have := h10; rw [Lib.strCells_eq] at this; exact this))
          have B10 := Lib.hid (B9.out.trans d10)
          clear h10 k10 d10 I9 B9
          go_wp2_with fail
          go_roundw
          case rel => exact ⟨k + 1, by have := HLT.out; omega, by go_num, I10, B10⟩
          case measure => have := HLT.out; simp [intOf]; omega
        | true =>
          have HF := Lib.hid (show stepsL (l.take (k + 1)) = T ++ (vb.data.toList ++ [32] ++ Lib.decDigits a) ++ ([32] ++ tx.data.toList) ++ [10] by rw [HTK.out]; unfold stepL; dsimp only; rw [hr, if_pos rfl]; simp [Int.toNat_natCast])
          clear HTK
          go_wp2_with fail
          refine (writeKT b b _ s3 _ I9.out (by rw [Lib.byteCells_length]; have := HL9.out; have := HSZ3.out; omega) HBW9.out).mono ?_
          rintro e w10 ⟨rfl, h10, d10, k10⟩
          have I10 : Hid (Lib.IsBuilderF 53 5 b b (Lib.byteCells (T ++ (vb.data.toList ++ [32] ++ Lib.decDigits a) ++ ([32] ++ tx.data.toList))) w10) := Lib.hid (by rw [Lib.byteCells_append, ← eM3.out]; exact .inr (by have := h10; rw [Lib.strCells_eq] at this; exact this))
          have HL10 := Lib.hid (show (T ++ (vb.data.toList ++ [32] ++ Lib.decDigits a) ++ ([32] ++ tx.data.toList)).length ≤ 320000 by rw [← eM3.out, List.length_append, size_listB]; have := HSZ3.out; have := HL9.out; omega)
          have B10 := Lib.hid (B9.out.trans d10)
          have HBW10 := Lib.hid (Nat.le_trans HBW9.out d10.size)
          clear h10 k10 d10 I9 B9
          go_wp2_with fail
          refine (writeKT b b _ ⟨#[10]⟩ _ I10.out (by rw [Lib.byteCells_length]; have := HL10.out; show _ + 1 ≤ _; omega) HBW10.out).mono ?_
          rintro e w11 ⟨rfl, h11, d11, k11⟩
          have I11 : Hid (Lib.IsBuilderF 53 5 b b (Lib.byteCells (stepsL (l.take (k + 1)))) w11) := Lib.hid (by rw [HF.out, Lib.byteCells_append]; exact .inr (by have := h11; rw [Lib.strCells_eq] at this; exact this))
          have B11 := Lib.hid (B10.out.trans d11)
          clear h11 k11 d11 I10 B10
          go_wp2_with fail
          go_roundw
          case rel => exact ⟨k + 1, by have := HLT.out; omega, by go_num, I11, B11⟩
          case measure => have := HLT.out; simp [intOf]; omega
    · obtain rfl : k = l.length := by omega
      have P := Lib.hid (stringFT b b _ wo (by have := hI.out; rw [List.take_length] at this; exact this) hbl)
      clear hI
      go_wp2_with fail
      refine P.out.mono ?_
      rintro e w6 ⟨rfl, -, d6⟩
      go_wp2_with fail
      go_ret
      exact ⟨rfl, by have := Hb.out; rw [this] at d6; exact hbw.out.trans d6⟩
end Go.Proofs.YtanjcjnkppnhcaaDoor
