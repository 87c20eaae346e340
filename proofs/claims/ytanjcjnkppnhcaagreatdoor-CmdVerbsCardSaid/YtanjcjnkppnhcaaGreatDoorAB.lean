/-
  todo.Text: steps in words (commits below 100).
  rectoref17.Lines: a text cut at its ends of lines.
  rectoref3.At: a refusal at one place.
  rectoref17.Parse: a text as steps, or what is wrong first.
  rectolaw21.Of: steps as the document's.
  rectoref17.CheckTodo: steps over commits, or the first that can not be done.
  A Fault's own words, its number from 1 to 10.
  The words of every Errno but OK, and of the document's.
-/
import Derived.Test.YtanjcjnkppnhcaaGreatDoorAA
import Derived.Shelf.Strings.BuilderK
import Derived.Test.YtanjcjnkppnhcaaGreatDoorSApp
import Derived.Deep.RegionHeld3
import Derived.Test.YtanjcjnkppnhcaaGreatDoorKMem
import Derived.ShutString

namespace Go.Proofs.YtanjcjnkppnhcaaGreatDoor
open Go Go.RowKit

theorem sum_namedT (a b : ByteArray) (h : a.size + b.size ≤ 9223372036854775807) : ∃ s, s = a ++ b ∧ s.size = a.size + b.size ∧ ∀ w, (Op.stringOp .add a b).run Tryz.prog w = .ok (.string s) w := ⟨_, rfl, ByteArray.size_append, fun w => run_string_add_sum w a b h⟩
theorem digits_leT (i : Nat) (hi : i < 100) : (ByteArray.mk (Lib.decDigits i).toArray).size ≤ 2 := by
  have : ∀ j : Fin 100, (ByteArray.mk (Lib.decDigits j.1).toArray).size ≤ 2 := by decide +kernel
  exact this ⟨i, hi⟩
open Go.Shelf in
theorem writeKT (B b : Nat) (bs : List Value) (s : ByteArray) (w : World) (h : Lib.IsBuilderF 96 5 B b bs w) (hlen : bs.length + s.size ≤ 140737488355328) (hBw : B ≤ w.heap.size) :
    Calls Tryz.prog 45 #[.pointer (some ⟨b, 0, none⟩), .string s] w fun e w' => e = .returned (.tuple #[.int .i64 s.size, .nilIface]) ∧ (Lib.BuilderAtF 96 5 B b (.pointer (some ⟨b, 0, none⟩)) (bs ++ Lib.strCells s) w' ∧ Below B w w' ∧ Lib.OthersKept 5 (some b) w w') := Any.Builder_WriteString_k Tryz.lays166 Tryz.Builder_Extra_166 B b bs s w h hlen hBw
open Go.Shelf in
theorem stringFT (B b : Nat) (l : List UInt8) (w : World) (h : Lib.IsBuilderF 96 5 B b (Lib.byteCells l) w) (hBw : B ≤ w.heap.size) :
    Calls Tryz.prog 47 #[.pointer (some ⟨b, 0, none⟩)] w fun e w' => e = .returned (.string ⟨l.toArray⟩) ∧ (Lib.IsBuilderF 96 5 B b (Lib.byteCells l) w' ∧ Below B w w') := Any.Builder_String_any_f Tryz.lays169 Tryz.Builder_Extra_169 B b l w h hBw
theorem isf_belowT {T e : TypeId} {B b : Nat} {bs : List Value} {w w' : World} (h : Lib.IsBuilderF T e B b bs w) (hb : Below w.heap.size w w') : Lib.IsBuilderF T e B b bs w' := by
  have key : ∀ p, Lib.BuilderAtF T e B b p bs w → Lib.BuilderAtF T e B b p bs w' := by
    rintro p ⟨h1, v, h2, h3, h4⟩
    have hlt := (Array.getElem?_eq_some_iff.1 h2).1
    refine ⟨h1, v, (hb.block b hlt).trans h2, ⟨h3.1, ?_⟩, h4⟩
    rcases h3.2 with hn | ⟨g, cap, cur, fz, hv, hbg, hg, rest⟩
    · exact .inl hn
    · exact .inr ⟨g, cap, cur, fz, hv, hbg, (hb.block g (Array.getElem?_eq_some_iff.1 hg).1).trans hg, rest⟩
  rcases h with h | h
  · exact .inl (key _ h)
  · exact .inr (key _ h)
theorem Blk.othersT {w w' : World} {g b : Nat} {t : TypeId} {cs : Array Value} (h : Blk w g t cs) (hb : Lib.OthersKept 5 (some b) w w') (hne : g ≠ b) (ht : t ≠ 5) : Blk w' g t cs := hb g _ h (fun e => hne (Option.some.inj e)) (fun c fz e => by injection e with _ e; exact ht e)
attribute [-go_sem] run_string_add_if
/-- A step in words. -/
def stepL (x : Fl) : List UInt8 := x.1.data.toList ++ [32] ++ Lib.decDigits x.2.1.toNat ++ (if (x.1.toList == [114, 101, 119, 111, 114, 100]) = true then [32] ++ x.2.2.data.toList else []) ++ [10]
def stepsL (l : List Fl) : List UInt8 := l.flatMap stepL
def StepOk (x : Fl) : Prop := x.1.size ≤ 1000 ∧ x.2.2.size ≤ 1000 ∧ 0 ≤ x.2.1 ∧ x.2.1 < 100
theorem dd_len (i : Nat) (hi : i < 100) : (Lib.decDigits i).length ≤ 2 := by have := digits_leT i hi; rw [← size_listB] at this; simpa using this
theorem stepL_le {x : Fl} (h : StepOk x) : (stepL x).length ≤ 3000 := by
  obtain ⟨h1, h2, h3, h4⟩ := h
  have hd := dd_len x.2.1.toNat (by omega)
  unfold stepL
  rw [← size_listB] at h1 h2
  split <;> simp only [List.length_append, List.length_cons, List.length_nil] <;> omega
theorem stepsL_le {l : List Fl} (h : ∀ x ∈ l, StepOk x) : (stepsL l).length ≤ l.length * 3000 := by
  induction l with
  | nil => simp [stepsL]
  | cons x l ih =>
    have h1 := stepL_le (h x List.mem_cons_self)
    have h2 := ih fun y hy => h y (List.mem_cons_of_mem _ hy)
    unfold stepsL at h2 ⊢
    rw [List.flatMap_cons, List.length_append, List.length_cons, Nat.succ_mul]
    omega
theorem data_app (a b : ByteArray) : (a ++ b).data.toList = a.data.toList ++ b.data.toList := by rw [ByteArray.data_append, Array.toList_append]
set_option maxRecDepth 100000 in
set_option maxHeartbeats 8000000 in
theorem text_steps (w : World) (v : Value) (l : List Fl) (h : Reads 3 cF w v l) (hl : l.length ≤ 100) (h2 : ∀ x ∈ l, StepOk x) :
    Calls Tryz.prog 19 #[v] w fun e w' => e = .returned (.string ⟨(stepsL l).toArray⟩) ∧ Below w.heap.size w w' := by
  obtain ⟨A, c, rfl⟩ := h.form
  have HH := Lib.hid h
  have H2 := Lib.hid h2
  have IB := Lib.hid (Lib.IsBuilderF.of (Lib.fresh_isBuilder 96 5 w))
  have d6 := (Below.refl w.heap.size w).alloc (Nat.le_refl _) (.cells #[.pointer none, .slice none 0 0] 96)
  have ln0 : (0 : Int) ≤ (l.length : Int) := Int.natCast_nonneg _
  have ln9 : (l.length : Int) ≤ 100 := by omega
  clear h h2
  go_enter Tryz.func19, Tryz.ntmps19
  go_wp2_with fail
  obtain ⟨b, hb⟩ : ∃ b, b = w.heap.size := ⟨_, rfl⟩
  rw [← hb] at IB d6 ⊢
  have Hb := Lib.hid hb
  clear hb
  go_loopw [5, 8] (fun _ s8 wr => ∃ k : Nat, k ≤ l.length ∧ s8 = .int .i64 k ∧ Hid (Lib.IsBuilderF 96 5 b b (Lib.byteCells (stepsL (l.take k))) wr) ∧ Hid (Below b w wr)) (fun _ s8 _ => l.length - (intOf s8).toNat)
  case atStart => exact ⟨0, Nat.zero_le _, rfl, IB, Lib.hid d6⟩
  case round =>
    clear IB d6
    obtain ⟨k, hk, rfl, hI, hB⟩ := hrel
    have k0 : (0 : Int) ≤ (k : Int) := Int.natCast_nonneg _
    obtain ⟨wo, hwo⟩ : ∃ wo : World, wo = wr := ⟨_, rfl⟩
    rw [← hwo] at hI hB ⊢
    clear hwo
    have hbw : Hid (Below w.heap.size w wo) := Lib.hid (by have := Hb.out; rw [this] at hB; exact hB.out)
    have hbl : b ≤ wo.heap.size := by have := Hb.out; rw [this]; exact hbw.out.size
    by_cases hlt : k < l.length
    · have k1 : (k : Int) < (l.length : Int) := by omega
      obtain ⟨x, hx⟩ : ∃ x, l[k]? = some x := ⟨_, List.getElem?_eq_getElem hlt⟩
      obtain ⟨ad, rfl, c0, c1', c2'⟩ := Fils.at_ (HH.out.below hbw.out) hx
      obtain ⟨s1x, s2x, s3x, s4x⟩ := H2.out x (List.mem_of_getElem? hx)
      have hTL := stepsL_le (l := l.take k) (fun y hy => H2.out y (List.mem_of_mem_take hy))
      rw [List.length_take] at hTL
      have HTK := Lib.hid (show stepsL (l.take (k + 1)) = stepsL (l.take k) ++ stepL x by unfold stepsL; obtain ⟨hk', rfl⟩ := List.getElem?_eq_some_iff.1 hx; rw [List.take_succ_eq_append_getElem hk', List.flatMap_append]; simp)
      obtain ⟨vb, cc, tx⟩ := x
      dsimp only at c0 c1' c2' s1x s2x s3x s4x
      obtain ⟨a, rfl⟩ : ∃ a : Nat, cc = (a : Int) := ⟨cc.toNat, by omega⟩
      have a3 : a < 100 := by omega
      have y1 := digits_leT a a3
      have z1 : (ByteArray.mk #[32]).size = 1 := rfl
      obtain ⟨s1, e1, n1, p1⟩ := sum_namedT vb ⟨#[32]⟩ (by omega)
      obtain ⟨s2, e2, n2, p2⟩ := sum_namedT s1 ⟨(Lib.decDigits a).toArray⟩ (by omega)
      obtain ⟨s3, e3, n3, p3⟩ := sum_namedT ⟨#[32]⟩ tx (by omega)
      have eM : Hid (s2.data.toList = vb.data.toList ++ [32] ++ Lib.decDigits a) := Lib.hid (by rw [e2, e1, data_app, data_app])
      have eM3 : Hid (s3.data.toList = [32] ++ tx.data.toList) := Lib.hid (by rw [e3, data_app])
      have HSZ : Hid (s2.size ≤ 2000) := Lib.hid (by omega)
      have HSZ3 : Hid (s3.size ≤ 2000) := Lib.hid (by omega)
      have IT := Lib.hid fun W => Tryz.strconv_Itoa_small a a3 W
      have BB := Lib.hid ((hB.out.alloc hbl (.cells #[.string vb, .int .i64 (a : Int), .string tx] 41)))
      have KX := Lib.hid (Blk.new wo 41 #[.string vb, .int .i64 (a : Int), .string tx])
      have IX := Lib.hid (isf_belowT hI.out ((Below.refl wo.heap.size wo).alloc (Nat.le_refl _) (.cells #[.string vb, .int .i64 (a : Int), .string tx] 41)))
      have hneX : wo.heap.size ≠ b := by have h9 : b < wo.heap.size := hI.out.elim (·.lt) (·.lt); omega
      have hTL2 : (stepsL (l.take k)).length ≤ 300000 := by omega
      have HLT := Lib.hid hlt
      clear hx hTL hI hbw hB e1 e2 e3 n1 n2 n3 y1 z1 s1x s2x s3x s4x hlt hk
      generalize hT : stepsL (l.take k) = T at *
      clear hT
      go_upto_region 5 with fail
      generalize hW : wo.alloc (.cells #[.string vb, .int .i64 (a : Int), .string tx] 41) = W at *
      have hbW : b ≤ W.heap.size := by rw [← hW]; simp; omega
      generalize wo.heap.size = X at *
      clear hW c0 c1' c2'
      have HBWd := Lib.hid (show b ≤ W.drew.heap.size from hbW)
      have KXd : Hid (Blk W.drew X 41 #[.string vb, .int .i64 (a : Int), .string tx]) := Lib.hid KX.out
      have IXd : Hid (Lib.IsBuilderF 96 5 b b (Lib.byteCells T) W.drew) := Lib.hid (isf_belowT IX.out ((Below.refl _ _).drew))
      have q0 : W.drew.cell? ⟨X, 0, none⟩ = some (.string vb) ∧ W.drew.cell? ⟨X, 1, none⟩ = some (.int .i64 (a : Int)) := ⟨KX.out.cell 0, KX.out.cell 1⟩
      go_region_held3 (fun w' => w'.cell? ⟨X, 0, none⟩ = some (.string vb) ∧ w'.cell? ⟨X, 1, none⟩ = some (.int .i64 (a : Int))) (first | exact q0 | exact q9) (first
        | (go_at_call 45; (with_reducible refine (writeKT b b _ s2 W.drew IXd.out (by rw [Lib.byteCells_length]; have := HSZ.out; omega) HBWd.out).mono ?_); rintro e w9 ⟨rfl, h9, d9, k9⟩; have K9 := KXd.out.othersT k9 hneX (by decide); have q9 := (show w9.cell? ⟨X, 0, none⟩ = some (.string vb) ∧ w9.cell? ⟨X, 1, none⟩ = some (.int .i64 (a : Int)) from ⟨K9.cell 0, K9.cell 1⟩))
        | (go_at_call 46; (with_reducible refine (IT.out _).mono ?_); rintro e w' ⟨rfl, rfl⟩))
      all_goals
        have B9 := Lib.hid ((BB.out.drew).trans d9)
        have I9 : Hid (Lib.IsBuilderF 96 5 b b (Lib.byteCells (T ++ (vb.data.toList ++ [32] ++ Lib.decDigits a))) w9) := Lib.hid (by rw [Lib.byteCells_append, ← eM.out]; exact .inr (by have := h9; rw [Lib.strCells_eq] at this; exact this))
        have x0 := K9.cell 0
        have x2 := K9.cell 2
        have HBW9 := Lib.hid (show b ≤ w9.heap.size from Nat.le_trans hbW d9.size)
        have HL9 := Lib.hid (show (T ++ (vb.data.toList ++ [32] ++ Lib.decDigits a)).length ≤ 310000 by rw [← eM.out, List.length_append, size_listB]; have := HSZ.out; omega)
        clear h9 k9 K9 q0 q9 KX KXd IX IXd BB p1 p2 IT d9
        cases hr : (vb.toList == [114, 101, 119, 111, 114, 100]) with
        | false =>
          have HF := Lib.hid (show stepsL (l.take (k + 1)) = T ++ (vb.data.toList ++ [32] ++ Lib.decDigits a) ++ [10] by rw [HTK.out]; unfold stepL; dsimp only; rw [hr, if_neg (by simp)]; simp [Int.toNat_natCast])
          clear p3 HTK
          go_wp2_with fail
          refine (writeKT b b _ ⟨#[10]⟩ _ I9.out (by rw [Lib.byteCells_length]; have := HL9.out; show _ + 1 ≤ _; omega) HBW9.out).mono ?_
          rintro e w10 ⟨rfl, h10, d10, k10⟩
          have I10 : Hid (Lib.IsBuilderF 96 5 b b (Lib.byteCells (stepsL (l.take (k + 1)))) w10) := Lib.hid (by rw [HF.out, Lib.byteCells_append]; exact .inr (by have := h10; rw [Lib.strCells_eq] at this; exact this))
          have B10 := Lib.hid (B9.out.trans d10)
          clear h10 k10 d10 I9 B9
          go_wp2_with fail
          go_roundw
          case rel => exact ⟨k + 1, by have := HLT.out; omega, by go_num, I10, B10⟩
          case measure => have := HLT.out; simp [intOf]; omega
        | true =>
          have HF := Lib.hid (show stepsL (l.take (k + 1)) = T ++ (vb.data.toList ++ [32] ++ Lib.decDigits a) ++ ([32] ++ tx.data.toList) ++ [10] by rw [HTK.out]; unfold stepL; dsimp only; rw [hr, if_pos rfl]; simp [Int.toNat_natCast])
          clear HTK
          go_wp2_with fail
          refine (writeKT b b _ s3 _ I9.out (by rw [Lib.byteCells_length]; have := HL9.out; have := HSZ3.out; omega) HBW9.out).mono ?_
          rintro e w10 ⟨rfl, h10, d10, k10⟩
          have I10 : Hid (Lib.IsBuilderF 96 5 b b (Lib.byteCells (T ++ (vb.data.toList ++ [32] ++ Lib.decDigits a) ++ ([32] ++ tx.data.toList))) w10) := Lib.hid (by rw [Lib.byteCells_append, ← eM3.out]; exact .inr (by have := h10; rw [Lib.strCells_eq] at this; exact this))
          have HL10 := Lib.hid (show (T ++ (vb.data.toList ++ [32] ++ Lib.decDigits a) ++ ([32] ++ tx.data.toList)).length ≤ 320000 by rw [← eM3.out, List.length_append, size_listB]; have := HSZ3.out; have := HL9.out; omega)
          have B10 := Lib.hid (B9.out.trans d10)
          have HBW10 := Lib.hid (Nat.le_trans HBW9.out d10.size)
          clear h10 k10 d10 I9 B9
          go_wp2_with fail
          refine (writeKT b b _ ⟨#[10]⟩ _ I10.out (by rw [Lib.byteCells_length]; have := HL10.out; show _ + 1 ≤ _; omega) HBW10.out).mono ?_
          rintro e w11 ⟨rfl, h11, d11, k11⟩
          have I11 : Hid (Lib.IsBuilderF 96 5 b b (Lib.byteCells (stepsL (l.take (k + 1)))) w11) := Lib.hid (by rw [HF.out, Lib.byteCells_append]; exact .inr (by have := h11; rw [Lib.strCells_eq] at this; exact this))
          have B11 := Lib.hid (B10.out.trans d11)
          clear h11 k11 d11 I10 B10
          go_wp2_with fail
          go_roundw
          case rel => exact ⟨k + 1, by have := HLT.out; omega, by go_num, I11, B11⟩
          case measure => have := HLT.out; simp [intOf]; omega
    · obtain rfl : k = l.length := by omega
      have P := Lib.hid (stringFT b b _ wo (by have := hI.out; rw [List.take_length] at this; exact this) hbl)
      clear hI
      go_wp2_with fail
      refine P.out.mono ?_
      rintro e w6 ⟨rfl, -, d6⟩
      go_wp2_with fail
      go_ret
      exact ⟨rfl, by have := Hb.out; rw [this] at d6; exact hbw.out.trans d6⟩
end Go.Proofs.YtanjcjnkppnhcaaGreatDoor

namespace Go.Proofs.YtanjcjnkppnhcaaGreatDoor
open Go Go.RowKit

theorem nls_ten {a : UInt8} (h : a = 10) (l : List UInt8) : nls (a :: l) = [] :: nls l := by
  rw [nls, if_pos h]
theorem nls_more {a : UInt8} (h : ¬ a = 10) {l x : List UInt8} {xs : List (List UInt8)} (hl : nls l = x :: xs) : nls (a :: l) = (a :: x) :: xs := by
  rw [nls, if_neg h, hl]
theorem nls_snoc : ∀ (l : List UInt8) (c : UInt8) (ys : List (List UInt8)) (z : List UInt8), nls l = ys ++ [z] → nls (l ++ [c]) = if c = 10 then ys ++ [z] ++ [[]] else ys ++ [z ++ [c]]
  | [], c, ys, z, h => by
    rw [nls] at h
    cases ys with
    | nil =>
      injection h with h _
      subst h
      simp [nls]
    | cons y ys =>
      injection h with _ h
      simp at h
  | a :: l, c, ys, z, h => by
    rw [List.cons_append]
    by_cases ha : a = 10
    · rw [nls_ten ha] at h ⊢
      cases ys with
      | nil =>
        injection h with _ h
        exact absurd h (nls_ne l)
      | cons y ys =>
        injection h with h1 h2
        subst h1
        rw [nls_snoc l c ys z h2]
        split <;> simp
    · cases hl : nls l with
      | nil => exact absurd hl (nls_ne l)
      | cons x xs =>
        rw [nls_more ha hl] at h
        cases ys with
        | nil =>
          injection h with h1 h2
          have ih := nls_snoc l c [] x (by rw [hl, h2]; rfl)
          by_cases hc : c = 10
          · rw [if_pos hc] at ih ⊢
            rw [nls_more ha (by rw [ih]; rfl), h1]
            rfl
          · rw [if_neg hc] at ih ⊢
            rw [nls_more ha (by rw [ih]; rfl), ← h1]
            rfl
        | cons y ys =>
          injection h with h1 h2
          have ih := nls_snoc l c (x :: ys) z (by rw [hl, h2]; rfl)
          by_cases hc : c = 10
          · rw [if_pos hc] at ih ⊢
            rw [nls_more ha (by rw [ih]; rfl), h1]
            rfl
          · rw [if_neg hc] at ih ⊢
            rw [nls_more ha (by rw [ih]; rfl), h1]
            rfl
theorem last_form {α : Type} {l : List α} (h : l ≠ []) : ∃ ys z, l = ys ++ [z] := ⟨l.dropLast, l.getLast h, (List.dropLast_concat_getLast h).symm⟩
attribute [-go_sem] run_string_add_if
def LinesTo (L : List (List UInt8)) (w : World) (e : Ending) (w' : World) : Prop := ∃ (xs : List ByteArray) (u : Value), xs.map (·.data.toList) = L ∧ e = .returned u ∧ w'.ownsRow w.heap.size 9 1 u xs.length (xs.map Value.string) ∧ Below w.heap.size w w'
set_option maxRecDepth 100000 in
set_option maxHeartbeats 4000000 in
theorem refLines_any (s : ByteArray) (w : World) (hs : s.size ≤ 100000) : Calls Tryz.prog 15 #[.string s] w (LinesTo (nls s.data.toList) w) := by
  have l0 : (0 : Int) ≤ (s.size : Int) := Int.natCast_nonneg _
  have l9 : (s.size : Int) ≤ 100000 := by omega
  have O1 := Lib.hid (World.ownsRow_lit (base := w.heap.size) (e := 9) (size := 1) w #[.string ⟨#[]⟩] 1 (Nat.le_refl _) (by decide) rfl)
  have B1 := Lib.hid ((Below.refl w.heap.size w).alloc (Nat.le_refl _) (.cells #[.string ⟨#[]⟩] 9))
  go_enter Tryz.func15, Tryz.ntmps15
  go_wp2_with fail
  generalize w.alloc (.cells #[.string ⟨#[]⟩] 9) = W at *
  obtain ⟨B, hB⟩ : ∃ B, B = w.heap.size := ⟨_, rfl⟩
  have HB := Lib.hid hB
  rw [← hB] at O1 B1 ⊢
  clear hB
  go_loopw [3, 4] (fun s3 s4 wr => ∃ (i : Nat) (ys : List ByteArray) (z : ByteArray), i ≤ s.size ∧ s4 = .int .i64 i ∧ Hid (nls (s.data.toList.take i) = ys.map (·.data.toList) ++ [z.data.toList]) ∧ Hid (ys.length ≤ i) ∧ Hid (z.size ≤ i) ∧ Hid (wr.ownsRow B 9 1 s3 (ys ++ [z]).length ((ys ++ [z]).map Value.string)) ∧ Hid (Below B w wr)) (fun _ s4 _ => s.size - (intOf s4).toNat)
  case atStart => exact ⟨0, [], ⟨#[]⟩, Nat.zero_le _, rfl, Lib.hid rfl, Lib.hid (Nat.le_refl _), Lib.hid (Nat.le_refl _), O1, B1⟩
  case round =>
    clear O1 B1
    obtain ⟨i, ys, z, hi, rfl, HN, HY, HZ, HO, HW⟩ := hrel
    have i0 : (0 : Int) ≤ (i : Int) := Int.natCast_nonneg _
    obtain ⟨L, hL⟩ : ∃ L, L = ys.length := ⟨_, rfl⟩
    have HLEN : (ys ++ [z]).length = L + 1 := by rw [hL]; simp
    rw [HLEN] at HO
    obtain ⟨g, cap, rfl, hBg⟩ : ∃ g cap, u3 = .slice (some ⟨g, 0, none⟩) (L + 1) cap ∧ B ≤ g := by
      rcases HO.out.2 with ⟨_, h⟩ | ⟨g, cap, cur, h, h2, _⟩
      · omega
      · exact ⟨g, cap, h, h2⟩
    have L0 : (0 : Int) ≤ (L : Int) := Int.natCast_nonneg _
    have L9 : (L : Int) ≤ 100000 := by have := HY.out; omega
    have HLE := Lib.hid hL
    have HBG := Lib.hid hBg
    have HLN := Lib.hid HLEN
    clear hL hBg HLEN
    by_cases hlt : i < s.size
    · have hli : (i : Int) < (s.size : Int) := by omega
      have hget : s.data.toList[i]? = some s[i] := List.getElem?_eq_getElem (by rw [size_listB]; exact hlt)
      have hN2 := nls_snoc _ s[i] _ _ HN.out
      rw [← take_snocB hget] at hN2
      by_cases hc : s[i] = 10
      · have b1 : (s[i].toNat : Int) = 10 := by rw [hc]; rfl
        have b2 : ((s[i].toNat : Int) == 10) = true := by simpa using b1
        rw [if_pos hc] at hN2
        have HN2 := Lib.hid (show nls (s.data.toList.take (i + 1)) = (ys ++ [z]).map (·.data.toList) ++ [(⟨#[]⟩ : ByteArray).data.toList] by rw [hN2]; simp)
        have O4 := Lib.hid (HO.out.alloc (.cells #[.string ⟨#[]⟩] 9))
        have R4 := Lib.hid (Strs.of_own (ss := [⟨#[]⟩]) (World.ownsRow_lit (base := wr.heap.size) (e := 9) (size := 1) wr #[.string ⟨#[]⟩] 1 (Nat.le_refl _) (by decide) rfl) rfl)
        have hBW : B ≤ wr.heap.size := by rw [HB.out]; exact HW.out.size
        have B4 := Lib.hid (HW.out.alloc hBW (.cells #[.string ⟨#[]⟩] 9))
        have hBW4 := Lib.hid (show B ≤ (wr.alloc (.cells #[.string ⟨#[]⟩] 9)).heap.size by simp; omega)
        clear hget hc hN2
        go_wp2_with (at_builtin; go_loud (refine wpList_append_strs (wr.alloc (.cells #[.string ⟨#[]⟩] 9)) rfl (.tmp 16) (.tmp 17) rfl B (L + 1) _ (ys ++ [z]) [⟨#[]⟩] rfl O4.out _ _ _ rfl R4.out (by have := HY.out; have := HLE.out; omega) hBW4.out ?_; intro A' m' c' w5 o5 b5 g5; have O5 := Lib.hid o5; have B5 := Lib.hid (B4.out.trans b5); clear o5 b5 g5))
        go_roundw
        case rel => exact ⟨i + 1, ys ++ [z], ⟨#[]⟩, by omega, by go_num, HN2, Lib.hid (by rw [HLN.out]; have := HY.out; have := HLE.out; omega), Lib.hid (Nat.zero_le _), Lib.hid (by have := O5.out; rw [List.length_append, HLN.out]; exact this), B5⟩
        case measure => simp [intOf]; omega
      · have b1 : ¬ (s[i].toNat : Int) = 10 := fun e => hc (UInt8.toNat_inj.1 (by show s[i].toNat = 10; omega))
        have b2 : ((s[i].toNat : Int) == 10) = false := by simpa using b1
        rw [if_neg hc] at hN2
        have hx1 : (s.extract i (i + 1)).data.toList = [s[i]] := by
          rw [extract_mkW, list_mkW, take_snocB hget, List.drop_append_of_le_length (by rw [List.length_take, size_listB]; omega), List.drop_eq_nil_of_le (by rw [List.length_take]; omega)]
          rfl
        have hx2 : (s.extract i (i + 1)).size = 1 := by rw [← size_listB, hx1]; rfl
        obtain ⟨q, e1, n1, p1⟩ := sum_namedT z (s.extract i (i + 1)) (by have := HZ.out; omega)
        have HN2 := Lib.hid (show nls (s.data.toList.take (i + 1)) = ys.map (·.data.toList) ++ [q.data.toList] by rw [hN2, e1, data_app, hx1])
        have HQ := Lib.hid (show q.size ≤ i + 1 by have := HZ.out; omega)
        have c0 : wr.cell? ⟨g, L, none⟩ = some (.string z) := by
          rw [HO.out.cellAt L (by omega), HLE.out]
          simp
        have f0 : wr.frozen? ⟨g, L, none⟩ = false := HO.out.frozenAt L
        have O5 : Hid ((wr.setCell ⟨g, L, none⟩ (.string q)).ownsRow B 9 1 (.slice (some ⟨g, 0, none⟩) (L + 1) cap) (L + 1) ((ys ++ [q]).map Value.string)) := Lib.hid (by
          have := (HO.out.stored L (.string q)).1
          rw [show ((ys ++ [z]).map Value.string).set L (.string q) = (ys ++ [q]).map Value.string by rw [HLE.out]; simp] at this
          exact this)
        have B5 := Lib.hid (HW.out.setCell (p := ⟨g, L, none⟩) HBG.out (.string q))
        have hw1 : IntKind.i64.wrap ((L : Int) + 1 - 1) = (L : Int) := by rw [IntKind.wrap_i64] <;> omega
        have hw2 : IntKind.i64.wrap (((L + 1 : Nat) : Int) - 1) = (L : Int) := by rw [IntKind.wrap_i64] <;> omega
        have hw3 : IntKind.i64.wrap ((i : Int) + 1) = (i : Int) + 1 := by rw [IntKind.wrap_i64] <;> omega
        clear hget hc hN2 e1 n1 hx1 hx2
        go_wp2_with fail
        go_region
        go_wp2
        go_roundw
        case rel => exact ⟨i + 1, ys, q, by omega, by go_num, HN2, Lib.hid (by have := HY.out; omega), HQ, Lib.hid (by rw [List.length_append, show ys.length = L from HLE.out.symm]; exact World.ownsRow.drew O5.out), Lib.hid B5.out.drew⟩
        case measure => simp [intOf]; omega
    · obtain rfl : i = s.size := by omega
      have HF := Lib.hid (show (ys ++ [z]).map (·.data.toList) = nls s.data.toList by have := HN.out; rw [← size_listB, List.take_length] at this; rw [this]; simp)
      go_wp2
      go_ret
      exact ⟨ys ++ [z], _, HF.out, rfl, by rw [HLN.out, ← HB.out]; exact HO.out, by rw [← HB.out]; exact HW.out⟩
end Go.Proofs.YtanjcjnkppnhcaaGreatDoor

namespace Go.Proofs.YtanjcjnkppnhcaaGreatDoor
open Go Go.RowKit

theorem results_tmp_cell {fn : Func} {p u : Tmp} {ty : TypeId} (h : fn.results = #[.tmp u, .cell p ty]) (tmps : Array Value) (P : Program) (w : World) :
    (results fn tmps).run P w =
      ((asAddr (tmps.getD p undef)).run P w).andThen fun a w1 => ((loadVar ty a).run P w1).andThen fun x w2 => .ok (.tuple #[tmps.getD u undef, x]) w2 := by
  simp only [results, h]
  simp [Sem.run_bind, Result.andThen]
theorem results_tmp_row {P : Program} {fn : Func} {p u : Tmp} {ty : TypeId} (h : fn.results = #[.tmp u, .cell p ty]) (tmps : Array Value) (w : World) (g : Nat) (t : TypeId) (cs : Array Value) (fr : Nat × Nat) (d : TypeDesc)
    (hp : tmps.getD p undef = .pointer (some ⟨g, 0, none⟩)) (hg : w.heap[g]? = some (.cells cs t fr))
    (hu : P.underlying ty = some d) (hd : (match d with | .struct _ | .array _ _ => true | _ => false) = true) (hi : (P.info? ty).map (·.size) = some cs.size) :
    (results fn tmps).run P w = .ok (.tuple #[tmps.getD u undef, .agg cs]) w := by
  rw [results_tmp_cell h, hp]
  simp [asAddr, run_loadVar_row w g t ty cs fr d hg hu hd hi, Result.andThen]
set_option maxHeartbeats 1000000 in
theorem refAt_any (p : ByteArray) (n e : Int) (w : World) : Calls Tryz.prog 40 #[.string p, .int .i64 n, .int .i64 e] w fun x w' => ∃ g, x = .returned (.agg #[.slice (some ⟨g, 0, none⟩) 1 1, .int .i64 e]) ∧ Blk w' g 91 #[.string p, .int .i64 n] ∧ w.heap.size ≤ g ∧ Below w.heap.size w w' := by
  go_enter Tryz.func40, Tryz.ntmps40
  go_wp2
  refine bodyPost_ret (results_cell_row (fn := Tryz.f40) rfl _ _ w.heap.size 31 #[.slice (some ⟨w.heap.size + 1, 0, none⟩) 1 1, .int .i64 e] (0, 0) _ rfl ((Blk.new w 31 _).alloc _) Tryz.underlying31 rfl (by kernel_rfl)) rfl ⟨w.heap.size + 1, rfl, ?_, by omega, ((Below.refl _ _).alloc (Nat.le_refl _) _).alloc (by simp) _⟩
  have h := heap_alloc_new (w.alloc (.cells #[.slice (some ⟨w.heap.size + 1, 0, none⟩) 1 1, .int .i64 e] 31)) (.cells #[.string p, .int .i64 n] 91)
  rw [show (w.alloc (.cells #[.slice (some ⟨w.heap.size + 1, 0, none⟩) 1 1, .int .i64 e] 31)).heap.size = w.heap.size + 1 by simp] at h
  exact h
end Go.Proofs.YtanjcjnkppnhcaaGreatDoor

namespace Go.Proofs.YtanjcjnkppnhcaaGreatDoor
open Go Go.RowKit

theorem parse_skip {x : List UInt8} {ls : List (List UInt8)} {i : Nat} {acc : List Fl} (h : (wordP x).1 = [] ∨ (wordP x).1.head? = some 35) : parseP (x :: ls) i acc = parseP ls (i + 1) acc := by
  rw [parseP, lineP_step, if_pos h]
  simp
theorem parse_step {x : List UInt8} {ls : List (List UInt8)} {i : Nat} {acc : List Fl} (h : ¬ ((wordP x).1 = [] ∨ (wordP x).1.head? = some 35)) :
    parseP (x :: ls) i acc = if (stepP x).2 ≠ 0 then .inr (i, (stepP x).2) else if acc.length = 32 then .inr (32, 4) else parseP ls (i + 1) (acc ++ [(stepP x).1]) := by
  rw [parseP, lineP_step, if_neg h]
  by_cases h0 : (stepP x).2 = 0
  · simp [h0]
  · simp [h0]
def RefTo (r : (List Fl) ⊕ (Nat × Int)) (w : World) (e : Ending) (w' : World) : Prop :=
  (∃ xs u, r = .inl xs ∧ e = .returned (.tuple #[u, .agg #[.slice none 0 0, .int .i64 0]]) ∧ w'.ownsRow w.heap.size 81 3 u xs.length (xs.flatMap cF) ∧ xs.length ≤ 32 ∧ Below w.heap.size w w') ∨
  ∃ (i : Nat) (k : Int) (g : Nat), r = .inr (i, k) ∧ e = .returned (.tuple #[.slice none 0 0, .agg #[.slice (some ⟨g, 0, none⟩) 1 1, .int .i64 k]]) ∧ w.heap.size ≤ g ∧ Blk w' g 91 #[.string bLine, .int .i64 i] ∧ Below w.heap.size w w'
theorem row2w {w : World} {g : Nat} {cs : Array Value} (h : Blk w g 31 cs) (hs : cs.size = 2) (a b : Value) : Blk ((w.setCell ⟨g, 0, none⟩ a).setCell ⟨g, 1, none⟩ b) g 31 #[a, b] := by
  have := (h.set_ 0 a).set_ 1 b
  match cs, hs with
  | ⟨[x, y]⟩, _ => simpa using this
theorem own_setG {w : World} {B g n : Nat} {v : Value} {xs : List Value} {cs : Array Value} (h : w.ownsRow B 81 3 v n xs) (hg : Blk w g 31 cs) {a b : Value} : ((w.setCell ⟨g, 0, none⟩ a).setCell ⟨g, 1, none⟩ b).ownsRow B 81 3 v n xs := by
  have hne := own_blk_ne h hg (by decide)
  exact ownsRow_setCell_other (ownsRow_setCell_other h (a := ⟨g, 0, none⟩) hne a) (a := ⟨g, 1, none⟩) hne b
theorem strs_block {w : World} {B : Nat} {u : Value} {l : List ByteArray} (h : w.ownsRow B 9 1 u l.length (l.map Value.string)) (h0 : l ≠ []) : ∃ g c, u = .slice (some ⟨g, 0, none⟩) l.length c ∧ ∀ i x, l[i]? = some x → w.cell? ⟨g, i, none⟩ = some (.string x) := by
  have hl := List.length_pos_iff.2 h0
  obtain ⟨g, c, rfl⟩ : ∃ g c, u = .slice (some ⟨g, 0, none⟩) l.length c := by
    rcases h.2 with ⟨_, e2⟩ | ⟨g, cap, cur, e, _⟩
    · omega
    · exact ⟨g, cap, e⟩
  refine ⟨g, c, rfl, fun i x hx => ?_⟩
  rw [h.cellAt i (by have := (List.getElem?_eq_some_iff.1 hx).1; omega), List.getElem?_map, hx]
  rfl
set_option maxRecDepth 100000 in
set_option maxHeartbeats 4000000 in
theorem refParse_any (s : ByteArray) (w : World) (hs : s.size ≤ 100000) :
    Calls Tryz.prog 10 #[.string s] w (RefTo (parseP (nls s.data.toList) 0 []) w) := by
  obtain ⟨R, hR⟩ : ∃ R, R = parseP (nls s.data.toList) 0 [] := ⟨_, rfl⟩
  rw [← hR]
  have HRR := Lib.hid hR
  have RL := Lib.hid fun W => refLines_any s W hs
  have K0 := Lib.hid (Blk.new w 31 #[.slice none 0 0, .int .i64 0])
  have B0 := Lib.hid ((Below.refl w.heap.size w).alloc (Nat.le_refl _) (.cells #[.slice none 0 0, .int .i64 0] 31))
  obtain ⟨gw, hgw⟩ : ∃ g, g = w.heap.size := ⟨_, rfl⟩
  have HGW := Lib.hid hgw
  rw [← hgw] at K0
  clear hR
  go_enter Tryz.func10, Tryz.ntmps10
  go_wp2_with fail
  rw [← hgw]
  clear hgw
  refine (RL.out _).mono ?_
  rintro e w1 ⟨L, u1, hL, rfl, o1, b1⟩
  have B1 := Lib.hid (B0.out.trans (b1.mono B0.out.size))
  have K1 := Lib.hid (K0.out.below b1 K0.out.lt)
  obtain ⟨gL, cL1, rfl, hcl⟩ := strs_block o1 (fun e => nls_ne _ (by rw [← hL, e]; rfl))
  have C0 := Lib.hid hcl
  have HSZ := Lib.hid (show ∀ x ∈ L, x.size ≤ 9223372036854775807 from fun x hx => by
    have h1 : x.data.toList ∈ nls s.data.toList := by rw [← hL]; exact List.mem_map_of_mem hx
    have h2 := nls_le h1
    rw [size_listB, size_listB] at h2
    omega)
  have HLN := Lib.hid (show L.length ≤ 100001 by rw [← List.length_map (f := (·.data.toList)), hL]; have := nls_len s.data.toList; rw [size_listB] at this; omega)
  have HR0 := Lib.hid (show parseP ((L.drop 0).map (·.data.toList)) 0 [] = R by rw [List.drop_zero, hL, HRR.out])
  have ln0 : (0 : Int) ≤ (L.length : Int) := Int.natCast_nonneg _
  have ln1 : (L.length : Int) ≤ 100001 := by have := HLN.out; omega
  clear hL o1 b1 hcl K0 B0 RL HRR
  go_wp2_with fail
  generalize (w.alloc (.cells #[.slice none 0 0, .int .i64 0] 31)) = W0 at *
  go_loopw [5, 6] (fun s5 s6 wr => ∃ (k : Nat) (acc : List Fl), k ≤ L.length ∧ s6 = .int .i64 k ∧ Hid (acc.length ≤ 32) ∧ Hid (wr.ownsRow w1.heap.size 81 3 s5 acc.length (acc.flatMap cF)) ∧ Hid (parseP ((L.drop k).map (·.data.toList)) k acc = R) ∧ Hid (Below w1.heap.size w1 wr)) (fun _ s6 _ => L.length - (intOf s6).toNat)
  case atStart => exact ⟨0, [], Nat.zero_le _, rfl, Lib.hid (by simp), Lib.hid (World.ownsRow_nil _ _ _ _), HR0, Lib.hid (Below.refl _ _)⟩
  case round =>
    obtain ⟨k, acc, hk, rfl, HA, HO, HR, HB⟩ := hrel
    have k0 : (0 : Int) ≤ (k : Int) := Int.natCast_nonneg _
    have KW := Lib.hid (K1.out.below HB.out K1.out.lt)
    by_cases hlt : k < L.length
    · obtain ⟨x, hx⟩ : ∃ x, L[k]? = some x := ⟨_, List.getElem?_eq_getElem hlt⟩
      have hki : (k : Int) < (L.length : Int) := by omega
      have c0 : wr.cell? ⟨gL, k, none⟩ = some (.string x) := (HB.out.cell (p := ⟨gL, k, none⟩) (World.block_lt_of_cell? _ _ (C0.out k x hx))).trans (C0.out k x hx)
      have WD := Lib.hid (refWord_any x wr (HSZ.out x (List.mem_of_getElem? hx)))
      have ST := Lib.hid fun W => refStep_any x W (HSZ.out x (List.mem_of_getElem? hx))
      have HP := Lib.hid (show parseP (x.data.toList :: (L.drop (k + 1)).map (·.data.toList)) k acc = R by have := HR.out; rw [drop_consB hx] at this; exact this)
      have HLT := Lib.hid hlt
      have hxl : gL < w1.heap.size := World.block_lt_of_cell? _ _ (C0.out k x hx)
      obtain ⟨v, hv⟩ : ∃ v, v = mkW (wordP x.data.toList).1 := ⟨_, rfl⟩
      have ev := Lib.hid (show (wordP x.data.toList).1 = v.data.toList by rw [hv, list_mkW])
      rw [← hv] at WD
      clear hx hlt hk HR hv
      go_wp2_with fail
      refine WD.out.mono ?_
      rintro e w2 ⟨rfl, q, rfl⟩
      have c1 : (wr.drewN q).cell? ⟨gL, k, none⟩ = some (.string x) := c0
      have B2 := Lib.hid (below_drewN HB.out q)
      have O2 : Hid ((wr.drewN q).ownsRow w1.heap.size 81 3 u5 acc.length (acc.flatMap cF)) := Lib.hid HO.out
      have KW2 : Hid (Blk (wr.drewN q) gw 31 #[.slice none 0 0, .int .i64 0]) := Lib.hid KW.out
      clear c0 HB HO KW WD
      generalize wr.drewN q = w2 at *
      by_cases h1 : v.data.toList = []
      · have HP2 := Lib.hid (show parseP ((L.drop (k + 1)).map (·.data.toList)) (k + 1) acc = R by rw [← HP.out, parse_skip (.inl (by rw [ev.out, h1]))])
        obtain rfl : v = ⟨#[]⟩ := bytesB_eq h1
        clear h1 HP ev
        go_wp2
        go_roundw
        case rel => exact ⟨k + 1, acc, by have := HLT.out; omega, by go_num, HA, O2, HP2, B2⟩
        case measure => have := HLT.out; simp [intOf]; omega
      obtain ⟨n1, n2⟩ := not_nilB h1
      have hv0 : 0 < v.size := by
        rcases Nat.eq_zero_or_pos v.size with h | h
        · exact absurd (congrArg (fun b : ByteArray => b.data.toList) (nil_ofB h)) h1
        · exact h
      have hv0i : (0 : Int) < (v.size : Int) := by omega
      have hd := head_of hv0
      by_cases h35 : v[0] = 35
      · have HP2 := Lib.hid (show parseP ((L.drop (k + 1)).map (·.data.toList)) (k + 1) acc = R by rw [← HP.out, parse_skip (.inr (by rw [ev.out, hd, h35]))])
        have b1 : ((v[0].toNat : Int) == 35) = true := by rw [h35]; rfl
        have b2 : (v[0].toNat : Int) = 35 := by rw [h35]; rfl
        clear h35 hd h1 HP ev
        go_wp2
        go_roundw
        case rel => exact ⟨k + 1, acc, by have := HLT.out; omega, by go_num, HA, O2, HP2, B2⟩
        case measure => have := HLT.out; simp [intOf]; omega
      have HQ := Lib.hid (show ¬ ((wordP x.data.toList).1 = [] ∨ (wordP x.data.toList).1.head? = some 35) from fun e => by rw [ev.out] at e; exact e.elim h1 fun e => h35 (by rw [hd] at e; exact Option.some.inj e))
      have b2 : ¬ (v[0].toNat : Int) = 35 := fun e => h35 (UInt8.toNat_inj.1 (by show v[0].toNat = 35; omega))
      have b1 : ((v[0].toNat : Int) == 35) = false := by simpa using b2
      have HP3 := HP.out
      rw [parse_step HQ.out] at HP3
      have LA := Lib.hid (ST.out w2)
      unfold StepTo at LA
      obtain ⟨o, ho⟩ : ∃ o, o = stepP x.data.toList := ⟨_, rfl⟩
      rw [← ho] at LA HP3
      have HP3 := Lib.hid HP3
      clear h35 hd h1 HP ev HQ ho ST
      go_wp2_with fail
      clear b1 b2 n1 n2 c1
      refine LA.out.mono ?_
      rintro e w3 ⟨rfl, b3⟩
      obtain ⟨⟨f1, f2, f3⟩, fe⟩ := o
      dsimp only at HP3 ⊢
      have B3 := Lib.hid ((B2.out.trans (b3.mono B2.out.size)).alloc (Nat.le_trans B2.out.size b3.size) (.cells #[.string f1, .int .i64 f2, .string f3] 81))
      have O3 := Lib.hid ((own_keep O2.out b3).alloc (.cells #[.string f1, .int .i64 f2, .string f3] 81))
      have KW3 := Lib.hid ((KW2.out.below b3 KW2.out.lt).alloc (.cells #[.string f1, .int .i64 f2, .string f3] 81))
      have Z3 := Lib.hid (Blk.new w3 81 #[.string f1, .int .i64 f2, .string f3])
      clear b3 LA O2 B2 KW2
      obtain ⟨z, hz⟩ : ∃ z, z = w3.heap.size := ⟨_, rfl⟩
      go_upto_region 9 with fail
      rw [← hz] at Z3 ⊢
      clear hz
      generalize w3.alloc (.cells #[.string f1, .int .i64 f2, .string f3] 81) = W at *
      have HBW := Lib.hid (B1.out.trans (B3.out.mono B1.out.size))
      by_cases he : fe = 0
      · subst he
        obtain ⟨A4, c4, hv4⟩ := own_form O3.out
        have al0 : (0 : Int) ≤ (acc.length : Int) := Int.natCast_nonneg _
        by_cases h32 : acc.length = 32
        · have HP2 := Lib.hid (show R = .inr (32, 4) by have := HP3.out; rw [if_neg (by simp), if_pos h32] at this; exact this.symm)
          have h32b : ((acc.length : Int) == 32) = true := by rw [h32]; rfl
          have h32c : (acc.length : Int) = 32 := by omega
          clear HP3 h32
          subst hv4
          go_wp2_with fail
          refine (refAt_any bLine 32 4 _).mono ?_
          rintro e w5 ⟨g5, rfl, hg5, hgl, d5⟩
          have K5 := Lib.hid (KW3.out.below d5 KW3.out.lt)
          have B5 := Lib.hid (HBW.out.trans (d5.mono HBW.out.size))
          have G5 := Lib.hid hg5
          have hne5 : g5 ≠ gw := fun e => absurd KW3.out.lt (by rw [← e]; omega)
          have hgl5 := Lib.hid (Nat.le_trans HBW.out.size hgl)
          clear hg5 hgl d5
          have c0 := K5.out.cell 0
          have f0 := K5.out.frozen 0
          have c1 := K5.out.cell 1
          have f1 := K5.out.frozen 1
          go_wp2
          exact bodyPost_ret (results_tmp_row (fn := Tryz.f10) rfl _ _ gw 31 _ (0, 0) _ rfl (row2w K5.out rfl (.slice (some ⟨g5, 0, none⟩) 1 1) (.int .i64 4)) Tryz.underlying31 rfl (by kernel_rfl)) rfl (.inr ⟨_, _, g5, HP2.out, rfl, hgl5.out, (G5.out.far hne5 _).far hne5 _, (B5.out.setCell (p := ⟨gw, 0, none⟩) (by rw [HGW.out]; exact Nat.le_refl _) _).setCell (p := ⟨gw, 1, none⟩) (by rw [HGW.out]; exact Nat.le_refl _) _⟩)
        · have HP2 := Lib.hid (show parseP ((L.drop (k + 1)).map (·.data.toList)) (k + 1) (acc ++ [(f1, f2, f3)]) = R by have := HP3.out; rw [if_neg (by simp), if_neg h32] at this; exact this)
          have HA2 := Lib.hid (show (acc ++ [(f1, f2, f3)]).length ≤ 32 by rw [List.length_append, List.length_singleton]; have := HA.out; omega)
          have h32c : ¬ (acc.length : Int) = 32 := by omega
          have h32b : ((acc.length : Int) == 32) = false := by simpa using h32c
          have O4 := Lib.hid (O3.out.alloc (.cells #[.string f1, .int .i64 f2, .string f3] 81))
          have R4 := Lib.hid (reads_one_rstep (f1, f2, f3) (Blk.new W 81 #[.string f1, .int .i64 f2, .string f3]))
          have B4 := Lib.hid (B3.out.alloc B3.out.size (.cells #[.string f1, .int .i64 f2, .string f3] 81))
          have z0 := Z3.out.cell 0
          have z1 := Z3.out.cell 1
          have z2 := Z3.out.cell 2
          have zlt : z < W.heap.size := Z3.out.lt
          clear HP3 h32
          subst hv4
          go_wp2_with (at_builtin; go_loud (refine wpList_append_rsteps (W.alloc (.cells #[.string f1, .int .i64 f2, .string f3] 81)) rfl (.tmp 51) (.tmp 53) rfl w1.heap.size _ acc [(f1, f2, f3)] rfl O4.out _ _ _ rfl R4.out (by have := HA.out; simp; omega) B4.out.size ?_; intro A' c' w5 o5 b5 g5; have O5 := Lib.hid o5; have B5 := Lib.hid (B4.out.trans b5); clear o5 b5 g5))
          go_roundw
          case rel => exact ⟨k + 1, acc ++ [(f1, f2, f3)], by have := HLT.out; omega, by go_num, HA2, Lib.hid (by have := O5.out; rw [show (acc ++ [(f1, f2, f3)]).length = acc.length + 1 by simp] at this; rw [show (acc ++ [(f1, f2, f3)]).length = acc.length + 1 by simp]; exact this), HP2, B5⟩
          case measure => have := HLT.out; simp [intOf]; omega
      · have HP2 := Lib.hid (show R = .inr (k, fe) by have := HP3.out; rw [if_pos he] at this; exact this.symm)
        have heb : (fe == 0) = false := by simpa using he
        clear HP3
        go_wp2_with fail
        refine (refAt_any bLine k fe _).mono ?_
        rintro e w5 ⟨g5, rfl, hg5, hgl, d5⟩
        have K5 := Lib.hid (KW3.out.below d5 KW3.out.lt)
        have B5 := Lib.hid (HBW.out.trans (d5.mono HBW.out.size))
        have G5 := Lib.hid hg5
        have hne5 : g5 ≠ gw := fun e => absurd KW3.out.lt (by rw [← e]; omega)
        have hgl5 := Lib.hid (Nat.le_trans HBW.out.size hgl)
        clear hg5 hgl d5
        have c0 := K5.out.cell 0
        have f0 := K5.out.frozen 0
        have c1 := K5.out.cell 1
        have f1 := K5.out.frozen 1
        go_wp2
        exact bodyPost_ret (results_tmp_row (fn := Tryz.f10) rfl _ _ gw 31 _ (0, 0) _ rfl (row2w K5.out rfl (.slice (some ⟨g5, 0, none⟩) 1 1) (.int .i64 fe)) Tryz.underlying31 rfl (by kernel_rfl)) rfl (.inr ⟨_, _, g5, HP2.out, rfl, hgl5.out, (G5.out.far hne5 _).far hne5 _, (B5.out.setCell (p := ⟨gw, 0, none⟩) (by rw [HGW.out]; exact Nat.le_refl _) _).setCell (p := ⟨gw, 1, none⟩) (by rw [HGW.out]; exact Nat.le_refl _) _⟩)
    · obtain rfl : k = L.length := by omega
      have HP2 := Lib.hid (show R = .inl acc by have := HR.out; rw [List.drop_length] at this; exact this.symm)
      have HBW := Lib.hid (B1.out.trans (HB.out.mono B1.out.size))
      have c0 := KW.out.cell 0
      have f0 := KW.out.frozen 0
      have c1 := KW.out.cell 1
      have f1 := KW.out.frozen 1
      clear hlt hk
      go_wp2
      exact bodyPost_ret (results_tmp_row (fn := Tryz.f10) rfl _ _ gw 31 _ (0, 0) _ rfl (row2w KW.out rfl (.slice none 0 0) (.int .i64 0)) Tryz.underlying31 rfl (by kernel_rfl)) rfl (.inl ⟨acc, _, HP2.out, rfl, own_lower (own_setG HO.out KW.out) B1.out.size, HA.out, (HBW.out.setCell (p := ⟨gw, 0, none⟩) (by rw [HGW.out]; exact Nat.le_refl _) _).setCell (p := ⟨gw, 1, none⟩) (by rw [HGW.out]; exact Nat.le_refl _) _⟩)
end Go.Proofs.YtanjcjnkppnhcaaGreatDoor

namespace Go.Proofs.YtanjcjnkppnhcaaGreatDoor
open Go.RowKit

theorem refFileInfo : (Tryz.prog.info? 81).map (fun i => (i.zero, i.size, i.bytes)) = some (some (.agg #[.string ⟨#[]⟩, .int .i64 0, .string ⟨#[]⟩]), 3, 40) := by kernel_rfl
def FilCells (ad : Addr) (i : Nat) (p : ByteArray) (m : Int) (d : ByteArray) (W : World) : Prop :=
  W.cell? (ad.add (i * 3)) = some (.string p) ∧ W.cell? ⟨(ad.add (i * 3)).block, (ad.add (i * 3)).off + 1, none⟩ = some (.int .i64 m) ∧ W.cell? ⟨(ad.add (i * 3)).block, (ad.add (i * 3)).off + 2, none⟩ = some (.string d)

set_option maxHeartbeats 2000000 in
theorem lawOf_any (w : World) (v : Value) (l : List Fl) (h : Reads 3 cF w v l) (hl : l.length ≤ 100000) :
    Calls Tryz.prog 18 #[v] w (OwnTo 81 3 cF l w) := by
  obtain ⟨A, c, rfl⟩ := h.form
  have hn := h.len
  have hnm : l.length ≤ 9223372036854775807 := by omega
  have HO := Lib.hid h
  obtain ⟨i0, hi, hz0, hz1, hz2⟩ := info_parts refFileInfo
  clear h hn
  go_enter Tryz.func18, Tryz.ntmps18
  go_wp2
  go_loopw [3, 4] (fun s3 s4 wr => ∃ i : Nat, i ≤ l.length ∧ s4 = .int .i64 i ∧ Hid (wr.ownsRow w.heap.size 81 3 s3 i ((l.take i).flatMap cF)) ∧ Below w.heap.size w wr) (fun _ s4 _ => l.length - (intOf s4).toNat)
  case atStart => exact ⟨0, Nat.zero_le _, rfl, Lib.hid (World.ownsRow_nil _ _ _ _), Below.refl _ _⟩
  case round =>
    obtain ⟨i, hil, rfl, hown, hb⟩ := hrel
    by_cases hlt : i < l.length
    · obtain ⟨f, hf⟩ : ∃ f, l[i]? = some f := ⟨_, List.getElem?_eq_getElem hlt⟩
      obtain ⟨ad, rfl, c0, c1, c2⟩ := Fils.at_ HO.out hf
      obtain ⟨p, m, d⟩ := f
      have HF := Lib.hid hf
      have ZZ := Lib.hid fun W (hW : Below w.heap.size w W) => (⟨(hW.cell (World.block_lt_of_cell? _ _ c0)).trans c0, (hW.cell (World.block_lt_of_cell? _ _ c1)).trans c1, (hW.cell (World.block_lt_of_cell? _ _ c2)).trans c2⟩ : FilCells ad i p m d W)
      unfold FilCells at ZZ
      have z0 := ZZ.out _ hb.drew
      have i0' : (0 : Int) ≤ (i : Int) := Int.natCast_nonneg _
      have hi1 : (i : Int) < (l.length : Int) := by omega
      have hsz := hb.size
      clear hf c0 c1 c2
      go_wp2
      go_region_held3 (fun w' => w'.cell? (ad.add (i * 3)) = some (.string p) ∧ w'.cell? ⟨(ad.add (i * 3)).block, (ad.add (i * 3)).off + 1, none⟩ = some (.int .i64 m) ∧ w'.cell? ⟨(ad.add (i * 3)).block, (ad.add (i * 3)).off + 2, none⟩ = some (.string d))
        (first | exact z0 | exact ZZ.out _ (hb.drew.alloc hsz _) | exact z5)
        ((refine step_append_lies _ (by rfl) _ _ 28 (by rfl) w.heap.size 81 i0 (.agg #[.string ⟨#[]⟩, .int .i64 0, .string ⟨#[]⟩]) 3 40 Tryz.underlying28 hi hz0 hz1 hz2 rfl (by omega) _ i _ (by rfl) (hown.out.drew.alloc _)
            ⟨wr.heap.size, 0, none⟩ 1 1 [.string p, .int .i64 m, .string d] (by rfl) (by rfl) (World.news_of_block (cs := #[.string p, .int .i64 m, .string d]) (t := 81) (fr := (0, 0)) (heap_alloc_new wr.drew _)) (by simp [Value.oneCell'])
            (by omega) (by unfold maxLen; omega) (by omega) (by simp; omega) (wr.heap.size + 1) (by simp) ?_; intro gg cap w5 hown5 hg5 hat hlt5; have hb5 := (hb.drew.alloc hsz (.cells #[.string p, .int .i64 m, .string d] 81)).grown hg5 (by simp; omega) (fun k hk => (hown.out.lt k hk).1); have z5 := ZZ.out _ hb5))
      go_wp2
      go_roundw
      case rel => exact ⟨i + 1, by omega, by go_num, Lib.hid (by rw [take_snoc HF.out, flat_snoc]; exact hown5), hb5⟩
      case measure => simp [intOf]; omega
    · obtain rfl : i = l.length := by omega
      have HL : Hid ((l.take l.length).flatMap cF = l.flatMap cF) := Lib.hid (by rw [List.take_length])
      go_wp2
      go_ret
      exact ⟨_, rfl, by rw [← HL.out]; exact hown.out, hb⟩
end Go.Proofs.YtanjcjnkppnhcaaGreatDoor

namespace Go.Proofs.YtanjcjnkppnhcaaGreatDoor
open Go Go.RowKit

def RefCk (o : Option (Nat × Int)) (w : World) (e : Ending) (w' : World) : Prop :=
  (o = none ∧ e = .returned (.agg #[.slice none 0 0, .int .i64 0]) ∧ Below w.heap.size w w') ∨
  ∃ (i : Nat) (k : Int) (g : Nat), o = some (i, k) ∧ e = .returned (.agg #[.slice (some ⟨g, 0, none⟩) 1 1, .int .i64 k]) ∧ w.heap.size ≤ g ∧ Blk w' g 91 #[.string bStep, .int .i64 i] ∧ Below w.heap.size w w'
set_option maxRecDepth 100000 in
set_option maxHeartbeats 8000000 in
theorem refCheckTodo_any (w : World) (vl vg : Value) (l : List Fl) (gs : List (List Int)) (hl : Reads 3 cF w vl l) (hG : G.Rows w vg gs) (hN : gs.length ≤ 100000) :
    Calls Tryz.prog 17 #[vl, vg] w (RefCk (checkV gs l) w) := by
  obtain ⟨A, c, rfl⟩ := hl.form
  obtain ⟨A2, cp, rfl⟩ := hG.form
  have HLN := hl.len
  have hlm : l.length ≤ 9223372036854775807 := by have := HLN.2; unfold maxLen at this; omega
  have K0 := Lib.hid (Blk.new w 31 #[.slice none 0 0, .int .i64 0])
  have B0 := Lib.hid ((Below.refl w.heap.size w).alloc (Nat.le_refl _) (.cells #[.slice none 0 0, .int .i64 0] 31))
  obtain ⟨gw, hgw⟩ : ∃ g, g = w.heap.size := ⟨_, rfl⟩
  have HGW := Lib.hid hgw
  rw [← hgw] at K0
  have HO := Lib.hid fun W (hW : Below w.heap.size w W) => hl.below hW
  have HG := Lib.hid fun W (hW : Below w.heap.size w W) => hG.below hW
  have l0 : (0 : Int) ≤ (l.length : Int) := Int.natCast_nonneg _
  have hn0 : (0 : Int) ≤ (gs.length : Int) := Int.natCast_nonneg _
  have hn1 : (gs.length : Int) ≤ 100000 := by omega
  clear hl hG HLN
  by_cases h32 : 32 < l.length
  · have HP2 := Lib.hid (show checkV gs l = some (32, 4) from if_pos h32)
    have h32i : (32 : Int) < (l.length : Int) := by omega
    clear h32
    go_enter Tryz.func17, Tryz.ntmps17
    go_wp2_with fail
    rw [← hgw]
    clear hgw
    generalize w.alloc (.cells #[.slice none 0 0, .int .i64 0] 31) = W0 at *
    refine (refAt_any bStep 32 4 _).mono ?_
    rintro e w5 ⟨g5, rfl, hg5, hgl, d5⟩
    have K5 := Lib.hid (K0.out.below d5 K0.out.lt)
    have B5 := Lib.hid (B0.out.trans (d5.mono B0.out.size))
    have G5 := Lib.hid hg5
    have hne5 : g5 ≠ gw := fun e => absurd K0.out.lt (by rw [← e]; omega)
    have hgl5 := Lib.hid (Nat.le_trans B0.out.size hgl)
    clear hg5 hgl d5
    have c0 := K5.out.cell 0
    have f0 := K5.out.frozen 0
    have c1 := K5.out.cell 1
    have f1 := K5.out.frozen 1
    go_wp2
    exact bodyPost_ret (results_cell_row (fn := Tryz.f17) rfl _ _ gw 31 _ (0, 0) _ rfl (row2w K5.out rfl (.slice (some ⟨g5, 0, none⟩) 1 1) (.int .i64 4)) Tryz.underlying31 rfl (by kernel_rfl)) rfl (.inr ⟨_, _, g5, HP2.out, rfl, hgl5.out, (G5.out.far hne5 _).far hne5 _, (B5.out.setCell (p := ⟨gw, 0, none⟩) (by rw [HGW.out]; exact Nat.le_refl _) _).setCell (p := ⟨gw, 1, none⟩) (by rw [HGW.out]; exact Nat.le_refl _) _⟩)
  obtain ⟨R, hR⟩ : ∃ R, R = checkV gs l := ⟨_, rfl⟩
  rw [← hR]
  have HR0 := Lib.hid (show chkS gs (l.drop 0) 0 (!true) = R by rw [hR]; unfold checkV; rw [if_neg h32]; rfl)
  have h32i : ¬ (32 : Int) < (l.length : Int) := by omega
  have l32 : (l.length : Int) ≤ 32 := by omega
  clear hR h32
  go_enter Tryz.func17, Tryz.ntmps17
  go_wp2_with fail
  rw [← hgw]
  clear hgw
  generalize hW0 : w.alloc (.cells #[.slice none 0 0, .int .i64 0] 31) = W0 at *
  clear hW0
  go_loopw [5, 6] (fun s5 s6 wr => ∃ (k : Nat) (b : Bool), k ≤ l.length ∧ s6 = .int .i64 k ∧ s5 = .bool b ∧ Hid (chkS gs (l.drop k) k (!b) = R) ∧ Hid (Blk wr gw 31 #[.slice none 0 0, .int .i64 0]) ∧ Hid (Below w.heap.size w wr)) (fun _ s6 _ => l.length - (intOf s6).toNat)
  case atStart => exact ⟨0, true, Nat.zero_le _, rfl, rfl, HR0, K0, B0⟩
  case round =>
    clear K0 B0 HR0
    obtain ⟨k, b, hk, rfl, rfl, HR, KW, HB⟩ := hrel
    have k0 : (0 : Int) ≤ (k : Int) := Int.natCast_nonneg _
    by_cases hlt : k < l.length
    · obtain ⟨x, hx⟩ : ∃ x, l[k]? = some x := ⟨_, List.getElem?_eq_getElem hlt⟩
      have hki : (k : Int) < (l.length : Int) := by omega
      obtain ⟨ad, rfl, c0, c1, c2⟩ := Fils.at_ (HO.out wr HB.out) hx
      have HP := Lib.hid (show chkS gs (x :: l.drop (k + 1)) k (!b) = R by have := HR.out; rw [drop_consB hx] at this; exact this)
      unfold chkS at HP
      have HLT := Lib.hid hlt
      have B2 := Lib.hid (HB.out.alloc HB.out.size (.cells #[.string x.1, .int .i64 x.2.1, .string x.2.2] 81))
      have Z2 := Lib.hid (Blk.new wr 81 #[.string x.1, .int .i64 x.2.1, .string x.2.2])
      have KW2 := Lib.hid (KW.out.alloc (.cells #[.string x.1, .int .i64 x.2.1, .string x.2.2] 81))
      obtain ⟨z, hz⟩ : ∃ z, z = wr.heap.size := ⟨_, rfl⟩
      obtain ⟨v, cc, t⟩ := x
      dsimp only at c0 c1 c2 B2 Z2 KW2 HP
      have VB := Lib.hid fun W => refVerb_any v W
      clear hx hlt hk HR HB KW
      go_upto_region 8 with fail
      rw [← hz] at Z2 ⊢
      clear hz c0 c1 c2
      generalize wr.alloc (.cells #[.string v, .int .i64 cc, .string t] 81) = w2 at *
      have y0 := Z2.out.cell 0
      go_wp2_with fail
      refine (VB.out _).mono ?_
      rintro e3 w3 ⟨n, rfl, hn, hn1', b3⟩
      have B3 := Lib.hid (B2.out.trans (b3.mono B2.out.size))
      have Z3 := Lib.hid (Z2.out.below b3 Z2.out.lt)
      have KW3 := Lib.hid (KW2.out.below b3 KW2.out.lt)
      clear y0 b3 Z2 VB B2 KW2
      have y0 := Z3.out.cell 0
      have y1 := Z3.out.cell 1
      cases hk : knownV v with
      | false =>
        have HP2 := Lib.hid (show R = some (k, 5) by have := HP.out; rw [show wrongV gs (!b) (v, cc, t) = 5 by unfold wrongV; rw [if_pos hk], if_pos (by decide)] at this; exact this.symm)
        have z1 : n < 0 := by rw [hk] at hn; exact of_decide_eq_true hn
        clear hk hn HP
        go_wp2_with fail
        refine (refAt_any bStep k 5 _).mono ?_
        rintro e w5 ⟨g5, rfl, hg5, hgl, d5⟩
        have K5 := Lib.hid (KW3.out.below d5 KW3.out.lt)
        have B5 := Lib.hid (B3.out.trans (d5.mono B3.out.size))
        have G5 := Lib.hid hg5
        have hne5 : g5 ≠ gw := fun e => absurd KW3.out.lt (by rw [← e]; omega)
        have hgl5 := Lib.hid (Nat.le_trans B3.out.size hgl)
        clear hg5 hgl d5
        have c0 := K5.out.cell 0
        have f0 := K5.out.frozen 0
        have c1 := K5.out.cell 1
        have f1 := K5.out.frozen 1
        go_wp2
        exact bodyPost_ret (results_cell_row (fn := Tryz.f17) rfl _ _ gw 31 _ (0, 0) _ rfl (row2w K5.out rfl (.slice (some ⟨g5, 0, none⟩) 1 1) (.int .i64 5)) Tryz.underlying31 rfl (by kernel_rfl)) rfl (.inr ⟨_, _, g5, HP2.out, rfl, hgl5.out, (G5.out.far hne5 _).far hne5 _, (B5.out.setCell (p := ⟨gw, 0, none⟩) (by rw [HGW.out]; exact Nat.le_refl _) _).setCell (p := ⟨gw, 1, none⟩) (by rw [HGW.out]; exact Nat.le_refl _) _⟩)
      | true =>
        have HK := Lib.hid (show ¬ knownV v = false by rw [hk]; simp)
        have z1 : ¬ n < 0 := by rw [hk] at hn; exact of_decide_eq_false hn
        clear hk hn
        by_cases h1 : cc < 1
        · have HP2 := Lib.hid (show R = some (k, 1) by have := HP.out; rw [show wrongV gs (!b) (v, cc, t) = 1 by unfold wrongV; rw [if_neg HK.out, if_pos (.inl h1)], if_pos (by decide)] at this; exact this.symm)
          clear HP
          go_wp2_with fail
          refine (refAt_any bStep k 1 _).mono ?_
          rintro e w5 ⟨g5, rfl, hg5, hgl, d5⟩
          have K5 := Lib.hid (KW3.out.below d5 KW3.out.lt)
          have B5 := Lib.hid (B3.out.trans (d5.mono B3.out.size))
          have G5 := Lib.hid hg5
          have hne5 : g5 ≠ gw := fun e => absurd KW3.out.lt (by rw [← e]; omega)
          have hgl5 := Lib.hid (Nat.le_trans B3.out.size hgl)
          clear hg5 hgl d5
          have c0 := K5.out.cell 0
          have f0 := K5.out.frozen 0
          have c1 := K5.out.cell 1
          have f1 := K5.out.frozen 1
          go_wp2
          exact bodyPost_ret (results_cell_row (fn := Tryz.f17) rfl _ _ gw 31 _ (0, 0) _ rfl (row2w K5.out rfl (.slice (some ⟨g5, 0, none⟩) 1 1) (.int .i64 1)) Tryz.underlying31 rfl (by kernel_rfl)) rfl (.inr ⟨_, _, g5, HP2.out, rfl, hgl5.out, (G5.out.far hne5 _).far hne5 _, (B5.out.setCell (p := ⟨gw, 0, none⟩) (by rw [HGW.out]; exact Nat.le_refl _) _).setCell (p := ⟨gw, 1, none⟩) (by rw [HGW.out]; exact Nat.le_refl _) _⟩)
        by_cases h2 : (gs.length : Int) < cc
        · have HP2 := Lib.hid (show R = some (k, 1) by have := HP.out; rw [show wrongV gs (!b) (v, cc, t) = 1 by unfold wrongV; rw [if_neg HK.out, if_pos (.inr (.inl h2))], if_pos (by decide)] at this; exact this.symm)
          clear HP
          go_wp2_with fail
          refine (refAt_any bStep k 1 _).mono ?_
          rintro e w5 ⟨g5, rfl, hg5, hgl, d5⟩
          have K5 := Lib.hid (KW3.out.below d5 KW3.out.lt)
          have B5 := Lib.hid (B3.out.trans (d5.mono B3.out.size))
          have G5 := Lib.hid hg5
          have hne5 : g5 ≠ gw := fun e => absurd KW3.out.lt (by rw [← e]; omega)
          have hgl5 := Lib.hid (Nat.le_trans B3.out.size hgl)
          clear hg5 hgl d5
          have c0 := K5.out.cell 0
          have f0 := K5.out.frozen 0
          have c1 := K5.out.cell 1
          have f1 := K5.out.frozen 1
          go_wp2
          exact bodyPost_ret (results_cell_row (fn := Tryz.f17) rfl _ _ gw 31 _ (0, 0) _ rfl (row2w K5.out rfl (.slice (some ⟨g5, 0, none⟩) 1 1) (.int .i64 1)) Tryz.underlying31 rfl (by kernel_rfl)) rfl (.inr ⟨_, _, g5, HP2.out, rfl, hgl5.out, (G5.out.far hne5 _).far hne5 _, (B5.out.setCell (p := ⟨gw, 0, none⟩) (by rw [HGW.out]; exact Nat.le_refl _) _).setCell (p := ⟨gw, 1, none⟩) (by rw [HGW.out]; exact Nat.le_refl _) _⟩)
        obtain ⟨i, hi⟩ : ∃ i : Nat, cc = (i : Int) + 1 := ⟨(cc - 1).toNat, by omega⟩
        subst hi
        have hil : i < gs.length := by omega
        obtain ⟨q, hq⟩ : ∃ q, gs[i]? = some q := ⟨_, List.getElem?_eq_getElem hil⟩
        obtain ⟨ad2, u, rfl, d0, hI⟩ := (HG.out w3 B3.out).cell hq
        obtain ⟨A3, c3, rfl⟩ := hI.form
        have q0 : (0 : Int) ≤ (q.length : Int) := Int.natCast_nonneg _
        have hp := par_at hq
        have hw : IntKind.i64.wrap ((i : Int) + 1 - 1) = (i : Int) := by rw [IntKind.wrap_i64] <;> omega
        have hii : (i : Int) < (gs.length : Int) := by omega
        have i0 : (0 : Int) ≤ (i : Int) := Int.natCast_nonneg _
        clear hq hI
        by_cases h3 : 1 < q.length
        · have HP2 := Lib.hid (show R = some (k, 1) by have := HP.out; rw [show wrongV gs (!b) (v, (i : Int) + 1, t) = 1 by unfold wrongV; rw [if_neg HK.out, if_pos (.inr (.inr (by show 1 < (G.par gs ((i : Int) + 1)).length; rw [hp]; exact h3)))], if_pos (by decide)] at this; exact this.symm)
          have h3i : (1 : Int) < (q.length : Int) := by omega
          clear hp h3 HP
          go_wp2_with fail
          refine (refAt_any bStep k 1 _).mono ?_
          rintro e w5 ⟨g5, rfl, hg5, hgl, d5⟩
          have K5 := Lib.hid (KW3.out.below d5 KW3.out.lt)
          have B5 := Lib.hid (B3.out.trans (d5.mono B3.out.size))
          have G5 := Lib.hid hg5
          have hne5 : g5 ≠ gw := fun e => absurd KW3.out.lt (by rw [← e]; omega)
          have hgl5 := Lib.hid (Nat.le_trans B3.out.size hgl)
          clear hg5 hgl d5
          have c0 := K5.out.cell 0
          have f0 := K5.out.frozen 0
          have c1 := K5.out.cell 1
          have f1 := K5.out.frozen 1
          go_wp2
          exact bodyPost_ret (results_cell_row (fn := Tryz.f17) rfl _ _ gw 31 _ (0, 0) _ rfl (row2w K5.out rfl (.slice (some ⟨g5, 0, none⟩) 1 1) (.int .i64 1)) Tryz.underlying31 rfl (by kernel_rfl)) rfl (.inr ⟨_, _, g5, HP2.out, rfl, hgl5.out, (G5.out.far hne5 _).far hne5 _, (B5.out.setCell (p := ⟨gw, 0, none⟩) (by rw [HGW.out]; exact Nat.le_refl _) _).setCell (p := ⟨gw, 1, none⟩) (by rw [HGW.out]; exact Nat.le_refl _) _⟩)
        have HQ := Lib.hid (show ¬ ((i : Int) + 1 < 1 ∨ (gs.length : Int) < (i : Int) + 1 ∨ 1 < (G.par gs ((i : Int) + 1)).length) by rw [hp]; omega)
        have e1 : decide ((1 : Int) < (q.length : Int)) = false := decide_eq_false (by omega)
        have e2 : decide (1 < q.length) = false := decide_eq_false h3
        have e3 : decide ((gs.length : Int) < (i : Int) + 1) = false := decide_eq_false h2
        have e4 : decide ((i : Int) + 1 < 1) = false := decide_eq_false h1
        have e5 : decide (gs.length < i + 1) = false := decide_eq_false (by omega)
        clear hp q0 h1 h2
        go_upto_region 12 with fail
        clear e1 e2 e3 e4 e5 h3 hw d0 hii i0 y1 z1
        cases b with
        | true =>
          cases hs : (v.toList == [115, 113, 117, 97, 115, 104]) with
          | true =>
            have HP2 := Lib.hid (show R = some (k, 7) by have := HP.out; rw [show wrongV gs (!true) (v, (i : Int) + 1, t) = 7 by unfold wrongV; rw [if_neg HK.out, if_neg HQ.out, if_pos ⟨.inl hs, rfl⟩], if_pos (by decide)] at this; exact this.symm)
            clear HP
            go_wp2_with fail
            refine (refAt_any bStep k 7 _).mono ?_
            rintro e w5 ⟨g5, rfl, hg5, hgl, d5⟩
            have K5 := Lib.hid (KW3.out.below d5 KW3.out.lt)
            have B5 := Lib.hid (B3.out.trans (d5.mono B3.out.size))
            have G5 := Lib.hid hg5
            have hne5 : g5 ≠ gw := fun e => absurd KW3.out.lt (by rw [← e]; omega)
            have hgl5 := Lib.hid (Nat.le_trans B3.out.size hgl)
            clear hg5 hgl d5
            have c0 := K5.out.cell 0
            have f0 := K5.out.frozen 0
            have c1 := K5.out.cell 1
            have f1 := K5.out.frozen 1
            go_wp2
            exact bodyPost_ret (results_cell_row (fn := Tryz.f17) rfl _ _ gw 31 _ (0, 0) _ rfl (row2w K5.out rfl (.slice (some ⟨g5, 0, none⟩) 1 1) (.int .i64 7)) Tryz.underlying31 rfl (by kernel_rfl)) rfl (.inr ⟨_, _, g5, HP2.out, rfl, hgl5.out, (G5.out.far hne5 _).far hne5 _, (B5.out.setCell (p := ⟨gw, 0, none⟩) (by rw [HGW.out]; exact Nat.le_refl _) _).setCell (p := ⟨gw, 1, none⟩) (by rw [HGW.out]; exact Nat.le_refl _) _⟩)
          | false =>
            cases hf : (v.toList == [102, 105, 120, 117, 112]) with
            | true =>
              have HP2 := Lib.hid (show R = some (k, 7) by have := HP.out; rw [show wrongV gs (!true) (v, (i : Int) + 1, t) = 7 by unfold wrongV; rw [if_neg HK.out, if_neg HQ.out, if_pos ⟨.inr hf, rfl⟩], if_pos (by decide)] at this; exact this.symm)
              clear HP
              go_wp2_with fail
              refine (refAt_any bStep k 7 _).mono ?_
              rintro e w5 ⟨g5, rfl, hg5, hgl, d5⟩
              have K5 := Lib.hid (KW3.out.below d5 KW3.out.lt)
              have B5 := Lib.hid (B3.out.trans (d5.mono B3.out.size))
              have G5 := Lib.hid hg5
              have hne5 : g5 ≠ gw := fun e => absurd KW3.out.lt (by rw [← e]; omega)
              have hgl5 := Lib.hid (Nat.le_trans B3.out.size hgl)
              clear hg5 hgl d5
              have c0 := K5.out.cell 0
              have f0 := K5.out.frozen 0
              have c1 := K5.out.cell 1
              have f1 := K5.out.frozen 1
              go_wp2
              exact bodyPost_ret (results_cell_row (fn := Tryz.f17) rfl _ _ gw 31 _ (0, 0) _ rfl (row2w K5.out rfl (.slice (some ⟨g5, 0, none⟩) 1 1) (.int .i64 7)) Tryz.underlying31 rfl (by kernel_rfl)) rfl (.inr ⟨_, _, g5, HP2.out, rfl, hgl5.out, (G5.out.far hne5 _).far hne5 _, (B5.out.setCell (p := ⟨gw, 0, none⟩) (by rw [HGW.out]; exact Nat.le_refl _) _).setCell (p := ⟨gw, 1, none⟩) (by rw [HGW.out]; exact Nat.le_refl _) _⟩)
            | false =>
              have HV := Lib.hid (show wrongV gs (!true) (v, (i : Int) + 1, t) = 0 by unfold wrongV; rw [if_neg HK.out, if_neg HQ.out, if_neg (fun e => e.1.elim (fun e => by rw [hs] at e; cases e) fun e => by rw [hf] at e; cases e)])
              cases hd : (v.toList == [100, 114, 111, 112]) with
              | true =>
                have HP2 := Lib.hid (show chkS gs (l.drop (k + 1)) (k + 1) (!true) = R by have := HP.out; rw [HV.out, if_neg (by simp), hd] at this; exact this)
                clear HP HV
                go_wp2
                go_roundw
                case rel => exact ⟨k + 1, true, by have := HLT.out; omega, by go_num, rfl, HP2, KW3, B3⟩
                case measure => have := HLT.out; simp [intOf]; omega
              | false =>
                have HP2 := Lib.hid (show chkS gs (l.drop (k + 1)) (k + 1) (!false) = R by have := HP.out; rw [HV.out, if_neg (by simp), hd] at this; exact this)
                clear HP HV
                go_wp2
                go_roundw
                case rel => exact ⟨k + 1, false, by have := HLT.out; omega, by go_num, rfl, HP2, KW3, B3⟩
                case measure => have := HLT.out; simp [intOf]; omega
        | false =>
          have HV := Lib.hid (show wrongV gs (!false) (v, (i : Int) + 1, t) = 0 by unfold wrongV; rw [if_neg HK.out, if_neg HQ.out, if_neg (by simp)])
          have HP2 := Lib.hid (show chkS gs (l.drop (k + 1)) (k + 1) (!false) = R by have := HP.out; rw [HV.out, if_neg (by simp)] at this; simpa using this)
          clear HP HV
          go_wp2
          go_roundw
          case rel => exact ⟨k + 1, false, by have := HLT.out; omega, by go_num, rfl, HP2, KW3, B3⟩
          case measure => have := HLT.out; simp [intOf]; omega
    · obtain rfl : k = l.length := by omega
      have HP2 := Lib.hid (show R = none by have := HR.out; rw [List.drop_length] at this; exact this.symm)
      have c0 := KW.out.cell 0
      have f0 := KW.out.frozen 0
      have c1 := KW.out.cell 1
      have f1 := KW.out.frozen 1
      clear hlt hk
      go_wp2
      exact bodyPost_ret (results_cell_row (fn := Tryz.f17) rfl _ _ gw 31 _ (0, 0) _ rfl (row2w KW.out rfl (.slice none 0 0) (.int .i64 0)) Tryz.underlying31 rfl (by kernel_rfl)) rfl (.inl ⟨HP2.out, rfl, (HB.out.setCell (p := ⟨gw, 0, none⟩) (by rw [HGW.out]; exact Nat.le_refl _) _).setCell (p := ⟨gw, 1, none⟩) (by rw [HGW.out]; exact Nat.le_refl _) _⟩)
end Go.Proofs.YtanjcjnkppnhcaaGreatDoor

namespace Go.Proofs.YtanjcjnkppnhcaaGreatDoor
open Go Go.RowKit

/-- A number below 100 in digits. -/
def dg (n : Nat) : ByteArray := if n < 10 then ⟨#[UInt8.ofNat (48 + n)]⟩ else ⟨#[UInt8.ofNat (48 + n / 10), UInt8.ofNat (48 + n % 10)]⟩
def To10 (n : Nat) : Prop := n = 1 ∨ n = 2 ∨ n = 3 ∨ n = 4 ∨ n = 5 ∨ n = 6 ∨ n = 7 ∨ n = 8 ∨ n = 9 ∨ n = 10
theorem to10 {n : Nat} (h1 : 1 ≤ n) (h2 : n ≤ 10) : To10 n := by unfold To10; omega
def To10I (n : Int) : Prop := n = 1 ∨ n = 2 ∨ n = 3 ∨ n = 4 ∨ n = 5 ∨ n = 6 ∨ n = 7 ∨ n = 8 ∨ n = 9 ∨ n = 10
theorem To10.int {n : Nat} (h : To10 n) : To10I (n : Int) := by unfold To10 at h; unfold To10I; omega
theorem sum_named (a b : ByteArray) (h : a.size + b.size ≤ 9223372036854775807) : ∃ s, s = a ++ b ∧ s.size = a.size + b.size ∧ ∀ w, (Op.stringOp .add a b).run Tryz.prog w = .ok (.string s) w := ⟨_, rfl, ByteArray.size_append, fun w => run_string_add_sum w a b h⟩

set_option maxRecDepth 100000 in
set_option maxHeartbeats 4000000 in
theorem itoa_int (n : Int) (h : To10I n) (w : World) : Calls Tryz.prog 46 #[.int .i64 n] w fun e w' => e = .returned (.string (dg n.toNat)) ∧ w' = w := by
  rcases h with rfl | rfl | rfl | rfl | rfl | rfl | rfl | rfl | rfl | rfl
  all_goals
    go_enter Tryz.func46, Tryz.ntmps46
    go_wp2
    go_ret
    exact ⟨rfl, rfl⟩
theorem itoa_any {n : Nat} (h : To10 n) (w : World) : Calls Tryz.prog 46 #[.int .i64 n] w fun e w' => e = .returned (.string (dg n)) ∧ w' = w := itoa_int n h.int w
#print axioms itoa_any

set_option maxRecDepth 100000 in
set_option maxHeartbeats 4000000 in
theorem short_word (w : World) : Calls Tryz.prog 180 #[.int .i64 3] w fun e w' => e = .returned (.string ⟨#[115, 104, 111, 114, 116]⟩) ∧ w' = w := by
  go_enter Tryz.func180, Tryz.ntmps180
  go_wp2
  go_ret
  exact ⟨rfl, rfl⟩
set_option maxRecDepth 100000 in
set_option maxHeartbeats 4000000 in
theorem refWord_short (w : World) : Calls Tryz.prog 79 #[.int .i64 3] w fun e w' => e = .returned (.string ⟨#[115, 104, 111, 114, 116]⟩) ∧ Below w.heap.size w w' := by
  go_enter Tryz.func79, Tryz.ntmps79
  go_wp2
  go_ret
  exact ⟨rfl, (Below.refl _ _).alloc (Nat.le_refl _) _⟩
#print axioms refWord_short
theorem one_digit (W : World) (g : Nat) (x : Int) (h1 : 48 ≤ x) (h2 : x ≤ 57) (hc : W.cell? ⟨g, 0, none⟩ = some (.int .u8 x)) : (convert 94 9 (.slice (some ⟨g, 0, none⟩) 1 1)).run Tryz.prog W = .ok (.string ⟨#[UInt8.ofNat x.toNat]⟩) W := by
  have := run_convert_bytes_back (P := Tryz.prog) W 94 9 5 ⟨g, 0, none⟩ 1 [UInt8.ofNat x.toNat] Tryz.underlying94 Tryz.underlying5 Tryz.underlying9 (fun j hj => by
    obtain rfl : j = 0 := by simpa using hj
    simp [Addr.add, hc]
    omega)
  exact this
set_option maxRecDepth 100000 in
set_option maxHeartbeats 4000000 in
theorem refDecimal_int (n : Int) (h : To10I n) (w : World) : Calls Tryz.prog 48 #[.int .i64 n] w fun e w' => e = .returned (.string (dg n.toNat)) ∧ Below w.heap.size w w' := by
  rcases h with rfl | rfl | rfl | rfl | rfl | rfl | rfl | rfl | rfl | rfl
  all_goals
    have cv : ∀ (W : World) (x : Int), 48 ≤ x → x ≤ 57 → (convert 94 9 (.slice (some ⟨W.heap.size, 0, none⟩) 1 1)).run Tryz.prog (W.alloc (.cells #[.int .u8 x] 5)) = .ok (.string ⟨#[UInt8.ofNat x.toNat]⟩) (W.alloc (.cells #[.int .u8 x] 5)) := fun W x h1 h2 => one_digit _ _ _ h1 h2 (by simp)
    have cw : ∀ (W : World) (o : Obj) (x : Int), 48 ≤ x → x ≤ 57 → (convert 94 9 (.slice (some ⟨W.heap.size + 1, 0, none⟩) 1 1)).run Tryz.prog ((W.alloc o).alloc (.cells #[.int .u8 x] 5)) = .ok (.string ⟨#[UInt8.ofNat x.toNat]⟩) ((W.alloc o).alloc (.cells #[.int .u8 x] 5)) := fun W o x h1 h2 => one_digit _ _ _ h1 h2 (by simp)
    go_enter Tryz.func48, Tryz.ntmps48
    go_wp2
    refine wp_loop_rounds 2 ?_
    rw [rounds_succ]
    go_wp2
    try (rw [rounds_succ]; go_wp2)
    go_ret
    trace_state
    refine ⟨rfl, ?_⟩
    first
      | exact (Below.refl _ _).alloc (Nat.le_refl _) _
      | exact ((Below.refl _ _).alloc (Nat.le_refl _) _).alloc (by simp) _
theorem refDecimal_any {n : Nat} (h : To10 n) (w : World) : Calls Tryz.prog 48 #[.int .i64 n] w fun e w' => e = .returned (.string (dg n)) ∧ Below w.heap.size w w' := refDecimal_int n h.int w
#print axioms refDecimal_any
end Go.Proofs.YtanjcjnkppnhcaaGreatDoor

namespace Go.Proofs.YtanjcjnkppnhcaaGreatDoor
open Go Go.RowKit

def To14 (e : Int) : Prop := e = 1 ∨ e = 2 ∨ e = 3 ∨ e = 4 ∨ e = 5 ∨ e = 6 ∨ e = 7 ∨ e = 8 ∨ e = 9 ∨ e = 10 ∨ e = 11 ∨ e = 12 ∨ e = 13 ∨ e = 14
theorem to14 {e : Int} (h1 : 1 ≤ e) (h2 : e ≤ 14) : To14 e := by unfold To14; omega
/-- An Errno's word. -/
def ew (e : Int) : ByteArray :=
  if e = 1 then ⟨#[97, 114, 103]⟩ else if e = 2 then ⟨#[102, 111, 114, 109]⟩ else if e = 3 then ⟨#[115, 104, 111, 114, 116]⟩ else if e = 4 then ⟨#[108, 111, 110, 103]⟩
  else if e = 5 then ⟨#[110, 97, 109, 101]⟩ else if e = 6 then ⟨#[116, 119, 105, 99, 101]⟩ else if e = 7 then ⟨#[115, 116, 97, 116, 101]⟩ else if e = 8 then ⟨#[100, 105, 114, 116, 121]⟩
  else if e = 9 then ⟨#[99, 111, 110, 102, 108, 105, 99, 116]⟩ else if e = 10 then ⟨#[115, 97, 109, 101]⟩ else if e = 11 then ⟨#[119, 97, 121]⟩ else if e = 12 then ⟨#[115, 117, 109]⟩
  else if e = 13 then ⟨#[100, 111, 119, 110]⟩ else ⟨#[113, 117, 111, 116, 97]⟩
theorem ew_size {e : Int} (h : To14 e) : (ew e).size ≤ 8 := by
  rcases h with rfl | rfl | rfl | rfl | rfl | rfl | rfl | rfl | rfl | rfl | rfl | rfl | rfl | rfl <;> decide

set_option maxRecDepth 100000 in
set_option maxHeartbeats 4000000 in
theorem errno_any (e : Int) (h : To14 e) (w : World) : Calls Tryz.prog 180 #[.int .i64 e] w fun x w' => x = .returned (.string (ew e)) ∧ w' = w := by
  rcases h with rfl | rfl | rfl | rfl | rfl | rfl | rfl | rfl | rfl | rfl | rfl | rfl | rfl | rfl
  all_goals
    go_enter Tryz.func180, Tryz.ntmps180
    go_wp2
    go_ret
    exact ⟨rfl, rfl⟩
#print axioms errno_any
set_option maxRecDepth 100000 in
set_option maxHeartbeats 8000000 in
theorem refErr_any (e : Int) (h : To14 e) (w : World) : Calls Tryz.prog 79 #[.int .i64 e] w fun x w' => x = .returned (.string (ew e)) ∧ Below w.heap.size w w' := by
  rcases h with rfl | rfl | rfl | rfl | rfl | rfl | rfl | rfl | rfl | rfl | rfl | rfl | rfl | rfl
  all_goals
    go_enter Tryz.func79, Tryz.ntmps79
    go_wp2
    go_ret
    exact ⟨rfl, (Below.refl _ _).alloc (Nat.le_refl _) _⟩
#print axioms refErr_any
end Go.Proofs.YtanjcjnkppnhcaaGreatDoor
