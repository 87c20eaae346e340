/-
  todo.Plain, rectoref17.Plain: the picks that bring what one commit has beyond another.
-/
import Derived.Test.YtanjcjnkppnhcaaDoorTdH
import Derived.Test.YtanjcjnkppnhcaaDoorGrGRefs
namespace Go.Proofs.YtanjcjnkppnhcaaDoor
open Go Go.RowKit

theorem rStepInfo : (Tryd.prog.info? 44).map (fun i => (i.zero, i.size, i.bytes)) = some (some (.agg #[.string ⟨#[]⟩, .int .i64 0, .string ⟨#[]⟩]), 3, 40) := by kernel_rfl
theorem run_append_rsteps (w : World) (ty : TypeId) (base : Nat) (v : Value) (xs ys : List Fl) (hown : w.ownsRow base 44 3 v xs.length (xs.flatMap cF)) (A : Option Addr) (m c : Nat) (h : Reads 3 cF w (.slice A m c) ys) (hl : xs.length + ys.length ≤ 1000000) (hbase : base ≤ w.heap.size) :
    ∃ A' c' w', (Builtin.append_ #[29, 29] ty #[v, .slice A m c]).run Tryd.prog w = .ok (.slice A' (xs ++ ys).length c') w' ∧ w'.ownsRow base 44 3 (.slice A' (xs ++ ys).length c') (xs ++ ys).length ((xs ++ ys).flatMap cF) ∧ Below base w w' ∧ w.grownBy w' v.ownBlock := by
  obtain ⟨i0, hi, hz0, hz1, hz2⟩ := info_parts rStepInfo
  obtain ⟨hm, hmc, hcm⟩ := h.len
  cases A with
  | none =>
    obtain ⟨A', c', hv, h1, h2, h3, h4⟩ := h
    injection hv with e1 e2 e3
    subst e1; subst e3
    have hc := h3 rfl
    subst hc
    have hm0 : m = 0 := by omega
    subst hm0
    have : ys = [] := List.eq_nil_of_length_eq_zero (by omega)
    subst this
    obtain ⟨A', c', rfl⟩ := own_form hown
    have hr := run_append_owned_none (P := Tryd.prog) (w := w) base 29 ty 44 i0 3 Tryd.underlying29 hi _ _ _ hown
    rw [List.append_nil]
    exact ⟨A', c', w, hr, hown, Below.refl _ _, World.grownBy.refl _ _⟩
  | some ad =>
    obtain ⟨v', w', hr, ho, hg, _⟩ := run_append_own (P := Tryd.prog) w base 29 ty 44 i0 (.agg #[.string ⟨#[]⟩, .int .i64 0, .string ⟨#[]⟩]) 3 40 Tryd.underlying29 hi hz0 hz1 hz2 rfl (by decide) v xs.length (xs.flatMap cF) hown ad m c (ys.flatMap cF) (by rw [flat_len cF_len, hm]) (reads_flat cF_len (by decide) h) (cF_one ys) (by unfold maxLen; omega) (by omega) hbase
    have ho2 : w'.ownsRow base 44 3 v' (xs ++ ys).length ((xs ++ ys).flatMap cF) := by rw [List.length_append, List.flatMap_append, ← hm]; exact ho
    obtain ⟨A', c', rfl⟩ := own_form ho2
    exact ⟨A', c', w', hr, ho2, (Below.refl base w).grown hg hbase fun k hk => (hown.lt k hk).1, hg⟩

theorem wpList_append_rsteps (w : World) {ops : Array Oper} {rest : List Oper} {o : Oper} {a : Act} {Q : Exit → Act → World → Prop} (hgd : o.guard = none) (s x : Operand)
    (ho : o.op = .call { callee := .builtin .append, args := #[s, x], argTypes := #[29, 29] })
    (base : Nat) (v : Value) (xs ys : List Fl) (hs : a.eval s = v) (hown : w.ownsRow base 44 3 v xs.length (xs.flatMap cF)) (A : Option Addr) (m c : Nat) (hx : a.eval x = .slice A m c) (h : Reads 3 cF w (.slice A m c) ys) (hl : xs.length + ys.length ≤ 1000000) (hbase : base ≤ w.heap.size)
    (hk : ∀ A' c' w', w'.ownsRow base 44 3 (.slice A' (xs ++ ys).length c') (xs ++ ys).length ((xs ++ ys).flatMap cF) → Below base w w' → w.grownBy w' v.ownBlock → wpList Tryd.prog ops Q rest (a.put o.dst (.slice A' (xs ++ ys).length c')) w') : wpList Tryd.prog ops Q (o :: rest) a w := by
  obtain ⟨A', c', w', hr, h2, h3, h4⟩ := run_append_rsteps w o.type base v xs ys hown A m c h hl hbase
  exact Lib.wpList_append_run w hgd s x _ _ ho _ _ hs hx _ _ hr (hk A' c' w' h2 h3 h4)

theorem reads_one_rstep {w : World} {g : Nat} (x : Fl) (z : Blk w g 44 #[.string x.1, .int .i64 x.2.1, .string x.2.2]) : Reads 3 cF w (.slice (some ⟨g, 0, none⟩) 1 1) [x] := by
  refine ⟨some ⟨g, 0, none⟩, 1, rfl, Nat.le_refl _, by decide, by simp, fun ad hA i y hy j u hu => ?_⟩
  obtain rfl := Option.some.inj hA
  match i, hy with
  | 0, hy =>
    simp at hy
    subst hy
    match j, hu with
    | 0, hu => simp [cF] at hu; subst hu; exact z.cell 0
    | 1, hu => simp [cF] at hu; subst hu; exact z.cell 1
    | 2, hu => simp [cF] at hu; subst hu; exact z.cell 2
    | j + 3, hu => simp [cF] at hu
  | i + 1, hy => simp at hy
def bPick : ByteArray := ⟨#[112, 105, 99, 107]⟩
/-- The picks of some commits. -/
def pickL (gs : List (List Int)) (X : List Int) : List Fl := X.filterMap fun c => if (G.par gs c).length < 2 then some (bPick, c, ⟨#[]⟩) else none
noncomputable def plainS (gs : List (List Int)) (onto frm : Int) : List Fl := pickL gs (G.onlL gs frm onto)
theorem pickL_snoc (gs : List (List Int)) {X : List Int} {k : Nat} {x : Int} (h : X[k]? = some x) : pickL gs (X.take (k + 1)) = pickL gs (X.take k) ++ (if (G.par gs x).length < 2 then [(bPick, x, ⟨#[]⟩)] else []) := by
  unfold pickL
  obtain ⟨hk, rfl⟩ := List.getElem?_eq_some_iff.1 h
  rw [List.take_succ_eq_append_getElem hk, List.filterMap_append]
  congr 1
  by_cases h2 : (G.par gs X[k]).length < 2
  · simp [h2]
  · simp [h2]
theorem pickL_len (gs : List (List Int)) (X : List Int) : (pickL gs X).length ≤ X.length := List.length_filterMap_le _ _
theorem onlL_in {gs : List (List Int)} {a b x : Int} (h : x ∈ G.onlL gs a b) : 1 ≤ x ∧ x ≤ gs.length := by
  obtain ⟨i, _, hf, rfl⟩ := G.mem_rowF.1 h
  unfold G.onl at hf
  rw [Bool.and_eq_true] at hf
  have h1 := hf.1
  unfold G.anc at h1
  exact (@of_decide_eq_true _ (_) h1).vld
theorem onlL_len (gs : List (List Int)) (a b : Int) : (G.onlL gs a b).length ≤ gs.length + 1 := G.rowF_len _ _
set_option maxRecDepth 100000 in
set_option maxHeartbeats 4000000 in
theorem plain_any (w : World) (v : Value) (gs : List (List Int)) (onto frm : Int) (hG : G.Rows w v gs) (hN : gs.length ≤ 2000) :
    Calls Tryd.prog 7 #[v, .int .i64 onto, .int .i64 frm] w (OwnTo 37 3 cF (plainS gs onto frm) w) := by
  have ON := G.only_any w v gs frm onto hG hN
  obtain ⟨X, hX⟩ : ∃ X, X = G.onlL gs frm onto := ⟨_, rfl⟩
  have HX := Lib.hid (show ∀ x ∈ X, 1 ≤ x ∧ x ≤ (gs.length : Int) by rw [hX]; exact fun x hx => onlL_in hx)
  have XL := Lib.hid (show X.length ≤ 2001 by rw [hX]; have := onlL_len gs frm onto; omega)
  have HP := Lib.hid (show plainS gs onto frm = pickL gs X by rw [hX]; rfl)
  rw [← hX] at ON
  unfold G.Nums at ON
  have ON1 := Lib.hid ON
  have HG := Lib.hid fun W (hW : Below w.heap.size w W) => hG.below hW
  obtain ⟨A, cg, rfl⟩ := hG.form
  have x0 : (0 : Int) ≤ (X.length : Int) := Int.natCast_nonneg _
  have x9 : (X.length : Int) ≤ 2001 := by have := XL.out; omega
  have g0 : (0 : Int) ≤ (gs.length : Int) := Int.natCast_nonneg _
  have g9 : (gs.length : Int) ≤ 2000 := by omega
  clear ON hG hX
  go_enter Tryd.func7, Tryd.ntmps7
  go_wp2_with fail
  refine ON1.out.mono ?_
  rintro e w1 ⟨u, rfl, oX, b1⟩
  have B1 := Lib.hid b1
  have IX := Lib.hid fun W (hW : Below w1.heap.size w1 W) => (G.Ints.of_own oX rfl).below hW
  obtain ⟨A1, c1, rfl⟩ := G.own_form oX
  clear ON1 oX b1
  go_wp2_with fail
  go_loopw [7, 9, 15] (fun s7 _ s15 wr => ∃ k : Nat, k ≤ X.length ∧ s15 = .int .i64 k ∧ Hid (wr.ownsRow w1.heap.size 37 3 s7 (pickL gs (X.take k)).length ((pickL gs (X.take k)).flatMap cF)) ∧ Hid (Below w1.heap.size w1 wr)) (fun _ _ s15 _ => X.length - (intOf s15).toNat)
  case atStart => exact ⟨0, Nat.zero_le _, rfl, Lib.hid (World.ownsRow_nil _ _ _ _), Lib.hid (Below.refl _ _)⟩
  case round =>
    obtain ⟨k, hk, rfl, HO, HB⟩ := hrel
    have k0 : (0 : Int) ≤ (k : Int) := Int.natCast_nonneg _
    by_cases hlt : k < X.length
    · obtain ⟨x, hx⟩ : ∃ x, X[k]? = some x := ⟨_, List.getElem?_eq_getElem hlt⟩
      have hki : (k : Int) < (X.length : Int) := by omega
      obtain ⟨ad, had, c0⟩ := (IX.out wr HB.out).cell hx
      subst had
      have hxr := HX.out x (List.mem_of_getElem? hx)
      have SN := Lib.hid (pickL_snoc gs hx)
      obtain ⟨i, hi⟩ : ∃ i : Nat, x = (i : Int) + 1 := ⟨(x - 1).toNat, by omega⟩
      subst hi
      have hil : i < gs.length := by omega
      obtain ⟨l, hl⟩ : ∃ l, gs[i]? = some l := ⟨_, List.getElem?_eq_getElem hil⟩
      obtain ⟨ag, ug, rfl, d0, hI⟩ := (HG.out wr (B1.out.trans (HB.out.mono B1.out.size))).cell hl
      obtain ⟨A2, c2, rfl⟩ := hI.form
      rw [par_at hl] at SN
      have hw : IntKind.i64.wrap ((i : Int) + 1 - 1) = (i : Int) := by rw [IntKind.wrap_i64] <;> omega
      have hii : (i : Int) < (gs.length : Int) := by omega
      have i0 : (0 : Int) ≤ (i : Int) := Int.natCast_nonneg _
      have HLT := Lib.hid hlt
      have PL := Lib.hid (show (pickL gs (X.take k)).length ≤ 2001 by have := pickL_len gs (X.take k); rw [List.length_take] at this; have := XL.out; omega)
      obtain ⟨acc, hacc⟩ : ∃ acc, acc = pickL gs (X.take k) := ⟨_, rfl⟩
      rw [← hacc] at SN PL HO
      clear hx hlt hk hxr hl hI hacc
      by_cases h2 : l.length < 2
      · rw [if_pos h2] at SN
        have e1 : decide ((l.length : Int) < 2) = true := decide_eq_true (by omega)
        have e2 : decide (l.length < 2) = true := decide_eq_true h2
        have h2i : (l.length : Int) < 2 := by omega
        have O4 := Lib.hid (HO.out.alloc (.cells #[.string bPick, .int .i64 ((i : Int) + 1), .string ⟨#[]⟩] 37))
        have R4 := Lib.hid (reads_one_step (bPick, (i : Int) + 1, ⟨#[]⟩) (Blk.new wr 37 #[.string bPick, .int .i64 ((i : Int) + 1), .string ⟨#[]⟩]))
        have B4 := Lib.hid (HB.out.alloc HB.out.size (.cells #[.string bPick, .int .i64 ((i : Int) + 1), .string ⟨#[]⟩] 37))
        obtain ⟨A4, c4, hv4⟩ := own_form HO.out
        subst hv4
        unfold bPick at O4 R4 B4
        go_upto_region 7 with (at_builtin; go_loud (refine wpList_append_steps (wr.alloc (.cells #[.string ⟨#[112, 105, 99, 107]⟩, .int .i64 ((i : Int) + 1), .string ⟨#[]⟩] 37)) rfl (.tmp 26) (.tmp 29) rfl w1.heap.size _ acc [(⟨#[112, 105, 99, 107]⟩, (i : Int) + 1, ⟨#[]⟩)] rfl O4.out _ _ _ rfl R4.out (by have := PL.out; simp; omega) B4.out.size ?_; intro A' c' w5 o5 b5 g5; have O5 := Lib.hid o5; have B5 := Lib.hid (B4.out.trans b5); clear o5 b5 g5))
        clear c0 d0 e1 e2 h2 h2i O4 R4 B4 HO
        go_wp2
        go_roundw
        case rel => exact ⟨k + 1, by have := HLT.out; omega, by go_num, Lib.hid (by rw [SN.out]; have := O5.out; rw [show (acc ++ [((⟨#[112, 105, 99, 107]⟩ : ByteArray), (i : Int) + 1, (⟨#[]⟩ : ByteArray))]).length = acc.length + 1 by simp] at this; rw [show (acc ++ [(bPick, (i : Int) + 1, (⟨#[]⟩ : ByteArray))]).length = acc.length + 1 by simp]; exact this), B5⟩
        case measure => have := HLT.out; simp [intOf]; omega
      · rw [if_neg h2, List.append_nil] at SN
        have e1 : decide ((l.length : Int) < 2) = false := decide_eq_false (by omega)
        have e2 : decide (l.length < 2) = false := decide_eq_false h2
        have h2i : ¬ (l.length : Int) < 2 := by omega
        go_wp2
        go_roundw
        case rel => exact ⟨k + 1, by have := HLT.out; omega, by go_num, Lib.hid (by rw [SN.out]; exact HO.out), HB⟩
        case measure => have := HLT.out; simp [intOf]; omega
    · obtain rfl : k = X.length := by omega
      have HO2 := Lib.hid (show wr.ownsRow w1.heap.size 37 3 u7 (pickL gs X).length ((pickL gs X).flatMap cF) by have := HO.out; rw [List.take_length] at this; exact this)
      clear HO hlt hk
      go_wp2
      go_ret
      exact ⟨_, rfl, by rw [HP.out]; exact own_lower HO2.out B1.out.size, B1.out.trans (HB.out.mono B1.out.size)⟩
set_option maxRecDepth 100000 in
set_option maxHeartbeats 4000000 in
theorem refPlain_any (w : World) (v : Value) (gs : List (List Int)) (onto frm : Int) (hG : G.Rows w v gs) (hN : gs.length ≤ 2000) (ok : G.Ok gs) :
    Calls Tryd.prog 9 #[v, .int .i64 onto, .int .i64 frm] w (OwnTo 44 3 cF (plainS gs onto frm) w) := by
  have ON := G.refOnly_any w v gs frm onto hG hN ok
  obtain ⟨X, hX⟩ : ∃ X, X = G.onlL gs frm onto := ⟨_, rfl⟩
  have HX := Lib.hid (show ∀ x ∈ X, 1 ≤ x ∧ x ≤ (gs.length : Int) by rw [hX]; exact fun x hx => onlL_in hx)
  have XL := Lib.hid (show X.length ≤ 2001 by rw [hX]; have := onlL_len gs frm onto; omega)
  have HP := Lib.hid (show plainS gs onto frm = pickL gs X by rw [hX]; rfl)
  rw [← hX] at ON
  unfold G.Nums at ON
  have ON1 := Lib.hid ON
  have HG := Lib.hid fun W (hW : Below w.heap.size w W) => hG.below hW
  obtain ⟨A, cg, rfl⟩ := hG.form
  have x0 : (0 : Int) ≤ (X.length : Int) := Int.natCast_nonneg _
  have x9 : (X.length : Int) ≤ 2001 := by have := XL.out; omega
  have g0 : (0 : Int) ≤ (gs.length : Int) := Int.natCast_nonneg _
  have g9 : (gs.length : Int) ≤ 2000 := by omega
  clear ON hG hX
  go_enter Tryd.func9, Tryd.ntmps9
  go_wp2_with fail
  refine ON1.out.mono ?_
  rintro e w1 ⟨u, rfl, oX, b1⟩
  have B1 := Lib.hid b1
  have IX := Lib.hid fun W (hW : Below w1.heap.size w1 W) => (G.Ints.of_own oX rfl).below hW
  obtain ⟨A1, c1, rfl⟩ := G.own_form oX
  clear ON1 oX b1
  go_wp2_with fail
  go_loopw [8, 9] (fun s8 s9 wr => ∃ k : Nat, k ≤ X.length ∧ s9 = .int .i64 k ∧ Hid (wr.ownsRow w1.heap.size 44 3 s8 (pickL gs (X.take k)).length ((pickL gs (X.take k)).flatMap cF)) ∧ Hid (Below w1.heap.size w1 wr)) (fun _ s9 _ => X.length - (intOf s9).toNat)
  case atStart => exact ⟨0, Nat.zero_le _, rfl, Lib.hid (World.ownsRow_nil _ _ _ _), Lib.hid (Below.refl _ _)⟩
  case round =>
    obtain ⟨k, hk, rfl, HO, HB⟩ := hrel
    have k0 : (0 : Int) ≤ (k : Int) := Int.natCast_nonneg _
    by_cases hlt : k < X.length
    · obtain ⟨x, hx⟩ : ∃ x, X[k]? = some x := ⟨_, List.getElem?_eq_getElem hlt⟩
      have hki : (k : Int) < (X.length : Int) := by omega
      obtain ⟨ad, had, c0⟩ := (IX.out wr HB.out).cell hx
      subst had
      have hxr := HX.out x (List.mem_of_getElem? hx)
      have SN := Lib.hid (pickL_snoc gs hx)
      obtain ⟨i, hi⟩ : ∃ i : Nat, x = (i : Int) + 1 := ⟨(x - 1).toNat, by omega⟩
      subst hi
      have hil : i < gs.length := by omega
      obtain ⟨l, hl⟩ : ∃ l, gs[i]? = some l := ⟨_, List.getElem?_eq_getElem hil⟩
      obtain ⟨ag, ug, rfl, d0, hI⟩ := (HG.out wr (B1.out.trans (HB.out.mono B1.out.size))).cell hl
      obtain ⟨A2, c2, rfl⟩ := hI.form
      rw [par_at hl] at SN
      have hw : IntKind.i64.wrap ((i : Int) + 1 - 1) = (i : Int) := by rw [IntKind.wrap_i64] <;> omega
      have hii : (i : Int) < (gs.length : Int) := by omega
      have i0 : (0 : Int) ≤ (i : Int) := Int.natCast_nonneg _
      have HLT := Lib.hid hlt
      have PL := Lib.hid (show (pickL gs (X.take k)).length ≤ 2001 by have := pickL_len gs (X.take k); rw [List.length_take] at this; have := XL.out; omega)
      obtain ⟨acc, hacc⟩ : ∃ acc, acc = pickL gs (X.take k) := ⟨_, rfl⟩
      rw [← hacc] at SN PL HO
      clear hx hlt hk hxr hl hI hacc
      by_cases h2 : l.length < 2
      · rw [if_pos h2] at SN
        have e1 : decide ((l.length : Int) < 2) = true := decide_eq_true (by omega)
        have e2 : decide (l.length < 2) = true := decide_eq_true h2
        have h2i : (l.length : Int) < 2 := by omega
        have O4 := Lib.hid (HO.out.alloc (.cells #[.string bPick, .int .i64 ((i : Int) + 1), .string ⟨#[]⟩] 44))
        have R4 := Lib.hid (reads_one_rstep (bPick, (i : Int) + 1, ⟨#[]⟩) (Blk.new wr 44 #[.string bPick, .int .i64 ((i : Int) + 1), .string ⟨#[]⟩]))
        have B4 := Lib.hid (HB.out.alloc HB.out.size (.cells #[.string bPick, .int .i64 ((i : Int) + 1), .string ⟨#[]⟩] 44))
        obtain ⟨A4, c4, hv4⟩ := own_form HO.out
        subst hv4
        unfold bPick at O4 R4 B4
        go_upto_region 5 with (at_builtin; go_loud (refine wpList_append_rsteps (wr.alloc (.cells #[.string ⟨#[112, 105, 99, 107]⟩, .int .i64 ((i : Int) + 1), .string ⟨#[]⟩] 44)) rfl (.tmp 30) (.tmp 36) rfl w1.heap.size _ acc [(⟨#[112, 105, 99, 107]⟩, (i : Int) + 1, ⟨#[]⟩)] rfl O4.out _ _ _ rfl R4.out (by have := PL.out; simp; omega) B4.out.size ?_; intro A' c' w5 o5 b5 g5; have O5 := Lib.hid o5; have B5 := Lib.hid (B4.out.trans b5); clear o5 b5 g5))
        clear c0 d0 e1 e2 h2 h2i O4 R4 B4 HO
        go_wp2
        go_roundw
        case rel => exact ⟨k + 1, by have := HLT.out; omega, by go_num, Lib.hid (by rw [SN.out]; have := O5.out; rw [show (acc ++ [((⟨#[112, 105, 99, 107]⟩ : ByteArray), (i : Int) + 1, (⟨#[]⟩ : ByteArray))]).length = acc.length + 1 by simp] at this; rw [show (acc ++ [(bPick, (i : Int) + 1, (⟨#[]⟩ : ByteArray))]).length = acc.length + 1 by simp]; exact this), B5⟩
        case measure => have := HLT.out; simp [intOf]; omega
      · rw [if_neg h2, List.append_nil] at SN
        have e1 : decide ((l.length : Int) < 2) = false := decide_eq_false (by omega)
        have e2 : decide (l.length < 2) = false := decide_eq_false h2
        have h2i : ¬ (l.length : Int) < 2 := by omega
        go_wp2
        go_roundw
        case rel => exact ⟨k + 1, by have := HLT.out; omega, by go_num, Lib.hid (by rw [SN.out]; exact HO.out), HB⟩
        case measure => have := HLT.out; simp [intOf]; omega
    · obtain rfl : k = X.length := by omega
      have HO2 := Lib.hid (show wr.ownsRow w1.heap.size 44 3 u8 (pickL gs X).length ((pickL gs X).flatMap cF) by have := HO.out; rw [List.take_length] at this; exact this)
      clear HO hlt hk
      go_wp2
      go_ret
      exact ⟨_, rfl, by rw [HP.out]; exact own_lower HO2.out B1.out.size, B1.out.trans (HB.out.mono B1.out.size)⟩
end Go.Proofs.YtanjcjnkppnhcaaDoor
