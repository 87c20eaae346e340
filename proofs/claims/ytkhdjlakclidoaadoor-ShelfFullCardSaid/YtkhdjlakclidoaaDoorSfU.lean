/-
  Stack.Text on shelves with small numbers: its contract.
-/
import Derived.Test.YtkhdjlakclidoaaDoorSfT
namespace Go.Proofs.YtkhdjlakclidoaaDoor
open Go Go.RowKit

attribute [-go_sem] run_string_add_if
set_option maxRecDepth 100000 in
set_option maxHeartbeats 4000000 in
theorem sf_text (w : World) (B : Nat) (v : Value) (K : List Ky) (h : Stk w B v K) (hl : K.length ≤ 50) (hS : Small K) :
    Calls Tryd.prog 32 #[v] w fun e w' => e = .returned (.string ⟨(txtTo K K.length).toArray⟩) ∧ Below w.heap.size w w' := by
  obtain ⟨l, hO, hW, rfl⟩ := h
  obtain ⟨A, c, rfl⟩ := own_form hO
  rw [List.length_map] at hl ⊢
  have HO := Lib.hid hO
  have HW := Lib.hid hW
  have HS := Lib.hid hS
  have IB := Lib.hid (Lib.IsBuilderF.of (Lib.fresh_isBuilder 65 5 w))
  have d6 := (Below.refl w.heap.size w).alloc (Nat.le_refl _) (.cells #[.pointer none, .slice none 0 0] 65)
  clear hO hW hS
  go_enter Tryd.func32, Tryd.ntmps32
  go_wp2_with fail
  obtain ⟨b, hb⟩ : ∃ b, b = w.heap.size := ⟨_, rfl⟩
  rw [← hb] at IB d6 ⊢
  have Hb := Lib.hid hb
  clear hb
  go_loopw [9] (fun s9 wr => ∃ k : Nat, k ≤ l.length ∧ s9 = .int .i64 k ∧ Lib.IsBuilderF 65 5 b b (Lib.byteCells (txtTo (l.map key) k)) wr ∧ Below b w wr) (fun s9 _ => l.length - (intOf s9).toNat)
  case atStart => exact ⟨0, Nat.zero_le _, rfl, IB.out, d6⟩
  case round =>
    clear IB d6
    obtain ⟨k, hk, rfl, hI, hB⟩ := hrel
    have k0 : (0 : Int) ≤ (k : Int) := Int.natCast_nonneg _
    have hbl : b ≤ wr.heap.size := by have := Hb.out; rw [this]; rw [this] at hB; exact hB.size
    have hB5 : Below w.heap.size w wr := by have := Hb.out; rw [this] at hB; exact hB
    by_cases hlt : k < l.length
    · have k1 : (k : Int) < (l.length : Int) := by omega
      obtain ⟨⟨b0, wv, s⟩, hx⟩ : ∃ r, l[k]? = some r := ⟨_, List.getElem?_eq_getElem hlt⟩
      obtain ⟨g, cap', hv, x0, x1, x2, x3, hn, hm, hg⟩ := SOwn.at_ (own_keep HO.out hB5) hx
      have hwv : Wk wr wv := (HW.out _ (List.mem_of_getElem? hx)).below hB5
      obtain ⟨wA, wc, hwf, _⟩ := hwv.form
      have hv := Lib.hid hv
      obtain ⟨rfl, rfl⟩ : A = some ⟨g, 0, none⟩ ∧ c = cap' := by have := hv.out; injection this with a b c; exact ⟨a, c⟩
      have hkx : (l.map key)[k]? = some (b0, vlen wv, s) := by rw [List.getElem?_map, hx]; rfl
      obtain ⟨⟨nb, hnb, h2⟩, h3, h4⟩ := HS.out _ (List.mem_of_getElem? hkx)
      simp only at hnb h3 h4
      subst hnb
      obtain ⟨m, hm2⟩ : ∃ m, m = vlen wv := ⟨_, rfl⟩
      rw [← hm2] at hkx hwf h3
      have HT := Lib.hid (txtTo_succ hkx)
      have htl := txtTo_le HS.out k (by omega)
      clear hm2 hkx hx hv hwv
      subst hwf
      have hD := (Below.refl wr.heap.size wr).alloc (Nat.le_refl _) (.cells #[.int .i64 (nb : Int), .slice none 0 0, .slice wA m wc, .string s] 40)
      have z0 := dgs_size (i := 0) (by omega)
      have z1 := dgs_size (i := m) (by omega)
      have z2 := dgs_size (i := nb) (by omega)
      have z3 := dgs_size (i := k) (by omega)
      have l1 : (ByteArray.mk #[47]).size = 1 := rfl
      have l2 : (ByteArray.mk #[58, 32]).size = 2 := rfl
      have l3 : (ByteArray.mk #[32, 40]).size = 2 := rfl
      have l4 : (ByteArray.mk #[44, 32]).size = 2 := rfl
      have l5 : (ByteArray.mk #[41, 10]).size = 2 := rfl
      obtain ⟨c1, e1, n1, p1⟩ := sum_named (dgs 0) ⟨#[47]⟩ (by omega)
      obtain ⟨c2, e2, n2, p2⟩ := sum_named c1 (dgs m) (by omega)
      obtain ⟨s1, f1, o1, q1⟩ := sum_named (dgs k) ⟨#[58, 32]⟩ (by omega)
      obtain ⟨s2, f2, o2, q2⟩ := sum_named s1 s (by omega)
      obtain ⟨s3, f3, o3, q3⟩ := sum_named s2 ⟨#[32, 40]⟩ (by omega)
      obtain ⟨s4, f4, o4, q4⟩ := sum_named s3 (dgs nb) (by omega)
      obtain ⟨s5, f5, o5, q5⟩ := sum_named s4 ⟨#[44, 32]⟩ (by omega)
      obtain ⟨s6, f6, o6, q6⟩ := sum_named s5 c2 (by omega)
      obtain ⟨s7, f7, o7, q7⟩ := sum_named s6 ⟨#[41, 10]⟩ (by omega)
      have eM : Hid (s7 = lineB k nb m s) := Lib.hid (by rw [f7, f6, f5, f4, f3, f2, f1, e2, e1]; rfl)
      have HZ : Hid (s7.size ≤ 50) := Lib.hid (by rw [eM.out]; exact lineB_size (by omega) h2 h3 h4)
      clear e1 e2 n1 n2 f1 f2 f3 f4 f5 f6 f7 o1 o2 o3 o4 o5 o6 o7 l1 l2 l3 l4 l5 z0 z1 z2 z3 h4
      have IM := Lib.hid fun W => itoa_any m h3 W
      have IN := Lib.hid fun W => itoa_any nb h2 W
      have IK := Lib.hid fun W => itoa_any k (by omega) W
      have HL := Lib.hid htl
      have HI := Lib.hid hI
      have HBl := Lib.hid hB
      have HD := Lib.hid hD
      have hne : wr.heap.size ≠ b := by have h9 : b < wr.heap.size := HI.out.elim (·.lt) (·.lt); omega
      clear hI hB hB5 hD htl h2 h3 hn hm
      generalize txtTo (l.map key) k = T at *
      go_wp2_with fail
      go_quiet ((go_at_call 44; first | exact Calls.quiet_of_same (itoa_zero _) | exact Calls.quiet_of_same (IM.out _)))
      have R6 : Rw4 wr.heap.size (.int .i64 (nb : Int)) (.slice none 0 0) (.slice wA m wc) (.string s) ((wr.alloc (.cells #[.int .i64 (nb : Int), .slice none 0 0, .slice wA m wc, .string s] 40)).drewN nq) := heap_alloc_new wr _
      have B6 : Below wr.heap.size wr ((wr.alloc (.cells #[.int .i64 (nb : Int), .slice none 0 0, .slice wA m wc, .string s] 40)).drewN nq) := below_drewN HD.out nq
      generalize (wr.alloc (.cells #[.int .i64 (nb : Int), .slice none 0 0, .slice wA m wc, .string s] 40)).drewN nq = w6 at *
      have I6 := Lib.hid (isf_below HI.out (B6.trans ((Below.refl _ _).drew.mono B6.size)))
      have hs6 : Hid (b ≤ w6.drew.heap.size) := Lib.hid (Nat.le_trans hbl B6.size)
      have R0 : Rw4 wr.heap.size (.int .i64 (nb : Int)) (.slice none 0 0) (.slice wA m wc) (.string s) w6.drew := R6
      have q0 := R0.two
      have H6 := Lib.hid B6
      clear B6 R6 p1 p2
      go_wp2_with fail
      go_region_held3 (fun w' => w'.cell? ⟨wr.heap.size, 0, none⟩ = some (.int .i64 (nb : Int)) ∧ w'.cell? ⟨wr.heap.size, 3, none⟩ = some (.string s)) (first | exact q9 | exact q0) (first
        | (go_at_call 45; (with_reducible refine (writeK b b _ s7 w6.drew I6.out (by rw [Lib.byteCells_length]; have := HZ.out; have := HL.out; omega) hs6.out).mono ?_); rintro e w9 ⟨rfl, h9, d9, k9⟩; have q9 := (R0.kept k9 hne).two)
        | (go_at_call 44; (with_reducible refine (IN.out _).mono ?_); rintro e w8 ⟨rfl, rfl⟩)
        | (go_at_call 44; (with_reducible refine (IK.out _).mono ?_); rintro e w8 ⟨rfl, rfl⟩))
      all_goals
        have HB9 := Lib.hid ((HBl.out.trans ((H6.out.trans ((Below.refl _ _).drew.mono H6.out.size)).mono hbl)).trans d9)
        have H9 := Lib.hid h9
        clear d9 h9 I6 R0 q0 q9 k9
        go_wp2_with fail
        go_roundw
        case rel => exact ⟨k + 1, by omega, by go_num, by rw [HT.out, Lib.byteCells_append]; exact .inr (by have := H9.out; rw [Lib.strCells_eq, eM.out] at this; simpa using this), HB9.out⟩
        case measure => simp [intOf]; omega
    · obtain rfl : k = l.length := by omega
      have P := Lib.hid (Tryd.Builder_String_any_f b b _ wr hI hbl)
      clear hI
      go_wp2_with fail
      refine P.out.mono ?_
      rintro e w6 ⟨rfl, -, d6⟩
      go_wp2_with fail
      go_ret
      exact ⟨rfl, by have h := Hb.out; rw [h] at d6 hB; exact hB.trans d6⟩
#print axioms sf_text
end Go.Proofs.YtkhdjlakclidoaaDoor
