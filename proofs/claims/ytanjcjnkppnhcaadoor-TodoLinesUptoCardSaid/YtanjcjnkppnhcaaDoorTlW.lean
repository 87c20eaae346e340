/-
  TodoLines: the law.
-/
import Derived.Test.YtanjcjnkppnhcaaDoorTlA
import Derived.Test.YtanjcjnkppnhcaaDoorTdL
import Derived.OwnWalk
namespace Go.Proofs.YtanjcjnkppnhcaaDoor
open Go Go.RowKit

def BytesAt (w : World) (B : Option Addr) (bs : List UInt8) : Prop := (∀ ad, B = some ad → ∀ k x, bs[k]? = some x → w.cell? (ad.add k) = some (.int .u8 (x.toNat : Int))) ∧ (bs ≠ [] → B ≠ none)
theorem BytesAt.below {w w' : World} {B : Option Addr} {bs : List UInt8} (h : BytesAt w B bs) (hb : Below w.heap.size w w') : BytesAt w' B bs :=
  ⟨fun ad e k x hk => by
    have := h.1 ad e k x hk
    rw [hb.cell (World.block_lt_of_cell? _ _ this)]
    exact this, h.2⟩
theorem reads_piece {w : World} {ad : Addr} {n c : Nat} {l : List Fl} (h : Reads 3 cF w (.slice (some ad) n c) l) {k : Nat} {x : Fl} (hx : l[k]? = some x) : Reads 3 cF w (.slice (some (ad.add (k * 3))) 1 (c - k)) [x] := by
  obtain ⟨A', c', hv, h1, h2, h3, h4⟩ := h
  injection hv with e1 e2 e3
  subst e1; subst e3
  have hk := (List.getElem?_eq_some_iff.1 hx).1
  refine ⟨some (ad.add (k * 3)), c - k, rfl, by simp; omega, by omega, (fun h => by cases h), fun a ha i y hy j u hu => ?_⟩
  obtain rfl := Option.some.inj ha
  have hi : i = 0 := by have := (List.getElem?_eq_some_iff.1 hy).1; simpa using this
  subst hi
  obtain rfl : x = y := by simpa using hy
  have := h4 ad rfl k x hx j u hu
  have e0 : ((ad.add (k * 3)).add (0 * 3)) = ad.add (k * 3) := by simp [Addr.add]
  cases j with
  | zero => show w.cell? ((ad.add (k * 3)).add (0 * 3)) = _; rw [e0]; exact this
  | succ j => show w.cell? ⟨((ad.add (k * 3)).add (0 * 3)).block, ((ad.add (k * 3)).add (0 * 3)).off + (j + 1), none⟩ = _; rw [e0]; exact this
theorem mixL_le : ∀ (l : List Fl) (at' : List Nat), (∀ x ∈ l, StepOkG x) → (mixL l at').length ≤ l.length * 5000010
  | [], _, _ => by simp [mixL]
  | x :: l, [], _ => by simp [mixL]
  | x :: l, a :: at', h => by
    have ih := mixL_le l at' fun y hy => h y (List.mem_cons_of_mem _ hy)
    have h1 := stepG_le (h x List.mem_cons_self)
    have h2 : (insL a).length ≤ 10 := by
      unfold insL
      split
      · decide
      · split
        · decide
        · split <;> decide
    show (insL a ++ stepG x ++ mixL l at').length ≤ (l.length + 1) * 5000010
    rw [List.length_append, List.length_append]
    omega
attribute [-go_sem] run_string_add_if in
set_option maxRecDepth 100000 in
set_option maxHeartbeats 8000000 in
theorem todoLines_walk (w : World) (A : Option Addr) (c : Nat) (l : List Fl) (hx : Reads 3 cF w (.slice A l.length c) l) (B : Option Addr) (d : Nat) (bs : List UInt8) (hb : BytesAt w B bs) (hbs : bs.length ≤ 9223372036854775807) (hv : ∀ x ∈ l, x.1.size ≤ 2000000 ∧ -9223372036854775808 ≤ x.2.1 ∧ x.2.1 ≤ 9223372036854775807) (m : Int) (hm : w.cell? ⟨1, 0, none⟩ = some (.int .i64 m)) (h1 : 1 < w.heap.size) (hT : PowTab w) :
    Calls Tryd.prog 4 #[.slice A l.length c, .slice B bs.length d] w fun e w' => e = .returned (.bool true) ∧ Below w.heap.size w w' := by
  have KN := Lib.hid (known21_yes w m hm h1)
  have l0 : (0 : Int) ≤ (l.length : Int) := Int.natCast_nonneg _
  have l9 : (l.length : Int) ≤ 9223372036854775807 := by have := hx.len.2; unfold maxLen at this; omega
  have b0 : (0 : Int) ≤ (bs.length : Int) := Int.natCast_nonneg _
  have b9 : (bs.length : Int) ≤ 9223372036854775807 := by omega
  have HX := Lib.hid fun W (hW : Below w.heap.size w W) => hx.below hW
  have HBY := Lib.hid fun W (hW : Below w.heap.size w W) => hb.below hW
  have PA := Lib.hid fun W (hW : Below w.heap.size w W) (s : ByteArray) (hs : s.size ≤ 200000000) => parse_any s W m (by rw [hW.cell h1]; exact hm) hs
  have TXA := Lib.hid fun W (hW : Below w.heap.size w W) v (l : List Fl) (h : Reads 3 cF W v l) (hl : l.length ≤ 100) (h2 : ∀ x ∈ l, StepOkG x) => text_all W v l h hl h2 (tabIs_below hT hW)
  have HV := Lib.hid hv
  have HC := Lib.hid (hx.len.2.1)
  clear hx hb hm h1 hT hv hbs
  by_cases h20 : l.length ≤ 20
  case neg =>
    have g1 : (20 : Int) < (l.length : Int) := by omega
    have g2 : decide ((20 : Int) < (l.length : Int)) = true := decide_eq_true g1
    clear h20 HX HBY PA TXA HV HC
    go_enter Tryd.func4, Tryd.ntmps4
    go_wp2_with fail
    refine KN.out.mono ?_
    rintro e w1 ⟨rfl, d1⟩
    have B1 := Lib.hid d1
    clear d1 KN
    go_wp2_with fail
    go_ret
    exact ⟨rfl, B1.out⟩
  have g1 : ¬ (20 : Int) < (l.length : Int) := by omega
  have g2 : decide ((20 : Int) < (l.length : Int)) = false := decide_eq_false g1
  by_cases hle : l.length ≤ bs.length
  case neg =>
    have g3 : (bs.length : Int) < (l.length : Int) := by omega
    have g4 : decide ((bs.length : Int) < (l.length : Int)) = true := decide_eq_true g3
    clear h20 hle HX HBY PA TXA HV HC
    go_enter Tryd.func4, Tryd.ntmps4
    go_wp2_with fail
    refine KN.out.mono ?_
    rintro e w1 ⟨rfl, d1⟩
    have B1 := Lib.hid d1
    clear d1 KN
    go_wp2_with fail
    go_ret
    exact ⟨rfl, B1.out⟩
  have g3 : ¬ (bs.length : Int) < (l.length : Int) := by omega
  have g4 : decide ((bs.length : Int) < (l.length : Int)) = false := decide_eq_false g3
  have H20 := Lib.hid h20
  have HLE := Lib.hid hle
  have g6 : ¬ bs.length < l.length := by omega
  have g5 : decide (bs.length < l.length) = false := decide_eq_false g6
  clear h20 hle
  go_enter Tryd.func4, Tryd.ntmps4
  go_wp2_with fail
  refine KN.out.mono ?_
  rintro e w1 ⟨rfl, d1⟩
  have B1 := Lib.hid d1
  clear d1 KN
  go_wp2_with fail
  clear g2 g4 g5 g6
  have l20 : (l.length : Int) ≤ 20 := by have := H20.out; omega
  go_loopw [5, 6] (fun s5 s6 wr => ∃ (k : Nat) (s : ByteArray), k ≤ l.length ∧ s6 = .int .i64 k ∧ s5 = .string s ∧ Hid (s.data.toList = mixL (l.take k) ((bs.take k).map (·.toNat))) ∧ Hid (∀ x ∈ l.take k, x.2.2.size ≤ 100) ∧ Hid (Below w.heap.size w wr)) (fun _ s6 _ => l.length - (intOf s6).toNat)
  case atStart => exact ⟨0, ⟨#[]⟩, Nat.zero_le _, rfl, rfl, Lib.hid rfl, Lib.hid (by simp), B1⟩
  case round =>
    clear B1
    obtain ⟨k, s, hk, rfl, rfl, HS, HT, HW⟩ := hrel
    have k0 : (0 : Int) ≤ (k : Int) := Int.natCast_nonneg _
    have HOK := Lib.hid (show ∀ x ∈ l.take k, StepOkG x from fun x hx => by
      have h2 := HV.out x (List.mem_of_mem_take hx)
      have h3 := HT.out x hx
      exact ⟨h2.1, by omega, h2.2⟩)
    have HSZ := Lib.hid (show s.size ≤ 20 * 5000010 by
      have := mixL_le (l.take k) ((bs.take k).map (·.toNat)) HOK.out
      rw [← HS.out, size_listB] at this
      refine Nat.le_trans this (Nat.mul_le_mul_right _ ?_)
      rw [List.length_take]
      exact Nat.le_trans (Nat.min_le_right _ _) H20.out)
    by_cases hlt : k < l.length
    · have hli : (k : Int) < (l.length : Int) := by omega
      obtain ⟨x, hx⟩ : ∃ x, l[k]? = some x := ⟨_, List.getElem?_eq_getElem hlt⟩
      obtain ⟨a, ha⟩ : ∃ a, bs[k]? = some a := ⟨_, List.getElem?_eq_getElem (by have := HLE.out; omega)⟩
      obtain ⟨ad, hA, c0, c1, c2⟩ := Fils.at_ (HX.out _ HW.out) hx
      subst hA
      obtain ⟨bd, rfl⟩ : ∃ bd, B = some bd := by
        cases hB : B with
        | some bd => exact ⟨bd, rfl⟩
        | none => exact absurd hB ((HBY.out _ HW.out).2 (by intro e; rw [e] at ha; simp at ha))
      have ca := (HBY.out _ HW.out).1 bd rfl k a ha
      have RP := Lib.hid (reads_piece (HX.out _ HW.out) hx)
      have VX := Lib.hid (HV.out x (List.mem_of_getElem? hx))
      have bli : (k : Int) < (bs.length : Int) := by omega
      have HKX := Lib.hid hx
      have HKA := Lib.hid ha
      obtain ⟨v, cc, tx⟩ := x
      dsimp only at c0 c1 c2
      by_cases h100 : tx.size ≤ 100
      case neg =>
        have t1 : (100 : Int) < (tx.size : Int) := by omega
        clear h100 hx ha PA TXA
        go_wp2_with fail
        go_ret
        exact ⟨rfl, HW.out⟩
      have t1 : ¬ (100 : Int) < (tx.size : Int) := by omega
      have HC3 : (if c = k then some ad else (some ad).map (·.add (k * 3))) = some (ad.add (k * 3)) := by rw [if_neg (by have := HC.out; omega)]; rfl
      have hck : ¬ c = k := by have := HC.out; omega
      have TXC := Lib.hid (TXA.out wr HW.out _ [(v, cc, tx)] RP.out (by simp) (fun y hy => by
        obtain rfl : y = (v, cc, tx) := by simpa using hy
        have := VX.out
        exact ⟨this.1, by dsimp only; omega, this.2⟩))
      have H100 := Lib.hid h100
      clear h100 hx ha TXA RP
      have HLT := Lib.hid hlt
      clear hlt hk c0 c1
      have a0 : (0 : Int) ≤ (a.toNat : Int) := Int.natCast_nonneg _
      have a9 : (a.toNat : Int) ≤ 255 := by have := a.toNat_lt; omega
      obtain ⟨r, hr, hr4⟩ : ∃ r : Nat, a.toNat % 4 = r ∧ r < 4 := ⟨_, rfl, Nat.mod_lt _ (by decide)⟩
      have hri : (a.toNat : Int) % 4 = (r : Int) := by omega
      have z1 : (ByteArray.mk #[10]).size = 1 := rfl
      have z2 : (ByteArray.mk #[35, 32, 112, 105, 99, 107, 32, 57, 10]).size = 9 := rfl
      have z3 : (ByteArray.mk #[32, 32, 32, 10, 32, 32, 35, 32, 120, 10]).size = 10 := rfl
      have hz := HSZ.out
      have hk1 : (k : Int) + 1 ≤ (c : Int) := by have := HC.out; have := HLT.out; omega
      have hkc : (k : Int) ≤ (c : Int) := by omega
      have MIX := Lib.hid (show mixL (l.take (k + 1)) ((bs.take (k + 1)).map (·.toNat)) = mixL (l.take k) ((bs.take k).map (·.toNat)) ++ insL a.toNat ++ stepG (v, cc, tx) by
        obtain ⟨q1, q2⟩ := List.getElem?_eq_some_iff.1 HKX.out
        obtain ⟨q3, q4⟩ := List.getElem?_eq_some_iff.1 HKA.out
        rw [List.take_succ_eq_append_getElem q1, List.take_succ_eq_append_getElem q3, q2, q4, List.map_append]
        exact mixL_snoc _ _ _ _ (by rw [List.length_map, List.length_take, List.length_take]; omega))
      have HT4 := Lib.hid (show ∀ x ∈ l.take (k + 1), x.2.2.size ≤ 100 from fun x hx => by
        obtain ⟨q1, q2⟩ := List.getElem?_eq_some_iff.1 HKX.out
        rw [List.take_succ_eq_append_getElem q1, q2] at hx
        rcases List.mem_append.1 hx with hx | hx
        · exact HT.out x hx
        · obtain rfl := List.mem_singleton.1 hx
          exact H100.out)
      have zT : (ByteArray.mk (stepsG [(v, cc, tx)]).toArray).size ≤ 5000000 := by
        have h7 := stepsG_le (l := [(v, cc, tx)]) (fun y hy => by
          obtain rfl : y = (v, cc, tx) := by simpa using hy
          have := VX.out
          have := H100.out
          exact ⟨(VX.out).1, by dsimp only; omega, (VX.out).2⟩)
        rw [← size_listB]
        simpa using h7
      rcases (show r = 0 ∨ r = 1 ∨ r = 2 ∨ r = 3 by omega) with rfl | rfl | rfl | rfl
      · clear hr4
        obtain ⟨s1, e1, n1, p1⟩ := sum_namedT s ⟨#[10]⟩ (by omega)
        obtain ⟨s4, e4, n4, p4⟩ := sum_namedT s1 ⟨(stepsG [(v, cc, tx)]).toArray⟩ (by omega)
        have HI := Lib.hid (show insL a.toNat = [10] by unfold insL; rw [hr]; rfl)
        have HS4 := Lib.hid (show s4.data.toList = mixL (l.take (k + 1)) ((bs.take (k + 1)).map (·.toNat)) by
          rw [MIX.out, HI.out, ← HS.out, e4, e1, data_app, data_app]
          simp [stepsG])
        clear e1 n1 e4 n4 hr HI HS
        go_wp2_with fail
        refine TXC.out.mono ?_
        rintro e w2 ⟨rfl, d2⟩
        have W2 := Lib.hid (HW.out.trans (d2.mono HW.out.size))
        clear TXC d2 HW
        go_wp2_with fail
        go_roundw
        case rel => exact ⟨k + 1, s4, by have := HLT.out; omega, by go_num, rfl, HS4, HT4, W2⟩
        case measure => have := HLT.out; simp [intOf]; omega
      · clear hr4
        obtain ⟨s1, e1, n1, p1⟩ := sum_namedT s ⟨#[35, 32, 112, 105, 99, 107, 32, 57, 10]⟩ (by omega)
        obtain ⟨s4, e4, n4, p4⟩ := sum_namedT s1 ⟨(stepsG [(v, cc, tx)]).toArray⟩ (by omega)
        have HI := Lib.hid (show insL a.toNat = [35, 32, 112, 105, 99, 107, 32, 57, 10] by unfold insL; rw [hr]; rfl)
        have HS4 := Lib.hid (show s4.data.toList = mixL (l.take (k + 1)) ((bs.take (k + 1)).map (·.toNat)) by
          rw [MIX.out, HI.out, ← HS.out, e4, e1, data_app, data_app]
          simp [stepsG])
        clear e1 n1 e4 n4 hr HI HS
        go_wp2_with fail
        refine TXC.out.mono ?_
        rintro e w2 ⟨rfl, d2⟩
        have W2 := Lib.hid (HW.out.trans (d2.mono HW.out.size))
        clear TXC d2 HW
        go_wp2_with fail
        go_roundw
        case rel => exact ⟨k + 1, s4, by have := HLT.out; omega, by go_num, rfl, HS4, HT4, W2⟩
        case measure => have := HLT.out; simp [intOf]; omega
      · clear hr4
        obtain ⟨s1, e1, n1, p1⟩ := sum_namedT s ⟨#[32, 32, 32, 10, 32, 32, 35, 32, 120, 10]⟩ (by omega)
        obtain ⟨s4, e4, n4, p4⟩ := sum_namedT s1 ⟨(stepsG [(v, cc, tx)]).toArray⟩ (by omega)
        have HI := Lib.hid (show insL a.toNat = [32, 32, 32, 10, 32, 32, 35, 32, 120, 10] by unfold insL; rw [hr]; rfl)
        have HS4 := Lib.hid (show s4.data.toList = mixL (l.take (k + 1)) ((bs.take (k + 1)).map (·.toNat)) by
          rw [MIX.out, HI.out, ← HS.out, e4, e1, data_app, data_app]
          simp [stepsG])
        clear e1 n1 e4 n4 hr HI HS
        go_wp2_with fail
        refine TXC.out.mono ?_
        rintro e w2 ⟨rfl, d2⟩
        have W2 := Lib.hid (HW.out.trans (d2.mono HW.out.size))
        clear TXC d2 HW
        go_wp2_with fail
        go_roundw
        case rel => exact ⟨k + 1, s4, by have := HLT.out; omega, by go_num, rfl, HS4, HT4, W2⟩
        case measure => have := HLT.out; simp [intOf]; omega
      · clear hr4
        obtain ⟨s4, e4, n4, p4⟩ := sum_namedT s ⟨(stepsG [(v, cc, tx)]).toArray⟩ (by omega)
        have HI := Lib.hid (show insL a.toNat = [] by unfold insL; rw [hr]; rfl)
        have HS4 := Lib.hid (show s4.data.toList = mixL (l.take (k + 1)) ((bs.take (k + 1)).map (·.toNat)) by
          rw [MIX.out, HI.out, ← HS.out, e4, data_app]
          simp [stepsG])
        clear e4 n4 hr HI HS
        go_wp2_with fail
        refine TXC.out.mono ?_
        rintro e w2 ⟨rfl, d2⟩
        have W2 := Lib.hid (HW.out.trans (d2.mono HW.out.size))
        clear TXC d2 HW
        go_wp2_with fail
        go_roundw
        case rel => exact ⟨k + 1, s4, by have := HLT.out; omega, by go_num, rfl, HS4, HT4, W2⟩
        case measure => have := HLT.out; simp [intOf]; omega
    · obtain rfl : k = l.length := by omega
      have hli : ¬ ((l.length : Nat) : Int) < (l.length : Int) := by omega
      have HOKA := Lib.hid (show ∀ x ∈ l, StepOkG x from fun x hx => HOK.out x (by rw [List.take_length]; exact hx))
      have HSA := Lib.hid (show s.data.toList = mixL l ((bs.take l.length).map (·.toNat)) by have := HS.out; rw [List.take_length] at this; exact this)
      have SAME := Lib.hid (mix_same l ((bs.take l.length).map (·.toNat)) (by rw [List.length_map, List.length_take]; have := HLE.out; omega))
      have PS := Lib.hid (PA.out wr HW.out s (by have := HSZ.out; omega))
      have TL := Lib.hid fun W (hW : Below w.heap.size w W) => TXA.out W hW _ l (HX.out W hW) (by have := H20.out; omega) HOKA.out
      have PT := Lib.hid fun W (hW : Below w.heap.size w W) => PA.out W hW ⟨(stepsG l).toArray⟩ (by
        have h7 := stepsG_le HOKA.out
        rw [← size_listB]
        have h8 : (ByteArray.mk (stepsG l).toArray).data.toList = stepsG l := by simp
        rw [h8]
        refine Nat.le_trans h7 (Nat.le_trans (Nat.mul_le_mul_right _ H20.out) (by decide)))
      have h8 : (ByteArray.mk (stepsG l).toArray).data.toList = stepsG l := by simp
      rw [h8] at PT
      rw [HSA.out] at PS
      clear h8 hlt hk HOK HS HSZ HT HSA HOKA PA TXA HX HBY
      go_wp2_with fail
      refine PS.out.mono ?_
      rintro e w2 (⟨xs, u, r1, rfl, o2, hx2, d2⟩ | ⟨i1, k1, F1, r1, rfl, -, -, d2⟩)
      · have W2 := Lib.hid (HW.out.trans (d2.mono HW.out.size))
        have O2 := Lib.hid o2
        have HR1 := Lib.hid r1
        have HX2 := Lib.hid hx2
        clear o2 d2 r1 hx2 PS HW
        go_wp2_with fail
        refine (TL.out _ W2.out).mono ?_
        rintro e w3 ⟨rfl, d3⟩
        have W3 := Lib.hid (W2.out.trans (d3.mono W2.out.size))
        have O3 := Lib.hid (own_keep O2.out d3)
        clear d3 W2 O2 TL
        go_wp2_with fail
        refine (PT.out _ W3.out).mono ?_
        rintro e w4 (⟨ys, u', r2, rfl, o4, hy2, d4⟩ | ⟨i2, k2, F2, r2, rfl, -, -, d4⟩)
        · obtain rfl : ys = xs := by
            have h := SAME.out
            rw [HR1.out, r2] at h
            exact (Option.some.inj h).symm
          have W4 := Lib.hid (W3.out.trans (d4.mono W3.out.size))
          have RA := Lib.hid (Reads.of_own (enc := cF) cF_len (own_keep O3.out d4))
          have RB := Lib.hid (Reads.of_own (enc := cF) cF_len o4)
          obtain ⟨A2, c2, rfl⟩ := own_form O3.out
          obtain ⟨A4, c4, rfl⟩ := own_form o4
          have y0 : (0 : Int) ≤ (ys.length : Int) := Int.natCast_nonneg _
          have y9 : (ys.length : Int) ≤ 32 := by omega
          have yy : ((ys.length : Int) != (ys.length : Int)) = false := by simp
          clear o4 d4 r2 hy2 HR1 SAME W3 O3 PT
          go_wp2_with fail
          go_loopw [11] (fun s11 wr => ∃ k q : Nat, k ≤ ys.length ∧ s11 = .int .i64 k ∧ wr = w4.drewN q) (fun s11 _ => ys.length - (intOf s11).toNat)
          case atStart => exact ⟨0, 0, Nat.zero_le _, rfl, rfl⟩
          case round =>
            obtain ⟨k, q, hk, rfl, rfl⟩ := hrel
            by_cases hlt : k < ys.length
            · obtain ⟨x, hx⟩ : ∃ x, ys[k]? = some x := ⟨_, List.getElem?_eq_getElem hlt⟩
              obtain ⟨ad, rfl, c0, c1, c2⟩ := Fils.at_ RA.out hx
              obtain ⟨ad2, rfl, d0, d1, d2⟩ := Fils.at_ RB.out hx
              have k0 : (0 : Int) ≤ (k : Int) := Int.natCast_nonneg _
              have k1 : (k : Int) < (ys.length : Int) := by omega
              clear hx
              obtain ⟨p, m, s⟩ := x
              go_wp2_with fail
              go_quiet (fail)
              go_wp2
              go_roundw
              case rel => exact ⟨k + 1, _, by omega, by go_num, rfl⟩
              case measure => simp [intOf]; omega
            · obtain rfl : k = ys.length := by omega
              go_wp2
              go_ret
              exact ⟨rfl, below_drewN W4.out _⟩
        · exfalso
          have h := SAME.out
          rw [HR1.out, r2] at h
          cases h
      · have W2 := Lib.hid (HW.out.trans (d2.mono HW.out.size))
        have HR1 := Lib.hid r1
        clear d2 r1 PS HW
        go_wp2_with fail
        refine (TL.out _ W2.out).mono ?_
        rintro e w3 ⟨rfl, d3⟩
        have W3 := Lib.hid (W2.out.trans (d3.mono W2.out.size))
        clear d3 W2 TL
        go_wp2_with fail
        refine (PT.out _ W3.out).mono ?_
        rintro e w4 (⟨ys, u', r2, rfl, o4, hy2, d4⟩ | ⟨i2, k2, F2, r2, rfl, -, -, d4⟩)
        · exfalso
          have h := SAME.out
          rw [HR1.out, r2] at h
          cases h
        · have W4 := Lib.hid (W3.out.trans (d4.mono W3.out.size))
          clear d4 W3 PT HR1 SAME r2
          go_wp2_with fail
          go_quiet (fail)
          go_wp2
          go_ret
          exact ⟨rfl, below_drewN W4.out _⟩
#print axioms todoLines_walk
end Go.Proofs.YtanjcjnkppnhcaaDoor
