/-
  todo.Check: steps over commits, or the first that can not be done.
-/
import Derived.Test.YtanjcjnkppnhcaaDoorTdG
namespace Go.Proofs.YtanjcjnkppnhcaaDoor
open Go Go.RowKit

def chkS (gs : List (List Int)) : List Fl → Nat → Bool → Option (Nat × Int)
  | [], _, _ => none
  | x :: r, i, b => if wrongV gs b x ≠ 0 then some (i, wrongV gs b x) else chkS gs r (i + 1) (b || !(x.1.toList == [100, 114, 111, 112]))
def checkV (gs : List (List Int)) (l : List Fl) : Option (Nat × Int) := if 32 < l.length then some (32, 4) else chkS gs l 0 false
def CheckTo (o : Option (Nat × Int)) (w : World) (e : Ending) (w' : World) : Prop :=
  (o = none ∧ e = .returned .nilIface ∧ Below w.heap.size w w') ∨
  ∃ i k F, o = some (i, k) ∧ e = .returned (.iface 46 (.pointer (some ⟨F, 0, none⟩))) ∧ w.heap.size ≤ F ∧ FaultOf F bStep i k w' ∧ Below w.heap.size w w'
set_option maxRecDepth 100000 in
set_option maxHeartbeats 4000000 in
theorem checkS_any (w : World) (vl vg : Value) (l : List Fl) (gs : List (List Int)) (hl : Reads 3 cF w vl l) (hG : G.Rows w vg gs) (hN : gs.length ≤ 100000) (hc : ∀ x ∈ l, -1000000000000 ≤ x.2.1 ∧ x.2.1 ≤ 1000000000000) :
    Calls Tryd.prog 10 #[vl, vg] w (CheckTo (checkV gs l) w) := by
  obtain ⟨A, c, rfl⟩ := hl.form
  have HLN := hl.len
  have hlm : l.length ≤ 9223372036854775807 := by have := HLN.2; unfold maxLen at this; omega
  by_cases h32 : 32 < l.length
  · have HV := Lib.hid (show checkV gs l = some (32, 4) from if_pos h32)
    have h32i : (32 : Int) < (l.length : Int) := by omega
    clear h32 hl hG hc HLN
    go_enter Tryd.func10, Tryd.ntmps10
    go_wp2
    go_ret
    exact .inr ⟨32, 4, w.heap.size, HV.out, rfl, Nat.le_refl _, heap_alloc_new w _, (Below.refl _ _).alloc (Nat.le_refl _) _⟩
  obtain ⟨R, hR⟩ : ∃ R, R = checkV gs l := ⟨_, rfl⟩
  rw [← hR]
  have HR0 := Lib.hid (show chkS gs (l.drop 0) 0 false = R by rw [hR]; unfold checkV; rw [if_neg h32]; rfl)
  have HO := Lib.hid fun W (hW : Below w.heap.size w W) => hl.below hW
  have HG := Lib.hid fun W (hW : Below w.heap.size w W) => hG.below hW
  have HC := Lib.hid hc
  have h32i : ¬ (32 : Int) < (l.length : Int) := by omega
  have l0 : (0 : Int) ≤ (l.length : Int) := Int.natCast_nonneg _
  have l32 : (l.length : Int) ≤ 32 := by omega
  clear hR h32 hl hG hc HLN
  go_enter Tryd.func10, Tryd.ntmps10
  go_wp2_with fail
  go_loopw [5, 6, 7, 8, 18] (fun s5 _ _ _ s18 wr => ∃ (k : Nat) (b : Bool), k ≤ l.length ∧ s18 = .int .i64 k ∧ s5 = .bool b ∧ Hid (chkS gs (l.drop k) k b = R) ∧ Hid (Below w.heap.size w wr)) (fun _ _ _ _ s18 _ => l.length - (intOf s18).toNat)
  case atStart => exact ⟨0, false, Nat.zero_le _, rfl, rfl, HR0, Lib.hid (Below.refl _ _)⟩
  case round =>
    obtain ⟨k, b, hk, rfl, rfl, HR, HB⟩ := hrel
    have k0 : (0 : Int) ≤ (k : Int) := Int.natCast_nonneg _
    by_cases hlt : k < l.length
    · obtain ⟨x, hx⟩ : ∃ x, l[k]? = some x := ⟨_, List.getElem?_eq_getElem hlt⟩
      have hki : (k : Int) < (l.length : Int) := by omega
      obtain ⟨ad, rfl, c0, c1, c2⟩ := Fils.at_ (HO.out wr HB.out) hx
      have HP := Lib.hid (show chkS gs (x :: l.drop (k + 1)) k b = R by have := HR.out; rw [drop_consB hx] at this; exact this)
      unfold chkS at HP
      have WR := Lib.hid fun W (hW : Below w.heap.size w W) => wrong_any W x vg gs b (HG.out W hW) hN (HC.out x (List.mem_of_getElem? hx))
      have HLT := Lib.hid hlt
      obtain ⟨e, he⟩ : ∃ e, e = wrongV gs b x := ⟨_, rfl⟩
      rw [← he] at HP WR
      have B2 := Lib.hid (HB.out.alloc HB.out.size (.cells #[.string x.1, .int .i64 x.2.1, .string x.2.2] 37))
      have Z2 := Lib.hid (Blk.new wr 37 #[.string x.1, .int .i64 x.2.1, .string x.2.2])
      obtain ⟨z, hz⟩ : ∃ z, z = wr.heap.size := ⟨_, rfl⟩
      obtain ⟨v, cc, t⟩ := x
      dsimp only at c0 c1 c2 B2 Z2 HP WR
      clear hx hlt hk HR he HB
      go_upto_region 7 with fail
      rw [← hz] at Z2 ⊢
      clear hz c0 c1 c2
      generalize wr.alloc (.cells #[.string v, .int .i64 cc, .string t] 37) = w2 at *
      have y0 := Z2.out.cell 0
      have y1 := Z2.out.cell 1
      have y2 := Z2.out.cell 2
      go_wp2_with fail
      refine (WR.out _ B2.out).mono ?_
      rintro e3 w3 ⟨rfl, b3⟩
      have B3 := Lib.hid (B2.out.trans (b3.mono B2.out.size))
      have Z3 := Lib.hid (Z2.out.below b3 Z2.out.lt)
      clear y0 y1 y2 b3 Z2 WR B2
      by_cases he : e = 0
      · subst he
        have y0 := Z3.out.cell 0
        cases b with
        | true =>
          have HP2 := Lib.hid (show chkS gs (l.drop (k + 1)) (k + 1) true = R by have := HP.out; rw [if_neg (by simp)] at this; simpa using this)
          go_wp2
          go_roundw
          case rel => exact ⟨k + 1, true, by have := HLT.out; omega, by go_num, rfl, HP2, B3⟩
          case measure => have := HLT.out; simp [intOf]; omega
        | false =>
          cases hd : (v.toList == [100, 114, 111, 112]) with
          | true =>
            have HP2 := Lib.hid (show chkS gs (l.drop (k + 1)) (k + 1) false = R by have := HP.out; rw [if_neg (by simp), hd] at this; exact this)
            go_wp2
            go_roundw
            case rel => exact ⟨k + 1, false, by have := HLT.out; omega, by go_num, by simp, HP2, B3⟩
            case measure => have := HLT.out; simp [intOf]; omega
          | false =>
            have HP2 := Lib.hid (show chkS gs (l.drop (k + 1)) (k + 1) true = R by have := HP.out; rw [if_neg (by simp), hd] at this; exact this)
            go_wp2
            go_roundw
            case rel => exact ⟨k + 1, true, by have := HLT.out; omega, by go_num, by simp, HP2, B3⟩
            case measure => have := HLT.out; simp [intOf]; omega
      · have HP2 := Lib.hid (show R = some (k, e) by have := HP.out; rw [if_pos he] at this; exact this.symm)
        have heb : (e == 0) = false := by simpa using he
        clear HP
        go_wp2
        go_ret
        exact .inr ⟨k, e, w3.heap.size, HP2.out, rfl, B3.out.size, heap_alloc_new w3 _, B3.out.alloc B3.out.size _⟩
    · obtain rfl : k = l.length := by omega
      have HP2 := Lib.hid (show R = none by have := HR.out; rw [List.drop_length] at this; exact this.symm)
      go_wp2
      go_ret
      exact .inl ⟨HP2.out, rfl, HB.out⟩
end Go.Proofs.YtanjcjnkppnhcaaDoor
