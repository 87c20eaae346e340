/-
  The walk of MergeFar.
-/
import Derived.Test.YtiefenfogjlnoaaMFarPlain
import Derived.Test.YtiefenfogjlnoaaMSidesWalk
import Derived.Laws.BytesArg
namespace Go.Proofs.Ytiefenfogjlnoaa
open Go.RowKit

/-- No end of a line among the first k bytes. -/
def Clr (s : ByteArray) (k : Nat) : Prop := (10 : UInt8) ∉ s.data.toList.take k
theorem Clr.zero (s : ByteArray) : Clr s 0 := by simp [Clr]
theorem Clr.more {s : ByteArray} {k : Nat} (h : Clr s k) (hk : k < s.size) (hc : s[k] ≠ 10) : Clr s (k + 1) := by
  unfold Clr at h ⊢
  rw [take_one _ k (by rw [size_data]; exact hk), List.mem_append, List.mem_singleton]
  rintro (h1 | h1)
  · exact h h1
  · exact hc h1.symm
theorem Clr.all {s : ByteArray} (h : Clr s s.size) : (10 : UInt8) ∉ s.data.toList := by
  unfold Clr at h
  rwa [List.take_of_length_le (by rw [size_data]; omega)] at h

/-- The lines between, behind k rounds. -/
structure MidS (s : ByteArray) (k : Nat) : Prop where
  ex : ∃ M : List (List UInt8), s = mk M.flatten ∧ M ≠ [] ∧ ∀ x ∈ M, MidL x
  le : s.size = 2 + 3 * k
theorem midS_zero : MidS ⟨#[109, 10]⟩ 0 := by
  refine ⟨⟨[[109, 10]], rfl, by simp, ?_⟩, rfl⟩
  intro x hx
  obtain rfl := List.mem_singleton.1 hx
  exact ⟨⟨[109], rfl, by decide⟩, rfl⟩
theorem midS_more {s : ByteArray} {k : Nat} (h : MidS s k) (d : UInt8) (hd : d ≠ 10) : MidS (s ++ ⟨#[109]⟩ ++ mk [d] ++ ⟨#[10]⟩) (k + 1) := by
  obtain ⟨⟨M, rfl, h0, hM⟩, hl⟩ := h
  refine ⟨⟨M ++ [[109, d, 10]], ?_, by simp, ?_⟩, ?_⟩
  · rw [← mk_toList (_ ++ _)]
    congr 1
    rw [append_data, append_data, append_data, List.flatten_append]
    simp [mk]
  · intro x hx
    rw [List.mem_append, List.mem_singleton] at hx
    rcases hx with hx | rfl
    · exact hM x hx
    · exact ⟨⟨[109, d], rfl, by simp; exact fun e => hd e.symm⟩, rfl⟩
  · rw [ByteArray.size_append, ByteArray.size_append, ByteArray.size_append, hl, mk_size]
    show 2 + 3 * k + 1 + 1 + 1 = _
    omega

theorem conv_one (w : World) (g : Nat) (v : Int) (h : w.cell? ⟨g, 0, none⟩ = some (.int .u8 v)) : (convert 40 9 (.slice (some ⟨g, 0, none⟩) 1 1)).run Try.prog w = .ok (.string (mk [UInt8.ofNat v.toNat])) w :=
  run_convert_bytes_arg w 40 5 Try.underlying40 Try.underlying5 g 0 1 1 [v] rfl (fun i hi => by obtain rfl : i = 0 := (by omega); exact h) 9 Try.underlying9

set_option maxRecDepth 100000 in
set_option maxHeartbeats 4000000 in
theorem far_text (W : World) (s a b sB sO sT r : ByteArray) (k : Nat) (hk : k ≤ 9) (hs : MidS s k) (ha : (10 : UInt8) ∉ a.data.toList) (hb : (10 : UInt8) ∉ b.data.toList) (la : a.size ≤ 50) (lb : b.size ≤ 50)
    (e1 : sB = ⟨#[120, 10]⟩ ++ s ++ ⟨#[121, 10]⟩) (e2 : sO = ⟨#[97]⟩ ++ a ++ ⟨#[10]⟩ ++ s ++ ⟨#[121, 10]⟩) (e3 : sT = ⟨#[120, 10]⟩ ++ s ++ ⟨#[98]⟩ ++ b ++ ⟨#[10]⟩) (e4 : r = ⟨#[97]⟩ ++ a ++ ⟨#[10]⟩ ++ s ++ ⟨#[98]⟩ ++ b ++ ⟨#[10]⟩) :
    Calls Try.prog 9 #[.string sB, .string sO, .string sT, .string ⟨#[112]⟩, .string ⟨#[113]⟩] W (One W r) := by
  obtain ⟨⟨M, rfl, h0, hM⟩, hl⟩ := hs
  have z1 : (ByteArray.mk #[120, 10]).size = 2 := rfl
  have z2 : (ByteArray.mk #[121, 10]).size = 2 := rfl
  have z3 : (ByteArray.mk #[97]).size = 1 := rfl
  have z4 : (ByteArray.mk #[10]).size = 1 := rfl
  have z5 : (ByteArray.mk #[98]).size = 1 := rfl
  have lB : sB.size ≤ 256 := by rw [e1]; simp only [ByteArray.size_append]; omega
  have lO : sO.size ≤ 256 := by rw [e2]; simp only [ByteArray.size_append]; omega
  have lT : sT.size ≤ 256 := by rw [e3]; simp only [ByteArray.size_append]; omega
  have F := far_txt [112] [113] a.data.toList b.data.toList M hM h0 ha hb
  have d1 : mk ([120, 10] ++ (M.flatten ++ [121, 10])) = sB := by
    rw [e1, ← mk_toList (_ ++ _), append_data, append_data]; congr 1 <;> simp [mk]
  have d2 : mk ((97 :: a.data.toList ++ [10]) ++ (M.flatten ++ [121, 10])) = sO := by
    rw [e2, ← mk_toList (_ ++ _), append_data, append_data, append_data, append_data]; congr 1 <;> simp [mk]
  have d3 : mk ([120, 10] ++ (M.flatten ++ (98 :: b.data.toList ++ [10]))) = sT := by
    rw [e3, ← mk_toList (_ ++ _), append_data, append_data, append_data, append_data]; congr 1 <;> simp [mk]
  have d4 : (97 :: a.data.toList ++ [10]) ++ (M.flatten ++ (98 :: b.data.toList ++ [10])) = r.data.toList := by
    rw [e4, append_data, append_data, append_data, append_data, append_data, append_data]; simp [mk]
  rw [d1, d2, d3, d4] at F
  exact text_one W sB sO sT r ⟨#[112]⟩ ⟨#[113]⟩ lB lO lT (by decide) (by decide) F

attribute [-go_sem] run_string_add_if
set_option maxRecDepth 100000 in
set_option maxHeartbeats 8000000 in
theorem far_walk (w : World) (n : Int) (h0 : 0 ≤ n) (a b : ByteArray) : Calls Try.prog 7 #[.int .u8 n, .string a, .string b] w (YesB w) := by
  by_cases hab : a.size ≤ 50 ∧ b.size ≤ 50
  · obtain ⟨la, lb⟩ := hab
    have ia : (a.size : Int) ≤ 50 := by omega
    have ib : (b.size : Int) ≤ 50 := by omega
    go_enter Try.func7, Try.ntmps7
    go_wp2_with fail
    refine (known_yes w).mono ?_
    rintro e w1 ⟨rfl, b1⟩
    have HB := Lib.hid b1
    clear b1
    go_wp2_with fail
    go_loopw [7] (fun s7 wr => ∃ k : Nat, k ≤ a.size ∧ s7 = .int .i64 k ∧ Clr a k ∧ Below w1.heap.size w1 wr) (fun s7 _ => a.size - (intOf s7).toNat)
    case atStart => exact ⟨0, Nat.zero_le _, rfl, Clr.zero _, Below.refl _ _⟩
    case round =>
      obtain ⟨k, hk, rfl, hc, hb⟩ := hrel
      have HC := Lib.hid hc
      have HBl := Lib.hid hb
      clear hc hb
      by_cases hlt : k < a.size
      · by_cases h10 : a[k] = 10
        · have ht : ((a[k].toNat : Int) == 10) = true := by rw [h10]; rfl
          clear h10
          go_wp2_with fail
          go_ret
          exact ⟨rfl, below_trans HB.out HBl.out⟩
        · have ht : ((a[k].toNat : Int) == 10) = false := by
            rw [beq_eq_false_iff_ne]
            intro e
            exact h10 (UInt8.toNat_inj.1 (show a[k].toNat = 10 by omega))
          have HM := Lib.hid (HC.out.more hlt h10)
          clear h10
          go_wp2_with fail
          go_roundw
          case rel => exact ⟨k + 1, by omega, by go_num, HM.out, HBl.out⟩
          case measure => simp [intOf]; omega
      · obtain rfl : k = a.size := by omega
        have HA := Lib.hid HC.out.all
        clear HC
        go_wp2_with fail
        go_loopw [8] (fun s8 wx => ∃ k : Nat, k ≤ b.size ∧ s8 = .int .i64 k ∧ Clr b k ∧ Below w1.heap.size w1 wx) (fun s8 _ => b.size - (intOf s8).toNat)
        case atStart => exact ⟨0, Nat.zero_le _, rfl, Clr.zero _, HBl.out⟩
        case round =>
          clear HBl
          obtain ⟨j, hj, rfl, hc, hb⟩ := hrel
          have HC := Lib.hid hc
          have HBl := Lib.hid hb
          clear hc hb
          by_cases hlt2 : j < b.size
          · by_cases h10 : b[j] = 10
            · have ht : ((b[j].toNat : Int) == 10) = true := by rw [h10]; rfl
              clear h10
              go_wp2_with fail
              go_ret
              exact ⟨rfl, below_trans HB.out HBl.out⟩
            · have ht : ((b[j].toNat : Int) == 10) = false := by
                rw [beq_eq_false_iff_ne]
                intro e
                exact h10 (UInt8.toNat_inj.1 (show b[j].toNat = 10 by omega))
              have HM := Lib.hid (HC.out.more hlt2 h10)
              clear h10
              go_wp2_with fail
              go_roundw
              case rel => exact ⟨j + 1, by omega, by go_num, HM.out, HBl.out⟩
              case measure => simp [intOf]; omega
          · obtain rfl : j = b.size := by omega
            have HA2 := Lib.hid HC.out.all
            clear HC
            go_wp2_with fail
            go_loopw [9, 10] (fun s9 s10 wy => ∃ (i : Nat) (s : ByteArray), i ≤ 9 ∧ s9 = .string s ∧ s10 = .int .i64 i ∧ MidS s i ∧ Below w1.heap.size w1 wy) (fun _ s10 _ => 10 - (intOf s10).toNat)
            case atStart => exact ⟨0, _, Nat.zero_le _, rfl, rfl, midS_zero, HBl.out⟩
            case round =>
              clear HBl
              obtain ⟨i, s, hi, rfl, rfl, hm, hb⟩ := hrel
              have HM := Lib.hid hm
              have HBl := Lib.hid hb
              have hle := hm.le
              clear hm hb
              have l1 : (ByteArray.mk #[109]).size = 1 := rfl
              have l2 : (ByteArray.mk #[10]).size = 1 := rfl
              have l3 : (ByteArray.mk #[120, 10]).size = 2 := rfl
              have l4 : (ByteArray.mk #[121, 10]).size = 2 := rfl
              have l5 : (ByteArray.mk #[97]).size = 1 := rfl
              have l6 : (ByteArray.mk #[98]).size = 1 := rfl
              by_cases hin : (i : Int) < n % 10
              · have hi8 : i ≤ 8 := by omega
                obtain ⟨s1, e1, n1, p1⟩ := sum_named s ⟨#[109]⟩ (by omega)
                obtain ⟨dg, hdg⟩ : ∃ d : ByteArray, d = mk [UInt8.ofNat (48 + i)] := ⟨_, rfl⟩
                have ldg : dg.size = 1 := by rw [hdg, mk_size]; rfl
                obtain ⟨s2, e2, n2, p2⟩ := sum_named s1 dg (by omega)
                obtain ⟨s3, e3, n3, p3⟩ := sum_named s2 ⟨#[10]⟩ (by omega)
                have HS : Hid (MidS s3 (i + 1)) := Lib.hid (by
                  rw [e3, e2, e1, hdg]
                  refine midS_more HM.out _ fun e => ?_
                  have := congrArg UInt8.toNat e
                  rw [UInt8.toNat_ofNat'] at this
                  have h10 : (10 : UInt8).toNat = 10 := rfl
                  rw [h10] at this
                  omega)
                have cv := conv_one (wr.alloc (.cells #[.int .u8 (48 + (i : Int))] 5)) wr.heap.size (48 + (i : Int)) (cell_of_row _ _ 0 _ 5 (0, 0) (heap_alloc_new wr _))
                rw [show (48 + (i : Int)).toNat = 48 + i by omega, ← hdg] at cv
                have HBn := Lib.hid (HBl.out.alloc HBl.out.size (.cells #[.int .u8 (48 + (i : Int))] 5))
                clear hdg ldg e1 e2 e3 n1 n2 n3 l1 l2 l3 l4 l5 l6 hle
                go_wp2_with fail
                go_roundw
                case rel => exact ⟨i + 1, s3, by omega, rfl, by go_num, HS.out, HBn.out⟩
                case measure => simp [intOf]; omega
              · obtain ⟨t1, e1, n1, p1⟩ := sum_named ⟨#[120, 10]⟩ s (by omega)
                obtain ⟨t2, e2, n2, p2⟩ := sum_named t1 ⟨#[121, 10]⟩ (by omega)
                obtain ⟨t3, e3, n3, p3⟩ := sum_named ⟨#[97]⟩ a (by omega)
                obtain ⟨t4, e4, n4, p4⟩ := sum_named t3 ⟨#[10]⟩ (by omega)
                obtain ⟨t5, e5, n5, p5⟩ := sum_named t4 s (by omega)
                obtain ⟨t6, e6, n6, p6⟩ := sum_named t5 ⟨#[121, 10]⟩ (by omega)
                obtain ⟨t7, e7, n7, p7⟩ := sum_named t1 ⟨#[98]⟩ (by omega)
                obtain ⟨t8, e8, n8, p8⟩ := sum_named t7 b (by omega)
                obtain ⟨t9, e9, n9, p9⟩ := sum_named t8 ⟨#[10]⟩ (by omega)
                obtain ⟨r1, f1, m1, q1⟩ := sum_named t5 ⟨#[98]⟩ (by omega)
                obtain ⟨r2, f2, m2, q2⟩ := sum_named r1 b (by omega)
                obtain ⟨r3, f3, m3, q3⟩ := sum_named r2 ⟨#[10]⟩ (by omega)
                have X := Lib.hid fun W => far_text W s a b t2 t6 t9 r3 i hi HM.out HA.out HA2.out la lb (by rw [e2, e1]) (by rw [e6, e5, e4, e3]) (by rw [e9, e8, e7, e1]) (by rw [f3, f2, f1, e5, e4, e3])
                clear e1 e2 e3 e4 e5 e6 e7 e8 e9 f1 f2 f3 n1 n2 n3 n4 n5 n6 n7 n8 n9 m1 m2 m3 l1 l2 l3 l4 l5 l6 hle
                go_wp2_with fail
                refine (X.out wr).mono ?_
                rintro e w5 ⟨rfl, d5⟩
                have HD := Lib.hid (below_trans (below_trans HB.out HBl.out) d5)
                clear d5
                go_wp2_with fail
                go_ret
                exact ⟨by simp, HD.out⟩
  · have iab : ¬ ((a.size : Int) ≤ 50 ∧ (b.size : Int) ≤ 50) := by omega
    by_cases la : (a.size : Int) ≤ 50
    · have lb : ¬ (b.size : Int) ≤ 50 := by omega
      clear hab iab
      go_enter Try.func7, Try.ntmps7
      go_wp2_with fail
      refine (known_yes w).mono ?_
      rintro e w1 ⟨rfl, b1⟩
      go_wp2_with fail
      go_ret
      exact ⟨rfl, b1⟩
    · clear hab iab
      go_enter Try.func7, Try.ntmps7
      go_wp2_with fail
      refine (known_yes w).mono ?_
      rintro e w1 ⟨rfl, b1⟩
      go_wp2_with fail
      go_ret
      exact ⟨rfl, b1⟩

end Go.Proofs.Ytiefenfogjlnoaa
