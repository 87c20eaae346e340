/-
  slices.Concat of trees.
-/
import Derived.Test.YtplleaimmmanhaaDoorFApp
namespace Go.Proofs.YtplleaimmmanhaaDoor
open Go.RowKit

/-- The files of trees, one after the other. -/
def catR (rs : List (Value × List Fl)) : List Fl := rs.flatMap (·.2)
theorem catR_snoc (rs : List (Value × List Fl)) (r : Value × List Fl) : catR (rs ++ [r]) = catR rs ++ r.2 := by simp [catR]
theorem catR_take (rs : List (Value × List Fl)) (i : Nat) : (catR (rs.take i)).length ≤ (catR rs).length := by
  conv => rhs; rw [← List.take_append_drop i rs]
  unfold catR
  rw [List.flatMap_append, List.length_append]
  omega

set_option maxRecDepth 100000 in
set_option maxHeartbeats 4000000 in
theorem concat_any (w : World) (ad : Addr) (c : Nat) (rs : List (Value × List Fl)) (h : Trees w ad rs) (hl : rs.length ≤ 1000) (hp : (catR rs).length ≤ 100000) :
    Calls Tryd.prog 45 #[.slice (some ad) rs.length c] w (OwnTo 42 3 cF (catR rs) w) := by
  have hnm : rs.length ≤ 9223372036854775807 := by omega
  have HO := Lib.hid h
  have HP := Lib.hid hp
  clear h hp
  go_enter Tryd.func45, Tryd.ntmps45
  go_wp2
  go_loopw [3, 11] (fun s3 s11 wr => ∃ (i m : Nat), i ≤ rs.length ∧ s11 = .int .i64 i ∧ s3 = .int .i64 m ∧ Hid (m = (catR (rs.take i)).length) ∧ SameG wr w) (fun _ s11 _ => rs.length - (intOf s11).toNat)
  case atStart => exact ⟨0, 0, Nat.zero_le _, rfl, rfl, Lib.hid rfl, rfl⟩
  case round =>
    obtain ⟨i, m, hil, rfl, rfl, hm, hw⟩ := hrel
    unfold SameG at hw
    subst hw
    by_cases hlt : i < rs.length
    · obtain ⟨r, hr⟩ : ∃ r, rs[i]? = some r := ⟨_, List.getElem?_eq_getElem hlt⟩
      have HT := Lib.hid (show (catR (rs.take (i + 1))).length = (catR (rs.take i)).length + r.2.length by rw [take_snoc hr, catR_snoc, List.length_append])
      have hle := catR_take rs (i + 1)
      rw [HT.out, ← hm.out] at hle
      have c0 := (HO.out i r hr).1
      have hrd := (HO.out i r hr).2
      obtain ⟨rv, l⟩ := r
      obtain ⟨B, d, hrv⟩ := hrd.form
      simp only at hrv hle
      subst hrv
      have HPm := HP.out
      have i0' : (0 : Int) ≤ (i : Int) := Int.natCast_nonneg _
      have hi1 : (i : Int) < (rs.length : Int) := by omega
      have hm0 : ¬ ((m : Int) + (l.length : Int) < 0) := by omega
      have hlm : l.length ≤ 9223372036854775807 := by omega
      have hwr : IntKind.i64.wrap ((m : Int) + (l.length : Int)) = (m : Int) + (l.length : Int) := by rw [IntKind.wrap_i64] <;> omega
      clear hr hrd hle HPm
      go_wp2
      go_roundw
      case rel => exact ⟨i + 1, m + l.length, by omega, by go_num, by rw [Int.natCast_add], Lib.hid (by rw [HT.out, hm.out]), rfl⟩
      case measure => simp [intOf]; omega
    · obtain rfl : i = rs.length := by omega
      have hmn : m ≤ 100000 := by rw [hm.out, List.take_length]; exact HP.out
      have GR := Lib.hid (grow_any wr m (by omega))
      clear hm
      go_wp2_with fail
      refine GR.out.mono ?_
      rintro e w1 ⟨A1, c1, rfl, o1, b1⟩
      have O1 := Lib.hid o1
      have B1 := b1
      obtain ⟨wo, hwo⟩ : ∃ wo, wo = wr := ⟨_, rfl⟩
      subst hwo
      clear o1 b1 GR hmn
      go_wp2_with fail
      go_loopw [6, 27] (fun s6 s27 wq => ∃ (k : Nat) (acc : List Fl), k ≤ rs.length ∧ s27 = .int .i64 k ∧ Hid (acc = catR (rs.take k)) ∧ Hid (wq.ownsRow wo.heap.size 42 3 s6 acc.length (acc.flatMap cF)) ∧ Below wo.heap.size wo wq) (fun _ s27 _ => rs.length - (intOf s27).toNat)
      case atStart => exact ⟨0, [], Nat.zero_le _, rfl, Lib.hid rfl, Lib.hid O1.out, B1⟩
      case round =>
        obtain ⟨k, acc, hk, rfl, hacc, hown, hb⟩ := hrel
        by_cases hkt : k < rs.length
        · obtain ⟨r, hr⟩ : ∃ r, rs[k]? = some r := ⟨_, List.getElem?_eq_getElem hkt⟩
          have HT := Lib.hid (show catR (rs.take (k + 1)) = acc ++ r.2 by rw [take_snoc hr, catR_snoc, hacc.out])
          have hle := catR_take rs (k + 1)
          rw [HT.out, List.length_append] at hle
          have c0 := ((HO.out.below hb) k r hr).1
          have hrd := ((HO.out.below hb) k r hr).2
          obtain ⟨rv, l⟩ := r
          obtain ⟨B, d, hrv⟩ := hrd.form
          simp only at hrv hle HT
          subst hrv
          have HR := Lib.hid hrd
          have HPm := HP.out
          have k0' : (0 : Int) ≤ (k : Int) := Int.natCast_nonneg _
          have hk1 : (k : Int) < (rs.length : Int) := by omega
          have hsz := hb.size
          have hle2 : acc.length + l.length ≤ 1000000 := by omega
          clear hr hrd hle HPm
          go_wp2_with (at_builtin; refine wpList_append_files _ rfl _ _ rfl wo.heap.size _ acc l rfl hown.out _ _ _ rfl HR.out hle2 hsz ?_; intro A' c' w5 own5 b5 hg5)
          have HB5 := hb.trans b5
          rw [List.length_append] at own5
          clear b5 hg5
          go_roundw
          case rel => exact ⟨k + 1, acc ++ l, by omega, by go_num, Lib.hid HT.out.symm, Lib.hid (by rw [List.length_append]; exact own5), HB5⟩
          case measure => simp [intOf]; omega
        · obtain rfl : k = rs.length := by omega
          rw [List.take_length] at hacc
          go_wp2
          go_ret
          exact ⟨_, rfl, by rw [← hacc.out]; exact hown.out, hb⟩
end Go.Proofs.YtplleaimmmanhaaDoor
