/-
  The document's Parent.
-/
import Derived.Test.YtkhdjlakclidoaaDoorRefC
namespace Go.Proofs.YtkhdjlakclidoaaDoor
open Go Go.RowKit

set_option maxHeartbeats 1000000 in
theorem refParent_any (p : ByteArray) (w : World) (hp : p.size ≤ 1000000) : Calls Tryd.prog 15 #[.string p] w fun e w' => e = .returned (.string (p.extract 0 (parN p))) ∧ w = w' := by
  have HP := Lib.hid (par_spec p)
  have HSZ := Lib.hid (size_list p)
  go_enter Tryd.func15, Tryd.ntmps15
  go_wp2_with fail
  go_loopw [3] (fun i wr => ∃ k : Nat, i = .int .i64 ((k : Int) - 1) ∧ k ≤ p.size ∧ SameW wr w ∧ Hid (∀ j, k ≤ j → p.data.toList[j]? ≠ some 47)) (fun i _ => ((intOf i) + 1).toNat)
  case atStart => exact ⟨p.size, by go_num, Nat.le_refl _, rfl, Lib.hid fun j hj => by rw [List.getElem?_eq_none (by rw [HSZ.out]; exact hj)]; exact fun e => by cases e⟩
  case round =>
    obtain ⟨k, rfl, hk, hw, hall⟩ := hrel
    unfold SameW at hw
    subst hw
    have hall2 := hall.out
    rcases Nat.eq_zero_or_pos k with rfl | hkp
    · have e0 : p.extract 0 (parN p) = ⟨#[]⟩ := by
        rcases HP.out with ⟨h0, _⟩ | ⟨h1, h2, _⟩
        · rw [h0]; exact nil_of (by rw [ByteArray.size_extract]; omega)
        · exact absurd h2 (hall2 _ (Nat.zero_le _))
      have HE := Lib.hid e0
      have hm1 : ((0 : Nat) : Int) - 1 = -1 := rfl
      rw [hm1]
      clear hall hall2 e0
      go_wp2
      go_ret
      exact ⟨ret_s HE.out.symm, rfl⟩
    · obtain ⟨q, rfl⟩ : ∃ q, k = q + 1 := ⟨k - 1, by omega⟩
      have hq : ((q + 1 : Nat) : Int) - 1 = (q : Int) := by omega
      rw [hq]
      clear hq
      have hqp : q < p.size := hk
      have hql : q < p.data.toList.length := by rw [HSZ.out]; exact hqp
      have hge : (0 : Int) ≤ (q : Int) := Int.natCast_nonneg _
      by_cases hc : p[q] = 47
      · have hc' : p.data.toList[q]? = some 47 := by rw [List.getElem?_eq_getElem hql]; congr 1
        have eq : parN p = q := by
          rcases HP.out with ⟨_, h2⟩ | ⟨_, h2, h3⟩
          · exact absurd hc' (h2 q)
          · rcases Nat.lt_trichotomy (parN p) q with h | h | h
            · exact absurd hc' (h3 q h)
            · exact h
            · exact absurd h2 (hall2 _ h)
        have HE := Lib.hid eq
        have ht : ((p[q].toNat : Int) == 47) = true := by rw [hc]; rfl
        have hqi : (q : Int) ≤ (p.size : Int) := by omega
        clear hall hall2 eq hc hc'
        go_wp2
        go_ret
        exact ⟨ret_s (by rw [HE.out]), rfl⟩
      · have HA : Hid (∀ j, q ≤ j → p.data.toList[j]? ≠ some 47) := Lib.hid fun j hj => by
          by_cases e : j = q
          · subst e
            rw [List.getElem?_eq_getElem hql]
            intro h
            exact hc (Option.some.inj h)
          · exact hall2 j (by omega)
        have ht : ((p[q].toNat : Int) == 47) = false := by
          rw [beq_eq_false_iff_ne]
          intro e
          exact hc (UInt8.toNat_inj.1 (show p[q].toNat = 47 by omega))
        clear hall hall2 hc
        go_wp2
        go_roundw
        case rel => exact ⟨q, by go_num, by omega, rfl, HA⟩
        case measure => simp [intOf]; try omega
#print axioms refParent_any
end Go.Proofs.YtkhdjlakclidoaaDoor
