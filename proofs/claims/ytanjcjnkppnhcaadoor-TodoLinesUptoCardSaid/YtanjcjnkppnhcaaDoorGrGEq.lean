/-
  The laws' own small functions: rows alike; few; the reference's Check.
-/
import Derived.Test.YtanjcjnkppnhcaaDoorGrGKnown
namespace Go.Proofs.YtanjcjnkppnhcaaDoor.G
open Go.RowKit

/-- Few: where it says yes, there are not too many. -/
def FewQ (w : World) (gs : List (List Int)) (e : Ending) (w' : World) : Prop := ∃ b : Bool, e = .returned (.bool b) ∧ (b = true → gs.length ≤ 1100) ∧ w = w'

set_option maxHeartbeats 4000000 in
theorem refCheck_any (w : World) (v : Value) (gs : List (List Int)) (hG : Rows w v gs) :
    Calls Tryd.prog 6 #[v] w (Says w (chk gs)) := by
  obtain ⟨A, c, rfl⟩ := hG.form
  have hlen := hG.len
  have hl63 : gs.length ≤ 9223372036854775807 := by have h1 := hlen.2.1; have h2 := hlen.2.2; unfold maxLen at h2; omega
  have HG := Lib.hid hG
  clear hG hlen
  by_cases hbig : 1024 < gs.length
  · have HC : Hid (chk gs = 4) := Lib.hid (by unfold chk; rw [if_pos hbig])
    have hb1 : (1024 : Int) < (gs.length : Int) := by omega
    clear hbig
    go_enter Tryd.func6, Tryd.ntmps6
    go_wp2
    go_ret
    exact ⟨by rw [HC.out]; rfl, Below.refl _ _⟩
  · have HC : Hid (chk gs = chkR 0 gs) := Lib.hid (by unfold chk; rw [if_neg hbig])
    have hb1 : (gs.length : Int) ≤ 1024 := by omega
    clear hbig
    go_enter Tryd.func6, Tryd.ntmps6
    go_wp2_with fail
    go_loopw [3] (fun s12 wr => ∃ k n : Nat, k ≤ gs.length ∧ s12 = .int .i64 k ∧ Hid (chk gs = chkR k (gs.drop k)) ∧ wr = w.drewN n) (fun s12 _ => gs.length - (intOf s12).toNat)
    case atStart => exact ⟨0, 0, Nat.zero_le _, rfl, HC, rfl⟩
    case round =>
      clear HC
      obtain ⟨k, n, hk, rfl, HC, rfl⟩ := hrel
      have k0 : (0 : Int) ≤ (k : Int) := Int.natCast_nonneg _
      by_cases hlt : k < gs.length
      · have k1 : (k : Int) < (gs.length : Int) := by omega
        obtain ⟨l, hl⟩ : ∃ l, gs[k]? = some l := ⟨_, List.getElem?_eq_getElem hlt⟩
        have HK := Lib.hid (chkR_at hl)
        obtain ⟨ad, u, rfl, c1, hu⟩ := HG.out.cell hl
        obtain ⟨B, d, rfl⟩ := hu.form
        have hll : l.length ≤ 9223372036854775807 := by have h1 := hu.len.2.1; have h2 := hu.len.2.2; unfold maxLen at h2; omega
        have HU := Lib.hid hu
        clear hl hu
        by_cases h3 : 2 < l.length
        · have h3' : (2 : Int) < (l.length : Int) := by omega
          have HB := Lib.hid (bad_long (i := k) h3)
          clear h3
          go_wp2
          go_ret
          exact ⟨by rw [HC.out, HK.out, HB.out]; rfl, below_drewN (Below.refl _ w) n⟩
        · have h3' : (l.length : Int) ≤ 2 := by omega
          go_wp2_with fail
          go_loop [4] (fun s19 => ∃ j : Nat, j ≤ l.length ∧ s19 = .int .i64 j ∧ Hid (∀ x ∈ l.take j, 1 ≤ x ∧ x ≤ (k : Int))) (fun s19 => l.length - (intOf s19).toNat)
          case atStart => exact ⟨0, Nat.zero_le _, rfl, Lib.hid (by simp)⟩
          case round =>
            obtain ⟨j, hj, rfl, HT⟩ := hrel
            have j0 : (0 : Int) ≤ (j : Int) := Int.natCast_nonneg _
            by_cases hlj : j < l.length
            · have j1 : (j : Int) < (l.length : Int) := by omega
              obtain ⟨x, hx⟩ : ∃ x, l[j]? = some x := ⟨_, List.getElem?_eq_getElem hlj⟩
              obtain ⟨ab, rfl, c2⟩ := HU.out.cell hx
              have Hx := Lib.hid hx
              clear hx
              by_cases h1 : x < 1
              · have HB := Lib.hid (bad_first (i := k) (List.mem_of_getElem? Hx.out) (.inl h1))
                go_wp2
                go_ret
                exact ⟨by rw [HC.out, HK.out, HB.out]; rfl, below_drewN (Below.refl _ w) n⟩
              · have h1' : 1 ≤ x := by omega
                by_cases h2 : (k : Int) < x
                · have HB := Lib.hid (bad_first (i := k) (List.mem_of_getElem? Hx.out) (.inr h2))
                  go_wp2
                  go_ret
                  exact ⟨by rw [HC.out, HK.out, HB.out]; rfl, below_drewN (Below.refl _ w) n⟩
                · have h2' : x ≤ (k : Int) := by omega
                  go_wp2
                  go_round
                  case rel => exact ⟨j + 1, by omega, by go_num, Lib.hid (take_all HT.out Hx.out ⟨h1', h2'⟩)⟩
                  case measure => simp [intOf]; omega
            · obtain rfl : j = l.length := by omega
              have HA : Hid (∀ x ∈ l, 1 ≤ x ∧ x ≤ (k : Int)) := Lib.hid (by have := HT.out; rwa [List.take_length] at this)
              clear HT
              have HB := Lib.hid (bad_rest HA.out (show l.length ≤ 2 by omega))
              by_cases h4 : l.length = 2
              · have h4' : ((l.length : Int) == 2) = true := by rw [beq_iff_eq]; omega
                obtain ⟨x, hx⟩ : ∃ x, l[0]? = some x := ⟨_, List.getElem?_eq_getElem (by omega)⟩
                obtain ⟨y, hy⟩ : ∃ y, l[1]? = some y := ⟨_, List.getElem?_eq_getElem (by omega)⟩
                obtain ⟨ab, rfl, c2⟩ := HU.out.cell hx
                obtain ⟨ab', hab, c3⟩ := HU.out.cell hy
                obtain rfl := Option.some.inj hab
                have c5 : w.cell? ab = some (.int .i64 x) := by have := c2; unfold Addr.add at this; exact this
                have c6 : w.cell? ⟨ab.block, ab.off + 1, none⟩ = some (.int .i64 y) := by have := c3; unfold Addr.add at this; exact this
                clear c2 c3
                have q2 : 0 < l.length := by omega
                have q3 : 1 < l.length := by omega
                by_cases hxy : x = y
                · have HB2 : Hid (bad k l = 6) := Lib.hid (by rw [HB.out, if_pos ⟨h4, by rw [hx, hy, hxy]⟩])
                  have e1 : (x == y) = true := by rw [beq_iff_eq]; exact hxy
                  clear hx hy hab h3 h4 HA HB hxy
                  go_wp2_with fail
                  go_quiet (fail)
                  go_wp2
                  go_ret
                  exact ⟨by rw [HC.out, HK.out, HB2.out]; rfl, below_drewN (below_drewN (Below.refl _ w) n) nq⟩
                · have HB2 : Hid (bad k l = 0) := Lib.hid (by rw [HB.out, if_neg (fun h => hxy (by have := h.2; rw [hx, hy] at this; injection this))])
                  have e1 : (x == y) = false := by rw [beq_eq_false_iff_ne]; exact hxy
                  clear hx hy hab h3 h4 HA HB hxy
                  go_wp2_with fail
                  go_quiet (fail)
                  go_wp2_with fail
                  go_roundw
                  case rel => exact ⟨k + 1, n + nq, by omega, by go_num, Lib.hid (by rw [HC.out, HK.out, HB2.out]; rfl), rfl⟩
                  case measure => simp [intOf]; omega
              · have h4' : ((l.length : Int) == 2) = false := by rw [beq_eq_false_iff_ne]; omega
                have HB2 : Hid (bad k l = 0) := Lib.hid (by rw [HB.out, if_neg (fun h => h4 h.1)])
                clear h3 h4 HA HB
                go_wp2_with fail
                go_quiet (fail)
                go_wp2_with fail
                go_roundw
                case rel => exact ⟨k + 1, n + nq, by omega, by go_num, Lib.hid (by rw [HC.out, HK.out, HB2.out]; rfl), rfl⟩
                case measure => simp [intOf]; omega
      · obtain rfl : k = gs.length := by omega
        have HE : Hid (chk gs = 0) := Lib.hid (by rw [HC.out, List.drop_length]; rfl)
        go_wp2
        go_ret
        exact ⟨by rw [HE.out]; rfl, below_drewN (Below.refl _ w) n⟩

end Go.Proofs.YtanjcjnkppnhcaaDoor.G
