/-
  Check, of both kinds.
-/
import Derived.Test.YtgcgfflkhlehoaaGBases2
import Derived.Outline
namespace Go.Proofs.Ytgcgfflkhlehoaa
open Go.RowKit

/-- What is wrong with a commit's parents first. -/
def bad (i : Nat) (l : List Int) : Int := if (∃ p ∈ l, p < 1 ∨ (i : Int) < p) ∨ 2 < l.length then 1 else if l.length = 2 ∧ l[0]? = l[1]? then 6 else 0
def chkR : Nat → List (List Int) → Int
  | _, [] => 0
  | i, l :: r => if bad i l = 0 then chkR (i + 1) r else bad i l
def chk (gs : List (List Int)) : Int := if 1024 < gs.length then 4 else chkR 0 gs

theorem chkR_at {gs : List (List Int)} {k : Nat} {l : List Int} (h : gs[k]? = some l) : chkR k (gs.drop k) = if bad k l = 0 then chkR (k + 1) (gs.drop (k + 1)) else bad k l := by
  have hlt := (List.getElem?_eq_some_iff.1 h).1
  rw [List.drop_eq_getElem_cons hlt]
  have : gs[k] = l := (List.getElem?_eq_some_iff.1 h).2
  rw [this]
  rfl

theorem chk_ok {gs : List (List Int)} (h : chk gs = 0) : gs.length ≤ 1024 ∧ Ok gs ∧ ∀ l ∈ gs, l.length ≤ 2 := by
  unfold chk at h
  by_cases hl : 1024 < gs.length
  · rw [if_pos hl] at h; cases h
  · rw [if_neg hl] at h
    have key : ∀ (r : List (List Int)) (i : Nat), chkR i r = 0 → ∀ j l, r[j]? = some l → bad (i + j) l = 0 := by
      intro r
      induction r with
      | nil => intro i _ j l hl; simp at hl
      | cons a r ih =>
        intro i h j l hl
        unfold chkR at h
        by_cases hb : bad i a = 0
        · rw [if_pos hb] at h
          cases j with
          | zero => simp at hl; subst hl; exact hb
          | succ j =>
            have := ih (i + 1) h j l (by simpa using hl)
            rwa [show i + 1 + j = i + (j + 1) by omega] at this
        · rw [if_neg hb] at h; exact absurd h hb
    have fine : ∀ (j : Nat) (l : List Int), gs[j]? = some l → (∀ p ∈ l, 1 ≤ p ∧ p ≤ (j : Int)) ∧ l.length ≤ 2 := by
      intro j l hj
      have hb := key gs 0 h j l hj
      rw [Nat.zero_add] at hb
      unfold bad at hb
      by_cases hc : (∃ p ∈ l, p < 1 ∨ (j : Int) < p) ∨ 2 < l.length
      · rw [if_pos hc] at hb; cases hb
      · rw [not_or] at hc
        refine ⟨fun p hp => ?_, by omega⟩
        exact ⟨Int.not_lt.1 fun h => hc.1 ⟨p, hp, .inl (by omega)⟩, Int.not_lt.1 fun h => hc.1 ⟨p, hp, .inr h⟩⟩
    refine ⟨by omega, fun i l hi p hp => (fine i l hi).1 p hp, fun l hl => ?_⟩
    obtain ⟨i, hi⟩ := List.getElem?_of_mem hl
    exact (fine i l hi).2

theorem bad_first {i : Nat} {l : List Int} {p : Int} (hp : p ∈ l) (h : p < 1 ∨ (i : Int) < p) : bad i l = 1 := by
  unfold bad; rw [if_pos (.inl ⟨p, hp, h⟩)]
theorem bad_long {i : Nat} {l : List Int} (h : 2 < l.length) : bad i l = 1 := by
  unfold bad; rw [if_pos (.inr h)]
theorem bad_rest {i : Nat} {l : List Int} (h1 : ∀ x ∈ l, 1 ≤ x ∧ x ≤ (i : Int)) (h2 : l.length ≤ 2) : bad i l = if l.length = 2 ∧ l[0]? = l[1]? then 6 else 0 := by
  unfold bad
  rw [if_neg]
  rintro (⟨p, hp, h⟩ | h)
  · have := h1 p hp; omega
  · omega

theorem take_all {l : List Int} {P : Int → Prop} {j : Nat} {x : Int} (h : ∀ y ∈ l.take j, P y) (hx : l[j]? = some x) (hp : P x) : ∀ y ∈ l.take (j + 1), P y := by
  intro y hy
  rw [List.take_add_one, hx] at hy
  simp only [Option.toList_some, List.mem_append, List.mem_singleton] at hy
  rcases hy with hy | rfl
  · exact h y hy
  · exact hp

set_option maxHeartbeats 2000000 in
theorem check_any (w : World) (v : Value) (gs : List (List Int)) (hG : Rows w v gs) :
    Calls Try.prog 8 #[v] w (Says w (chk gs)) := by
  obtain ⟨A, c, rfl⟩ := hG.form
  have hlen := hG.len
  have hl63 : gs.length ≤ 9223372036854775807 := by have h1 := hlen.2.1; have h2 := hlen.2.2; unfold maxLen at h2; omega
  have HG := Lib.hid hG
  clear hG hlen
  by_cases hbig : 1024 < gs.length
  · have HC : Hid (chk gs = 4) := Lib.hid (by unfold chk; rw [if_pos hbig])
    have hb1 : (1024 : Int) < (gs.length : Int) := by omega
    clear hbig
    go_enter Try.func8, Try.ntmps8
    go_wp2
    go_ret
    exact ⟨by rw [HC.out]; rfl, Below.refl _ _⟩
  · have HC : Hid (chk gs = chkR 0 gs) := Lib.hid (by unfold chk; rw [if_neg hbig])
    have hb1 : (gs.length : Int) ≤ 1024 := by omega
    clear hbig
    go_enter Try.func8, Try.ntmps8
    go_wp2_with fail
    go_loopw [12] (fun s12 wr => ∃ k n : Nat, k ≤ gs.length ∧ s12 = .int .i64 k ∧ Hid (chk gs = chkR k (gs.drop k)) ∧ wr = w.drewN n) (fun s12 _ => gs.length - (intOf s12).toNat)
    case atStart => exact ⟨0, 0, Nat.zero_le _, rfl, HC, rfl⟩
    case round =>
      clear HC
      obtain ⟨k, n, hk, rfl, HC, rfl⟩ := hrel
      have k0 : (0 : Int) ≤ (k : Int) := Int.natCast_nonneg _
      by_cases hlt : k < gs.length
      · have k1 : (k : Int) < (gs.length : Int) := by omega
        obtain ⟨l, hl⟩ : ∃ l, gs[k]? = some l := ⟨_, List.getElem?_eq_getElem hlt⟩
        have HK := Lib.hid (chkR_at hl)
        obtain ⟨ad, u, rfl, c1, hu⟩ := (HG.out.below (below_drewN (Below.refl _ w) n)).cell hl
        obtain ⟨B, d, rfl⟩ := hu.form
        have hll : l.length ≤ 9223372036854775807 := by have h1 := hu.len.2.1; have h2 := hu.len.2.2; unfold maxLen at h2; omega
        have HU := Lib.hid hu
        clear hl hu
        go_wp2_with fail
        go_loop [19] (fun s19 => ∃ j : Nat, j ≤ l.length ∧ s19 = .int .i64 j ∧ Hid (∀ x ∈ l.take j, 1 ≤ x ∧ x ≤ (k : Int))) (fun s19 => l.length - (intOf s19).toNat)
        case atStart => exact ⟨0, Nat.zero_le _, rfl, Lib.hid (by simp)⟩
        case round =>
          obtain ⟨j, hj, rfl, HT⟩ := hrel
          have j0 : (0 : Int) ≤ (j : Int) := Int.natCast_nonneg _
          by_cases hlj : j < l.length
          · have j1 : (j : Int) < (l.length : Int) := by omega
            obtain ⟨x, hx⟩ : ∃ x, l[j]? = some x := ⟨_, List.getElem?_eq_getElem hlj⟩
            obtain ⟨ab, rfl, c2⟩ := HU.out.cell hx
            have Hx := Lib.hid hx
            clear hx
            by_cases h1 : x < 1
            · have HB := Lib.hid (bad_first (i := k) (List.mem_of_getElem? Hx.out) (.inl h1))
              go_wp2
              go_ret
              exact ⟨by rw [HC.out, HK.out, HB.out]; rfl, below_drewN (Below.refl _ w) n⟩
            · have h1' : 1 ≤ x := by omega
              by_cases h2 : (k : Int) < x
              · have HB := Lib.hid (bad_first (i := k) (List.mem_of_getElem? Hx.out) (.inr h2))
                go_wp2
                go_ret
                exact ⟨by rw [HC.out, HK.out, HB.out]; rfl, below_drewN (Below.refl _ w) n⟩
              · have h2' : x ≤ (k : Int) := by omega
                go_wp2
                go_round
                case rel => exact ⟨j + 1, by omega, by go_num, Lib.hid (take_all HT.out Hx.out ⟨h1', h2'⟩)⟩
                case measure => simp [intOf]; omega
          · obtain rfl : j = l.length := by omega
            have HA : Hid (∀ x ∈ l, 1 ≤ x ∧ x ≤ (k : Int)) := Lib.hid (by have := HT.out; rwa [List.take_length] at this)
            clear HT
            by_cases h3 : 2 < l.length
            · have h3' : (2 : Int) < (l.length : Int) := by omega
              have HB := Lib.hid (bad_long (i := k) h3)
              clear h3
              go_wp2
              go_ret
              exact ⟨by rw [HC.out, HK.out, HB.out]; rfl, below_drewN (Below.refl _ w) n⟩
            · have h3' : (l.length : Int) ≤ 2 := by omega
              have HB := Lib.hid (bad_rest HA.out (show l.length ≤ 2 by omega))
              by_cases h4 : l.length = 2
              · have h4' : ((l.length : Int) == 2) = true := by rw [beq_iff_eq]; omega
                obtain ⟨x, hx⟩ : ∃ x, l[0]? = some x := ⟨_, List.getElem?_eq_getElem (by omega)⟩
                obtain ⟨y, hy⟩ : ∃ y, l[1]? = some y := ⟨_, List.getElem?_eq_getElem (by omega)⟩
                obtain ⟨ab, rfl, c2⟩ := HU.out.cell hx
                obtain ⟨ab', hab, c3⟩ := HU.out.cell hy
                obtain rfl := Option.some.inj hab
                have c4 : (w.drewN n).cell? ab = some (.int .i64 x) := by have := c2; unfold Addr.add at this; exact this
                have c5 : w.cell? ab = some (.int .i64 x) := c4
                have c6 : w.cell? ⟨ab.block, ab.off + 1, none⟩ = some (.int .i64 y) := by have := c3; unfold Addr.add at this; exact this
                clear c2 c3 c4
                have q0 : (0 : Int) < (l.length : Int) := by omega
                have q1 : (1 : Int) < (l.length : Int) := by omega
                have q2 : 0 < l.length := by omega
                have q3 : 1 < l.length := by omega
                by_cases hxy : x = y
                · have HB2 : Hid (bad k l = 6) := Lib.hid (by rw [HB.out, if_pos ⟨h4, by rw [hx, hy, hxy]⟩])
                  have e1 : (x == y) = true := by rw [beq_iff_eq]; exact hxy
                  clear hx hy hab h3 h4 HA HB hxy
                  go_wp2_with fail
                  go_quiet (fail)
                  go_wp2
                  go_ret
                  exact ⟨by rw [HC.out, HK.out, HB2.out]; rfl, below_drewN (below_drewN (Below.refl _ w) n) nq⟩
                · have HB2 : Hid (bad k l = 0) := Lib.hid (by rw [HB.out, if_neg (fun h => hxy (by have := h.2; rw [hx, hy] at this; injection this))])
                  have e1 : (x == y) = false := by rw [beq_eq_false_iff_ne]; exact hxy
                  clear hx hy hab h3 h4 HA HB hxy
                  go_wp2_with fail
                  go_quiet (fail)
                  go_wp2_with fail
                  go_roundw
                  case rel => exact ⟨k + 1, n + nq, by omega, by go_num, Lib.hid (by rw [HC.out, HK.out, HB2.out]; rfl), rfl⟩
                  case measure => simp [intOf]; omega
              · have h4' : ((l.length : Int) == 2) = false := by rw [beq_eq_false_iff_ne]; omega
                have HB2 : Hid (bad k l = 0) := Lib.hid (by rw [HB.out, if_neg (fun h => h4 h.1)])
                clear h3 h4 HA HB
                go_wp2_with fail
                go_quiet (fail)
                go_wp2_with fail
                go_roundw
                case rel => exact ⟨k + 1, n + nq, by omega, by go_num, Lib.hid (by rw [HC.out, HK.out, HB2.out]; rfl), rfl⟩
                case measure => simp [intOf]; omega
      · obtain rfl : k = gs.length := by omega
        have HE : Hid (chk gs = 0) := Lib.hid (by rw [HC.out, List.drop_length]; rfl)
        go_wp2
        go_ret
        exact ⟨by rw [HE.out]; rfl, below_drewN (Below.refl _ w) n⟩

end Go.Proofs.Ytgcgfflkhlehoaa
