/-
  The reference's Marks, rising, Ancestors, Is.
-/
import Derived.Test.YtanjcjnkppnhcaaDoorGrGEq
import Derived.Outline
namespace Go.Proofs.YtanjcjnkppnhcaaDoor.G
open Go.RowKit

/-- What stands while the marks are carried down: those at m and above have handed theirs on. -/
structure RI (gs : List (List Int)) (cs : List Int) (m : Nat) (S : List Bool) : Prop where
  len : S.length = gs.length
  sound : ∀ i : Nat, S[i]? = some true → Anc gs cs ((i : Int) + 1)
  base : ∀ c ∈ cs, 1 ≤ c → c ≤ gs.length → S[c.toNat - 1]? = some true
  done : ∀ (y : Nat) (l : List Int), m ≤ y → S[y]? = some true → gs[y]? = some l → ∀ p ∈ l, S[p.toNat - 1]? = some true

theorem set_true {S : List Bool} {i j : Nat} (hi : i < S.length) : (S.set i true)[j]? = some true ↔ j = i ∨ S[j]? = some true := by
  rw [List.getElem?_set]
  by_cases e : i = j
  · subst e; rw [if_pos rfl, if_pos hi]; simp
  · rw [if_neg e]
    constructor
    · exact .inr
    · rintro (h | h)
      · exact absurd h.symm e
      · exact h

/-- One parent of m is marked. -/
theorem RI.mark {gs : List (List Int)} {cs : List Int} {m : Nat} {S : List Bool} {l : List Int} {p : Int} (ok : Ok gs) (h : RI gs cs (m + 1) S) (hl : gs[m]? = some l) (hm : S[m]? = some true) (hp : p ∈ l) : RI gs cs (m + 1) (S.set (p.toNat - 1) true) := by
  have hml := (List.getElem?_eq_some_iff.1 hl).1
  obtain ⟨p1, p2⟩ := ok m l hl p hp
  have hlt : p.toNat - 1 < S.length := by rw [h.len]; omega
  have hpar : par gs ((m : Int) + 1) = l := by
    unfold par
    rw [List.getD_eq_getElem?_getD, show ((m : Int) + 1).toNat - 1 = m by omega, hl]
    rfl
  refine ⟨by simp [h.len], fun i hi => ?_, fun c hc a b => (set_true hlt).2 (.inr (h.base c hc a b)), fun y k hy hS hk q hq => ?_⟩
  · rcases (set_true hlt).1 hi with e | hi
    · have := Anc.step (h.sound m hm) (p := p) (by rw [hpar]; exact hp) p1 (by omega)
      rwa [show (i : Int) + 1 = p by omega]
    · exact h.sound i hi
  · rcases (set_true hlt).1 hS with e | hS
    · omega
    · exact (set_true hlt).2 (.inr (h.done y k hy hS hk q hq))
theorem RI.keep {gs : List (List Int)} {m j : Nat} {S : List Bool} {l : List Int} {p : Int} (ok : Ok gs) (hlen : S.length = gs.length) (hl : gs[m]? = some l) (hm : S[m]? = some true) (hp : l[j]? = some p) (ht : ∀ q ∈ l.take j, S[q.toNat - 1]? = some true) :
    (S.set (p.toNat - 1) true)[m]? = some true ∧ ∀ q ∈ l.take (j + 1), (S.set (p.toNat - 1) true)[q.toNat - 1]? = some true := by
  have hml := (List.getElem?_eq_some_iff.1 hl).1
  obtain ⟨p1, p2⟩ := ok m l hl p (List.mem_of_getElem? hp)
  have hlt : p.toNat - 1 < S.length := by omega
  exact ⟨(set_true hlt).2 (.inr hm), take_all (fun q hq => (set_true hlt).2 (.inr (ht q hq))) hp ((set_true hlt).2 (.inl rfl))⟩
theorem RI.next {gs : List (List Int)} {cs : List Int} {m : Nat} {S : List Bool} {l : List Int} (h : RI gs cs (m + 1) S) (hl : gs[m]? = some l) (ht : S[m]? = some true → ∀ q ∈ l, S[q.toNat - 1]? = some true) : RI gs cs m S :=
  ⟨h.len, h.sound, h.base, fun y k hy hS hk => by
    by_cases e : y = m
    · subst e
      rw [hl] at hk
      obtain rfl := Option.some.inj hk
      exact ht hS
    · exact h.done y k (by omega) hS hk⟩
theorem RI.all {gs : List (List Int)} {cs : List Int} {S : List Bool} (h : RI gs cs 0 S) : S = mkL gs.length (fun i => anc gs cs (i + 1)) := by
  have full : ∀ x : Int, Anc gs cs x → S[x.toNat - 1]? = some true := by
    intro x hx
    induction hx with
    | base h1 h2 h3 => exact h.base _ h1 h2 h3
    | @step y p hy h1 h2 h3 ih =>
      have hv := hy.vld
      obtain ⟨l, hl⟩ : ∃ l, gs[y.toNat - 1]? = some l := ⟨_, List.getElem?_eq_getElem (by omega)⟩
      refine h.done _ l (Nat.zero_le _) ih hl p ?_
      unfold par at h1
      rw [List.getD_eq_getElem?_getD, hl] at h1
      exact h1
  refine mkL_of h.len fun i hi => ?_
  have hlt : i < S.length := by rw [h.len]; exact hi
  cases ha : anc gs cs (i + 1) with
  | true =>
    have := full _ (anc_iff.1 ha)
    rwa [show (((i + 1 : Nat) : Int)).toNat - 1 = i by omega] at this
  | false =>
    rw [List.getElem?_eq_getElem hlt]
    cases hb : S[i] with
    | false => rfl
    | true =>
      have := h.sound i (by rw [List.getElem?_eq_getElem hlt, hb])
      rw [anc_iff.2 (by rwa [show ((i + 1 : Nat) : Int) = (i : Int) + 1 by omega])] at ha
      cases ha

/-- While the first ones are marked. -/
structure RB (gs : List (List Int)) (cs : List Int) (k : Nat) (S : List Bool) : Prop where
  len : S.length = gs.length
  sound : ∀ i : Nat, S[i]? = some true → Anc gs cs ((i : Int) + 1)
  base : ∀ c ∈ cs.take k, 1 ≤ c → c ≤ gs.length → S[c.toNat - 1]? = some true
theorem RB.zero (gs : List (List Int)) (cs : List Int) : RB gs cs 0 (List.replicate gs.length false) :=
  ⟨by simp, fun i h => by rw [List.getElem?_replicate] at h; split at h <;> simp at h, by simp⟩
theorem RB.yes {gs : List (List Int)} {cs : List Int} {k : Nat} {S : List Bool} {c : Int} (h : RB gs cs k S) (hc : cs[k]? = some c) (h1 : 1 ≤ c) (h2 : c ≤ gs.length) : RB gs cs (k + 1) (S.set (c.toNat - 1) true) := by
  have hlt : c.toNat - 1 < S.length := by rw [h.len]; omega
  refine ⟨by simp [h.len], fun i hi => ?_, take_all (P := fun c => 1 ≤ c → c ≤ gs.length → (S.set _ true)[c.toNat - 1]? = some true) (fun d hd a b => (set_true hlt).2 (.inr (h.base d hd a b))) hc (fun _ _ => (set_true hlt).2 (.inl rfl))⟩
  rcases (set_true hlt).1 hi with e | hi
  · rw [show (i : Int) + 1 = c by omega]
    exact .base (List.mem_of_getElem? hc) h1 h2
  · exact h.sound i hi
theorem RB.no {gs : List (List Int)} {cs : List Int} {k : Nat} {S : List Bool} {c : Int} (h : RB gs cs k S) (hc : cs[k]? = some c) (hn : ¬(1 ≤ c ∧ c ≤ gs.length)) : RB gs cs (k + 1) S :=
  ⟨h.len, h.sound, take_all (P := fun c => 1 ≤ c → c ≤ gs.length → S[c.toNat - 1]? = some true) h.base hc fun a b => absurd ⟨a, b⟩ hn⟩
theorem RB.ri {gs : List (List Int)} {cs : List Int} {S : List Bool} (h : RB gs cs cs.length S) : RI gs cs gs.length S :=
  ⟨h.len, h.sound, by have := h.base; rwa [List.take_length] at this, fun y l hy _ hl => by have := (List.getElem?_eq_some_iff.1 hl).1; omega⟩

def Marked (w : World) (gs : List (List Int)) (cs : List Int) (e : Ending) (w' : World) : Prop :=
  ∃ bs, e = .returned (sl bs gs.length) ∧ w'.ownsRow w.heap.size 4 1 (sl bs gs.length) gs.length (bv (mkL gs.length fun i => anc gs cs (i + 1))) ∧ Below w.heap.size w w'

theorem bset {w : World} {base g n k : Nat} {S : List Bool} (h : w.ownsRow base 4 1 (sl g n) n (bv S)) (b : Bool) :
    (w.setCell ⟨g, k, none⟩ (.bool b)).ownsRow base 4 1 (sl g n) n (bv (S.set k b)) := by
  have h1 := (h.stored k (.bool b)).1
  have hs : (bv S).set k (.bool b) = bv (S.set k b) := by unfold bv; rw [← List.map_set]
  rw [hs] at h1
  exact h1
theorem bat {w : World} {base g n k : Nat} {S : List Bool} {b : Bool} (h : w.ownsRow base 4 1 (sl g n) n (bv S)) (hb : S[k]? = some b) : w.cell? ⟨g, k, none⟩ = some (.bool b) := by
  have hl := (List.getElem?_eq_some_iff.1 hb).1
  have := h.1
  simp at this
  rw [h.cellAt k (by omega)]
  simp [hb]

set_option maxHeartbeats 4000000 in
theorem marks_any (w : World) (v u : Value) (gs : List (List Int)) (cs : List Int) (hG : Rows w v gs) (hC : Ints w u cs) (hN : gs.length ≤ 2000) (ok : Ok gs) :
    Calls Tryd.prog 23 #[v, u] w (Marked w gs cs) := by
  obtain ⟨i0, hi, hz0, hz1, hz2⟩ := info_parts boolInfo
  obtain ⟨A, c, rfl⟩ := hG.form
  obtain ⟨B, d, rfl⟩ := hC.form
  have m1 : cs.length ≤ 9223372036854775807 := by have h1 := hC.len.2.1; have h2 := hC.len.2.2; unfold maxLen at h2; omega
  have hmk : ∀ W : World, (Instr.makeSlice 62 (.int .i64 (gs.length : Int)) (.int .i64 (gs.length : Int))).run Tryd.prog W = .ok (sl W.heap.size gs.length) (W.alloc (.cells (madeCells #[Value.bool false] gs.length) 4)) := fun W => by
    have := run_make_rowN (P := Tryd.prog) 62 4 i0 (.bool false) Tryd.underlying62 hi hz0 .i64 .i64 gs.length gs.length (Nat.le_refl _) (by rw [hz2]; omega) (by omega) W
    simp only [hz1, Nat.mul_one] at this
    exact this
  have o0 := made_bools w w.heap.size gs.length (Nat.le_refl _) (by unfold maxLen; omega)
  have b0 := (Below.refl w.heap.size w).alloc (Nat.le_refl _) (.cells (madeCells (Value.bool false).cells gs.length) 4)
  have HG := Lib.hid hG
  have HC := Lib.hid hC
  have OK := Lib.hid ok
  obtain ⟨g, hg⟩ : ∃ g, g = w.heap.size := ⟨_, rfl⟩
  clear hG hC ok
  go_enter Tryd.func23, Tryd.ntmps23
  go_wp2_with fail
  rw [← hg] at o0 ⊢
  have Hg := Lib.hid hg
  clear hg hmk
  go_loopw [6] (fun s6 wr => ∃ (k : Nat) (S : List Bool), k ≤ cs.length ∧ s6 = .int .i64 k ∧ RB gs cs k S ∧ wr.ownsRow w.heap.size 4 1 (sl g gs.length) gs.length (bv S) ∧ Below w.heap.size w wr) (fun s6 _ => cs.length - (intOf s6).toNat)
  case atStart => exact ⟨0, _, Nat.zero_le _, rfl, RB.zero gs cs, by rw [← Hg.out]; exact o0, b0⟩
  case round =>
    clear o0 b0
    obtain ⟨k, S, hk, rfl, hS, ho, hb⟩ := hrel
    have k0 : (0 : Int) ≤ (k : Int) := Int.natCast_nonneg _
    by_cases hlt : k < cs.length
    · have k1 : (k : Int) < (cs.length : Int) := by omega
      obtain ⟨x, hx⟩ : ∃ x, cs[k]? = some x := ⟨_, List.getElem?_eq_getElem hlt⟩
      obtain ⟨ad, rfl, c1⟩ := (HC.out.below hb).cell hx
      by_cases h1 : 1 ≤ x
      · by_cases h2 : x ≤ (gs.length : Int)
        · have hn := hS.yes hx h1 h2
          obtain ⟨bo, hbo⟩ : ∃ b, S[x.toNat - 1]? = some b := ⟨_, List.getElem?_eq_getElem (by rw [hS.len]; omega)⟩
          have c2 := bat ho hbo
          have z2 := ho.frozenAt (x.toNat - 1)
          have x0 : (0 : Int) ≤ x - 1 := by omega
          have x1 : x - 1 < (gs.length : Int) := by omega
          have H1 := Lib.hid hn
          have H2 := Lib.hid (bset (k := x.toNat - 1) ho true)
          have H3 := Lib.hid (hb.setCell (p := ⟨g, x.toNat - 1, none⟩) (ho.lt g rfl).1 (.bool true))
          clear hx hS hn hbo ho hb
          go_wp2
          go_roundw
          case rel => exact ⟨k + 1, _, by omega, by go_num, H1.out, H2.out, H3.out⟩
          case measure => simp [intOf]; omega
        · have h2' : decide (x ≤ (gs.length : Int)) = false := by simpa using h2
          have H1 := Lib.hid (hS.no hx (fun h => h2 h.2))
          clear hx hS
          go_wp2
          go_roundw
          case rel => exact ⟨k + 1, S, by omega, by go_num, H1.out, ho, hb⟩
          case measure => simp [intOf]; omega
      · have h1' : decide (1 ≤ x) = false := by simpa using h1
        have H1 := Lib.hid (hS.no hx (fun h => h1 h.1))
        clear hx hS
        go_wp2
        go_roundw
        case rel => exact ⟨k + 1, S, by omega, by go_num, H1.out, ho, hb⟩
        case measure => simp [intOf]; omega
    · obtain rfl : k = cs.length := by omega
      have hR := hS.ri
      clear hS
      obtain ⟨wz, hwz⟩ : ∃ wz : World, wz = wr := ⟨_, rfl⟩
      rw [← hwz] at hb ho ⊢
      clear hwz
      go_wp2_with fail
      go_loopw [7] (fun s7 wr => ∃ (m : Nat) (z : Int) (S : List Bool), m ≤ gs.length ∧ s7 = .int .i64 z ∧ Hid (z = (m : Int) - 1) ∧ RI gs cs m S ∧ wr.ownsRow w.heap.size 4 1 (sl g gs.length) gs.length (bv S) ∧ Below w.heap.size w wr) (fun s7 _ => (intOf s7 + 1).toNat)
      case atStart => exact ⟨gs.length, _, S, Nat.le_refl _, rfl, Lib.hid rfl, hR, ho, hb⟩
      case round =>
        clear hR ho hb
        obtain ⟨m, z, S, hm, rfl, hz, hR, ho, hb⟩ := hrel
        by_cases hm0 : m = 0
        · subst hm0
          obtain rfl : z = -1 := by have := hz.out; omega
          have HE := Lib.hid hR.all
          have HO := Lib.hid ho
          clear hR ho
          go_wp2
          go_ret
          have := HO.out
          rw [HE.out] at this
          exact ⟨g, rfl, this, hb⟩
        · obtain ⟨p, rfl⟩ : ∃ p, m = p + 1 := ⟨m - 1, by omega⟩
          obtain rfl : z = (p : Int) := by have := hz.out; omega
          have p0 : (0 : Int) ≤ (p : Int) := Int.natCast_nonneg _
          have p1 : (p : Int) < (gs.length : Int) := by omega
          obtain ⟨l, hl⟩ : ∃ l, gs[p]? = some l := ⟨_, List.getElem?_eq_getElem (by omega)⟩
          obtain ⟨ad, rl, rfl, c1, hu⟩ := HG.out.cell hl
          obtain ⟨E, de, rfl⟩ := hu.form
          have m2 : l.length ≤ 9223372036854775807 := by have h1 := hu.len.2.1; have h2 := hu.len.2.2; unfold maxLen at h2; omega
          obtain ⟨bm, hbm⟩ : ∃ b, S[p]? = some b := ⟨_, List.getElem?_eq_getElem (by rw [hR.len]; omega)⟩
          have HL := Lib.hid hl
          have HU := Lib.hid hu
          have C1 := Lib.hid c1
          clear hl hu c1
          cases bm with
          | false =>
            have hnx := hR.next HL.out (fun h => by rw [hbm] at h; cases h)
            have c2 := bat ho hbm
            have c3 := (hb.cell (World.block_lt_of_cell? w _ C1.out)).trans C1.out
            have HN := Lib.hid hnx
            clear hnx hR hbm
            go_wp2_with fail
            go_loop [8] (fun s8 => s8 = .int .i64 0) (fun _ => 0)
            case atStart => rfl
            case round =>
              subst hrel
              by_cases hl0 : l.length = 0
              · obtain rfl : l = [] := List.eq_nil_of_length_eq_zero hl0
                clear hl0
                go_wp2_with fail
                go_roundw
                case rel => exact ⟨p, _, S, by omega, rfl, Lib.hid rfl, HN.out, ho, hb⟩
                case measure => first | (simp [intOf]; done) | (simp [intOf]; omega)
              · have e0 : (0 : Int) < (l.length : Int) := by omega
                have e1 : 0 < l.length := by omega
                clear hl0
                go_wp2_with fail
                go_roundw
                case rel => exact ⟨p, _, S, by omega, rfl, Lib.hid rfl, HN.out, ho, hb⟩
                case measure => first | (simp [intOf]; done) | (simp [intOf]; omega)
          | true =>
            obtain ⟨wy, hwy⟩ : ∃ wy : World, wy = wr := ⟨_, rfl⟩
            rw [← hwy] at hb ho ⊢
            clear hwy
            go_wp2_with fail
            go_loopw [8] (fun s8 wr => ∃ (j : Nat) (S : List Bool), j ≤ l.length ∧ s8 = .int .i64 j ∧ RI gs cs (p + 1) S ∧ Hid (S[p]? = some true) ∧ Hid (∀ q ∈ l.take j, S[q.toNat - 1]? = some true) ∧ wr.ownsRow w.heap.size 4 1 (sl g gs.length) gs.length (bv S) ∧ Below w.heap.size w wr) (fun s8 _ => l.length - (intOf s8).toNat)
            case atStart => exact ⟨0, S, Nat.zero_le _, rfl, hR, Lib.hid hbm, Lib.hid (by simp), ho, hb⟩
            case round =>
              clear hR ho hb hbm
              obtain ⟨j, S, hj, rfl, hR, hS, hT, ho, hb⟩ := hrel
              have j0 : (0 : Int) ≤ (j : Int) := Int.natCast_nonneg _
              have c2 := bat ho hS.out
              have c3 := (hb.cell (World.block_lt_of_cell? w _ C1.out)).trans C1.out
              by_cases hlj : j < l.length
              · have j1 : (j : Int) < (l.length : Int) := by omega
                obtain ⟨x, hx⟩ : ∃ x, l[j]? = some x := ⟨_, List.getElem?_eq_getElem hlj⟩
                obtain ⟨x1, x2⟩ := OK.out p l HL.out x (List.mem_of_getElem? hx)
                obtain ⟨ae, rfl, c4⟩ := (HU.out.below hb).cell hx
                obtain ⟨bo, hbo⟩ : ∃ b, S[x.toNat - 1]? = some b := ⟨_, List.getElem?_eq_getElem (by rw [hR.len]; omega)⟩
                have c5 := bat ho hbo
                have z5 := ho.frozenAt (x.toNat - 1)
                have x3 : (0 : Int) ≤ x - 1 := by omega
                have x4 : x - 1 < (gs.length : Int) := by omega
                have H1 := Lib.hid (hR.mark OK.out HL.out hS.out (List.mem_of_getElem? hx))
                have H2 := Lib.hid (RI.keep OK.out hR.len HL.out hS.out hx hT.out)
                have H3 := Lib.hid (bset (k := x.toNat - 1) ho true)
                have H4 := Lib.hid (hb.setCell (p := ⟨g, x.toNat - 1, none⟩) (ho.lt g rfl).1 (.bool true))
                clear hx hR hbo ho hb
                go_wp2
                go_roundw
                case rel => exact ⟨j + 1, _, by omega, by go_num, H1.out, Lib.hid H2.out.1, Lib.hid H2.out.2, H3.out, H4.out⟩
                case measure => simp [intOf]; omega
              · obtain rfl : j = l.length := by omega
                have HN := Lib.hid (hR.next HL.out (fun _ => by have := hT.out; rwa [List.take_length] at this))
                clear hR
                go_wp2_with fail
                go_roundw
                case rel => exact ⟨p, _, S, by omega, rfl, Lib.hid rfl, HN.out, ho, hb⟩
                case measure => first | (simp [intOf]; done) | (simp [intOf]; omega)

end Go.Proofs.YtanjcjnkppnhcaaDoor.G
