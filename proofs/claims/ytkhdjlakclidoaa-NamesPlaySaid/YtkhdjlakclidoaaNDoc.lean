/-
  The document's table of names in memory: a name's place; Head.
-/
import Derived.Test.YtkhdjlakclidoaaNRefGood
import Derived.Test.YtkhdjlakclidoaaNDo2
import Derived.BigQuiet
import Derived.Deep.QuietTactic
namespace Go.Proofs.Ytkhdjlakclidoaa
open Go Go.RowKit

/-- The document's table: block T holds its three cells; its row is its own, rising. -/
structure Doc (w : World) (B T : Nat) (v : Value) (l : List Rf) (br : ByteArray) (d : Int) : Prop where
  blk : Blk w T 29 #[v, .string br, .int .i64 d]
  own : Own w B v l
  lo : B ≤ T
  few : l.length ≤ 64
  up : Rising l
section
variable {w w' : World} {B T : Nat} {v : Value} {l : List Rf} {br : ByteArray} {d : Int}
theorem Doc.ne (h : Doc w B T v l br d) : v.ownBlock ≠ some T := own_blk_ne h.own h.blk (by decide)
theorem Doc.below (h : Doc w B T v l br d) (hb : Below w.heap.size w w') : Doc w' B T v l br d :=
  ⟨h.blk.below hb h.blk.lt, own_keep h.own hb, h.lo, h.few, h.up⟩
theorem Doc.alloc (h : Doc w B T v l br d) (o : Obj) : Doc (w.alloc o) B T v l br d := h.below ((Below.refl _ _).alloc (Nat.le_refl _) _)
theorem Doc.cells (h : Doc w B T v l br d) :
    w.cell? ⟨T, 0, none⟩ = some v ∧ w.cell? ⟨T, 1, none⟩ = some (.string br) ∧ w.cell? ⟨T, 2, none⟩ = some (.int .i64 d) ∧ w.frozen? ⟨T, 0, none⟩ = false ∧ w.frozen? ⟨T, 1, none⟩ = false ∧ w.frozen? ⟨T, 2, none⟩ = false :=
  ⟨h.blk.cell 0, h.blk.cell 1, h.blk.cell 2, h.blk.frozen 0, h.blk.frozen 1, h.blk.frozen 2⟩
end

/-- A name's place; -1: none. -/
def gix (l : List Rf) (s : ByteArray) : Int := if hasB l s then (pos l s : Nat) else -1
theorem has_of {l : List Rf} {s : ByteArray} {k : Nat} {c : Int} (hr : Rising l) (h : l[k]? = some (s, c)) : hasB l s = true ∧ pos l s = k := by
  have hp : pos l s = k := by
    refine pos_of (Nat.le_of_lt (List.getElem?_eq_some_iff.1 h).1) (fun t x ht hx => hr t k x (s, c) ht hx h) fun t x ht hx => ?_
    rcases Nat.eq_or_lt_of_le ht with e | e
    · subst e
      rw [h] at hx
      have := Option.some.inj hx
      subst this
      rw [cb_self]; exact Int.le_refl _
    · have h3 : cb s x.1 < 0 := hr k t (s, c) x e h hx
      rw [cb_swap s x.1]
      omega
  refine ⟨?_, hp⟩
  unfold hasB
  rw [hp, h]
  simp [cb_self]
theorem gix_at {l : List Rf} {s : ByteArray} {k : Nat} {c : Int} (hr : Rising l) (h : l[k]? = some (s, c)) : gix l s = (k : Int) := by
  obtain ⟨h1, h2⟩ := has_of hr h
  unfold gix
  rw [h1, if_pos rfl, h2]
theorem hasnt_of {l : List Rf} {s : ByteArray} (h : ∀ (j : Nat) (x : Rf), l[j]? = some x → x.1 ≠ s) : hasB l s = false := by
  rw [Bool.eq_false_iff]
  intro hh
  obtain ⟨c, hc⟩ := has_at hh
  exact h _ _ hc rfl
theorem gix_none {l : List Rf} {s : ByteArray} (h : hasB l s = false) : gix l s = -1 := by unfold gix; rw [h]; rfl

set_option maxHeartbeats 2000000 in
theorem dget_any (w : World) (B T : Nat) (v : Value) (l : List Rf) (br s : ByteArray) (d : Int) (h : Doc w B T v l br d) :
    Calls Try.prog 21 #[.pointer (some ⟨T, 0, none⟩), .string s] w fun e w' => e = .returned (.int .i64 (gix l s)) ∧ w = w' := by
  obtain ⟨A, cap, rfl⟩ := own_form h.own
  have HO := Lib.hid h.own
  have HU := Lib.hid h.up
  have hfew := h.few
  obtain ⟨c0, _, _, f0, _, _⟩ := h.cells
  clear h
  go_enter Try.func21, Try.ntmps21
  go_wp2_with fail
  go_loopw [5] (fun i wr => ∃ k : Nat, i = .int .i64 k ∧ k ≤ l.length ∧ SameW wr w ∧ Hid (∀ (j : Nat) (x : Rf), j < k → l[j]? = some x → x.1 ≠ s)) (fun i _ => l.length - (intOf i).toNat)
  case atStart => exact ⟨0, rfl, Nat.zero_le _, rfl, Lib.hid fun j _ hj => absurd hj (Nat.not_lt_zero _)⟩
  case round =>
    obtain ⟨k, rfl, hk, hw, hall⟩ := hrel
    unfold SameW at hw
    subst hw
    by_cases hlt : k < l.length
    · obtain ⟨⟨n, c⟩, hx⟩ : ∃ r, l[k]? = some r := ⟨_, List.getElem?_eq_getElem hlt⟩
      obtain ⟨g, cap', hv, x0, x1, g0, g1, hn, hmx, hg⟩ := Own.at_ HO.out hx
      have hv := Lib.hid hv
      obtain ⟨rfl, rfl⟩ : A = some ⟨g, 0, none⟩ ∧ cap = cap' := by have := hv.out; injection this with a b c; exact ⟨a, c⟩
      have HX := Lib.hid hx
      clear hx hv
      have k0 : (0 : Int) ≤ (k : Int) := Int.natCast_nonneg _
      have k1 : (k : Int) < (l.length : Int) := by omega
      by_cases hs : n = s
      · subst hs
        have HG := Lib.hid (gix_at HU.out HX.out)
        clear hall
        go_wp2
        go_ret
        exact ⟨ret_i (by rw [HG.out]), rfl⟩
      · have q : (n.toList == s.toList) = false := by rw [beq_eq_false_iff_ne]; exact fun e => hs (bytes_eq e)
        have q2 : ¬ n.toList = s.toList := fun e => hs (bytes_eq e)
        have HA : Hid (∀ (j : Nat) (x : Rf), j < k + 1 → l[j]? = some x → x.1 ≠ s) := Lib.hid fun j x hj hx => by
          by_cases e : j = k
          · subst e
            have := Option.some.inj (HX.out.symm.trans hx)
            rw [← this]; exact hs
          · exact hall.out j x (by omega) hx
        clear hall hs
        go_wp2
        go_roundw
        case rel => exact ⟨k + 1, by go_num, hlt, rfl, HA⟩
        case measure => simp [intOf]; omega
    · have HG := Lib.hid (gix_none (hasnt_of fun j x hx => hall.out j x (by have := (List.getElem?_eq_some_iff.1 hx).1; omega) hx))
      clear hall
      go_wp2
      go_ret
      exact ⟨ret_i (by rw [HG.out]), rfl⟩
#print axioms dget_any

set_option maxHeartbeats 2000000 in
theorem dhead_any (w : World) (B T : Nat) (v : Value) (l : List Rf) (br : ByteArray) (d : Int) (h : Doc w B T v l br d) :
    Calls Try.prog 18 #[.pointer (some ⟨T, 0, none⟩)] w (Headed l br d w) := by
  have hA := h.alloc (.cells #[.string ⟨#[]⟩, .int .i64 0] 39)
  have HA := Lib.hid hA
  have hn := Blk.new w 39 #[.string ⟨#[]⟩, .int .i64 0]
  have HN := Lib.hid hn
  obtain ⟨A, cap, rfl⟩ := own_form h.own
  have hfew := h.few
  have hup := Lib.hid h.up
  obtain ⟨c0, c1, c2, f0, f1, f2⟩ := hA.cells
  have hT : T ≠ w.heap.size := by have := h.blk.lt; omega
  clear h hA hn
  by_cases h0 : br.size = 0
  · have HC : Hid (headC l br d = d) := by show headC l br d = _; unfold headC; rw [if_pos h0]
    obtain rfl := size_zero h0
    clear h0
    go_enter Try.func18, Try.ntmps18
    go_wp2_with fail
    refine bodyPost_ret (v := .agg #[.string ⟨#[]⟩, .int .i64 d]) (by simp [results, Try.results18, go_sem]) rfl ⟨by rw [HC.out], ?_⟩
    exact (Below.refl _ _).alloc (Nat.le_refl _) _
  · have HC : Hid (headC l br d = getC l br) := by show headC l br d = _; unfold headC; rw [if_neg h0]
    have q1 := toList_ne h0
    have q2 : br.toList.isEmpty = false := by rw [List.isEmpty_eq_false_iff]; exact q1
    have G := Lib.hid (dget_any _ B T _ l br br d HA.out)
    cases hh : hasB l br with
    | false =>
      rw [gix_none hh] at G
      have HG : Hid (getC l br = 0) := by show getC l br = 0; unfold getC; rw [hh]; rfl
      clear hh h0
      go_enter Try.func18, Try.ntmps18
      go_wp2_with fail
      refine G.out.mono ?_
      rintro e w1 ⟨rfl, rfl⟩
      go_wp2_with fail
      refine bodyPost_ret (v := .agg #[.string br, .int .i64 0]) (by simp [results, Try.results18, go_sem]) rfl ⟨by rw [HC.out, HG.out], ?_⟩
      exact (Below.refl _ _).alloc (Nat.le_refl _) _
    | true =>
      obtain ⟨c, hc⟩ := has_at hh
      have HG : Hid (getC l br = c) := by show getC l br = c; unfold getC; rw [hh, hc]; rfl
      rw [gix_at hup.out hc] at G
      have hlt := has_lt hh
      obtain ⟨g, cap', hv, x0, x1, g0, g1, hn, hmx, hg⟩ := Own.at_ HA.out.own hc
      have hv := Lib.hid hv
      obtain ⟨rfl, rfl⟩ : A = some ⟨g, 0, none⟩ ∧ cap = cap' := by have := hv.out; injection this with a b c; exact ⟨a, c⟩
      generalize pos l br = k at *
      have k0 : (0 : Int) ≤ (k : Int) := Int.natCast_nonneg _
      have k1 : (k : Int) < (l.length : Int) := by omega
      clear hv hh hc h0
      go_enter Try.func18, Try.ntmps18
      go_wp2_with fail
      refine G.out.mono ?_
      rintro e w1 ⟨rfl, rfl⟩
      go_wp2_with fail
      go_region
      all_goals go_wp2_with fail
      all_goals
        have n2 : Blk (w.alloc (.cells #[.string br, .int .i64 c] 39)).drew w.heap.size 39 #[.string br, .int .i64 c] := Blk.drewN (Blk.new w 39 #[.string br, .int .i64 c]) 1
        refine bodyPost_ret (results_cell_row rfl _ _ w.heap.size 39 #[.string br, .int .i64 c] (0, 0) _ rfl n2 Try.underlying39 rfl rfl) rfl ⟨by rw [HC.out, HG.out], ?_⟩
        exact ((Below.refl w.heap.size w).alloc (Nat.le_refl _) _).drew
#print axioms dhead_any
end Go.Proofs.Ytkhdjlakclidoaa
