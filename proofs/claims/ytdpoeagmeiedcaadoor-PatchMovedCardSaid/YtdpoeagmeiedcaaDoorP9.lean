/-
  patch.rows: where hunks begin and end.
-/
import Derived.Test.YtdpoeagmeiedcaaDoorP8
namespace Go.Proofs.YtdpoeagmeiedcaaDoor
open Go Go.RowKit

theorem rowInfo : (Tryd.prog.info? 108).map (fun i => (i.zero, i.size, i.bytes)) = some (some (.agg #[.int .i64 0, .int .i64 0]), 2, 16) := by kernel_rfl
abbrev HRw := Nat × Nat
def cRw (r : HRw) : List Value := [.int .i64 (r.1 : Int), .int .i64 (r.2 : Int)]
theorem cRw_len (r : HRw) : (cRw r).length = 2 := rfl
/-- A row more, or the last one's end. -/
def addR (out : List HRw) (b e : Nat) : List HRw := match out.getLast? with
  | some p => if b ≤ p.2 then out.dropLast ++ [(p.1, e)] else out ++ [(b, e)]
  | none => [(b, e)]
theorem addR_nil (b e : Nat) : addR [] b e = [(b, e)] := rfl
theorem addR_snoc (pre : List HRw) (p q b e : Nat) : addR (pre ++ [(p, q)]) b e = if b ≤ q then pre ++ [(p, e)] else pre ++ [(p, q)] ++ [(b, e)] := by
  unfold addR
  rw [List.getLast?_append]
  simp
theorem addR_le (out : List HRw) (b e : Nat) : (addR out b e).length ≤ out.length + 1 := by
  unfold addR
  split
  · split
    · rw [List.length_append, List.length_dropLast, List.length_singleton]; omega
    · rw [List.length_append, List.length_singleton]; omega
  · simp
/-- The rows of what is changed, with a lines around. -/
def rowsF (a n : Nat) : List HRw → Nat → List EdI → List HRw
  | out, _, [] => out
  | out, i, e :: l => rowsF a n (if e.1 = 1 then out else addR out (i - a) (min (i + 1 + a) n)) (i + 1) l
theorem flat_set_last (pre : List HRw) (p q e : Nat) : ((pre ++ [(p, q)]).flatMap cRw).set (pre.length * 2 + 1) (.int .i64 (e : Int)) = (pre ++ [(p, e)]).flatMap cRw := by
  rw [flat_snocP, flat_snocP, List.set_append]
  have h := flat_len cRw_len pre
  rw [if_neg (by omega), h, show pre.length * 2 + 1 - pre.length * 2 = 1 by omega]
  rfl
theorem flat_last (pre : List HRw) (p q : Nat) : ((pre ++ [(p, q)]).flatMap cRw)[pre.length * 2 + 1]? = some (.int .i64 (q : Int)) := by
  rw [flat_snocP]
  have h := flat_len cRw_len pre
  rw [List.getElem?_append_right (by omega), h, show pre.length * 2 + 1 - pre.length * 2 = 1 by omega]
  rfl

set_option maxRecDepth 100000 in
set_option maxHeartbeats 8000000 in
theorem rows_any (w : World) (v : Value) (l : List EdI) (a : Nat) (h : Reads 2 cEd w v l) (hl : l.length ≤ 1000) (ha : a ≤ 16) :
    Calls Tryd.prog 46 #[v, .int .i64 (a : Int)] w (OwnTo 108 2 cRw (rowsF a l.length [] 0 l) w) := by
  obtain ⟨A, c, rfl⟩ := h.form
  have hnm : c ≤ 9223372036854775807 := by have := h.len.2.2; unfold maxLen at this; omega
  have HO := Lib.hid h
  obtain ⟨i0, hi, hz0, hz1, hz2⟩ := info_parts rowInfo
  obtain ⟨R, hR⟩ : ∃ R, R = rowsF a l.length [] 0 l := ⟨_, rfl⟩
  rw [← hR]
  have HR := Lib.hid hR
  have a0 : (0 : Int) ≤ (a : Int) := Int.natCast_nonneg _
  have a1 : (a : Int) ≤ 16 := by omega
  clear h hR
  go_enter Tryd.func46, Tryd.ntmps46
  go_wp2_with fail
  go_loopw [5, 12] (fun s5 s12 wr => ∃ (k : Nat) (out : List HRw), k ≤ l.length ∧ s12 = .int .i64 k ∧ Hid (wr.ownsRow w.heap.size 108 2 s5 out.length (out.flatMap cRw)) ∧ Hid (rowsF a l.length out k (l.drop k) = R) ∧ Hid (out.length ≤ k) ∧ Hid (Below w.heap.size w wr)) (fun _ s12 _ => l.length - (intOf s12).toNat)
  case atStart => exact ⟨0, [], Nat.zero_le _, rfl, Lib.hid (World.ownsRow_nil _ _ _ _), Lib.hid HR.out.symm, Lib.hid (Nat.zero_le _), Lib.hid (Below.refl _ _)⟩
  case round =>
    obtain ⟨k, out, hk, rfl, hown, hap, hol, hb⟩ := hrel
    have k0 : (0 : Int) ≤ (k : Int) := Int.natCast_nonneg _
    by_cases hlt : k < l.length
    · have k1 : (k : Int) < (l.length : Int) := by omega
      obtain ⟨x, hx⟩ : ∃ x, l[k]? = some x := ⟨_, List.getElem?_eq_getElem hlt⟩
      obtain ⟨ad, rfl, c0, c1⟩ := Eds.at_ (HO.out.below hb.out) hx
      have HAP := Lib.hid (show rowsF a l.length (if x.1 = 1 then out else addR out (k - a) (min (k + 1 + a) l.length)) (k + 1) (l.drop (k + 1)) = R by
        have := hap.out
        rw [drop_consP hx] at this
        exact this)
      obtain ⟨o, s⟩ := x
      have hbE := Lib.hid (hb.out.alloc hb.out.size (.cells #[.int .i64 o, .string s] 66))
      have hownE := Lib.hid (hown.out.alloc (.cells #[.int .i64 o, .string s] 66))
      clear hx hap
      by_cases ho : o = 1
      · subst ho
        go_wp2
        go_roundw
        case rel => exact ⟨k + 1, out, by omega, by go_num, hownE, by have := HAP.out; rw [if_pos rfl] at this; exact Lib.hid this, Lib.hid (by have := hol.out; omega), hbE⟩
        case measure => simp [intOf]; omega
      · have m1 : (o == 1) = false := by simpa using ho
        have HAP2 := Lib.hid (by have := HAP.out; rw [if_neg ho] at this; exact this)
        clear HAP ho
        go_upto_region 7 with fail
        first
          | rw [show (if (k : Int) - (a : Int) < 0 then 0 else (k : Int) - (a : Int)) = ((k - a : Nat) : Int) by split <;> omega, show (if (l.length : Int) < (k : Int) + 1 + (a : Int) then (l.length : Int) else (k : Int) + 1 + (a : Int)) = ((min (k + 1 + a) l.length : Nat) : Int) by split <;> omega]
          | rw [show max ((k : Int) - (a : Int)) 0 = ((k - a : Nat) : Int) by omega, show min ((k : Int) + 1 + (a : Int)) (l.length : Int) = ((min (k + 1 + a) l.length : Nat) : Int) by omega]
        obtain ⟨b, hbb⟩ : ∃ b, b = k - a := ⟨_, rfl⟩
        obtain ⟨e, hee⟩ : ∃ e, e = min (k + 1 + a) l.length := ⟨_, rfl⟩
        rw [← hbb, ← hee]
        rw [← hbb, ← hee] at HAP2
        have b9 : (b : Int) ≤ 1000 := by omega
        have e9 : (e : Int) ≤ 1000 := by omega
        clear hbb hee
        have bb0 : (0 : Int) ≤ (b : Int) := Int.natCast_nonneg _
        have ee0 : (0 : Int) ≤ (e : Int) := Int.natCast_nonneg _
        have KR : Blk ((wr.alloc (.cells #[.int .i64 o, .string s] 66)).alloc (.cells #[.int .i64 (b : Int), .int .i64 (e : Int)] 108)) (wr.heap.size + 1) 108 #[.int .i64 (b : Int), .int .i64 (e : Int)] := by
          have := Blk.new (wr.alloc (.cells #[.int .i64 o, .string s] 66)) 108 #[.int .i64 (b : Int), .int .i64 (e : Int)]
          rwa [show (wr.alloc (.cells #[.int .i64 o, .string s] 66)).heap.size = wr.heap.size + 1 by simp] at this
        have hown2 := hownE.out.alloc (.cells #[.int .i64 (b : Int), .int .i64 (e : Int)] 108)
        have hb2 := hbE.out.alloc hbE.out.size (.cells #[.int .i64 (b : Int), .int .i64 (e : Int)] 108)
        have hap0 : ∀ g, u5.ownBlock = some g → g ≠ wr.heap.size + 1 := fun g hg => by have := (hown.out.lt g hg).2; omega
        generalize (wr.alloc (.cells #[.int .i64 o, .string s] 66)).alloc (.cells #[.int .i64 (b : Int), .int .i64 (e : Int)] 108) = W2 at *
        generalize wr.heap.size + 1 = X at *
        generalize wr.heap.size = E at *
        have r0 := KR.cell 0
        have r1 := KR.cell 1
        have HO2 := Lib.hid hown2
        have HB2 := Lib.hid hb2
        have HKR := Lib.hid KR
        have HAP0 := Lib.hid hap0
        clear KR hown2 hb2 hap0 hownE hbE hown hb
        rcases List.eq_nil_or_concat out with rfl | ⟨pre, ⟨p, q⟩, rfl⟩
        · have HO3 : Hid (W2.ownsRow w.heap.size 108 2 u5 0 []) := Lib.hid HO2.out
          have HAP3 : Hid (rowsF a l.length [(b, e)] (k + 1) (l.drop (k + 1)) = R) := Lib.hid HAP2.out
          obtain ⟨A0, c0', rfl⟩ := own_formP HO3.out
          clear HO2 HAP2
          go_wp2_with fail
          go_quiet (fail)
          generalize hW3 : W2.drewN _ = W3
          have HO4 : Hid (W3.ownsRow w.heap.size 108 2 (.slice A0 0 c0') 0 []) := Lib.hid (by rw [← hW3]; exact HO3.out)
          have HK4 : Blk W3 X 108 #[.int .i64 (b : Int), .int .i64 (e : Int)] := by rw [← hW3]; exact HKR.out
          have HB4 : Below w.heap.size w W3 := by rw [← hW3]; exact below_drewN HB2.out _
          clear hW3 r0 r1
          have r0 := HK4.cell 0
          have r1 := HK4.cell 1
          have hown4 := HO4.out.alloc (.cells #[.int .i64 (b : Int), .int .i64 (e : Int)] 108)
          have hnews := World.news_of_block (cs := #[.int .i64 (b : Int), .int .i64 (e : Int)]) (t := 108) (fr := (0, 0)) (heap_alloc_new W3 (.cells #[.int .i64 (b : Int), .int .i64 (e : Int)] 108))
          have hb4 := HB4.alloc HB4.size (.cells #[.int .i64 (b : Int), .int .i64 (e : Int)] 108)
          have hsz4 := hb4.size
          go_wp2_with (at_builtin; refine wpList_append_own _ rfl _ _ 105 rfl w.heap.size 108 i0 (.agg #[.int .i64 0, .int .i64 0]) 2 16 Tryd.underlying105 hi hz0 hz1 hz2 rfl (by decide) _ _ _ rfl hown4 ⟨W3.heap.size, 0, none⟩ 1 1 [.int .i64 (b : Int), .int .i64 (e : Int)] rfl rfl hnews (by simp [Value.oneCell']) (by unfold maxLen; omega) (by omega) hsz4 ?_; intro v5 w5 hown5 hg5 _)
          have hb5 : Below w.heap.size w w5 := hb4.grown hg5 hsz4 (fun z hz => (HO4.out.lt z hz).1)
          clear hnews hown4 hg5 hb4
          go_roundw
          case rel => exact ⟨k + 1, [(b, e)], by omega, by go_num, Lib.hid (by simpa [cRw] using hown5), HAP3, Lib.hid (by simp), Lib.hid hb5⟩
          case measure => simp [intOf]; omega
        · have hlen : (pre ++ [(p, q)]).length = pre.length + 1 := by simp
          have hol2 := hol.out
          have hown3 := HO2.out
          rw [List.concat_eq_append] at hown3 hol2 HAP2
          rw [hlen] at hown3 hol2
          obtain ⟨gg, cap, rfl⟩ : ∃ gg cap, u5 = .slice (some ⟨gg, 0, none⟩) (pre.length + 1) cap := by
            rcases hown3.2 with ⟨_, e2⟩ | ⟨gg, cap, cur, e, _⟩
            · omega
            · exact ⟨_, _, e⟩
          have hgX : gg ≠ X := HAP0.out gg rfl
          have hXg : X ≠ gg := Ne.symm hgX
          have hgb := (hown3.lt gg rfl).1
          have hcl := hown3.cellAt (pre.length * 2 + 1) (by omega)
          rw [flat_last] at hcl
          have hfz := hown3.frozenAt (pre.length * 2 + 1)
          have hst := hown3.stored (pre.length * 2 + 1) (.int .i64 (e : Int))
          rw [flat_set_last] at hst
          have HST := Lib.hid hst.1
          have HO3 := Lib.hid hown3
          have HL := Lib.hid hlen
          have HA2 := Lib.hid (addR_snoc pre p q b e)
          have HBS := Lib.hid (HB2.out.setCell (p := ⟨gg, pre.length * 2 + 1, none⟩) hgb (.int .i64 (e : Int)))
          have HLE := Lib.hid hol2
          have n9 : (pre.length : Int) ≤ 1000 := by omega
          have n0 : (0 : Int) ≤ (pre.length : Int) := Int.natCast_nonneg _
          clear hst hlen hol2 HO2 hgb hown3 hol
          have HPN := Lib.hid (show (0 : Nat) ≤ pre.length from Nat.zero_le _)
          by_cases hbq : b ≤ q
          · have hbqi : (b : Int) ≤ (q : Int) := by omega
            have HAP3 : Hid (rowsF a l.length (pre ++ [(p, e)]) (k + 1) (l.drop (k + 1)) = R) := Lib.hid (by have h1 := HAP2.out; rw [HA2.out, if_pos hbq] at h1; exact h1)
            clear hbq
            generalize hpn : pre.length = m at *
            have HPM := Lib.hid hpn
            clear hpn
            go_wp2_with fail
            go_quiet (fail)
            go_wp2
            go_roundw
            case rel => exact ⟨k + 1, pre ++ [(p, e)], by omega, by go_num, Lib.hid (by rw [show (pre ++ [(p, e)]).length = m + 1 by rw [List.length_append, HPM.out]; rfl]; first | exact HST.out | exact ((show (W2.drewN nq).ownsRow w.heap.size 108 2 (.slice (some ⟨gg, 0, none⟩) (m + 1) cap) (m + 1) ((pre ++ [(p, q)]).flatMap cRw) from HO3.out).stored (m * 2 + 1) (.int .i64 (e : Int))).1), HAP3, Lib.hid (by rw [List.length_append, HPM.out]; have := HLE.out; simp; omega), Lib.hid (by first | exact below_drewN HBS.out nq | exact (below_drewN HB2.out nq).setCell (p := ⟨gg, m * 2 + 1, none⟩) (HO3.out.lt gg rfl).1 (.int .i64 (e : Int)))⟩
            case measure => simp [intOf]; omega
          · have hbqi : (decide ((b : Int) ≤ (q : Int))) = false := decide_eq_false (by omega)
            have hbqj : ¬ (b : Int) ≤ (q : Int) := by omega
            have hbqn : (decide (b ≤ q)) = false := decide_eq_false hbq
            have hbqm : (q : Int) < (b : Int) := by omega
            have HAP3 : Hid (rowsF a l.length (pre ++ [(p, q)] ++ [(b, e)]) (k + 1) (l.drop (k + 1)) = R) := Lib.hid (by have h1 := HAP2.out; rw [HA2.out, if_neg hbq] at h1; exact h1)
            clear hbq
            generalize hpn : pre.length = m at *
            have HPM := Lib.hid hpn
            clear hpn
            go_wp2_with fail
            go_quiet (fail)
            generalize hW3 : W2.drewN _ = W3
            have HO4 : Hid (W3.ownsRow w.heap.size 108 2 (.slice (some ⟨gg, 0, none⟩) (m + 1) cap) (m + 1) ((pre ++ [(p, q)]).flatMap cRw)) := Lib.hid (by rw [← hW3]; exact HO3.out)
            have HK4 : Blk W3 X 108 #[.int .i64 (b : Int), .int .i64 (e : Int)] := by rw [← hW3]; exact HKR.out
            have HB4 : Below w.heap.size w W3 := by rw [← hW3]; exact below_drewN HB2.out _
            clear hW3 r0 r1 hcl hfz
            have r0 := HK4.cell 0
            have r1 := HK4.cell 1
            have hown4 := HO4.out.alloc (.cells #[.int .i64 (b : Int), .int .i64 (e : Int)] 108)
            have hnews := World.news_of_block (cs := #[.int .i64 (b : Int), .int .i64 (e : Int)]) (t := 108) (fr := (0, 0)) (heap_alloc_new W3 (.cells #[.int .i64 (b : Int), .int .i64 (e : Int)] 108))
            have hb4 := HB4.alloc HB4.size (.cells #[.int .i64 (b : Int), .int .i64 (e : Int)] 108)
            have hsz4 := hb4.size
            go_wp2_with (at_builtin; refine wpList_append_own _ rfl _ _ 105 rfl w.heap.size 108 i0 (.agg #[.int .i64 0, .int .i64 0]) 2 16 Tryd.underlying105 hi hz0 hz1 hz2 rfl (by decide) _ _ _ rfl hown4 ⟨W3.heap.size, 0, none⟩ 1 1 [.int .i64 (b : Int), .int .i64 (e : Int)] rfl rfl hnews (by simp [Value.oneCell']) (by unfold maxLen; omega) (by omega) hsz4 ?_; intro v5 w5 hown5 hg5 _)
            have hb5 : Below w.heap.size w w5 := hb4.grown hg5 hsz4 (fun z hz => (HO4.out.lt z hz).1)
            clear hnews hown4 hg5 hb4
            go_roundw
            case rel => exact ⟨k + 1, pre ++ [(p, q)] ++ [(b, e)], by omega, by go_num, Lib.hid (by rw [show (pre ++ [(p, q)] ++ [(b, e)]).length = m + 1 + 1 by rw [List.length_append, List.length_append, HPM.out]; rfl, flat_snocP]; exact hown5), HAP3, Lib.hid (by rw [List.length_append, List.length_append, HPM.out]; have := HLE.out; simp; omega), Lib.hid hb5⟩
            case measure => simp [intOf]; omega
    · obtain rfl : k = l.length := by omega
      have HL : Hid (out = R) := Lib.hid (by have := hap.out; rw [List.drop_length] at this; exact this)
      go_wp2
      go_ret
      exact ⟨_, rfl, by rw [← HL.out]; exact hown.out, hb.out⟩
end Go.Proofs.YtdpoeagmeiedcaaDoor
