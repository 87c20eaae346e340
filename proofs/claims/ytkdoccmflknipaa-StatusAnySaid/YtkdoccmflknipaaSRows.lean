/-
  status.Rows: the paths that are not alike in all three, with how.
-/
import Derived.Test.YtkdoccmflknipaaSBin
import Derived.Test.YtkdoccmflknipaaSUnl
import Derived.Deep.RegionHeld3
namespace Go.Proofs.Ytkdoccmflknipaa
open Go.RowKit

/-- The line of a path. -/
def lineOf (l : List Fl) (ix : List En) (wk : List Fl) (p : ByteArray) : Ln :=
  if hasP (nrm (confE ix)) p then (p, 85, 85) else (p, unl (getF l p) (getF (stageE ix 0) p), chg (getF (stageE ix 0) p) (getF wk p))
def keepL (x : Ln) : Bool := decide (x.2.1 ≠ 32) || decide (x.2.2 ≠ 32)
def linesOf (f : ByteArray → Ln) (ps : List ByteArray) : List Ln := (ps.map f).filter keepL
def rowsOf (l : List Fl) (ix : List En) (wk : List Fl) : List Ln := linesOf (lineOf l ix wk) (allP l ix wk)
theorem linesOf_snoc (f : ByteArray → Ln) (ps : List ByteArray) (p : ByteArray) : linesOf f (ps ++ [p]) = linesOf f ps ++ (if keepL (f p) then [f p] else []) := by
  unfold linesOf
  rw [List.map_append, List.filter_append]
  congr 1
  cases h : keepL (f p) <;> simp [h]
theorem linesOf_len (f : ByteArray → Ln) (ps : List ByteArray) : (linesOf f ps).length ≤ ps.length := by
  unfold linesOf
  exact Nat.le_trans (List.length_filter_le _ _) (by rw [List.length_map]; exact Nat.le_refl _)
theorem allP_len (l : List Fl) (ix : List En) (wk : List Fl) : (allP l ix wk).length ≤ l.length + ix.length + wk.length := by
  unfold allP trackP
  refine Nat.le_trans (nrm_len _) ?_
  rw [List.length_append]
  have h1 := nrm_len (nrm (l.map (·.1)) ++ ix.map (·.1))
  have h2 := nrm_len (l.map (·.1))
  have h3 := nrm_len (wk.map (·.1))
  rw [List.length_append, List.length_map] at h1
  rw [List.length_map] at h2 h3
  omega

theorem own_far {w : World} {base : Nat} {ty : TypeId} {k n : Nat} {v : Value} {xs : List Value} (h : w.ownsRow base ty k v n xs) {p : Addr} (hp : ∀ b, v.ownBlock = some b → b ≠ p.block) (x : Value) : (w.setCell p x).ownsRow base ty k v n xs := ⟨h.1, by
  rcases h.2 with h | ⟨g, cap, cur, hv, hg, hb, r⟩
  · exact .inl h
  · exact .inr ⟨g, cap, cur, hv, hg, (Below.heap_setCell w p x g (hp g (by rw [hv]; rfl))).trans hb, r⟩⟩
theorem strs_at {w : World} {A : Option Addr} {n c : Nat} {ss : List ByteArray} (h : Strs w (.slice A n c) ss) {k : Nat} (hk : k < n) :
    ∃ (ad : Addr) (s : ByteArray), A = some ad ∧ ss[k]? = some s ∧ w.cell? (ad.add k) = some (.string s) := by
  obtain ⟨A', c', hv, h1, h2, h3, h4⟩ := h
  injection hv with e1 e2 e3
  subst e1; subst e3
  cases A with
  | none => have := h3 rfl; omega
  | some ad =>
    have hl : k < ss.length := by omega
    exact ⟨ad, ss[k], rfl, List.getElem?_eq_getElem hl, h4 ad rfl k _ (List.getElem?_eq_getElem hl)⟩

set_option maxRecDepth 100000 in
set_option maxHeartbeats 4000000 in
theorem rows_any (w : World) (v u z : Value) (l : List Fl) (ix : List En) (wk : List Fl) (h : Reads 3 cF w v l) (g : Reads 6 cE w u ix) (hz : Reads 3 cF w z wk) (hl : l.length ≤ 10000) (hx : ix.length ≤ 10000) (hw : wk.length ≤ 10000)
    (rl : RiseF l) (rn : RiseF (stageE ix 0)) (rw_ : RiseF wk) : Calls Try.prog 12 #[v, u, z] w (OwnTo 58 3 cL (rowsOf l ix wk) w) := by
  have hnx : (stageE ix 0).length ≤ 10000 := Nat.le_trans (stageE_len ix 0) hx
  have hcf : (nrm (confE ix)).length ≤ 10000 := Nat.le_trans (nrm_len _) (Nat.le_trans (confE_len ix) hx)
  have hal : (allP l ix wk).length ≤ 30000 := Nat.le_trans (allP_len l ix wk) (by omega)
  have S1 := Lib.hid (stage_any w u ix 0 g (by omega))
  have S2 := Lib.hid fun W (hW : Below w.heap.size w W) => conflicts_any W u ix (g.below hW) (by omega)
  have S3 := Lib.hid fun W (hW : Below w.heap.size w W) => all_any W v u z l ix wk (h.below hW) (g.below hW) (hz.below hW) hl hx hw
  have H0 := Lib.hid h
  have Z0 := Lib.hid hz
  have RL := Lib.hid rl
  have RN := Lib.hid rn
  have RW := Lib.hid rw_
  have HR := Lib.hid (show rowsOf l ix wk = linesOf (lineOf l ix wk) (allP l ix wk) from rfl)
  have HLN := Lib.hid (show ∀ p, lineOf l ix wk p = if hasP (nrm (confE ix)) p then (p, 85, 85) else (p, unl (getF l p) (getF (stageE ix 0) p), chg (getF (stageE ix 0) p) (getF wk p)) from fun p => rfl)
  have RC := Lib.hid (nrm_rise (confE ix))
  obtain ⟨A1, c1, rfl⟩ := h.form
  obtain ⟨A2, c2, rfl⟩ := g.form
  obtain ⟨A3, c3, rfl⟩ := hz.form
  obtain ⟨i0, hi, hz0, hz1, hz2⟩ := info_parts lineInfo
  clear h g hz rl rn rw_
  go_enter Try.func12, Try.ntmps12
  go_wp2_with fail
  refine S1.out.mono ?_
  rintro e w1 ⟨v7, rfl, ho7, hb1⟩
  obtain ⟨A7, c7, rfl⟩ := own_form ho7
  have H7 := Lib.hid ho7
  clear ho7
  go_wp2_with fail
  refine (S2.out w1 hb1).mono ?_
  rintro e w2 ⟨v8, rfl, ho8, hb2⟩
  obtain ⟨A8, c8, rfl⟩ := own_form ho8
  have H8 := Lib.hid ho8
  have b1s := hb1.size
  have hb12 : Below w.heap.size w w2 := hb1.trans (hb2.mono b1s)
  clear ho8
  go_wp2_with fail
  refine (S3.out w2 hb12).mono ?_
  rintro e w3 ⟨v22, rfl, ho22, hb3⟩
  obtain ⟨A22, c22, rfl⟩ := own_form ho22
  have b2s := hb12.size
  have hb13 : Below w.heap.size w w3 := hb12.trans (hb3.mono b2s)
  have b2s' := hb2.size
  have P3 := Lib.hid (Strs.of_own ho22 rfl)
  have N3 : Hid (Reads 3 cF w3 (.slice A7 (stageE ix 0).length c7) (stageE ix 0)) := Lib.hid (Reads.of_own cF_len (own_keep (own_keep H7.out hb2) hb3))
  have C3 := Lib.hid (own_keep H8.out hb3)
  have U : Hid (∀ p W, Below w3.heap.size w3 W → Calls Try.prog 31 #[.slice A1 l.length c1, .slice A7 (stageE ix 0).length c7, .string p] W (LetterTo (unl (getF l p) (getF (stageE ix 0) p)) W)) :=
    Lib.hid fun p W hW => unlike_any W _ _ l (stageE ix 0) p ((H0.out.below hb13).below hW) (N3.out.below hW) RL.out RN.out (by omega) (by omega)
  have C : Hid (∀ p W, Below w3.heap.size w3 W → Calls Try.prog 32 #[.slice A7 (stageE ix 0).length c7, .slice A3 wk.length c3, .string p] W (LetterTo (chg (getF (stageE ix 0) p) (getF wk p)) W)) :=
    Lib.hid fun p W hW => changed_any W _ _ (stageE ix 0) wk p (N3.out.below hW) ((Z0.out.below hb13).below hW) RN.out RW.out (by omega) (by omega)
  have Bn : Hid (∀ p W, Below w3.heap.size w3 W → Calls Try.prog 30 #[.slice A8 (nrm (confE ix)).length c8, .string p] W (HasTo (nrm (confE ix)) p W)) :=
    Lib.hid fun p W hW => has_any W _ _ (nrm (confE ix)) p (own_keep C3.out hW) RC.out (by omega)
  obtain ⟨f, hf⟩ : ∃ f, f = lineOf l ix wk := ⟨_, rfl⟩
  rw [← hf] at HR HLN
  obtain ⟨ps, hps⟩ : ∃ ps, ps = allP l ix wk := ⟨_, rfl⟩
  rw [← hps] at HR P3 hal ⊢
  have hB3 := Lib.hid hb13
  have hw3 := hb13.size
  clear hf hps ho22 N3 C3 H7 H8 hb1 hb2 hb3 hb12 hb13 b1s b2s b2s' S1 S2 S3 H0 Z0
  go_wp2
  go_loopw [9, 24] (fun s9 s24 wr => ∃ i : Nat, i ≤ ps.length ∧ s24 = .int .i64 i ∧ Hid (wr.ownsRow w3.heap.size 58 3 s9 (linesOf f (ps.take i)).length ((linesOf f (ps.take i)).flatMap cL)) ∧ Below w3.heap.size w3 wr) (fun _ s24 _ => ps.length - (intOf s24).toNat)
  case atStart => exact ⟨0, Nat.zero_le _, rfl, Lib.hid (World.ownsRow_nil _ _ _ _), Below.refl _ _⟩
  case round =>
    obtain ⟨i, hil, rfl, hown, hb⟩ := hrel
    by_cases hlt : i < ps.length
    · obtain ⟨ad, p, rfl, hp, c0⟩ := strs_at (P3.out.below hb) hlt
      have HT := Lib.hid (show linesOf f (ps.take (i + 1)) = linesOf f (ps.take i) ++ (if keepL (f p) then [f p] else []) by rw [take_snoc hp, linesOf_snoc])
      have hsl := Nat.le_trans (linesOf_len f (ps.take i)) (by rw [List.length_take]; omega : (ps.take i).length ≤ 30000)
      have i0' : (0 : Int) ≤ (i : Int) := Int.natCast_nonneg _
      have hi1 : (i : Int) < (ps.length : Int) := by omega
      have hcl := World.block_lt_of_cell? _ _ c0
      have hsz := hb.size
      have hfp := HLN.out p
      have b4 := hb.alloc hsz (.cells #[.string p, .int .u8 85, .int .u8 85] 58)
      have o4 := hown.out.alloc (.cells #[.string p, .int .u8 85, .int .u8 85] 58)
      have k4 := heap_alloc_new wr (.cells #[.string p, .int .u8 85, .int .u8 85] 58)
      obtain ⟨w4, hw4⟩ : ∃ w4, w4 = wr.alloc (.cells #[.string p, .int .u8 85, .int .u8 85] 58) := ⟨_, rfl⟩
      obtain ⟨G, hG⟩ : ∃ G, G = wr.heap.size := ⟨_, rfl⟩
      have HNE : Hid (∀ k, u9.ownBlock = some k → k ≠ G) := Lib.hid fun k hk e => by have := (hown.out.lt k hk).2; omega
      have hGle : w3.heap.size ≤ G := by rw [hG]; exact hsz
      have hGlt : G < w4.heap.size := by rw [hw4, hG]; simp
      rw [← hw4] at b4 o4 k4
      rw [← hG] at k4
      clear hp
      go_wp2_with fail
      rw [← hw4, ← hG]
      refine (Bn.out p w4 b4).mono ?_
      rintro e w5 ⟨pos, rfl, b5⟩
      have hbb : Below w3.heap.size w3 w5 := b4.trans (b5.mono b4.size)
      have o5 := Lib.hid (own_keep o4 b5)
      have k5 : w5.heap[G]? = some (.cells #[.string p, .int .u8 85, .int .u8 85] 58 (0, 0)) := (b5.block G hGlt).trans k4
      have hG5 : G < w5.heap.size := Nat.lt_of_lt_of_le hGlt b5.size
      clear hw4 hG b4 o4 k4 b5 hGlt
      have hbb5 := hbb
      have d0 : w5.cell? ⟨G, 0, none⟩ = some (.string p) := cell_of_row w5 G 0 _ 58 (0, 0) k5
      have d1 : w5.cell? ⟨G, 1, none⟩ = some (.int .u8 85) := cell_of_row w5 G 1 _ 58 (0, 0) k5
      have d2 : w5.cell? ⟨G, 2, none⟩ = some (.int .u8 85) := cell_of_row w5 G 2 _ 58 (0, 0) k5
      have e0 : w5.frozen? ⟨G, 0, none⟩ = false := by simp [World.frozen?, k5]
      have e1 : w5.frozen? ⟨G, 1, none⟩ = false := by simp [World.frozen?, k5]
      have e2 : w5.frozen? ⟨G, 2, none⟩ = false := by simp [World.frozen?, k5]
      have K5 := Lib.hid k5
      clear k5 hbb
      cases hh : hasP (nrm (confE ix)) p with
      | true =>
        rw [hh] at hfp
        have HF := Lib.hid (show f p = (p, 85, 85) from hfp)
        have HK := Lib.hid (show keepL (p, 85, 85) = true from rfl)
        clear hfp hh
        have o6 := o5.out.alloc (.cells #[.string p, .int .u8 85, .int .u8 85] 58)
        have hnews := news_one w5 #[.string p, .int .u8 85, .int .u8 85] 58 w5.heap.size rfl
        have hsz5 := hbb5.size
        go_wp2_with (at_builtin; refine wpList_append_own _ rfl _ _ 34 rfl w3.heap.size 58 i0 (.agg #[.string ⟨#[]⟩, .int .u8 0, .int .u8 0]) 3 24 Try.underlying34 hi hz0 hz1 hz2 rfl (by decide) _ _ _ rfl o6 ⟨w5.heap.size, 0, none⟩ 1 1 [.string p, .int .u8 85, .int .u8 85] rfl rfl hnews (by simp [Value.oneCell']) (by unfold maxLen; omega) (by omega) (by simp; omega) ?_; intro v7 w7 hown7 hg7 _)
        have hb7 : Below w3.heap.size w3 w7 := (hbb5.alloc hsz5 _).grown hg7 (by simp; omega) (fun k hk => (o5.out.lt k hk).1)
        clear hnews o6 hg7
        go_roundw
        case rel => exact ⟨i + 1, by omega, by go_num, Lib.hid (by rw [HT.out, HF.out, if_pos HK.out, List.length_append, flat_snoc]; exact hown7), hb7⟩
        case measure => simp [intOf]; omega
      | false =>
        rw [hh] at hfp
        obtain ⟨X, hX⟩ : ∃ X, X = unl (getF l p) (getF (stageE ix 0) p) := ⟨_, rfl⟩
        obtain ⟨Y, hY⟩ : ∃ Y, Y = chg (getF (stageE ix 0) p) (getF wk p) := ⟨_, rfl⟩
        have HF := Lib.hid (show f p = (p, X, Y) by rw [hX, hY]; exact hfp)
        have UX := Lib.hid (U.out p)
        have CX := Lib.hid (C.out p)
        rw [← hX] at UX
        rw [← hY] at CX
        have s5 := hbb5.size
        clear hfp hh hX hY U C
        go_wp2_with fail
        refine (UX.out w5 hbb5).mono ?_
        rintro e w6 ⟨rfl, b6⟩
        have hbb6 : Below w3.heap.size w3 w6 := hbb5.trans (b6.mono s5)
        have s6 := hbb6.size
        go_wp2_with fail
        refine (CX.out w6 hbb6).mono ?_
        rintro e w8 ⟨rfl, b8⟩
        have hbb8 : Below w3.heap.size w3 w8 := hbb6.trans (b8.mono s6)
        have k8 : w8.heap[G]? = some (.cells #[.string p, .int .u8 85, .int .u8 85] 58 (0, 0)) := (b8.block G (Nat.lt_of_lt_of_le hG5 b6.size)).trans ((b6.block G hG5).trans K5.out)
        have hG8 : G < w8.heap.size := Nat.lt_of_lt_of_le (Nat.lt_of_lt_of_le hG5 b6.size) b8.size
        have k9 := set_row _ _ _ _ _ 2 (.int .u8 Y) (set_row _ _ _ _ _ 1 (.int .u8 X) k8)
        have hbb9 := (hbb8.setCell (p := ⟨G, 1, none⟩) hGle (.int .u8 X)).setCell (p := ⟨G, 2, none⟩) hGle (.int .u8 Y)
        have d0 : w8.cell? ⟨G, 0, none⟩ = some (.string p) := cell_of_row w8 G 0 _ 58 (0, 0) k8
        have d1 : w8.cell? ⟨G, 1, none⟩ = some (.int .u8 85) := cell_of_row w8 G 1 _ 58 (0, 0) k8
        have d2 : w8.cell? ⟨G, 2, none⟩ = some (.int .u8 85) := cell_of_row w8 G 2 _ 58 (0, 0) k8
        have e1 : w8.frozen? ⟨G, 1, none⟩ = false := by simp [World.frozen?, k8]
        have e2 : w8.frozen? ⟨G, 2, none⟩ = false := by simp [World.frozen?, k8]
        have o8 := own_keep (own_keep o5.out b6) b8
        have o9 := Lib.hid (own_far (own_far o8 (p := ⟨G, 1, none⟩) (fun k hk => HNE.out k hk) (.int .u8 X)) (p := ⟨G, 2, none⟩) (fun k hk => HNE.out k hk) (.int .u8 Y))
        have hbb9 := Lib.hid hbb9
        have s8 := hbb8.size
        clear b6 b8 k8 k9 UX CX o8 hbb8 hbb6 hbb5
        by_cases hX : X = 32
        · subst hX
          by_cases hY : Y = 32
          · subst hY
            have HK := Lib.hid (show keepL (p, 32, 32) = false from rfl)
            go_wp2
            go_roundw
            case rel => exact ⟨i + 1, by omega, by go_num, Lib.hid (by rw [HT.out, HF.out, HK.out]; simpa using o9.out), hbb9.out⟩
            case measure => simp [intOf]; omega
          · have hYb : (Y != 32) = true := by simpa using hY
            have HK := Lib.hid (show keepL (p, 32, Y) = true by simp [keepL, hY])
            have o6 := o9.out.alloc (.cells #[.string p, .int .u8 32, .int .u8 Y] 58)
            have hnews := news_one ((w8.setCell ⟨G, 1, none⟩ (.int .u8 32)).setCell ⟨G, 2, none⟩ (.int .u8 Y)) #[.string p, .int .u8 32, .int .u8 Y] 58 w8.heap.size (by simp)
            go_wp2_with (at_builtin; refine wpList_append_own _ rfl _ _ 34 rfl w3.heap.size 58 i0 (.agg #[.string ⟨#[]⟩, .int .u8 0, .int .u8 0]) 3 24 Try.underlying34 hi hz0 hz1 hz2 rfl (by decide) _ _ _ rfl o6 ⟨w8.heap.size, 0, none⟩ 1 1 [.string p, .int .u8 32, .int .u8 Y] rfl rfl hnews (by simp [Value.oneCell']) (by unfold maxLen; omega) (by omega) (by simp; omega) ?_; intro v7 w7 hown7 hg7 _)
            have hb7 : Below w3.heap.size w3 w7 := (hbb9.out.alloc (by simp; omega) _).grown hg7 (by simp; omega) (fun k hk => (o9.out.lt k hk).1)
            clear hnews o6 hg7
            go_roundw
            case rel => exact ⟨i + 1, by omega, by go_num, Lib.hid (by rw [HT.out, HF.out, if_pos HK.out, List.length_append, flat_snoc]; exact hown7), hb7⟩
            case measure => simp [intOf]; omega
        · have hXb : (X != 32) = true := by simpa using hX
          have HK := Lib.hid (show keepL (p, X, Y) = true by simp [keepL, hX])
          have o6 := o9.out.alloc (.cells #[.string p, .int .u8 X, .int .u8 Y] 58)
          have hnews := news_one ((w8.setCell ⟨G, 1, none⟩ (.int .u8 X)).setCell ⟨G, 2, none⟩ (.int .u8 Y)) #[.string p, .int .u8 X, .int .u8 Y] 58 w8.heap.size (by simp)
          go_wp2_with (at_builtin; refine wpList_append_own _ rfl _ _ 34 rfl w3.heap.size 58 i0 (.agg #[.string ⟨#[]⟩, .int .u8 0, .int .u8 0]) 3 24 Try.underlying34 hi hz0 hz1 hz2 rfl (by decide) _ _ _ rfl o6 ⟨w8.heap.size, 0, none⟩ 1 1 [.string p, .int .u8 X, .int .u8 Y] rfl rfl hnews (by simp [Value.oneCell']) (by unfold maxLen; omega) (by omega) (by simp; omega) ?_; intro v7 w7 hown7 hg7 _)
          have hb7 : Below w3.heap.size w3 w7 := (hbb9.out.alloc (by simp; omega) _).grown hg7 (by simp; omega) (fun k hk => (o9.out.lt k hk).1)
          clear hnews o6 hg7
          go_roundw
          case rel => exact ⟨i + 1, by omega, by go_num, Lib.hid (by rw [HT.out, HF.out, if_pos HK.out, List.length_append, flat_snoc]; exact hown7), hb7⟩
          case measure => simp [intOf]; omega
    · obtain rfl : i = ps.length := by omega
      have HL : Hid (linesOf f (ps.take ps.length) = rowsOf l ix wk) := Lib.hid (by rw [List.take_length, HR.out])
      go_wp2
      go_ret
      exact ⟨_, rfl, by rw [← HL.out]; exact own_base hown.out hw3, hB3.out.trans (hb.mono hw3)⟩
end Go.Proofs.Ytkdoccmflknipaa
