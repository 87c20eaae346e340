/-
  rectoref14.Status: the document's lines, any tree, any index, any folder.
-/
import Derived.Test.YtkdoccmflknipaaSRefT
import Derived.Test.YtkdoccmflknipaaSRefL
import Derived.Test.YtkdoccmflknipaaSThy
namespace Go.Proofs.Ytkdoccmflknipaa
open Go.RowKit

theorem treeInfo : (Try.prog.info? 38).map (fun i => (i.zero, i.size, i.bytes)) = some (some (.slice none 0 0), 1, 24) := by kernel_rfl
theorem refLineInfo : (Try.prog.info? 46).map (fun i => (i.zero, i.size, i.bytes)) = some (some (.agg #[.string ⟨#[]⟩, .int .u8 0, .int .u8 0]), 3, 24) := by kernel_rfl

/-- Trees of the call's own, in a row of its own. -/
def RowsIn (base : Nat) (W : World) (s : Value) (rs : List (Value × List Fl)) : Prop :=
  W.ownsRow base 38 1 s rs.length (rs.map (·.1)) ∧ ∀ r ∈ rs, W.ownsRow base 77 3 r.1 r.2.length (r.2.flatMap cF) ∧ (r.1.ownBlock = none ∨ r.1.ownBlock ≠ s.ownBlock)
theorem rows_step {base : Nat} {W w1 w5 : World} {s v v5 : Value} {rs : List (Value × List Fl)} {l : List Fl} (h : RowsIn base W s rs) (hb : base ≤ W.heap.size) (o : w1.ownsRow W.heap.size 77 3 v l.length (l.flatMap cF)) (b : Below W.heap.size W w1)
    (hg : (w1.alloc (.cells #[v] 38)).grownBy w5 s.ownBlock) (own5 : w5.ownsRow base 38 1 v5 (rs.length + 1) (rs.map (·.1) ++ [v])) (hat : v5.ownBlock = s.ownBlock ∨ v5.ownBlock = some (w1.alloc (.cells #[v] 38)).heap.size) : RowsIn base w5 v5 (rs ++ [(v, l)]) := by
  refine ⟨by rw [List.length_append, List.map_append]; exact own5, fun r hr => ?_⟩
  have key : w1.ownsRow base 77 3 r.1 r.2.length (r.2.flatMap cF) ∧ (r.1.ownBlock = none ∨ r.1.ownBlock ≠ s.ownBlock) := by
    rcases List.mem_append.1 hr with hr | hr
    · exact ⟨own_keep (h.2 r hr).1 b, (h.2 r hr).2⟩
    · rw [List.mem_singleton.1 hr]
      refine ⟨own_base o hb, ?_⟩
      cases hv : v.ownBlock with
      | none => exact .inl rfl
      | some k =>
        refine .inr fun e => ?_
        have h1 := (o.lt k hv).1
        have h2 := (h.1.lt k e.symm).2
        omega
  refine ⟨(key.1.alloc _).kept hg key.2, ?_⟩
  rcases hat with e | e
  · rw [e]; exact key.2
  · cases hv : r.1.ownBlock with
    | none => exact .inl rfl
    | some k =>
      refine .inr fun e2 => ?_
      rw [e] at e2
      have := (key.1.lt k hv).2
      have e3 := Option.some.inj e2
      simp at e3
      omega
theorem pathsR_map {a b : List (Value × List Fl)} (h : a.map (·.2) = b.map (·.2)) : pathsR a = pathsR b := by
  have e : ∀ l : List (Value × List Fl), pathsR l = (l.map (·.2)).flatMap fun f => f.map (·.1) := fun l => by
    unfold pathsR
    rw [List.flatMap_map]
  rw [e, e, h]
theorem all_stages {l : List En} (h : StagesOk l) (f k : List Fl) (v z : Value) (rs : List (Value × List Fl)) (hr : rs.map (·.2) = (List.range 4).map fun n : Nat => stageE l (n : Int)) : nrm (pathsR (rs ++ [(v, f), (z, k)])) = allP f l k := by
  have e : pathsR (rs ++ [(v, f), (z, k)]) = pathsR [(v, stageE l 0), (v, stageE l 1), (v, stageE l 2), (v, stageE l 3), (v, f), (z, k)] := pathsR_map (by rw [List.map_append, hr]; rfl)
  rw [e]
  refine nrm_of (nrm_rise _) fun s => ?_
  rw [allP_mem]
  simp only [pathsR, List.flatMap_cons, List.flatMap_nil, List.append_nil, List.mem_append, stage_mem]
  constructor
  · rintro (⟨e, he, hn, hs⟩ | ⟨e, he, hn, hs⟩ | ⟨e, he, hn, hs⟩ | ⟨e, he, hn, hs⟩ | hs | hs)
    · exact .inr (.inl (List.mem_map.2 ⟨e, he, hs⟩))
    · exact .inr (.inl (List.mem_map.2 ⟨e, he, hs⟩))
    · exact .inr (.inl (List.mem_map.2 ⟨e, he, hs⟩))
    · exact .inr (.inl (List.mem_map.2 ⟨e, he, hs⟩))
    · exact .inl hs
    · exact .inr (.inr hs)
  · rintro (hs | hs | hs)
    · exact .inr (.inr (.inr (.inr (.inl hs))))
    · obtain ⟨e, he, hs⟩ := List.mem_map.1 hs
      rcases h e he with h | h | h | h
      · exact .inl ⟨e, he, h, hs⟩
      · exact .inr (.inl ⟨e, he, h, hs⟩)
      · exact .inr (.inr (.inl ⟨e, he, h, hs⟩))
      · exact .inr (.inr (.inr (.inl ⟨e, he, h, hs⟩)))
    · exact .inr (.inr (.inr (.inr (.inr hs))))
/-- A row of the call's own that is not empty. -/
theorem own_some {w : World} {base size : Nat} {e : TypeId} {v : Value} {n : Nat} {xs : List Value} (h : w.ownsRow base e size v n xs) (h0 : 0 < n) : ∃ g c, v = .slice (some ⟨g, 0, none⟩) n c := by
  rcases h.2 with ⟨_, h1⟩ | ⟨g, cap, cur, rfl, _⟩
  · omega
  · exact ⟨g, cap, rfl⟩

theorem line_has {l : List Fl} {ix : List En} {wk : List Fl} (p : ByteArray) (h : hasP (nrm (confE ix)) p = true) : lineOf l ix wk p = (p, 85, 85) := by unfold lineOf; rw [if_pos h]
theorem line_not {l : List Fl} {ix : List En} {wk : List Fl} (p : ByteArray) (h : hasP (nrm (confE ix)) p = false) : lineOf l ix wk p = (p, unl (getF l p) (getF (stageE ix 0) p), chg (getF (stageE ix 0) p) (getF wk p)) := by unfold lineOf; rw [h]; rfl

set_option maxRecDepth 100000 in
set_option maxHeartbeats 8000000 in
theorem refStatus_any (w : World) (v u z : Value) (l : List Fl) (ix : List En) (wk : List Fl) (h : Reads 3 cF w v l) (g : Reads 6 cE w u ix) (hz : Reads 3 cF w z wk) (hl : l.length ≤ 10000) (hx : ix.length ≤ 10000) (hw : wk.length ≤ 10000) (hk : StagesOk ix) :
    Calls Try.prog 13 #[v, u, z] w (OwnTo 46 3 cL (rowsOf l ix wk) w) := by
  have ST := Lib.hid fun W (hW : Below w.heap.size w W) n => refStage_any W u ix n (g.below hW) (by omega)
  have SC := Lib.hid fun W (hW : Below w.heap.size w W) => refConf_any W u ix (g.below hW) hx hk
  have AS := Lib.hid (all_stages hk l wk)
  have H0 := Lib.hid h
  have Z0 := Lib.hid hz
  have LS := Lib.hid fun n : Int => Nat.le_trans (stageE_len ix n) hx
  have LC := Nat.le_trans (nrm_len (confE ix)) (Nat.le_trans (confE_len ix) hx)
  have LA := allP_len l ix wk
  have HRW := Lib.hid (show rowsOf l ix wk = linesOf (lineOf l ix wk) (allP l ix wk) from rfl)
  have HLH := Lib.hid (@line_has l ix wk)
  have HLN := Lib.hid (@line_not l ix wk)
  obtain ⟨A1, c1, rfl⟩ := h.form
  obtain ⟨A2, c2, rfl⟩ := g.form
  obtain ⟨A3, c3, rfl⟩ := hz.form
  obtain ⟨j0, hj, jz0, jz1, jz2⟩ := info_parts treeInfo
  obtain ⟨i0, hi, hz0, hz1, hz2⟩ := info_parts refLineInfo
  obtain ⟨s0, hs0⟩ : ∃ s, s = stageE ix 0 := ⟨_, rfl⟩
  obtain ⟨cf, hcf⟩ : ∃ s, s = nrm (confE ix) := ⟨_, rfl⟩
  obtain ⟨ps, hps⟩ : ∃ s, s = allP l ix wk := ⟨_, rfl⟩
  obtain ⟨fL, hfL⟩ : ∃ f, f = lineOf l ix wk := ⟨_, rfl⟩
  have S0 := Lib.hid fun W (hW : Below w.heap.size w W) => ST.out W hW 0
  have L0 := LS.out 0
  rw [← hs0] at S0 L0 HLN
  rw [← hcf] at SC LC HLH HLN
  rw [← hps] at AS LA HRW
  rw [← hfL] at HRW HLH HLN
  clear h g hz hk hs0 hcf hps hfL
  go_enter Try.func13, Try.ntmps13
  go_wp2_with fail
  refine (S0.out w (Below.refl _ _)).mono ?_
  rintro e w1 ⟨v7, rfl, o1, b1⟩
  have R0 := Lib.hid (own_reads o1)
  obtain ⟨A7, c7, rfl⟩ := own_form o1
  clear o1
  go_wp2_with fail
  refine (SC.out w1 b1).mono ?_
  rintro e w2 ⟨v8, rfl, o2, b2⟩
  have R1 := Lib.hid (R0.out.below b2)
  have RC := Lib.hid (Strs.of_own o2 rfl)
  have B2 := b1.trans (b2.mono b1.size)
  obtain ⟨A8, c8, rfl⟩ := own_form o2
  have B2s := B2.size
  clear o2 b2 R0 b1 S0 SC
  go_wp2_with fail
  go_loopw [9, 10] (fun s9 s10 wr => ∃ (i : Nat) (rs : List (Value × List Fl)), i ≤ 4 ∧ s10 = .int .i64 i ∧ rs.length = i ∧ Hid (rs.map (·.2) = (List.range i).map fun n : Nat => stageE ix (n : Int)) ∧ Hid (RowsIn w2.heap.size wr s9 rs) ∧ Below w2.heap.size w2 wr) (fun _ s10 _ => 4 - (intOf s10).toNat)
  case atStart => exact ⟨0, [], Nat.zero_le _, rfl, rfl, Lib.hid rfl, Lib.hid ⟨World.ownsRow_nil _ _ _ _, fun r hr => by cases hr⟩, Below.refl _ _⟩
  case round =>
    obtain ⟨i, rs, hi4, rfl, hri, hrm, hrow, hb⟩ := hrel
    by_cases hlt : i < 4
    · have hi1 : (i : Int) < 4 := by omega
      have i0' : (0 : Int) ≤ (i : Int) := Int.natCast_nonneg _
      have hbs := hb.size
      obtain ⟨l2, hl2⟩ : ∃ s, s = stageE ix i := ⟨_, rfl⟩
      have SI := Lib.hid (ST.out wr (B2.trans (hb.mono B2s)) i)
      rw [← hl2] at SI
      have HT := Lib.hid (show (rs.map (·.2)) ++ [l2] = (List.range (i + 1)).map fun n : Nat => stageE ix (n : Int) by rw [hrm.out, List.range_succ, List.map_append, hl2]; rfl)
      clear hl2
      go_wp2_with fail
      refine SI.out.mono ?_
      rintro e w3 ⟨v3, rfl, o3, b3⟩
      have HB3 := Lib.hid b3
      have HO3 := Lib.hid o3
      have b3s := b3.size
      obtain ⟨A9, c9, rfl⟩ := own_form o3
      have own4 := (own_keep hrow.out.1 b3).alloc (.cells #[.slice A9 l2.length c9] 38)
      have hnews := news_one w3 #[.slice A9 l2.length c9] 38 w3.heap.size rfl
      clear b3 o3
      go_wp2_with (at_builtin; refine wpList_append_own_at _ rfl _ _ 73 rfl w2.heap.size 38 j0 (.slice none 0 0) 1 24 Try.underlying73 hj jz0 jz1 jz2 rfl (by decide) _ _ _ rfl own4 ⟨w3.heap.size, 0, none⟩ 1 1 [.slice A9 l2.length c9] rfl rfl hnews (by simp [Value.oneCell']) (by unfold maxLen; omega) (by omega) (by simp; omega) ?_; intro v5 w5 hown5 hg5 _ hat5)
      have hb5 := ((hb.trans (HB3.out.mono hbs)).alloc (Nat.le_trans hbs b3s) (.cells #[.slice A9 l2.length c9] 38)).grown hg5 (by simp; omega) (fun k hk => (hrow.out.1.lt k hk).1)
      have hrow5 := Lib.hid (rows_step hrow.out hbs HO3.out HB3.out hg5 hown5 hat5)
      clear hnews own4 hg5 hown5 hat5
      go_roundw
      case rel => exact ⟨i + 1, rs ++ [(.slice A9 l2.length c9, l2)], by omega, by go_num, by rw [List.length_append, hri]; rfl, Lib.hid (by rw [List.map_append]; exact HT.out), hrow5, hb5⟩
      case measure => simp [intOf]; omega
    · obtain rfl : i = 4 := by omega
      have hi1 : ¬ ((4 : Nat) : Int) < 4 := by omega
      have B3 := B2.trans (hb.mono B2s)
      have R2 := Lib.hid (R1.out.below hb)
      have RC2 := Lib.hid (RC.out.below hb)
      obtain ⟨g9, c9, h9⟩ := own_some hrow.out.1 (by omega)
      rw [hri] at h9
      subst h9
      have B3s := B3.size
      have AS2 := Lib.hid (fun a b => AS.out a b rs hrm.out)
      have RR := Lib.hid (fun (r : Value × List Fl) hr => Reads.of_own cF_len (hrow.out.2 r hr).1)
      have news1 : ∀ (j : Nat) (u : Value), (rs.map (·.1))[j]? = some u → (wr.alloc (.cells #[] 38)).cell? ((⟨g9, 0, none⟩ : Addr).add j) = some u := fun j u hu => by
        have := hrow.out.1.cells (g := g9) rfl j u hu
        rw [World.cell?_alloc_lt _ _ _ (World.block_lt_of_cell? _ _ this)]
        exact this
      have one1 : ∀ u ∈ rs.map (·.1), u.oneCell' = true := fun u hu => by
        obtain ⟨r, hr, rfl⟩ := List.mem_map.1 hu
        obtain ⟨A, c, e⟩ := own_form (hrow.out.2 r hr).1
        rw [e]
        rfl
      obtain ⟨vs, hvs⟩ : ∃ vs, vs = rs.map (·.1) := ⟨_, rfl⟩
      have hvl : vs.length = 4 := by rw [hvs, List.length_map, hri]
      rw [← hvs] at news1 one1
      have HVS := Lib.hid hvs
      have LP : (pathsR (rs ++ [(.slice A1 l.length c1, l), (.slice A3 wk.length c3, wk)])).length ≤ 100000 := by
        have e : pathsR (rs ++ [(.slice A1 l.length c1, l), (.slice A3 wk.length c3, wk)]) = pathsR [(.slice A1 l.length c1, stageE ix 0), (.slice A1 l.length c1, stageE ix 1), (.slice A1 l.length c1, stageE ix 2), (.slice A1 l.length c1, stageE ix 3), (.slice A1 l.length c1, l), (.slice A3 wk.length c3, wk)] := pathsR_map (by rw [List.map_append, hrm.out]; rfl)
        rw [e]
        have h0 := LS.out 0
        have h1 := LS.out 1
        have h2 := LS.out 2
        have h3 := LS.out 3
        simp [pathsR]
        omega
      have HLP := Lib.hid LP
      have rl := hri
      clear hrow hrm hb R1 RC hvs LP B2 B2s
      go_wp2_with (first
        | (at_builtin; refine wpList_append_own _ rfl _ _ 73 rfl wr.heap.size 38 j0 (.slice none 0 0) 1 24 Try.underlying73 hj jz0 jz1 jz2 rfl (by decide) _ 0 [] rfl (World.ownsRow_made wr #[] 0 (Nat.le_refl _) (Nat.zero_le _) rfl) ⟨g9, 0, none⟩ 4 c9 vs rfl (by omega) news1 one1 (by unfold maxLen; omega) (by omega) (by simp) ?_; intro v5 w5 own5 hg5 _; have b5 : Below wr.heap.size wr w5 := ((Below.refl _ _).alloc (Nat.le_refl _) (.cells #[] 38)).grown hg5 (by simp) (fun k hk => Nat.le_of_eq (Option.some.inj hk)); have b5s := b5.size; have own6 := own5.alloc (.cells #[.slice A1 l.length c1, .slice A3 wk.length c3] 38); have news2 : ∀ (j : Nat) (u : Value), [Value.slice A1 l.length c1, .slice A3 wk.length c3][j]? = some u → (w5.alloc (.cells #[.slice A1 l.length c1, .slice A3 wk.length c3] 38)).cell? ((⟨w5.heap.size, 0, none⟩ : Addr).add j) = some u := World.news_of_block (cs := #[.slice A1 l.length c1, .slice A3 wk.length c3]) (t := 38) (fr := (0, 0)) (heap_alloc_new w5 _))
        | (at_builtin; refine wpList_append_own _ rfl _ _ 73 rfl wr.heap.size 38 j0 (.slice none 0 0) 1 24 Try.underlying73 hj jz0 jz1 jz2 rfl (by decide) _ _ _ rfl own6 ⟨w5.heap.size, 0, none⟩ 2 2 [.slice A1 l.length c1, .slice A3 wk.length c3] rfl rfl news2 (by simp [Value.oneCell']) (by unfold maxLen; omega) (by omega) (by simp; omega) ?_; intro v7 w7 own7 hg7 _; obtain ⟨g7, c7', h7⟩ := own_some own7 (by omega); subst h7))
      have b7 : Below wr.heap.size wr w7 := (b5.alloc b5s (.cells #[.slice A1 l.length c1, .slice A3 wk.length c3] 38)).grown hg7 (by simp; omega) (fun k hk => (own5.lt k hk).1)
      have TR : Trees w7 ⟨g7, 0, none⟩ (rs ++ [(.slice A1 l.length c1, l), (.slice A3 wk.length c3, wk)]) := fun i r hir => by
        refine ⟨own7.cells (g := g7) rfl i r.1 ?_, ?_⟩
        · have : ([] ++ vs ++ [Value.slice A1 l.length c1, .slice A3 wk.length c3]) = (rs ++ [(Value.slice A1 l.length c1, l), (.slice A3 wk.length c3, wk)]).map (·.1) := by rw [HVS.out]; simp
          rw [this, List.getElem?_map, hir]
          rfl
        · rcases List.mem_append.1 (List.mem_of_getElem? hir) with hm | hm
          · exact (RR.out r hm).below b7
          · simp only [List.mem_cons, List.not_mem_nil, or_false] at hm
            rcases hm with rfl | rfl
            · exact (H0.out.below B3).below b7
            · exact (Z0.out.below B3).below b7
      have LR : (rs ++ [(Value.slice A1 l.length c1, l), (.slice A3 wk.length c3, wk)]).length = 6 := by rw [List.length_append, rl]; rfl
      have PT := refPaths_any w7 ⟨g7, 0, none⟩ c7' _ TR (by rw [LR]; omega) HLP.out
      rw [LR, AS2.out] at PT
      have HPT := Lib.hid PT
      have R3 := Lib.hid (R2.out.below b7)
      have RC3 := Lib.hid (RC2.out.below b7)
      have B7 := B3.trans (b7.mono B3s)
      clear PT TR LR news1 one1 news2 own5 own6 own7 hg5 hg7 b5 b5s b7 R2 RC2 RR HVS HLP AS2 hvl hri
      go_wp2_with fail
      refine HPT.out.mono ?_
      rintro e w8 ⟨v11, rfl, o8, b8⟩
      have R4 := Lib.hid (R3.out.below b8)
      have RC4 := Lib.hid (RC3.out.below b8)
      have RP4 := Lib.hid (Strs.of_own o8 rfl)
      have B8 := B7.trans (b8.mono B7.size)
      obtain ⟨A11, c11, rfl⟩ := own_form o8
      have H8 := Lib.hid (H0.out.below B8)
      have Z8 := Lib.hid (Z0.out.below B8)
      have HB8 := Lib.hid B8
      have hpm : ps.length ≤ 30000 := by omega
      clear o8 b8 HPT R3 RC3 B7 B3 B3s B8
      go_wp2_with fail
      obtain ⟨wo, hwo⟩ : ∃ wo, wo = w8 := ⟨_, rfl⟩
      subst hwo
      go_loopw [12, 13] (fun s12 s13 wr => ∃ k : Nat, k ≤ ps.length ∧ s13 = .int .i64 k ∧ Hid (wr.ownsRow wo.heap.size 46 3 s12 (linesOf fL (ps.take k)).length ((linesOf fL (ps.take k)).flatMap cL)) ∧ Below wo.heap.size wo wr) (fun _ s13 _ => ps.length - (intOf s13).toNat)
      case atStart => exact ⟨0, Nat.zero_le _, rfl, Lib.hid (World.ownsRow_nil _ _ _ _), Below.refl _ _⟩
      case round =>
        obtain ⟨k, hk, rfl, hown, hb⟩ := hrel
        by_cases hlt : k < ps.length
        · obtain ⟨ad, p, rfl, hp, c0⟩ := strs_at RP4.out hlt
          have CC := Lib.hid fun W (hW : Below wo.heap.size wo W) => (hW.cell (World.block_lt_of_cell? _ _ c0)).trans c0
          have HT := Lib.hid (show linesOf fL (ps.take (k + 1)) = linesOf fL (ps.take k) ++ (if keepL (fL p) then [fL p] else []) by rw [take_snoc hp, linesOf_snoc])
          have hsl := Nat.le_trans (linesOf_len fL (ps.take k)) (by rw [List.length_take]; omega : (ps.take k).length ≤ 30000)
          obtain ⟨X, hX⟩ : ∃ X, X = unl (getF l p) (getF s0 p) := ⟨_, rfl⟩
          obtain ⟨Y, hY⟩ : ∃ Y, Y = unl (getF s0 p) (getF wk p) := ⟨_, rfl⟩
          have W1 := Lib.hid fun W (hW : Below wo.heap.size wo W) => what_any W _ _ l s0 p (H8.out.below hW) (R4.out.below hW) (by omega) (by omega)
          have W2 := Lib.hid fun W (hW : Below wo.heap.size wo W) => what_any W _ _ s0 wk p (R4.out.below hW) (Z8.out.below hW) (by omega) (by omega)
          have W3 := Lib.hid fun W (hW : Below wo.heap.size wo W) => among_any W _ cf p (RC4.out.below hW) (by omega)
          have HH := Lib.hid (HLH.out p)
          have HN := Lib.hid (HLN.out p)
          rw [← hX] at W1 HN
          rw [← hY] at W2
          have HN2 := Lib.hid (show hasP cf p = false → fL p = (p, X, if Y = 65 then 63 else Y) from fun h => by rw [HN.out h, hY]; rfl)
          obtain ⟨acc, hacc⟩ : ∃ acc, acc = linesOf fL (ps.take k) := ⟨_, rfl⟩
          rw [← hacc] at hown HT hsl
          obtain ⟨hz, hhz⟩ : ∃ b, b = hasP cf p := ⟨_, rfl⟩
          rw [← hhz] at W3 HH HN2
          have k0 : (0 : Int) ≤ (k : Int) := Int.natCast_nonneg _
          have k1 : (k : Int) < (ps.length : Int) := by omega
          have c1 := CC.out _ hb
          have hbs := hb.size
          clear hp hX hY HN hacc hhz c0
          go_wp2_with fail
          refine (W1.out wr hb).mono ?_
          rintro e wa ⟨rfl, ba⟩
          have Ba := hb.trans (ba.mono hbs)
          have ca := CC.out _ Ba
          have Bas := Ba.size
          have Oa := Lib.hid (own_keep hown.out ba)
          clear ba c1 hown W1
          go_wp2_with fail
          refine (W2.out wa Ba).mono ?_
          rintro e wb ⟨rfl, bb⟩
          have Bb := Ba.trans (bb.mono Bas)
          have cb' := CC.out _ Bb
          have Bbs := Bb.size
          have Ob := Lib.hid (own_keep Oa.out bb)
          clear bb ca Oa W2 Ba Bas hb hbs
          by_cases hY : Y = 65
          · subst hY
            go_wp2_with fail
            refine (W3.out wb Bb).mono ?_
            rintro e w' ⟨rfl, hw'⟩
            have hw2 : wb = w' := hw'.symm
            subst hw2
            cases hz with
            | true =>
              have HK : Hid ((if keepL (fL p) then [fL p] else []) = [(p, 85, 85)]) := Lib.hid (by rw [HH.out rfl]; rw [if_pos (by simp [keepL])])
              have own4 := Ob.out.alloc (.cells #[.string p, .int .u8 85, .int .u8 85] 46)
              have news4 := news_one wb #[.string p, .int .u8 85, .int .u8 85] 46 wb.heap.size rfl
              go_wp2_with (at_builtin; refine wpList_append_own _ rfl _ _ 36 rfl wo.heap.size 46 i0 (.agg #[.string ⟨#[]⟩, .int .u8 0, .int .u8 0]) 3 24 Try.underlying36 hi hz0 hz1 hz2 rfl (by decide) _ _ _ rfl own4 ⟨wb.heap.size, 0, none⟩ 1 1 [.string p, .int .u8 85, .int .u8 85] rfl rfl news4 (by simp [Value.oneCell']) (by unfold maxLen; omega) (by omega) (by simp; omega) ?_; intro v5 w5 own5 hg5 _)
              have b5 : Below wo.heap.size wo w5 := (Bb.alloc Bbs _).grown hg5 (by simp; omega) (fun k hk => (Ob.out.lt k hk).1)
              clear news4 own4 hg5
              go_roundw
              case rel => exact ⟨k + 1, by omega, by go_num, Lib.hid (by rw [HT.out, HK.out, List.length_append, flat_snoc]; exact own5), b5⟩
              case measure => simp [intOf]; omega
            | false =>
              have FL : fL p = (p, X, 63) := HN2.out rfl
              have HFL := Lib.hid FL
              clear FL HN2 HH
              by_cases hX : X = 32
              · subst hX
                have HK : Hid ((if keepL (fL p) then [fL p] else []) = [(p, 32, 63)]) := Lib.hid (by rw [HFL.out]; rw [if_pos (by simp [keepL])])
                have own4 := Ob.out.alloc (.cells #[.string p, .int .u8 32, .int .u8 63] 46)
                have news4 := news_one wb #[.string p, .int .u8 32, .int .u8 63] 46 wb.heap.size rfl
                go_wp2_with (at_builtin; refine wpList_append_own _ rfl _ _ 36 rfl wo.heap.size 46 i0 (.agg #[.string ⟨#[]⟩, .int .u8 0, .int .u8 0]) 3 24 Try.underlying36 hi hz0 hz1 hz2 rfl (by decide) _ _ _ rfl own4 ⟨wb.heap.size, 0, none⟩ 1 1 [.string p, .int .u8 32, .int .u8 63] rfl rfl news4 (by simp [Value.oneCell']) (by unfold maxLen; omega) (by omega) (by simp; omega) ?_; intro v5 w5 own5 hg5 _)
                have b5 : Below wo.heap.size wo w5 := (Bb.alloc Bbs _).grown hg5 (by simp; omega) (fun k hk => (Ob.out.lt k hk).1)
                clear news4 own4 hg5
                go_roundw
                case rel => exact ⟨k + 1, by omega, by go_num, Lib.hid (by rw [HT.out, HK.out, List.length_append, flat_snoc]; exact own5), b5⟩
                case measure => simp [intOf]; omega
              · have hXb : (X != 32) = true := by simpa using hX
                have hXn : ¬ X = 32 := hX
                have HK : Hid ((if keepL (fL p) then [fL p] else []) = [(p, X, 63)]) := Lib.hid (by rw [HFL.out]; rw [if_pos (by simp [keepL, hXn])])
                have own4 := Ob.out.alloc (.cells #[.string p, .int .u8 X, .int .u8 63] 46)
                have news4 := news_one wb #[.string p, .int .u8 X, .int .u8 63] 46 wb.heap.size rfl
                go_wp2_with (at_builtin; refine wpList_append_own _ rfl _ _ 36 rfl wo.heap.size 46 i0 (.agg #[.string ⟨#[]⟩, .int .u8 0, .int .u8 0]) 3 24 Try.underlying36 hi hz0 hz1 hz2 rfl (by decide) _ _ _ rfl own4 ⟨wb.heap.size, 0, none⟩ 1 1 [.string p, .int .u8 X, .int .u8 63] rfl rfl news4 (by simp [Value.oneCell']) (by unfold maxLen; omega) (by omega) (by simp; omega) ?_; intro v5 w5 own5 hg5 _)
                have b5 : Below wo.heap.size wo w5 := (Bb.alloc Bbs _).grown hg5 (by simp; omega) (fun k hk => (Ob.out.lt k hk).1)
                clear news4 own4 hg5
                go_roundw
                case rel => exact ⟨k + 1, by omega, by go_num, Lib.hid (by rw [HT.out, HK.out, List.length_append, flat_snoc]; exact own5), b5⟩
                case measure => simp [intOf]; omega
          · have hyb : (Y == 65) = false := by simpa using hY
            go_wp2_with fail
            refine (W3.out wb Bb).mono ?_
            rintro e w' ⟨rfl, hw'⟩
            have hw2 : wb = w' := hw'.symm
            subst hw2
            cases hz with
            | true =>
              have HK : Hid ((if keepL (fL p) then [fL p] else []) = [(p, 85, 85)]) := Lib.hid (by rw [HH.out rfl]; rw [if_pos (by simp [keepL])])
              have own4 := Ob.out.alloc (.cells #[.string p, .int .u8 85, .int .u8 85] 46)
              have news4 := news_one wb #[.string p, .int .u8 85, .int .u8 85] 46 wb.heap.size rfl
              go_wp2_with (at_builtin; refine wpList_append_own _ rfl _ _ 36 rfl wo.heap.size 46 i0 (.agg #[.string ⟨#[]⟩, .int .u8 0, .int .u8 0]) 3 24 Try.underlying36 hi hz0 hz1 hz2 rfl (by decide) _ _ _ rfl own4 ⟨wb.heap.size, 0, none⟩ 1 1 [.string p, .int .u8 85, .int .u8 85] rfl rfl news4 (by simp [Value.oneCell']) (by unfold maxLen; omega) (by omega) (by simp; omega) ?_; intro v5 w5 own5 hg5 _)
              have b5 : Below wo.heap.size wo w5 := (Bb.alloc Bbs _).grown hg5 (by simp; omega) (fun k hk => (Ob.out.lt k hk).1)
              clear news4 own4 hg5
              go_roundw
              case rel => exact ⟨k + 1, by omega, by go_num, Lib.hid (by rw [HT.out, HK.out, List.length_append, flat_snoc]; exact own5), b5⟩
              case measure => simp [intOf]; omega
            | false =>
              have FL : fL p = (p, X, Y) := by rw [HN2.out rfl, if_neg hY]
              have HFL := Lib.hid FL
              clear FL HN2 HH
              by_cases hX : X = 32
              · subst hX
                by_cases hY2 : Y = 32
                · subst hY2
                  have HK : Hid ((if keepL (fL p) then [fL p] else []) = ([] : List Ln)) := Lib.hid (by rw [HFL.out]; rfl)
                  go_wp2
                  go_roundw
                  case rel => exact ⟨k + 1, by omega, by go_num, Lib.hid (by rw [HT.out, HK.out, List.append_nil]; exact Ob.out), Bb⟩
                  case measure => simp [intOf]; omega
                · have hYb : (Y != 32) = true := by simpa using hY2
                  have HK : Hid ((if keepL (fL p) then [fL p] else []) = [(p, 32, Y)]) := Lib.hid (by rw [HFL.out]; rw [if_pos (by simp [keepL, hY2])])
                  have own4 := Ob.out.alloc (.cells #[.string p, .int .u8 32, .int .u8 Y] 46)
                  have news4 := news_one wb #[.string p, .int .u8 32, .int .u8 Y] 46 wb.heap.size rfl
                  go_wp2_with (at_builtin; refine wpList_append_own _ rfl _ _ 36 rfl wo.heap.size 46 i0 (.agg #[.string ⟨#[]⟩, .int .u8 0, .int .u8 0]) 3 24 Try.underlying36 hi hz0 hz1 hz2 rfl (by decide) _ _ _ rfl own4 ⟨wb.heap.size, 0, none⟩ 1 1 [.string p, .int .u8 32, .int .u8 Y] rfl rfl news4 (by simp [Value.oneCell']) (by unfold maxLen; omega) (by omega) (by simp; omega) ?_; intro v5 w5 own5 hg5 _)
                  have b5 : Below wo.heap.size wo w5 := (Bb.alloc Bbs _).grown hg5 (by simp; omega) (fun k hk => (Ob.out.lt k hk).1)
                  clear news4 own4 hg5
                  go_roundw
                  case rel => exact ⟨k + 1, by omega, by go_num, Lib.hid (by rw [HT.out, HK.out, List.length_append, flat_snoc]; exact own5), b5⟩
                  case measure => simp [intOf]; omega
              · have hXb : (X != 32) = true := by simpa using hX
                have hXn : ¬ X = 32 := hX
                have HK : Hid ((if keepL (fL p) then [fL p] else []) = [(p, X, Y)]) := Lib.hid (by rw [HFL.out]; rw [if_pos (by simp [keepL, hXn])])
                have own4 := Ob.out.alloc (.cells #[.string p, .int .u8 X, .int .u8 Y] 46)
                have news4 := news_one wb #[.string p, .int .u8 X, .int .u8 Y] 46 wb.heap.size rfl
                go_wp2_with (at_builtin; refine wpList_append_own _ rfl _ _ 36 rfl wo.heap.size 46 i0 (.agg #[.string ⟨#[]⟩, .int .u8 0, .int .u8 0]) 3 24 Try.underlying36 hi hz0 hz1 hz2 rfl (by decide) _ _ _ rfl own4 ⟨wb.heap.size, 0, none⟩ 1 1 [.string p, .int .u8 X, .int .u8 Y] rfl rfl news4 (by simp [Value.oneCell']) (by unfold maxLen; omega) (by omega) (by simp; omega) ?_; intro v5 w5 own5 hg5 _)
                have b5 : Below wo.heap.size wo w5 := (Bb.alloc Bbs _).grown hg5 (by simp; omega) (fun k hk => (Ob.out.lt k hk).1)
                clear news4 own4 hg5
                go_roundw
                case rel => exact ⟨k + 1, by omega, by go_num, Lib.hid (by rw [HT.out, HK.out, List.length_append, flat_snoc]; exact own5), b5⟩
                case measure => simp [intOf]; omega
        · obtain rfl : k = ps.length := by omega
          rw [List.take_length] at hown
          have HB := Lib.hid (HB8.out.trans (hb.mono HB8.out.size))
          have HO := Lib.hid (own_base hown.out HB8.out.size)
          clear hown hb
          go_wp2
          go_ret
          exact ⟨_, rfl, by rw [HRW.out]; exact HO.out, HB.out⟩
end Go.Proofs.Ytkdoccmflknipaa
