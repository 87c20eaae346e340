/-
  The document's disk: an op done, no power cut armed.
-/
import Derived.Test.YtcnmlgmlijgmhaaDoorUC

namespace Go.Proofs.YtcnmlgmlijgmhaaDoor
open Go Go.RowKit Go.Shelf Go.Maps

section
variable {w : World} {B G : Nat} {K : Value → List Bool → Prop} {kv nv wv kev : Value} {left : Int} {D : DK}
set_option maxRecDepth 100000 in
set_option maxHeartbeats 8000000 in
theorem ddo_upn (h : DocIs w B G K kv nv wv left kev D) (o : Ov) (ha : D.armed = 0) (hr : refO D.T o = 0) (hB : B ≤ w.heap.size) (hp : D.ps.length ≤ 1000) (hl : D.T.length ≤ 1000) (hT : Short D.T) (hok : okP o) (o0 : 0 ≤ D.ops) (o1 : D.ops ≤ 1000000) :
    Calls Tryd.prog 42 #[.pointer (some ⟨G, 0, none⟩), .agg (aD (od o))] w fun e w' => ∃ nv' wv' left', e = .returned (.int .i64 0) ∧ DocIs w' B G K kv nv' wv' left' kev { D with T := doO D.T o, ps := D.ps ++ [o], ops := D.ops + 1, armed := 0 } ∧ Turns w w' (fun k => k = G) := by
  obtain ⟨An, cn, rfl⟩ := own_form h.n
  obtain ⟨Aw, cw, rfl⟩ := own_form h.p
  obtain ⟨T', hT'⟩ : ∃ T', T' = doO D.T o := ⟨_, rfl⟩
  obtain ⟨d, hd⟩ : ∃ d, d = od o := ⟨_, rfl⟩
  have hst : stepO D.T o = doO D.T o := by unfold stepO; rw [if_pos hr]
  have LDW := Lib.hid (fun (W : World) (u : Value) (hu : OOwn W B u D.T) (hs : B ≤ W.heap.size) => laid_od W B u D.T o hu hs (by omega) hT hok)
  rw [← hd, hst, ← hT'] at LDW
  rw [← hd, ← hT']
  clear hT'
  have HDD := Lib.hid hd
  have h1 := h.b.below ((Below.refl w.heap.size w).alloc (Nat.le_refl _) (.cells (aD d) 90))
  have T1 := Turns.of_below (X := fun k => k = G) ((Below.refl w.heap.size w).alloc (Nat.le_refl _) (.cells (aD d) 90))
  have X1 := Blk.new w 90 (aD d)
  have c7 := h1.x.cell 7
  have HA := Lib.hid h.a
  have HLO := Lib.hid h.lo
  have HN := Lib.hid (And.intro hB (And.intro hp (And.intro hl (And.intro o0 o1))))
  have XG := Lib.hid (show w.heap.size ≠ G by have := h.x.lt; omega)
  have H2 := Lib.hid h1
  have T2 := Lib.hid T1
  have X2 := Lib.hid X1
  rw [ha] at c7
  have HAA := Lib.hid ha
  clear h h1 T1 X1 hr hB hp hl hT hok o0 o1 ha hd hst
  go_enter Tryd.func42, Tryd.ntmps42
  go_upto_region 6 with fail
  generalize hW : w.alloc (.cells (aD d) 90) = W at *
  obtain ⟨X, hX⟩ : ∃ X, X = w.heap.size := ⟨_, rfl⟩
  rw [← hX] at X2 XG ⊢
  have HXS := Lib.hid hX
  clear hX hW c7 
  have HB := Lib.hid (Nat.le_trans HN.out.1 T2.out.size)
  have X2d : Blk W.drew X 90 (aD d) := X2.out
  have G2d := (show Blk W.drew G 31 _ from H2.out.x)
  have ZZ := Lib.hid fun W (hx : Blk W X 90 (aD d)) => (⟨hx.cell 0, hx.cell 1, hx.cell 2, hx.cell 3, hx.cell 4, hx.cell 5, hx.cell 6, hx.cell 7⟩ : W.cell? ⟨X, 0, none⟩ = some (.int .i64 d.1) ∧ W.cell? ⟨X, 1, none⟩ = some (.string d.2.1.1) ∧ W.cell? ⟨X, 2, none⟩ = some (.string d.2.1.2.1) ∧ W.cell? ⟨X, 3, none⟩ = some (.int .i64 d.2.1.2.2.1) ∧ W.cell? ⟨X, 4, none⟩ = some (.int .i64 d.2.1.2.2.2.1) ∧ W.cell? ⟨X, 5, none⟩ = some (.int .i64 d.2.1.2.2.2.2) ∧ W.cell? ⟨X, 6, none⟩ = some (.string d.2.2.1) ∧ W.cell? ⟨X, 7, none⟩ = some (.string d.2.2.2))
  have z0 := ZZ.out W.drew X2d
  have zg := G2d.cell 1
  have LD := Lib.hid (LDW.out W.drew (.slice An D.T.length cn) H2.out.n HB.out)
  have q0 := z0.1
  have q1 := z0.2.1
  have q2 := z0.2.2.1
  have q3 := z0.2.2.2.1
  have q4 := z0.2.2.2.2.1
  have q5 := z0.2.2.2.2.2.1
  have q6 := z0.2.2.2.2.2.2.1
  have q7 := z0.2.2.2.2.2.2.2
  have Xl0 : X < W.drew.heap.size := X2d.lt
  have Gl0 : G < W.drew.heap.size := G2d.lt
  go_region_with (go_at_call 70; go_loud (refine LD.out.mono ?_; rintro e w5 ⟨u5, rfl, o5, b5⟩; obtain ⟨Au, cu, rfl⟩ := own_form o5; have X5 := X2d.below b5 X2d.lt; have G5 := G2d.below b5 G2d.lt; have k1 := G5.cell 1; have l1 := G5.frozen 1))
  all_goals
    have B5 : Below W.heap.size W w5 := ⟨b5.os, b5.tape, b5.output, b5.size, b5.block⟩
    obtain ⟨uv, huv⟩ : ∃ v, v = Value.slice Au T'.length cu := ⟨_, rfl⟩
    have H5 := H2.out.below B5
    rw [← huv] at o5
    have x7 := G5.set_ 1 uv
    have H7 : DocB (w5.setCell ⟨G, 1, none⟩ uv) B G kv uv (.slice Aw D.ps.length cw) left kev { D with T := T' } :=
      ⟨by simpa using x7, row_far H5.k G5 (by decide) 1 _, row_far o5 G5 (by decide) 1 _, row_far H5.p G5 (by decide) 1 _, H5.lo⟩
    have HD7 := Lib.hid H7
    have HX7 := Lib.hid (X5.far (p := ⟨G, 1, none⟩) XG.out uv)
    have T7 := Lib.hid ((T2.out.trans (Turns.of_below B5)).trans (Turns.cell _ G 1 uv))
    have HUV := Lib.hid huv
    rw [← huv]
    clear b5 o5 B5 H5 x7 H7 X5 G5 k1 l1 z0 zg X2d G2d LD LDW ZZ H2 T2 X2 huv q0 q1 q2 q3 q4 q5 q6 q7 Xl0 Gl0
    go_upto_region 7 with fail
    generalize hW7 : w5.setCell ⟨G, 1, none⟩ uv = W7 at *
    clear hW7
    have RW : Reads 8 cD W7.drew (.slice Aw D.ps.length cw) (D.ps.map od) := HD7.out.reads
    have hn1 : D.ps.length = ([] ++ D.ps.map od).length := by simp
    have HN1 := Lib.hid hn1
    have hn2 : D.ps.length + 1 = (([] ++ D.ps.map od) ++ [d]).length := by simp
    have HN2 := Lib.hid hn2
    have Bz := Lib.hid (show Below W7.heap.size W7 W7.drew from (Below.refl _ W7).drew)
    have Kd : Blk W7.drew X 90 (aD d) := HX7.out
    have Gd : Blk W7.drew G 31 _ := HD7.out.x
    have Xl := Lib.hid (show X < W7.heap.size from HX7.out.lt)
    have Gl := Lib.hid (show G < W7.heap.size from HD7.out.x.lt)
    have ZZ := Lib.hid fun W (hx : Blk W X 90 (aD d)) => (⟨hx.cell 0, hx.cell 1, hx.cell 2, hx.cell 3, hx.cell 4, hx.cell 5, hx.cell 6, hx.cell 7⟩ : W.cell? ⟨X, 0, none⟩ = some (.int .i64 d.1) ∧ W.cell? ⟨X, 1, none⟩ = some (.string d.2.1.1) ∧ W.cell? ⟨X, 2, none⟩ = some (.string d.2.1.2.1) ∧ W.cell? ⟨X, 3, none⟩ = some (.int .i64 d.2.1.2.2.1) ∧ W.cell? ⟨X, 4, none⟩ = some (.int .i64 d.2.1.2.2.2.1) ∧ W.cell? ⟨X, 5, none⟩ = some (.int .i64 d.2.1.2.2.2.2) ∧ W.cell? ⟨X, 6, none⟩ = some (.string d.2.2.1) ∧ W.cell? ⟨X, 7, none⟩ = some (.string d.2.2.2))
    have z0 := ZZ.out W7.drew Kd
    have zg0 := Gd.cell 2
    have Gr : Blk W7 G 31 _ := HD7.out.x
    have zgE := (Gr.alloc (.cells #[] 90)).cell 2
    have zgS := (Gr.alloc (.cells (aD d) 90)).cell 2
    have zgES := ((Gr.alloc (.cells #[] 90)).alloc (.cells (aD d) 90)).cell 2
    have zgSE := ((Gr.alloc (.cells (aD d) 90)).alloc (.cells #[] 90)).cell 2
    have zE := ZZ.out _ (HX7.out.alloc (.cells #[] 90))
    have r0 := zE.1
    have r1 := zE.2.1
    have r2 := zE.2.2.1
    have r3 := zE.2.2.2.1
    have r4 := zE.2.2.2.2.1
    have r5 := zE.2.2.2.2.2.1
    have r6 := zE.2.2.2.2.2.2.1
    have r7 := zE.2.2.2.2.2.2.2
    have Ba := Bz.out.alloc Bz.out.size (.cells #[] 90)
    have Oa := own_made_ods W7.drew
    have Ra := RW.alloc (.cells #[] 90)
    have Bb := Ba.alloc Ba.size (.cells (aD d) 90)
    have Ob := Oa.alloc (.cells (aD d) 90)
    have Rb := Ra.alloc (.cells (aD d) 90)
    have Bs := Bz.out.alloc Bz.out.size (.cells (aD d) 90)
    have Bc := Bs.alloc Bs.size (.cells #[] 90)
    have Oc : ((W7.drew.alloc (.cells (aD d) 90)).alloc (.cells #[] 90)).ownsRow W7.heap.size 90 8 (.slice (some ⟨W7.heap.size + 1, 0, none⟩) 0 0) ([] : List Od).length (([] : List Od).flatMap cD) := by
      have := ownsRow_base_a (own_made_ods (W7.drew.alloc (.cells (aD d) 90))) (show W7.heap.size ≤ _ by simp)
      simpa using this
    have Rc := (RW.alloc (.cells (aD d) 90)).alloc (.cells #[] 90)
    have hpl := HN.out.2.1
    have hl1 : ([] : List Od).length + (D.ps.map od).length ≤ 1000000 := by simp; omega
    have hl2 : ([] ++ D.ps.map od).length + [d].length ≤ 1000000 := by simp; omega
    have hsa := Ba.size
    have hsb := Bb.size
    have hsc := Bc.size
    clear hn1 hn2 RW Kd Gd Gr zE
    have q0 := z0.1
    have q1 := z0.2.1
    have q2 := z0.2.2.1
    have q3 := z0.2.2.2.1
    have q4 := z0.2.2.2.2.1
    have q5 := z0.2.2.2.2.2.1
    have q6 := z0.2.2.2.2.2.2.1
    have q7 := z0.2.2.2.2.2.2.2
    have Xl0 : X < W7.drew.heap.size := Xl.out
    have Gl0 : G < W7.drew.heap.size := Gl.out
    go_region_law
      (first
        | (refine step_append_ods _ rfl _ _ rfl W7.heap.size (.slice (some ⟨W7.heap.size, 0, none⟩) 0 0) [] (D.ps.map od) rfl Oa Aw D.ps.length cw rfl Ra hl1 hsa D.ps.length HN1.out ?_; intro A8 c8 w8 o8' b8 g8; have B9 := (Ba.trans b8).alloc (Ba.trans b8).size (.cells (aD d) 90); have k8 : Blk w8 X 90 (aD d) := (show Blk (W7.drew.alloc (.cells #[] 90)) X 90 _ from Blk.alloc HX7.out _).below b8 Xl.out; have z8 := ZZ.out w8 k8; have t0 := z8.1; have t1 := z8.2.1; have t2 := z8.2.2.1; have t3 := z8.2.2.2.1; have t4 := z8.2.2.2.2.1; have t5 := z8.2.2.2.2.2.1; have t6 := z8.2.2.2.2.2.2.1; have t7 := z8.2.2.2.2.2.2.2; have o8 := o8'.alloc (.cells (aD d) 90); have r8 := reads_one_ods d (Blk.new w8 90 (aD d)); have s8 := B9.size)
        | (refine step_append_ods _ rfl _ _ rfl W7.heap.size (.slice (some ⟨W7.heap.size, 0, none⟩) 0 0) [] (D.ps.map od) rfl Ob Aw D.ps.length cw rfl Rb hl1 hsb D.ps.length HN1.out ?_; intro A8 c8 w8 o8 b8 g8; have B9 := Bb.trans b8; have k8 : Blk w8 X 90 (aD d) := (show Blk ((W7.drew.alloc (.cells #[] 90)).alloc (.cells (aD d) 90)) X 90 _ from Blk.alloc (Blk.alloc HX7.out _) _).below b8 Xl.out; have z8 := ZZ.out w8 k8; have t0 := z8.1; have t1 := z8.2.1; have t2 := z8.2.2.1; have t3 := z8.2.2.2.1; have t4 := z8.2.2.2.2.1; have t5 := z8.2.2.2.2.2.1; have t6 := z8.2.2.2.2.2.2.1; have t7 := z8.2.2.2.2.2.2.2; have r8 : Reads 8 cD w8 (.slice (some ⟨W7.heap.size + 1, 0, none⟩) 1 1) [d] := (by have := reads_one_ods d ((Blk.new (W7.drew.alloc (.cells #[] 90)) 90 (aD d)).grown g8 (by simp [Value.ownBlock])); simpa using this); have s8 := B9.size)
        | (refine step_append_ods _ rfl _ _ rfl W7.heap.size (.slice (some ⟨W7.heap.size + 1, 0, none⟩) 0 0) [] (D.ps.map od) rfl Oc Aw D.ps.length cw rfl Rc hl1 hsc D.ps.length HN1.out ?_; intro A8 c8 w8 o8 b8 g8; have B9 := Bc.trans b8; have k8 : Blk w8 X 90 (aD d) := (show Blk ((W7.drew.alloc (.cells (aD d) 90)).alloc (.cells #[] 90)) X 90 _ from Blk.alloc (Blk.alloc HX7.out _) _).below b8 Xl.out; have z8 := ZZ.out w8 k8; have t0 := z8.1; have t1 := z8.2.1; have t2 := z8.2.2.1; have t3 := z8.2.2.2.1; have t4 := z8.2.2.2.2.1; have t5 := z8.2.2.2.2.2.1; have t6 := z8.2.2.2.2.2.2.1; have t7 := z8.2.2.2.2.2.2.2; have r8 : Reads 8 cD w8 (.slice (some ⟨W7.heap.size, 0, none⟩) 1 1) [d] := reads_one_ods d (((Blk.new W7.drew 90 (aD d)).alloc (.cells #[] 90)).grown g8 (by simp [Value.ownBlock])); have s8 := B9.size)
        | (refine step_append_ods _ rfl _ _ rfl W7.heap.size _ ([] ++ D.ps.map od) [d] rfl o8 _ 1 1 rfl r8 hl2 s8 (D.ps.length + 1) HN2.out ?_; intro A9 c9 w9 o9 b9 g9; have B10 := B9.trans b9; have z9 := ZZ.out w9 (HX7.out.below B10 Xl.out); have G9 := HD7.out.x.below B10 Gl.out; have y2 := G9.cell 2; have m2 := G9.frozen 2))
    all_goals
      obtain ⟨wv', hwv⟩ : ∃ v, v = Value.slice A9 (D.ps.length + 1) c9 := ⟨_, rfl⟩
      have H9 := HD7.out.below B10
      have e9 : ([] ++ D.ps.map od) ++ [d] = (D.ps ++ [o]).map od := by rw [HDD.out]; simp
      rw [← hwv, e9, List.length_map] at o9
      have o9b := ownsRow_base_a o9 (show B ≤ W7.heap.size from Nat.le_trans HN.out.1 T7.out.size)
      have x10 := G9.set_ 2 wv'
      have H10 : DocB (w9.setCell ⟨G, 2, none⟩ wv') B G kv uv wv' left kev { D with T := T', ps := D.ps ++ [o] } :=
        ⟨by simpa using x10, row_far H9.k G9 (by decide) 2 _, row_far H9.n G9 (by decide) 2 _, row_far o9b G9 (by decide) 2 _, H9.lo⟩
      have HH10 := Lib.hid H10
      have T10 := Lib.hid ((T7.out.trans (Turns.of_below B10)).trans (Turns.cell _ G 2 wv'))
      have c10 := H10.x.cell 10
      have f10 := H10.x.frozen 10
      have hops := HN.out.2.2.2
      rw [← hwv]
      clear o9 o9b B10 z9 G9 y2 m2 H9 x10 H10 o8 r8 s8 b8 g8 b9 g9 B9 k8 z8 t0 t1 t2 t3 t4 t5 t6 t7 z0 q0 q1 q2 q3 q4 q5 q6 q7 r0 r1 r2 r3 r4 r5 r6 r7 Xl0 Gl0 zg0 zgE zgS zgES zgSE Ba Oa Ra Bb Ob Rb Bs Bc Oc Rc hsa hsb hsc e9 hwv
      go_wp2_with fail
      go_ret
      exact ⟨rfl, ⟨uv, wv', _, doc_fin HH10.out (by rw [HAA.out]) (fun h => absurd rfl h)⟩, T10.out.trans (Turns.cell _ G 10 _)⟩
end
end Go.Proofs.YtcnmlgmlijgmhaaDoor
