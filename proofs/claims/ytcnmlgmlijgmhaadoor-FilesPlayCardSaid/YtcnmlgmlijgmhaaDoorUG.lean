/-
  Both disks: Edit.
  Both disks: Unlink.
  Both disks: Arm; what is no call.
  Both disks: any act.
-/
import Derived.Test.YtcnmlgmlijgmhaaDoorUE

namespace Go.Proofs.YtcnmlgmlijgmhaaDoor
open Go Go.RowKit Go.Shelf Go.Maps

section
variable {w0 w : World} {L : Loc} {G N : Nat} {kv nv wv kev : Value} {left : Int} {D : DK}
set_option maxRecDepth 100000 in
set_option maxHeartbeats 8000000 in
theorem both_8 (h : Pair w0 w L G N kv nv wv kev left D) (F : Fit D) (mode n : Int) (p q : ByteArray) (s : ByteArray) (Ab Ak : Option Addr) (cb nk ck : Nat) (hv : ∀ W, Below w0.heap.size w0 W → (convert 32 9 (.slice Ab s.size cb)).run Tryd.prog W = .ok (.string s) W) (hs : s.size ≤ 1000000000) (hp : p.size ≤ 1000) (hN : N ≤ 1000000) :
    Calls Tryd.prog 14 #[.pointer (some ⟨L.F, 0, none⟩), .pointer (some ⟨G, 0, none⟩), .agg (actC 8 mode n p q (.slice Ab s.size cb) (.slice Ak nk ck))] w fun e w' => ∃ L' kv' nv' wv' kev' left', e = .returned (.bool true) ∧ Pair w0 w' L' G (N + 1) kv' nv' wv' kev' left' (edD D p mode s) ∧ L'.F = L.F := by
  have P1 := h.alloc (.cells (actC 8 mode n p q (.slice Ab s.size cb) (.slice Ak nk ck)) 34)
  have HP := Lib.hid P1
  have K1 := Lib.hid (Blk.new w 34 (actC 8 mode n p q (.slice Ab s.size cb) (.slice Ak nk ck)))
  have BI : BytesIn (w.alloc (.cells (actC 8 mode n p q (.slice Ab s.size cb) (.slice Ak nk ck)) 34)) L.foot (.slice Ab s.size cb) s := ⟨⟨_, _, rfl⟩, fun w' ht => hv w' (P1.b.trans (ht.base (fun k hf => P1.d.foot_lo k hf) P1.b0))⟩
  have TK := Lib.hid (edit_d P1.d p mode (.slice Ab s.size cb) s BI hs F.us hp hN P1.b0 F.hi.1 F.hi.2)
  obtain ⟨An, cn, rfl⟩ := own_form P1.g.n
  have HF := Lib.hid F
  have HS := Lib.hid (And.intro P1.d.sT P1.d.sS)
  have HV := Lib.hid hv
  have hvs := hs
  have CA := Lib.hid (fun W (g : DocIs W w0.heap.size G (fun v l => Reads 1 cB w0 v l) kv (.slice An D.T.length cn) wv left kev D) => cause_any g p mode s.size HF.out.hl HF.out.us HS.out.1 hp hs)
  have FI := Lib.hid (fun W (g : DocIs W w0.heap.size G (fun v l => Reads 1 cB w0 v l) kv (.slice An D.T.length cn) wv left kev D) => (show Calls Tryd.prog 43 #[.pointer (some ⟨G, 0, none⟩), .string p, .int .i64 mode, .string s] W fun e w' => e = .returned (.agg #[.string p, .string s, .int .i64 mode, .int .i64 D.now, .int .i64 (inoOf D.T p D.ino)]) ∧ DocIs w' w0.heap.size G (fun v l => Reads 1 cB w0 v l) kv (.slice An D.T.length cn) wv left kev { D with ino := inoNew D.T p D.ino } ∧ Turns W w' (fun k => k = G) from file_any g p mode s HF.out.hl HF.out.hi.1 HF.out.hi.2))
  unfold edD at TK ⊢
  obtain ⟨r, hr⟩ : ∃ r, r = refF D p mode s.size := ⟨_, rfl⟩
  rw [← hr] at TK CA ⊢
  by_cases hr0 : r = 0
  · subst hr0
    rw [if_pos rfl] at TK
    rw [if_pos rfl]
    have PU := Lib.hid (fun W (g : DocIs W w0.heap.size G (fun v l => Reads 1 cB w0 v l) kv (.slice An D.T.length cn) wv left kev { D with ino := inoNew D.T p D.ino }) => (show Calls Tryd.prog 50 #[.slice An D.T.length cn, .agg #[.string p, .string s, .int .i64 mode, .int .i64 D.now, .int .i64 (inoOf D.T p D.ino)]] W fun e w' => ∃ u, e = .returned u ∧ OOwn w' W.heap.size u (edT D p mode s) ∧ Below W.heap.size W w' from put50_any W _ D.T p ⟨mode, D.now, inoOf D.T p D.ino, s⟩ (OOwn.reads g.n) (by have := HF.out.hl; omega)))
    obtain ⟨T', hT'⟩ : ∃ T', T' = edT D p mode s := ⟨_, rfl⟩
    obtain ⟨i1, hi1⟩ : ∃ i1, i1 = inoOf D.T p D.ino := ⟨_, rfl⟩
    obtain ⟨i2, hi2⟩ : ∃ i1, i1 = inoNew D.T p D.ino := ⟨_, rfl⟩
    rw [← hT'] at TK PU ⊢
    rw [← hi2] at TK PU FI ⊢
    rw [← hi1] at PU FI
    clear h P1 F BI hv hs hp hN hr hT' hi1 hi2
    go_enter Tryd.func14, Tryd.ntmps14
    have hv := HV.out
    go_upto_region 57 with (first
      | (go_at_call 32; refine TK.out.mono ?_; rintro e w2 ⟨L', rfl, d2, n2⟩; have H2 := Lib.hid (Half.mk d2 (HP.out.disk n2).1 (HP.out.disk n2).2); have HF2 := Lib.hid n2.F; have K2 := Lib.hid (K1.out.turns n2.t (HP.out.d.blkFar K1.out (by decide) (by decide))); have k21 := K2.out.cell 1; have k23 := K2.out.cell 3; have k25 := K2.out.cell 5; clear d2 n2)
      | (go_at_call 41; refine (CA.out _ H2.out.g).mono ?_; rintro e w3 ⟨rfl, b3⟩; have H3 := Lib.hid (H2.out.below b3); have K3 := Lib.hid (K2.out.below b3 K2.out.lt); have k31 := K3.out.cell 1; have k33 := K3.out.cell 3; have k35 := K3.out.cell 5; have c31 := H3.out.g.x.cell 1; have c35 := H3.out.g.x.cell 5; clear b3 k21 k23 k25))
    clear hv
    have H3d := Lib.hid (H3.out.below (Below.refl w3.heap.size w3).drew)
    have x1 : w3.drew.cell? ⟨G, 1, none⟩ = some (.slice An D.T.length cn) := H3d.out.g.x.cell 1
    have K3d : Blk w3.drew w.heap.size 34 (actC 8 mode n p q (.slice Ab s.size cb) (.slice Ak nk ck)) := K3.out
    have y1 := K3d.cell 1
    have y3 := K3d.cell 3
    have y5 := K3d.cell 5
    have V3 := HV.out w3.drew H3d.out.b
    have V4 := HV.out w3 H3.out.b
    have F5 := Lib.hid (FI.out w3.drew H3d.out.g)
    clear c35
    have ZZ := Lib.hid fun W (hx : Blk W w.heap.size 34 (actC 8 mode n p q (.slice Ab s.size cb) (.slice Ak nk ck))) => (⟨hx.cell 3, hx.cell 1, hx.cell 5⟩ : W.cell? ⟨w.heap.size, 3, none⟩ = some (.string p) ∧ W.cell? ⟨w.heap.size, 1, none⟩ = some (.int .i64 mode) ∧ W.cell? ⟨w.heap.size, 5, none⟩ = some (.slice Ab s.size cb))
    have z0 := ZZ.out w3.drew K3d
    have NG := Lib.hid (H3d.out.g.x.ne_ K3d (by decide))
    have HK3 := Lib.hid K3d
    clear y1 y3 y5 k31 k33 k35 c31 K3d V4
    refine wp_region_held_drew (S := (fun w' => (w'.cell? ⟨w.heap.size, 3, none⟩ = some (.string p) ∧ w'.cell? ⟨w.heap.size, 1, none⟩ = some (.int .i64 mode) ∧ w'.cell? ⟨w.heap.size, 5, none⟩ = some (.slice Ab s.size cb)) ∧ (convert 32 9 (.slice Ab s.size cb)).run Tryd.prog w' = .ok (.string s) w')) (by kernel_rfl) ⟨z0, V3⟩ (fun hHeld => ?_)
    refine wpAnyH_take (i := 0) (oi := { dst := some 231, op := Op.move (Operand.tmp 1), type := 26, pos := "law.go:281", after := #[], guard := none }) (v := ?vp0) rfl (by kernel_rfl) (by kernel_rfl) (by kernel_rfl) (fun _ _ _ h => h) (Or.inl ⟨by rfl, ?yp0⟩) (by assumption) ?rp0
    case yp0 => (intro w' hSw; (try dsimp only at hSw); go_split_ands; go_simp; try with_reducible rfl)
    try simp only [Act.put, List.setIfInBounds_toArray, List.set_cons_zero, List.set_cons_succ]
    refine wpAnyH_take (i := 1) (oi := { dst := some 232, op := Op.move (Operand.tmp 1), type := 26, pos := "law.go:281", after := #[], guard := none }) (v := ?vp1) rfl (by kernel_rfl) (by kernel_rfl) (by kernel_rfl) (fun _ _ _ h => h) (Or.inl ⟨by rfl, ?yp1⟩) (by assumption) ?rp1
    case yp1 => (intro w' hSw; (try dsimp only at hSw); go_split_ands; go_simp; try with_reducible rfl)
    try simp only [Act.put, List.setIfInBounds_toArray, List.set_cons_zero, List.set_cons_succ]
    refine wpAnyH_take (i := 2) (oi := { dst := some 233, op := Op.nilCheck (Operand.tmp 232), type := 0, pos := "law.go:281", after := #[{ on := 1, ground := Ground.data }], guard := none }) (v := ?vp2) rfl (by kernel_rfl) (by kernel_rfl) (by kernel_rfl) (fun _ _ _ h => h) (Or.inl ⟨by rfl, ?yp2⟩) (by assumption) ?rp2
    case yp2 => (intro w' hSw; (try dsimp only at hSw); go_split_ands; go_simp; try with_reducible rfl)
    try simp only [Act.put, List.setIfInBounds_toArray, List.set_cons_zero, List.set_cons_succ]
    refine wpAnyH_take (i := 3) (oi := { dst := some 234, op := Op.fieldAddr 31 (Operand.tmp 233) 1, type := 0, pos := "law.go:281", after := #[{ on := 2, ground := Ground.data }], guard := none }) (v := ?vp3) rfl (by kernel_rfl) (by kernel_rfl) (by kernel_rfl) (fun _ _ _ h => h) (Or.inl ⟨by rfl, ?yp3⟩) (by assumption) ?rp3
    case yp3 => (intro w' hSw; (try dsimp only at hSw); go_split_ands; go_simp; try with_reducible rfl)
    try simp only [Act.put, List.setIfInBounds_toArray, List.set_cons_zero, List.set_cons_succ]
    refine wpAnyH_take (i := 5) (oi := { dst := some 236, op := Op.move (Operand.tmp 1), type := 26, pos := "law.go:281", after := #[], guard := none }) (v := ?vp5) rfl (by kernel_rfl) (by kernel_rfl) (by kernel_rfl) (fun _ _ _ h => h) (Or.inl ⟨by rfl, ?yp5⟩) (by assumption) ?rp5
    case yp5 => (intro w' hSw; (try dsimp only at hSw); go_split_ands; go_simp; try with_reducible rfl)
    try simp only [Act.put, List.setIfInBounds_toArray, List.set_cons_zero, List.set_cons_succ]
    refine wpAnyH_take (i := 6) (oi := { dst := some 237, op := Op.fieldAddr 34 (Operand.tmp 5) 3, type := 0, pos := "law.go:281", after := #[], guard := none }) (v := ?vp6) rfl (by kernel_rfl) (by kernel_rfl) (by kernel_rfl) (fun _ _ _ h => h) (Or.inl ⟨by rfl, ?yp6⟩) (by assumption) ?rp6
    case yp6 => (intro w' hSw; (try dsimp only at hSw); go_split_ands; go_simp; try with_reducible rfl)
    try simp only [Act.put, List.setIfInBounds_toArray, List.set_cons_zero, List.set_cons_succ]
    refine wpAnyH_take (i := 7) (oi := { dst := some 238, op := Op.load 9 (Operand.tmp 237), type := 9, pos := "law.go:281", after := #[{ on := 6, ground := Ground.data }], guard := none }) (v := ?vp7) rfl (by kernel_rfl) (by kernel_rfl) (by kernel_rfl) (fun _ _ _ h => h) (Or.inl ⟨by rfl, ?yp7⟩) (by assumption) ?rp7
    case yp7 => (intro w' hSw; (try dsimp only at hSw); go_split_ands; go_simp; try with_reducible rfl)
    try simp only [Act.put, List.setIfInBounds_toArray, List.set_cons_zero, List.set_cons_succ]
    refine wpAnyH_take (i := 8) (oi := { dst := some 239, op := Op.fieldAddr 34 (Operand.tmp 5) 1, type := 0, pos := "law.go:281", after := #[], guard := none }) (v := ?vp8) rfl (by kernel_rfl) (by kernel_rfl) (by kernel_rfl) (fun _ _ _ h => h) (Or.inl ⟨by rfl, ?yp8⟩) (by assumption) ?rp8
    case yp8 => (intro w' hSw; (try dsimp only at hSw); go_split_ands; go_simp; try with_reducible rfl)
    try simp only [Act.put, List.setIfInBounds_toArray, List.set_cons_zero, List.set_cons_succ]
    refine wpAnyH_take (i := 9) (oi := { dst := some 240, op := Op.load 3 (Operand.tmp 239), type := 3, pos := "law.go:281", after := #[{ on := 8, ground := Ground.data }], guard := none }) (v := ?vp9) rfl (by kernel_rfl) (by kernel_rfl) (by kernel_rfl) (fun _ _ _ h => h) (Or.inl ⟨by rfl, ?yp9⟩) (by assumption) ?rp9
    case yp9 => (intro w' hSw; (try dsimp only at hSw); go_split_ands; go_simp; try with_reducible rfl)
    try simp only [Act.put, List.setIfInBounds_toArray, List.set_cons_zero, List.set_cons_succ]
    refine wpAnyH_take (i := 10) (oi := { dst := some 241, op := Op.fieldAddr 34 (Operand.tmp 5) 5, type := 0, pos := "law.go:281", after := #[], guard := none }) (v := ?vp10) rfl (by kernel_rfl) (by kernel_rfl) (by kernel_rfl) (fun _ _ _ h => h) (Or.inl ⟨by rfl, ?yp10⟩) (by assumption) ?rp10
    case yp10 => (intro w' hSw; (try dsimp only at hSw); go_split_ands; go_simp; try with_reducible rfl)
    try simp only [Act.put, List.setIfInBounds_toArray, List.set_cons_zero, List.set_cons_succ]
    refine wpAnyH_take (i := 11) (oi := { dst := some 242, op := Op.load 32 (Operand.tmp 241), type := 32, pos := "law.go:281", after := #[{ on := 10, ground := Ground.data }], guard := none }) (v := ?vp11) rfl (by kernel_rfl) (by kernel_rfl) (by kernel_rfl) (fun _ _ _ h => h) (Or.inl ⟨by rfl, ?yp11⟩) (by assumption) ?rp11
    case yp11 => (intro w' hSw; (try dsimp only at hSw); go_split_ands; go_simp; try with_reducible rfl)
    try simp only [Act.put, List.setIfInBounds_toArray, List.set_cons_zero, List.set_cons_succ]
    refine wpAnyH_take (i := 12) (oi := { dst := some 243, op := Op.convert 32 9 (Operand.tmp 242), type := 9, pos := "law.go:281", after := #[{ on := 11, ground := Ground.data }], guard := none }) (v := ?vp12) rfl (by kernel_rfl) (by kernel_rfl) (by kernel_rfl) (fun _ _ _ h => h) (Or.inl ⟨by rfl, ?yp12⟩) (by assumption) ?rp12
    case yp12 => (intro w' hSw; (try dsimp only at hSw); go_split_ands; go_simp; try with_reducible rfl)
    try simp only [Act.put, List.setIfInBounds_toArray, List.set_cons_zero, List.set_cons_succ]
    refine wpAnyH_ready (rs := [4, 13]) (by kernel_rfl) (by simp) ?_
    refine AllReadyH.cons (o := { dst := some 235, op := Op.load 27 (Operand.tmp 234), type := 27, pos := "law.go:281", after := #[{ on := 3, ground := Ground.data }], guard := none }) rfl (fun K hK => ?_) (AllReadyH.cons (o := { dst := some 244, op := Op.call { callee := Callee.value (Operand.func 43), args := #[Operand.tmp 236, Operand.tmp 238, Operand.tmp 240, Operand.tmp 243], argTypes := #[26, 9, 3, 9] }, type := 87, pos := "law.go:281", after := #[{ on := 5, ground := Ground.data }, { on := 7, ground := Ground.data }, { on := 9, ground := Ground.data }, { on := 12, ground := Ground.data }], guard := none }) rfl (fun K hK => ?_) AllReadyH.nil)
    · go_simp
      refine hK.out _ _ (⟨z0, V3⟩) (fun hA => ?_)
      clear hK K hHeld
      try simp only [Act.put, List.setIfInBounds_toArray, List.set_cons_zero, List.set_cons_succ]
      refine wpAnyH_ready (rs := [13]) (by kernel_rfl) (by simp) ?_
      refine AllReadyH.cons (o := { dst := some 244, op := Op.call { callee := Callee.value (Operand.func 43), args := #[Operand.tmp 236, Operand.tmp 238, Operand.tmp 240, Operand.tmp 243], argTypes := #[26, 9, 3, 9] }, type := 87, pos := "law.go:281", after := #[{ on := 5, ground := Ground.data }, { on := 7, ground := Ground.data }, { on := 9, ground := Ground.data }, { on := 12, ground := Ground.data }], guard := none }) rfl (fun K hK => ?_) AllReadyH.nil
      go_simp
      go_at_call 43
      refine F5.out.mono ?_
      rintro e w5 ⟨rfl, g5, t5⟩
      have H5 := Lib.hid (H3d.out.doc t5 g5)
      have k51 := H5.out.g.x.cell 1
      have P5 := Lib.hid (PU.out w5 g5)
      have K5 := Lib.hid (HK3.out.turns t5 (fun e => NG.out e.symm))
      have z5 := ZZ.out w5 K5.out
      have V5 := HV.out w5 H5.out.b
      clear g5
      dsimp only
      refine hK.out _ _ (⟨z5, V5⟩) (fun hB => ?_)
      clear hK K hA
      try simp only [Act.put, List.setIfInBounds_toArray, List.set_cons_zero, List.set_cons_succ]
      refine wpAnyH_ready (rs := [14]) (by kernel_rfl) (by simp) ?_
      refine AllReadyH.cons (o := { dst := some 245, op := Op.call { callee := Callee.value (Operand.func 50), args := #[Operand.tmp 235, Operand.tmp 244], argTypes := #[27, 87] }, type := 27, pos := "law.go:281", after := #[{ on := 4, ground := Ground.data }, { on := 13, ground := Ground.data }, { on := 13, ground := Ground.chain }], guard := none }) rfl (fun K hK => ?_) AllReadyH.nil
      go_simp
      go_at_call 50
      refine P5.out.mono ?_
      rintro e w6 ⟨u6, rfl, o6, b6⟩
      obtain ⟨Au, cu, rfl⟩ := own_form o6
      have H6 := Lib.hid (H5.out.below b6)
      have O6 := Lib.hid (ownsRow_base_a o6 (show w0.heap.size ≤ w5.heap.size from H5.out.b.size))
      have k1 := H6.out.g.x.cell 1
      have l1 := H6.out.g.x.frozen 1
      have K6 := K5.out.below b6 K5.out.lt
      have z6 := ZZ.out w6 K6
      have V6 := HV.out w6 H6.out.b
      have z7 := ZZ.out _ (K6.far (p := ⟨G, 1, none⟩) (fun e => NG.out e.symm) (.slice Au T'.length cu))
      have V7 := HV.out _ (H6.out.b.setCell (p := ⟨G, 1, none⟩) H6.out.g.lo (.slice Au T'.length cu))
      clear o6 b6
      dsimp only
      refine hK.out _ _ (⟨z6, V6⟩) (fun hTq => ?_)
      clear hK K hB
      try simp only [Act.put, List.setIfInBounds_toArray, List.set_cons_zero, List.set_cons_succ]
      refine wpAnyH_take (i := 15) (oi := { dst := some 246, op := Op.nilCheck (Operand.tmp 231), type := 0, pos := "law.go:281", after := #[{ on := 0, ground := Ground.data }, { on := 0, ground := Ground.phase }, { on := 1, ground := Ground.phase }, { on := 2, ground := Ground.phase }, { on := 3, ground := Ground.phase }, { on := 4, ground := Ground.phase }, { on := 5, ground := Ground.phase }, { on := 6, ground := Ground.phase }, { on := 7, ground := Ground.phase }, { on := 8, ground := Ground.phase }, { on := 9, ground := Ground.phase }, { on := 10, ground := Ground.phase }, { on := 11, ground := Ground.phase }, { on := 12, ground := Ground.phase }, { on := 13, ground := Ground.phase }, { on := 14, ground := Ground.phase }], guard := none }) (v := ?vq15) rfl (by kernel_rfl) (by kernel_rfl) (by kernel_rfl) (fun _ _ _ h => h) (Or.inl ⟨by rfl, ?yq15⟩) (by assumption) ?rq15
      case yq15 => (intro w' hSw; (try dsimp only at hSw); go_split_ands; go_simp; try with_reducible rfl)
      try simp only [Act.put, List.setIfInBounds_toArray, List.set_cons_zero, List.set_cons_succ]
      refine wpAnyH_take (i := 16) (oi := { dst := some 247, op := Op.fieldAddr 31 (Operand.tmp 246) 1, type := 0, pos := "law.go:281", after := #[{ on := 15, ground := Ground.data }, { on := 0, ground := Ground.phase }, { on := 1, ground := Ground.phase }, { on := 2, ground := Ground.phase }, { on := 3, ground := Ground.phase }, { on := 4, ground := Ground.phase }, { on := 5, ground := Ground.phase }, { on := 6, ground := Ground.phase }, { on := 7, ground := Ground.phase }, { on := 8, ground := Ground.phase }, { on := 9, ground := Ground.phase }, { on := 10, ground := Ground.phase }, { on := 11, ground := Ground.phase }, { on := 12, ground := Ground.phase }, { on := 13, ground := Ground.phase }, { on := 14, ground := Ground.phase }], guard := none }) (v := ?vq16) rfl (by kernel_rfl) (by kernel_rfl) (by kernel_rfl) (fun _ _ _ h => h) (Or.inl ⟨by rfl, ?yq16⟩) (by assumption) ?rq16
      case yq16 => (intro w' hSw; (try dsimp only at hSw); go_split_ands; go_simp; try with_reducible rfl)
      try simp only [Act.put, List.setIfInBounds_toArray, List.set_cons_zero, List.set_cons_succ]
      refine wpAnyH_ready (rs := [17]) (by kernel_rfl) (by simp) ?_
      refine AllReadyH.cons (o := { dst := none, op := Op.store 27 (Operand.tmp 247) (Operand.tmp 245), type := 0, pos := "law.go:281", after := #[{ on := 16, ground := Ground.data }, { on := 14, ground := Ground.data }, { on := 14, ground := Ground.chain }, { on := 0, ground := Ground.phase }, { on := 1, ground := Ground.phase }, { on := 2, ground := Ground.phase }, { on := 3, ground := Ground.phase }, { on := 4, ground := Ground.phase }, { on := 5, ground := Ground.phase }, { on := 6, ground := Ground.phase }, { on := 7, ground := Ground.phase }, { on := 8, ground := Ground.phase }, { on := 9, ground := Ground.phase }, { on := 10, ground := Ground.phase }, { on := 11, ground := Ground.phase }, { on := 12, ground := Ground.phase }, { on := 13, ground := Ground.phase }, { on := 14, ground := Ground.phase }], guard := none }) rfl (fun K hK => ?_) AllReadyH.nil
      go_simp
      refine hK.out _ _ (⟨z7, V7⟩) (fun hUq => ?_)
      clear hK K hTq
      try simp only [Act.put, List.setIfInBounds_toArray, List.set_cons_zero, List.set_cons_succ]
      refine wpAnyH_done (by kernel_rfl) ?_ _
      have g7 := Lib.hid (show DocIs (w6.setCell ⟨G, 1, none⟩ (.slice Au T'.length cu)) w0.heap.size G (fun v l => Reads 1 cB w0 v l) kv (.slice Au T'.length cu) wv left kev { D with T := T', ino := i2 } from
        ⟨by simpa using H6.out.g.x.set_ 1 (.slice Au T'.length cu), row_far H6.out.g.k H6.out.g.x (by decide) 1 _, row_far O6.out H6.out.g.x (by decide) 1 _, row_far H6.out.g.p H6.out.g.x (by decide) 1 _, H6.out.g.a, H6.out.g.lo⟩)
      have H7 := Lib.hid (H6.out.doc (Turns.cell _ G 1 (.slice Au T'.length cu)) g7.out)
      have DS := Lib.hid (dsync_any H7.out.g)
      clear k1 l1 x1 z0 z5 z6 z7 V3 k51
      go_wp2_with (go_at_call 48; refine DS.out.mono ?_; rintro e w8 ⟨rfl, g8, t8⟩; have H8 := Lib.hid (H7.out.doc t8 g8); clear g8 t8)
      go_ret
      exact ⟨L', _, _, _, _, _, rfl, ⟨H8.out.d, H8.out.g, H8.out.b⟩, HF2.out⟩
    · go_simp
      go_at_call 43
      refine F5.out.mono ?_
      rintro e w5 ⟨rfl, g5, t5⟩
      have H5 := Lib.hid (H3d.out.doc t5 g5)
      have k51 := H5.out.g.x.cell 1
      have P5 := Lib.hid (PU.out w5 g5)
      have K5 := Lib.hid (HK3.out.turns t5 (fun e => NG.out e.symm))
      have z5 := ZZ.out w5 K5.out
      have V5 := HV.out w5 H5.out.b
      clear g5
      dsimp only
      refine hK.out _ _ (⟨z5, V5⟩) (fun hC => ?_)
      clear hK K hHeld
      try simp only [Act.put, List.setIfInBounds_toArray, List.set_cons_zero, List.set_cons_succ]
      refine wpAnyH_ready (rs := [4]) (by kernel_rfl) (by simp) ?_
      refine AllReadyH.cons (o := { dst := some 235, op := Op.load 27 (Operand.tmp 234), type := 27, pos := "law.go:281", after := #[{ on := 3, ground := Ground.data }], guard := none }) rfl (fun K hK => ?_) AllReadyH.nil
      go_simp
      refine hK.out _ _ (⟨z5, V5⟩) (fun hD => ?_)
      clear hK K hC
      try simp only [Act.put, List.setIfInBounds_toArray, List.set_cons_zero, List.set_cons_succ]
      refine wpAnyH_ready (rs := [14]) (by kernel_rfl) (by simp) ?_
      refine AllReadyH.cons (o := { dst := some 245, op := Op.call { callee := Callee.value (Operand.func 50), args := #[Operand.tmp 235, Operand.tmp 244], argTypes := #[27, 87] }, type := 27, pos := "law.go:281", after := #[{ on := 4, ground := Ground.data }, { on := 13, ground := Ground.data }, { on := 13, ground := Ground.chain }], guard := none }) rfl (fun K hK => ?_) AllReadyH.nil
      go_simp
      go_at_call 50
      refine P5.out.mono ?_
      rintro e w6 ⟨u6, rfl, o6, b6⟩
      obtain ⟨Au, cu, rfl⟩ := own_form o6
      have H6 := Lib.hid (H5.out.below b6)
      have O6 := Lib.hid (ownsRow_base_a o6 (show w0.heap.size ≤ w5.heap.size from H5.out.b.size))
      have k1 := H6.out.g.x.cell 1
      have l1 := H6.out.g.x.frozen 1
      have K6 := K5.out.below b6 K5.out.lt
      have z6 := ZZ.out w6 K6
      have V6 := HV.out w6 H6.out.b
      have z7 := ZZ.out _ (K6.far (p := ⟨G, 1, none⟩) (fun e => NG.out e.symm) (.slice Au T'.length cu))
      have V7 := HV.out _ (H6.out.b.setCell (p := ⟨G, 1, none⟩) H6.out.g.lo (.slice Au T'.length cu))
      clear o6 b6
      dsimp only
      refine hK.out _ _ (⟨z6, V6⟩) (fun hTs => ?_)
      clear hK K hD
      try simp only [Act.put, List.setIfInBounds_toArray, List.set_cons_zero, List.set_cons_succ]
      refine wpAnyH_take (i := 15) (oi := { dst := some 246, op := Op.nilCheck (Operand.tmp 231), type := 0, pos := "law.go:281", after := #[{ on := 0, ground := Ground.data }, { on := 0, ground := Ground.phase }, { on := 1, ground := Ground.phase }, { on := 2, ground := Ground.phase }, { on := 3, ground := Ground.phase }, { on := 4, ground := Ground.phase }, { on := 5, ground := Ground.phase }, { on := 6, ground := Ground.phase }, { on := 7, ground := Ground.phase }, { on := 8, ground := Ground.phase }, { on := 9, ground := Ground.phase }, { on := 10, ground := Ground.phase }, { on := 11, ground := Ground.phase }, { on := 12, ground := Ground.phase }, { on := 13, ground := Ground.phase }, { on := 14, ground := Ground.phase }], guard := none }) (v := ?vs15) rfl (by kernel_rfl) (by kernel_rfl) (by kernel_rfl) (fun _ _ _ h => h) (Or.inl ⟨by rfl, ?ys15⟩) (by assumption) ?rs15
      case ys15 => (intro w' hSw; (try dsimp only at hSw); go_split_ands; go_simp; try with_reducible rfl)
      try simp only [Act.put, List.setIfInBounds_toArray, List.set_cons_zero, List.set_cons_succ]
      refine wpAnyH_take (i := 16) (oi := { dst := some 247, op := Op.fieldAddr 31 (Operand.tmp 246) 1, type := 0, pos := "law.go:281", after := #[{ on := 15, ground := Ground.data }, { on := 0, ground := Ground.phase }, { on := 1, ground := Ground.phase }, { on := 2, ground := Ground.phase }, { on := 3, ground := Ground.phase }, { on := 4, ground := Ground.phase }, { on := 5, ground := Ground.phase }, { on := 6, ground := Ground.phase }, { on := 7, ground := Ground.phase }, { on := 8, ground := Ground.phase }, { on := 9, ground := Ground.phase }, { on := 10, ground := Ground.phase }, { on := 11, ground := Ground.phase }, { on := 12, ground := Ground.phase }, { on := 13, ground := Ground.phase }, { on := 14, ground := Ground.phase }], guard := none }) (v := ?vs16) rfl (by kernel_rfl) (by kernel_rfl) (by kernel_rfl) (fun _ _ _ h => h) (Or.inl ⟨by rfl, ?ys16⟩) (by assumption) ?rs16
      case ys16 => (intro w' hSw; (try dsimp only at hSw); go_split_ands; go_simp; try with_reducible rfl)
      try simp only [Act.put, List.setIfInBounds_toArray, List.set_cons_zero, List.set_cons_succ]
      refine wpAnyH_ready (rs := [17]) (by kernel_rfl) (by simp) ?_
      refine AllReadyH.cons (o := { dst := none, op := Op.store 27 (Operand.tmp 247) (Operand.tmp 245), type := 0, pos := "law.go:281", after := #[{ on := 16, ground := Ground.data }, { on := 14, ground := Ground.data }, { on := 14, ground := Ground.chain }, { on := 0, ground := Ground.phase }, { on := 1, ground := Ground.phase }, { on := 2, ground := Ground.phase }, { on := 3, ground := Ground.phase }, { on := 4, ground := Ground.phase }, { on := 5, ground := Ground.phase }, { on := 6, ground := Ground.phase }, { on := 7, ground := Ground.phase }, { on := 8, ground := Ground.phase }, { on := 9, ground := Ground.phase }, { on := 10, ground := Ground.phase }, { on := 11, ground := Ground.phase }, { on := 12, ground := Ground.phase }, { on := 13, ground := Ground.phase }, { on := 14, ground := Ground.phase }], guard := none }) rfl (fun K hK => ?_) AllReadyH.nil
      go_simp
      refine hK.out _ _ (⟨z7, V7⟩) (fun hUs => ?_)
      clear hK K hTs
      try simp only [Act.put, List.setIfInBounds_toArray, List.set_cons_zero, List.set_cons_succ]
      refine wpAnyH_done (by kernel_rfl) ?_ _
      have g7 := Lib.hid (show DocIs (w6.setCell ⟨G, 1, none⟩ (.slice Au T'.length cu)) w0.heap.size G (fun v l => Reads 1 cB w0 v l) kv (.slice Au T'.length cu) wv left kev { D with T := T', ino := i2 } from
        ⟨by simpa using H6.out.g.x.set_ 1 (.slice Au T'.length cu), row_far H6.out.g.k H6.out.g.x (by decide) 1 _, row_far O6.out H6.out.g.x (by decide) 1 _, row_far H6.out.g.p H6.out.g.x (by decide) 1 _, H6.out.g.a, H6.out.g.lo⟩)
      have H7 := Lib.hid (H6.out.doc (Turns.cell _ G 1 (.slice Au T'.length cu)) g7.out)
      have DS := Lib.hid (dsync_any H7.out.g)
      clear k1 l1 x1 z0 z5 z6 z7 V3 k51
      go_wp2_with (go_at_call 48; refine DS.out.mono ?_; rintro e w8 ⟨rfl, g8, t8⟩; have H8 := Lib.hid (H7.out.doc t8 g8); clear g8 t8)
      go_ret
      exact ⟨L', _, _, _, _, _, rfl, ⟨H8.out.d, H8.out.g, H8.out.b⟩, HF2.out⟩
  · rw [if_neg hr0] at TK
    rw [if_neg hr0]
    have hv0 : (r == 0) = false := by simpa using hr0
    clear h P1 F BI hs hp hN hr
    go_enter Tryd.func14, Tryd.ntmps14
    go_wp2_with (first
      | (go_at_call 32; refine TK.out.mono ?_; rintro e w2 ⟨L', rfl, d2, n2⟩; have H2 := Lib.hid (Half.mk d2 (HP.out.disk n2).1 (HP.out.disk n2).2); have HF2 := Lib.hid n2.F; have K2 := Lib.hid (K1.out.turns n2.t (HP.out.d.blkFar K1.out (by decide) (by decide))); have k21 := K2.out.cell 1; have k23 := K2.out.cell 3; have k25 := K2.out.cell 5; clear d2 n2)
      | (go_at_call 41; refine (CA.out _ H2.out.g).mono ?_; rintro e w3 ⟨rfl, b3⟩; have H3 := Lib.hid (H2.out.below b3); have K3 := Lib.hid (K2.out.below b3 K2.out.lt); have k31 := K3.out.cell 1; have k33 := K3.out.cell 3; have k35 := K3.out.cell 5; have c31 := H3.out.g.x.cell 1; have c35 := H3.out.g.x.cell 5; have V3 := hv _ H3.out.b; clear b3 k21 k23 k25))
    go_ret
    exact ⟨L', _, _, _, _, _, rfl, ⟨H3.out.d, H3.out.g, H3.out.b⟩, HF2.out⟩
end
end Go.Proofs.YtcnmlgmlijgmhaaDoor

namespace Go.Proofs.YtcnmlgmlijgmhaaDoor
open Go Go.RowKit Go.Shelf Go.Maps

section
variable {w0 w : World} {L : Loc} {G N : Nat} {kv nv wv kev : Value} {left : Int} {D : DK}
set_option maxRecDepth 100000 in
set_option maxHeartbeats 8000000 in
theorem both_9 (h : Pair w0 w L G N kv nv wv kev left D) (F : Fit D) (mode n : Int) (p q : ByteArray) (Ab Ak : Option Addr) (nb cb nk ck : Nat) (hp : p.size ≤ 1000) :
    Calls Tryd.prog 14 #[.pointer (some ⟨L.F, 0, none⟩), .pointer (some ⟨G, 0, none⟩), .agg (actC 9 mode n p q (.slice Ab nb cb) (.slice Ak nk ck))] w fun e w' => ∃ L' kv' nv' wv' kev' left', e = .returned (.bool true) ∧ Pair w0 w' L' G (N + 1) kv' nv' wv' kev' left' (ulD D p) ∧ L'.F = L.F := by
  have P1 := h.alloc (.cells (actC 9 mode n p q (.slice Ab nb cb) (.slice Ak nk ck)) 34)
  have HP := Lib.hid P1
  have K1 := Lib.hid (Blk.new w 34 (actC 9 mode n p q (.slice Ab nb cb) (.slice Ak nk ck)))
  have TK := Lib.hid (unlink_d P1.d p hp P1.b0)
  obtain ⟨An, cn, rfl⟩ := own_form P1.g.n
  have HF := Lib.hid F
  have GT := Lib.hid (fun W (g : DocIs W w0.heap.size G (fun v l => Reads 1 cB w0 v l) kv (.slice An D.T.length cn) wv left kev D) => get_any W (.slice An D.T.length cn) D.T p (OOwn.reads g.n) (by have := HF.out.hl; omega))
  have CU := Lib.hid (fun W (g : DocIs W w0.heap.size G (fun v l => Reads 1 cB w0 v l) kv (.slice An D.T.length cn) wv left kev D) => cut52_any W (.slice An D.T.length cn) D.T p (OOwn.reads g.n) (by have := HF.out.hl; omega))
  have IS := idx_sign D.T p
  obtain ⟨x, hx⟩ : ∃ x, x = idxV D.T p := ⟨_, rfl⟩
  rw [← hx] at GT IS
  cases ho : D.off with
  | true =>
    have HO := Lib.hid ho
    have hE : ulE D = 13 := by unfold ulE; rw [ho]; rfl
    have hD : ulD D p = D := by unfold ulD; rw [ho]; rfl
    rw [hE, hD] at TK
    rw [hD]
    clear h P1 hE hD ho F hp IS hx
    go_enter Tryd.func14, Tryd.ntmps14
    go_wp2_with (go_at_call 51; refine TK.out.mono ?_; rintro e w2 ⟨L', rfl, d2, n2⟩; have H2 := Lib.hid (Half.mk d2 (HP.out.disk n2).1 (HP.out.disk n2).2); have HF2 := Lib.hid n2.F; have K2 := Lib.hid (K1.out.turns n2.t (HP.out.d.blkFar K1.out (by decide) (by decide))); have k23 := K2.out.cell 3; have c6 := H2.out.g.x.cell 6; rw [HO.out] at c6; have c1 := H2.out.g.x.cell 1; have HN := Lib.hid (fun n => H2.out.drewN n); clear d2 n2)
    go_ret
    exact ⟨L', _, _, _, _, _, rfl, ⟨H2.out.d, H2.out.g, H2.out.b⟩, HF2.out⟩
  | false =>
    have HO := Lib.hid ho
    have hE : ulE D = 0 := by unfold ulE; rw [ho]; rfl
    rw [hE] at TK
    cases hg : (getT D.T p).isSome with
    | false =>
      have hD : ulD D p = D := by unfold ulD; rw [ho, hg]; rfl
      rw [hD] at TK
      rw [hD]
      rw [hg] at IS
      have d1 : decide (0 ≤ x) = false := IS.symm
      have d2 : ¬ 0 ≤ x := of_decide_eq_false d1
      have d3 : x < 0 := by omega
      clear h P1 hE hD ho F hp IS hx hg
      go_enter Tryd.func14, Tryd.ntmps14
      go_upto_region 64 with (go_at_call 51; refine TK.out.mono ?_; rintro e w2 ⟨L', rfl, d2, n2⟩; have H2 := Lib.hid (Half.mk d2 (HP.out.disk n2).1 (HP.out.disk n2).2); have HF2 := Lib.hid n2.F; have K2 := Lib.hid (K1.out.turns n2.t (HP.out.d.blkFar K1.out (by decide) (by decide))); have k23 := K2.out.cell 3; have c6 := H2.out.g.x.cell 6; rw [HO.out] at c6; have c1 := H2.out.g.x.cell 1; have HN := Lib.hid (fun n => H2.out.drewN n); clear d2 n2)
      go_quiet ((go_at_call 44; exact Calls.quiet_of_same ((GT.out _ (HN.out _).g).mono (fun _ _ h => ⟨h.1, h.2.symm⟩))))
      go_wp2_with fail
      go_ret
      exact ⟨L', _, _, _, _, _, rfl, ⟨(HN.out _).d, (HN.out _).g, (HN.out _).b⟩, HF2.out⟩
    | true =>
      have hD : ulD D p = { D with T := delT D.T p, S := delT D.T p, ps := [] } := by unfold ulD; rw [ho, hg]; rfl
      rw [hD] at TK
      rw [hD]
      rw [hg] at IS
      have d1 : decide (0 ≤ x) = true := IS.symm
      have d2 : 0 ≤ x := of_decide_eq_true d1
      clear h P1 hE hD F hp IS hx hg
      go_enter Tryd.func14, Tryd.ntmps14
      go_upto_region 64 with (go_at_call 51; refine TK.out.mono ?_; rintro e w2 ⟨L', rfl, d2, n2⟩; have H2 := Lib.hid (Half.mk d2 (HP.out.disk n2).1 (HP.out.disk n2).2); have HF2 := Lib.hid n2.F; have K2 := Lib.hid (K1.out.turns n2.t (HP.out.d.blkFar K1.out (by decide) (by decide))); have k23 := K2.out.cell 3; have c6 := H2.out.g.x.cell 6; rw [HO.out] at c6; have c1 := H2.out.g.x.cell 1; have HN := Lib.hid (fun n => H2.out.drewN n); clear d2 n2)
      go_quiet ((go_at_call 44; exact Calls.quiet_of_same ((GT.out _ (HN.out _).g).mono (fun _ _ h => ⟨h.1, h.2.symm⟩))))
      go_upto_region 65 with fail
      generalize hWW : w2.drewN _ = W5 at *
      have H5 := Lib.hid (show Half w0 W5 L' G (N + 1) kv (.slice An D.T.length cn) wv kev left { D with T := delT D.T p, S := delT D.T p, ps := [] } D from by rw [← hWW]; exact HN.out _)
      have K5 := Lib.hid (show Blk W5 w.heap.size 34 _ from by rw [← hWW]; exact K2.out.below (below_drewE (Below.refl w2.heap.size w2) _) K2.out.lt)
      clear hWW k23 c6 c1
      have H5d := Lib.hid (H5.out.below (Below.refl W5.heap.size W5).drew)
      have x1 : W5.drew.cell? ⟨G, 1, none⟩ = some (.slice An D.T.length cn) := H5d.out.g.x.cell 1
      have x3 : W5.drew.cell? ⟨w.heap.size, 3, none⟩ = some (.string p) := (show Blk W5.drew w.heap.size 34 _ from K5.out).cell 3
      have C5 := Lib.hid (show Calls Tryd.prog 52 #[.slice An D.T.length cn, .string p] W5.drew fun e w' => ∃ u, e = .returned u ∧ OOwn w' W5.heap.size u (delT D.T p) ∧ Below W5.heap.size W5.drew w' from CU.out _ H5d.out.g)
      go_region_with (go_at_call 52; go_loud (refine C5.out.mono ?_; rintro e w6 ⟨u6, rfl, o6, b6⟩; obtain ⟨Au, cu, rfl⟩ := own_form o6; have H6 := Lib.hid (H5d.out.below b6); have O6 := Lib.hid (ownsRow_base_a o6 (show w0.heap.size ≤ W5.heap.size from H5.out.b.size)); have k1 := H6.out.g.x.cell 1; have l1 := H6.out.g.x.frozen 1; clear o6))
      all_goals
        have g7 := Lib.hid (show DocIs (w6.setCell ⟨G, 1, none⟩ (.slice Au (delT D.T p).length cu)) w0.heap.size G (fun v l => Reads 1 cB w0 v l) kv (.slice Au (delT D.T p).length cu) wv left kev { D with T := delT D.T p } from
          ⟨by simpa using H6.out.g.x.set_ 1 (.slice Au (delT D.T p).length cu), row_far H6.out.g.k H6.out.g.x (by decide) 1 _, row_far O6.out H6.out.g.x (by decide) 1 _, row_far H6.out.g.p H6.out.g.x (by decide) 1 _, H6.out.g.a, H6.out.g.lo⟩)
        have H7 := Lib.hid (H6.out.doc (Turns.cell _ G 1 (.slice Au (delT D.T p).length cu)) g7.out)
        have DS := Lib.hid (dsync_any H7.out.g)
        clear k1 l1 x1 x3 b6
        go_wp2_with (go_at_call 48; refine DS.out.mono ?_; rintro e w8 ⟨rfl, g8, t8⟩; have H8 := Lib.hid (H7.out.doc t8 g8); clear g8 t8)
        go_ret
        exact ⟨L', _, _, _, _, _, rfl, ⟨H8.out.d, H8.out.g, H8.out.b⟩, HF2.out⟩
end
end Go.Proofs.YtcnmlgmlijgmhaaDoor

namespace Go.Proofs.YtcnmlgmlijgmhaaDoor
open Go Go.RowKit Go.Shelf Go.Maps

section
variable {w0 w : World} {L : Loc} {G N : Nat} {kv nv wv kev : Value} {left : Int} {D : DK}
set_option maxRecDepth 100000 in
set_option maxHeartbeats 8000000 in
theorem both_5 (h : Pair w0 w L G N kv nv wv kev left D) (mode n : Int) (p q : ByteArray) (Ab Ak : Option Addr) (nb cb ck : Nat) (ks : List Bool) (hk : Reads 1 cB w0 (.slice Ak ks.length ck) ks) (hl : ks.length ≤ 1000000) :
    Calls Tryd.prog 14 #[.pointer (some ⟨L.F, 0, none⟩), .pointer (some ⟨G, 0, none⟩), .agg (actC 5 mode n p q (.slice Ab nb cb) (.slice Ak ks.length ck))] w fun e w' => ∃ L' kv' nv' wv' kev' left', e = .returned (.bool true) ∧ Pair w0 w' L' G N kv' nv' wv' kev' left' { D with armed := (if n < 1 then 1 else n), ks := ks } ∧ L'.F = L.F := by
  have P1 := h.alloc (.cells (actC 5 mode n p q (.slice Ab nb cb) (.slice Ak ks.length ck)) 34)
  have HP := Lib.hid P1
  have K1 := Lib.hid (Blk.new w 34 (actC 5 mode n p q (.slice Ab nb cb) (.slice Ak ks.length ck)))
  have HK := Lib.hid hk
  have TK := Lib.hid (arm_any P1.d n (.slice Ak ks.length ck) ks (fun w' ht => hk.below (P1.b.trans (ht.base (fun k hf => P1.d.foot_lo k hf) P1.b0))) hl P1.b0)
  clear h P1 hk hl
  by_cases hn : n < 1
  · have d1 : decide (n < 1) = true := decide_eq_true hn
    rw [if_pos hn]
    go_enter Tryd.func14, Tryd.ntmps14
    go_wp2_with (go_at_call 25; refine TK.out.mono ?_; rintro e w2 ⟨L', rfl, d2, n2⟩; have H2 := Lib.hid (Half.mk d2 (HP.out.disk n2).1 (HP.out.disk n2).2); have HF2 := Lib.hid n2.F; have K2 := Lib.hid (K1.out.turns n2.t (HP.out.d.blkFar K1.out (by decide) (by decide))); have k22 := K2.out.cell 2; have k26 := K2.out.cell 6; have c7 := H2.out.g.x.cell 7; have f7 := H2.out.g.x.frozen 7; have c8 := H2.out.g.x.cell 8; have f8 := H2.out.g.x.frozen 8; have c9 := H2.out.g.x.cell 9; have f9 := H2.out.g.x.frozen 9; have KN := Lib.hid (And.intro (H2.out.g.x.ne_ K2.out (by decide)) (H2.out.g.x.lt)); clear d2 n2)
    go_ret
    have x0 := H2.out.g.x
    have x1 := x0.set_ 7 (.bool true)
    have x2 := x1.set_ 8 (.int .i64 n)
    have x3 := x2.set_ 8 (.int .i64 1)
    have x4 := x3.set_ 9 (.slice Ak ks.length ck)
    have gg : DocIs ((((w2.setCell ⟨G, 7, none⟩ (.bool true)).setCell ⟨G, 8, none⟩ (.int .i64 n)).setCell ⟨G, 8, none⟩ (.int .i64 1)).setCell ⟨G, 9, none⟩ (.slice Ak ks.length ck)) w0.heap.size G (fun v l => Reads 1 cB w0 v l) kv nv wv 1 (.slice Ak ks.length ck) { D with armed := 1, ks := ks } :=
      ⟨by have := x4; rw [show decide (1 ≠ (0 : Int)) = true from decide_eq_true (by omega)]; simpa using this, (row_far (row_far (row_far (row_far H2.out.g.k x0 (by decide) 7 (.bool true)) x1 (by decide) 8 (.int .i64 n)) x2 (by decide) 8 (.int .i64 1)) x3 (by decide) 9 (.slice Ak ks.length ck)), (row_far (row_far (row_far (row_far H2.out.g.n x0 (by decide) 7 (.bool true)) x1 (by decide) 8 (.int .i64 n)) x2 (by decide) 8 (.int .i64 1)) x3 (by decide) 9 (.slice Ak ks.length ck)), (row_far (row_far (row_far (row_far H2.out.g.p x0 (by decide) 7 (.bool true)) x1 (by decide) 8 (.int .i64 n)) x2 (by decide) 8 (.int .i64 1)) x3 (by decide) 9 (.slice Ak ks.length ck)), fun _ => ⟨rfl, HK.out⟩, H2.out.g.lo⟩
    have H9 := H2.out.doc ((((Turns.cell w2 G 7 (.bool true)).trans (Turns.cell (w2.setCell ⟨G, 7, none⟩ (.bool true)) G 8 (.int .i64 n))).trans (Turns.cell ((w2.setCell ⟨G, 7, none⟩ (.bool true)).setCell ⟨G, 8, none⟩ (.int .i64 n)) G 8 (.int .i64 1))).trans (Turns.cell (((w2.setCell ⟨G, 7, none⟩ (.bool true)).setCell ⟨G, 8, none⟩ (.int .i64 n)).setCell ⟨G, 8, none⟩ (.int .i64 1)) G 9 (.slice Ak ks.length ck))) gg
    exact ⟨L', _, _, _, _, _, rfl, ⟨by have := H9.d; rw [show max n 1 = 1 from by omega] at this; exact this, H9.g, H9.b⟩, HF2.out⟩
  · have d1 : decide (n < 1) = false := decide_eq_false hn
    rw [if_neg hn]
    go_enter Tryd.func14, Tryd.ntmps14
    go_wp2_with (go_at_call 25; refine TK.out.mono ?_; rintro e w2 ⟨L', rfl, d2, n2⟩; have H2 := Lib.hid (Half.mk d2 (HP.out.disk n2).1 (HP.out.disk n2).2); have HF2 := Lib.hid n2.F; have K2 := Lib.hid (K1.out.turns n2.t (HP.out.d.blkFar K1.out (by decide) (by decide))); have k22 := K2.out.cell 2; have k26 := K2.out.cell 6; have c7 := H2.out.g.x.cell 7; have f7 := H2.out.g.x.frozen 7; have c8 := H2.out.g.x.cell 8; have f8 := H2.out.g.x.frozen 8; have c9 := H2.out.g.x.cell 9; have f9 := H2.out.g.x.frozen 9; have KN := Lib.hid (And.intro (H2.out.g.x.ne_ K2.out (by decide)) (H2.out.g.x.lt)); clear d2 n2)
    go_ret
    have x0 := H2.out.g.x
    have x1 := x0.set_ 7 (.bool true)
    have x2 := x1.set_ 8 (.int .i64 n)
    have x3 := x2.set_ 9 (.slice Ak ks.length ck)
    have gg : DocIs (((w2.setCell ⟨G, 7, none⟩ (.bool true)).setCell ⟨G, 8, none⟩ (.int .i64 n)).setCell ⟨G, 9, none⟩ (.slice Ak ks.length ck)) w0.heap.size G (fun v l => Reads 1 cB w0 v l) kv nv wv n (.slice Ak ks.length ck) { D with armed := n, ks := ks } :=
      ⟨by have := x3; rw [show decide (n ≠ (0 : Int)) = true from decide_eq_true (by omega)]; simpa using this, (row_far (row_far (row_far H2.out.g.k x0 (by decide) 7 (.bool true)) x1 (by decide) 8 (.int .i64 n)) x2 (by decide) 9 (.slice Ak ks.length ck)), (row_far (row_far (row_far H2.out.g.n x0 (by decide) 7 (.bool true)) x1 (by decide) 8 (.int .i64 n)) x2 (by decide) 9 (.slice Ak ks.length ck)), (row_far (row_far (row_far H2.out.g.p x0 (by decide) 7 (.bool true)) x1 (by decide) 8 (.int .i64 n)) x2 (by decide) 9 (.slice Ak ks.length ck)), fun _ => ⟨rfl, HK.out⟩, H2.out.g.lo⟩
    have H9 := H2.out.doc (((Turns.cell w2 G 7 (.bool true)).trans (Turns.cell (w2.setCell ⟨G, 7, none⟩ (.bool true)) G 8 (.int .i64 n))).trans (Turns.cell ((w2.setCell ⟨G, 7, none⟩ (.bool true)).setCell ⟨G, 8, none⟩ (.int .i64 n)) G 9 (.slice Ak ks.length ck))) gg
    exact ⟨L', _, _, _, _, _, rfl, ⟨by have := H9.d; rw [show max n 1 = n from by omega] at this; exact this, H9.g, H9.b⟩, HF2.out⟩
set_option maxRecDepth 100000 in
set_option maxHeartbeats 8000000 in
theorem both_else (h : Pair w0 w L G N kv nv wv kev left D) (k mode n : Int) (p q : ByteArray) (Ab Ak : Option Addr) (nb cb nk ck : Nat) (hk : k < 1 ∨ 11 < k) :
    Calls Tryd.prog 14 #[.pointer (some ⟨L.F, 0, none⟩), .pointer (some ⟨G, 0, none⟩), .agg (actC k mode n p q (.slice Ab nb cb) (.slice Ak nk ck))] w fun e w' => e = .returned (.bool true) ∧ Pair w0 w' L G N kv nv wv kev left D := by
  have HP := Lib.hid (h.alloc (.cells (actC k mode n p q (.slice Ab nb cb) (.slice Ak nk ck)) 34))
  have e1 : (k == 1) = false := beq_false_of_ne (by omega)
  have e2 : (k == 2) = false := beq_false_of_ne (by omega)
  have e3 : (k == 3) = false := beq_false_of_ne (by omega)
  have e4 : (k == 4) = false := beq_false_of_ne (by omega)
  have e5 : (k == 5) = false := beq_false_of_ne (by omega)
  have e6 : (k == 6) = false := beq_false_of_ne (by omega)
  have e7 : (k == 7) = false := beq_false_of_ne (by omega)
  have e8 : (k == 8) = false := beq_false_of_ne (by omega)
  have e9 : (k == 9) = false := beq_false_of_ne (by omega)
  have e10 : (k == 10) = false := beq_false_of_ne (by omega)
  have e11 : (k == 11) = false := beq_false_of_ne (by omega)
  clear h hk
  go_enter Tryd.func14, Tryd.ntmps14
  go_wp2
  go_ret
  exact ⟨rfl, HP.out⟩
end
end Go.Proofs.YtcnmlgmlijgmhaaDoor

namespace Go.Proofs.YtcnmlgmlijgmhaaDoor
open Go Go.RowKit Go.Shelf Go.Maps

section
variable {w0 w : World} {L : Loc} {G N : Nat} {kv nv wv kev : Value} {left : Int} {D : DK}
theorem Pair.mono (h : Pair w0 w L G N kv nv wv kev left D) {N' : Nat} (hn : N ≤ N') : Pair w0 w L G N' kv nv wv kev left D := ⟨h.d.mono hn, h.g, h.b⟩
/-- What an act leaves: both disks as the act makes them. -/
def After (w0 : World) (F G N : Nat) (D : DK) (e : Ending) (w' : World) : Prop := ∃ L' kv' nv' wv' kev' left', e = .returned (.bool true) ∧ Pair w0 w' L' G N kv' nv' wv' kev' left' D ∧ L'.F = F
theorem both_any {k : Nat} (h : Pair w0 w L G N kv nv wv kev left D) (I : Inv k D) (hk : k ≤ 60) (a : Ac) (ha : a.Ok) (Ab Ak : Option Addr) (cb ck : Nat)
    (hv : ∀ W, Below w0.heap.size w0 W → (convert 32 9 (.slice Ab a.s.size cb)).run Tryd.prog W = .ok (.string a.s) W) (hr : Reads 1 cB w0 (.slice Ak a.ks.length ck) a.ks) (hN : N ≤ 100000) :
    Calls Tryd.prog 14 #[.pointer (some ⟨L.F, 0, none⟩), .pointer (some ⟨G, 0, none⟩), .agg (actC a.op a.mode a.n a.p a.q (.slice Ab a.s.size cb) (.slice Ak a.ks.length ck))] w (After w0 L.F G (N + k + 1) (playD D a)) := by
  obtain ⟨op, mode, n, p, q, s, ks⟩ := a
  have F := I.fit (by omega)
  have hp := ha.p
  have hq := ha.q
  have hs := ha.s
  have hl := ha.k
  have hps : D.ps.length ≤ k := by have := I.lS; omega
  dsimp only at hp hq hs hl hv hr ⊢
  unfold playD
  dsimp only
  by_cases e1 : op = 1
  · subst e1
    rw [if_pos rfl]
    exact (both_1 h F mode n p q s Ab Ak cb ks.length ck hv (by omega) (by omega) (by omega)).mono fun e w' ⟨L', a1, a2, a3, a4, a5, h1, h2, h3⟩ => ⟨L', a1, a2, a3, a4, a5, h1, h2.mono (by omega), h3⟩
  rw [if_neg e1]
  by_cases e2 : op = 2
  · subst e2
    rw [if_pos rfl]
    exact (both_2 h F mode n p q Ab Ak s.size cb ks.length ck (by omega) (by omega) (by omega)).mono fun e w' ⟨L', a1, a2, a3, a4, a5, h1, h2, h3⟩ => ⟨L', a1, a2, a3, a4, a5, h1, h2.mono (by omega), h3⟩
  rw [if_neg e2]
  by_cases e3 : op = 3
  · subst e3
    rw [if_pos rfl]
    exact (both_3 h F mode n p q Ab Ak s.size cb ks.length ck (by omega) (by omega)).mono fun e w' ⟨L', a1, a2, a3, a4, a5, h1, h2, h3⟩ => ⟨L', a1, a2, a3, a4, a5, h1, h2.mono (by omega), h3⟩
  rw [if_neg e3]
  by_cases e4 : op = 4
  · subst e4
    rw [if_pos rfl]
    exact (both_4 h mode n p q Ab Ak s.size cb ks.length ck).mono fun e w' ⟨L', a1, a2, a3, h1, h2, h3⟩ => ⟨L', a1, a2, a3, _, _, h1, h2.mono (by omega), h3⟩
  rw [if_neg e4]
  by_cases e5 : op = 5
  · subst e5
    rw [if_pos rfl]
    exact (both_5 h mode n p q Ab Ak s.size cb ck ks hr (by omega)).mono fun e w' ⟨L', a1, a2, a3, a4, a5, h1, h2, h3⟩ => ⟨L', a1, a2, a3, a4, a5, h1, h2.mono (by omega), h3⟩
  rw [if_neg e5]
  by_cases e6 : op = 6
  · subst e6
    rw [if_pos rfl]
    exact (both_6 h mode n p q Ab Ak s.size cb ck ks hr (by omega) F.hc F.ok).mono fun e w' ⟨L', a1, h1, h2, h3⟩ => ⟨L', a1, a1, _, _, _, h1, h2.mono (by omega), h3⟩
  rw [if_neg e6]
  by_cases e7 : op = 7
  · subst e7
    rw [if_pos rfl]
    exact (both_7 h mode n p q Ab Ak s.size cb ks.length ck).mono fun e w' ⟨h1, h2⟩ => ⟨L, _, _, _, _, _, h1, h2.mono (by omega), rfl⟩
  rw [if_neg e7]
  by_cases e8 : op = 8
  · subst e8
    rw [if_pos rfl]
    exact (both_8 h F mode n p q s Ab Ak cb ks.length ck hv (by omega) (by omega) (by omega)).mono fun e w' ⟨L', a1, a2, a3, a4, a5, h1, h2, h3⟩ => ⟨L', a1, a2, a3, a4, a5, h1, h2.mono (by omega), h3⟩
  rw [if_neg e8]
  by_cases e9 : op = 9
  · subst e9
    rw [if_pos rfl]
    exact (both_9 h F mode n p q Ab Ak s.size cb ks.length ck (by omega)).mono fun e w' ⟨L', a1, a2, a3, a4, a5, h1, h2, h3⟩ => ⟨L', a1, a2, a3, a4, a5, h1, h2.mono (by omega), h3⟩
  rw [if_neg e9]
  by_cases e10 : op = 10
  · subst e10
    rw [if_pos rfl]
    exact (both_10 h mode n p q Ab Ak s.size cb ks.length ck F.hn.1 F.hn.2).mono fun e w' ⟨h1, h2⟩ => ⟨L, _, _, _, _, _, h1, h2.mono (by omega), rfl⟩
  rw [if_neg e10]
  by_cases e11 : op = 11
  · subst e11
    rw [if_pos rfl]
    exact (both_11 h mode n p q Ab Ak s.size cb ks.length ck).mono fun e w' ⟨h1, h2⟩ => ⟨L, _, _, _, _, _, h1, h2.mono (by omega), rfl⟩
  rw [if_neg e11]
  exact (both_else h op mode n p q Ab Ak s.size cb ks.length ck (by omega)).mono fun e w' ⟨h1, h2⟩ => ⟨L, _, _, _, _, _, h1, h2.mono (by omega), rfl⟩
end
end Go.Proofs.YtcnmlgmlijgmhaaDoor
