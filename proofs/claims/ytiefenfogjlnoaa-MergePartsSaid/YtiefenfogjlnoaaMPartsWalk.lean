/-
  The walk of MergeParts.
-/
import Derived.Test.YtiefenfogjlnoaaMTurnedWalk
import Derived.Maps.AppendAt
import Derived.Laws.AppendOwnNone
import Derived.Deep.QuietTactic
namespace Go.Proofs.Ytiefenfogjlnoaa
open Go.RowKit


/-- What a row of texts of the call's own is, behind 'append' of another row of texts. -/
theorem wpList_append_strs {w : World} {ops : Array Oper} {rest : List Oper} {o : Oper} {a : Act} {Q : Exit → Act → World → Prop} (hgd : o.guard = none) (s x : Operand)
    (ho : o.op = .call { callee := .builtin .append, args := #[s, x], argTypes := #[28, 28] }) (base : Nat) (v : Value) (X : List ByteArray) (hs : a.eval s = v) (hown : w.ownsRow base 9 1 v X.length (X.map Value.string))
    (u : Value) (Y : List ByteArray) (hu : Strs w u Y) (hx : a.eval x = u) (h63 : X.length + Y.length ≤ 1000000) (hbase : base ≤ w.heap.size)
    (h : ∀ v' w', w'.ownsRow base 9 1 v' (X ++ Y).length ((X ++ Y).map Value.string) → w.grownBy w' v.ownBlock → (v'.ownBlock = v.ownBlock ∨ v'.ownBlock = some w.heap.size) → wpList Try.prog ops Q rest (a.put o.dst v') w') : wpList Try.prog ops Q (o :: rest) a w := by
  obtain ⟨i0, hi, hz0, hz1, hz2⟩ := info_parts strInfo
  obtain ⟨A, c, rfl, h1, h2, h3, h4⟩ := hu
  cases A with
  | none =>
    obtain rfl := h3 rfl
    obtain rfl : Y = [] := List.eq_nil_of_length_eq_zero (by omega)
    refine wpList_append_own_none hgd s x 28 ho base 9 i0 1 Try.underlying28 hi v _ _ hs hown hx ?_
    exact h v w (by simpa using hown) ⟨rfl, rfl, rfl, Nat.le_refl _, fun _ _ _ => rfl⟩ (.inl rfl)
  | some ad =>
    refine wpList_append_own_at w hgd s x 28 ho base 9 i0 (.string { data := #[] }) 1 16 Try.underlying28 hi hz0 hz1 hz2 rfl (by decide) v _ _ hs hown ad Y.length c (Y.map Value.string) hx (by simp) ?_ ?_ (by unfold maxLen; omega) (by omega) hbase ?_
    · intro j z hz
      rw [List.getElem?_map] at hz
      cases hy : Y[j]? with
      | none => rw [hy] at hz; cases hz
      | some t => rw [hy] at hz; obtain rfl := Option.some.inj hz; exact h4 ad rfl j t hy
    · intro z hz
      obtain ⟨t, _, rfl⟩ := List.mem_map.1 hz
      rfl
    · intro v' w' hown' hg _ hat
      exact h v' w' (by rw [List.length_append, List.map_append]; exact hown') hg hat

/-- Three rows of texts of the call's own, in blocks of their own. -/
structure Trip (w : World) (B : Nat) (x y z : Value) (X Y Z : List ByteArray) : Prop where
  px : w.ownsRow B 9 1 x X.length (X.map Value.string)
  py : w.ownsRow B 9 1 y Y.length (Y.map Value.string)
  pz : w.ownsRow B 9 1 z Z.length (Z.map Value.string)
  d1 : ∀ k, x.ownBlock = some k → y.ownBlock ≠ some k
  d2 : ∀ k, x.ownBlock = some k → z.ownBlock ≠ some k
  d3 : ∀ k, y.ownBlock = some k → z.ownBlock ≠ some k

theorem trip_rot {w : World} {B : Nat} {x y z : Value} {X Y Z : List ByteArray} (h : Trip w B x y z X Y Z) : Trip w B y z x Y Z X :=
  ⟨h.py, h.pz, h.px, h.d3, fun k hy hx => h.d1 k hx hy, fun k hz hx => h.d2 k hx hz⟩
theorem trip_below {w w' : World} {B : Nat} {x y z : Value} {X Y Z : List ByteArray} (h : Trip w B x y z X Y Z) (hb : Below w.heap.size w w') : Trip w' B x y z X Y Z :=
  ⟨own_keep h.px hb, own_keep h.py hb, own_keep h.pz hb, h.d1, h.d2, h.d3⟩
theorem trip_put {w w' : World} {B : Nat} {x y z x' : Value} {X Y Z X' : List ByteArray} (h : Trip w B x y z X Y Z) (ho : w'.ownsRow B 9 1 x' X'.length (X'.map Value.string)) (hg : w.grownBy w' x.ownBlock)
    (hat : x'.ownBlock = x.ownBlock ∨ x'.ownBlock = some w.heap.size) : Trip w' B x' y z X' Y Z := by
  have kp : ∀ {v : Value} {n : Nat} {l : List Value}, w.ownsRow B 9 1 v n l → (∀ k, x.ownBlock = some k → v.ownBlock ≠ some k) → w'.ownsRow B 9 1 v n l := by
    intro v n l hv hd
    refine hv.kept hg ?_
    cases hy : v.ownBlock with
    | none => exact .inl rfl
    | some k => exact .inr fun e => hd k e.symm hy
  have kd : ∀ {v : Value} {n : Nat} {l : List Value}, w.ownsRow B 9 1 v n l → (∀ k, x.ownBlock = some k → v.ownBlock ≠ some k) → ∀ k, x'.ownBlock = some k → v.ownBlock ≠ some k := by
    intro v n l hv hd k hk
    rcases hat with e | e
    · exact hd k (by rw [← e]; exact hk)
    · intro hy
      rw [e] at hk
      have := (hv.lt k hy).2
      injection hk with hk
      omega
  exact ⟨ho, kp h.py h.d1, kp h.pz h.d2, kd h.py h.d1, kd h.pz h.d2, h.d3⟩

def fb (cs : List (Ck ByteArray)) : List ByteArray := cs.flatMap (·.base)
def fo (cs : List (Ck ByteArray)) : List ByteArray := cs.flatMap (·.ours)
def ft (cs : List (Ck ByteArray)) : List ByteArray := cs.flatMap (·.theirs)
theorem f_take (f : Ck ByteArray → List ByteArray) (cs : List (Ck ByteArray)) (k : Nat) {c : Ck ByteArray} (h : cs[k]? = some c) : (cs.take (k + 1)).flatMap f = (cs.take k).flatMap f ++ f c := by
  rw [List.take_add_one, h, List.flatMap_append]
  simp
theorem f_len (f : Ck ByteArray → List ByteArray) (cs : List (Ck ByteArray)) (k : Nat) : ((cs.take k).flatMap f).length ≤ (cs.flatMap f).length := by
  conv => rhs; rw [← List.take_append_drop k cs, List.flatMap_append, List.length_append]
  omega

/-- A row of a chunk, the five cells. -/
def Five5 (W : World) (g k : Nat) (v0 v1 v2 v3 v4 : Value) : Prop := W.cell? ⟨g, k * 5, none⟩ = some v0 ∧ W.cell? ⟨g, k * 5 + 1, none⟩ = some v1 ∧ W.cell? ⟨g, k * 5 + 2, none⟩ = some v2 ∧ W.cell? ⟨g, k * 5 + 3, none⟩ = some v3 ∧ W.cell? ⟨g, k * 5 + 4, none⟩ = some v4
theorem five_below {w W : World} {g k : Nat} {v0 v1 v2 v3 v4 : Value} (h : Five5 w g k v0 v1 v2 v3 v4) (hb : Below w.heap.size w W) : Five5 W g k v0 v1 v2 v3 v4 := by
  obtain ⟨h0, h1, h2, h3, h4⟩ := h
  exact ⟨(hb.cell (World.block_lt_of_cell? _ _ h0)).trans h0, (hb.cell (World.block_lt_of_cell? _ _ h1)).trans h1, (hb.cell (World.block_lt_of_cell? _ _ h2)).trans h2, (hb.cell (World.block_lt_of_cell? _ _ h3)).trans h3, (hb.cell (World.block_lt_of_cell? _ _ h4)).trans h4⟩

/-- rectoref11.Equal, said of a world behind the one in which the rows stand. -/
theorem eq_at (w5 w8 : World) (u v : Value) (xs ys : List ByteArray) (b : Bool) (h : Strs w5 u xs) (g : Strs w5 v ys) (hb : decide (xs = ys) = b) (h8 : Below w5.heap.size w5 w8) :
    ∀ q, Calls Try.prog 12 #[u, v] (w8.drewN q) (Flag b (w8.drewN q)) := fun q => by
  have := refEqual_any (w8.drewN q) u v xs ys ((h.below h8).drewN q) ((g.below h8).drewN q)
  rwa [hb] at this

set_option maxRecDepth 100000 in
set_option maxHeartbeats 8000000 in
theorem parts_walk (w : World) (A B D : Option Addr) (n c m d0 r f : Nat) (xs ys zs : List ByteArray) (sx : Strs w (.slice A n c) xs) (sy : Strs w (.slice B m d0) ys) (sz : Strs w (.slice D r f) zs) (hn : n = xs.length) (hm : m = ys.length) (hr : r = zs.length) :
    Calls Try.prog 4 #[.slice A n c, .slice B m d0, .slice D r f] w (YesB w) := by
  by_cases gx : fewL xs = true
  · have Fx := Lib.hid (few_of w A n c xs true sx hn gx)
    by_cases gy : fewL ys = true
    · have Fy := Lib.hid (few_of w B m d0 ys true sy hm gy)
      by_cases gz : fewL zs = true
      · have Fz := Lib.hid (few_of w D r f zs true sz hr gz)
        by_cases lx : n ≤ 40
        · have ix : (n : Int) ≤ 40 := by omega
          by_cases ly : m ≤ 40
          · have iy : (m : Int) ≤ 40 := by omega
            by_cases lz : r ≤ 40
            · have iz : (r : Int) ≤ 40 := by omega
              have fsz : ∀ {l : List ByteArray}, fewL l = true → ∀ s ∈ l, s.size ≤ maxLen := by
                intro l hl s hs
                unfold fewL at hl
                rw [Bool.and_eq_true, List.all_eq_true] at hl
                have := of_decide_eq_true (hl.2 s hs)
                unfold maxLen
                omega
              have CH : Hid (∀ W, Below w.heap.size w W → Calls Try.prog 11 #[.slice A n c, .slice B m d0, .slice D r f] W (Chunked W (allC xs ys zs))) := Lib.hid fun W hW => chunks_any W _ _ _ xs ys zs (sx.below hW) (sy.below hW) (sz.below hW) (fsz gx) (fsz gy) (fsz gz) (by omega) (by omega) (by omega)
              have hL : (allC xs ys zs).length ≤ 600 := by have := chunks_len (pls (ed xs ys) 0) (pls (ed xs zs) 0) xs ys zs (xs.length + 1) 0 0 0; unfold allC; omega
              obtain ⟨pp1, pp2, pp3⟩ := allC_parts xs ys zs
              have P1 : Hid (fb (allC xs ys zs) = xs) := Lib.hid pp1
              have P2 : Hid (fo (allC xs ys zs) = ys) := Lib.hid pp2
              have P3 : Hid (ft (allC xs ys zs) = zs) := Lib.hid pp3
              have L1 : Hid (∀ k, (fb ((allC xs ys zs).take k)).length ≤ 40) := Lib.hid fun k => by have := f_len (·.base) (allC xs ys zs) k; have h2 := congrArg List.length P1.out; unfold fb at h2 ⊢; omega
              have L2 : Hid (∀ k, (fo ((allC xs ys zs).take k)).length ≤ 40) := Lib.hid fun k => by have := f_len (·.ours) (allC xs ys zs) k; have h2 := congrArg List.length P2.out; unfold fo at h2 ⊢; omega
              have L3 : Hid (∀ k, (ft ((allC xs ys zs).take k)).length ≤ 40) := Lib.hid fun k => by have := f_len (·.theirs) (allC xs ys zs) k; have h2 := congrArg List.length P3.out; unfold ft at h2 ⊢; omega
              have HCL := Lib.hid (allC_clash xs ys zs)
              have E1 := Lib.hid sx
              have E2 := Lib.hid sy
              have E3 := Lib.hid sz
              clear pp1 pp2 pp3 fsz sx sy sz hn hm hr
              generalize allC xs ys zs = cs at *
              clear gx gy gz lx ly lz
              go_enter Try.func4, Try.ntmps4
              go_wp2_with fail
              refine (known_yes w).mono ?_
              rintro e w1 ⟨rfl, d⟩
              have b1 := d
              clear d
              go_wp2_with fail
              refine (Fx.out _ b1).mono ?_
              rintro e w2 ⟨rfl, d⟩
              have b2 := below_trans b1 d
              clear b1 d
              go_wp2_with fail
              refine (Fy.out _ b2).mono ?_
              rintro e w3 ⟨rfl, d⟩
              have b3 := below_trans b2 d
              clear b2 d
              go_wp2_with fail
              refine (Fz.out _ b3).mono ?_
              rintro e w4 ⟨rfl, d⟩
              have b4 := below_trans b3 d
              clear b3 d
              go_wp2_with fail
              refine (CH.out w4 b4).mono ?_
              rintro e w5 ⟨vC, rfl, o5, d5⟩
              have b5 := below_trans b4 d5
              obtain ⟨AC, cC, rfl⟩ := o5.form
              have HO := Lib.hid o5
              have B5 := Lib.hid b5
              clear b4 d5 o5 b5 CH Fx Fy Fz
              go_wp2_with fail
              go_loopw [9, 10, 11, 12] (fun s9 s10 s11 s12 wr => ∃ k : Nat, k ≤ cs.length ∧ s12 = .int .i64 k ∧ Trip wr w5.heap.size s9 s10 s11 (fb (cs.take k)) (fo (cs.take k)) (ft (cs.take k)) ∧ Below w5.heap.size w5 wr) (fun _ _ _ s12 _ => cs.length - (intOf s12).toNat)
              case atStart => exact ⟨0, Nat.zero_le _, rfl, ⟨World.ownsRow_nil _ _ _ _, World.ownsRow_nil _ _ _ _, World.ownsRow_nil _ _ _ _, (fun k hk => by cases hk), (fun k hk => by cases hk), (fun k hk => by cases hk)⟩, Below.refl _ _⟩
              case round =>
                obtain ⟨k, hk, rfl, hp, hb⟩ := hrel
                have k0 : (0 : Int) ≤ (k : Int) := Int.natCast_nonneg _
                by_cases hlt : k < cs.length
                · have k1 : (k : Int) < (cs.length : Int) := by omega
                  obtain ⟨cc, hc⟩ : ∃ cc, cs[k]? = some cc := ⟨_, List.getElem?_eq_getElem hlt⟩
                  obtain ⟨g, A1, A2, A3, A4, c1, c2, c3, c4, rfl, x0, x1, x2, x3, x4, t1, t2, t3, t4⟩ := HO.out.at hc
                  have hcl := HCL.out cc (List.mem_of_getElem? hc)
                  obtain ⟨lo, hlo⟩ : ∃ l, l = cc.out.length := ⟨_, rfl⟩
                  rw [← hlo] at x4
                  generalize cc.clash = cl at x3 hcl
                  have HLO := Lib.hid hlo
                  have HCC := Lib.hid hcl
                  clear hlo hcl
                  have HV : Hid (Five5 w5 g k _ _ _ _ _) := Lib.hid ⟨x0, x1, x2, x3, x4⟩
                  have T1 := Lib.hid t1
                  have T2 := Lib.hid t2
                  have T3 := Lib.hid t3
                  have EB : Hid (fb (cs.take (k + 1)) = fb (cs.take k) ++ cc.base) := Lib.hid (f_take (·.base) cs k hc)
                  have EO : Hid (fo (cs.take (k + 1)) = fo (cs.take k) ++ cc.ours) := Lib.hid (f_take (·.ours) cs k hc)
                  have ET : Hid (ft (cs.take (k + 1)) = ft (cs.take k) ++ cc.theirs) := Lib.hid (f_take (·.theirs) cs k hc)
                  have q1 := L1.out (k + 1)
                  have q2 := L2.out (k + 1)
                  have q3 := L3.out (k + 1)
                  rw [EB.out, List.length_append] at q1
                  rw [EO.out, List.length_append] at q2
                  rw [ET.out, List.length_append] at q3
                  obtain ⟨y0, y1, y2, y3, y4⟩ := five_below HV.out hb
                  have ts1 := T1.out.below hb
                  have hsz := hb.size
                  clear x0 x1 x2 x3 x4 t1 t2 t3 t4 hc
                  generalize fb (cs.take k) = X at *
                  generalize fo (cs.take k) = Y at *
                  generalize ft (cs.take k) = Z at *
                  go_wp2_with (first
                    | (at_builtin; refine wpList_append_strs rfl (.tmp 70) (.tmp 75) rfl w5.heap.size _ Z rfl hp7.px _ cc.theirs ts3 rfl (by omega) hb7.size ?_; intro v8 w8 hown8 hg8 hat8; have hp8 := trip_rot (trip_put hp7 hown8 hg8 hat8); have hb8 : Below w5.heap.size w5 w8 := hb7.grown hg8 hb7.size (fun z hz => (hp7.px.lt z hz).1); clear hown8 hg8 hat8 ts3; obtain ⟨s0, s1, s2, s3, s4⟩ := five_below HV.out hb8)
                    | (at_builtin; refine wpList_append_strs rfl (.tmp 63) (.tmp 68) rfl w5.heap.size _ Y rfl hp6.px _ cc.ours ts2 rfl (by omega) hb6.size ?_; intro v7 w7 hown7 hg7 hat7; have hp7 := trip_rot (trip_put hp6 hown7 hg7 hat7); have hb7 : Below w5.heap.size w5 w7 := hb6.grown hg7 hb6.size (fun z hz => (hp6.px.lt z hz).1); clear hown7 hg7 hat7 ts2; have ts3 := T3.out.below hb7; obtain ⟨r0, r1, r2, r3, r4⟩ := five_below HV.out hb7)
                    | (at_builtin; refine wpList_append_strs rfl (.tmp 56) (.tmp 61) rfl w5.heap.size _ X rfl hp.px _ cc.base ts1 rfl (by omega) hsz ?_; intro v6 w6 hown6 hg6 hat6; have hp6 := trip_rot (trip_put hp hown6 hg6 hat6); have hb6 : Below w5.heap.size w5 w6 := hb.grown hg6 hsz (fun z hz => (hp.px.lt z hz).1); clear hown6 hg6 hat6 ts1; have ts2 := T2.out.below hb6; obtain ⟨z0, z1, z2, z3, z4⟩ := five_below HV.out hb6))
                  have HP8 := Lib.hid hp8
                  have HB8 := Lib.hid hb8
                  clear y0 y1 y2 y3 y4 z0 z1 z2 z3 z4 r0 r1 r2 r3 r4 hp hp6 hp7 hp8 hb hb6 hb7 hb8 q1 q2 q3 hsz
                  by_cases u0 : lo = 0
                  · have o0 : cc.out = [] := List.eq_nil_of_length_eq_zero (by rw [← HLO.out]; exact u0)
                    subst u0
                    by_cases e1 : cc.ours = cc.base
                    · obtain rfl : cl = false := by
                        rw [Bool.eq_false_iff]; exact fun h => ((HCC.out.1 h).2.1) e1
                      have R1 := Lib.hid (eq_at w5 w8 (.slice A2 cc.ours.length c2) (.slice A1 cc.base.length c1) cc.ours cc.base true T2.out T1.out (by simp [e1]) HB8.out)
                      clear e1 o0
                      refine wp_region_quiet_lit (by kernel_rfl) (by kernel_rfl) ?_
                      iterate 23 (go_big_quiet_step (fail))
                      go_big_quiet_step ((go_at_call 12; exact flag_quiet (R1.out _)))
                      iterate 31 (go_big_quiet_step (fail))
                      refine wpQuiet_nil ?_
                      intro _ hw'
                      obtain ⟨nq, hw''⟩ := hw'
                      subst hw''
                      go_wp2_with fail
                      go_roundw
                      case rel => exact ⟨k + 1, by omega, by go_num, by rw [EB.out, EO.out, ET.out]; exact trip_below HP8.out (below_drewN (Below.refl _ _) _), below_drewN HB8.out _⟩
                      case measure => simp [intOf]; omega
                    · by_cases e2 : cc.theirs = cc.base
                      · obtain rfl : cl = false := by
                          rw [Bool.eq_false_iff]; exact fun h => ((HCC.out.1 h).2.2.1) e2
                        have R1 := Lib.hid (eq_at w5 w8 (.slice A2 cc.ours.length c2) (.slice A1 cc.base.length c1) cc.ours cc.base false T2.out T1.out (by simp [e1]) HB8.out)
                        have R2 := Lib.hid (eq_at w5 w8 (.slice A3 cc.theirs.length c3) (.slice A1 cc.base.length c1) cc.theirs cc.base true T3.out T1.out (by simp [e2]) HB8.out)
                        clear e1 e2 o0
                        refine wp_region_quiet_lit (by kernel_rfl) (by kernel_rfl) ?_
                        iterate 23 (go_big_quiet_step (fail))
                        go_big_quiet_step ((go_at_call 12; exact flag_quiet (R1.out _)))
                        iterate 13 (go_big_quiet_step (fail))
                        go_big_quiet_step ((go_at_call 12; exact flag_quiet (R2.out _)))
                        iterate 17 (go_big_quiet_step (fail))
                        refine wpQuiet_nil ?_
                        intro _ hw'
                        obtain ⟨nq, hw''⟩ := hw'
                        subst hw''
                        go_wp2_with fail
                        go_roundw
                        case rel => exact ⟨k + 1, by omega, by go_num, by rw [EB.out, EO.out, ET.out]; exact trip_below HP8.out (below_drewN (Below.refl _ _) _), below_drewN HB8.out _⟩
                        case measure => simp [intOf]; omega
                      · by_cases e3 : cc.ours = cc.theirs
                        · obtain rfl : cl = false := by
                            rw [Bool.eq_false_iff]; exact fun h => ((HCC.out.1 h).2.2.2) e3
                          have R1 := Lib.hid (eq_at w5 w8 (.slice A2 cc.ours.length c2) (.slice A1 cc.base.length c1) cc.ours cc.base false T2.out T1.out (by simp [e1]) HB8.out)
                          have R2 := Lib.hid (eq_at w5 w8 (.slice A3 cc.theirs.length c3) (.slice A1 cc.base.length c1) cc.theirs cc.base false T3.out T1.out (by simp [e2]) HB8.out)
                          have R3 := Lib.hid (eq_at w5 w8 (.slice A2 cc.ours.length c2) (.slice A3 cc.theirs.length c3) cc.ours cc.theirs true T2.out T3.out (by simp [e3]) HB8.out)
                          clear e1 e2 e3 o0
                          refine wp_region_quiet_lit (by kernel_rfl) (by kernel_rfl) ?_
                          iterate 23 (go_big_quiet_step (fail))
                          go_big_quiet_step ((go_at_call 12; exact flag_quiet (R1.out _)))
                          iterate 13 (go_big_quiet_step (fail))
                          go_big_quiet_step ((go_at_call 12; exact flag_quiet (R2.out _)))
                          iterate 13 (go_big_quiet_step (fail))
                          go_big_quiet_step ((go_at_call 12; exact flag_quiet (R3.out _)))
                          iterate 3 (go_big_quiet_step (fail))
                          refine wpQuiet_nil ?_
                          intro _ hw'
                          obtain ⟨nq, hw''⟩ := hw'
                          subst hw''
                          go_wp2_with fail
                          go_roundw
                          case rel => exact ⟨k + 1, by omega, by go_num, by rw [EB.out, EO.out, ET.out]; exact trip_below HP8.out (below_drewN (Below.refl _ _) _), below_drewN HB8.out _⟩
                          case measure => simp [intOf]; omega
                        · obtain rfl : cl = true := HCC.out.2 ⟨o0, e1, e2, e3⟩
                          have R1 := Lib.hid (eq_at w5 w8 (.slice A2 cc.ours.length c2) (.slice A1 cc.base.length c1) cc.ours cc.base false T2.out T1.out (by simp [e1]) HB8.out)
                          have R2 := Lib.hid (eq_at w5 w8 (.slice A3 cc.theirs.length c3) (.slice A1 cc.base.length c1) cc.theirs cc.base false T3.out T1.out (by simp [e2]) HB8.out)
                          have R3 := Lib.hid (eq_at w5 w8 (.slice A2 cc.ours.length c2) (.slice A3 cc.theirs.length c3) cc.ours cc.theirs false T2.out T3.out (by simp [e3]) HB8.out)
                          clear e1 e2 e3 o0
                          refine wp_region_quiet_lit (by kernel_rfl) (by kernel_rfl) ?_
                          iterate 23 (go_big_quiet_step (fail))
                          go_big_quiet_step ((go_at_call 12; exact flag_quiet (R1.out _)))
                          iterate 13 (go_big_quiet_step (fail))
                          go_big_quiet_step ((go_at_call 12; exact flag_quiet (R2.out _)))
                          iterate 13 (go_big_quiet_step (fail))
                          go_big_quiet_step ((go_at_call 12; exact flag_quiet (R3.out _)))
                          iterate 3 (go_big_quiet_step (fail))
                          refine wpQuiet_nil ?_
                          intro _ hw'
                          obtain ⟨nq, hw''⟩ := hw'
                          subst hw''
                          go_wp2_with fail
                          go_roundw
                          case rel => exact ⟨k + 1, by omega, by go_num, by rw [EB.out, EO.out, ET.out]; exact trip_below HP8.out (below_drewN (Below.refl _ _) _), below_drewN HB8.out _⟩
                          case measure => simp [intOf]; omega
                  · have u0i : ¬ (lo : Int) = 0 := by omega
                    have u0d : ((lo : Int) == 0) = false := by rw [beq_eq_false_iff_ne]; exact u0i
                    obtain rfl : cl = false := by
                      rw [Bool.eq_false_iff]; exact fun h => u0 (by rw [HLO.out, (HCC.out.1 h).1]; rfl)
                    refine wp_region_quiet_lit (by kernel_rfl) (by kernel_rfl) ?_
                    iterate 55 (go_big_quiet_step (fail))
                    refine wpQuiet_nil ?_
                    intro _ hw'
                    obtain ⟨nq, hw''⟩ := hw'
                    subst hw''
                    go_wp2_with fail
                    go_roundw
                    case rel => exact ⟨k + 1, by omega, by go_num, by rw [EB.out, EO.out, ET.out]; exact trip_below HP8.out (below_drewN (Below.refl _ _) _), below_drewN HB8.out _⟩
                    case measure => simp [intOf]; omega
                · obtain rfl : k = cs.length := by omega
                  rw [List.take_length, P1.out, P2.out, P3.out] at hp
                  have bw := below_trans B5.out hb
                  have R1 := refEqual_any wr _ _ xs xs (Strs.of_own hp.px rfl) (E1.out.below bw)
                  have R2 := fun q => refEqual_any (wr.drewN q) _ _ ys ys ((Strs.of_own hp.py rfl).drewN q) ((E2.out.below bw).drewN q)
                  have R3 := fun q => refEqual_any (wr.drewN q) _ _ zs zs ((Strs.of_own hp.pz rfl).drewN q) ((E3.out.below bw).drewN q)
                  rw [decide_eq_true rfl] at R1
                  simp only [decide_true] at R2 R3
                  have HR1 := Lib.hid R1
                  have HR2 := Lib.hid R2
                  have HR3 := Lib.hid R3
                  have BW := Lib.hid bw
                  clear R1 R2 R3 hp bw hb
                  go_wp2_with fail
                  refine HR1.out.mono ?_
                  rintro e w7 ⟨q, rfl, rfl⟩
                  go_wp2_with fail
                  refine (HR2.out q).mono ?_
                  rintro e w8 ⟨q2, rfl, rfl⟩
                  go_wp2_with fail
                  refine (HR3.out (q + q2)).mono ?_
                  rintro e w9 ⟨q3, rfl, rfl⟩
                  go_wp2_with fail
                  go_ret
                  exact ⟨rfl, below_drewN BW.out _⟩
            · have iz : ¬ (r : Int) ≤ 40 := by omega
              clear sx sy sz hn hm hr
              go_enter Try.func4, Try.ntmps4
              go_wp2_with fail
              refine (known_yes w).mono ?_
              rintro e w1 ⟨rfl, d⟩
              have b1 := d
              clear d
              go_wp2_with fail
              refine (Fx.out _ b1).mono ?_
              rintro e w2 ⟨rfl, d⟩
              have b2 := below_trans b1 d
              clear b1 d
              go_wp2_with fail
              refine (Fy.out _ b2).mono ?_
              rintro e w3 ⟨rfl, d⟩
              have b3 := below_trans b2 d
              clear b2 d
              go_wp2_with fail
              refine (Fz.out _ b3).mono ?_
              rintro e w4 ⟨rfl, d⟩
              have b4 := below_trans b3 d
              clear b3 d
              go_wp2_with fail
              go_ret
              exact ⟨rfl, b4⟩
          · have iy : ¬ (m : Int) ≤ 40 := by omega
            clear sx sy sz hn hm hr
            go_enter Try.func4, Try.ntmps4
            go_wp2_with fail
            refine (known_yes w).mono ?_
            rintro e w1 ⟨rfl, d⟩
            have b1 := d
            clear d
            go_wp2_with fail
            refine (Fx.out _ b1).mono ?_
            rintro e w2 ⟨rfl, d⟩
            have b2 := below_trans b1 d
            clear b1 d
            go_wp2_with fail
            refine (Fy.out _ b2).mono ?_
            rintro e w3 ⟨rfl, d⟩
            have b3 := below_trans b2 d
            clear b2 d
            go_wp2_with fail
            refine (Fz.out _ b3).mono ?_
            rintro e w4 ⟨rfl, d⟩
            have b4 := below_trans b3 d
            clear b3 d
            go_wp2_with fail
            go_ret
            exact ⟨rfl, b4⟩
        · have ix : ¬ (n : Int) ≤ 40 := by omega
          clear sx sy sz hn hm hr
          go_enter Try.func4, Try.ntmps4
          go_wp2_with fail
          refine (known_yes w).mono ?_
          rintro e w1 ⟨rfl, d⟩
          have b1 := d
          clear d
          go_wp2_with fail
          refine (Fx.out _ b1).mono ?_
          rintro e w2 ⟨rfl, d⟩
          have b2 := below_trans b1 d
          clear b1 d
          go_wp2_with fail
          refine (Fy.out _ b2).mono ?_
          rintro e w3 ⟨rfl, d⟩
          have b3 := below_trans b2 d
          clear b2 d
          go_wp2_with fail
          refine (Fz.out _ b3).mono ?_
          rintro e w4 ⟨rfl, d⟩
          have b4 := below_trans b3 d
          clear b3 d
          go_wp2_with fail
          go_ret
          exact ⟨rfl, b4⟩
      · have gz0 : fewL zs = false := by simpa using gz
        have Fz := Lib.hid (few_of w D r f zs false sz hr gz0)
        clear gz gz0
        clear sx sy sz hn hm hr
        go_enter Try.func4, Try.ntmps4
        go_wp2_with fail
        refine (known_yes w).mono ?_
        rintro e w1 ⟨rfl, d⟩
        have b1 := d
        clear d
        go_wp2_with fail
        refine (Fx.out _ b1).mono ?_
        rintro e w2 ⟨rfl, d⟩
        have b2 := below_trans b1 d
        clear b1 d
        go_wp2_with fail
        refine (Fy.out _ b2).mono ?_
        rintro e w3 ⟨rfl, d⟩
        have b3 := below_trans b2 d
        clear b2 d
        go_wp2_with fail
        refine (Fz.out _ b3).mono ?_
        rintro e w4 ⟨rfl, d⟩
        have b4 := below_trans b3 d
        clear b3 d
        go_wp2_with fail
        go_ret
        exact ⟨rfl, b4⟩
    · have gy0 : fewL ys = false := by simpa using gy
      have Fy := Lib.hid (few_of w B m d0 ys false sy hm gy0)
      clear gy gy0
      clear sx sy sz hn hm hr
      go_enter Try.func4, Try.ntmps4
      go_wp2_with fail
      refine (known_yes w).mono ?_
      rintro e w1 ⟨rfl, d⟩
      have b1 := d
      clear d
      go_wp2_with fail
      refine (Fx.out _ b1).mono ?_
      rintro e w2 ⟨rfl, d⟩
      have b2 := below_trans b1 d
      clear b1 d
      go_wp2_with fail
      refine (Fy.out _ b2).mono ?_
      rintro e w3 ⟨rfl, d⟩
      have b3 := below_trans b2 d
      clear b2 d
      go_wp2_with fail
      go_ret
      exact ⟨rfl, b3⟩
  · have gx0 : fewL xs = false := by simpa using gx
    have Fx := Lib.hid (few_of w A n c xs false sx hn gx0)
    clear gx gx0
    clear sx sy sz hn hm hr
    go_enter Try.func4, Try.ntmps4
    go_wp2_with fail
    refine (known_yes w).mono ?_
    rintro e w1 ⟨rfl, d⟩
    have b1 := d
    clear d
    go_wp2_with fail
    refine (Fx.out _ b1).mono ?_
    rintro e w2 ⟨rfl, d⟩
    have b2 := below_trans b1 d
    clear b1 d
    go_wp2_with fail
    go_ret
    exact ⟨rfl, b2⟩

end Go.Proofs.Ytiefenfogjlnoaa
