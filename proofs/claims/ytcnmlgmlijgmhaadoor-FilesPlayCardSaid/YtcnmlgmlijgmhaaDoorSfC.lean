/-
  simfs: (tree).do and (tree).refuses of a write.
-/
import Derived.Test.YtcnmlgmlijgmhaaDoorSfA
import Derived.Test.YtcnmlgmlijgmhaaDoorPClash
namespace Go.Proofs.YtcnmlgmlijgmhaaDoor
open Go Go.RowKit Go.Maps

/-- An op that writes. -/
def opV (fr p : ByteArray) (f : FV) : Value := .agg #[.int .i64 0, .string fr, .string p, .int .i64 f.mode, .int .i64 f.time, .int .i64 f.inode, .string f.data]
set_option maxRecDepth 100000 in
set_option maxHeartbeats 2000000 in
theorem do_write (w : World) (b n : Nat) (T : Tr) (fr p : ByteArray) (f : FV) (h : TreeIs w b n T) (hn : n < maxLen) (hp : p.size ≤ maxLen) :
    Calls Tryd.prog 40 #[.map (some b), opV fr p f] w fun e w' => e = .returned (.tuple #[]) ∧ TreeIs w' b (n + 1) (putT T p f) ∧ w.grownBy w' (some b) := by
  obtain ⟨m, t, i, s⟩ := f
  have K1 := Blk.new w 80 #[.int .i64 0, .string fr, .string p, .int .i64 m, .int .i64 t, .int .i64 i, .string s]
  have c0 := K1.cell 0
  have c2 := K1.cell 2
  have c3 := K1.cell 3
  have c4 := K1.cell 4
  have c5 := K1.cell 5
  have c6 := K1.cell 6
  obtain ⟨w2, hrun, ho, hm⟩ := (h.alloc (.cells #[.int .i64 0, .string fr, .string p, .int .i64 m, .int .i64 t, .int .i64 i, .string s] 80)).put hn hp ⟨m, t, i, s⟩
  have HG := Lib.hid ((World.grownBy_alloc w (.cells #[.int .i64 0, .string fr, .string p, .int .i64 m, .int .i64 t, .int .i64 i, .string s] 80) (some b)).andThen hm.grown (row := some b) (fun j hj => by cases hj; exact .inr rfl))
  have HO := Lib.hid ho
  unfold fV at hrun
  clear h ho hm K1
  unfold opV
  go_enter Tryd.func40, Tryd.ntmps40
  go_wp2
  exact ⟨rfl, _, (by first | rfl | kernel_rfl), rfl, HO.out, HG.out⟩

def badX (fr p : ByteArray) (x : ByteArray × FV) : Bool := !decide (x.1 = fr) && cls x.1.data.toList p.data.toList
theorem has_mem {T : Tr} {x : ByteArray × FV} (hx : x ∈ T) : Maps.has (mapD T) (kS x.1) = true := by
  unfold mapD
  rw [Maps.has_eq, List.any_eq_true]
  exact ⟨(kS x.1, fD x.2), List.mem_map.2 ⟨x, hx, rfl⟩, by rw [same_kS]; simp⟩
theorem mem_of_at {T : Tr} {x : ByteArray} {c : FV} (h : ∀ zd, (mapD T).atKey (kS x) zd = fD c) : (x, c) ∈ T := by
  have hs : Maps.has (mapD T) (kS x) = true := Maps.has_true_of_atKey h
  rw [has_mapD] at hs
  obtain ⟨g, hg⟩ := Option.isSome_iff_exists.1 hs
  have h2 := h (fD noF)
  rw [atKey_mapD, hg] at h2
  obtain rfl := fD_inj h2
  unfold getT at hg
  obtain ⟨y, hy, hyc⟩ := Option.map_eq_some_iff.1 hg
  have h3 := List.find?_some hy
  have h4 := List.mem_of_find?_eq_some hy
  simp at h3
  obtain ⟨y1, y2⟩ := y
  simp only at h3 hyc
  subst h3; subst hyc
  exact h4
/-- What a write is refused with. -/
def refV (T : Tr) (fr p : ByteArray) : Int := if T.any (badX fr p) then 11 else 0
theorem refV_no {T : Tr} {fr p : ByteArray} (h : T.any (badX fr p) = false) : refV T fr p = 0 := by unfold refV; rw [h]; rfl
theorem refV_yes {T : Tr} {fr p : ByteArray} (h : T.any (badX fr p) = true) : refV T fr p = 11 := by unfold refV; rw [h]; rfl
set_option maxRecDepth 100000 in
set_option maxHeartbeats 4000000 in
theorem refuses_write (w : World) (b n : Nat) (T : Tr) (fr p : ByteArray) (f : FV) (h : TreeIs w b n T) (hT : ∀ x ∈ T, x.1.size ≤ 1000000) (hp : p.size ≤ 1000000) :
    Calls Tryd.prog 39 #[.map (some b), opV fr p f] w fun e w' => e = .returned (.int .i64 (refV T fr p)) ∧ Below w.heap.size w w' := by
  obtain ⟨m, t, i, s⟩ := f
  have K1 := Lib.hid (Blk.new w 80 #[.int .i64 0, .string fr, .string p, .int .i64 m, .int .i64 t, .int .i64 i, .string s])
  have c0 := K1.out.cell 0
  have B1 := Lib.hid ((Below.refl w.heap.size w).alloc (Nat.le_refl _) (.cells #[.int .i64 0, .string fr, .string p, .int .i64 m, .int .i64 t, .int .i64 i, .string s] 80))
  have HB := Lib.hid (h.alloc (.cells #[.int .i64 0, .string fr, .string p, .int .i64 m, .int .i64 t, .int .i64 i, .string s] 80))
  have HT := Lib.hid hT
  unfold opV
  clear h hT
  go_enter Tryd.func39, Tryd.ntmps39
  go_upto_region 12 with fail
  generalize hW : w.alloc (.cells #[.int .i64 0, .string fr, .string p, .int .i64 m, .int .i64 t, .int .i64 i, .string s] 80) = W at *
  clear hW c0
  go_wp2_with (first
    | (at_range; go_loud (refine wpList_range_own _ rfl _ 71 rfl 9 77 keyed_s Tryd.underlying71 fileR b n (mapD T) rfl HB.out ?_; intro w0 hrg0 hg0 hs0))
    | go_in)
  go_frame
  go_loopw [7] (fun _ wr => ∃ (left : Lit → Bool) (cnt : Nat), wr.ranges Tryd.prog 9 fileR b W.heap.size n (mapD T) left cnt ∧ Hid (W.grownBy wr none) ∧ Hid (∀ x ∈ T, left (kS x.1) = false → badX fr p x = false))
    (fun _ wr => wr.rangeLeft b W.heap.size)
  case atStart => exact ⟨_, _, hrg0, Lib.hid hg0, Lib.hid (fun x hx hl => by rw [has_mem hx] at hl; cases hl)⟩
  case round =>
    obtain ⟨left, cnt, hrg, hgw, hbad⟩ := hrel
    go_wp2_with (first
      | (at_next; refine wpList_next_ranges _ rfl _ rfl 9 keyed_s fileR Value.string fV (fun key kl hk => by obtain ⟨s, rfl, _⟩ := WideMaps.string_of_keyOf Tryd.underlying9 hk; exact ⟨s, rfl⟩) (fun v y hv => by obtain ⟨f, rfl, _⟩ := fileR_inv hv; exact ⟨f, rfl⟩) b W.heap.size n _ _ _ rfl hrg ?_ ?_)
      | go_in)
    · intro _ hl0
      have HR := Lib.hid (refV_no (T := T) (fr := fr) (p := p) <| List.any_eq_false.2 fun x hx => by rw [hbad.out x hx (hl0 _)]; simp)
      have HBB := Lib.hid (B1.out.grown hgw.out B1.out.size (fun z hz => by cases hz))
      go_wp2
      go_ret
      exact ⟨by rw [HR.out]; rfl, HBB.out⟩
    · intro x c kl y1 y2 w1 cnt1 hkey hlx hy hat hrg1 hlt hg1 hs1 hen
      obtain ⟨s', e1, e2, hsz⟩ := WideMaps.string_of_keyOf Tryd.underlying9 hkey
      cases e1
      have hkl : kl = kS x := e2
      subst hkl
      have hyD : y1 = fD c := by rw [fileR_mk] at hy; cases hy; rfl
      subst hyD
      have hmem := mem_of_at (T := T) (x := x) (c := c) hat
      have hg1' := hgw.out.andThen hg1 (row := none) (fun j hj => by cases hj; exact .inl (Nat.le_refl _))
      have KX := K1.out.grown hg1' (by simp)
      have x1 := KX.cell 1
      have x2 := KX.cell 2
      have HG1 := Lib.hid hg1'
      have HRG := Lib.hid hrg1
      have HOLD := Lib.hid hrg
      have HLT := Lib.hid hlt
      have CL := Lib.hid (clash_any x p w1 (HT.out _ hmem) hp)
      have HST := Lib.hid (fun (hb : badX fr p (x, c) = false) => (show ∀ z ∈ T, (left (kS z.1) && !(kS z.1).sameKey (kS x)) = false → badX fr p z = false from fun z hz hl => by
        cases hlz : left (kS z.1) with
        | false => exact hbad.out z hz hlz
        | true =>
          rw [hlz, same_kS] at hl
          simp at hl
          unfold badX at hb ⊢
          rw [hl]
          exact hb))
      have HMEM := Lib.hid hmem
      unfold fV at hen
      clear hkey hlx hy hat hrg1 hlt hg1 hg1' KX hrg hbad hgw hmem hsz
      by_cases hxf : x = fr
      · have hb : badX fr p (x, c) = false := by unfold badX; rw [hxf]; simp
        have HS2 := Lib.hid (HST.out hb)
        have hq1 : (x.toList == fr.toList) = true := by rw [hxf]; exact beq_self_eq_true _
        clear hb
        go_wp2_with fail
        go_roundw
        case rel => exact ⟨_, cnt1, HRG.out, HG1, HS2⟩
        case measure => rw [HRG.out.left_eq, HOLD.out.left_eq]; exact HLT.out
      · have hq3 : decide (x = fr) = false := decide_eq_false hxf
        cases hcl : cls x.data.toList p.data.toList with
        | true =>
          rw [hcl] at CL
          have hb : badX fr p (x, c) = true := by unfold badX; rw [decide_eq_false hxf, hcl]; rfl
          have HRR := Lib.hid (refV_yes (T := T) (fr := fr) (p := p) (List.any_eq_true.2 ⟨_, HMEM.out, hb⟩))
          have HBB := Lib.hid (B1.out.grown HG1.out B1.out.size (fun z hz => by cases hz))
          have hq1 : (x.toList == fr.toList) = false := by
            rw [beq_eq_false_iff_ne]
            exact fun e => hxf (by rw [ByteArray.toList_eq, ByteArray.toList_eq] at e; exact bytes_ext e)
          clear hb hcl
          go_wp2_with fail
          refine CL.out.mono ?_
          rintro e w' ⟨rfl, rfl⟩
          go_wp2
          go_ret
          exact ⟨by rw [HRR.out]; rfl, HBB.out⟩
        | false =>
          rw [hcl] at CL
          have hb : badX fr p (x, c) = false := by unfold badX; rw [hcl]; simp
          have HS2 := Lib.hid (HST.out hb)
          have hq1 : (x.toList == fr.toList) = false := by
            rw [beq_eq_false_iff_ne]
            exact fun e => hxf (by rw [ByteArray.toList_eq, ByteArray.toList_eq] at e; exact bytes_ext e)
          clear hb hcl
          go_wp2_with fail
          refine CL.out.mono ?_
          rintro e w' ⟨rfl, rfl⟩
          go_wp2_with fail
          go_roundw
          case rel => exact ⟨_, cnt1, HRG.out, HG1, HS2⟩
          case measure => rw [HRG.out.left_eq, HOLD.out.left_eq]; exact HLT.out
end Go.Proofs.YtcnmlgmlijgmhaaDoor
