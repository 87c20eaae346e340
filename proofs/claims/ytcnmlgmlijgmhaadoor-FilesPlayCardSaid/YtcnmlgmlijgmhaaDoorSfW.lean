/-
  simfs: Used, List, Pending, Read.
-/
import Derived.Test.YtcnmlgmlijgmhaaDoorSfV
import Derived.Test.YtcnmlgmlijgmhaaDoorSfG
import Derived.Test.YtcnmlgmlijgmhaaDoorSSort
import Derived.Shelf.SlIter.Collect
import Derived.Shelf.SlIter.Keys
import Derived.Ground.GgzProg
namespace Go.Proofs
open Go.Shelf
shelf_lay_g SlLaysZ.n7 Ggz 7 at Tryd 60 as Tryd.keysA
shelf_lay_g SlLaysZ.n8 Ggz 8 at Tryd 74 as Tryd.collA
end Go.Proofs
namespace Go.Proofs.YtcnmlgmlijgmhaaDoor
open Go Go.RowKit Go.Shelf Go.Maps Go.Lib Go.Sort

def KeysOnce (T : Tr) : Prop := T.Pairwise fun x y => x.1 ≠ y.1
theorem TreeIs.once {w : World} {b n : Nat} {T : Tr} (h : TreeIs w b n T) : KeysOnce T := by
  obtain ⟨es, hD, hpw, _⟩ := World.ownsMap.entries h keyed_s
  unfold mapD at hD
  injection hD with hD
  subst hD
  have := List.pairwise_map.1 hpw
  exact this.imp fun {a b} hab e => hab (by rw [e])
def usedV (T : Tr) : Nat := (T.map fun x => x.2.data.size).sum
def seenV (T : Tr) (left : Lit → Bool) : Nat := (T.map fun x => if left (kS x.1) then 0 else x.2.data.size).sum
theorem seenV_start (T : Tr) : seenV T (Maps.has (mapD T)) = 0 := by
  have : ∀ x ∈ T, (if Maps.has (mapD T) (kS x.1) then 0 else x.2.data.size) = 0 := fun x hx => by rw [has_mem hx]; rfl
  unfold seenV
  generalize Maps.has (mapD T) = l at this ⊢
  induction T with
  | nil => rfl
  | cons y T ih => simp only [List.map_cons, List.sum_cons]; rw [this y (List.mem_cons_self ..), ih (fun x hx => this x (List.mem_cons_of_mem _ hx))]
theorem seenV_end (T : Tr) {left : Lit → Bool} (h : ∀ k, left k = false) : seenV T left = usedV T := by
  unfold seenV usedV
  congr 1
  exact List.map_congr_left fun x _ => by rw [h]; rfl
theorem seenV_other (T : Tr) {left : Lit → Bool} {p : ByteArray} (h : ∀ x ∈ T, x.1 ≠ p) : seenV T (fun z => left z && !z.sameKey (kS p)) = seenV T left := by
  unfold seenV
  congr 1
  exact List.map_congr_left fun x hx => by simp only [same_kS, decide_eq_false (h x hx)]; simp
theorem seenV_step {T : Tr} (ho : KeysOnce T) {left : Lit → Bool} {p : ByteArray} {c : FV} (hm : (p, c) ∈ T) (hl : left (kS p) = true) : seenV T (fun z => left z && !z.sameKey (kS p)) = seenV T left + c.data.size := by
  induction T with
  | nil => cases hm
  | cons y T ih =>
    have h1 := List.pairwise_cons.1 ho
    rcases List.mem_cons.1 hm with e | hm
    · subst e
      have hot := seenV_other T (left := left) (p := p) (fun x hx => fun e => h1.1 x hx e.symm)
      unfold seenV at hot ⊢
      simp only [List.map_cons, List.sum_cons]
      rw [hot, hl, same_kS]
      simp
      omega
    · have hne : y.1 ≠ p := h1.1 _ hm
      have := ih h1.2 hm
      unfold seenV at this ⊢
      simp only [List.map_cons, List.sum_cons]
      have hk : (kS y.1).sameKey (kS p) = false := by rw [same_kS, decide_eq_false hne]
      simp only [hk, Bool.not_false, Bool.and_true] at this ⊢
      omega
theorem seenV_le (T : Tr) (left : Lit → Bool) : seenV T left ≤ usedV T := by
  unfold seenV usedV
  induction T with
  | nil => simp
  | cons y T ih => simp only [List.map_cons, List.sum_cons]; split <;> omega

set_option maxRecDepth 100000 in
set_option maxHeartbeats 4000000 in
theorem used_any {w : World} {F bf bs n : Nat} {T S : Tr} {vp : Value} {q now ino ops : Int} {off : Bool} {armed : Int} {vk : Value} (h : FsIs w F bf bs n T S vp q now ino ops off armed vk) (hu : usedV T ≤ 1000000000000) :
    Calls Tryd.prog 35 #[.pointer (some ⟨F, 0, none⟩)] w fun e w' => e = .returned (.int .i64 (usedV T)) ∧ Below w.heap.size w w' := by
  have x0 := h.x.cell 0
  have HB := Lib.hid h.f
  have HO := Lib.hid h.f.once
  have HU := Lib.hid hu
  clear h hu
  go_enter Tryd.func35, Tryd.ntmps35
  go_wp2_with (first
    | (at_range; go_loud (refine wpList_range_own _ rfl _ 71 rfl 9 77 keyed_s Tryd.underlying71 fileR bf n (mapD T) rfl HB.out ?_; intro w0 hrg0 hg0 hs0))
    | go_in)
  go_frame
  go_loopw [3] (fun s3 wr => ∃ (left : Lit → Bool) (cnt : Nat), wr.ranges Tryd.prog 9 fileR bf w.heap.size n (mapD T) left cnt ∧ Hid (w.grownBy wr none) ∧ s3 = .int .i64 (seenV T left))
    (fun _ wr => wr.rangeLeft bf w.heap.size)
  case atStart => exact ⟨_, _, hrg0, Lib.hid hg0, by rw [seenV_start]; rfl⟩
  case round =>
    obtain ⟨left, cnt, hrg, hgw, rfl⟩ := hrel
    go_wp2_with (first
      | (at_next; refine wpList_next_ranges _ rfl _ rfl 9 keyed_s fileR Value.string fV (fun key kl hk => by obtain ⟨s, rfl, _⟩ := WideMaps.string_of_keyOf Tryd.underlying9 hk; exact ⟨s, rfl⟩) (fun v y hv => by obtain ⟨f, rfl, _⟩ := fileR_inv hv; exact ⟨f, rfl⟩) bf w.heap.size n _ _ _ rfl hrg ?_ ?_)
      | go_in)
    · intro _ hl0
      have HR := Lib.hid (seenV_end T hl0)
      have HBB := Lib.hid ((Below.refl w.heap.size w).grown hgw.out (Nat.le_refl _) (fun z hz => by cases hz))
      go_wp2
      go_ret
      exact ⟨by rw [← HR.out]; rfl, HBB.out⟩
    · intro x c kl y1 y2 w1 cnt1 hkey hlx hy hat hrg1 hlt hg1 hs1 hen
      obtain ⟨s', e1, e2, hsz⟩ := WideMaps.string_of_keyOf Tryd.underlying9 hkey
      cases e1
      have hkl : kl = kS x := e2
      subst hkl
      have hyD : y1 = fD c := by rw [fileR_mk] at hy; cases hy; rfl
      subst hyD
      have hmem := mem_of_at (T := T) (x := x) (c := c) hat
      have hg1' := hgw.out.andThen hg1 (row := none) (fun j hj => by cases hj; exact .inl (Nat.le_refl _))
      have HG1 := Lib.hid (hg1'.andThen (World.grownBy_alloc _ (.cells #[.int .i64 c.mode, .int .i64 c.time, .int .i64 c.inode, .string c.data] 77) none) (row := none) (fun j hj => .inr hj))
      have HRG := Lib.hid hrg1
      have HOLD := Lib.hid hrg
      have HLT := Lib.hid hlt
      have hst := seenV_step HO.out hmem hlx
      have HST := Lib.hid hst
      have hsl := seenV_le T (fun z => left z && !z.sameKey (kS x))
      have hb1 : ((seenV T left : Nat) : Int) + ((c.data.size : Nat) : Int) ≤ 1000000000000 := by have := HU.out; omega
      have hb0 : (0 : Int) ≤ ((seenV T left : Nat) : Int) := Int.natCast_nonneg _
      have hb2 : (0 : Int) ≤ ((c.data.size : Nat) : Int) := Int.natCast_nonneg _
      obtain ⟨a, ha⟩ : ∃ a : Int, a = ((seenV T left : Nat) : Int) := ⟨_, rfl⟩
      have HA := Lib.hid ha
      rw [← ha] at hb1 hb0 ⊢
      unfold fV at hen
      clear hkey hlx hy hat hrg1 hlt hg1 hg1' hrg hgw hmem hsz hst hsl ha
      go_wp2_with fail
      go_roundw
      case rel =>
        refine ⟨_, cnt1, HRG.out.alloc _, HG1, ?_⟩
        rw [HST.out]; push_cast; rw [← HA.out]
      case measure => rw [(HRG.out.alloc _).left_eq, HOLD.out.left_eq]; exact HLT.out

/-- All names, rising. -/
def namesV (T : Tr) : List ByteArray := (srt (T.map fun x => bsOf x.1)).map mkB
theorem strKeys_mapD (T : Tr) : strKeys (mapD T) = T.map fun x => bsOf x.1 := by
  unfold strKeys mapD
  simp only [List.map_map]
  rfl
theorem size_mapD (T : Tr) : Maps.size (mapD T) = T.length := by
  unfold Maps.size mapD
  simp
theorem srt_perm {l l' : List Bs} (h : l.Perm l') : srt l = srt l' := by
  refine List.Perm.eq_of_pairwise (le := fun x y => ¬ compareBytes y x < 0) (fun x y _ _ h1 h2 => cmp_tot x y ?_ ?_) (srt_rises l) (srt_rises l') ((List.mergeSort_perm l _).trans (h.trans (List.mergeSort_perm l' _).symm))
  · rw [lt_dec]; exact decide_eq_false h2
  · rw [lt_dec]; exact decide_eq_false h1
set_option maxRecDepth 100000 in
set_option maxHeartbeats 4000000 in
theorem sortedFunc_any (w : World) (b n Bm : Nat) (T : Tr) (h : TreeIs w b n T) (hBm : Bm < w.heap.size) (hm : w.cell? ⟨Bm, 0, none⟩ = some (.map (some b))) (hl : T.length ≤ 1000000) :
    Calls Tryd.prog 59 #[.func (.func 75) #[] #[.pointer (some ⟨Bm, 0, none⟩)], .func (.func 61) #[] #[]] w fun e w' => ∃ v, e = .returned v ∧ w'.ownsRow w.heap.size 9 1 v (namesV T).length ((namesV T).map Value.string) ∧ Below w.heap.size w w' := by
  have hseq : SeqGives Fence.wide 2 Tryd.prog 75 #[.pointer (some ⟨Bm, 0, none⟩)] encStr (fun ss => ss.Perm (strKeys (mapD T))) (Maps.size (mapD T)) w :=
    AnyZ.keys_gives (ρ := Tryd.keysA_ren) { Tryd.keysA with } Fence.wide _ trivial rfl (by omega) Bm b n (mapD T) (R := fileR) w hBm hm h
  have cC := AnyZ.collect_in Tryd.collA Fence.wide 4 trivial trivial rfl (by omega) 75 #[.pointer (some ⟨Bm, 0, none⟩)] trivial (enters_of Tryd.func75 (by kernel_rfl) rfl) _ _ (by rw [size_mapD]; unfold maxLen; omega) (by rw [size_mapD]; omega) w hseq
  change CallsIn _ _ Tryd.prog 74 _ _ _ at cC
  have cC' := (callsIn_wide (n := 4)).1 cC
  have CC := Lib.hid cC'
  clear cC cC' hseq
  go_enter Tryd.func59, Tryd.ntmps59
  go_wp2_with fail
  refine CC.out.mono ?_
  rintro e w1 ⟨v, ss, rfl, hS, hrow, _, b1⟩
  have hrow' : w1.ownsRow w.heap.size 9 1 v (ss.map mkB).length ((ss.map mkB).map Value.string) := by
    rw [List.length_map, enc_mkB]; exact hrow
  have hlen : ss.length = T.length := by have := hS.length_eq; rw [strKeys_mapD, List.length_map] at this; exact this
  have SO := Lib.hid (sort_own w1 w.heap.size v (ss.map mkB) hrow' (by rw [List.length_map]; omega))
  have HE : Hid ((srt ((ss.map mkB).map bsOf)).map encStr = (namesV T).map Value.string) := Lib.hid (by
    have e1 : (ss.map mkB).map bsOf = ss := by rw [List.map_map]; exact List.map_id'' (fun x => bsOf_mkB x) ss
    unfold namesV
    rw [e1, enc_mkB, srt_perm (hS.trans (by rw [strKeys_mapD]))])
  have HL : Hid ((ss.map mkB).length = (namesV T).length) := Lib.hid (by unfold namesV; simp [srt_len, hlen])
  have B1 := Lib.hid b1
  clear CC hS hrow hrow' hlen hl h hm hBm b1
  go_wp2_with fail
  refine SO.out.mono ?_
  rintro e w2 ⟨rfl, own, b2⟩
  rw [HE.out, HL.out] at own
  have HO := Lib.hid own
  have B2 := Lib.hid (B1.out.trans b2)
  clear own b2 SO
  go_wp2_with fail
  go_ret
  exact ⟨v, rfl, HO.out, B2.out⟩
set_option maxRecDepth 100000 in
set_option maxHeartbeats 2000000 in
theorem list_on {w : World} {F bf bs n : Nat} {T S : Tr} {vp : Value} {q now ino ops : Int} {armed : Int} {vk : Value} (h : FsIs w F bf bs n T S vp q now ino ops false armed vk) (hl : T.length ≤ 1000000) :
    Calls Tryd.prog 20 #[.pointer (some ⟨F, 0, none⟩)] w fun e w' => ∃ v, e = .returned (.tuple #[v, .int .i64 0]) ∧ w'.ownsRow w.heap.size 9 1 v (namesV T).length ((namesV T).map Value.string) ∧ Below w.heap.size w w' := by
  have c7 := h.x.cell 7
  have c0 := h.x.cell 0
  have cK : ∀ mb W, Calls Tryd.prog 60 #[.map mb] W fun e w' => e = .returned (.func (.func 75) #[] #[.pointer (some ⟨W.heap.size, 0, none⟩)]) ∧ w' = W.alloc (.cells #[.map mb] 71) := fun mb W => (callsIn_wide (n := 4)).1 (AnyZ.keys_in Tryd.keysA Fence.wide 4 trivial rfl mb W)
  have SF := Lib.hid (sortedFunc_any (w.alloc (.cells #[.map (some bf)] 71)) bf n w.heap.size T (h.f.alloc _) (by simp) (by simp) hl)
  have CK := Lib.hid cK
  have D1 := Lib.hid ((Below.refl w.heap.size w).alloc (Nat.le_refl _) (.cells #[.map (some bf)] 71))
  clear h cK
  go_enter Tryd.func20, Tryd.ntmps20
  go_wp2_with (first
    | (go_at_call 60; refine (CK.out _ _).mono ?_; rintro e w' ⟨rfl, rfl⟩)
    | (go_at_call 59; refine SF.out.mono ?_; rintro e w' ⟨v, rfl, own, b2⟩; have HO := Lib.hid own; have B2 := Lib.hid b2; clear own b2))
  go_ret2
  exact ⟨v, rfl, ownsRow_base_a HO.out (by simp), D1.out.trans (B2.out.mono D1.out.size)⟩
set_option maxRecDepth 100000 in
set_option maxHeartbeats 2000000 in
theorem list_off {w : World} {F bf bs n : Nat} {T S : Tr} {vp : Value} {q now ino ops : Int} {armed : Int} {vk : Value} (h : FsIs w F bf bs n T S vp q now ino ops true armed vk) :
    Calls Tryd.prog 20 #[.pointer (some ⟨F, 0, none⟩)] w fun e w' => e = .returned (.tuple #[.slice none 0 0, .int .i64 13]) ∧ w = w' := by
  have c7 := h.x.cell 7
  clear h
  go_enter Tryd.func20, Tryd.ntmps20
  go_wp2
  go_ret2
  exact ⟨rfl, rfl⟩
set_option maxRecDepth 100000 in
theorem pending_any {w : World} {F bf bs n : Nat} {T S : Tr} {vp : Value} {q now ino ops : Int} {off : Bool} {armed : Int} {vk : Value} (h : FsIs w F bf bs n T S vp q now ino ops off armed vk) {B k : Nat} {xs : List Value} (hp : w.ownsRow B 80 7 vp k xs) :
    Calls Tryd.prog 24 #[.pointer (some ⟨F, 0, none⟩)] w fun e w' => e = .returned (.int .i64 k) ∧ w = w' := by
  obtain ⟨A, c, rfl⟩ := own_form hp
  have c2 := h.x.cell 2
  clear h hp
  go_enter Tryd.func24, Tryd.ntmps24
  go_wp2
  go_ret
  exact ⟨rfl, rfl⟩
set_option maxRecDepth 100000 in
set_option maxHeartbeats 2000000 in
theorem read_off {w : World} {F bf bs n : Nat} {T S : Tr} {vp : Value} {q now ino ops : Int} {armed : Int} {vk : Value} (h : FsIs w F bf bs n T S vp q now ino ops true armed vk) (p : ByteArray) :
    Calls Tryd.prog 19 #[.pointer (some ⟨F, 0, none⟩), .string p] w fun e w' => e = .returned (.tuple #[.slice none 0 0, .int .i64 13]) ∧ w = w' := by
  have c7 := h.x.cell 7
  clear h
  go_enter Tryd.func19, Tryd.ntmps19
  go_wp2
  go_ret2
  exact ⟨rfl, rfl⟩
set_option maxRecDepth 100000 in
set_option maxHeartbeats 2000000 in
theorem read_no {w : World} {F bf bs n : Nat} {T S : Tr} {vp : Value} {q now ino ops : Int} {armed : Int} {vk : Value} (h : FsIs w F bf bs n T S vp q now ino ops false armed vk) (p : ByteArray) (hp : p.size ≤ maxLen) (hf : getT T p = none) :
    Calls Tryd.prog 19 #[.pointer (some ⟨F, 0, none⟩), .string p] w fun e w' => e = .returned (.tuple #[.slice none 0 0, .int .i64 5]) ∧ Below w.heap.size w w' := by
  have c7 := h.x.cell 7
  have c0 := h.x.cell 0
  have LK := lacks_any w bf n T p h.f hp
  rw [hf] at LK
  have LK := Lib.hid (show Calls Tryd.prog 58 #[.map (some bf), .string p] w fun e w' => e = .returned (.int .i64 5) ∧ Below w.heap.size w w' from LK)
  clear h hf
  go_enter Tryd.func19, Tryd.ntmps19
  go_wp2_with fail
  refine LK.out.mono ?_
  rintro e w2 ⟨rfl, b2⟩
  have B2 := Lib.hid b2
  clear b2
  go_wp2_with fail
  go_ret2
  exact ⟨rfl, B2.out⟩
theorem DiskIs.mono {w : World} {B N N' : Nat} {L : Loc} {D : DK} (h : DiskIs w B L N D) (hn : N ≤ N') : DiskIs w B L N' D := ⟨⟨h.fs.x, h.fs.f.mono hn, h.fs.s.mono hn, h.fs.ne⟩, h.ps, h.ks, h.lo, h.sT, h.sS, h.so⟩

/-! ### An op, if the power stays -/
def stepE (D : DK) : Int := if D.armed = 1 then 13 else 0
def stepD (D : DK) (o : Ov) (ino' : Int) : DK := if D.armed = 1 then cutD D D.ks else { D with T := doO D.T o, ps := D.ps ++ [o], ino := ino', ops := D.ops + 1, armed := if D.armed = 0 then 0 else D.armed - 1 }
theorem step_w {w : World} {B N : Nat} {L : Loc} {D : DK} (h : DiskIs w B L N D) (fr p : ByteArray) (m t i : Int) (s0 : ByteArray) (mode : Int) (v : Value) (s : ByteArray) (hv : BytesIn w L.foot v s) (ha : 0 ≤ D.armed ∧ D.armed ≤ 9223372036854775807) (hfr : fr.size ≤ 1000) (hpp : p.size ≤ 1000) (hN : N ≤ 1000000) (hp : D.ps.length ≤ 100000) (hB : B ≤ w.heap.size) (h0 : 0 ≤ D.ino) (h1 : D.ino ≤ 1000000) (o0 : 0 ≤ D.ops) (o1 : D.ops ≤ 1000000) :
    Calls Tryd.prog 56 #[.pointer (some ⟨L.F, 0, none⟩), .agg (opC 0 fr p m t i s0), .int .i64 mode, v] w fun e w' => ∃ L', e = .returned (.int .i64 (stepE D)) ∧ DiskIs w' B L' (N + D.ps.length + 1) (stepD D (0, fr, p, mode, D.now, inoOf D.T p D.ino, s) (inoNew D.T p D.ino)) ∧ Next w L w' L' := by
  unfold stepE stepD
  by_cases h1' : D.armed = 1
  · rw [if_pos h1', if_pos h1']
    refine (step_down h 0 fr p m t i s0 mode v h1' hN hp hB).mono ?_
    rintro e w' ⟨L', rfl, hd, hn⟩
    exact ⟨L', rfl, hd.mono (by omega), hn⟩
  · rw [if_neg h1', if_neg h1']
    by_cases h2 : D.armed = 0
    · rw [if_pos h2]
      refine (step_up0n h fr p m t i s0 mode v s hv h2 hfr hpp hN hp hB h0 h1 o0 o1).mono ?_
      rintro e w' ⟨L', rfl, hd, hn⟩
      exact ⟨L', rfl, hd.mono (by omega), hn⟩
    · rw [if_neg h2]
      refine (step_up0a h fr p m t i s0 mode v s hv (by omega) ha.2 hfr hpp hN hp hB h0 h1 o0 o1).mono ?_
      rintro e w' ⟨L', rfl, hd, hn⟩
      exact ⟨L', rfl, hd.mono (by omega), hn⟩
theorem step_k {w : World} {B N : Nat} {L : Loc} {D : DK} (h : DiskIs w B L N D) (k : Int) (hk : k = 1 ∨ k = 2) (fr p : ByteArray) (m t i : Int) (s0 : ByteArray) (mode : Int) (v : Value) (ha : 0 ≤ D.armed ∧ D.armed ≤ 9223372036854775807) (hfr : fr.size ≤ 1000) (hpp : p.size ≤ 1000) (hN : N ≤ 1000000) (hp : D.ps.length ≤ 100000) (hB : B ≤ w.heap.size) (h0 : 0 ≤ D.ino) (h1 : D.ino ≤ 1000000) (o0 : 0 ≤ D.ops) (o1 : D.ops ≤ 1000000) :
    Calls Tryd.prog 56 #[.pointer (some ⟨L.F, 0, none⟩), .agg (opC k fr p m t i s0), .int .i64 mode, v] w fun e w' => ∃ L', e = .returned (.int .i64 (stepE D)) ∧ DiskIs w' B L' (N + D.ps.length + 1) (stepD D (k, fr, p, m, t, i, s0) D.ino) ∧ Next w L w' L' := by
  unfold stepE stepD
  by_cases h1' : D.armed = 1
  · rw [if_pos h1', if_pos h1']
    refine (step_down h k fr p m t i s0 mode v h1' hN hp hB).mono ?_
    rintro e w' ⟨L', rfl, hd, hn⟩
    exact ⟨L', rfl, hd.mono (by omega), hn⟩
  · rw [if_neg h1', if_neg h1']
    by_cases h2 : D.armed = 0
    · rw [if_pos h2]
      refine (step_upkn h k hk fr p m t i s0 mode v h2 hfr hpp hN hp hB h0 h1 o0 o1).mono ?_
      rintro e w' ⟨L', rfl, hd, hn⟩
      exact ⟨L', rfl, hd.mono (by omega), hn⟩
    · rw [if_neg h2]
      refine (step_upka h k hk fr p m t i s0 mode v (by omega) ha.2 hfr hpp hN hp hB h0 h1 o0 o1).mono ?_
      rintro e w' ⟨L', rfl, hd, hn⟩
      exact ⟨L', rfl, hd.mono (by omega), hn⟩
end Go.Proofs.YtcnmlgmlijgmhaaDoor
