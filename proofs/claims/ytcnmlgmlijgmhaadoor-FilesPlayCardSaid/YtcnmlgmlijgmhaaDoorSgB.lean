/-
  FilesSync's walk.
-/
import Derived.Test.YtcnmlgmlijgmhaaDoorSgA
import Derived.Test.YtcnmlgmlijgmhaaDoorSfN
namespace Go.Proofs.YtcnmlgmlijgmhaaDoor
open Go Go.RowKit Go.Shelf Go.Maps

def wset (wt : Nat → Int) (c : Nat) (v : Int) : Nat → Int := fun j => if j = c then v else wt j
theorem nm_inj {i j : Nat} (hi : i < 26) (hj : j < 26) (h : nm i = nm j) : i = j := by
  have h1 : (nm i).data[1]? = (nm j).data[1]? := by rw [h]
  have h2 : UInt8.ofNat (97 + i) = UInt8.ofNat (97 + j) := by simpa [nm] using h1
  have h3 := congrArg UInt8.toNat h2
  rw [UInt8.toNat_ofNat', UInt8.toNat_ofNat'] at h3
  omega
/-- What is wanted of each name. -/
structure Wants (T : Tr) (wt : Nat → Int) : Prop where
  nms : ∀ x ∈ T, ∃ j, j < 16 ∧ x.1 = nm j
  no : ∀ j, j < 16 → wt j = 0 → getT T (nm j) = none
  yes : ∀ j, j < 16 → wt j ≠ 0 → ∃ f, getT T (nm j) = some f ∧ f.data = ⟨#[UInt8.ofNat (wt j - 1).toNat]⟩
  lo : ∀ j, j < 16 → 0 ≤ wt j ∧ wt j ≤ 200
theorem Wants.nil : Wants [] (fun _ => 0) := ⟨fun x hx => absurd hx (by simp), fun _ _ _ => rfl, fun _ _ h => absurd rfl h, fun _ _ => by omega⟩
theorem Wants.put {T : Tr} {wt : Nat → Int} (h : Wants T wt) {c : Nat} (hc : c < 16) {v : Int} (h0 : 0 < v) (h1 : v ≤ 200) {f : FV} (hf : f.data = ⟨#[UInt8.ofNat (v - 1).toNat]⟩) : Wants (putT T (nm c) f) (wset wt c v) := by
  refine ⟨fun x hx => ?_, fun j hj hw => ?_, fun j hj hw => ?_, fun j hj => ?_⟩
  · rcases mem_put hx with e | hx
    · exact ⟨c, hc, e⟩
    · exact h.nms x hx
  · unfold wset at hw
    by_cases e : j = c
    · rw [if_pos e] at hw; omega
    · rw [if_neg e] at hw
      rw [getT_put, if_neg (fun e2 => e (nm_inj (by omega) (by omega) e2))]
      exact h.no j hj hw
  · unfold wset at hw ⊢
    rw [getT_put]
    by_cases e : j = c
    · subst e
      exact ⟨f, by rw [if_pos rfl], by rw [if_pos rfl]; exact hf⟩
    · rw [if_neg e] at hw
      rw [if_neg (fun e2 => e (nm_inj (by omega) (by omega) e2)), if_neg e]
      exact h.yes j hj hw
  · unfold wset
    split
    · omega
    · exact h.lo j hj
theorem Wants.free {T : Tr} {wt : Nat → Int} (h : Wants T wt) {c : Nat} (hc : c < 16) (fr : ByteArray) : T.any (badX fr (nm c)) = false :=
  nm_free (fun x hx => by obtain ⟨j, hj, e⟩ := h.nms x hx; exact ⟨j, by omega, e⟩) (by omega) fr
/-- How many are wanted of the first m. -/
def cnt (wt : Nat → Int) : Nat → Nat
  | 0 => 0
  | m + 1 => cnt wt m + if 0 < wt m then 1 else 0
theorem cnt_filter (wt : Nat → Int) : ∀ m, cnt wt m = ((List.range m).filter fun j => decide (0 < wt j)).length
  | 0 => rfl
  | m + 1 => by
    rw [List.range_succ, List.filter_append, List.length_append, ← cnt_filter wt m]
    show cnt wt m + (if 0 < wt m then 1 else 0) = _
    by_cases h : 0 < wt m
    · simp [h]
    · simp [h]
theorem Wants.len {T : Tr} {wt : Nat → Int} (h : Wants T wt) (ho : KeysOnce T) : T.length = cnt wt 16 := by
  rw [cnt_filter, ← List.length_map (f := fun x : ByteArray × FV => x.1), ← List.length_map (f := nm)]
  refine List.Perm.length_eq ((List.perm_ext_iff_of_nodup ?_ ?_).2 fun p => ?_)
  · exact List.pairwise_map.2 ho
  · refine List.pairwise_map.2 ((List.nodup_range.filter _).imp_of_mem fun {a b} ha hb hab e => hab ?_)
    have h1 := (List.mem_filter.1 ha).1
    have h2 := (List.mem_filter.1 hb).1
    rw [List.mem_range] at h1 h2
    exact nm_inj (by omega) (by omega) e
  · rw [← getT_isSome]
    constructor
    · intro hp
      obtain ⟨x, hx, e⟩ := List.mem_map.1 (getT_isSome.1 hp)
      obtain ⟨j, hj, e2⟩ := h.nms x hx
      have ep : p = nm j := e.symm.trans e2
      refine List.mem_map.2 ⟨j, List.mem_filter.2 ⟨List.mem_range.2 hj, decide_eq_true ?_⟩, ep.symm⟩
      have := h.lo j hj
      by_cases hz : wt j = 0
      · rw [ep, h.no j hj hz] at hp; cases hp
      · omega
    · intro hp
      obtain ⟨j, hj, rfl⟩ := List.mem_map.1 hp
      have hj1 := List.mem_range.1 (List.mem_filter.1 hj).1
      have hj2 := of_decide_eq_true (List.mem_filter.1 hj).2
      obtain ⟨f, hf, _⟩ := h.yes j hj1 (by omega)
      rw [hf]; rfl
/-- The array. -/
def ArrIs (w : World) (g : Nat) (wt : Nat → Int) : Prop := ∃ cs : Array Value, Blk w g 40 cs ∧ cs.size = 16 ∧ ∀ j, j < 16 → cs[j]? = some (.int .i64 (wt j))
theorem ArrIs.cell {w : World} {g : Nat} {wt : Nat → Int} (h : ArrIs w g wt) {j : Nat} (hj : j < 16) : w.cell? ⟨g, j, none⟩ = some (.int .i64 (wt j)) := by
  obtain ⟨cs, hb, _, hc⟩ := h
  rw [hb.cell, hc j hj]
theorem ArrIs.frozen {w : World} {g : Nat} {wt : Nat → Int} (h : ArrIs w g wt) (j : Nat) : w.frozen? ⟨g, j, none⟩ = false := by
  obtain ⟨cs, hb, _, hc⟩ := h
  exact hb.frozen j
theorem ArrIs.set_ {w : World} {g : Nat} {wt : Nat → Int} (h : ArrIs w g wt) {c : Nat} (hc : c < 16) (v : Int) : ArrIs (w.setCell ⟨g, c, none⟩ (.int .i64 v)) g (wset wt c v) := by
  obtain ⟨cs, hb, hs, h⟩ := h
  refine ⟨_, hb.set_ c _, by rw [Array.size_setIfInBounds]; exact hs, fun j hj => ?_⟩
  unfold wset
  by_cases e : j = c
  · subst e
    rw [Array.getElem?_setIfInBounds_self, if_pos (by omega), if_pos rfl]
  · rw [Array.getElem?_setIfInBounds_ne (Ne.symm e), if_neg e]
    exact h j hj
theorem ArrIs.turns {w w' : World} {X : Nat → Prop} {g : Nat} {wt : Nat → Int} (h : ArrIs w g wt) (ht : Turns w w' X) (hx : ¬ X g) : ArrIs w' g wt := by
  obtain ⟨cs, hb, r⟩ := h
  exact ⟨cs, (ht.block g hb.lt hx).trans hb, r⟩
theorem ArrIs.lt {w : World} {g : Nat} {wt : Nat → Int} (h : ArrIs w g wt) : g < w.heap.size := by
  obtain ⟨cs, hb, r⟩ := h
  exact hb.lt
theorem ArrIs.alloc {w : World} {g : Nat} {wt : Nat → Int} (h : ArrIs w g wt) (o : Obj) : ArrIs (w.alloc o) g wt := by
  obtain ⟨cs, hb, r⟩ := h
  exact ⟨cs, hb.alloc o, r⟩
theorem arr_new (w : World) : ArrIs (w.alloc (.cells #[.int .i64 0, .int .i64 0, .int .i64 0, .int .i64 0, .int .i64 0, .int .i64 0, .int .i64 0, .int .i64 0, .int .i64 0, .int .i64 0, .int .i64 0, .int .i64 0, .int .i64 0, .int .i64 0, .int .i64 0, .int .i64 0] 40)) w.heap.size (fun _ => 0) := ⟨_, Blk.new w 40 _, rfl, fun j hj => by
  match j, hj with
  | 0, _ => rfl
  | 1, _ => rfl
  | 2, _ => rfl
  | 3, _ => rfl
  | 4, _ => rfl
  | 5, _ => rfl
  | 6, _ => rfl
  | 7, _ => rfl
  | 8, _ => rfl
  | 9, _ => rfl
  | 10, _ => rfl
  | 11, _ => rfl
  | 12, _ => rfl
  | 13, _ => rfl
  | 14, _ => rfl
  | 15, _ => rfl
  | j + 16, h => omega⟩
/-- The disk in the first loop. -/
structure Ph1 (i : Nat) (D : DK) (wt : Nat → Int) : Prop where
  q : D.q = 0
  off : D.off = false
  armed : D.armed = 0
  ks : D.ks = []
  len : D.ps.length = i
  ino : 0 ≤ D.ino ∧ D.ino ≤ i
  ops : D.ops = i
  wants : Wants D.T wt
theorem Ph1.step {i : Nat} {D : DK} {wt : Nat → Int} (h : Ph1 i D wt) (hi : i < 100) {c : Nat} (hc : c < 16) (fr : ByteArray) :
    stepE D = 0 ∧ Ph1 (i + 1) (stepD D (0, fr, nm c, 1, D.now, inoOf D.T (nm c) D.ino, ⟨#[UInt8.ofNat i]⟩) (inoNew D.T (nm c) D.ino)) (wset wt c ((i : Int) + 1)) := by
  refine ⟨by unfold stepE; rw [if_neg (by rw [h.armed]; omega)], ?_⟩
  unfold stepD
  rw [if_neg (by rw [h.armed]; omega), if_pos h.armed]
  refine ⟨h.q, h.off, rfl, h.ks, ?_, ?_, ?_, ?_⟩
  · show (D.ps ++ [_]).length = _
    rw [List.length_append, h.len]; rfl
  · show 0 ≤ inoNew _ _ _ ∧ inoNew _ _ _ ≤ _
    have := h.ino
    rcases inoNew_le D.T (nm c) (i := D.ino) with e | e <;> rw [e] <;> push_cast <;> omega
  · show D.ops + 1 = _
    rw [h.ops]; push_cast; rfl
  · exact h.wants.put hc (by omega) (by omega) (by show (⟨#[UInt8.ofNat i]⟩ : ByteArray) = ⟨#[UInt8.ofNat ((i : Int) + 1 - 1).toNat]⟩; rw [show ((i : Int) + 1 - 1).toNat = i by omega])
theorem bytes_one' (w : World) {X : Nat → Prop} {g : Nat} {i : Nat} {u : Int} (hu : u = (i : Int)) (hi : i < 256) (hb : w.heap[g]? = some (.cells #[.int .u8 u] 5 (0, 0))) (hx : ¬ X g) : BytesIn w X (.slice (some ⟨g, 0, none⟩) 1 1) ⟨#[UInt8.ofNat i]⟩ :=
  bytesIn_blk (l := [UInt8.ofNat i]) (cap := 1) hb (fun j hj => by
    have hj0 : j = 0 := by simpa using hj
    subst hj0
    subst hu
    simp
    omega) hx
theorem bytes_one (w : World) {X : Nat → Prop} {g : Nat} {i : Nat} (hi : i < 256) (hb : w.heap[g]? = some (.cells #[.int .u8 (i : Int)] 5 (0, 0))) (hx : ¬ X g) : BytesIn w X (.slice (some ⟨g, 0, none⟩) 1 1) ⟨#[UInt8.ofNat i]⟩ :=
  bytesIn_blk (l := [UInt8.ofNat i]) (cap := 1) hb (fun j hj => by
    have hj0 : j = 0 := by simpa using hj
    subst hj0
    simp
    omega) hx

theorem DiskIs.arr {w : World} {B N : Nat} {L : Loc} {D : DK} (h : DiskIs w B L N D) {g : Nat} {wt : Nat → Int} (ha : ArrIs w g wt) (hn : ¬ L.foot g) (c : Nat) (v : Value) : DiskIs (w.setCell ⟨g, c, none⟩ v) B L N D := by
  obtain ⟨cs, hb, _⟩ := ha
  refine h.apart (X := fun k => k = g) (Turns.of_grown (grown_cellF w g c v) rfl) (fun k hk e => hn (e ▸ hk)) (fun k hk e => ?_)
  subst e
  exact own_blk_ne h.ks hb (by decide) hk
/-- The disk in the second loop. -/
structure Ph2 (i : Nat) (D : DK) (kl : List Bool) (wt : Nat → Int) : Prop where
  q : D.q = 0
  off : D.off = false
  armed : D.armed = 0
  ks : D.ks = []
  len : D.ps.length = i
  ino : 0 ≤ D.ino ∧ D.ino ≤ 30 + i
  ops : 0 ≤ D.ops ∧ D.ops ≤ 30 + i
  nms : ∀ x ∈ D.T, ∃ j, j < 26 ∧ x.1 = nm j
  wants : Wants (cutN D.S D.ps kl i) wt
theorem Ph1.sync {i : Nat} {D : DK} {wt : Nat → Int} (h : Ph1 i D wt) (hi : i ≤ 30) (kl : List Bool) : Ph2 0 { D with S := D.T, ps := [] } kl wt :=
  ⟨h.q, h.off, h.armed, h.ks, rfl, by have := h.ino; exact ⟨this.1, by show D.ino ≤ _; omega⟩, by have := h.ops; show 0 ≤ D.ops ∧ D.ops ≤ _; omega, fun x hx => by obtain ⟨j, hj, e⟩ := h.wants.nms x hx; exact ⟨j, by omega, e⟩, h.wants⟩
theorem Ph2.step {i : Nat} {D : DK} {kl : List Bool} {wt : Nat → Int} (h : Ph2 i D kl wt) (hi : i < 40) {c : Nat} (hc : c < 16) (fr : ByteArray) :
    stepE D = 0 ∧ Ph2 (i + 1) (stepD D (0, fr, nm c, 1, D.now, inoOf D.T (nm c) D.ino, ⟨#[UInt8.ofNat (100 + i)]⟩) (inoNew D.T (nm c) D.ino)) kl (if (kl[i]?).getD false then wset wt c (101 + (i : Int)) else wt) := by
  refine ⟨by unfold stepE; rw [if_neg (by rw [h.armed]; omega)], ?_⟩
  unfold stepD
  rw [if_neg (by rw [h.armed]; omega), if_pos h.armed]
  refine ⟨h.q, h.off, rfl, h.ks, ?_, ?_, ?_, ?_, ?_⟩
  · show (D.ps ++ [_]).length = _
    rw [List.length_append, h.len]; rfl
  · show 0 ≤ inoNew _ _ _ ∧ inoNew _ _ _ ≤ _
    have := h.ino
    rcases inoNew_le D.T (nm c) (i := D.ino) with e | e <;> rw [e] <;> push_cast <;> omega
  · show 0 ≤ D.ops + 1 ∧ D.ops + 1 ≤ _
    have := h.ops; push_cast; omega
  · intro x hx
    rcases mem_put hx with e | hx
    · exact ⟨c, by omega, e⟩
    · exact h.nms x hx
  · obtain ⟨o, ho⟩ : ∃ o : Ov, o = (0, fr, nm c, 1, D.now, inoOf D.T (nm c) D.ino, ⟨#[UInt8.ofNat (100 + i)]⟩) := ⟨_, rfl⟩
    show Wants (cutN D.S (D.ps ++ [_]) kl (i + 1)) _
    rw [← ho]
    have e1 : cutN D.S (D.ps ++ [o]) kl i = cutN D.S D.ps kl i := cutN_append _ _ _ _ _ (by rw [h.len]; omega)
    have e2 : (D.ps ++ [o])[i]? = some o := by rw [← h.len]; simp
    have hr : refO (cutN D.S (D.ps ++ [o]) kl i) o = 0 := by
      rw [e1, ho, refO_put]
      exact refV_no (h.wants.free hc fr)
    cases hk : (kl[i]?).getD false with
    | true =>
      have hk2 : kl[i]? = some true := by
        cases hh : kl[i]? with
        | none => rw [hh] at hk; cases hk
        | some b => rw [hh] at hk; simp at hk; rw [hk]
      rw [if_pos rfl, cutN_yes e2 hk2 hr, e1, ho]
      exact h.wants.put hc (by omega) (by omega) (by show (⟨#[UInt8.ofNat (100 + i)]⟩ : ByteArray) = ⟨#[UInt8.ofNat (101 + (i : Int) - 1).toNat]⟩; rw [show (101 + (i : Int) - 1).toNat = 100 + i by omega])
    | false =>
      rw [if_neg (by simp), cutN_no e2 hk, e1]
      exact h.wants
set_option maxRecDepth 100000 in
set_option maxHeartbeats 4000000 in
theorem read_blk {w : World} {F bf bs n : Nat} {T S : Tr} {vp : Value} {q now ino ops : Int} {armed : Int} {vk : Value} (h : FsIs w F bf bs n T S vp q now ino ops false armed vk) (p : ByteArray) (hp : p.size ≤ 1000) {f : FV} (hf : getT T p = some f) :
    Calls Tryd.prog 19 #[.pointer (some ⟨F, 0, none⟩), .string p] w fun e w' => ∃ g cap, e = .returned (.tuple #[.slice (some ⟨g, 0, none⟩) f.data.size cap, .int .i64 0]) ∧ w'.heap[g]? = some (.cells (bytesRow f.data cap) 5 ((bytesRow f.data cap).size, (bytesRow f.data cap).size + 1)) ∧ Below w.heap.size w w' := by
  have HFS := Lib.hid h
  have x7 := h.x.cell 7
  have x0 := h.x.cell 0
  have LK := lacks_any _ bf n T p h.f (by unfold maxLen; omega)
  rw [hf] at LK
  have LK := Lib.hid (show Calls Tryd.prog 58 #[.map (some bf), .string p] w fun e w' => e = .returned (.int .i64 0) ∧ Below w.heap.size w w' from LK)
  have HF := Lib.hid hf
  clear h hf
  go_enter Tryd.func19, Tryd.ntmps19
  go_wp2_with fail
  refine LK.out.mono ?_
  rintro e w2 ⟨rfl, b2⟩
  have FS2 := Lib.hid (HFS.out.below b2)
  have D2 := Lib.hid b2
  have y0 := FS2.out.x.cell 0
  have lk := FS2.out.f.look (p := p) (by unfold maxLen; omega)
  rw [HF.out] at lk
  obtain ⟨m, t, i, s⟩ := f
  simp only [Option.getD, fV] at lk
  have fi := fun W => field_data m t i s W
  have cv := fun W => run_bytes_of_string (P := Tryd.prog) W 9 32 5 s Tryd.underlying9 Tryd.underlying32 Tryd.underlying5
  clear b2 LK x7 x0
  go_wp2_with fail
  go_ret2
  exact ⟨_, _, rfl, heap_alloc_new .., (D2.out.alloc D2.out.size _).drew⟩
theorem read_one {w : World} {F bf bs n : Nat} {T S : Tr} {vp : Value} {q now ino ops : Int} {armed : Int} {vk : Value} (h : FsIs w F bf bs n T S vp q now ino ops false armed vk) (p : ByteArray) (hp : p.size ≤ 1000) {f : FV} (hf : getT T p = some f) {z : Int} (hz : 0 < z ∧ z ≤ 200) (hd : f.data = ⟨#[UInt8.ofNat (z - 1).toNat]⟩) :
    Calls Tryd.prog 19 #[.pointer (some ⟨F, 0, none⟩), .string p] w fun e w' => ∃ g cap, e = .returned (.tuple #[.slice (some ⟨g, 0, none⟩) 1 cap, .int .i64 0]) ∧ w'.cell? ⟨g, 0, none⟩ = some (.int .u8 (z - 1)) ∧ Below w.heap.size w w' := by
  refine (read_blk h p hp hf).mono ?_
  rintro e w' ⟨g, cap, rfl, hb, b⟩
  rw [hd] at hb ⊢
  refine ⟨g, cap, rfl, ?_, b⟩
  rw [cell_of_row w' g 0 _ 5 _ hb, bytesRow_at _ cap 0 (by show 0 < 1; omega)]
  simp
  omega
attribute [-go_sem] run_string_add_if
set_option maxRecDepth 100000 in
set_option maxHeartbeats 8000000 in
theorem filesSync_any (w : World) (A0 : Option Addr) (l0 : List UInt8) (c0 : Nat) (A1 : Option Addr) (l1 : List UInt8) (c1 : Nat) (v2 : Value) (kl : List Bool) (r0 : BytesAt w A0 l0) (n0 : A0 = none → l0 = []) (r1 : BytesAt w A1 l1) (n1 : A1 = none → l1 = []) (r2 : Reads 1 cB w v2 kl) :
    Calls Tryd.prog 4 #[.slice A0 l0.length c0, .slice A1 l1.length c1, v2] w fun e w' => e = .returned (.bool true) ∧ Below w.heap.size w w' := by
  have KN := Lib.hid (known5_any w)
  obtain ⟨A2, c2, rfl⟩ := r2.form
  have R0 := Lib.hid (And.intro r0 n0)
  have R1 := Lib.hid (And.intro r1 n1)
  have R2 := Lib.hid r2
  clear r0 n0 r1 n1 r2
  go_enter Tryd.func4, Tryd.ntmps4
  go_wp2_with fail
  refine KN.out.mono ?_
  rintro e wk ⟨rfl, bk⟩
  have BK := Lib.hid bk
  have NW := Lib.hid (new_disk wk 0)
  clear KN bk
  have q0 : (0 : Int) ≤ (l0.length : Int) := Int.natCast_nonneg _
  have q1 : (0 : Int) ≤ (l1.length : Int) := Int.natCast_nonneg _
  have q2 : (0 : Int) ≤ (kl.length : Int) := Int.natCast_nonneg _
  by_cases h0 : 30 < l0.length
  · have d0 : decide ((30 : Int) < (l0.length : Int)) = true := decide_eq_true (by omega)
    go_wp2
    go_ret
    exact ⟨rfl, BK.out⟩
  have d0 : decide ((30 : Int) < (l0.length : Int)) = false := decide_eq_false (by omega)
  by_cases h1 : 30 < l1.length
  · have d1 : decide ((30 : Int) < (l1.length : Int)) = true := decide_eq_true (by omega)
    go_wp2
    go_ret
    exact ⟨rfl, BK.out⟩
  have d1 : decide ((30 : Int) < (l1.length : Int)) = false := decide_eq_false (by omega)
  by_cases h2 : 60 < kl.length
  · have d2 : decide ((60 : Int) < (kl.length : Int)) = true := decide_eq_true (by omega)
    go_wp2
    go_ret
    exact ⟨rfl, BK.out⟩
  have d2 : decide ((60 : Int) < (kl.length : Int)) = false := decide_eq_false (by omega)
  go_wp2_with fail
  refine NW.out.mono ?_
  rintro e w2 ⟨L, rfl, dd, b2⟩
  have B2 := Lib.hid (BK.out.trans (b2.mono BK.out.size))
  have H2 := Lib.hid dd
  have SZ := Lib.hid BK.out.size
  have HL := Lib.hid (And.intro h0 (And.intro h1 h2))
  clear NW dd b2 BK d0 d1 d2
  have W1 := Lib.hid (arr_new w2)
  have H3 := Lib.hid (H2.out.alloc (.cells #[.int .i64 0, .int .i64 0, .int .i64 0, .int .i64 0, .int .i64 0, .int .i64 0, .int .i64 0, .int .i64 0, .int .i64 0, .int .i64 0, .int .i64 0, .int .i64 0, .int .i64 0, .int .i64 0, .int .i64 0, .int .i64 0] 40))
  have B3 := Lib.hid (B2.out.alloc B2.out.size (.cells #[.int .i64 0, .int .i64 0, .int .i64 0, .int .i64 0, .int .i64 0, .int .i64 0, .int .i64 0, .int .i64 0, .int .i64 0, .int .i64 0, .int .i64 0, .int .i64 0, .int .i64 0, .int .i64 0, .int .i64 0, .int .i64 0] 40))
  have NF := Lib.hid (show ¬ L.foot w2.heap.size from fun hf => by have := H2.out.foot_lt _ hf; omega)
  have HWB := Lib.hid (show wk.heap.size ≤ w2.heap.size by have := H2.out.lo.1; have := H2.out.fs.x.lt; omega)
  have SB : Hid (wk.heap.size ≤ (w2.alloc (.cells #[.int .i64 0, .int .i64 0, .int .i64 0, .int .i64 0, .int .i64 0, .int .i64 0, .int .i64 0, .int .i64 0, .int .i64 0, .int .i64 0, .int .i64 0, .int .i64 0, .int .i64 0, .int .i64 0, .int .i64 0, .int .i64 0] 40)).heap.size) := Lib.hid (by have := H2.out.lo.1; have := H2.out.fs.x.lt; simp; omega)
  have h30 : (l0.length : Int) ≤ 30 := by omega
  have h31 : (l1.length : Int) ≤ 30 := by omega
  have h60 : (kl.length : Int) ≤ 60 := by omega
  clear h0 h1 h2
  go_wp2_with fail
  obtain ⟨Wb, hWb⟩ : ∃ x, x = w2.heap.size := ⟨_, rfl⟩
  rw [← hWb] at W1 NF HWB ⊢
  clear hWb H2 B2
  generalize hW3 : w2.alloc (.cells #[.int .i64 0, .int .i64 0, .int .i64 0, .int .i64 0, .int .i64 0, .int .i64 0, .int .i64 0, .int .i64 0, .int .i64 0, .int .i64 0, .int .i64 0, .int .i64 0, .int .i64 0, .int .i64 0, .int .i64 0, .int .i64 0] 40) = w3 at *
  clear hW3
  go_loopw [9] (fun s9 wr => ∃ (i : Nat) (L' : Loc) (N : Nat) (D : DK) (wt : Nat → Int), i ≤ l0.length ∧ s9 = .int .i64 i ∧ L'.F = L.F ∧ Hid (DiskIs wr wk.heap.size L' N D ∧ N ≤ 100 * i ∧ Ph1 i D wt) ∧ Hid (ArrIs wr Wb wt ∧ ¬ L'.foot Wb) ∧ Hid (Below w.heap.size w wr ∧ wk.heap.size ≤ wr.heap.size)) (fun s9 _ => l0.length - (intOf s9).toNat)
  case atStart => exact ⟨0, L, 0, _, _, by omega, rfl, rfl, Lib.hid ⟨H3.out, by omega, ⟨rfl, rfl, rfl, rfl, rfl, ⟨Int.le_refl 0, Int.le_refl 0⟩, rfl, Wants.nil⟩⟩, Lib.hid ⟨W1.out, NF.out⟩, Lib.hid ⟨B3.out, SB.out⟩⟩
  case round =>
    obtain ⟨i, L', N, D, wt, hi, rfl, hF, HD, HA, HB⟩ := hrel
    have i0 : (0 : Int) ≤ (i : Int) := Int.natCast_nonneg _
    by_cases hlt : i < l0.length
    · have i1 : (i : Int) < (l0.length : Int) := by omega
      obtain ⟨x, hx⟩ : ∃ x : Nat, x = (l0.getD i 0).toNat := ⟨_, rfl⟩
      have hx255 : x < 256 := by rw [hx]; exact UInt8.toNat_lt _
      obtain ⟨c, hc⟩ : ∃ c : Nat, (c : Int) = (x : Int) % 16 := ⟨x % 16, by omega⟩
      have hc16 : c < 16 := by omega
      cases A0 with
      | none => exact absurd (R0.out.2 rfl) (fun e => by rw [e] at hlt; simp at hlt)
      | some a0 =>
      have k0 : wr.cell? (a0.add i) = some (.int .u8 (x : Int)) := by
        have h := R0.out.1 a0 rfl i hlt
        rw [HB.out.1.cell (World.block_lt_of_cell? _ _ h), h, hx]
      have HX := Lib.hid (And.intro hx (And.intro hlt hc16))
      have hcx : (x : Int) % 16 = (c : Int) := hc.symm
      have hcb : (c : Int) ≤ 15 := by omega
      have HF := Lib.hid hF
      rw [← hF]
      have cv := nm_conv wr c (by omega)
      have sm := nm_sum c
      have D4 := Lib.hid ((HD.out.1.alloc (.cells #[.int .u8 (97 + (c : Int))] 5)).alloc (.cells #[.int .u8 (i : Int)] 5))
      have B4 := Lib.hid ((HB.out.1.alloc HB.out.1.size (.cells #[.int .u8 (97 + (c : Int))] 5)).alloc (HB.out.1.alloc HB.out.1.size (.cells #[.int .u8 (97 + (c : Int))] 5)).size (.cells #[.int .u8 (i : Int)] 5))
      have A4 := Lib.hid ((HA.out.1.alloc (.cells #[.int .u8 (97 + (c : Int))] 5)).alloc (.cells #[.int .u8 (i : Int)] 5))
      have S4 := Lib.hid (show wk.heap.size ≤ ((wr.alloc (.cells #[.int .u8 (97 + (c : Int))] 5)).alloc (.cells #[.int .u8 (i : Int)] 5)).heap.size by have := HB.out.2; simp; omega)
      have st := HD.out.2.2.step (by omega) hc16 ⟨#[]⟩
      have y5 : ((wr.alloc (.cells #[.int .u8 (97 + (c : Int))] 5)).alloc (.cells #[.int .u8 (i : Int)] 5)).heap[wr.heap.size + 1]? = some (.cells #[.int .u8 (i : Int)] 5 (0, 0)) := by
        have := heap_alloc_new (wr.alloc (.cells #[.int .u8 (97 + (c : Int))] 5)) (.cells #[.int .u8 (i : Int)] 5)
        simpa using this
      have WR := write_w D4.out HD.out.2.2.q HD.out.2.2.off (nm c) 1 (.slice (some ⟨wr.heap.size + 1, 0, none⟩) 1 1) ⟨#[UInt8.ofNat i]⟩ (bytes_one _ (by omega) y5 (fun hf => by have := HD.out.1.foot_lt _ hf; omega)) (by show (1 : Nat) ≤ _; omega) (.inl rfl) (chk_nm (by omega)) (HD.out.2.2.wants.free hc16 _) (by rw [HD.out.2.2.armed]; omega) (by rw [nm_size]; omega) (by have := HD.out.2.1; omega) (by rw [HD.out.2.2.len]; omega) S4.out HD.out.2.2.ino.1 (by have := HD.out.2.2.ino; omega) (by rw [HD.out.2.2.ops]; omega) (by rw [HD.out.2.2.ops]; omega)
      rw [st.1] at WR
      have WR := Lib.hid WR
      have ST := Lib.hid st.2
      have HN := Lib.hid (And.intro HD.out.2.1 HD.out.2.2.len)
      have NF4 := Lib.hid HA.out.2
      have A0L := Lib.hid HA.out.1.lt
      clear hx hc hF hlt st y5 HD HA HB
      go_wp2_with (go_at_call 16; go_loud (refine WR.out.mono ?_; rintro e w5 ⟨L5, rfl, d5, n5⟩; have H5 := Lib.hid d5; have B5 := Lib.hid (B4.out.trans ((n5.below D4.out S4.out).mono SZ.out)); have hF5 := n5.F; have S5 := Lib.hid (Nat.le_trans S4.out n5.t.size); have A5 := Lib.hid (A4.out.turns n5.t NF4.out); have NF5 := Lib.hid (show ¬ L5.foot Wb from fun hf => (n5.foot _ hf).elim NF4.out (fun h => by have := A4.out.lt; omega)); rw [← hF5]; have k5 : w5.cell? (a0.add i) = some (.int .u8 (x : Int)) := (by have h := R0.out.1 a0 rfl i HX.out.2.1; rw [B5.out.cell (World.block_lt_of_cell? _ _ h), h, HX.out.1]); have ac := A5.out.cell HX.out.2.2; have af := A5.out.frozen c; clear d5 n5 WR cv k0))
      go_roundw
      case rel =>
        exact ⟨i + 1, L5, _, _, _, by have := HX.out; omega, by go_num, hF5, Lib.hid ⟨H5.out.arr A5.out NF5.out _ _, by have := HN.out; omega, ST.out⟩, Lib.hid ⟨A5.out.set_ HX.out.2.2 _, NF5.out⟩, Lib.hid ⟨B5.out.setCell (p := ⟨Wb, c, none⟩) (Nat.le_trans SZ.out HWB.out) _, by simp; exact S5.out⟩⟩
      case measure => have := HX.out; simp [intOf]; omega
    · have hie : i = l0.length := by omega
      subst hie
      have hd : decide ((l0.length : Int) < (l0.length : Int)) = false := decide_eq_false (by omega)
      have SY := Lib.hid (sync_on HD.out.1 HD.out.2.2.off HB.out.2)
      have PH := Lib.hid (HD.out.2.2.sync (by omega) kl)
      have HN := Lib.hid HD.out.2.1
      have HD1 := Lib.hid HD.out.1
      have HF := Lib.hid hF
      rw [← hF]
      have SL := Lib.hid (show wk.heap.size ≤ wr.heap.size from HB.out.2)
      clear hF hlt hi i0 HD
      go_wp2_with fail
      refine SY.out.mono ?_
      rintro e w4 ⟨L4, rfl, d4, n4⟩
      have H4 := Lib.hid d4
      have B4 := Lib.hid (HB.out.1.trans ((n4.below HD1.out SL.out).mono SZ.out))
      have S4 := Lib.hid (Nat.le_trans SL.out n4.t.size)
      have A4 := Lib.hid (HA.out.1.turns n4.t HA.out.2)
      have NF4 := Lib.hid (show ¬ L4.foot Wb from fun hf => (n4.foot _ hf).elim HA.out.2 (fun h => by have := HA.out.1.lt; omega))
      have hF4 := n4.F
      rw [← hF4]
      clear d4 n4 SY HA HB HD1 hF4 SL
      go_wp2_with fail
      go_loopw [10] (fun s10 wr => ∃ (i : Nat) (L' : Loc) (N : Nat) (D : DK) (wt : Nat → Int), i ≤ l1.length ∧ s10 = .int .i64 i ∧ L'.F = L4.F ∧ Hid (DiskIs wr wk.heap.size L' N D ∧ N ≤ 3000 + 100 * i ∧ Ph2 i D kl wt) ∧ Hid (ArrIs wr Wb wt ∧ ¬ L'.foot Wb) ∧ Hid (Below w.heap.size w wr ∧ wk.heap.size ≤ wr.heap.size)) (fun s10 _ => l1.length - (intOf s10).toNat)
      case atStart => exact ⟨0, L4, _, _, _, by omega, rfl, rfl, Lib.hid ⟨H4.out, by have := HN.out; omega, PH.out⟩, Lib.hid ⟨A4.out, NF4.out⟩, Lib.hid ⟨B4.out, S4.out⟩⟩
      case round =>
        clear H4 HN PH A4 NF4 B4 S4
        obtain ⟨i, L', N, D, wt, hi, rfl, hF, HD, HA, HB⟩ := hrel
        have i0 : (0 : Int) ≤ (i : Int) := Int.natCast_nonneg _
        by_cases hlt : i < l1.length
        · have i1 : (i : Int) < (l1.length : Int) := by omega
          have i30 : (i : Int) ≤ 30 := by omega
          obtain ⟨x, hx⟩ : ∃ x : Nat, x = (l1.getD i 0).toNat := ⟨_, rfl⟩
          have hx255 : x < 256 := by rw [hx]; exact UInt8.toNat_lt _
          obtain ⟨c, hc⟩ : ∃ c : Nat, (c : Int) = (x : Int) % 16 := ⟨x % 16, by omega⟩
          have hc16 : c < 16 := by omega
          cases A1 with
          | none => exact absurd (R1.out.2 rfl) (fun e => by rw [e] at hlt; simp at hlt)
          | some a1 =>
          have k0 : wr.cell? (a1.add i) = some (.int .u8 (x : Int)) := by
            have h := R1.out.1 a1 rfl i hlt
            rw [HB.out.1.cell (World.block_lt_of_cell? _ _ h), h, hx]
          have HX := Lib.hid (And.intro hx (And.intro hlt hc16))
          have hcx : (x : Int) % 16 = (c : Int) := hc.symm
          have hcb : (c : Int) ≤ 15 := by omega
          have HF := Lib.hid hF
          rw [← hF]
          have cv := nm_conv wr c (by omega)
          have sm := nm_sum c
          have D4 := Lib.hid ((HD.out.1.alloc (.cells #[.int .u8 (97 + (c : Int))] 5)).alloc (.cells #[.int .u8 (100 + (i : Int))] 5))
          have B4 := Lib.hid ((HB.out.1.alloc HB.out.1.size (.cells #[.int .u8 (97 + (c : Int))] 5)).alloc (HB.out.1.alloc HB.out.1.size (.cells #[.int .u8 (97 + (c : Int))] 5)).size (.cells #[.int .u8 (100 + (i : Int))] 5))
          have A4 := Lib.hid ((HA.out.1.alloc (.cells #[.int .u8 (97 + (c : Int))] 5)).alloc (.cells #[.int .u8 (100 + (i : Int))] 5))
          have S4 := Lib.hid (show wk.heap.size ≤ ((wr.alloc (.cells #[.int .u8 (97 + (c : Int))] 5)).alloc (.cells #[.int .u8 (100 + (i : Int))] 5)).heap.size by have := HB.out.2; simp; omega)
          have st := HD.out.2.2.step (by omega) hc16 ⟨#[]⟩
          have y5 : ((wr.alloc (.cells #[.int .u8 (97 + (c : Int))] 5)).alloc (.cells #[.int .u8 (100 + (i : Int))] 5)).heap[wr.heap.size + 1]? = some (.cells #[.int .u8 (100 + (i : Int))] 5 (0, 0)) := by
            have := heap_alloc_new (wr.alloc (.cells #[.int .u8 (97 + (c : Int))] 5)) (.cells #[.int .u8 (100 + (i : Int))] 5)
            simpa using this
          have WR := write_w D4.out HD.out.2.2.q HD.out.2.2.off (nm c) 1 (.slice (some ⟨wr.heap.size + 1, 0, none⟩) 1 1) ⟨#[UInt8.ofNat (100 + i)]⟩ (bytes_one' (i := 100 + i) _ (by push_cast; rfl) (by omega) y5 (fun hf => by have := HD.out.1.foot_lt _ hf; omega)) (by show (1 : Nat) ≤ _; omega) (.inl rfl) (chk_nm (by omega)) (nm_free HD.out.2.2.nms (by omega) _) (by rw [HD.out.2.2.armed]; omega) (by rw [nm_size]; omega) (by have := HD.out.2.1; omega) (by rw [HD.out.2.2.len]; omega) S4.out HD.out.2.2.ino.1 (by have := HD.out.2.2.ino; omega) HD.out.2.2.ops.1 (by have := HD.out.2.2.ops; omega)
          rw [st.1] at WR
          have WR := Lib.hid WR
          have ST := Lib.hid st.2
          have HN := Lib.hid (And.intro HD.out.2.1 HD.out.2.2.len)
          have NF4 := Lib.hid HA.out.2
          clear hx hc hF hlt st y5 HD HA HB
          by_cases hk : i < kl.length
          · have hki : (i : Int) < (kl.length : Int) := by omega
            have hd : decide ((i : Int) < (kl.length : Int)) = true := decide_eq_true hki
            obtain ⟨kb, hkb⟩ : ∃ b, kl[i]? = some b := ⟨_, List.getElem?_eq_getElem hk⟩
            obtain ⟨a2, rfl, kc⟩ := Bools.at_ R2.out hkb
            have KC := Lib.hid kc
            cases kb with
            | true =>
              have HE := Lib.hid (show (kl[i]?).getD false = true by rw [hkb]; rfl)
              clear hkb kc
              go_wp2_with (go_at_call 16; go_loud (refine WR.out.mono ?_; rintro e w5 ⟨L5, rfl, d5, n5⟩; have H5 := Lib.hid d5; have B5 := Lib.hid (B4.out.trans ((n5.below D4.out S4.out).mono SZ.out)); have hF5 := n5.F; have S5 := Lib.hid (Nat.le_trans S4.out n5.t.size); have A5 := Lib.hid (A4.out.turns n5.t NF4.out); have NF5 := Lib.hid (show ¬ L5.foot Wb from fun hf => (n5.foot _ hf).elim NF4.out (fun h => by have := A4.out.lt; omega)); rw [← hF5]; have k5 : w5.cell? (a1.add i) = some (.int .u8 (x : Int)) := (by have h := R1.out.1 a1 rfl i HX.out.2.1; rw [B5.out.cell (World.block_lt_of_cell? _ _ h), h, HX.out.1]); have k6 : w5.cell? (a2.add i) = some (.bool true) := (by rw [B5.out.cell (World.block_lt_of_cell? _ _ KC.out), KC.out]); have ac := A5.out.cell HX.out.2.2; have af := A5.out.frozen c; clear d5 n5 WR cv k0))
              go_roundw
              case rel =>
                refine ⟨i + 1, L5, _, _, _, by have := HX.out; omega, by go_num, hF5, Lib.hid ⟨H5.out.arr A5.out NF5.out _ _, by have := HN.out; omega, by have := ST.out; rw [HE.out, if_pos rfl] at this; exact this⟩, Lib.hid ⟨A5.out.set_ HX.out.2.2 _, NF5.out⟩, Lib.hid ⟨B5.out.setCell (p := ⟨Wb, c, none⟩) (Nat.le_trans SZ.out HWB.out) _, by simp; exact S5.out⟩⟩
              case measure => have := HX.out; simp [intOf]; omega
            | false =>
              have HE := Lib.hid (show (kl[i]?).getD false = false by rw [hkb]; rfl)
              clear hkb kc
              go_wp2_with (go_at_call 16; go_loud (refine WR.out.mono ?_; rintro e w5 ⟨L5, rfl, d5, n5⟩; have H5 := Lib.hid d5; have B5 := Lib.hid (B4.out.trans ((n5.below D4.out S4.out).mono SZ.out)); have hF5 := n5.F; have S5 := Lib.hid (Nat.le_trans S4.out n5.t.size); have A5 := Lib.hid (A4.out.turns n5.t NF4.out); have NF5 := Lib.hid (show ¬ L5.foot Wb from fun hf => (n5.foot _ hf).elim NF4.out (fun h => by have := A4.out.lt; omega)); rw [← hF5]; have k6 : w5.cell? (a2.add i) = some (.bool false) := (by rw [B5.out.cell (World.block_lt_of_cell? _ _ KC.out), KC.out]); clear d5 n5 WR cv k0))
              go_roundw
              case rel =>
                refine ⟨i + 1, L5, _, _, _, by have := HX.out; omega, by go_num, hF5, Lib.hid ⟨H5.out, by have := HN.out; omega, by have := ST.out; rw [HE.out, if_neg (by simp)] at this; exact this⟩, Lib.hid ⟨A5.out, NF5.out⟩, Lib.hid ⟨B5.out, S5.out⟩⟩
              case measure => have := HX.out; simp [intOf]; omega
          · have hd : decide ((i : Int) < (kl.length : Int)) = false := decide_eq_false (by omega)
            have hkn : ¬ (i : Int) < (kl.length : Int) := by omega
            have HE := Lib.hid (show (kl[i]?).getD false = false by rw [List.getElem?_eq_none (by omega)]; rfl)
            clear hk
            go_wp2_with (go_at_call 16; go_loud (refine WR.out.mono ?_; rintro e w5 ⟨L5, rfl, d5, n5⟩; have H5 := Lib.hid d5; have B5 := Lib.hid (B4.out.trans ((n5.below D4.out S4.out).mono SZ.out)); have hF5 := n5.F; have S5 := Lib.hid (Nat.le_trans S4.out n5.t.size); have A5 := Lib.hid (A4.out.turns n5.t NF4.out); have NF5 := Lib.hid (show ¬ L5.foot Wb from fun hf => (n5.foot _ hf).elim NF4.out (fun h => by have := A4.out.lt; omega)); rw [← hF5]; clear d5 n5 WR cv k0))
            go_roundw
            case rel =>
              refine ⟨i + 1, L5, _, _, _, by have := HX.out; omega, by go_num, hF5, Lib.hid ⟨H5.out, by have := HN.out; omega, by have := ST.out; rw [HE.out, if_neg (by simp)] at this; exact this⟩, Lib.hid ⟨A5.out, NF5.out⟩, Lib.hid ⟨B5.out, S5.out⟩⟩
            case measure => have := HX.out; simp [intOf]; omega
        · have hie : i = l1.length := by omega
          subst hie
          have hd : decide ((l1.length : Int) < (l1.length : Int)) = false := decide_eq_false (by omega)
          have RK : ∀ w', wr.grownBy w' (some L'.bs) → Reads 1 cB w' (.slice A2 kl.length c2) kl := fun w' hg => R2.out.below ((HB.out.1.grown hg HB.out.1.size (fun z hz => by obtain rfl := Option.some.inj hz; exact Nat.le_trans SZ.out HD.out.1.lo.2.2)).mono (Nat.le_refl _))
          have CT := Lib.hid (cut_any HD.out.1 (.slice A2 kl.length c2) kl RK (by have := HD.out.2.1; omega) (by rw [HD.out.2.2.len]; omega) HB.out.2)
          have WT := Lib.hid (show Wants (cutD D kl).T wt from by show Wants (cutN D.S D.ps kl D.ps.length) wt; rw [HD.out.2.2.len]; exact HD.out.2.2.wants)
          have HD1 := Lib.hid HD.out.1
          have HF := Lib.hid hF
          rw [← hF]
          have SL := Lib.hid (show wk.heap.size ≤ wr.heap.size from HB.out.2)
          clear hF hlt hi i0 HD RK
          go_wp2_with fail
          refine CT.out.mono ?_
          rintro e w4 ⟨L4', rfl, d4, n4⟩
          have H4 := Lib.hid d4
          have B4 := Lib.hid (HB.out.1.trans ((n4.below HD1.out SL.out).mono SZ.out))
          have S4 := Lib.hid (Nat.le_trans SL.out n4.t.size)
          have A4 := Lib.hid (HA.out.1.turns n4.t HA.out.2)
          have NF4 := Lib.hid (show ¬ L4'.foot Wb from fun hf => (n4.foot _ hf).elim HA.out.2 (fun h => by have := HA.out.1.lt; omega))
          have hF4 := n4.F
          rw [← hF4]
          have ON := Lib.hid (on_any H4.out.fs)
          clear d4 n4 CT HA HB HD1 hF4 SL
          go_wp2_with (go_at_call 18; refine ON.out.mono ?_; rintro e w6 ⟨rfl, hw6⟩; have H6 := Lib.hid (show DiskIs w6 wk.heap.size L4' _ { cutD D kl with off := false } from by rw [hw6]; exact H4.out.setOff false); have B6 := Lib.hid (show Below w.heap.size w w6 from by rw [hw6]; exact B4.out.setCell (p := ⟨L4'.F, 7, none⟩) (Nat.le_trans SZ.out H4.out.lo.1) _); have A6 := Lib.hid (show ArrIs w6 Wb wt from by rw [hw6]; exact A4.out.turns (Turns.of_grown (X := fun k => k = L4'.F) (grown_cellF _ _ _ _) rfl) (fun e => NF4.out (.inl e))); clear hw6 H4 B4 ON A4 S4)
          go_loopw [11, 12] (fun s11 s12 wr => ∃ (j : Nat), j ≤ 16 ∧ s12 = .int .i64 j ∧ s11 = .int .i64 (cnt wt j : Nat) ∧ Hid (Below w6.heap.size w6 wr)) (fun _ s12 _ => 16 - (intOf s12).toNat)
          case atStart => exact ⟨0, by omega, rfl, rfl, Lib.hid (Below.refl _ _)⟩
          case round =>
            obtain ⟨j, hj, rfl, rfl, HB⟩ := hrel
            have D7 := Lib.hid (H6.out.below HB.out)
            have A7 := Lib.hid (A6.out.turns (X := fun _ => False) (Turns.of_below HB.out) (fun h => h))
            by_cases hlt : j < 16
            · have hd : decide ((j : Int) < 16) = true := decide_eq_true (by omega)
              have j22 : (j : Int) ≤ 15 := by omega
              have cv := nm_conv wr j (by omega)
              have sm := nm_sum j
              have D8 := Lib.hid (D7.out.alloc (.cells #[.int .u8 (97 + (j : Int))] 5))
              have A8 := Lib.hid (A7.out.alloc (.cells #[.int .u8 (97 + (j : Int))] 5))
              have B8 := Lib.hid (HB.out.alloc HB.out.size (.cells #[.int .u8 (97 + (j : Int))] 5))
              obtain ⟨z, hz⟩ : ∃ z, z = wt j := ⟨_, rfl⟩
              have zlo := WT.out.lo j hlt
              rw [← hz] at zlo
              have HJ := Lib.hid hlt
              have HZ := Lib.hid hz
              obtain ⟨m, hm⟩ : ∃ m : Nat, m = cnt wt j := ⟨_, rfl⟩
              have HM := Lib.hid hm
              have hm16 : (m : Int) ≤ 16 := by
                rw [hm, cnt_filter]
                have := List.length_filter_le (fun i => decide (0 < wt i)) (List.range j)
                rw [List.length_range] at this
                omega
              rw [← hm]
              by_cases hz0 : z = 0
              · have RD := Lib.hid (read_no D8.out.fs (nm j) (by rw [nm_size]; decide) (WT.out.no j hlt (by rw [← hz]; exact hz0)))
                have HC := Lib.hid (show cnt wt (j + 1) = m by rw [hm]; show cnt wt j + _ = _; rw [if_neg (by rw [← hz]; omega)]; rfl)
                subst hz0
                clear hlt hz hj hm zlo
                go_wp2_with (go_at_call 19; go_loud (refine RD.out.mono ?_; rintro e w9 ⟨rfl, b9⟩; have B9 := Lib.hid (B8.out.trans (b9.mono B8.out.size)); have A9 := Lib.hid (A8.out.turns (X := fun _ => False) (Turns.of_below b9) (fun h => h)); have ac := A9.out.cell HJ.out; rw [← HZ.out] at ac; clear b9 cv RD))
                go_quiet (fail)
                go_wp2_with fail
                go_roundw
                case rel => exact ⟨j + 1, by have := HJ.out; omega, by go_num, by rw [HC.out], Lib.hid (below_drewE B9.out _)⟩
                case measure => have := HJ.out; simp [intOf]; omega
              · obtain ⟨f, hf, hfd⟩ := WT.out.yes j hlt (by rw [← hz]; exact hz0)
                rw [← hz] at hfd
                have zp : 0 < z := by omega
                have RD := Lib.hid (read_one D8.out.fs (nm j) (by rw [nm_size]; decide) hf ⟨zp, zlo.2⟩ hfd)
                have HC := Lib.hid (show cnt wt (j + 1) = m + 1 by rw [hm]; show cnt wt j + _ = _; rw [if_pos (by rw [← hz]; omega)])
                have dz : decide (0 < z) = true := decide_eq_true zp
                have zb := zlo.2
                clear hlt hz hj hm hz0 hf hfd zlo
                go_wp2_with (go_at_call 19; go_loud (refine RD.out.mono ?_; rintro e w9 ⟨g9, c9, rfl, kg, b9⟩; have B9 := Lib.hid (B8.out.trans (b9.mono B8.out.size)); have A9 := Lib.hid (A8.out.turns (X := fun _ => False) (Turns.of_below b9) (fun h => h)); have ac := A9.out.cell HJ.out; rw [← HZ.out] at ac; clear b9 cv RD))
                go_quiet (fail)
                go_wp2_with fail
                go_roundw
                case rel => exact ⟨j + 1, by have := HJ.out; omega, by go_num, by rw [HC.out]; go_num, Lib.hid (below_drewE B9.out _)⟩
                case measure => have := HJ.out; simp [intOf]; omega
            · have hj16 : j = 16 := by omega
              subst hj16
              have hd : decide (((16 : Nat) : Int) < 16) = false := by decide
              have LS := list_on D7.out.fs (by rw [WT.out.len D7.out.fs.f.once, cnt_filter]; have := List.length_filter_le (fun i => decide (0 < wt i)) (List.range 16); rw [List.length_range] at this; omega)
              have HLN := Lib.hid (show (namesV (cutD D kl).T).length = cnt wt 16 by rw [namesV_len, WT.out.len D7.out.fs.f.once])
              have LS := Lib.hid (show Calls Tryd.prog 20 #[.pointer (some ⟨L4'.F, 0, none⟩)] wr fun e w' => ∃ v, e = .returned (.tuple #[v, .int .i64 0]) ∧ w'.ownsRow wr.heap.size 9 1 v (namesV (cutD D kl).T).length ((namesV (cutD D kl).T).map Value.string) ∧ Below wr.heap.size wr w' from LS)
              obtain ⟨m, hm⟩ : ∃ m : Nat, m = cnt wt 16 := ⟨_, rfl⟩
              rw [← hm] at HLN ⊢
              clear hlt hj hm
              have B8 := Lib.hid (B6.out.trans (HB.out.mono B6.out.size))
              go_wp2_with (go_at_call 20; go_loud (refine LS.out.mono ?_; rintro e w9 ⟨v9, rfl, own, b9⟩; rw [HLN.out] at own; obtain ⟨A9, c9, rfl⟩ := own_form own; have B9 := Lib.hid (B8.out.trans (b9.mono B8.out.size)); clear own b9 LS))
              go_ret
              exact ⟨rfl, B9.out⟩
end Go.Proofs.YtcnmlgmlijgmhaaDoor
