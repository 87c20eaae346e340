/-
  ShaAgain: the walk.
-/
import Derived.Test.YtpkikibcfkdodaaHKnown
namespace Go.Proofs.Ytpkikibcfkdodaa
open Go Go.RowKit
attribute [-go_sem] loadCells storeCells run_index_string Instr.buildSlice
/-- Where an argument's bytes stand. -/
structure BytesAt (w : World) (A : Option Addr) (l : List UInt8) : Prop where
  nil : A = none → l = []
  at_ : ∀ a, A = some a → ∀ j, (hj : j < l.length) → w.cell? (a.add j) = some (.int .u8 (l[j].toNat : Int))
theorem BytesAt.rd {w : World} {A : Option Addr} {l : List UInt8} (h : BytesAt w A l) : RD w A l := fun hl => by
  cases A with
  | none => rw [h.nil rfl] at hl; simp at hl
  | some a =>
    have h0 := h.at_ a rfl 0 hl
    have hs := World.cell?_spot h0
    obtain ⟨b, o, spot⟩ := a
    simp [Addr.add] at hs
    subst hs
    refine ⟨b, o, rfl, fun j x hj => ?_⟩
    obtain ⟨hjl, rfl⟩ := List.getElem?_eq_some_iff.1 hj
    have := h.at_ _ rfl j hjl
    rwa [Addr.add_lit] at this
theorem BytesAt.conv {w : World} {A : Option Addr} {l : List UInt8} (h : BytesAt w A l) (c : Nat) : (convert 22 9 (.slice A l.length c)).run Try.prog w = .ok (.string ⟨l.toArray⟩) w := by
  cases A with
  | none =>
    have e := h.nil rfl
    subst e
    exact run_convert_bytes_nil w 22 5 Try.underlying22 Try.underlying5 0 c 9 Try.underlying9
  | some a => exact run_convert_bytes_back (P := Try.prog) w 22 9 5 a c l Try.underlying22 Try.underlying5 Try.underlying9 (h.at_ a rfl)
theorem BytesAt.below {w w' : World} {A : Option Addr} {l : List UInt8} (h : BytesAt w A l) (hb : Below w.heap.size w w') : BytesAt w' A l :=
  ⟨h.nil, fun a e j hj => by
    have h0 := h.at_ a e j hj
    have hlt := World.block_lt_of_cell? w _ h0
    have := hb.block _ hlt
    rw [← h0]
    have hs := World.cell?_spot h0
    simp only [World.cell?, this]⟩
/-- What '[]byte(s)' makes. -/
theorem conv_str (w : World) (l : List UInt8) : ∃ (cap : Nat) (w' : World), (convert 9 22 (.string ⟨l.toArray⟩)).run Try.prog w = .ok (.slice (some ⟨w.heap.size, 0, none⟩) l.length cap) w' ∧ Below w.heap.size w w' ∧ l.length ≤ cap ∧ Reads4 w' w.heap.size 0 l := by
  have h := run_bytes_of_string (P := Try.prog) w 9 22 5 ⟨l.toArray⟩ Try.underlying9 Try.underlying22 Try.underlying5
  have hsz : (⟨l.toArray⟩ : ByteArray).size = l.length := by show l.toArray.size = _; simp
  rw [hsz] at h
  have hg := grownCap_ge w l.length 0 5
  obtain ⟨cap, hcap⟩ : ∃ c, c = grownCap w l.length 0 5 := ⟨_, rfl⟩
  rw [← hcap] at h hg
  refine ⟨cap, _, h, ?_, hg, fun j b hj => ?_⟩
  · exact (below_drewN (Below.refl w.heap.size w) 1).alloc (Nat.le_refl _) _
  · have hn := heap_alloc_new w.drew (Obj.cells (bytesRow ⟨l.toArray⟩ cap) 5 ((bytesRow ⟨l.toArray⟩ cap).size, (bytesRow ⟨l.toArray⟩ cap).size + 1))
    rw [Nat.zero_add]
    have hc := cell_of_row (w.drew.alloc (Obj.cells (bytesRow ⟨l.toArray⟩ cap) 5 ((bytesRow ⟨l.toArray⟩ cap).size, (bytesRow ⟨l.toArray⟩ cap).size + 1))) w.heap.size j _ 5 _ hn
    rw [hc]
    obtain ⟨hjl, rfl⟩ := List.getElem?_eq_some_iff.1 hj
    unfold bytesRow
    rw [Array.getElem?_append_left (by simpa using hjl)]
    simp [hjl]
abbrev YesA (w : World) (e : Ending) (w' : World) : Prop := e = .returned (.bool true) ∧ Below w.heap.size w w'
set_option maxRecDepth 100000 in
set_option maxHeartbeats 1000000 in
theorem again_long (w : World) (A : Option Addr) (n c : Nat) (h : 300 < n) : Calls Try.prog 5 #[.slice A n c] w (YesA w) := by
  have h1 : (300 : Int) < (n : Int) := by omega
  go_enter Try.func5, Try.ntmps5
  go_wp2_with fail
  refine (known_any w).mono ?_
  rintro e w1 ⟨rfl, hb1⟩
  go_wp2
  go_ret
  exact ⟨rfl, hb1⟩
set_option maxRecDepth 100000 in
set_option maxHeartbeats 8000000 in
theorem again_short (w : World) (A : Option Addr) (l : List UInt8) (c : Nat) (hl : l.length ≤ 300) (hc : l.length ≤ c) (hA : BytesAt w A l) : Calls Try.prog 5 #[.slice A l.length c] w (YesA w) := by
  have HA := Lib.hid hA
  have HL := Lib.hid hl
  have HC := Lib.hid hc
  have h1 : ¬ (300 : Int) < (l.length : Int) := by omega
  obtain ⟨cm, hcm⟩ : ∃ cm, cm = bc (sumF l) := ⟨_, rfl⟩
  have hlen : (sumF l).length = 32 := by unfold sumF; kernel_rfl
  have hcl : cm.length = 32 := by rw [hcm, bc_len, hlen]
  have hcz : cm.toArray.size = 32 := by simpa using hcl
  have hone : cm.toArray.all (·.oneCell') = true := by rw [hcm, List.all_toArray, List.all_eq_true]; exact bc_one _
  have hst := fun W => st_new W cm hcl hone
  have SUM : Hid (∀ (W : World) (B : Option Addr) (d : Nat), l.length ≤ d → RD W B l → Calls Try.prog 8 #[.slice B l.length d] W fun e w' => e = .returned (.agg cm.toArray) ∧ Below W.heap.size W w') := Lib.hid (by rw [hcm]; exact fun W B d hd hr => sum_any W B l d (by omega) hd hr)
  have HCM := Lib.hid hcm
  have HSL := Lib.hid hlen
  have HCL := Lib.hid hcl
  clear hA hl hc hcm hlen hcl hone
  go_enter Try.func5, Try.ntmps5
  go_upto_region 5 with (go_at_call 7; refine (known_any w).mono ?_; rintro e w1 ⟨rfl, hb1⟩)
  have A1 := Lib.hid (HA.out.below hb1)
  have hcv := A1.out.conv c
  have B1 := Lib.hid hb1
  obtain ⟨S, hS⟩ : ∃ S : ByteArray, S = ⟨l.toArray⟩ := ⟨_, rfl⟩
  rw [← hS] at hcv
  have HS := Lib.hid hS
  clear hb1 hS
  go_upto_region 7 with (go_at_call 8; refine (SUM.out _ _ _ HC.out A1.out.rd).mono ?_; rintro e w2 ⟨rfl, hb2⟩)
  have hX := Blk.new w2 25 cm.toArray
  have A2 := Lib.hid (A1.out.below (hb2.alloc hb2.size (.cells cm.toArray 25)))
  have B2 := Lib.hid (B1.out.trans ((hb2.alloc hb2.size (.cells cm.toArray 25)).mono B1.out.size))
  obtain ⟨X, hXX⟩ : ∃ X, X = w2.heap.size := ⟨_, rfl⟩
  obtain ⟨W2, hW2⟩ : ∃ W, W = w2.alloc (.cells cm.toArray 25) := ⟨_, rfl⟩
  rw [← hXX, ← hW2] at hX
  rw [← hW2] at A2 B2
  rw [← hXX, ← hW2]
  have X2 := Lib.hid hX
  obtain ⟨cap, w3, hcs, hb3, hcap, hrd⟩ := conv_str W2 l
  rw [← HS.out] at hcs
  have B3 := Lib.hid hb3
  have HCAP := Lib.hid hcap
  have HRD := Lib.hid hrd
  clear hXX hW2 hX hb2 A1 B1 hcv hb3 hcap hrd
  go_upto_region 8 with (go_at_call 8; refine (SUM.out _ _ _ HCAP.out (fun _ => ⟨_, 0, rfl, HRD.out⟩)).mono ?_; rintro e w4 ⟨rfl, hb4⟩)
  have hbb := (B3.out.trans (hb4.mono B3.out.size)).alloc (B3.out.trans (hb4.mono B3.out.size)).size (.cells cm.toArray 25)
  have A5 := Lib.hid (A2.out.below hbb)
  have B5 := Lib.hid (B2.out.trans (hbb.mono B2.out.size))
  have hX5 := X2.out.below hbb X2.out.lt
  have hY5 := Blk.new w4 25 cm.toArray
  obtain ⟨Y, hYY⟩ : ∃ X, X = w4.heap.size := ⟨_, rfl⟩
  obtain ⟨W5, hW5⟩ : ∃ W, W = w4.alloc (.cells cm.toArray 25) := ⟨_, rfl⟩
  rw [← hYY, ← hW5] at hY5
  rw [← hW5] at A5 B5 hX5
  rw [← hYY, ← hW5]
  have X5 := Lib.hid hX5
  have Y5 := Lib.hid hY5
  have hlx5 := ld_blk hX5 hcz
  have hly5 := ld_blk hY5 hcz
  have hcv := A5.out.conv c
  rw [← HS.out] at hcv
  clear hYY hW5 hX5 hY5 hbb hb4 A2 B2 X2 B3 HRD hcs HCAP hst SUM
  have h64 := hexS_size (sumF l)
  have STR : Hid (∀ W : World, Calls Try.prog 10 #[.agg cm.toArray] W fun e w' => e = .returned (.string (hexS (sumF l))) ∧ Below W.heap.size W w') := Lib.hid (by rw [HCM.out]; exact fun W => string_any W (sumF l) HSL.out)
  obtain ⟨hs, hhs⟩ : ∃ s, s = hexS (sumF l) := ⟨_, rfl⟩
  rw [← hhs] at h64 STR
  clear hhs
  have SHA : Hid (∀ W : World, Calls Try.prog 13 #[.agg cm.toArray, .agg cm.toArray] W fun e w' => e = .returned (.int .i64 64) ∧ Below W.heap.size W w') := Lib.hid (by rw [HCM.out]; exact fun W => by have h := shared_any W (sumF l) (sumF l) HSL.out HSL.out; rw [share_same] at h; exact h)
  have heq : ∀ W : World, (Op.equalIn 10000 25 (.agg cm.toArray) (.agg cm.toArray)).run Try.prog W = .ok true W := by rw [HCM.out]; exact fun W => by rw [eq25 W _ _ HSL.out HSL.out]; simp
  have hb1 := fun W : World => bs2_36 W cm cm HCL.out HCL.out
  have SHO : Hid (∀ W : World, Calls Try.prog 15 #[.slice (some ⟨W.heap.size, 0, none⟩) 2 2, .agg cm.toArray, .int .i64 0] (W.alloc (.cells (cm ++ cm).toArray 25)) fun e w' => e = .returned (.int .i64 0) ∧ Below W.heap.size W w') := Lib.hid (by
    rw [HCM.out]
    intro W
    have hl32 : (bc (sumF l)).length = 32 := by rw [bc_len, HSL.out]
    have h := short_any (W.alloc (.cells (bc (sumF l) ++ bc (sumF l)).toArray 25)) (some ⟨W.heap.size, 0, none⟩) [sumF l, sumF l] 2 (sumF l) 0 HSL.out (by simp) ⟨fun m hm => by
        have : m = sumF l := by simpa using hm
        rw [this]; exact HSL.out, fun _ => ⟨W.heap.size, 0, rfl, fun i m hi j v hv => by
      rw [cell_of_row _ W.heap.size _ _ 25 (0, 0) (heap_alloc_new W _), List.getElem?_toArray]
      have hj : j < 32 := by
        have := (List.getElem?_eq_some_iff.1 hv).1
        match i, hi with
        | 0, hi => injection hi with hi; subst hi; omega
        | 1, hi => injection hi with hi; subst hi; omega
      match i, hi with
      | 0, hi =>
        injection hi with hi
        subst hi
        rw [show 0 + 0 * 32 + j = j by omega, List.getElem?_append_left (by omega)]
        exact hv
      | 1, hi =>
        injection hi with hi
        subst hi
        rw [show 0 + 1 * 32 + j = 32 + j by omega, List.getElem?_append_right (by omega), hl32, show 32 + j - 32 = j by omega]
        exact hv⟩⟩
    have e4 : shortN (sumF l) (least0 0) [sumF l, sumF l] = 0 := by show stepS (sumF l) (stepS (sumF l) 0 (sumF l)) (sumF l) = 0; unfold stepS; rw [if_pos rfl, if_pos rfl]
    rw [e4] at h
    exact h.mono (fun e w' ⟨h1, h2⟩ => ⟨h1, ((Below.refl W.heap.size W).alloc (Nat.le_refl _) _).trans (h2.mono (by simp))⟩))
  go_wp2_with (first
    | (go_at_call 10; refine (STR.out _).mono ?_; rintro e w6 ⟨rfl, hb6⟩; have X6 := Lib.hid (X5.out.below hb6 X5.out.lt); have Y6 := Lib.hid (Y5.out.below hb6 Y5.out.lt); have hlx6 := ld_blk X6.out hcz; have hly6 := ld_blk Y6.out hcz; have B6 := Lib.hid (B5.out.trans (hb6.mono B5.out.size)); clear hb6)
    | (go_at_call 13; refine (SHA.out _).mono ?_; rintro e w7 ⟨rfl, hb7⟩; have X7 := Lib.hid (X6.out.below hb7 X6.out.lt); have Y7 := Lib.hid (Y6.out.below hb7 Y6.out.lt); have hlx7 := ld_blk X7.out hcz; have hly7 := ld_blk Y7.out hcz; have hlx8 := ld_blk (X7.out.alloc (.cells (cm ++ cm).toArray 25)) hcz; have B7 := Lib.hid (B6.out.trans (hb7.mono B6.out.size)); clear hb7)
    | (go_at_call 15; refine (SHO.out _).mono ?_; rintro e w8 ⟨rfl, hb8⟩; have B8 := Lib.hid (B7.out.trans (hb8.mono B7.out.size)); clear hb8))
  go_ret
  exact ⟨rfl, B8.out⟩
end Go.Proofs.Ytpkikibcfkdodaa
