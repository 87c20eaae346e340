/-
  plan.Force: what was tracked goes, what is in the way goes, the tree is laid.
  rectolaw20.known is true.
  rectolaw20.known is true: the walk.
  rectolaw14.Few, rectolaw15.Few: whether trees and entries are few, and short.
  rectolaw15.Of: entries as the document's.
  rectolaw15.All: are the program's entries the document's, with all they have?
  What plan's calls tell on a clean folder; the guards of its laws.
  rectolaw20.PlanClean: on a clean folder nothing is ever lost.
-/
import Derived.Test.YtdmmjfmjohliiaaGreatDoorG5
import Derived.Test.YtdmmjfmjohliiaaGreatDoorG1
import Derived.Test.YtdmmjfmjohliiaaGreatDoorG2
import Derived.Test.YtdmmjfmjohliiaaGreatDoorG3
import Derived.Test.YtdmmjfmjohliiaaGreatDoorG4
namespace Go.Proofs.YtdmmjfmjohliiaaGreatDoor
open Go Go.RowKit

theorem foldA_snoc {α β : Type} {l : List α} {i : Nat} {x : α} (g : α → ByteArray) (F : β → ByteArray → β) (w : β) (h : l[i]? = some x) : ((l.take (i + 1)).map g).foldl F w = F (((l.take i).map g).foldl F w) (g x) := by
  rw [take_snoc h, List.map_append, List.foldl_append]; rfl
theorem putA_snoc {l : List Fl} {i : Nat} {x : Fl} (w : List Fl) (h : l[i]? = some x) : putA (l.take (i + 1)) w = putF (putA (l.take i) w) x := by
  unfold putA
  rw [take_snoc h, List.foldl_append]; rfl
theorem clear_len (l : List Fl) (p : ByteArray) : (clearF l p).length ≤ l.length := List.length_filter_le _ _
theorem clearF_sized {l : List Fl} (h : Sized l) (p : ByteArray) : Sized (clearF l p) := fun x hx => h x (List.mem_filter.1 hx).1
/-- What Force tells. -/
def ForceTo (h t : List Fl) (ix : List En) (wk : List Fl) (w : World) (e : Ending) (w' : World) : Prop :=
  ∃ u1 u2 : Value, e = .returned (.tuple #[u1, u2]) ∧ Reads 6 cE w' u1 (t.map toE) ∧ Reads 3 cF w' u2 (forceV h t ix wk) ∧ Below w.heap.size w w'

set_option maxRecDepth 100000 in
set_option maxHeartbeats 8000000 in
theorem force_any (w : World) (v t ixv wv : Value) (h tl wk : List Fl) (ix : List En)
    (hv : Reads 3 cF w v h) (tv : Reads 3 cF w t tl) (iv : Reads 6 cE w ixv ix) (kv : Reads 3 cF w wv wk) (rk : RiseF wk)
    (lh : h.length ≤ 80) (lt : tl.length ≤ 80) (li : ix.length ≤ 80) (lk : wk.length ≤ 80) (sk : Sized wk) (st : Sized tl) :
    Calls Tryz.prog 24 #[v, t, ixv, wv] w (ForceTo h tl ix wk w) := by
  have C1 := Lib.hid (cloneF_any w wv wk kv (by omega))
  have OF := Lib.hid fun W (hW : Below w.heap.size w W) => of_any W t tl (tv.below hW) (by omega)
  have HV := Lib.hid hv
  have TV := Lib.hid tv
  have IV := Lib.hid iv
  have RK := Lib.hid rk
  have SK := Lib.hid sk
  have ST := Lib.hid st
  have HF := Lib.hid (show forceV h tl ix wk = putA tl (clearA (tl.map (·.1)) (cutA (ix.map (·.1)) (cutA (h.map (·.1)) wk))) from rfl)
  obtain ⟨Ai, ci, rfl⟩ := iv.form
  obtain ⟨Ak, ck, rfl⟩ := kv.form
  obtain ⟨Ah, ch, rfl⟩ := hv.form
  obtain ⟨At, ct, rfl⟩ := tv.form
  clear hv tv iv kv rk sk st
  go_enter Tryz.func24, Tryz.ntmps24
  go_wp2_with fail
  refine C1.out.mono ?_
  rintro e w0 ⟨v0, rfl, o0, b0⟩
  have R0 := Lib.hid (Reads.of_own cF_len o0)
  have B0 := Lib.hid b0
  obtain ⟨A0, c0, rfl⟩ := own_form o0
  clear o0 b0 C1
  go_wp2_with fail
  go_loopw [3, 11, 22] (fun s3 _ s22 wr => ∃ (i : Nat) (a : List Fl), i ≤ h.length ∧ s22 = .int .i64 i ∧ Hid (Reads 3 cF wr s3 a) ∧ Hid (a = cutA ((h.take i).map (·.1)) wk) ∧ Hid (RiseF a) ∧ Hid (Sized a) ∧ a.length ≤ 80 ∧ Below w.heap.size w wr) (fun _ _ s22 _ => h.length - (intOf s22).toNat)
  case atStart => exact ⟨0, wk, Nat.zero_le _, rfl, R0, Lib.hid rfl, RK, SK, by omega, B0.out⟩
  case round =>
    obtain ⟨i, a, hil, rfl, RA, EA, HR, HS, la, hb⟩ := hrel
    by_cases hlt : i < h.length
    · obtain ⟨f, hf⟩ : ∃ f, h[i]? = some f := ⟨_, List.getElem?_eq_getElem hlt⟩
      obtain ⟨ad, rfl, c0, c1, c2⟩ := Fils.at_ (HV.out.below hb) hf
      have EA1 := Lib.hid (show cutA ((h.take (i + 1)).map (·.1)) wk = cutF a f.1 by rw [EA.out]; exact foldA_snoc (fun x => x.1) cutF wk hf)
      have CU := Lib.hid fun W (hW : Below wr.heap.size wr W) => cut_any W _ a f.1 (RA.out.below hW) HS.out (by omega)
      have HR1 := Lib.hid (cut_rise HR.out f.1)
      have HS1 := Lib.hid (cutF_sized HS.out f.1)
      have hl1 := cut_len a f.1
      obtain ⟨f1, f2, f3⟩ := f
      have bA : Below wr.heap.size wr (wr.alloc (.cells #[.string f1, .int .i64 f2, .string f3] 56)) := (Below.refl _ _).alloc (Nat.le_refl _) _
      have CUA := Lib.hid (CU.out _ bA)
      have BA := Lib.hid (hb.trans (bA.mono hb.size))
      have k0 : (0 : Int) ≤ (i : Int) := Int.natCast_nonneg _
      have k1 : (i : Int) < (h.length : Int) := by omega
      have hcl := World.block_lt_of_cell? _ _ c0
      obtain ⟨Ax, cx, rfl⟩ := RA.out.form
      clear hf hb bA CU
      go_wp2_with fail
      refine CUA.out.mono ?_
      rintro e w9 ⟨v9, rfl, r9, b9⟩
      have R9 := Lib.hid r9
      obtain ⟨A9, c9, rfl⟩ := r9.form
      have B9 := Lib.hid (BA.out.trans (b9.mono BA.out.size))
      clear r9 b9 CUA
      go_wp2_with fail
      go_roundw
      case rel => exact ⟨i + 1, _, by omega, by go_num, R9, Lib.hid EA1.out.symm, HR1, HS1, by omega, B9.out⟩
      case measure => simp [intOf]; omega
    · obtain rfl : i = h.length := by omega
      rw [List.take_length] at EA
      obtain ⟨Ax, cx, rfl⟩ := RA.out.form
      have B1 := Lib.hid hb
      have RA1 := RA
      have EA1 := EA
      have HR1 := HR
      have HS1 := HS
      have la1 := la
      rename List Fl => a0
      clear hb RA EA HR HS la
      go_wp2_with fail
      go_loopw [3, 13, 33] (fun s3 _ s33 wr => ∃ (i : Nat) (a : List Fl), i ≤ ix.length ∧ s33 = .int .i64 i ∧ Hid (Reads 3 cF wr s3 a) ∧ Hid (a = cutA ((ix.take i).map (·.1)) a0) ∧ Hid (RiseF a) ∧ Hid (Sized a) ∧ a.length ≤ 80 ∧ Below w.heap.size w wr) (fun _ _ s33 _ => ix.length - (intOf s33).toNat)
      case atStart => exact ⟨0, a0, Nat.zero_le _, rfl, RA1, Lib.hid rfl, HR1, HS1, by omega, B1.out⟩
      case round =>
        obtain ⟨i, a, hil, rfl, RA, EA, HR, HS, la, hb⟩ := hrel
        by_cases hlt : i < ix.length
        · obtain ⟨f, hf⟩ : ∃ f, ix[i]? = some f := ⟨_, List.getElem?_eq_getElem hlt⟩
          obtain ⟨ad, rfl, c0, c1, c2, c3, c4, c5⟩ := Ents.at_ (IV.out.below hb) hf
          have EA1 := Lib.hid (show cutA ((ix.take (i + 1)).map (·.1)) a0 = cutF a f.1 by rw [EA.out]; exact foldA_snoc (fun x => x.1) cutF a0 hf)
          have CU := Lib.hid fun W (hW : Below wr.heap.size wr W) => cut_any W _ a f.1 (RA.out.below hW) HS.out (by omega)
          have HR1 := Lib.hid (cut_rise HR.out f.1)
          have HS1 := Lib.hid (cutF_sized HS.out f.1)
          have hl1 := cut_len a f.1
          obtain ⟨f1, f2, f3, f4, f5, f6⟩ := f
          have bA : Below wr.heap.size wr (wr.alloc (.cells #[.string f1, .int .i64 f2, .int .i64 f3, .string f4, .int .i64 f5, .int .i64 f6] 69)) := (Below.refl _ _).alloc (Nat.le_refl _) _
          have CUA := Lib.hid (CU.out _ bA)
          have BA := Lib.hid (hb.trans (bA.mono hb.size))
          have k0 : (0 : Int) ≤ (i : Int) := Int.natCast_nonneg _
          have k1 : (i : Int) < (ix.length : Int) := by omega
          have hcl := World.block_lt_of_cell? _ _ c0
          obtain ⟨Ax, cx, rfl⟩ := RA.out.form
          clear hf hb bA CU
          go_wp2_with fail
          refine CUA.out.mono ?_
          rintro e w9 ⟨v9, rfl, r9, b9⟩
          have R9 := Lib.hid r9
          obtain ⟨A9, c9, rfl⟩ := r9.form
          have B9 := Lib.hid (BA.out.trans (b9.mono BA.out.size))
          clear r9 b9 CUA
          go_wp2_with fail
          go_roundw
          case rel => exact ⟨i + 1, _, by omega, by go_num, R9, Lib.hid EA1.out.symm, HR1, HS1, by omega, B9.out⟩
          case measure => simp [intOf]; omega
        · obtain rfl : i = ix.length := by omega
          rw [List.take_length] at EA
          obtain ⟨Ax, cx, rfl⟩ := RA.out.form
          have B2 := Lib.hid hb
          have RA2 := RA
          have EA2 := EA
          have HR2 := HR
          have HS2 := HS
          have la2 := la
          rename List Fl => a1
          clear hb RA EA HR HS la
          go_wp2_with fail
          go_loopw [3, 15, 44] (fun s3 _ s44 wr => ∃ (i : Nat) (a : List Fl), i ≤ tl.length ∧ s44 = .int .i64 i ∧ Hid (Reads 3 cF wr s3 a) ∧ Hid (a = clearA ((tl.take i).map (·.1)) a1) ∧ Hid (RiseF a) ∧ Hid (Sized a) ∧ a.length ≤ 80 ∧ Below w.heap.size w wr) (fun _ _ s44 _ => tl.length - (intOf s44).toNat)
          case atStart => exact ⟨0, a1, Nat.zero_le _, rfl, RA2, Lib.hid rfl, HR2, HS2, by omega, B2.out⟩
          case round =>
            obtain ⟨i, a, hil, rfl, RA, EA, HR, HS, la, hb⟩ := hrel
            by_cases hlt : i < tl.length
            · obtain ⟨f, hf⟩ : ∃ f, tl[i]? = some f := ⟨_, List.getElem?_eq_getElem hlt⟩
              obtain ⟨ad, rfl, c0, c1, c2⟩ := Fils.at_ (TV.out.below hb) hf
              have EA1 := Lib.hid (show clearA ((tl.take (i + 1)).map (·.1)) a1 = clearF a f.1 by rw [EA.out]; exact foldA_snoc (fun x => x.1) clearF a1 hf)
              have hfs := ST.out f (List.mem_of_getElem? hf)
              have CU := Lib.hid fun W (hW : Below wr.heap.size wr W) => clear_any W _ a f.1 (RA.out.below hW) HS.out hfs (by omega)
              have HR1 := Lib.hid (clear_rise HR.out f.1)
              have HS1 := Lib.hid (clearF_sized HS.out f.1)
              have hl1 := clear_len a f.1
              obtain ⟨f1, f2, f3⟩ := f
              have bA : Below wr.heap.size wr (wr.alloc (.cells #[.string f1, .int .i64 f2, .string f3] 56)) := (Below.refl _ _).alloc (Nat.le_refl _) _
              have CUA := Lib.hid (CU.out _ bA)
              have BA := Lib.hid (hb.trans (bA.mono hb.size))
              have k0 : (0 : Int) ≤ (i : Int) := Int.natCast_nonneg _
              have k1 : (i : Int) < (tl.length : Int) := by omega
              have hcl := World.block_lt_of_cell? _ _ c0
              obtain ⟨Ax, cx, rfl⟩ := RA.out.form
              clear hf hb bA CU hfs
              go_wp2_with fail
              refine CUA.out.mono ?_
              rintro e w9 ⟨v9, rfl, r9, b9⟩
              have R9 := Lib.hid r9
              obtain ⟨A9, c9, rfl⟩ := r9.form
              have B9 := Lib.hid (BA.out.trans (b9.mono BA.out.size))
              clear r9 b9 CUA
              go_wp2_with fail
              go_roundw
              case rel => exact ⟨i + 1, _, by omega, by go_num, R9, Lib.hid EA1.out.symm, HR1, HS1, by omega, B9.out⟩
              case measure => simp [intOf]; omega
            · obtain rfl : i = tl.length := by omega
              rw [List.take_length] at EA
              obtain ⟨Ax, cx, rfl⟩ := RA.out.form
              have B3 := Lib.hid hb
              have RA3 := RA
              have EA3 := EA
              have HR3 := HR
              have HS3 := HS
              have la3 := la
              rename List Fl => a2
              clear hb RA EA HR HS la
              go_wp2_with fail
              go_loopw [3, 17, 55] (fun s3 _ s55 wr => ∃ (i : Nat) (a : List Fl), i ≤ tl.length ∧ s55 = .int .i64 i ∧ Hid (Reads 3 cF wr s3 a) ∧ Hid (a = putA (tl.take i) a2) ∧ Hid (RiseF a) ∧ Hid (Sized a) ∧ a.length ≤ 80 + i ∧ Below w.heap.size w wr) (fun _ _ s55 _ => tl.length - (intOf s55).toNat)
              case atStart => exact ⟨0, a2, Nat.zero_le _, rfl, RA3, Lib.hid rfl, HR3, HS3, by omega, B3.out⟩
              case round =>
                obtain ⟨i, a, hil, rfl, RA, EA, HR, HS, la, hb⟩ := hrel
                by_cases hlt : i < tl.length
                · obtain ⟨f, hf⟩ : ∃ f, tl[i]? = some f := ⟨_, List.getElem?_eq_getElem hlt⟩
                  obtain ⟨ad, rfl, c0, c1, c2⟩ := Fils.at_ (TV.out.below hb) hf
                  have EA1 := Lib.hid (show putA (tl.take (i + 1)) a2 = putF a f by rw [EA.out]; exact putA_snoc a2 hf)
                  have hfs := ST.out f (List.mem_of_getElem? hf)
                  have CU := Lib.hid fun W (hW : Below wr.heap.size wr W) => put_any W _ a f (RA.out.below hW) HR.out (by omega)
                  have HR1 := Lib.hid (put_rise HR.out f)
                  have HS1 := Lib.hid (putF_sized HS.out hfs)
                  have hl1 := put_len a f
                  obtain ⟨f1, f2, f3⟩ := f
                  have bA : Below wr.heap.size wr (wr.alloc (.cells #[.string f1, .int .i64 f2, .string f3] 56)) := (Below.refl _ _).alloc (Nat.le_refl _) _
                  have CUA := Lib.hid (CU.out _ bA)
                  have BA := Lib.hid (hb.trans (bA.mono hb.size))
                  have k0 : (0 : Int) ≤ (i : Int) := Int.natCast_nonneg _
                  have k1 : (i : Int) < (tl.length : Int) := by omega
                  have hcl := World.block_lt_of_cell? _ _ c0
                  obtain ⟨Ax, cx, rfl⟩ := RA.out.form
                  clear hf hb bA CU hfs
                  go_wp2_with fail
                  refine CUA.out.mono ?_
                  rintro e w9 ⟨v9, rfl, o9, b9⟩
                  have R9 := Lib.hid (Reads.of_own cF_len o9)
                  obtain ⟨A9, c9, rfl⟩ := own_form o9
                  have B9 := Lib.hid (BA.out.trans (b9.mono BA.out.size))
                  clear o9 b9 CUA
                  go_wp2_with fail
                  go_roundw
                  case rel => exact ⟨i + 1, _, by omega, by go_num, R9, Lib.hid EA1.out.symm, HR1, HS1, by omega, B9.out⟩
                  case measure => simp [intOf]; omega
                · obtain rfl : i = tl.length := by omega
                  rw [List.take_length] at EA
                  have EF : Hid (a = forceV h tl ix wk) := Lib.hid (by rw [HF.out, EA.out, EA3.out, EA2.out, EA1.out])
                  have BZ := Lib.hid hb
                  have OF2 := Lib.hid (OF.out wr hb)
                  obtain ⟨Ax, cx, rfl⟩ := RA.out.form
                  clear hb OF
                  go_wp2_with fail
                  refine OF2.out.mono ?_
                  rintro e w9 ⟨v9, rfl, o9, b9⟩
                  have R9 := Lib.hid (Reads.of_own cE_len o9)
                  have Q9 := Lib.hid (RA.out.below b9)
                  have B9 := Lib.hid (BZ.out.trans (b9.mono BZ.out.size))
                  clear o9 b9 OF2
                  go_wp2_with fail
                  go_ret2
                  exact ⟨_, _, rfl, R9.out, by rw [← EF.out]; exact Q9.out, B9.out⟩
end Go.Proofs.YtdmmjfmjohliiaaGreatDoor
namespace Go.Proofs.YtdmmjfmjohliiaaGreatDoor
open Go Go.RowKit

theorem touched_sized {cf : List ByteArray} {h t : List Fl} (hc : SizedS cf) (hh : Sized h) (ht : Sized t) : SizedS (touchedV cf h t) := fun p hp => by
  rcases touched_mem.1 hp with h1 | h1
  · exact hc p h1
  · cases ha : getF h p with
    | some f =>
      have := hh f (getF_mem ha)
      rw [getF_path ha] at this; exact this
    | none => cases hb : getF t p with
      | some f =>
        have := ht f (getF_mem hb)
        rw [getF_path hb] at this; exact this
      | none => rw [ha, hb] at h1; exact absurd (unl_same none) h1
def pA : ByteArray := ⟨#[97]⟩
def fX : Fl := (pA, 1, ⟨#[120]⟩)
def fY : Fl := (pA, 1, ⟨#[121]⟩)
def fZ : Fl := (pA, 1, ⟨#[122]⟩)
theorem rise_one (f : Fl) : RiseF [f] := List.pairwise_singleton _ _
theorem riseE_one (e : En) : RiseE [e] := List.pairwise_singleton _ _
theorem sized_one {f : Fl} (h : f.1.size ≤ 1000000) : Sized [f] := fun x hx => by rw [List.mem_singleton.1 hx]; exact h
theorem sizedE_one {e : En} (h : e.1.size ≤ 1000000) : SizedE [e] := fun x hx => by rw [List.mem_singleton.1 hx]; exact h
theorem get_one (f : Fl) (p : ByteArray) : getF [f] p = if f.1 = p then some f else none := by
  rw [getF_cons]; rfl
theorem kn_touch {p : ByteArray} : p ∈ touchedV [] [fX] [fY] ↔ p = pA := by
  rw [touched_mem, get_one, get_one]
  show (p ∈ [] ∨ unl (if pA = p then some fX else none) (if pA = p then some fY else none) ≠ 32) ↔ p = pA
  by_cases h : pA = p
  · rw [if_pos h, if_pos h]
    have : unl (some fX) (some fY) ≠ 32 := by decide
    exact ⟨fun _ => h.symm, fun _ => .inr this⟩
  · rw [if_neg h, if_neg h]
    constructor
    · rintro (h1 | h1)
      · cases h1
      · exact absurd (unl_same none) h1
    · intro e; exact absurd e.symm h
theorem kn_touched : touchedV [] [fX] [fY] = [pA] := by
  unfold touchedV
  refine nrm_of (List.pairwise_singleton _ _) fun s => ?_
  have := @kn_touch s
  unfold touchedV at this
  rw [nrm_mem] at this
  rw [this, List.mem_singleton]
theorem kn_stage : stageE [toE fX] 0 = [fX] := stage_of [fX]
theorem kn_conf : nrm (confE [toE fX]) = [] := by rw [show [toE fX] = [fX].map toE from rfl, conf_of, nrm_none]
theorem chk_one : chkF [fX] = none ∧ chkF [fY] = none := by constructor <;> decide
theorem kn_lost1 : lostV [fX] [fY] [] [toE fX] [fX] = [] := lost_clean chk_one.1 chk_one.2
theorem kn_lost2 : lostV [fX] [fY] [] [toE fX] [fZ] ≠ [] := by
  intro h
  have : pA ∈ lostV [fX] [fY] [] [toE fX] [fZ] := by
    unfold lostV
    rw [nrm_mem, List.mem_append]
    refine .inl (List.mem_filter.2 ⟨kn_touch.2 rfl, ?_⟩)
    rw [kn_stage]
    have : unlikeV [fX] [fZ] pA = true := by decide
    rw [this]; simp
  rw [h] at this; cases this
theorem kn_lost3 : lostV [fX] [fY] [] [toE fX] [] = [pA] := by
  unfold lostV
  rw [kn_touched, kn_stage, kn_conf]
  refine nrm_of (List.pairwise_singleton _ _) fun s => ?_
  have : unlikeV [fX] [] pA = true := by decide
  simp [this]
theorem kn_ix : putG [fY] [] [] (touchedV [] [fX] [fY]) (dropI (touchedV [] [fX] [fY]) [toE fX]) = [toE fY] := by
  rw [putG_none]
  exact index_clean (a := [fX]) (b := [fY]) (rise_one _) (rise_one _) (chkF_apart chk_one.2)
theorem kn_wk : putV [fY] (touchedV [] [fX] [fY]) (cutV [fY] (touchedV [] [fX] [fY]) [fX]) = [fY] := work_clean (rise_one _) (rise_one _)
theorem kn_force : forceV [fX] [] [toE fX] [fX] = [] := force_clean (a := [fX]) (b := []) (rise_one _) List.Pairwise.nil
theorem kn_size : SizedS (touchedV [] [fX] [fY]) := touched_sized (fun _ h => by cases h) (sized_one (by decide)) (sized_one (by decide))
theorem strs_none (w : World) : Strs w (.slice none 0 0) [] := Strs.nil w
theorem ents_none (w : World) : Reads 6 cE w (.slice none 0 0) [] := Reads.nil w

/-- What the calls of known need of their world. -/
theorem kn_apply (W : World) (vh vt u k : Value) (wk : List Fl) (h1 : Reads 3 cF W vh [fX]) (h2 : Reads 3 cF W vt [fY]) (h3 : Reads 6 cE W u [toE fX]) (h4 : Reads 3 cF W k wk) (hr : RiseF wk) (hs : Sized wk) (hl : wk.length ≤ 80) :
    Calls Tryz.prog 12 #[vh, .agg #[vt, .slice none 0 0, .slice none 0 0], u, k] W (ApplyTo [fX] [fY] [] [] [toE fX] wk W) :=
  apply_any W vh vt _ _ u k [fX] [fY] wk [] [] [toE fX] h1 h2 (ents_none W) (strs_none W) h3 h4 (rise_one _) (rise_one _) (riseE_one _) hr (by simp) (by simp) (by simp) (by simp) (by simp) hl kn_size hs (sized_one (by decide)) (fun _ h => by cases h) (sizedE_one (by decide))
theorem kn_lostC (W : World) (vh vt u : Value) (h1 : Reads 3 cF W vh [fX]) (h2 : Reads 3 cF W vt [fY]) (h3 : Reads 6 cE W u [toE fX]) :
    Calls Tryz.prog 15 #[vh, .agg #[vt, .slice none 0 0, .slice none 0 0], u, .slice none 0 0] W (TextsTo [pA] W) := by
  have := lost_any W vh vt (.slice none 0 0) _ u _ [fX] [fY] [] [] [toE fX] h1 h2 (strs_none W) h3 (Reads.nil W) (rise_one _) (rise_one _) (riseE_one _) List.Pairwise.nil (by simp) (by simp) (by simp) (by simp) (by simp) kn_size (fun _ h => by cases h)
  rw [kn_lost3] at this
  exact this
theorem kn_forceC (W : World) (vh u : Value) (h1 : Reads 3 cF W vh [fX]) (h3 : Reads 6 cE W u [toE fX]) :
    Calls Tryz.prog 24 #[vh, .slice none 0 0, u, vh] W (ForceTo [fX] [] [toE fX] [fX] W) :=
  force_any W vh _ u vh [fX] [] [fX] [toE fX] h1 (Reads.nil W) h3 h1 (rise_one _) (by simp) (by simp) (by simp) (by simp) (sized_one (by decide)) (fun _ h => by cases h)
def Tup1 (w : World) (e : Ending) (w' : World) : Prop := ∃ u1 u2 : Value, e = .returned (.tuple #[u1, u2, .nilIface]) ∧ Reads 6 cE w' u1 [toE fY] ∧ Reads 3 cF w' u2 [fY] ∧ Below w.heap.size w w'
theorem kn_apply1 (W : World) (vh vt u : Value) (h1 : Reads 3 cF W vh [fX]) (h2 : Reads 3 cF W vt [fY]) (h3 : Reads 6 cE W u [toE fX]) :
    Calls Tryz.prog 12 #[vh, .agg #[vt, .slice none 0 0, .slice none 0 0], u, vh] W (Tup1 W) :=
  (kn_apply W vh vt u vh [fX] h1 h2 h3 h1 (rise_one _) (sized_one (by decide)) (by simp)).mono fun e w' h => by
    rcases h with ⟨h, _⟩ | ⟨_, u1, u2, he, r1, r2, b⟩
    · exact absurd kn_lost1 h
    · rw [kn_ix] at r1
      rw [kn_wk] at r2
      exact ⟨u1, u2, he, r1, r2, b⟩
def Tup2 (w : World) (e : Ending) (w' : World) : Prop := ∃ (u1 u2 : Value) (F : Nat), e = .returned (.tuple #[u1, u2, .iface 77 (.pointer (some ⟨F, 0, none⟩))]) ∧ Below w.heap.size w w'
theorem kn_apply2 (W : World) (vh vt u k : Value) (h1 : Reads 3 cF W vh [fX]) (h2 : Reads 3 cF W vt [fY]) (h3 : Reads 6 cE W u [toE fX]) (h4 : Reads 3 cF W k [fZ]) :
    Calls Tryz.prog 12 #[vh, .agg #[vt, .slice none 0 0, .slice none 0 0], u, k] W (Tup2 W) :=
  (kn_apply W vh vt u k [fZ] h1 h2 h3 h4 (rise_one _) (sized_one (by decide)) (by simp)).mono fun e w' h => by
    rcases h with ⟨_, u1, u2, F, he, _, _, b⟩ | ⟨h, _⟩
    · exact ⟨u1, u2, F, he, b⟩
    · exact absurd h kn_lost2
theorem kn_of (W : World) (vh : Value) (h1 : Reads 3 cF W vh [fX]) : Calls Tryz.prog 27 #[vh] W (OwnTo 69 6 cE [toE fX] W) := of_any W vh [fX] h1 (by simp)
end Go.Proofs.YtdmmjfmjohliiaaGreatDoor
namespace Go.Proofs.YtdmmjfmjohliiaaGreatDoor
open Go Go.RowKit

def YesTo (w : World) (e : Ending) (w' : World) : Prop := e = .returned (.bool true) ∧ Below w.heap.size w w'
set_option maxRecDepth 100000 in
set_option maxHeartbeats 8000000 in
theorem known20_yes (w : World) : Calls Tryz.prog 7 #[] w (YesTo w) := by
  obtain ⟨G, hG⟩ : ∃ g, g = w.heap.size := ⟨_, rfl⟩
  obtain ⟨G1, hG1⟩ : ∃ g, g = G + 1 := ⟨_, rfl⟩
  obtain ⟨G2, hG2⟩ : ∃ g, g = G + 2 := ⟨_, rfl⟩
  obtain ⟨W0, hW0⟩ : ∃ W0, W0 = ((w.alloc (.cells #[.string ⟨#[97]⟩, .int .i64 1, .string ⟨#[120]⟩] 56)).alloc (.cells #[.string ⟨#[97]⟩, .int .i64 1, .string ⟨#[121]⟩] 56)).alloc (.cells #[.slice (some ⟨G1, 0, none⟩) 1 1, .slice none 0 0, .slice none 0 0] 27) := ⟨_, rfl⟩
  have B0 : Below w.heap.size w W0 := by rw [hW0]; exact (((Below.refl _ _).alloc (Nat.le_refl _) _).alloc (by simp) _).alloc (by simp; omega) _
  have hv : Reads 3 cF W0 (.slice (some ⟨G, 0, none⟩) 1 1) [fX] := by
    rw [hW0, hG]
    exact ((reads_file w fX).alloc _).alloc _
  have tv : Reads 3 cF W0 (.slice (some ⟨G1, 0, none⟩) 1 1) [fY] := by
    have := (reads_file (w.alloc (.cells #[.string ⟨#[97]⟩, .int .i64 1, .string ⟨#[120]⟩] 56)) fY)
    rw [World.size_alloc, ← hG, ← hG1] at this
    rw [hW0]
    exact this.alloc _
  have k2 : W0.heap[G2]? = some (.cells #[.slice (some ⟨G1, 0, none⟩) 1 1, .slice none 0 0, .slice none 0 0] 27 (0, 0)) := by
    have := heap_alloc_new ((w.alloc (.cells #[.string ⟨#[97]⟩, .int .i64 1, .string ⟨#[120]⟩] 56)).alloc (.cells #[.string ⟨#[97]⟩, .int .i64 1, .string ⟨#[121]⟩] 56)) (.cells #[.slice (some ⟨G1, 0, none⟩) 1 1, .slice none 0 0, .slice none 0 0] 27)
    rw [World.size_alloc, World.size_alloc, ← hG] at this
    rw [hW0, hG2]
    exact this
  have lg2 : G2 < W0.heap.size := (Array.getElem?_eq_some_iff.1 k2).1
  have ZZ := Lib.hid fun W (hW : Below W0.heap.size W0 W) => (show W.cell? ⟨G2, 0, none⟩ = some (.slice (some ⟨G1, 0, none⟩) 1 1) ∧ W.cell? ⟨G2, 1, none⟩ = some (.slice none 0 0) ∧ W.cell? ⟨G2, 2, none⟩ = some (.slice none 0 0) from
    ⟨cell_of_row W G2 0 _ 27 (0, 0) ((hW.block G2 lg2).trans k2), cell_of_row W G2 1 _ 27 (0, 0) ((hW.block G2 lg2).trans k2), cell_of_row W G2 2 _ 27 (0, 0) ((hW.block G2 lg2).trans k2)⟩)
  have OF := Lib.hid fun W (hW : Below W0.heap.size W0 W) => kn_of W _ (hv.below hW)
  have AP := Lib.hid fun W (hW : Below W0.heap.size W0 W) u (h : Reads 6 cE W u [toE fX]) => kn_apply1 W _ _ u (hv.below hW) (tv.below hW) h
  have AQ := Lib.hid fun W (hW : Below W0.heap.size W0 W) u (h : Reads 6 cE W u [toE fX]) k (g : Reads 3 cF W k [fZ]) => kn_apply2 W _ _ u k (hv.below hW) (tv.below hW) h g
  have LO := Lib.hid fun W (hW : Below W0.heap.size W0 W) u (h : Reads 6 cE W u [toE fX]) => kn_lostC W _ _ u (hv.below hW) (tv.below hW) h
  have FO := Lib.hid fun W (hW : Below W0.heap.size W0 W) u (h : Reads 6 cE W u [toE fX]) => kn_forceC W _ u (hv.below hW) h
  have HV := Lib.hid hv
  have HB0 := Lib.hid B0
  have HG := Lib.hid hG
  have HG1 := Lib.hid hG1
  have HG2 := Lib.hid hG2
  have e1 := Lib.hid (show w.heap.size + 1 = G1 by rw [hG1, hG])
  have e2 := Lib.hid (show w.heap.size + 1 + 1 = G2 by rw [hG2, hG])
  clear hv tv k2 B0 hG hG1 hG2
  go_enter Tryz.func7, Tryz.ntmps7
  go_upto_region 3 with fail
  rw [e2.out, e1.out, ← hW0, ← HG.out]
  clear hW0
  have z0 := ZZ.out W0 (Below.refl _ _)
  have d0 : Below W0.heap.size W0 W0.drew := (Below.refl _ _).drew
  go_region_held3 (fun w' => w'.cell? ⟨G2, 0, none⟩ = some (.slice (some ⟨G1, 0, none⟩) 1 1) ∧ w'.cell? ⟨G2, 1, none⟩ = some (.slice none 0 0) ∧ w'.cell? ⟨G2, 2, none⟩ = some (.slice none 0 0)) (first | exact z0 | exact z7 | exact z5)
    (first
      | (go_at_call 12; refine (AP.out _ b6 _ r5).mono ?_; rintro e w7 ⟨u1, u2, rfl, r1, r2, b7⟩; have b8 := Below.trans b6 (Below.mono b7 (Below.size b6)); have z7 := ZZ.out _ b8)
      | (go_at_call 27; refine (OF.out _ d0).mono ?_; rintro e w5 ⟨v5, rfl, o5, b5⟩; have b6 := Below.trans d0 (Below.mono b5 (Below.size d0)); have z5 := ZZ.out _ b6; have r5 := Reads.of_own cE_len o5))
  have HR1 := Lib.hid r1
  have HR2 := Lib.hid r2
  have B8 := Lib.hid b8
  clear o5 b5 b6 b7 b8 r5 z5 z7 r1 r2 z0 d0 AP
  obtain ⟨A1, c1, rfl⟩ := HR1.out.form
  obtain ⟨A2, c2, rfl⟩ := HR2.out.form
  go_upto_region 4 with fail
  have z0 := ZZ.out w7 B8.out
  have d0 : Below W0.heap.size W0 w7.drew := B8.out.drew
  have dA : Below W0.heap.size W0 (w7.alloc (.cells #[.string ⟨#[97]⟩, .int .i64 1, .string ⟨#[122]⟩] 56)).drew := (B8.out.alloc B8.out.size _).drew
  have kz : Reads 3 cF (w7.alloc (.cells #[.string ⟨#[97]⟩, .int .i64 1, .string ⟨#[122]⟩] 56)).drew (.slice (some ⟨w7.heap.size, 0, none⟩) 1 1) [fZ] := reads_file w7 fZ
  go_cut [6, 7, 8] (fun z6 z7 z8 wx => ∃ (u1 u2 : Value) (F : Nat), z6 = u1 ∧ z7 = u2 ∧ z8 = .iface 77 (.pointer (some ⟨F, 0, none⟩)) ∧ Below W0.heap.size W0 wx ∧ Below w7.heap.size w7 wx)
  case first =>
    go_region_held3 (fun w' => w'.cell? ⟨G2, 0, none⟩ = some (.slice (some ⟨G1, 0, none⟩) 1 1) ∧ w'.cell? ⟨G2, 1, none⟩ = some (.slice none 0 0) ∧ w'.cell? ⟨G2, 2, none⟩ = some (.slice none 0 0)) (first | exact z0 | exact z9 | exact z5 | exact ZZ.out _ d0 | exact ZZ.out _ dA | exact ZZ.out _ (Below.alloc b6 (Below.size b6) _) | exact ZZ.out _ (Below.drew (Below.alloc b6 (Below.size b6) _)))
      (first
        | (go_at_call 12; (first | refine (AQ.out _ b6 _ r5 _ k5).mono ?_ | refine (AQ.out _ (Below.alloc b6 (Below.size b6) (.cells #[.string ⟨#[97]⟩, .int .i64 1, .string ⟨#[122]⟩] 56)) _ (Reads.alloc r5 _) _ (reads_file w5 fZ)).mono ?_ | refine (AQ.out _ (Below.drew (Below.alloc b6 (Below.size b6) (.cells #[.string ⟨#[97]⟩, .int .i64 1, .string ⟨#[122]⟩] 56))) _ (Reads.alloc r5 _) _ (reads_file w5 fZ)).mono ?_); rintro e w9 ⟨u1, u2, F, rfl, b9⟩; have b10 := (Below.trans (by first | exact b6 | exact Below.alloc b6 (Below.size b6) (.cells #[.string ⟨#[97]⟩, .int .i64 1, .string ⟨#[122]⟩] 56) | exact Below.drew (Below.alloc b6 (Below.size b6) (.cells #[.string ⟨#[97]⟩, .int .i64 1, .string ⟨#[122]⟩] 56))) (Below.mono b9 (by first | exact Below.size b6 | (have := Below.size b6; simp; omega)))); have z9 := ZZ.out _ b10)
        | (go_at_call 27; refine (OF.out _ d0).mono ?_; rintro e w5 ⟨v5, rfl, o5, b5⟩; have b6 := Below.trans d0 (Below.mono b5 (Below.size d0)); have z5 := ZZ.out _ b6; have r5 := Reads.of_own cE_len o5; have q5 : Below w7.heap.size w7 w5 := Below.trans (Below.drew (Below.refl _ _)) b5)
        | (go_at_call 27; refine (OF.out _ dA).mono ?_; rintro e w5 ⟨v5, rfl, o5, b5⟩; have b6 := Below.trans dA (Below.mono b5 (Below.size dA)); have z5 := ZZ.out _ b6; have r5 := Reads.of_own cE_len o5; have k5 := Reads.below kz b5; have q5 : Below w7.heap.size w7 w5 := Below.trans (Below.drew (Below.alloc (Below.refl _ _) (Nat.le_refl _) (.cells #[.string ⟨#[97]⟩, .int .i64 1, .string ⟨#[122]⟩] 56))) (Below.mono b5 (by simp))))
    all_goals (go_wp2_with fail; go_meet)
    all_goals first
      | exact ⟨u1, u2, F, rfl, rfl, rfl, b10, q5.trans (b9.mono q5.size)⟩
      | exact ⟨u1, u2, F, rfl, rfl, rfl, b10, (q5.alloc q5.size (.cells #[.string ⟨#[97]⟩, .int .i64 1, .string ⟨#[122]⟩] 56)).trans (b9.mono (by have := q5.size; simp; omega))⟩
  case rest =>
    obtain ⟨v1, v2, F, rfl, rfl, rfl, bW, bX⟩ := hcut
    have R1 := Lib.hid (HR1.out.below bX)
    have R2 := Lib.hid (HR2.out.below bX)
    have BW := Lib.hid bW
    clear bX z0 d0 dA kz HR1 HR2 B8 AQ bW
    go_upto_region 5 with fail
    have z0 := ZZ.out wc BW.out
    have d0 : Below W0.heap.size W0 wc.drew := BW.out.drew
    go_cut [9] (fun z9 wx => ∃ (A : Option Addr) (c : Nat), z9 = .slice A 1 c ∧ Below W0.heap.size W0 wx ∧ Below wc.heap.size wc wx)
    case first =>
      go_region_held3 (fun w' => w'.cell? ⟨G2, 0, none⟩ = some (.slice (some ⟨G1, 0, none⟩) 1 1) ∧ w'.cell? ⟨G2, 1, none⟩ = some (.slice none 0 0) ∧ w'.cell? ⟨G2, 2, none⟩ = some (.slice none 0 0)) (first | exact z0 | exact z9 | exact z5 | exact ZZ.out _ d0)
        (first
          | (go_at_call 15; refine (LO.out _ b6 _ r5).mono ?_; rintro e w9 ⟨u1, rfl, o9, b9⟩; have b10 := Below.trans b6 (Below.mono b9 (Below.size b6)); have z9 := ZZ.out _ b10; obtain ⟨A, c, rfl⟩ := own_form o9)
          | (go_at_call 27; refine (OF.out _ d0).mono ?_; rintro e w5 ⟨v5, rfl, o5, b5⟩; have b6 := Below.trans d0 (Below.mono b5 (Below.size d0)); have z5 := ZZ.out _ b6; have r5 := Reads.of_own cE_len o5; have q5 : Below wc.heap.size wc w5 := Below.trans (Below.drew (Below.refl _ _)) b5))
      all_goals (go_wp2_with fail; go_meet)
      all_goals exact ⟨_, _, rfl, b10, q5.trans (b9.mono q5.size)⟩
    case rest =>
      obtain ⟨A3, c3, rfl, bW, bX⟩ := hcut
      have R3 := Lib.hid (R1.out.below bX)
      have R4 := Lib.hid (R2.out.below bX)
      have OF1 := Lib.hid (OF.out wc bW)
      have BW2 := Lib.hid bW
      clear bX z0 d0 R1 R2 BW bW LO OF
      go_wp2_with fail
      refine OF1.out.mono ?_
      rintro e w9 ⟨v9, rfl, o9, b9⟩
      have R5 := Lib.hid (R3.out.below b9)
      have R6 := Lib.hid (R4.out.below b9)
      have BW3 := Lib.hid (BW2.out.trans (b9.mono BW2.out.size))
      have FO1 := Lib.hid (FO.out w9 BW3.out _ (Reads.of_own cE_len o9))
      obtain ⟨A9, c9, rfl⟩ := own_form o9
      clear o9 b9 R3 R4 OF1 FO
      go_wp2_with fail
      refine FO1.out.mono ?_
      rintro e w10 ⟨u1, u2, rfl, r1, r2, b10⟩
      rw [kn_force] at r2
      obtain ⟨A10, c10, rfl⟩ := r1.form
      obtain ⟨A11, c11, rfl⟩ := r2.form
      have R7 := Lib.hid (R5.out.below b10)
      have R8 := Lib.hid (R6.out.below b10)
      have BW4 := Lib.hid (HB0.out.trans ((BW3.out.trans (b10.mono BW3.out.size)).mono HB0.out.size))
      clear r1 r2 b10 FO1 R5 R6
      obtain ⟨adI, rfl, i0, i1, i2, i3, i4, i5⟩ := Ents.at_ R7.out (i := 0) (e := toE fY) rfl
      obtain ⟨adF, rfl, f0, f1, f2⟩ := Fils.at_ R8.out (i := 0) (f := fY) rfl
      have hn1 := R7.out.len
      have hn2 := R8.out.len
      have ha : ∀ a : Addr, a.add (0 * 6) = a := fun a => by unfold Addr.add; simp
      have hb : ∀ a : Addr, a.add (0 * 3) = a := fun a => by unfold Addr.add; simp
      rw [ha] at i3
      rw [hb] at f2
      have j3 : w10.cell? ⟨adI.block, adI.off + 3, none⟩ = some (.string ⟨#[121]⟩) := i3
      have g2 : w10.cell? ⟨adF.block, adF.off + 2, none⟩ = some (.string ⟨#[121]⟩) := f2
      clear i0 i1 i2 i3 i4 i5 f0 f1 f2 ha hb
      go_wp2_with fail
      go_ret
      exact ⟨rfl, BW4.out⟩
end Go.Proofs.YtdmmjfmjohliiaaGreatDoor
namespace Go.Proofs.YtdmmjfmjohliiaaGreatDoor
open Go.RowKit

def FewToF (l : List Fl) (w : World) (e : Ending) (w' : World) : Prop := ∃ b : Bool, e = .returned (.bool b) ∧ (b = true → l.length ≤ 80 ∧ ∀ x ∈ l, x.1.size ≤ 100 ∧ x.2.2.size ≤ 5000) ∧ ∃ q, w' = w.drewN q
set_option maxHeartbeats 4000000 in
theorem fewF_any (w : World) (v : Value) (l : List Fl) (h : Reads 3 cF w v l) : Calls Tryz.prog 28 #[v] w (FewToF l w) := by
  obtain ⟨A, c, rfl⟩ := h.form
  have hn := h.len
  have hnm : l.length ≤ 9223372036854775807 := by have := hn.2; unfold maxLen at this; omega
  have HO := Lib.hid h
  clear h hn
  by_cases hbig : 80 < l.length
  · have hb : (80 : Int) < (l.length : Int) := by omega
    go_enter Tryz.func28, Tryz.ntmps28
    go_wp2
    go_ret
    exact ⟨false, rfl, (fun h => by cases h), 0, rfl⟩
  · have hb : ¬ (80 : Int) < (l.length : Int) := by omega
    have HB := Lib.hid hbig
    go_enter Tryz.func28, Tryz.ntmps28
    go_wp2
    go_loopw [3] (fun s3 wr => ∃ k : Nat, k ≤ l.length ∧ s3 = .int .i64 k ∧ Hid (∀ x ∈ l.take k, x.1.size ≤ 100 ∧ x.2.2.size ≤ 5000) ∧ SameW wr w) (fun s3 _ => l.length - (intOf s3).toNat)
    case atStart => exact ⟨0, Nat.zero_le _, rfl, Lib.hid (fun x hx => by simp at hx), rfl⟩
    case round =>
      obtain ⟨k, hk, rfl, hp, hw⟩ := hrel
      unfold SameW at hw
      subst hw
      by_cases hlt : k < l.length
      · obtain ⟨x, hx⟩ : ∃ x, l[k]? = some x := ⟨_, List.getElem?_eq_getElem hlt⟩
        obtain ⟨ad, rfl, c0, c1, c2⟩ := Fils.at_ HO.out hx
        have HT := Lib.hid (take_snoc hx)
        obtain ⟨p, m, d⟩ := x
        have k0 : (0 : Int) ≤ (k : Int) := Int.natCast_nonneg _
        have k1 : (k : Int) < (l.length : Int) := by omega
        clear hx
        by_cases h1 : 100 < p.size
        · have h1' : (100 : Int) < (p.size : Int) := by omega
          go_wp2
          go_ret
          exact ⟨false, rfl, (fun h => by cases h), 0, rfl⟩
        · have h1' : ¬ (100 : Int) < (p.size : Int) := by omega
          by_cases h2 : 5000 < d.size
          · have h2' : (5000 : Int) < (d.size : Int) := by omega
            go_wp2
            go_ret
            exact ⟨false, rfl, (fun h => by cases h), 0, rfl⟩
          · have h2' : ¬ (5000 : Int) < (d.size : Int) := by omega
            have HP : Hid (∀ x ∈ l.take (k + 1), x.1.size ≤ 100 ∧ x.2.2.size ≤ 5000) := Lib.hid (by
              rw [HT.out]
              intro x hx
              rcases List.mem_append.1 hx with hx | hx
              · exact hp.out x hx
              · rw [List.mem_singleton.1 hx]; exact ⟨Nat.not_lt.1 h1, Nat.not_lt.1 h2⟩)
            go_wp2
            go_roundw
            case rel => exact ⟨k + 1, by omega, by go_num, HP, rfl⟩
            case measure => simp [intOf]; omega
      · obtain rfl : k = l.length := by omega
        have HP := Lib.hid (show ∀ x ∈ l, x.1.size ≤ 100 ∧ x.2.2.size ≤ 5000 by have := hp.out; rw [List.take_length] at this; exact this)
        go_wp2
        go_ret
        exact ⟨true, rfl, fun _ => ⟨Nat.not_lt.1 HB.out, HP.out⟩, 0, rfl⟩

end Go.Proofs.YtdmmjfmjohliiaaGreatDoor
namespace Go.Proofs.YtdmmjfmjohliiaaGreatDoor
open Go Go.RowKit

theorem refEntryInfo : (Tryz.prog.info? 74).map (fun i => (i.zero, i.size, i.bytes)) = some (some (.agg #[.string ⟨#[]⟩, .int .i64 0, .int .i64 0, .string ⟨#[]⟩, .int .i64 0, .int .i64 0]), 6, 64) := by kernel_rfl
set_option maxHeartbeats 2000000 in
theorem ofE_any (w : World) (v : Value) (l : List En) (h : Reads 6 cE w v l) (hl : l.length ≤ 100000) :
    Calls Tryz.prog 11 #[v] w (OwnTo 74 6 cE l w) := by
  obtain ⟨A, c, rfl⟩ := h.form
  have hn := h.len
  have hnm : l.length ≤ 9223372036854775807 := by omega
  have HO := Lib.hid h
  obtain ⟨i0, hi, hz0, hz1, hz2⟩ := info_parts refEntryInfo
  clear h hn
  go_enter Tryz.func11, Tryz.ntmps11
  go_wp2
  go_loopw [3, 4] (fun s3 s4 wr => ∃ i : Nat, i ≤ l.length ∧ s4 = .int .i64 i ∧ Hid (wr.ownsRow w.heap.size 74 6 s3 i ((l.take i).flatMap cE)) ∧ Below w.heap.size w wr) (fun _ s4 _ => l.length - (intOf s4).toNat)
  case atStart => exact ⟨0, Nat.zero_le _, rfl, Lib.hid (World.ownsRow_nil _ _ _ _), Below.refl _ _⟩
  case round =>
    obtain ⟨i, hil, rfl, hown, hb⟩ := hrel
    by_cases hlt : i < l.length
    · obtain ⟨e, he⟩ : ∃ e, l[i]? = some e := ⟨_, List.getElem?_eq_getElem hlt⟩
      obtain ⟨ad, rfl, c0, c1, c2, c3, c4, c5⟩ := Ents.at_ (HO.out.below hb) he
      obtain ⟨p, st, m, d, tm, sz⟩ := e
      have HF := Lib.hid he
      have i0' : (0 : Int) ≤ (i : Int) := Int.natCast_nonneg _
      have hi1 : (i : Int) < (l.length : Int) := by omega
      have hcl := World.block_lt_of_cell? _ _ c0
      have hsz := hb.size
      have hown4 := ((hown.out.alloc (.cells #[.string p, .int .i64 st, .int .i64 m, .string d, .int .i64 tm, .int .i64 sz] 69)).alloc (.cells #[.string p, .int .i64 st, .int .i64 m, .string d, .int .i64 tm, .int .i64 sz] 74))
      have hnews := news_one (wr.alloc (.cells #[.string p, .int .i64 st, .int .i64 m, .string d, .int .i64 tm, .int .i64 sz] 69)) #[.string p, .int .i64 st, .int .i64 m, .string d, .int .i64 tm, .int .i64 sz] 74 (wr.heap.size + 1) (by simp)
      clear he
      go_wp2_with (at_builtin; refine wpList_append_own _ rfl _ _ 32 rfl w.heap.size 74 i0 (.agg #[.string ⟨#[]⟩, .int .i64 0, .int .i64 0, .string ⟨#[]⟩, .int .i64 0, .int .i64 0]) 6 64 Tryz.underlying32 hi hz0 hz1 hz2 rfl (by decide) _ _ _ rfl hown4 ⟨wr.heap.size + 1, 0, none⟩ 1 1 [.string p, .int .i64 st, .int .i64 m, .string d, .int .i64 tm, .int .i64 sz] rfl rfl hnews (by simp [Value.oneCell']) (by unfold maxLen; omega) (by omega) (by simp; omega) ?_; intro v5 w5 hown5 hg5 _)
      have hb5 : Below w.heap.size w w5 := ((hb.alloc hsz _).alloc (by simp; omega) _).grown hg5 (by simp; omega) (fun k hk => (hown.out.lt k hk).1)
      clear hnews hown4 hg5
      go_roundw
      case rel => exact ⟨i + 1, by omega, by go_num, Lib.hid (by rw [take_snoc HF.out, flat_snoc]; exact hown5), hb5⟩
      case measure => simp [intOf]; omega
    · obtain rfl : i = l.length := by omega
      have HL : Hid ((l.take l.length).flatMap cE = l.flatMap cE) := Lib.hid (by rw [List.take_length])
      go_wp2
      go_ret
      exact ⟨_, rfl, by rw [← HL.out]; exact hown.out, hb⟩
end Go.Proofs.YtdmmjfmjohliiaaGreatDoor
namespace Go.Proofs.YtdmmjfmjohliiaaGreatDoor
open Go Go.RowKit

theorem prefixE {a b : List En} {k : Nat} (h : ∀ i, i < k → a[i]? = b[i]?) (h1 : k = a.length) (h2 : k = b.length) : a = b := List.ext_getElem? fun i => by
  rcases Nat.lt_or_ge i k with hi | hi
  · exact h i hi
  · rw [List.getElem?_eq_none (by omega), List.getElem?_eq_none (by omega)]
set_option maxRecDepth 100000 in
set_option maxHeartbeats 4000000 in
theorem allE_any (w : World) (v u : Value) (a b : List En) (h : Reads 6 cE w v a) (g : Reads 6 cE w u b) (hl : a.length ≤ 100000) :
    Calls Tryz.prog 18 #[v, u] w (FlagE (decide (a = b)) w) := by
  have OF := Lib.hid (ofE_any w v a h hl)
  obtain ⟨A, c, rfl⟩ := h.form
  obtain ⟨B, d, rfl⟩ := g.form
  have gn := g.len
  have hm2 : b.length ≤ 9223372036854775807 := by have := gn.2; unfold maxLen at this; omega
  have HB := Lib.hid g
  clear h g gn
  go_enter Tryz.func18, Tryz.ntmps18
  go_wp2_with fail
  refine OF.out.mono ?_
  rintro e w1 ⟨v1, rfl, o1, b1⟩
  have HA := Lib.hid (Reads.of_own cE_len o1)
  have HU := Lib.hid (HB.out.below b1)
  have B1 := Lib.hid b1
  obtain ⟨A1, c1, rfl⟩ := own_form o1
  clear o1 b1 OF HB
  by_cases hnm : a.length = b.length
  · have hi0 : ((a.length : Int) != (b.length : Int)) = false := by simp [hnm]
    have HN := Lib.hid hnm
    clear hnm
    go_wp2_with fail
    go_loopw [6] (fun s6 wr => ∃ k q : Nat, k ≤ a.length ∧ s6 = .int .i64 k ∧ Hid (∀ i, i < k → a[i]? = b[i]?) ∧ wr = w1.drewN q) (fun s6 _ => a.length - (intOf s6).toNat)
    case atStart => exact ⟨0, 0, Nat.zero_le _, rfl, Lib.hid (fun i hi => absurd hi (Nat.not_lt_zero _)), rfl⟩
    case round =>
      obtain ⟨k, q, hk, rfl, hp, rfl⟩ := hrel
      by_cases hlt : k < a.length
      · obtain ⟨x, hx⟩ : ∃ x, a[k]? = some x := ⟨_, List.getElem?_eq_getElem hlt⟩
        obtain ⟨y, hy⟩ : ∃ y, b[k]? = some y := ⟨_, List.getElem?_eq_getElem (by rw [← HN.out]; exact hlt)⟩
        obtain ⟨ad, rfl, c0, c1, c2, c3, c4, c5⟩ := Ents.at_ HA.out hx
        obtain ⟨ad2, rfl, d0, d1, d2, d3, d4, d5⟩ := Ents.at_ HU.out hy
        have HX := Lib.hid hx
        have HY := Lib.hid hy
        have k0 : (0 : Int) ≤ (k : Int) := Int.natCast_nonneg _
        have k1 : (k : Int) < (a.length : Int) := by omega
        have k2 : (k : Int) < (b.length : Int) := by have := HN.out; omega
        have HNE := Lib.hid (show x ≠ y → decide (a = b) = false from fun hne => decide_eq_false fun e => by
          rw [e, hy] at hx
          exact hne (Option.some.inj hx).symm)
        clear hx hy
        by_cases hxy : x = y
        · subst hxy
          obtain ⟨p, st, m, d, t, z⟩ := x
          go_wp2_with fail
          go_quiet (fail)
          go_wp2
          go_roundw
          case rel => exact ⟨k + 1, _, by omega, by go_num, Lib.hid (fun i hi => by
            rcases Nat.lt_or_ge i k with h1 | h1
            · exact hp.out i h1
            · obtain rfl : i = k := by omega
              rw [HX.out, HY.out]), rfl⟩
          case measure => simp [intOf]; omega
        · have HC := Lib.hid (HNE.out hxy)
          obtain ⟨p, st, m, d, t, z⟩ := x
          obtain ⟨p', st', m', d', t', z'⟩ := y
          by_cases hf : p = p'
          · subst hf
            by_cases hf : st = st'
            · subst hf
              by_cases hf : m = m'
              · subst hf
                by_cases hf : d = d'
                · subst hf
                  by_cases hf : t = t'
                  · subst hf
                    have hf : ¬ z = z' := fun e => hxy (by rw [e])
                    have e1 : (z == z') = false := by simpa using hf
                    clear hxy
                    go_wp2_with fail
                    go_quiet (fail)
                    go_wp2
                    go_ret
                    exact ⟨ret_b HC.out.symm, below_drewN (below_drewN B1.out _) _⟩
                  · have e1 : (t == t') = false := by simpa using hf
                    clear hxy
                    go_wp2_with fail
                    go_quiet (fail)
                    go_wp2
                    go_ret
                    exact ⟨ret_b HC.out.symm, below_drewN (below_drewN B1.out _) _⟩
                · have e1 : ¬ d.toList = d'.toList := fun e => hf (tl_eq e)
                  have e1' : (d.toList == d'.toList) = false := by simpa using e1
                  clear hf
                  clear hxy
                  go_wp2_with fail
                  go_quiet (fail)
                  go_wp2
                  go_ret
                  exact ⟨ret_b HC.out.symm, below_drewN (below_drewN B1.out _) _⟩
              · have e1 : (m == m') = false := by simpa using hf
                clear hxy
                go_wp2_with fail
                go_quiet (fail)
                go_wp2
                go_ret
                exact ⟨ret_b HC.out.symm, below_drewN (below_drewN B1.out _) _⟩
            · have e1 : (st == st') = false := by simpa using hf
              clear hxy
              go_wp2_with fail
              go_quiet (fail)
              go_wp2
              go_ret
              exact ⟨ret_b HC.out.symm, below_drewN (below_drewN B1.out _) _⟩
          · have e1 : ¬ p.toList = p'.toList := fun e => hf (tl_eq e)
            have e1' : (p.toList == p'.toList) = false := by simpa using e1
            clear hf
            clear hxy
            go_wp2_with fail
            go_quiet (fail)
            go_wp2
            go_ret
            exact ⟨ret_b HC.out.symm, below_drewN (below_drewN B1.out _) _⟩
      · obtain rfl : k = a.length := by omega
        have HC : Hid (decide (a = b) = true) := Lib.hid (decide_eq_true (prefixE hp.out rfl HN.out))
        go_wp2
        go_ret
        exact ⟨ret_b HC.out.symm, below_drewN B1.out _⟩
  · have hi0 : ((a.length : Int) != (b.length : Int)) = true := by simp; omega
    have hi1 : ¬ (a.length : Int) = (b.length : Int) := by omega
    have HC : Hid (decide (a = b) = false) := Lib.hid (decide_eq_false fun e => hnm (by rw [e]))
    clear hnm
    go_wp2_with fail
    go_ret
    exact ⟨ret_b HC.out.symm, B1.out⟩
end Go.Proofs.YtdmmjfmjohliiaaGreatDoor
namespace Go.Proofs.YtdmmjfmjohliiaaGreatDoor
open Go Go.RowKit

def SmallF (l : List Fl) : Prop := l.length ≤ 80 ∧ ∀ x ∈ l, x.1.size ≤ 100 ∧ x.2.2.size ≤ 5000
theorem SmallF.sizedD {l : List Fl} (h : SmallF l) : SizedD l := fun x hx => ⟨by have := (h.2 x hx).1; omega, by have := (h.2 x hx).2; omega⟩
theorem SmallF.sized {l : List Fl} (h : SmallF l) : Sized l := fun x hx => by have := (h.2 x hx).1; omega
theorem fileNeq (F : Nat) (w : World) : (binOp .neq 38 (.iface 77 (.pointer (some ⟨F, 0, none⟩))) .nilIface).run Tryz.prog w = .ok (.bool true) w := by kernel_rfl
theorem nilNeq (w : World) : (binOp .neq 38 .nilIface .nilIface).run Tryz.prog w = .ok (.bool false) w := by kernel_rfl
theorem fileEql (F : Nat) (w : World) : (binOp .eql 38 (.iface 77 (.pointer (some ⟨F, 0, none⟩))) .nilIface).run Tryz.prog w = .ok (.bool false) w := by kernel_rfl
theorem nilEql (w : World) : (binOp .eql 38 .nilIface .nilIface).run Tryz.prog w = .ok (.bool true) w := by kernel_rfl
theorem map_riseE {l : List Fl} (h : RiseF l) : RiseE (l.map toE) := by
  unfold RiseE
  rw [List.pairwise_map]
  exact List.Pairwise.imp (fun {a b} hab => (ec_map a b).2 hab) h
theorem map_sizedE {l : List Fl} (h : Sized l) : SizedE (l.map toE) := fun x hx => by
  obtain ⟨f, hf, rfl⟩ := List.mem_map.1 hx
  exact h f hf
/-- Index and folder are the tree's. -/
def TupC (b : List Fl) (w : World) (e : Ending) (w' : World) : Prop := ∃ u1 u2 : Value, e = .returned (.tuple #[u1, u2, .nilIface]) ∧ Reads 6 cE w' u1 (b.map toE) ∧ Reads 3 cF w' u2 b ∧ Below w.heap.size w w'
theorem clean_apply (W : World) (va vb u : Value) (a b : List Fl) (h1 : Reads 3 cF W va a) (h2 : Reads 3 cF W vb b) (h3 : Reads 6 cE W u (a.map toE)) (ca : chkF a = none) (cb : chkF b = none) (sa : SmallF a) (sb : SmallF b) :
    Calls Tryz.prog 12 #[va, .agg #[vb, .slice none 0 0, .slice none 0 0], u, va] W (TupC b W) :=
  (apply_any W va vb _ _ u va a b a [] [] (a.map toE) h1 h2 (ents_none W) (strs_none W) h3 h1 (chkF_rise ca) (chkF_rise cb) (map_riseE (chkF_rise ca)) (chkF_rise ca) sa.1 sb.1 (by simp) (by simp) (by rw [List.length_map]; exact sa.1) sa.1 (touched_sized (fun _ h => by cases h) sa.sized sb.sized) sa.sized sb.sized (fun _ h => by cases h) (map_sizedE sa.sized)).mono fun e w' h => by
    rcases h with ⟨h, _⟩ | ⟨_, u1, u2, he, r1, r2, bb⟩
    · exact absurd (lost_clean ca cb) h
    · rw [putG_none, index_clean (chkF_rise ca) (chkF_rise cb) (chkF_apart cb)] at r1
      rw [work_clean (chkF_rise ca) (chkF_rise cb)] at r2
      exact ⟨u1, u2, he, r1, r2, bb⟩
def TupD (b : List Fl) (w : World) (e : Ending) (w' : World) : Prop := ∃ u1 u2 : Value, e = .returned (.tuple #[u1, u2]) ∧ Reads 6 cE w' u1 (b.map toE) ∧ Reads 3 cF w' u2 b ∧ Below w.heap.size w w'
theorem clean_force (W : World) (va vb u : Value) (a b : List Fl) (h1 : Reads 3 cF W va a) (h2 : Reads 3 cF W vb b) (h3 : Reads 6 cE W u (a.map toE)) (ra : RiseF a) (rb : RiseF b) (sa : SmallF a) (sb : SmallF b) :
    Calls Tryz.prog 24 #[va, vb, u, va] W (TupD b W) :=
  (force_any W va vb u va a b a (a.map toE) h1 h2 h3 h1 ra sa.1 sb.1 (by rw [List.length_map]; exact sa.1) sa.1 sa.sized sb.sized).mono fun e w' ⟨u1, u2, he, r1, r2, bb⟩ => by
    rw [force_clean ra rb] at r2
    exact ⟨u1, u2, he, r1, r2, bb⟩
theorem clean_lost (W : World) (va vb u : Value) (a b : List Fl) (h1 : Reads 3 cF W va a) (h2 : Reads 3 cF W vb b) (h3 : Reads 6 cE W u (a.map toE)) (ca : chkF a = none) (cb : chkF b = none) (sa : SmallF a) (sb : SmallF b) :
    Calls Tryz.prog 15 #[va, .agg #[vb, .slice none 0 0, .slice none 0 0], u, va] W (TextsTo [] W) := by
  have hl := sa.1
  have hl2 := sb.1
  have := lost_any W va vb (.slice none 0 0) _ u va a b a [] (a.map toE) h1 h2 (strs_none W) h3 h1 (chkF_rise ca) (chkF_rise cb) (map_riseE (chkF_rise ca)) (chkF_rise ca) (by omega) (by omega) (by simp) (by rw [List.length_map]; omega) (by omega) (touched_sized (fun _ h => by cases h) sa.sized sb.sized) sa.sized
  rw [lost_clean ca cb] at this
  exact this
end Go.Proofs.YtdmmjfmjohliiaaGreatDoor
namespace Go.Proofs.YtdmmjfmjohliiaaGreatDoor
open Go Go.RowKit

set_option maxRecDepth 100000 in
set_option maxHeartbeats 8000000 in
theorem clean_walk (w : World) (v u : Value) (a b : List Fl) (h : Reads 3 cF w v a) (g : Reads 3 cF w u b) :
    Calls Tryz.prog 6 #[v, u] w (YesTo w) := by
  have KN := Lib.hid (known20_yes w)
  obtain ⟨A, c, rfl⟩ := h.form
  obtain ⟨A2, c2, rfl⟩ := g.form
  have HA := Lib.hid h
  have HB := Lib.hid g
  clear h g
  have q1 := fileNeq
  have q2 := nilNeq
  have q4 := nilEql
  go_enter Tryz.func6, Tryz.ntmps6
  go_wp2_with fail
  refine KN.out.mono ?_
  rintro e w1 ⟨rfl, b1⟩
  have RA := Lib.hid (HA.out.below b1)
  have RB := Lib.hid (HB.out.below b1)
  have B1 := Lib.hid b1
  have FA := Lib.hid (fewF_any w1 _ a RA.out)
  clear KN HA HB b1
  go_wp2_with fail
  refine FA.out.mono ?_
  rintro e w2 ⟨ba, rfl, hba, qa, rfl⟩
  have HBA := Lib.hid hba
  clear hba FA
  cases ba with
  | false =>
    go_wp2_with fail
    go_ret
    exact ⟨rfl, below_drewN B1.out _⟩
  | true =>
    have SA := Lib.hid (show SmallF a from HBA.out rfl)
    have FB := Lib.hid (fewF_any (w1.drewN qa) _ b RB.out)
    clear HBA
    go_wp2_with fail
    refine FB.out.mono ?_
    rintro e w2 ⟨bb, rfl, hbb, qb, rfl⟩
    have HBB := Lib.hid hbb
    clear hbb FB
    cases bb with
    | false =>
      go_wp2_with fail
      go_ret
      exact ⟨rfl, below_drewN B1.out _⟩
    | true =>
      have SB := Lib.hid (show SmallF b from HBB.out rfl)
      clear HBB
      obtain ⟨w2, hw2⟩ : ∃ w2, w2 = (w1.drewN qa).drewN qb := ⟨_, rfl⟩
      have B2 := Lib.hid (show Below w.heap.size w w2 by rw [hw2]; exact below_drewN (below_drewN B1.out _) _)
      have RA2 := Lib.hid (show Reads 3 cF w2 (.slice A a.length c) a by rw [hw2]; exact RA.out)
      have RB2 := Lib.hid (show Reads 3 cF w2 (.slice A2 b.length c2) b by rw [hw2]; exact RB.out)
      rw [← hw2]
      clear hw2 RA RB B1
      have CA := Lib.hid (checkF_any w2 _ a RA2.out SA.out.sizedD (by have := SA.out.1; omega))
      go_wp2_with fail
      refine CA.out.mono ?_
      rintro e w3 h3
      rcases h3 with ⟨ca, rfl, b3⟩ | ⟨i, k, F, _, rfl, _, _, b3⟩
      · have HCA := Lib.hid ca
        have RA3 := Lib.hid (RA2.out.below b3)
        have RB3 := Lib.hid (RB2.out.below b3)
        have B3 := Lib.hid (B2.out.trans (b3.mono B2.out.size))
        have CB := Lib.hid (checkF_any w3 _ b RB3.out SB.out.sizedD (by have := SB.out.1; omega))
        clear ca b3 CA RA2 RB2 B2
        go_wp2_with fail
        refine CB.out.mono ?_
        rintro e w4 h4
        rcases h4 with ⟨cb, rfl, b4⟩ | ⟨i, k, F, _, rfl, _, _, b4⟩
        · have HCB := Lib.hid cb
          have RA4 := Lib.hid (RA3.out.below b4)
          have RB4 := Lib.hid (RB3.out.below b4)
          have B4 := Lib.hid (B3.out.trans (b4.mono B3.out.size))
          have O4 := Lib.hid (of_any w4 _ a RA4.out (by have := SA.out.1; omega))
          clear cb b4 CB RA3 RB3 B3
          go_wp2_with fail
          refine O4.out.mono ?_
          rintro e w5 ⟨v5, rfl, o5, b5⟩
          have RA5 := Lib.hid (RA4.out.below b5)
          have RB5 := Lib.hid (RB4.out.below b5)
          have B5 := Lib.hid (B4.out.trans (b5.mono B4.out.size))
          have A5 := Lib.hid (clean_apply w5 _ _ v5 a b RA5.out RB5.out (Reads.of_own cE_len (by rw [List.length_map] at o5 ⊢; exact o5)) HCA.out HCB.out SA.out SB.out)
          obtain ⟨X5, y5, hlen⟩ := own_form o5
          rw [List.length_map] at hlen
          subst hlen
          clear o5 b5 O4 RA4 RB4 B4
          go_wp2_with fail
          refine A5.out.mono ?_
          rintro e w6 ⟨u1, u2, rfl, r1, r2, b6⟩
          have RA6 := Lib.hid (RA5.out.below b6)
          have RB6 := Lib.hid (RB5.out.below b6)
          have B6 := Lib.hid (B5.out.trans (b6.mono B5.out.size))
          have X6 := Lib.hid r1
          have Y6 := Lib.hid r2
          have O6 := Lib.hid (of_any w6 _ a RA6.out (by have := SA.out.1; omega))
          obtain ⟨P1, p1, hlen⟩ := r1.form
          rw [List.length_map] at hlen
          subst hlen
          obtain ⟨P2, p2, rfl⟩ := r2.form
          clear r1 r2 b6 A5 RA5 RB5 B5
          go_wp2_with fail
          refine O6.out.mono ?_
          rintro e w7 ⟨v7, rfl, o7, b7⟩
          have RA7 := Lib.hid (RA6.out.below b7)
          have RB7 := Lib.hid (RB6.out.below b7)
          have X7 := Lib.hid (X6.out.below b7)
          have Y7 := Lib.hid (Y6.out.below b7)
          have B7 := Lib.hid (B6.out.trans (b7.mono B6.out.size))
          have F7 := Lib.hid (clean_force w7 _ _ v7 a b RA7.out RB7.out (Reads.of_own cE_len (by rw [List.length_map] at o7 ⊢; exact o7)) (chkF_rise HCA.out) (chkF_rise HCB.out) SA.out SB.out)
          obtain ⟨X8, y8, hlen⟩ := own_form o7
          rw [List.length_map] at hlen
          subst hlen
          clear o7 b7 O6 RA6 RB6 B6 X6 Y6
          go_wp2_with fail
          refine F7.out.mono ?_
          rintro e w8 ⟨u3, u4, rfl, r3, r4, b8⟩
          have RA8 := Lib.hid (RA7.out.below b8)
          have RB8 := Lib.hid (RB7.out.below b8)
          have XA := Lib.hid (X7.out.below b8)
          have YA := Lib.hid (Y7.out.below b8)
          have XB := Lib.hid r3
          have YB := Lib.hid r4
          have B8 := Lib.hid (B7.out.trans (b8.mono B7.out.size))
          obtain ⟨P3, p3, hlen⟩ := r3.form
          rw [List.length_map] at hlen
          subst hlen
          obtain ⟨P4, p4, rfl⟩ := r4.form
          have S1 := Lib.hid (sameF_any w8 _ _ b b YA.out RB8.out)
          have S2 := Lib.hid fun W (hW : Below w8.heap.size w8 W) => sameF_any W _ _ b b (YB.out.below hW) (RB8.out.below hW)
          rw [decide_eq_true (rfl : b = b)] at S1 S2
          have O8 := Lib.hid fun W (hW : Below w8.heap.size w8 W) => of_any W _ b (RB8.out.below hW) (by have := SB.out.1; omega)
          have O9 := Lib.hid fun W (hW : Below w8.heap.size w8 W) => of_any W _ a (RA8.out.below hW) (by have := SA.out.1; omega)
          have S3 := Lib.hid fun W (hW : Below w8.heap.size w8 W) q (hq : Reads 6 cE W q (b.map toE)) => sameE_any W _ q (b.map toE) (b.map toE) (XA.out.below hW) hq
          have E3 := Lib.hid fun W q (hq : Reads 6 cE W q (b.map toE)) => ofE_any W q (b.map toE) hq (by rw [List.length_map]; have := SB.out.1; omega)
          have A3 := Lib.hid fun W (hW : Below w8.heap.size w8 W) q (hq : Reads 6 cE W q (b.map toE)) => allE_any W _ q (b.map toE) (b.map toE) (XB.out.below hW) hq (by rw [List.length_map]; have := SB.out.1; omega)
          unfold EqTo at S3
          rw [decide_eq_true (rfl : (b.map toE).map stillE = (b.map toE).map stillE)] at S3
          rw [decide_eq_true (rfl : b.map toE = b.map toE)] at A3
          have L3 := Lib.hid fun W (hW : Below w8.heap.size w8 W) q (hq : Reads 6 cE W q (a.map toE)) => clean_lost W _ _ q a b (RA8.out.below hW) (RB8.out.below hW) hq HCA.out HCB.out SA.out SB.out
          clear r3 r4 b8 F7 RA7 RB7 B7 X7 Y7
          go_wp2_with fail
          refine S1.out.mono ?_
          rintro e w9 ⟨rfl, q9, rfl⟩
          have D9 := Lib.hid (below_drewN (Below.refl w8.heap.size w8) q9)
          have S2' := Lib.hid (S2.out _ D9.out)
          clear S1 S2
          go_wp2_with fail
          refine S2'.out.mono ?_
          rintro e w10 ⟨rfl, q10, rfl⟩
          obtain ⟨wa, hwa⟩ : ∃ x, x = (w8.drewN q9).drewN q10 := ⟨_, rfl⟩
          have D10 := Lib.hid (show Below w8.heap.size w8 wa by rw [hwa]; exact below_drewN D9.out q10)
          rw [← hwa]
          clear hwa S2' D9
          have O10 := Lib.hid (O8.out wa D10.out)
          go_wp2_with fail
          refine O10.out.mono ?_
          rintro e w11 ⟨v11, rfl, o11, b11⟩
          have D11 := Lib.hid (D10.out.trans (b11.mono D10.out.size))
          have S11 := Lib.hid (S3.out w11 D11.out v11 (Reads.of_own cE_len (by rw [List.length_map] at o11 ⊢; exact o11)))
          obtain ⟨Z1, z1, hlen⟩ := own_form o11
          rw [List.length_map] at hlen
          subst hlen
          clear o11 b11 O10 S3 D10
          go_wp2_with fail
          refine S11.out.mono ?_
          rintro e w12 ⟨rfl, b12⟩
          have D12 := Lib.hid (D11.out.trans (b12.mono D11.out.size))
          have O12 := Lib.hid (O8.out w12 D12.out)
          clear b12 S11 D11 O8
          go_wp2_with fail
          refine O12.out.mono ?_
          rintro e w13 ⟨v13, rfl, o13, b13⟩
          have D13 := Lib.hid (D12.out.trans (b13.mono D12.out.size))
          have E13 := Lib.hid (E3.out w13 v13 (Reads.of_own cE_len (by rw [List.length_map] at o13 ⊢; exact o13)))
          obtain ⟨Z2, z2, hlen⟩ := own_form o13
          rw [List.length_map] at hlen
          subst hlen
          clear o13 b13 O12 E3 D12
          go_wp2_with fail
          refine E13.out.mono ?_
          rintro e w14 ⟨v14, rfl, o14, b14⟩
          have D14 := Lib.hid (D13.out.trans (b14.mono D13.out.size))
          have A14 := Lib.hid (A3.out w14 D14.out v14 (Reads.of_own cE_len (by rw [List.length_map] at o14 ⊢; exact o14)))
          obtain ⟨Z3, z3, hlen⟩ := own_form o14
          rw [List.length_map] at hlen
          subst hlen
          clear o14 b14 E13 A3 D13
          go_wp2_with fail
          refine A14.out.mono ?_
          rintro e w15 ⟨rfl, b15⟩
          have D15 := Lib.hid (D14.out.trans (b15.mono D14.out.size))
          have O15 := Lib.hid (O9.out w15 D15.out)
          clear b15 A14 D14 O9
          go_wp2_with fail
          refine O15.out.mono ?_
          rintro e w16 ⟨v16, rfl, o16, b16⟩
          have D16 := Lib.hid (D15.out.trans (b16.mono D15.out.size))
          have L16 := Lib.hid (L3.out w16 D16.out v16 (Reads.of_own cE_len (by rw [List.length_map] at o16 ⊢; exact o16)))
          obtain ⟨Z4, z4, hlen⟩ := own_form o16
          rw [List.length_map] at hlen
          subst hlen
          clear o16 b16 O15 L3 D15
          go_wp2_with fail
          refine L16.out.mono ?_
          rintro e w17 ⟨v17, rfl, o17, b17⟩
          have B17 := Lib.hid (B8.out.trans ((D16.out.trans (b17.mono D16.out.size)).mono B8.out.size))
          obtain ⟨Z5, z5, rfl⟩ := own_form o17
          clear o17 b17 L16
          go_wp2_with fail
          go_ret
          exact ⟨rfl, B17.out⟩
        · have B4 := Lib.hid (B3.out.trans (b4.mono B3.out.size))
          clear b4 CB RA3 RB3 B3
          go_wp2_with fail
          go_ret
          exact ⟨rfl, B4.out⟩
      · have B3 := Lib.hid (B2.out.trans (b3.mono B2.out.size))
        clear b3 CA RA2 RB2 B2
        go_wp2_with fail
        go_ret
        exact ⟨rfl, B3.out⟩
end Go.Proofs.YtdmmjfmjohliiaaGreatDoor
