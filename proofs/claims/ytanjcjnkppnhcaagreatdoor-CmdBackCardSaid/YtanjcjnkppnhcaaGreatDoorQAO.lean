/-
  A Fault's Error at any number: strconv's numeral with its table.
-/
import Derived.Test.YtanjcjnkppnhcaaGreatDoorQAM
import Derived.Test.YtanjcjnkppnhcaaGreatDoorQAN
import Derived.Test.YtanjcjnkppnhcaaGreatDoorQAA
import Derived.Deep.RegionHeld3

namespace Go.Proofs.YtanjcjnkppnhcaaGreatDoor
open Go Go.RowKit

/-- The listed table of powers of ten. -/
abbrev PowTab (w : World) : Prop := Lib.TabIs Tryz.prog w "internal/strconv.uint64pow10" .u64 Lib.pow10Tab
theorem tabIs_below {P : Program} {w w' : World} {name : String} {k : IntKind} {zs : List Int} (h : Lib.TabIs P w name k zs) (hb : Below w.heap.size w w') : Lib.TabIs P w' name k zs := by
  unfold Lib.TabIs World.var? at *
  cases hg : P.globalNamed name with
  | none => simp [hg] at h
  | some g =>
    simp only [hg, Option.bind_some] at h ⊢
    have hlt : g < w.heap.size := by
      rcases Nat.lt_or_ge g w.heap.size with h' | h'
      · exact h'
      · rw [Array.getElem?_eq_none h'] at h; simp at h
    rw [hb.block g hlt]
    exact h
theorem below_grow (w : World) (k : Nat) (os : Array Obj) : Below w.heap.size w (Go.Sort.grow (w.drewN k) os) := by
  refine ⟨rfl, rfl, rfl, ?_, fun j hj => ?_⟩
  · show w.heap.size ≤ (w.heap ++ os).size
    simp
  · show (w.heap ++ os)[j]? = w.heap[j]?
    rw [Array.getElem?_append_left hj]
theorem itoa_all (n : Int) (h0 : -9223372036854775808 ≤ n) (h1 : n ≤ 9223372036854775807) (w : World) (ht : PowTab w) :
    Calls Tryz.prog 46 #[.int .i64 n] w fun e w' => e = .returned (.string (numB n)) ∧ Below w.heap.size w w' := by
  refine (Tryz.strconv_Itoa n h0 h1 w ht).mono ?_
  rintro e w' ⟨rfl, k, os, rfl⟩
  exact ⟨rfl, below_grow _ _ _⟩

structure FG (w0 w : World) (F : Nat) (p : ByteArray) (n e : Int) : Prop where
  fault : Blk w F 78 #[.string p, .int .i64 n, .iface 73 (.int .i64 e)]
  tab : PowTab w
  bel : Below w0.heap.size w0 w
theorem FG.below {w0 w w' : World} {F : Nat} {p : ByteArray} {n e : Int} (h : FG w0 w F p n e) (hb : Below w.heap.size w w') : FG w0 w' F p n e :=
  ⟨h.fault.below hb h.fault.lt, tabIs_below h.tab hb, h.bel.trans (hb.mono h.bel.size)⟩
theorem FG.draws {w0 w : World} {F : Nat} {p : ByteArray} {n e : Int} (h : FG w0 w F p n e) (k : Nat) : FG w0 (w.drewN k) F p n e := h.below (below_drewN (Below.refl _ w) k)
theorem FG.cells {w0 w : World} {F : Nat} {p : ByteArray} {n e : Int} (h : FG w0 w F p n e) : w.cell? ⟨F, 0, none⟩ = some (.string p) ∧ w.cell? ⟨F, 1, none⟩ = some (.int .i64 n) ∧ w.cell? ⟨F, 2, none⟩ = some (.iface 73 (.int .i64 e)) := ⟨h.fault.cell 0, h.fault.cell 1, h.fault.cell 2⟩

attribute [-go_sem] run_string_add_if
set_option maxRecDepth 100000 in
set_option maxHeartbeats 4000000 in
theorem fault_all (w : World) (F : Nat) (p : ByteArray) (n e : Int) (hF : Blk w F 78 #[.string p, .int .i64 n, .iface 73 (.int .i64 e)]) (hp : p.size ≤ 1000) (h0 : -9223372036854775808 ≤ n) (h1 : n ≤ 9223372036854775807) (he : To14 e) (ht : PowTab w) :
    Calls Tryz.prog 181 #[.pointer (some ⟨F, 0, none⟩)] w fun x w' => x = .returned (.string (fwG p (numB n) (ew e))) ∧ Below w.heap.size w w' := by
  have T0 : Hid (FG w w F p n e) := Lib.hid ⟨hF, ht, Below.refl _ _⟩
  have T0d : Hid (FG w w.drew F p n e) := Lib.hid (T0.out.draws 1)
  have c0 := hF.cell 0
  have c1 := hF.cell 1
  have c2 := hF.cell 2
  have hFl := hF.lt
  have mE := invokeErrno
  have nE := nilErrno
  have IT := Lib.hid fun W (h : FG w W F p n e) => itoa_all n h0 h1 W h.tab
  have SH := Lib.hid fun W => errno_any e he W
  have hes := ew_size he
  have hd := numB_size h0 h1
  obtain ⟨s1, hs1, hz1, hr1⟩ := sum_named p ⟨#[32]⟩ (by rw [size32]; omega)
  rw [size32] at hz1
  obtain ⟨s2, hs2, hz2, hr2⟩ := sum_named s1 (numB n) (by omega)
  obtain ⟨s3, hs3, hz3, hr3⟩ := sum_named s2 ⟨#[58, 32]⟩ (by rw [size58]; omega)
  rw [size58] at hz3
  obtain ⟨s4, hs4, hz4, hr4⟩ := sum_named s3 (ew e) (by omega)
  have HS : Hid (s4 = fwG p (numB n) (ew e)) := Lib.hid (by rw [hs4, hs3, hs2, hs1]; rfl)
  clear hF hs1 hs2 hs3 hs4 hz1 hz2 hz3 hz4 he ht h0 h1
  obtain ⟨s, hs⟩ : ∃ s, s = ew e := ⟨_, rfl⟩
  rw [← hs] at SH hr4 hes HS
  rw [← hs]
  clear hs
  obtain ⟨D, hD⟩ : ∃ D, D = numB n := ⟨_, rfl⟩
  rw [← hD] at IT hr2 HS hd
  rw [← hD]
  clear hD
  go_enter Tryz.func181, Tryz.ntmps181
  go_wp2_with fail
  go_region_held3 (fun w' => w'.cell? ⟨F, 0, none⟩ = some (.string p) ∧ w'.cell? ⟨F, 1, none⟩ = some (.int .i64 n) ∧ w'.cell? ⟨F, 2, none⟩ = some (.iface 73 (.int .i64 e))) (first | exact T0d.out.cells | exact T1.out.cells) (first | (go_at_call 46; refine (IT.out _ T0d.out).mono ?_; rintro x w1 ⟨rfl, hb1⟩; have T1 := Lib.hid (T0d.out.below hb1)) | (go_at_call 180; refine (SH.out _).mono ?_; rintro x w2 ⟨rfl, rfl⟩))
  all_goals go_wp2_with fail
  all_goals go_ret
  all_goals exact ⟨by rw [HS.out]; rfl, T1.out.bel⟩
end Go.Proofs.YtanjcjnkppnhcaaGreatDoor
