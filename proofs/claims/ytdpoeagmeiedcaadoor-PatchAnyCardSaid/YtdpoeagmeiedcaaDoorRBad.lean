/-
  Too many lines: what the program and the document say of it.
-/
import Derived.Test.YtdpoeagmeiedcaaDoorMatches
import Derived.Test.YtdpoeagmeiedcaaDoorTTold
import Derived.Test.YtdpoeagmeiedcaaDoorTI0
namespace Go.Proofs.YtdpoeagmeiedcaaDoor
open Go Go.RowKit

abbrev bLines : ByteArray := ⟨#[108, 105, 110, 101, 115]⟩
/-- Which text has too many lines. -/
def Over (n m k : Nat) : Prop := (k = 0 ∧ 256 < n) ∨ (k = 1 ∧ n ≤ 256 ∧ 256 < m)
/-- The refusal: its fault in a block of its own. -/
def FaultIs (k F : Nat) (w w' : World) : Prop := Blk w' F 102 #[.string bLines, .int .i64 (k : Int), .iface 97 (.int .i64 4)] ∧ Below w.heap.size w w'
abbrev theFault (F : Nat) : Value := .iface 98 (.pointer (some ⟨F, 0, none⟩))
def FaultTo (k : Nat) (w : World) (e : Ending) (w' : World) : Prop := ∃ F, e = .returned (theFault F) ∧ FaultIs k F w w'

set_option maxHeartbeats 1000000 in
theorem check_bad (b n c m d k : Nat) (A B : Option Addr) (hk : Over n m k) (w : World) (h0 : w.cell? ⟨b, 0, none⟩ = some (.slice A n c)) (h1 : w.cell? ⟨b, 1, none⟩ = some (.slice B m d)) :
    Calls Tryd.prog 37 #[.slice (some ⟨b, 0, none⟩) 2 2] w (FaultTo k w) := by
  rcases hk with ⟨rfl, hn⟩ | ⟨rfl, hn, hm⟩
  · go_enter Tryd.func37, Tryd.ntmps37
    go_wp2
    go_loop [7] (fun i => i = .int .i64 0) (fun i => 0)
    case atStart => rfl
    case round =>
      obtain rfl := hrel
      go_wp2
      go_ret
      exact ⟨w.heap.size, rfl, heap_alloc_new w _, (Below.refl _ _).alloc (Nat.le_refl _) _⟩
  · go_enter Tryd.func37, Tryd.ntmps37
    go_wp2
    go_loop [7] (fun i => ∃ k : Nat, k ≤ 1 ∧ i = .int .i64 k) (fun i => 2 - (intOf i).toNat)
    case atStart => exact ⟨0, by omega, rfl⟩
    case round =>
      obtain ⟨k, hk, rfl⟩ := hrel
      by_cases e0 : k = 0
      · subst e0
        go_wp2
        go_round
        case rel => exact ⟨1, by omega, rfl⟩
        case measure => simp [intOf]
      · obtain rfl : k = 1 := by omega
        go_wp2
        go_ret
        exact ⟨w.heap.size, rfl, heap_alloc_new w _, (Below.refl _ _).alloc (Nat.le_refl _) _⟩

/-- .. with another answer before it. -/
def FaultTo2 (v : Value) (k : Nat) (w : World) (e : Ending) (w' : World) : Prop := ∃ F, e = .returned (.tuple #[v, theFault F]) ∧ FaultIs k F w w'
set_option maxRecDepth 100000 in
set_option maxHeartbeats 1000000 in
theorem lines_bad (w : World) (A B : Option Addr) (n c m d k : Nat) (hk : Over n m k) : Calls Tryd.prog 10 #[.slice A n c, .slice B m d] w (FaultTo2 (.slice none 0 0) k w) := by
  have E1 := (Below.refl w.heap.size w).alloc (Nat.le_refl _) (.cells #[.slice A n c, .slice B m d] 22)
  have hh := heap_alloc_new w (.cells #[.slice A n c, .slice B m d] 22)
  have CK := Lib.hid (check_bad w.heap.size n c m d k A B hk (w.alloc (.cells #[.slice A n c, .slice B m d] 22)) (cell_of_row _ _ 0 _ 22 (0, 0) hh) (cell_of_row _ _ 1 _ 22 (0, 0) hh))
  clear hh hk
  go_enter Tryd.func10, Tryd.ntmps10
  go_wp2_with fail
  refine CK.out.mono ?_
  rintro e w' ⟨F, rfl, T, hb⟩
  have E2 := E1.trans (hb.mono (by simp))
  go_wp2
  go_ret2
  exact ⟨F, rfl, T, E2⟩
set_option maxRecDepth 100000 in
set_option maxHeartbeats 1000000 in
theorem diffCommon_bad (w : World) (A B : Option Addr) (n c m d k : Nat) (hk : Over n m k) : Calls Tryd.prog 13 #[.slice A n c, .slice B m d] w (FaultTo2 (.int .i64 0) k w) := by
  have E1 := (Below.refl w.heap.size w).alloc (Nat.le_refl _) (.cells #[.slice A n c, .slice B m d] 22)
  have hh := heap_alloc_new w (.cells #[.slice A n c, .slice B m d] 22)
  have CK := Lib.hid (check_bad w.heap.size n c m d k A B hk (w.alloc (.cells #[.slice A n c, .slice B m d] 22)) (cell_of_row _ _ 0 _ 22 (0, 0) hh) (cell_of_row _ _ 1 _ 22 (0, 0) hh))
  clear hh hk
  go_enter Tryd.func13, Tryd.ntmps13
  go_wp2_with fail
  refine CK.out.mono ?_
  rintro e w' ⟨F, rfl, T, hb⟩
  have E2 := E1.trans (hb.mono (by simp))
  go_wp2
  go_ret2
  exact ⟨F, rfl, T, E2⟩
set_option maxRecDepth 100000 in
set_option maxHeartbeats 1000000 in
theorem matches_bad (w : World) (A B : Option Addr) (n c m d k : Nat) (hk : Over n m k) : Calls Tryd.prog 12 #[.slice A n c, .slice B m d] w (FaultTo2 (.slice none 0 0) k w) := by
  have CK := Lib.hid (lines_bad w A B n c m d k hk)
  clear hk
  go_enter Tryd.func12, Tryd.ntmps12
  go_wp2_with fail
  refine CK.out.mono ?_
  rintro e w' ⟨F, rfl, T, hb⟩
  go_wp2
  go_ret2
  exact ⟨F, rfl, T, hb⟩

/-- The document's Wrong of one part. -/
abbrev wrong0 : Value := .agg #[.slice none 0 0, .int .i64 0]
theorem refAt_gen (p : ByteArray) (n e : Int) (w : World) : Calls Tryd.prog 59 #[.string p, .int .i64 n, .int .i64 e] w fun x w' => ∃ g, x = .returned (wrongG g e) ∧ Blk w' g 104 #[.string p, .int .i64 n] ∧ w.heap.size ≤ g ∧ Below w.heap.size w w' := by
  go_enter Tryd.func59, Tryd.ntmps59
  go_wp2
  refine bodyPost_ret (results_cell_row (fn := Tryd.f59) rfl _ _ w.heap.size 33 #[.slice (some ⟨w.heap.size + 1, 0, none⟩) 1 1, .int .i64 e] (0, 0) _ rfl ((Blk.new w 33 _).alloc _) Tryd.underlying33 rfl (by kernel_rfl)) rfl ⟨w.heap.size + 1, rfl, ?_, by omega, ((Below.refl _ _).alloc (Nat.le_refl _) _).alloc (by simp) _⟩
  have h := heap_alloc_new (w.alloc (.cells #[.slice (some ⟨w.heap.size + 1, 0, none⟩) 1 1, .int .i64 e] 33)) (.cells #[.string p, .int .i64 n] 104)
  rw [show (w.alloc (.cells #[.slice (some ⟨w.heap.size + 1, 0, none⟩) 1 1, .int .i64 e] 33)).heap.size = w.heap.size + 1 by simp] at h
  exact h

/-- What the document's long answers. -/
def LongTo (n m : Nat) (w : World) (e : Ending) (w' : World) : Prop :=
  (n ≤ 256 ∧ m ≤ 256 ∧ e = .returned wrong0 ∧ Below w.heap.size w w') ∨ ∃ k g : Nat, Over n m k ∧ e = .returned (wrongG g 4) ∧ Blk w' g 104 #[.string bLines, .int .i64 (k : Int)] ∧ Below w.heap.size w w'
set_option maxHeartbeats 1000000 in
theorem long_any (w : World) (A B : Option Addr) (n c m d : Nat) (hn : n ≤ maxLen) (hm : m ≤ maxLen) : Calls Tryd.prog 40 #[.slice A n c, .slice B m d] w (LongTo n m w) := by
  have E1 := (Below.refl w.heap.size w).alloc (Nat.le_refl _) (.cells #[.slice none 0 0, .int .i64 0] 33)
  have hn0 : (n : Int) ≤ 9223372036854775807 := by unfold maxLen at hn; omega
  have hm0 : (m : Int) ≤ 9223372036854775807 := by unfold maxLen at hm; omega
  clear hn hm
  have RT := fun k => Lib.hid (refAt_gen bLines k 4 (w.alloc (.cells #[.slice none 0 0, .int .i64 0] 33)))
  have hh := Blk.new w 33 #[.slice none 0 0, .int .i64 0]
  have hsz : (w.alloc (.cells #[.slice none 0 0, .int .i64 0] 33)).heap.size = w.heap.size + 1 := by simp
  by_cases h1 : 256 < n
  · have hi : (256 : Int) < (n : Int) := by omega
    go_enter Tryd.func40, Tryd.ntmps40
    go_wp2_with fail
    refine (RT 0).out.mono ?_
    rintro e w2 ⟨g, rfl, hg, hgl, b2⟩
    have K2 := hh.below b2 hh.lt
    have c0 := K2.cell 0
    have c1 := K2.cell 1
    have f0 := K2.frozen 0
    have f1 := K2.frozen 1
    have E2 := E1.trans (b2.mono (by rw [hsz]; omega))
    have HK := Lib.hid K2
    have Hg := Lib.hid hg
    have Hne := Lib.hid (K2.ne_ hg (by decide))
    have HB2 := Lib.hid E2
    clear hg b2 K2 E2 hgl
    go_wp2
    refine bodyPost_ret (results_cell_row (fn := Tryd.f40) rfl _ _ w.heap.size 33 #[.slice (some ⟨g, 0, none⟩) 1 1, .int .i64 4] (0, 0) _ rfl (by first | exact (HK.out.set_ 0 _).set_ 1 _ | simpa using (HK.out.set_ 0 _).set_ 1 _) Tryd.underlying33 rfl (by kernel_rfl)) rfl (.inr ⟨0, g, .inl ⟨rfl, h1⟩, rfl, (Hg.out.far (fun e => Hne.out e.symm) _).far (fun e => Hne.out e.symm) _, (HB2.out.setCell (p := ⟨w.heap.size, 0, none⟩) (Nat.le_refl _) _).setCell (p := ⟨w.heap.size, 1, none⟩) (Nat.le_refl _) _⟩)
  · have hi : ¬ (256 : Int) < (n : Int) := by omega
    by_cases h2 : 256 < m
    · have hj : (256 : Int) < (m : Int) := by omega
      go_enter Tryd.func40, Tryd.ntmps40
      go_wp2_with fail
      refine (RT 1).out.mono ?_
      rintro e w2 ⟨g, rfl, hg, hgl, b2⟩
      have K2 := hh.below b2 hh.lt
      have c0 := K2.cell 0
      have c1 := K2.cell 1
      have f0 := K2.frozen 0
      have f1 := K2.frozen 1
      have E2 := E1.trans (b2.mono (by rw [hsz]; omega))
      have HK := Lib.hid K2
      have Hg := Lib.hid hg
      have Hne := Lib.hid (K2.ne_ hg (by decide))
      have HB2 := Lib.hid E2
      clear hg b2 K2 E2 hgl
      go_wp2
      refine bodyPost_ret (results_cell_row (fn := Tryd.f40) rfl _ _ w.heap.size 33 #[.slice (some ⟨g, 0, none⟩) 1 1, .int .i64 4] (0, 0) _ rfl (by first | exact (HK.out.set_ 0 _).set_ 1 _ | simpa using (HK.out.set_ 0 _).set_ 1 _) Tryd.underlying33 rfl (by kernel_rfl)) rfl (.inr ⟨1, g, .inr ⟨rfl, by omega, h2⟩, rfl, (Hg.out.far (fun e => Hne.out e.symm) _).far (fun e => Hne.out e.symm) _, (HB2.out.setCell (p := ⟨w.heap.size, 0, none⟩) (Nat.le_refl _) _).setCell (p := ⟨w.heap.size, 1, none⟩) (Nat.le_refl _) _⟩)
    · have hj : ¬ (256 : Int) < (m : Int) := by omega
      have c0 := hh.cell 0
      have c1 := hh.cell 1
      have f0 := hh.frozen 0
      have f1 := hh.frozen 1
      have HK := Lib.hid hh
      have HB2 := Lib.hid E1
      clear hh E1 RT
      go_enter Tryd.func40, Tryd.ntmps40
      go_wp2
      refine bodyPost_ret (results_cell_row (fn := Tryd.f40) rfl _ _ w.heap.size 33 #[.slice none 0 0, .int .i64 0] (0, 0) _ rfl (by first | exact HK.out | simpa using HK.out | exact (HK.out.set_ 0 _).set_ 1 _) Tryd.underlying33 rfl (by kernel_rfl)) rfl (.inl ⟨by omega, by omega, rfl, HB2.out⟩)

set_option maxHeartbeats 1000000 in
/-- Both say nothing. -/
theorem tells_none (w : World) : Calls Tryd.prog 14 #[.nilIface, wrong0] w (YesB w) := by
  go_enter Tryd.func14, Tryd.ntmps14
  go_wp2_with fail
  go_ret
  exact ⟨rfl, (Below.refl _ _).alloc (Nat.le_refl _) _⟩
/-- Both say that there are too many lines. -/
theorem tells_over (w : World) (F g k : Nat) (hk : k = 0 ∨ k = 1) (hF : Blk w F 102 #[.string bLines, .int .i64 (k : Int), .iface 97 (.int .i64 4)]) (hg : Blk w g 104 #[.string bLines, .int .i64 (k : Int)]) (hE : ErrType w) :
    Calls Tryd.prog 14 #[theFault F, wrongG g 4] w (YesB w) :=
  tells_says w F g bLines (dg k) k 4 hF hg (by decide) (by rcases hk with rfl | rfl <;> decide) (by unfold To14; omega) hE (fun W => itoa_0 k (by omega) W) (fun W => decimal_0 k (by omega) W)
end Go.Proofs.YtdpoeagmeiedcaaDoor
