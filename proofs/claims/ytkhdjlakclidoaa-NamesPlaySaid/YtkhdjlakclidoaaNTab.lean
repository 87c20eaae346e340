/-
  A table of names in memory; (*Table).find and (*Table).Get.
-/
import Derived.Test.YtkhdjlakclidoaaNFind
namespace Go.Proofs.Ytkhdjlakclidoaa
open Go.RowKit

/-- A table: block T holds its three cells; its row is its own, rising. -/
structure Tab (w : World) (B T : Nat) (v : Value) (l : List Rf) (br : ByteArray) (d : Int) : Prop where
  blk : Blk w T 53 #[v, .string br, .int .i64 d]
  own : Own w B v l
  lo : B ≤ T
  few : l.length ≤ 64
  up : Rising l
theorem Tab.ne {w : World} {B T : Nat} {v : Value} {l : List Rf} {br : ByteArray} {d : Int} (h : Tab w B T v l br d) : v.ownBlock ≠ some T := own_blk_ne h.own h.blk (by decide)
theorem Tab.below {w w' : World} {B T : Nat} {v : Value} {l : List Rf} {br : ByteArray} {d : Int} (h : Tab w B T v l br d) (hb : Below w.heap.size w w') : Tab w' B T v l br d :=
  ⟨h.blk.below hb h.blk.lt, own_keep h.own hb, h.lo, h.few, h.up⟩
theorem Tab.cells {w : World} {B T : Nat} {v : Value} {l : List Rf} {br : ByteArray} {d : Int} (h : Tab w B T v l br d) :
    w.cell? ⟨T, 0, none⟩ = some v ∧ w.cell? ⟨T, 1, none⟩ = some (.string br) ∧ w.cell? ⟨T, 2, none⟩ = some (.int .i64 d) ∧ w.frozen? ⟨T, 0, none⟩ = false ∧ w.frozen? ⟨T, 1, none⟩ = false ∧ w.frozen? ⟨T, 2, none⟩ = false :=
  ⟨h.blk.cell 0, h.blk.cell 1, h.blk.cell 2, h.blk.frozen 0, h.blk.frozen 1, h.blk.frozen 2⟩

theorem find_any (w : World) (B T : Nat) (v : Value) (l : List Rf) (br s : ByteArray) (d : Int) (h : Tab w B T v l br d) :
    Calls Try.prog 24 #[.pointer (some ⟨T, 0, none⟩), .string s] w (Found l s w) := by
  obtain ⟨c0, _, _, f0, _, _⟩ := h.cells
  have hl := h.few
  have S := Lib.hid (search_any w B v l s h.own h.up (by omega))
  clear h
  go_enter Try.func24, Try.ntmps24
  go_wp2_with (go_at_call 30; refine S.out.mono ?_; rintro e w' ⟨rfl, hb⟩)
  go_ret2
  exact ⟨rfl, hb⟩

theorem find_is (w : World) (B T : Nat) (v : Value) (l : List Rf) (br s : ByteArray) (d : Int) (h : Tab w B T v l br d) (b : Bool) (hb : hasB l s = b) :
    Calls Try.prog 24 #[.pointer (some ⟨T, 0, none⟩), .string s] w fun e w' => e = .returned (.tuple #[.int .i64 (pos l s : Nat), .bool b]) ∧ Below w.heap.size w w' := by
  rw [← hb]; exact find_any w B T v l br s d h

def Got (l : List Rf) (s : ByteArray) (w : World) (e : Ending) (w' : World) : Prop := e = .returned (.tuple #[.int .i64 (getC l s), .bool (hasB l s)]) ∧ Below w.heap.size w w'

set_option maxHeartbeats 1000000 in
theorem get_any (w : World) (B T : Nat) (v : Value) (l : List Rf) (br s : ByteArray) (d : Int) (h : Tab w B T v l br d) :
    Calls Try.prog 20 #[.pointer (some ⟨T, 0, none⟩), .string s] w (Got l s w) := by
  have HT := Lib.hid h
  have hfew := h.few
  clear h
  have hp := pos_le l s
  cases hh : hasB l s with
  | false =>
    have HH := Lib.hid hh
    have HG : Hid (getC l s = 0) := by show getC l s = 0; unfold getC; rw [hh]; rfl
    have F := Lib.hid (find_is w B T v l br s d HT.out _ hh)
    clear hh
    go_enter Try.func20, Try.ntmps20
    go_wp2_with (go_at_call 24; refine F.out.mono ?_; rintro e w' ⟨rfl, hb⟩)
    go_ret2
    exact ⟨ret_fb (by rw [HG.out]) (by rw [HH.out]), hb⟩
  | true =>
    have HH := Lib.hid hh
    obtain ⟨c, hc⟩ := has_at hh
    have hlt := has_lt hh
    have HG : Hid (getC l s = c) := by show getC l s = c; unfold getC; rw [hh, hc]; rfl
    have F := Lib.hid (find_is w B T v l br s d HT.out _ hh)
    have HC := Lib.hid hc
    clear hh hc
    generalize pos l s = k at *
    go_enter Try.func20, Try.ntmps20
    go_wp2_with (go_at_call 24; refine F.out.mono ?_; rintro e w' ⟨rfl, hb⟩; have T1 := HT.out.below hb; obtain ⟨g, cap, rfl, x0, x1, g0, g1, hn, hmx, hg⟩ := Own.at_ T1.own HC.out; obtain ⟨c0, _, _, f0, _, _⟩ := T1.cells; clear T1)
    go_ret2
    exact ⟨ret_fb (by rw [HG.out]) (by rw [HH.out]), hb⟩
end Go.Proofs.Ytkhdjlakclidoaa
