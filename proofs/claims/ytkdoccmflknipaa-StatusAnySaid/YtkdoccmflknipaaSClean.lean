/-
  status.Clean: whether no line is of a path that anybody asked to keep; rectolaw14.Rises: whether a tree rises; rectolaw19.letter.
-/
import Derived.Test.YtkdoccmflknipaaSRows
namespace Go.Proofs.Ytkdoccmflknipaa
open Go.RowKit

def cleanB (l : List Ln) : Bool := l.all fun x => decide (x.2.1 = 32) && decide (x.2.2 = 63)
def FlagTo (b : Bool) (w : World) (e : Ending) (w' : World) : Prop := e = .returned (.bool b) ∧ Below w.heap.size w w'

set_option maxHeartbeats 4000000 in
theorem clean_any (w : World) (v : Value) (l : List Ln) (h : Reads 3 cL w v l) (hl : l.length ≤ 100000) :
    Calls Try.prog 20 #[v] w (FlagTo (cleanB l) w) := by
  obtain ⟨A, c, rfl⟩ := h.form
  have hn := h.len
  have HO := Lib.hid h
  clear h hn
  go_enter Try.func20, Try.ntmps20
  go_wp2
  go_loopw [7] (fun s7 wr => ∃ k : Nat, k ≤ l.length ∧ s7 = .int .i64 k ∧ Hid (cleanB (l.take k) = true) ∧ Below w.heap.size w wr) (fun s7 _ => l.length - (intOf s7).toNat)
  case atStart => exact ⟨0, Nat.zero_le _, rfl, Lib.hid rfl, Below.refl _ _⟩
  case round =>
    obtain ⟨k, hk, rfl, hc, hb⟩ := hrel
    by_cases hlt : k < l.length
    · obtain ⟨x, hx⟩ : ∃ x, l[k]? = some x := ⟨_, List.getElem?_eq_getElem hlt⟩
      obtain ⟨ad, rfl, c0, c1, c2⟩ := Lins.at_ (HO.out.below hb) hx
      have HT := Lib.hid (show cleanB (l.take (k + 1)) = (cleanB (l.take k) && (decide (x.2.1 = 32) && decide (x.2.2 = 63))) by rw [take_snoc hx]; simp [cleanB])
      have HNO := Lib.hid (show (decide (x.2.1 = 32) && decide (x.2.2 = 63)) = false → cleanB l = false from fun h => by
        unfold cleanB
        rw [List.all_eq_false]
        exact ⟨x, List.mem_of_getElem? hx, by rw [h]; decide⟩)
      obtain ⟨p, X, Y⟩ := x
      have k0 : (0 : Int) ≤ (k : Int) := Int.natCast_nonneg _
      have k1 : (k : Int) < (l.length : Int) := by omega
      have hcl := World.block_lt_of_cell? _ _ c0
      have hsz := hb.size
      have b4 := hb.alloc hsz (.cells #[.string p, .int .u8 X, .int .u8 Y] 58)
      clear hx
      by_cases hY : Y = 63
      · subst hY
        by_cases hX : X = 32
        · subst hX
          go_wp2
          go_roundw
          case rel => exact ⟨k + 1, by omega, by go_num, Lib.hid (by rw [HT.out, hc.out]; rfl), b4⟩
          case measure => simp [intOf]; omega
        · have hXb : (X == 32) = false := by simpa using hX
          have HC := Lib.hid (HNO.out (by simp [hX]))
          go_wp2
          go_ret
          exact ⟨by rw [HC.out]; rfl, b4⟩
      · have hYb : (Y == 63) = false := by simpa using hY
        have HC := Lib.hid (HNO.out (by simp [hY]))
        go_wp2
        go_ret
        exact ⟨by rw [HC.out]; rfl, b4⟩
    · obtain rfl : k = l.length := by omega
      have HC := Lib.hid (show cleanB l = true by have := hc.out; rw [List.take_length] at this; exact this)
      go_wp2
      go_ret
      exact ⟨by rw [HC.out]; rfl, hb⟩
end Go.Proofs.Ytkdoccmflknipaa
