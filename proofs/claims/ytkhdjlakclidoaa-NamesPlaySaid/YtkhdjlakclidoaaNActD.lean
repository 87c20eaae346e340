/-
  Behind two stores into the document's table.
-/
import Derived.Test.YtkhdjlakclidoaaNActC
namespace Go.Proofs.Ytkhdjlakclidoaa
open Go Go.RowKit

theorem acted_stored {w w1 : World} {B T : Nat} {v : Value} {l : List Rf} {br : ByteArray} {d : Int} (h : Doc w B T v l br d) (hb : Below w.heap.size w w1) (br' : ByteArray) (d' : Int) :
    Acted w B T v 0 l br' d' (.returned (.int .i64 0)) ((w1.setCell ⟨T, 1, none⟩ (.string br')).setCell ⟨T, 2, none⟩ (.int .i64 d')) := by
  have h1 := h.below hb
  have b2 : Blk ((w1.setCell ⟨T, 1, none⟩ (.string br')).setCell ⟨T, 2, none⟩ (.int .i64 d')) T 29 #[v, .string br', .int .i64 d'] := by simpa using (h1.blk.set_ 1 (.string br')).set_ 2 (.int .i64 d')
  have b1 : Blk (w1.setCell ⟨T, 1, none⟩ (.string br')) T 29 #[v, .string br', .int .i64 d] := by simpa using h1.blk.set_ 1 (.string br')
  have o1 : Own (w1.setCell ⟨T, 1, none⟩ (.string br')) B v l := h1.own.kept (grown_cell _ T 1 _) (.inr h1.ne)
  have o2 : Own ((w1.setCell ⟨T, 1, none⟩ (.string br')).setCell ⟨T, 2, none⟩ (.int .i64 d')) B v l := o1.kept (grown_cell _ T 2 _) (.inr h1.ne)
  refine ⟨rfl, v, o2, b2, h.lo, ?_, fun g hg => .inl hg⟩
  exact ((Two.of_below hb T _).trans (Two.set _ T 1 _ _) (.inl rfl)).trans (Two.set _ T 2 _ _) (.inl rfl)
theorem acted_one {w w1 : World} {B T : Nat} {v : Value} {l : List Rf} {br : ByteArray} {d : Int} (h : Doc w B T v l br d) (hb : Below w.heap.size w w1) (d' : Int) :
    Acted w B T v 0 l br d' (.returned (.int .i64 0)) (w1.setCell ⟨T, 2, none⟩ (.int .i64 d')) := by
  have h1 := h.below hb
  have b2 : Blk (w1.setCell ⟨T, 2, none⟩ (.int .i64 d')) T 29 #[v, .string br, .int .i64 d'] := by simpa using h1.blk.set_ 2 (.int .i64 d')
  have o2 : Own (w1.setCell ⟨T, 2, none⟩ (.int .i64 d')) B v l := h1.own.kept (grown_cell _ T 2 _) (.inr h1.ne)
  exact ⟨rfl, v, o2, b2, h.lo, (Two.of_below hb T _).trans (Two.set _ T 2 _ _) (.inl rfl), fun g hg => .inl hg⟩
end Go.Proofs.Ytkhdjlakclidoaa
