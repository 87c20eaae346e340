/-
  simfs: settle.
-/
import Derived.Test.YtcnmlgmlijgmhaaDoorSfD
import Derived.Shelf.Lay
import Derived.Ground.SlmcProg
import Derived.Shelf.SlMaps.Clone
namespace Go.Proofs
open Go.Shelf
shelf_lay_g SlLaysW.n5 Slmc 5 at Tryd 36 as Tryd.cloneT
end Go.Proofs
namespace Go.Proofs.YtcnmlgmlijgmhaaDoor
open Go Go.RowKit Go.Shelf Go.Maps

set_option maxRecDepth 100000 in
set_option maxHeartbeats 2000000 in
theorem settle_any {w : World} {F bf bs n : Nat} {T S : Tr} {vp : Value} {q now ino ops : Int} {off : Bool} {armed : Int} {vk : Value} (h : FsIs w F bf bs n T S vp q now ino ops off armed vk) :
    Calls Tryd.prog 57 #[.pointer (some ⟨F, 0, none⟩)] w fun e w' => ∃ bs', e = .returned (.tuple #[]) ∧ FsIs w' F bf bs' n T T (.slice none 0 0) q now ino ops off armed vk ∧ w.grownBy w' (some F) := by
  have c2 := h.x.cell 2
  have f2 := h.x.frozen 2
  have X1 := Lib.hid (show Blk (w.setCell ⟨F, 2, none⟩ (.slice none 0 0)) F 74 #[.map (some bf), .map (some bs), .slice none 0 0, .int .i64 q, .int .i64 now, .int .i64 ino, .int .i64 ops, .bool off, .int .i64 armed, vk] from by simpa using h.x.set_ 2 (.slice none 0 0))
  have T1 := Lib.hid (h.f.setCell (a := ⟨F, 2, none⟩) (Ne.symm (blk_tree_ne h.x h.f)) (.slice none 0 0))
  have HF := Lib.hid h.x.lt
  have c0' := X1.out.cell 0
  have CL := Lib.hid (AnyW.maps_Clone_owns Tryd.cloneT 9 fileR bf n (mapD T) _ T1.out)
  have HS := Lib.hid h.f.lt
  have HX := Lib.hid h.x
  clear h
  go_enter Tryd.func57, Tryd.ntmps57
  go_wp2_with fail
  refine CL.out.mono ?_
  rintro e w2 ⟨rfl, h1, h2, hb⟩
  have X2 := Lib.hid (X1.out.below hb (by simpa using HF.out))
  have HN := Lib.hid h1
  have HO := Lib.hid h2
  have HB := Lib.hid hb
  have x1 := X2.out.cell 1
  have y1 := X2.out.frozen 1
  clear h1 h2 hb c2 c0' f2 CL
  go_wp2
  refine ⟨rfl, _, (by first | rfl | kernel_rfl), w.heap.size, rfl, ⟨?_, ?_, ?_, ?_⟩, ?_⟩
  · simpa using X2.out.set_ 1 (.map (some w.heap.size))
  · exact World.ownsMap.setCell HO.out (a := ⟨F, 1, none⟩) (Ne.symm (blk_tree_ne X2.out (show TreeIs w2 bf n T from HO.out))) _
  · have h : TreeIs w2 w.heap.size n T := by have := HN.out; unfold TreeIs; simpa using this
    exact h.setCell (a := ⟨F, 1, none⟩) (Ne.symm (blk_tree_ne X2.out h)) _
  · have := HS.out; omega
  · have g1 := grown_cellF w F 2 (.slice none 0 0)
    have g2 : (w.setCell ⟨F, 2, none⟩ (.slice none 0 0)).grownBy w2 (some F) := ⟨HB.out.os, HB.out.tape, HB.out.output, HB.out.size, fun k hk _ => HB.out.block k hk⟩
    exact (g1.andThen g2 (row := some F) (fun j hj => .inr hj)).andThen (grown_cellF w2 F 1 _) (row := some F) (fun j hj => .inr hj)
end Go.Proofs.YtcnmlgmlijgmhaaDoor
