/-
  rectoref3.At: a refusal at one place.
-/
import Derived.Test.YtanjcjnkppnhcaaGreatDoorTdS
namespace Go.Proofs.YtanjcjnkppnhcaaGreatDoor
open Go Go.RowKit

theorem results_tmp_cell {fn : Func} {p u : Tmp} {ty : TypeId} (h : fn.results = #[.tmp u, .cell p ty]) (tmps : Array Value) (P : Program) (w : World) :
    (results fn tmps).run P w =
      ((asAddr (tmps.getD p undef)).run P w).andThen fun a w1 => ((loadVar ty a).run P w1).andThen fun x w2 => .ok (.tuple #[tmps.getD u undef, x]) w2 := by
  simp only [results, h]
  simp [Sem.run_bind, Result.andThen]
theorem results_tmp_row {P : Program} {fn : Func} {p u : Tmp} {ty : TypeId} (h : fn.results = #[.tmp u, .cell p ty]) (tmps : Array Value) (w : World) (g : Nat) (t : TypeId) (cs : Array Value) (fr : Nat × Nat) (d : TypeDesc)
    (hp : tmps.getD p undef = .pointer (some ⟨g, 0, none⟩)) (hg : w.heap[g]? = some (.cells cs t fr))
    (hu : P.underlying ty = some d) (hd : (match d with | .struct _ | .array _ _ => true | _ => false) = true) (hi : (P.info? ty).map (·.size) = some cs.size) :
    (results fn tmps).run P w = .ok (.tuple #[tmps.getD u undef, .agg cs]) w := by
  rw [results_tmp_cell h, hp]
  simp [asAddr, run_loadVar_row w g t ty cs fr d hg hu hd hi, Result.andThen]
set_option maxHeartbeats 1000000 in
theorem refAt_any (p : ByteArray) (n e : Int) (w : World) : Calls Tryz.prog 40 #[.string p, .int .i64 n, .int .i64 e] w fun x w' => ∃ g, x = .returned (.agg #[.slice (some ⟨g, 0, none⟩) 1 1, .int .i64 e]) ∧ Blk w' g 91 #[.string p, .int .i64 n] ∧ w.heap.size ≤ g ∧ Below w.heap.size w w' := by
  go_enter Tryz.func40, Tryz.ntmps40
  go_wp2
  refine bodyPost_ret (results_cell_row (fn := Tryz.f40) rfl _ _ w.heap.size 31 #[.slice (some ⟨w.heap.size + 1, 0, none⟩) 1 1, .int .i64 e] (0, 0) _ rfl ((Blk.new w 31 _).alloc _) Tryz.underlying31 rfl (by kernel_rfl)) rfl ⟨w.heap.size + 1, rfl, ?_, by omega, ((Below.refl _ _).alloc (Nat.le_refl _) _).alloc (by simp) _⟩
  have h := heap_alloc_new (w.alloc (.cells #[.slice (some ⟨w.heap.size + 1, 0, none⟩) 1 1, .int .i64 e] 31)) (.cells #[.string p, .int .i64 n] 91)
  rw [show (w.alloc (.cells #[.slice (some ⟨w.heap.size + 1, 0, none⟩) 1 1, .int .i64 e] 31)).heap.size = w.heap.size + 1 by simp] at h
  exact h
end Go.Proofs.YtanjcjnkppnhcaaGreatDoor
