/-
  The words of every Errno but OK, and of the document's.
-/
import Derived.Test.YtanjcjnkppnhcaaGreatDoorQAI

namespace Go.Proofs.YtanjcjnkppnhcaaGreatDoor
open Go Go.RowKit

def To14 (e : Int) : Prop := e = 1 ∨ e = 2 ∨ e = 3 ∨ e = 4 ∨ e = 5 ∨ e = 6 ∨ e = 7 ∨ e = 8 ∨ e = 9 ∨ e = 10 ∨ e = 11 ∨ e = 12 ∨ e = 13 ∨ e = 14
/-- An Errno's word. -/
def ew (e : Int) : ByteArray :=
  if e = 1 then ⟨#[97, 114, 103]⟩ else if e = 2 then ⟨#[102, 111, 114, 109]⟩ else if e = 3 then ⟨#[115, 104, 111, 114, 116]⟩ else if e = 4 then ⟨#[108, 111, 110, 103]⟩
  else if e = 5 then ⟨#[110, 97, 109, 101]⟩ else if e = 6 then ⟨#[116, 119, 105, 99, 101]⟩ else if e = 7 then ⟨#[115, 116, 97, 116, 101]⟩ else if e = 8 then ⟨#[100, 105, 114, 116, 121]⟩
  else if e = 9 then ⟨#[99, 111, 110, 102, 108, 105, 99, 116]⟩ else if e = 10 then ⟨#[115, 97, 109, 101]⟩ else if e = 11 then ⟨#[119, 97, 121]⟩ else if e = 12 then ⟨#[115, 117, 109]⟩
  else if e = 13 then ⟨#[100, 111, 119, 110]⟩ else ⟨#[113, 117, 111, 116, 97]⟩
theorem ew_size {e : Int} (h : To14 e) : (ew e).size ≤ 8 := by
  rcases h with rfl | rfl | rfl | rfl | rfl | rfl | rfl | rfl | rfl | rfl | rfl | rfl | rfl | rfl <;> decide

set_option maxRecDepth 100000 in
set_option maxHeartbeats 4000000 in
theorem errno_any (e : Int) (h : To14 e) (w : World) : Calls Tryz.prog 180 #[.int .i64 e] w fun x w' => x = .returned (.string (ew e)) ∧ w' = w := by
  rcases h with rfl | rfl | rfl | rfl | rfl | rfl | rfl | rfl | rfl | rfl | rfl | rfl | rfl | rfl
  all_goals
    go_enter Tryz.func180, Tryz.ntmps180
    go_wp2
    go_ret
    exact ⟨rfl, rfl⟩
set_option maxRecDepth 100000 in
set_option maxHeartbeats 8000000 in
theorem refErr_any (e : Int) (h : To14 e) (w : World) : Calls Tryz.prog 79 #[.int .i64 e] w fun x w' => x = .returned (.string (ew e)) ∧ Below w.heap.size w w' := by
  rcases h with rfl | rfl | rfl | rfl | rfl | rfl | rfl | rfl | rfl | rfl | rfl | rfl | rfl | rfl
  all_goals
    go_enter Tryz.func79, Tryz.ntmps79
    go_wp2
    go_ret
    exact ⟨rfl, (Below.refl _ _).alloc (Nat.le_refl _) _⟩
end Go.Proofs.YtanjcjnkppnhcaaGreatDoor
