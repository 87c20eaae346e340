/-
  strconv.Itoa and rectoref3.Decimal from 10 to 19.
  strconv.Itoa and rectoref3.Decimal from 20 to 29.
  strconv.Itoa and rectoref3.Decimal from 30 to 39.
  strconv.Itoa and rectoref3.Decimal from 40 to 49.
  strconv.Itoa and rectoref3.Decimal from 50 to 59.
  strconv.Itoa and rectoref3.Decimal up to 59.
-/
import Derived.Test.YtdpoeagmeiedcaaDoorTErr
import Derived.Test.YtdpoeagmeiedcaaDoorTI0

namespace Go.Proofs.YtdpoeagmeiedcaaDoor
open Go Go.RowKit

set_option maxRecDepth 100000 in
set_option maxHeartbeats 8000000 in
theorem itoa_1 (n : Int) (h : n = 10 ∨ n = 11 ∨ n = 12 ∨ n = 13 ∨ n = 14 ∨ n = 15 ∨ n = 16 ∨ n = 17 ∨ n = 18 ∨ n = 19) (w : World) : Calls Tryd.prog 81 #[.int .i64 n] w fun e w' => e = .returned (.string (dg n.toNat)) ∧ w' = w := by
  rcases h with rfl | rfl | rfl | rfl | rfl | rfl | rfl | rfl | rfl | rfl
  all_goals
    go_enter Tryd.func81, Tryd.ntmps81
    go_wp2
    go_ret
    exact ⟨rfl, rfl⟩
set_option maxRecDepth 100000 in
set_option maxHeartbeats 8000000 in
theorem decimal_1 (n : Int) (h : n = 10 ∨ n = 11 ∨ n = 12 ∨ n = 13 ∨ n = 14 ∨ n = 15 ∨ n = 16 ∨ n = 17 ∨ n = 18 ∨ n = 19) (w : World) : Calls Tryd.prog 54 #[.int .i64 n] w fun e w' => e = .returned (.string (dg n.toNat)) ∧ Below w.heap.size w w' := by
  rcases h with rfl | rfl | rfl | rfl | rfl | rfl | rfl | rfl | rfl | rfl
  all_goals
    have cv : ∀ (W : World) (x : Int), 48 ≤ x → x ≤ 57 → (convert 117 9 (.slice (some ⟨W.heap.size, 0, none⟩) 1 1)).run Tryd.prog (W.alloc (.cells #[.int .u8 x] 5)) = .ok (.string ⟨#[UInt8.ofNat x.toNat]⟩) (W.alloc (.cells #[.int .u8 x] 5)) := fun W x h1 h2 => one_digit _ _ _ h1 h2 (by simp)
    have cw : ∀ (W : World) (o : Obj) (x : Int), 48 ≤ x → x ≤ 57 → (convert 117 9 (.slice (some ⟨W.heap.size + 1, 0, none⟩) 1 1)).run Tryd.prog ((W.alloc o).alloc (.cells #[.int .u8 x] 5)) = .ok (.string ⟨#[UInt8.ofNat x.toNat]⟩) ((W.alloc o).alloc (.cells #[.int .u8 x] 5)) := fun W o x h1 h2 => one_digit _ _ _ h1 h2 (by simp)
    go_enter Tryd.func54, Tryd.ntmps54
    go_wp2
    refine wp_loop_rounds 2 ?_
    rw [rounds_succ]
    go_wp2
    try (rw [rounds_succ]; go_wp2)
    go_ret
    refine ⟨rfl, ?_⟩
    first
      | exact (Below.refl _ _).alloc (Nat.le_refl _) _
      | exact ((Below.refl _ _).alloc (Nat.le_refl _) _).alloc (by simp) _
end Go.Proofs.YtdpoeagmeiedcaaDoor

namespace Go.Proofs.YtdpoeagmeiedcaaDoor
open Go Go.RowKit

set_option maxRecDepth 100000 in
set_option maxHeartbeats 8000000 in
theorem itoa_2 (n : Int) (h : n = 20 ∨ n = 21 ∨ n = 22 ∨ n = 23 ∨ n = 24 ∨ n = 25 ∨ n = 26 ∨ n = 27 ∨ n = 28 ∨ n = 29) (w : World) : Calls Tryd.prog 81 #[.int .i64 n] w fun e w' => e = .returned (.string (dg n.toNat)) ∧ w' = w := by
  rcases h with rfl | rfl | rfl | rfl | rfl | rfl | rfl | rfl | rfl | rfl
  all_goals
    go_enter Tryd.func81, Tryd.ntmps81
    go_wp2
    go_ret
    exact ⟨rfl, rfl⟩
set_option maxRecDepth 100000 in
set_option maxHeartbeats 8000000 in
theorem decimal_2 (n : Int) (h : n = 20 ∨ n = 21 ∨ n = 22 ∨ n = 23 ∨ n = 24 ∨ n = 25 ∨ n = 26 ∨ n = 27 ∨ n = 28 ∨ n = 29) (w : World) : Calls Tryd.prog 54 #[.int .i64 n] w fun e w' => e = .returned (.string (dg n.toNat)) ∧ Below w.heap.size w w' := by
  rcases h with rfl | rfl | rfl | rfl | rfl | rfl | rfl | rfl | rfl | rfl
  all_goals
    have cv : ∀ (W : World) (x : Int), 48 ≤ x → x ≤ 57 → (convert 117 9 (.slice (some ⟨W.heap.size, 0, none⟩) 1 1)).run Tryd.prog (W.alloc (.cells #[.int .u8 x] 5)) = .ok (.string ⟨#[UInt8.ofNat x.toNat]⟩) (W.alloc (.cells #[.int .u8 x] 5)) := fun W x h1 h2 => one_digit _ _ _ h1 h2 (by simp)
    have cw : ∀ (W : World) (o : Obj) (x : Int), 48 ≤ x → x ≤ 57 → (convert 117 9 (.slice (some ⟨W.heap.size + 1, 0, none⟩) 1 1)).run Tryd.prog ((W.alloc o).alloc (.cells #[.int .u8 x] 5)) = .ok (.string ⟨#[UInt8.ofNat x.toNat]⟩) ((W.alloc o).alloc (.cells #[.int .u8 x] 5)) := fun W o x h1 h2 => one_digit _ _ _ h1 h2 (by simp)
    go_enter Tryd.func54, Tryd.ntmps54
    go_wp2
    refine wp_loop_rounds 2 ?_
    rw [rounds_succ]
    go_wp2
    try (rw [rounds_succ]; go_wp2)
    go_ret
    refine ⟨rfl, ?_⟩
    first
      | exact (Below.refl _ _).alloc (Nat.le_refl _) _
      | exact ((Below.refl _ _).alloc (Nat.le_refl _) _).alloc (by simp) _
end Go.Proofs.YtdpoeagmeiedcaaDoor

namespace Go.Proofs.YtdpoeagmeiedcaaDoor
open Go Go.RowKit

set_option maxRecDepth 100000 in
set_option maxHeartbeats 8000000 in
theorem itoa_3 (n : Int) (h : n = 30 ∨ n = 31 ∨ n = 32 ∨ n = 33 ∨ n = 34 ∨ n = 35 ∨ n = 36 ∨ n = 37 ∨ n = 38 ∨ n = 39) (w : World) : Calls Tryd.prog 81 #[.int .i64 n] w fun e w' => e = .returned (.string (dg n.toNat)) ∧ w' = w := by
  rcases h with rfl | rfl | rfl | rfl | rfl | rfl | rfl | rfl | rfl | rfl
  all_goals
    go_enter Tryd.func81, Tryd.ntmps81
    go_wp2
    go_ret
    exact ⟨rfl, rfl⟩
set_option maxRecDepth 100000 in
set_option maxHeartbeats 8000000 in
theorem decimal_3 (n : Int) (h : n = 30 ∨ n = 31 ∨ n = 32 ∨ n = 33 ∨ n = 34 ∨ n = 35 ∨ n = 36 ∨ n = 37 ∨ n = 38 ∨ n = 39) (w : World) : Calls Tryd.prog 54 #[.int .i64 n] w fun e w' => e = .returned (.string (dg n.toNat)) ∧ Below w.heap.size w w' := by
  rcases h with rfl | rfl | rfl | rfl | rfl | rfl | rfl | rfl | rfl | rfl
  all_goals
    have cv : ∀ (W : World) (x : Int), 48 ≤ x → x ≤ 57 → (convert 117 9 (.slice (some ⟨W.heap.size, 0, none⟩) 1 1)).run Tryd.prog (W.alloc (.cells #[.int .u8 x] 5)) = .ok (.string ⟨#[UInt8.ofNat x.toNat]⟩) (W.alloc (.cells #[.int .u8 x] 5)) := fun W x h1 h2 => one_digit _ _ _ h1 h2 (by simp)
    have cw : ∀ (W : World) (o : Obj) (x : Int), 48 ≤ x → x ≤ 57 → (convert 117 9 (.slice (some ⟨W.heap.size + 1, 0, none⟩) 1 1)).run Tryd.prog ((W.alloc o).alloc (.cells #[.int .u8 x] 5)) = .ok (.string ⟨#[UInt8.ofNat x.toNat]⟩) ((W.alloc o).alloc (.cells #[.int .u8 x] 5)) := fun W o x h1 h2 => one_digit _ _ _ h1 h2 (by simp)
    go_enter Tryd.func54, Tryd.ntmps54
    go_wp2
    refine wp_loop_rounds 2 ?_
    rw [rounds_succ]
    go_wp2
    try (rw [rounds_succ]; go_wp2)
    go_ret
    refine ⟨rfl, ?_⟩
    first
      | exact (Below.refl _ _).alloc (Nat.le_refl _) _
      | exact ((Below.refl _ _).alloc (Nat.le_refl _) _).alloc (by simp) _
end Go.Proofs.YtdpoeagmeiedcaaDoor

namespace Go.Proofs.YtdpoeagmeiedcaaDoor
open Go Go.RowKit

set_option maxRecDepth 100000 in
set_option maxHeartbeats 8000000 in
theorem itoa_4 (n : Int) (h : n = 40 ∨ n = 41 ∨ n = 42 ∨ n = 43 ∨ n = 44 ∨ n = 45 ∨ n = 46 ∨ n = 47 ∨ n = 48 ∨ n = 49) (w : World) : Calls Tryd.prog 81 #[.int .i64 n] w fun e w' => e = .returned (.string (dg n.toNat)) ∧ w' = w := by
  rcases h with rfl | rfl | rfl | rfl | rfl | rfl | rfl | rfl | rfl | rfl
  all_goals
    go_enter Tryd.func81, Tryd.ntmps81
    go_wp2
    go_ret
    exact ⟨rfl, rfl⟩
set_option maxRecDepth 100000 in
set_option maxHeartbeats 8000000 in
theorem decimal_4 (n : Int) (h : n = 40 ∨ n = 41 ∨ n = 42 ∨ n = 43 ∨ n = 44 ∨ n = 45 ∨ n = 46 ∨ n = 47 ∨ n = 48 ∨ n = 49) (w : World) : Calls Tryd.prog 54 #[.int .i64 n] w fun e w' => e = .returned (.string (dg n.toNat)) ∧ Below w.heap.size w w' := by
  rcases h with rfl | rfl | rfl | rfl | rfl | rfl | rfl | rfl | rfl | rfl
  all_goals
    have cv : ∀ (W : World) (x : Int), 48 ≤ x → x ≤ 57 → (convert 117 9 (.slice (some ⟨W.heap.size, 0, none⟩) 1 1)).run Tryd.prog (W.alloc (.cells #[.int .u8 x] 5)) = .ok (.string ⟨#[UInt8.ofNat x.toNat]⟩) (W.alloc (.cells #[.int .u8 x] 5)) := fun W x h1 h2 => one_digit _ _ _ h1 h2 (by simp)
    have cw : ∀ (W : World) (o : Obj) (x : Int), 48 ≤ x → x ≤ 57 → (convert 117 9 (.slice (some ⟨W.heap.size + 1, 0, none⟩) 1 1)).run Tryd.prog ((W.alloc o).alloc (.cells #[.int .u8 x] 5)) = .ok (.string ⟨#[UInt8.ofNat x.toNat]⟩) ((W.alloc o).alloc (.cells #[.int .u8 x] 5)) := fun W o x h1 h2 => one_digit _ _ _ h1 h2 (by simp)
    go_enter Tryd.func54, Tryd.ntmps54
    go_wp2
    refine wp_loop_rounds 2 ?_
    rw [rounds_succ]
    go_wp2
    try (rw [rounds_succ]; go_wp2)
    go_ret
    refine ⟨rfl, ?_⟩
    first
      | exact (Below.refl _ _).alloc (Nat.le_refl _) _
      | exact ((Below.refl _ _).alloc (Nat.le_refl _) _).alloc (by simp) _
end Go.Proofs.YtdpoeagmeiedcaaDoor

namespace Go.Proofs.YtdpoeagmeiedcaaDoor
open Go Go.RowKit

set_option maxRecDepth 100000 in
set_option maxHeartbeats 8000000 in
theorem itoa_5 (n : Int) (h : n = 50 ∨ n = 51 ∨ n = 52 ∨ n = 53 ∨ n = 54 ∨ n = 55 ∨ n = 56 ∨ n = 57 ∨ n = 58 ∨ n = 59) (w : World) : Calls Tryd.prog 81 #[.int .i64 n] w fun e w' => e = .returned (.string (dg n.toNat)) ∧ w' = w := by
  rcases h with rfl | rfl | rfl | rfl | rfl | rfl | rfl | rfl | rfl | rfl
  all_goals
    go_enter Tryd.func81, Tryd.ntmps81
    go_wp2
    go_ret
    exact ⟨rfl, rfl⟩
set_option maxRecDepth 100000 in
set_option maxHeartbeats 8000000 in
theorem decimal_5 (n : Int) (h : n = 50 ∨ n = 51 ∨ n = 52 ∨ n = 53 ∨ n = 54 ∨ n = 55 ∨ n = 56 ∨ n = 57 ∨ n = 58 ∨ n = 59) (w : World) : Calls Tryd.prog 54 #[.int .i64 n] w fun e w' => e = .returned (.string (dg n.toNat)) ∧ Below w.heap.size w w' := by
  rcases h with rfl | rfl | rfl | rfl | rfl | rfl | rfl | rfl | rfl | rfl
  all_goals
    have cv : ∀ (W : World) (x : Int), 48 ≤ x → x ≤ 57 → (convert 117 9 (.slice (some ⟨W.heap.size, 0, none⟩) 1 1)).run Tryd.prog (W.alloc (.cells #[.int .u8 x] 5)) = .ok (.string ⟨#[UInt8.ofNat x.toNat]⟩) (W.alloc (.cells #[.int .u8 x] 5)) := fun W x h1 h2 => one_digit _ _ _ h1 h2 (by simp)
    have cw : ∀ (W : World) (o : Obj) (x : Int), 48 ≤ x → x ≤ 57 → (convert 117 9 (.slice (some ⟨W.heap.size + 1, 0, none⟩) 1 1)).run Tryd.prog ((W.alloc o).alloc (.cells #[.int .u8 x] 5)) = .ok (.string ⟨#[UInt8.ofNat x.toNat]⟩) ((W.alloc o).alloc (.cells #[.int .u8 x] 5)) := fun W o x h1 h2 => one_digit _ _ _ h1 h2 (by simp)
    go_enter Tryd.func54, Tryd.ntmps54
    go_wp2
    refine wp_loop_rounds 2 ?_
    rw [rounds_succ]
    go_wp2
    try (rw [rounds_succ]; go_wp2)
    go_ret
    refine ⟨rfl, ?_⟩
    first
      | exact (Below.refl _ _).alloc (Nat.le_refl _) _
      | exact ((Below.refl _ _).alloc (Nat.le_refl _) _).alloc (by simp) _
end Go.Proofs.YtdpoeagmeiedcaaDoor

namespace Go.Proofs.YtdpoeagmeiedcaaDoor
open Go Go.RowKit

theorem itoa_59 (n : Nat) (h : n ≤ 59) (w : World) : Calls Tryd.prog 81 #[.int .i64 (n : Int)] w fun e w' => e = .returned (.string (dg n)) ∧ w' = w := by
  by_cases h0 : n ≤ 9
  · exact itoa_0 (n : Int) (by omega) w
  by_cases h1 : n ≤ 19
  · exact itoa_1 (n : Int) (by omega) w
  by_cases h2 : n ≤ 29
  · exact itoa_2 (n : Int) (by omega) w
  by_cases h3 : n ≤ 39
  · exact itoa_3 (n : Int) (by omega) w
  by_cases h4 : n ≤ 49
  · exact itoa_4 (n : Int) (by omega) w
  exact itoa_5 (n : Int) (by omega) w
theorem decimal_59 (n : Nat) (h : n ≤ 59) (w : World) : Calls Tryd.prog 54 #[.int .i64 (n : Int)] w fun e w' => e = .returned (.string (dg n)) ∧ Below w.heap.size w w' := by
  by_cases h0 : n ≤ 9
  · exact decimal_0 (n : Int) (by omega) w
  by_cases h1 : n ≤ 19
  · exact decimal_1 (n : Int) (by omega) w
  by_cases h2 : n ≤ 29
  · exact decimal_2 (n : Int) (by omega) w
  by_cases h3 : n ≤ 39
  · exact decimal_3 (n : Int) (by omega) w
  by_cases h4 : n ≤ 49
  · exact decimal_4 (n : Int) (by omega) w
  exact decimal_5 (n : Int) (by omega) w
end Go.Proofs.YtdpoeagmeiedcaaDoor
