/-
  strconv.Itoa and rectoref3.Decimal from 20 to 29.
  strconv.Itoa and rectoref3.Decimal from 30 to 39.
  strconv.Itoa and rectoref3.Decimal from 40 to 49.
  strconv.Itoa and rectoref3.Decimal from 50 to 59.
  strconv.Itoa and rectoref3.Decimal from 60 to 64.
  strconv.Itoa and rectoref3.Decimal from 0 to 64.
  append of one list of strings to a row of the call's own, whatever the other slice is; a struct behind a row of one's own.
  index.Of, index.Stage: a tree as entries, and the entries of a stage as a tree.
  index.Stage: the files of a stage.
  DERIVED: THE SHELF's CONTRACTS AT THIS DUMP, IN PLAIN WORDS (tools/lay-plain.mjs out of 'TrydShelf.lean', which tools/lay-shelf.mjs wrote): THE SAME DECLARATIONS UNDER THE SAME NAMES: 'import', 'namespace', 'open', 'def', 'theorem' AND NOTHING ELSE: no command of the shelf's: FOR A HAND-IN. Each laying: the table of numbers ('.._ren') and one theorem, a field a fact of the dump's own or the kernel's comparison; each contract: ONE APPLICATION.
  slices.SortFunc with path.Compare and slices.Compact, at a row of the call's own: the paths sorted, each once.
  index.Conflicts, files.Paths, status.Tracked, status.allPaths: paths sorted, each once.
-/
import Derived.Test.YtplleaimmmanhaaGreatDoorG1
import Derived.Test.YtplleaimmmanhaaGreatDoorG2
import Derived.Laws.AppendOwnNone
import Derived.Shelf.Small.Bits
import Derived.Shelf.Small.Strs
import Derived.Shelf.Small.Wraps
import Derived.Shelf.Strings.Search1
import Derived.Shelf.Strings.Search2
import Derived.Shelf.Strings.Search3
import Derived.Shelf.Slices.CompactS
import Derived.Ground.SlsfProg
import Derived.Shelf.SlSortCmp.Whole1
import Derived.Test.YtplleaimmmanhaaGreatDoorProg
import Derived.Sort.OwnSorted
namespace Go.Proofs.YtplleaimmmanhaaGreatDoor
open Go Go.RowKit

set_option maxRecDepth 100000 in
set_option maxHeartbeats 8000000 in
theorem itoa_2 (n : Int) (h : n = 20 ∨ n = 21 ∨ n = 22 ∨ n = 23 ∨ n = 24 ∨ n = 25 ∨ n = 26 ∨ n = 27 ∨ n = 28 ∨ n = 29) (w : World) : Calls Tryz.prog 195 #[.int .i64 n] w fun e w' => e = .returned (.string (dg n.toNat)) ∧ w' = w := by
  rcases h with rfl | rfl | rfl | rfl | rfl | rfl | rfl | rfl | rfl | rfl
  all_goals
    go_enter Tryz.func195, Tryz.ntmps195
    go_wp2
    go_ret
    exact ⟨rfl, rfl⟩
set_option maxRecDepth 100000 in
set_option maxHeartbeats 8000000 in
theorem decimal_2 (n : Int) (h : n = 20 ∨ n = 21 ∨ n = 22 ∨ n = 23 ∨ n = 24 ∨ n = 25 ∨ n = 26 ∨ n = 27 ∨ n = 28 ∨ n = 29) (w : World) : Calls Tryz.prog 93 #[.int .i64 n] w fun e w' => e = .returned (.string (dg n.toNat)) ∧ Below w.heap.size w w' := by
  rcases h with rfl | rfl | rfl | rfl | rfl | rfl | rfl | rfl | rfl | rfl
  all_goals
    have cv : ∀ (W : World) (x : Int), 48 ≤ x → x ≤ 57 → (convert 54 9 (.slice (some ⟨W.heap.size, 0, none⟩) 1 1)).run Tryz.prog (W.alloc (.cells #[.int .u8 x] 5)) = .ok (.string ⟨#[UInt8.ofNat x.toNat]⟩) (W.alloc (.cells #[.int .u8 x] 5)) := fun W x h1 h2 => one_digit _ _ _ h1 h2 (by simp)
    have cw : ∀ (W : World) (o : Obj) (x : Int), 48 ≤ x → x ≤ 57 → (convert 54 9 (.slice (some ⟨W.heap.size + 1, 0, none⟩) 1 1)).run Tryz.prog ((W.alloc o).alloc (.cells #[.int .u8 x] 5)) = .ok (.string ⟨#[UInt8.ofNat x.toNat]⟩) ((W.alloc o).alloc (.cells #[.int .u8 x] 5)) := fun W o x h1 h2 => one_digit _ _ _ h1 h2 (by simp)
    go_enter Tryz.func93, Tryz.ntmps93
    go_wp2
    refine wp_loop_rounds 2 ?_
    rw [rounds_succ]
    go_wp2
    try (rw [rounds_succ]; go_wp2)
    go_ret
    refine ⟨rfl, ?_⟩
    first
      | exact (Below.refl _ _).alloc (Nat.le_refl _) _
      | exact ((Below.refl _ _).alloc (Nat.le_refl _) _).alloc (by simp) _
end Go.Proofs.YtplleaimmmanhaaGreatDoor
namespace Go.Proofs.YtplleaimmmanhaaGreatDoor
open Go Go.RowKit

set_option maxRecDepth 100000 in
set_option maxHeartbeats 8000000 in
theorem itoa_3 (n : Int) (h : n = 30 ∨ n = 31 ∨ n = 32 ∨ n = 33 ∨ n = 34 ∨ n = 35 ∨ n = 36 ∨ n = 37 ∨ n = 38 ∨ n = 39) (w : World) : Calls Tryz.prog 195 #[.int .i64 n] w fun e w' => e = .returned (.string (dg n.toNat)) ∧ w' = w := by
  rcases h with rfl | rfl | rfl | rfl | rfl | rfl | rfl | rfl | rfl | rfl
  all_goals
    go_enter Tryz.func195, Tryz.ntmps195
    go_wp2
    go_ret
    exact ⟨rfl, rfl⟩
set_option maxRecDepth 100000 in
set_option maxHeartbeats 8000000 in
theorem decimal_3 (n : Int) (h : n = 30 ∨ n = 31 ∨ n = 32 ∨ n = 33 ∨ n = 34 ∨ n = 35 ∨ n = 36 ∨ n = 37 ∨ n = 38 ∨ n = 39) (w : World) : Calls Tryz.prog 93 #[.int .i64 n] w fun e w' => e = .returned (.string (dg n.toNat)) ∧ Below w.heap.size w w' := by
  rcases h with rfl | rfl | rfl | rfl | rfl | rfl | rfl | rfl | rfl | rfl
  all_goals
    have cv : ∀ (W : World) (x : Int), 48 ≤ x → x ≤ 57 → (convert 54 9 (.slice (some ⟨W.heap.size, 0, none⟩) 1 1)).run Tryz.prog (W.alloc (.cells #[.int .u8 x] 5)) = .ok (.string ⟨#[UInt8.ofNat x.toNat]⟩) (W.alloc (.cells #[.int .u8 x] 5)) := fun W x h1 h2 => one_digit _ _ _ h1 h2 (by simp)
    have cw : ∀ (W : World) (o : Obj) (x : Int), 48 ≤ x → x ≤ 57 → (convert 54 9 (.slice (some ⟨W.heap.size + 1, 0, none⟩) 1 1)).run Tryz.prog ((W.alloc o).alloc (.cells #[.int .u8 x] 5)) = .ok (.string ⟨#[UInt8.ofNat x.toNat]⟩) ((W.alloc o).alloc (.cells #[.int .u8 x] 5)) := fun W o x h1 h2 => one_digit _ _ _ h1 h2 (by simp)
    go_enter Tryz.func93, Tryz.ntmps93
    go_wp2
    refine wp_loop_rounds 2 ?_
    rw [rounds_succ]
    go_wp2
    try (rw [rounds_succ]; go_wp2)
    go_ret
    refine ⟨rfl, ?_⟩
    first
      | exact (Below.refl _ _).alloc (Nat.le_refl _) _
      | exact ((Below.refl _ _).alloc (Nat.le_refl _) _).alloc (by simp) _
end Go.Proofs.YtplleaimmmanhaaGreatDoor
namespace Go.Proofs.YtplleaimmmanhaaGreatDoor
open Go Go.RowKit

set_option maxRecDepth 100000 in
set_option maxHeartbeats 8000000 in
theorem itoa_4 (n : Int) (h : n = 40 ∨ n = 41 ∨ n = 42 ∨ n = 43 ∨ n = 44 ∨ n = 45 ∨ n = 46 ∨ n = 47 ∨ n = 48 ∨ n = 49) (w : World) : Calls Tryz.prog 195 #[.int .i64 n] w fun e w' => e = .returned (.string (dg n.toNat)) ∧ w' = w := by
  rcases h with rfl | rfl | rfl | rfl | rfl | rfl | rfl | rfl | rfl | rfl
  all_goals
    go_enter Tryz.func195, Tryz.ntmps195
    go_wp2
    go_ret
    exact ⟨rfl, rfl⟩
set_option maxRecDepth 100000 in
set_option maxHeartbeats 8000000 in
theorem decimal_4 (n : Int) (h : n = 40 ∨ n = 41 ∨ n = 42 ∨ n = 43 ∨ n = 44 ∨ n = 45 ∨ n = 46 ∨ n = 47 ∨ n = 48 ∨ n = 49) (w : World) : Calls Tryz.prog 93 #[.int .i64 n] w fun e w' => e = .returned (.string (dg n.toNat)) ∧ Below w.heap.size w w' := by
  rcases h with rfl | rfl | rfl | rfl | rfl | rfl | rfl | rfl | rfl | rfl
  all_goals
    have cv : ∀ (W : World) (x : Int), 48 ≤ x → x ≤ 57 → (convert 54 9 (.slice (some ⟨W.heap.size, 0, none⟩) 1 1)).run Tryz.prog (W.alloc (.cells #[.int .u8 x] 5)) = .ok (.string ⟨#[UInt8.ofNat x.toNat]⟩) (W.alloc (.cells #[.int .u8 x] 5)) := fun W x h1 h2 => one_digit _ _ _ h1 h2 (by simp)
    have cw : ∀ (W : World) (o : Obj) (x : Int), 48 ≤ x → x ≤ 57 → (convert 54 9 (.slice (some ⟨W.heap.size + 1, 0, none⟩) 1 1)).run Tryz.prog ((W.alloc o).alloc (.cells #[.int .u8 x] 5)) = .ok (.string ⟨#[UInt8.ofNat x.toNat]⟩) ((W.alloc o).alloc (.cells #[.int .u8 x] 5)) := fun W o x h1 h2 => one_digit _ _ _ h1 h2 (by simp)
    go_enter Tryz.func93, Tryz.ntmps93
    go_wp2
    refine wp_loop_rounds 2 ?_
    rw [rounds_succ]
    go_wp2
    try (rw [rounds_succ]; go_wp2)
    go_ret
    refine ⟨rfl, ?_⟩
    first
      | exact (Below.refl _ _).alloc (Nat.le_refl _) _
      | exact ((Below.refl _ _).alloc (Nat.le_refl _) _).alloc (by simp) _
end Go.Proofs.YtplleaimmmanhaaGreatDoor
namespace Go.Proofs.YtplleaimmmanhaaGreatDoor
open Go Go.RowKit

set_option maxRecDepth 100000 in
set_option maxHeartbeats 8000000 in
theorem itoa_5 (n : Int) (h : n = 50 ∨ n = 51 ∨ n = 52 ∨ n = 53 ∨ n = 54 ∨ n = 55 ∨ n = 56 ∨ n = 57 ∨ n = 58 ∨ n = 59) (w : World) : Calls Tryz.prog 195 #[.int .i64 n] w fun e w' => e = .returned (.string (dg n.toNat)) ∧ w' = w := by
  rcases h with rfl | rfl | rfl | rfl | rfl | rfl | rfl | rfl | rfl | rfl
  all_goals
    go_enter Tryz.func195, Tryz.ntmps195
    go_wp2
    go_ret
    exact ⟨rfl, rfl⟩
set_option maxRecDepth 100000 in
set_option maxHeartbeats 8000000 in
theorem decimal_5 (n : Int) (h : n = 50 ∨ n = 51 ∨ n = 52 ∨ n = 53 ∨ n = 54 ∨ n = 55 ∨ n = 56 ∨ n = 57 ∨ n = 58 ∨ n = 59) (w : World) : Calls Tryz.prog 93 #[.int .i64 n] w fun e w' => e = .returned (.string (dg n.toNat)) ∧ Below w.heap.size w w' := by
  rcases h with rfl | rfl | rfl | rfl | rfl | rfl | rfl | rfl | rfl | rfl
  all_goals
    have cv : ∀ (W : World) (x : Int), 48 ≤ x → x ≤ 57 → (convert 54 9 (.slice (some ⟨W.heap.size, 0, none⟩) 1 1)).run Tryz.prog (W.alloc (.cells #[.int .u8 x] 5)) = .ok (.string ⟨#[UInt8.ofNat x.toNat]⟩) (W.alloc (.cells #[.int .u8 x] 5)) := fun W x h1 h2 => one_digit _ _ _ h1 h2 (by simp)
    have cw : ∀ (W : World) (o : Obj) (x : Int), 48 ≤ x → x ≤ 57 → (convert 54 9 (.slice (some ⟨W.heap.size + 1, 0, none⟩) 1 1)).run Tryz.prog ((W.alloc o).alloc (.cells #[.int .u8 x] 5)) = .ok (.string ⟨#[UInt8.ofNat x.toNat]⟩) ((W.alloc o).alloc (.cells #[.int .u8 x] 5)) := fun W o x h1 h2 => one_digit _ _ _ h1 h2 (by simp)
    go_enter Tryz.func93, Tryz.ntmps93
    go_wp2
    refine wp_loop_rounds 2 ?_
    rw [rounds_succ]
    go_wp2
    try (rw [rounds_succ]; go_wp2)
    go_ret
    refine ⟨rfl, ?_⟩
    first
      | exact (Below.refl _ _).alloc (Nat.le_refl _) _
      | exact ((Below.refl _ _).alloc (Nat.le_refl _) _).alloc (by simp) _
end Go.Proofs.YtplleaimmmanhaaGreatDoor
namespace Go.Proofs.YtplleaimmmanhaaGreatDoor
open Go Go.RowKit

set_option maxRecDepth 100000 in
set_option maxHeartbeats 8000000 in
theorem itoa_6 (n : Int) (h : n = 60 ∨ n = 61 ∨ n = 62 ∨ n = 63 ∨ n = 64) (w : World) : Calls Tryz.prog 195 #[.int .i64 n] w fun e w' => e = .returned (.string (dg n.toNat)) ∧ w' = w := by
  rcases h with rfl | rfl | rfl | rfl | rfl
  all_goals
    go_enter Tryz.func195, Tryz.ntmps195
    go_wp2
    go_ret
    exact ⟨rfl, rfl⟩
set_option maxRecDepth 100000 in
set_option maxHeartbeats 8000000 in
theorem decimal_6 (n : Int) (h : n = 60 ∨ n = 61 ∨ n = 62 ∨ n = 63 ∨ n = 64) (w : World) : Calls Tryz.prog 93 #[.int .i64 n] w fun e w' => e = .returned (.string (dg n.toNat)) ∧ Below w.heap.size w w' := by
  rcases h with rfl | rfl | rfl | rfl | rfl
  all_goals
    have cv : ∀ (W : World) (x : Int), 48 ≤ x → x ≤ 57 → (convert 54 9 (.slice (some ⟨W.heap.size, 0, none⟩) 1 1)).run Tryz.prog (W.alloc (.cells #[.int .u8 x] 5)) = .ok (.string ⟨#[UInt8.ofNat x.toNat]⟩) (W.alloc (.cells #[.int .u8 x] 5)) := fun W x h1 h2 => one_digit _ _ _ h1 h2 (by simp)
    have cw : ∀ (W : World) (o : Obj) (x : Int), 48 ≤ x → x ≤ 57 → (convert 54 9 (.slice (some ⟨W.heap.size + 1, 0, none⟩) 1 1)).run Tryz.prog ((W.alloc o).alloc (.cells #[.int .u8 x] 5)) = .ok (.string ⟨#[UInt8.ofNat x.toNat]⟩) ((W.alloc o).alloc (.cells #[.int .u8 x] 5)) := fun W o x h1 h2 => one_digit _ _ _ h1 h2 (by simp)
    go_enter Tryz.func93, Tryz.ntmps93
    go_wp2
    refine wp_loop_rounds 2 ?_
    rw [rounds_succ]
    go_wp2
    try (rw [rounds_succ]; go_wp2)
    go_ret
    refine ⟨rfl, ?_⟩
    first
      | exact (Below.refl _ _).alloc (Nat.le_refl _) _
      | exact ((Below.refl _ _).alloc (Nat.le_refl _) _).alloc (by simp) _
end Go.Proofs.YtplleaimmmanhaaGreatDoor
namespace Go.Proofs.YtplleaimmmanhaaGreatDoor
open Go Go.RowKit
theorem itoa_64 (n : Nat) (h : n ≤ 64) (w : World) : Calls Tryz.prog 195 #[.int .i64 n] w fun e w' => e = .returned (.string (dg n)) ∧ w' = w := by
  have key : ∀ k, k < 7 → n / 10 = k → Calls Tryz.prog 195 #[.int .i64 n] w fun e w' => e = .returned (.string (dg ((n : Int).toNat))) ∧ w' = w := fun k hk h1 => by
    match k, hk with
    | 0, _ => exact itoa_0 n (by omega) w
    | 1, _ => exact itoa_1 n (by omega) w
    | 2, _ => exact itoa_2 n (by omega) w
    | 3, _ => exact itoa_3 n (by omega) w
    | 4, _ => exact itoa_4 n (by omega) w
    | 5, _ => exact itoa_5 n (by omega) w
    | 6, _ => exact itoa_6 n (by omega) w
  exact key (n / 10) (by omega) rfl
theorem decimal_64 (n : Nat) (h : n ≤ 64) (w : World) : Calls Tryz.prog 93 #[.int .i64 n] w fun e w' => e = .returned (.string (dg n)) ∧ Below w.heap.size w w' := by
  have key : ∀ k, k < 7 → n / 10 = k → Calls Tryz.prog 93 #[.int .i64 n] w fun e w' => e = .returned (.string (dg ((n : Int).toNat))) ∧ Below w.heap.size w w' := fun k hk h1 => by
    match k, hk with
    | 0, _ => exact decimal_0 n (by omega) w
    | 1, _ => exact decimal_1 n (by omega) w
    | 2, _ => exact decimal_2 n (by omega) w
    | 3, _ => exact decimal_3 n (by omega) w
    | 4, _ => exact decimal_4 n (by omega) w
    | 5, _ => exact decimal_5 n (by omega) w
    | 6, _ => exact decimal_6 n (by omega) w
  exact key (n / 10) (by omega) rfl
end Go.Proofs.YtplleaimmmanhaaGreatDoor
namespace Go.Proofs.YtplleaimmmanhaaGreatDoor
open Go.RowKit

theorem run_append_strs (w : World) (ty : TypeId) (base n : Nat) (v : Value) (xs ys : List ByteArray) (hown : w.ownsRow base 9 1 v n (xs.map Value.string)) (A : Option Addr) (m c : Nat) (h : Strs w (.slice A m c) ys) (hl : n + m ≤ 1000000) (hbase : base ≤ w.heap.size) :
    ∃ A' m' c' w', (Builtin.append_ #[66, 66] ty #[v, .slice A m c]).run Tryz.prog w = .ok (.slice A' m' c') w' ∧ w'.ownsRow base 9 1 (.slice A' m' c') (n + m) ((xs ++ ys).map Value.string) ∧ Below base w w' ∧ w.grownBy w' v.ownBlock := by
  obtain ⟨i0, hi, hz0, hz1, hz2⟩ := info_parts strInfo
  obtain ⟨A0, c0, hv, h1, h2, h3, h4⟩ := h
  injection hv with e1 e2 e3
  subst e1; subst e3
  cases A with
  | none =>
    have hc := h3 rfl
    subst hc
    have hm : m = 0 := by omega
    subst hm
    have : ys = [] := List.eq_nil_of_length_eq_zero (by omega)
    subst this
    obtain ⟨A', c', rfl⟩ := own_form hown
    have hr := run_append_owned_none (P := Tryz.prog) (w := w) base 66 ty 9 i0 1 Tryz.underlying66 hi _ n _ hown
    exact ⟨A', _, c', w, hr, by simpa using hown, Below.refl _ _, World.grownBy.refl _ _⟩
  | some ad =>
    obtain ⟨v', w', hr, ho, hg, _⟩ := run_append_own (P := Tryz.prog) w base 66 ty 9 i0 (.string { data := #[] }) 1 16 Tryz.underlying66 hi hz0 hz1 hz2 rfl (by decide) v n (xs.map Value.string) hown ad m c (ys.map Value.string) (by simp [e2]) (by
      intro j u hu
      rw [List.getElem?_map] at hu
      cases hs : ys[j]? with
      | none => rw [hs] at hu; cases hu
      | some s => rw [hs] at hu; cases hu; exact h4 ad rfl j s hs) (by intro u hu; obtain ⟨x, _, rfl⟩ := List.mem_map.1 hu; rfl) (by unfold maxLen; omega) (by omega) hbase
    obtain ⟨A', c', rfl⟩ := own_form ho
    exact ⟨A', _, c', w', hr, by simpa using ho, (Below.refl base w).grown hg hbase fun k hk => (hown.lt k hk).1, hg⟩

theorem wp_append_strs (w : World) {o : Oper} {a : Act} {K : Act → World → Prop} {Q : Exit → Act → World → Prop} (s x : Operand)
    (ho : o.op = .call { callee := .builtin .append, args := #[s, x], argTypes := #[66, 66] })
    (base n : Nat) (v : Value) (xs ys : List ByteArray) (hs : a.eval s = v) (hown : w.ownsRow base 9 1 v n (xs.map Value.string)) (A : Option Addr) (m c : Nat) (hx : a.eval x = .slice A m c) (h : Strs w (.slice A m c) ys) (hl : n + m ≤ 1000000) (hbase : base ≤ w.heap.size)
    (hk : ∀ A' m' c' w', w'.ownsRow base 9 1 (.slice A' m' c') (n + m) ((xs ++ ys).map Value.string) → Below base w w' → w.grownBy w' v.ownBlock → K (a.put o.dst (.slice A' m' c')) w') : o.wp Tryz.prog a w K Q := by
  obtain ⟨A', m', c', w', hr, h2, h3, h4⟩ := run_append_strs w o.type base n v xs ys hown A m c h hl hbase
  unfold Oper.wp execOp
  simp only [ho, resolve, invoke, builtin, Sem.run_bind, Sem.run_pure, Result.andThen_ok, List.map_toArray, List.map_cons, List.map_nil, hs, hx, hr]
  exact hk A' m' c' w' h2 h3 h4

theorem wpList_append_strs (w : World) {ops : Array Oper} {rest : List Oper} {o : Oper} {a : Act} {Q : Exit → Act → World → Prop} (hgd : o.guard = none) (s x : Operand)
    (ho : o.op = .call { callee := .builtin .append, args := #[s, x], argTypes := #[66, 66] })
    (base n : Nat) (v : Value) (xs ys : List ByteArray) (hs : a.eval s = v) (hown : w.ownsRow base 9 1 v n (xs.map Value.string)) (A : Option Addr) (m c : Nat) (hx : a.eval x = .slice A m c) (h : Strs w (.slice A m c) ys) (hl : n + m ≤ 1000000) (hbase : base ≤ w.heap.size)
    (hk : ∀ A' m' c' w', w'.ownsRow base 9 1 (.slice A' m' c') (n + m) ((xs ++ ys).map Value.string) → Below base w w' → w.grownBy w' v.ownBlock → wpList Tryz.prog ops Q rest (a.put o.dst (.slice A' m' c')) w') : wpList Tryz.prog ops Q (o :: rest) a w :=
  wpList_plain hgd fun _ hK => wp_append_strs w s x ho base n v xs ys hs hown A m c hx h hl hbase fun A' m' c' w' h2 h3 h4 => hK _ _ (hk A' m' c' w' h2 h3 h4)

theorem step_append_strs (w : World) {ops : Array Oper} {o : Oper} {a : Act} {K : Act → World → Prop} {Q : Exit → Act → World → Prop} {E : Prop} (hgd : o.guard = none) (s x : Operand)
    (ho : o.op = .call { callee := .builtin .append, args := #[s, x], argTypes := #[66, 66] })
    (base n : Nat) (v : Value) (xs ys : List ByteArray) (hs : a.eval s = v) (hown : w.ownsRow base 9 1 v n (xs.map Value.string)) (A : Option Addr) (m c : Nat) (hx : a.eval x = .slice A m c) (h : Strs w (.slice A m c) ys) (hl : n + m ≤ 1000000) (hbase : base ≤ w.heap.size)
    (hk : ∀ A' m' c' w', w'.ownsRow base 9 1 (.slice A' m' c') (n + m) ((xs ++ ys).map Value.string) → Below base w w' → w.grownBy w' v.ownBlock → K (a.put o.dst (.slice A' m' c')) w') :
    if Region.wanted o (yielded ops a.tmps) = true then Oper.wp Tryz.prog o a w K Q else E := by
  have hw : Region.wanted o (yielded ops a.tmps) = true := by simp [Region.wanted, hgd]
  rw [if_pos hw]
  exact wp_append_strs w s x ho base n v xs ys hs hown A m c hx h hl hbase hk


/-- What a walk wants of an element that is laid in a block of its own. -/
theorem news_one (W : World) (cs : Array Value) (t : TypeId) (j : Nat) (hj : j = W.heap.size) : ∀ (i : Nat) (u : Value), cs.toList[i]? = some u → (W.alloc (.cells cs t)).cell? ((⟨j, 0, none⟩ : Addr).add i) = some u := by
  subst hj
  exact World.news_of_block (cs := cs) (t := t) (fr := (0, 0)) (heap_alloc_new W (.cells cs t))
end Go.Proofs.YtplleaimmmanhaaGreatDoor
namespace Go.Proofs.YtplleaimmmanhaaGreatDoor
open Go.RowKit

/-- A file as an entry that is next. -/
def toE (f : Fl) : En := (f.1, 0, f.2.1, f.2.2, 0, 0)
/-- An entry's file. -/
def toF (e : En) : Fl := (e.1, e.2.2.1, e.2.2.2.1)
def stageE (l : List En) (n : Int) : List Fl := (l.filter fun e => decide (e.2.1 = n)).map toF
theorem flat_snoc {α : Type} (enc : α → List Value) (l : List α) (x : α) : (l ++ [x]).flatMap enc = l.flatMap enc ++ enc x := by simp
/-- A row of the call's own. -/
def OwnTo {α : Type} (ty : TypeId) (k : Nat) (enc : α → List Value) (l : List α) (w : World) (e : Ending) (w' : World) : Prop :=
  ∃ u, e = .returned u ∧ w'.ownsRow w.heap.size ty k u l.length (l.flatMap enc) ∧ Below w.heap.size w w'
theorem take_snoc {α : Type} {l : List α} {i : Nat} {x : α} (h : l[i]? = some x) : l.take (i + 1) = l.take i ++ [x] := by
  obtain ⟨hi, rfl⟩ := List.getElem?_eq_some_iff.1 h
  exact List.take_succ_eq_append_getElem hi

set_option maxHeartbeats 2000000 in
theorem of_any (w : World) (v : Value) (l : List Fl) (h : Reads 3 cF w v l) (hl : l.length ≤ 100000) :
    Calls Tryz.prog 58 #[v] w (OwnTo 71 6 cE (l.map toE) w) := by
  obtain ⟨A, c, rfl⟩ := h.form
  have hn := h.len
  have hnm : l.length ≤ 9223372036854775807 := by omega
  have HO := Lib.hid h
  obtain ⟨i0, hi, hz0, hz1, hz2⟩ := info_parts entryInfo
  clear h hn
  go_enter Tryz.func58, Tryz.ntmps58
  go_wp2
  go_loopw [3, 8] (fun s3 s8 wr => ∃ i : Nat, i ≤ l.length ∧ s8 = .int .i64 i ∧ Hid (wr.ownsRow w.heap.size 71 6 s3 i (((l.take i).map toE).flatMap cE)) ∧ Below w.heap.size w wr) (fun _ s8 _ => l.length - (intOf s8).toNat)
  case atStart => exact ⟨0, Nat.zero_le _, rfl, Lib.hid (World.ownsRow_nil _ _ _ _), Below.refl _ _⟩
  case round =>
    obtain ⟨i, hil, rfl, hown, hb⟩ := hrel
    by_cases hlt : i < l.length
    · obtain ⟨f, hf⟩ : ∃ f, l[i]? = some f := ⟨_, List.getElem?_eq_getElem hlt⟩
      obtain ⟨ad, rfl, c0, c1, c2⟩ := Fils.at_ (HO.out.below hb) hf
      obtain ⟨p, m, d⟩ := f
      have HF := Lib.hid hf
      have i0' : (0 : Int) ≤ (i : Int) := Int.natCast_nonneg _
      have hi1 : (i : Int) < (l.length : Int) := by omega
      have hcl := World.block_lt_of_cell? _ _ c0
      have hsz := hb.size
      have hown4 := ((hown.out.alloc (.cells #[.string p, .int .i64 m, .string d] 25)).alloc (.cells #[.string p, .int .i64 0, .int .i64 m, .string d, .int .i64 0, .int .i64 0] 71))
      have hnews := news_one (wr.alloc (.cells #[.string p, .int .i64 m, .string d] 25)) #[.string p, .int .i64 0, .int .i64 m, .string d, .int .i64 0, .int .i64 0] 71 (wr.heap.size + 1) (by simp)
      clear hf
      go_wp2_with (at_builtin; refine wpList_append_own _ rfl _ _ 49 rfl w.heap.size 71 i0 (.agg #[.string ⟨#[]⟩, .int .i64 0, .int .i64 0, .string ⟨#[]⟩, .int .i64 0, .int .i64 0]) 6 64 Tryz.underlying49 hi hz0 hz1 hz2 rfl (by decide) _ _ _ rfl hown4 ⟨wr.heap.size + 1, 0, none⟩ 1 1 [.string p, .int .i64 0, .int .i64 m, .string d, .int .i64 0, .int .i64 0] rfl rfl hnews (by simp [Value.oneCell']) (by unfold maxLen; omega) (by omega) (by simp; omega) ?_; intro v5 w5 hown5 hg5 _)
      have hb5 : Below w.heap.size w w5 := ((hb.alloc hsz _).alloc (by simp; omega) _).grown hg5 (by simp; omega) (fun k hk => (hown.out.lt k hk).1)
      clear hnews hown4 hg5
      go_roundw
      case rel => exact ⟨i + 1, by omega, by go_num, Lib.hid (by rw [take_snoc HF.out, List.map_append, List.map_cons, List.map_nil, flat_snoc]; exact hown5), hb5⟩
      case measure => simp [intOf]; omega
    · obtain rfl : i = l.length := by omega
      have HL : Hid (((l.take l.length).map toE).flatMap cE = (l.map toE).flatMap cE) := Lib.hid (by rw [List.take_length])
      go_wp2
      go_ret
      exact ⟨_, rfl, by rw [List.length_map, ← HL.out]; exact hown.out, hb⟩
end Go.Proofs.YtplleaimmmanhaaGreatDoor
namespace Go.Proofs.YtplleaimmmanhaaGreatDoor
open Go.RowKit

theorem stageE_snoc (l : List En) (e : En) (n : Int) : stageE (l ++ [e]) n = stageE l n ++ (if e.2.1 = n then [toF e] else []) := by
  unfold stageE
  rw [List.filter_append, List.map_append]
  congr 1
  by_cases h : e.2.1 = n <;> simp [h]
theorem stageE_len (l : List En) (n : Int) : (stageE l n).length ≤ l.length := by
  unfold stageE
  rw [List.length_map]
  exact List.length_filter_le _ _

set_option maxHeartbeats 2000000 in
theorem stage_any (w : World) (v : Value) (l : List En) (n : Int) (h : Reads 6 cE w v l) (hl : l.length ≤ 100000) :
    Calls Tryz.prog 30 #[v, .int .i64 n] w (OwnTo 25 3 cF (stageE l n) w) := by
  obtain ⟨A, c, rfl⟩ := h.form
  have hn := h.len
  have hnm : l.length ≤ 9223372036854775807 := by omega
  have HO := Lib.hid h
  obtain ⟨i0, hi, hz0, hz1, hz2⟩ := info_parts fileInfo
  clear h hn
  go_enter Tryz.func30, Tryz.ntmps30
  go_wp2
  go_loopw [5, 10] (fun s5 s10 wr => ∃ i : Nat, i ≤ l.length ∧ s10 = .int .i64 i ∧ Hid (wr.ownsRow w.heap.size 25 3 s5 (stageE (l.take i) n).length ((stageE (l.take i) n).flatMap cF)) ∧ Below w.heap.size w wr) (fun _ s10 _ => l.length - (intOf s10).toNat)
  case atStart => exact ⟨0, Nat.zero_le _, rfl, Lib.hid (World.ownsRow_nil _ _ _ _), Below.refl _ _⟩
  case round =>
    obtain ⟨i, hil, rfl, hown, hb⟩ := hrel
    by_cases hlt : i < l.length
    · obtain ⟨e, he⟩ : ∃ e, l[i]? = some e := ⟨_, List.getElem?_eq_getElem hlt⟩
      obtain ⟨ad, rfl, c0, c1, c2, c3, c4, c5⟩ := Ents.at_ (HO.out.below hb) he
      have HT := Lib.hid (show stageE (l.take (i + 1)) n = stageE (l.take i) n ++ (if e.2.1 = n then [toF e] else []) by rw [take_snoc he, stageE_snoc])
      have hsl := Nat.le_trans (stageE_len (l.take i) n) (by rw [List.length_take]; omega : (l.take i).length ≤ 100000)
      obtain ⟨p, st, m, d, tm, sz⟩ := e
      have i0' : (0 : Int) ≤ (i : Int) := Int.natCast_nonneg _
      have hi1 : (i : Int) < (l.length : Int) := by omega
      have hcl := World.block_lt_of_cell? _ _ c0
      have hsz := hb.size
      clear he
      by_cases hst : st = n
      · subst hst
        have hst : Hid ((if st = st then [toF (p, st, m, d, tm, sz)] else []) = [(p, m, d)]) := Lib.hid (by rw [if_pos rfl]; rfl)
        have hown4 := ((hown.out.alloc (.cells #[.string p, .int .i64 st, .int .i64 m, .string d, .int .i64 tm, .int .i64 sz] 71)).alloc (.cells #[.string p, .int .i64 m, .string d] 25))
        have hnews := news_one (wr.alloc (.cells #[.string p, .int .i64 st, .int .i64 m, .string d, .int .i64 tm, .int .i64 sz] 71)) #[.string p, .int .i64 m, .string d] 25 (wr.heap.size + 1) (by simp)
        go_wp2_with (at_builtin; refine wpList_append_own _ rfl _ _ 23 rfl w.heap.size 25 i0 (.agg #[.string ⟨#[]⟩, .int .i64 0, .string ⟨#[]⟩]) 3 40 Tryz.underlying23 hi hz0 hz1 hz2 rfl (by decide) _ _ _ rfl hown4 ⟨wr.heap.size + 1, 0, none⟩ 1 1 [.string p, .int .i64 m, .string d] rfl rfl hnews (by simp [Value.oneCell']) (by unfold maxLen; omega) (by omega) (by simp; omega) ?_; intro v5 w5 hown5 hg5 _)
        have hb5 : Below w.heap.size w w5 := ((hb.alloc hsz _).alloc (by simp; omega) _).grown hg5 (by simp; omega) (fun k hk => (hown.out.lt k hk).1)
        clear hnews hown4 hg5
        go_roundw
        case rel => exact ⟨i + 1, by omega, by go_num, Lib.hid (by rw [HT.out, hst.out, List.length_append, flat_snoc]; exact hown5), hb5⟩
        case measure => simp [intOf]; omega
      · have hst' : Hid ((if st = n then [toF (p, st, m, d, tm, sz)] else []) = ([] : List Fl)) := Lib.hid (if_neg hst)
        have hbe : (st == n) = false := by simpa using hst
        have hown4 := hown.out.alloc (.cells #[.string p, .int .i64 st, .int .i64 m, .string d, .int .i64 tm, .int .i64 sz] 71)
        have hb4 := hb.alloc hsz (.cells #[.string p, .int .i64 st, .int .i64 m, .string d, .int .i64 tm, .int .i64 sz] 71)
        go_wp2
        go_roundw
        case rel => exact ⟨i + 1, by omega, by go_num, Lib.hid (by rw [HT.out, hst'.out, List.append_nil]; exact hown4), hb4⟩
        case measure => simp [intOf]; omega
    · obtain rfl : i = l.length := by omega
      have HL : Hid (stageE (l.take l.length) n = stageE l n) := Lib.hid (by rw [List.take_length])
      go_wp2
      go_ret
      exact ⟨_, rfl, by rw [← HL.out]; exact hown.out, hb⟩
end Go.Proofs.YtplleaimmmanhaaGreatDoor
namespace Go.Proofs
open Go.Shelf
def Tryz.lays125_ren : Go.Shelf.Ren := ⟨fun | 125 => 125 | 128 => 149 | 129 => 150 | n => n, fun | 46 => 169 | 3 => 3 | 51 => 170 | 53 => 168 | 4 => 4 | 5 => 5 | 9 => 9 | n => n, fun | n => n⟩
theorem Tryz.lays125 : Go.Proofs.Lays.n125 Tryz.prog Tryz.lays125_ren := {
  mixed := by kernel_rfl
  f125 := Tryz.func125.trans (congrArg some (by kernel_rfl))
  f128 := Tryz.func149.trans (congrArg some (by kernel_rfl))
  f129 := Tryz.func150.trans (congrArg some (by kernel_rfl))
  t3 := Tryz.underlying3
  a3 := Tryz.isAgg3
  z3 := Tryz.sizeOf3
  v3 := Tryz.zeroValue3
  t4 := Tryz.underlying4
  a4 := Tryz.isAgg4
  z4 := Tryz.sizeOf4
  v4 := Tryz.zeroValue4
  t5 := Tryz.underlying5
  a5 := Tryz.isAgg5
  z5 := Tryz.sizeOf5
  v5 := Tryz.zeroValue5
  t9 := Tryz.underlying9
  a9 := Tryz.isAgg9
  z9 := Tryz.sizeOf9
  v9 := Tryz.zeroValue9
  t46 := Tryz.underlying169
  a46 := Tryz.isAgg169
  z46 := Tryz.sizeOf169
  v46 := Tryz.zeroValue169
  t51 := Tryz.underlying170
  a51 := Tryz.isAgg170
  z51 := Tryz.sizeOf170
  v51 := Tryz.zeroValue170
  t53 := Tryz.underlying168
  a53 := Tryz.isAgg168
  z53 := Tryz.sizeOf168
  v53 := Tryz.zeroValue168 }
/-- bits.Len: "Len returns the minimum number of bits required to represent x; the result is 0 for x == 0.": IT RETURNS 'Lib.bitLen x'; the world is as it was. (A uint has 64 bits in the model.) ITS CALLEE bits.Len64 IS MET BY ITS OWN CONTRACT OFF THE SHELF (lay that first). (LAID: no walk: one application.) -/
theorem Tryz.bits_Len (x : Int) (w : World) (h0 : 0 ≤ x) (h1 : x ≤ 18446744073709551615) :
    Calls Tryz.prog 125 #[.int .u64 x] w fun e w' => e = .returned (.int .i64 (Lib.bitLen x.toNat)) ∧ w' = w := Any.bits_Len Tryz.lays125 x w h0 h1
def Tryz.lays213_ren : Go.Shelf.Ren := ⟨fun | 213 => 151 | 265 => 161 | n => n, fun | 9 => 9 | 3 => 3 | n => n, fun | n => n⟩
theorem Tryz.lays213 : Go.Proofs.Lays.n213 Tryz.prog Tryz.lays213_ren := {
  mixed := by kernel_rfl
  f213 := Tryz.func151.trans (congrArg some (by kernel_rfl))
  f265 := Tryz.func161.trans (congrArg some (by kernel_rfl))
  t3 := Tryz.underlying3
  a3 := Tryz.isAgg3
  z3 := Tryz.sizeOf3
  v3 := Tryz.zeroValue3
  t9 := Tryz.underlying9
  a9 := Tryz.isAgg9
  z9 := Tryz.sizeOf9
  v9 := Tryz.zeroValue9 }
open Go.RowKit in
/-- internal/bytealg.CompareString (what strings.Compare calls): IT RETURNS 'Lib.compareBytes a b'; the world is as it was. (LAID: no walk: one application.) -/
theorem Tryz.bytealg_CompareString (a b : ByteArray) (w : World) :
    Calls Tryz.prog 151 #[.string a, .string b] w fun e w' => e = .returned (.int .i64 (Lib.compareBytes a.data.toList b.data.toList)) ∧ w' = w := Any.bytealg_CompareString Tryz.lays213 a b w
def Tryz.lays106_ren : Go.Shelf.Ren := ⟨fun | 106 => 126 | 213 => 151 | 265 => 161 | n => n, fun | 9 => 9 | 3 => 3 | n => n, fun | n => n⟩
theorem Tryz.lays106 : Go.Proofs.Lays.n106 Tryz.prog Tryz.lays106_ren := {
  mixed := by kernel_rfl
  f106 := Tryz.func126.trans (congrArg some (by kernel_rfl))
  f213 := Tryz.func151.trans (congrArg some (by kernel_rfl))
  f265 := Tryz.func161.trans (congrArg some (by kernel_rfl))
  t3 := Tryz.underlying3
  a3 := Tryz.isAgg3
  z3 := Tryz.sizeOf3
  v3 := Tryz.zeroValue3
  t9 := Tryz.underlying9
  a9 := Tryz.isAgg9
  z9 := Tryz.sizeOf9
  v9 := Tryz.zeroValue9 }
open Go.RowKit in
/-- strings.Compare: "Compare returns an integer comparing two strings lexicographically. The result will be 0 if a == b, -1 if a < b, and +1 if a > b.": IT RETURNS 'Lib.compareBytes a b'; the world is as it was. (LAID: no walk: one application.) -/
theorem Tryz.strings_Compare (a b : ByteArray) (w : World) :
    Calls Tryz.prog 126 #[.string a, .string b] w fun e w' => e = .returned (.int .i64 (Lib.compareBytes a.data.toList b.data.toList)) ∧ w' = w := Any.strings_Compare Tryz.lays106 a b w
def Tryz.lays143_ren : Go.Shelf.Ren := ⟨fun | 143 => 165 | 219 => 168 | 217 => 169 | 225 => 170 | 224 => 171 | 267 => 172 | 266 => 173 | 314 => 174 | n => n, fun | 9 => 9 | 3 => 3 | 4 => 4 | 5 => 5 | 46 => 169 | 146 => 238 | 51 => 170 | n => n, fun | 1 => 2 | n => n⟩
theorem Tryz.lays143 : Go.Proofs.Lays.n143 Tryz.prog Tryz.lays143_ren := {
  mixed := by kernel_rfl
  f143 := Tryz.func165.trans (congrArg some (by kernel_rfl))
  f217 := Tryz.func169.trans (congrArg some (by kernel_rfl))
  f219 := Tryz.func168.trans (congrArg some (by kernel_rfl))
  f224 := Tryz.func171.trans (congrArg some (by kernel_rfl))
  f225 := Tryz.func170.trans (congrArg some (by kernel_rfl))
  f266 := Tryz.func173.trans (congrArg some (by kernel_rfl))
  f267 := Tryz.func172.trans (congrArg some (by kernel_rfl))
  f314 := Tryz.func174.trans (congrArg some (by kernel_rfl))
  t3 := Tryz.underlying3
  a3 := Tryz.isAgg3
  z3 := Tryz.sizeOf3
  v3 := Tryz.zeroValue3
  t4 := Tryz.underlying4
  a4 := Tryz.isAgg4
  z4 := Tryz.sizeOf4
  v4 := Tryz.zeroValue4
  t5 := Tryz.underlying5
  a5 := Tryz.isAgg5
  z5 := Tryz.sizeOf5
  v5 := Tryz.zeroValue5
  t9 := Tryz.underlying9
  a9 := Tryz.isAgg9
  z9 := Tryz.sizeOf9
  v9 := Tryz.zeroValue9
  t46 := Tryz.underlying169
  a46 := Tryz.isAgg169
  z46 := Tryz.sizeOf169
  v46 := Tryz.zeroValue169
  t51 := Tryz.underlying170
  a51 := Tryz.isAgg170
  z51 := Tryz.sizeOf170
  v51 := Tryz.zeroValue170
  t146 := Tryz.underlying238
  a146 := Tryz.isAgg238
  z146 := Tryz.sizeOf238
  v146 := Tryz.zeroValue238
  g1 := by kernel_rfl }
open Go.RowKit Go.Lib in
/-- strings.Index: "Index returns the index of the first instance of substr in s, or -1 if substr is not present in s.": AT A substr OF ONE BYTE c: IT RETURNS 'Lib.indexByte s c'; the world is as it was. (LAID: no walk: one application.) -/
theorem Tryz.strings_Index_one (s : ByteArray) (c : UInt8) (w : World) :
    Calls Tryz.prog 165 #[.string s, .string ⟨#[c]⟩] w fun e w' => e = .returned (.int .i64 (Lib.indexByte s.data.toList c)) ∧ w' = w := Any.strings_Index_one Tryz.lays143 s c w
def Tryz.lays194_ren : Go.Shelf.Ren := ⟨fun | 194 => 78 | n => n, fun | 31 => 66 | 9 => 9 | 3 => 3 | 4 => 4 | 0 => 0 | n => n, fun | n => n⟩
theorem Tryz.lays194 : Go.Proofs.Lays.n194 Tryz.prog Tryz.lays194_ren := {
  mixed := by kernel_rfl
  f194 := Tryz.func78.trans (congrArg some (by kernel_rfl))
  t0 := Tryz.underlying0
  a0 := Tryz.isAgg0
  z0 := Tryz.sizeOf0
  v0 := Tryz.zeroValue0
  t3 := Tryz.underlying3
  a3 := Tryz.isAgg3
  z3 := Tryz.sizeOf3
  v3 := Tryz.zeroValue3
  t4 := Tryz.underlying4
  a4 := Tryz.isAgg4
  z4 := Tryz.sizeOf4
  v4 := Tryz.zeroValue4
  t9 := Tryz.underlying9
  a9 := Tryz.isAgg9
  z9 := Tryz.sizeOf9
  v9 := Tryz.zeroValue9
  t31 := Tryz.underlying66
  a31 := Tryz.isAgg66
  z31 := Tryz.sizeOf66
  v31 := Tryz.zeroValue66 }
open Go.RowKit Go.Lib Go.Sort in
/-- slices.Compact at []string: "Compact replaces consecutive runs of equal elements with a single copy. This is like the uniq command found on Unix. Compact modifies the contents of the slice s and returns the modified slice, which may have a smaller length. Compact zeroes the elements between the new length and the original length. The result preserves the nilness of s.": IT RETURNS THE SLICE CUT TO 'Lib.compact zs'; ITS CELLS HOLD 'Lib.compact zs', THEN ZERO VALUES up to the old length; all else is as it was, but for the count of draws. IN THE WORDS OF slices.Sort's CONTRACT ('Holds', 'putRow'): so the everyday 'slices.Sort(xs); xs = slices.Compact(xs)' goes from the one contract to the other. It asks 'zs.length ≤ cap' (every slice's: the reslicing 's[:k]' looks at it). Length 0, nil: '.._empty'. (LAID: no walk: one application.) -/
theorem Tryz.slices_Compact_string (blk off cap : Nat) (zs : List (List UInt8)) (w : World) (hH : Holds encStr w blk off zs.toArray) (hsz : zs.length ≤ 9223372036854775807) (hcap : zs.length ≤ cap) :
    Calls Tryz.prog 78 #[.slice (some ⟨blk, off, none⟩) zs.length cap] w fun e w' => e = .returned (.slice (some ⟨blk, off, none⟩) (Lib.compact zs).length cap) ∧ ∃ q, w' = putRow encStr (Sort.ahead w q) blk off (Lib.compact zs ++ List.replicate (zs.length - (Lib.compact zs).length) []).toArray := Any.slices_Compact_string Tryz.lays194 blk off cap zs w hH hsz hcap
open Go.RowKit Go.Lib Go.Sort in
/-- The same at a slice of length 0, a nil one too: it comes back as it is. (LAID: no walk: one application.) -/
theorem Tryz.slices_Compact_string_empty (a : Option Addr) (cap : Nat) (w : World) :
    Calls Tryz.prog 78 #[.slice a 0 cap] w fun e w' => e = .returned (.slice a 0 cap) ∧ w' = w := Any.slices_Compact_string_empty Tryz.lays194 a cap w
def Tryz.laysSlF6_f76_ren : Go.Shelf.Ren := ⟨fun | 6 => 76 | 15 => 125 | 14 => 124 | 28 => 149 | 29 => 150 | 20 => 141 | 21 => 142 | 22 => 143 | 23 => 144 | 24 => 145 | 25 => 146 | 26 => 147 | 27 => 148 | 46 => 156 | 47 => 157 | 48 => 158 | 49 => 159 | 50 => 160 | 57 => 166 | n => n, fun | 22 => 66 | 24 => 9 | 25 => 122 | 3 => 3 | 39 => 169 | 0 => 0 | 53 => 170 | 55 => 168 | 4 => 4 | 46 => 212 | 45 => 211 | 50 => 100 | 5 => 5 | 9 => 9 | 66 => 220 | 70 => 224 | 76 => 229 | 77 => 230 | n => n, fun | n => n⟩
theorem Tryz.laysSlF6_f76 : Go.Proofs.SlLaysF.n6 Tryz.prog Tryz.laysSlF6_f76_ren := {
  mixed := by kernel_rfl
  f6 := ⟨Tryz.f76.name, by decide, Tryz.func76.trans (congrArg some (by kernel_rfl))⟩
  f14 := ⟨Tryz.f124.name, by decide, Tryz.func124.trans (congrArg some (by kernel_rfl))⟩
  f15 := Tryz.func125.trans (congrArg some (by kernel_rfl))
  f20 := ⟨Tryz.f141.name, by decide, Tryz.func141.trans (congrArg some (by kernel_rfl))⟩
  f21 := ⟨Tryz.f142.name, by decide, Tryz.func142.trans (congrArg some (by kernel_rfl))⟩
  f22 := ⟨Tryz.f143.name, by decide, Tryz.func143.trans (congrArg some (by kernel_rfl))⟩
  f23 := ⟨Tryz.f144.name, by decide, Tryz.func144.trans (congrArg some (by kernel_rfl))⟩
  f24 := ⟨Tryz.f145.name, by decide, Tryz.func145.trans (congrArg some (by kernel_rfl))⟩
  f25 := ⟨Tryz.f146.name, by decide, Tryz.func146.trans (congrArg some (by kernel_rfl))⟩
  f26 := ⟨Tryz.f147.name, by decide, Tryz.func147.trans (congrArg some (by kernel_rfl))⟩
  f27 := ⟨Tryz.f148.name, by decide, Tryz.func148.trans (congrArg some (by kernel_rfl))⟩
  f28 := Tryz.func149.trans (congrArg some (by kernel_rfl))
  f29 := Tryz.func150.trans (congrArg some (by kernel_rfl))
  f46 := ⟨Tryz.f156.name, by decide, Tryz.func156.trans (congrArg some (by kernel_rfl))⟩
  f47 := Tryz.func157.trans (congrArg some (by kernel_rfl))
  f48 := Tryz.func158.trans (congrArg some (by kernel_rfl))
  f49 := ⟨Tryz.f159.name, by decide, Tryz.func159.trans (congrArg some (by kernel_rfl))⟩
  f50 := ⟨Tryz.f160.name, by decide, Tryz.func160.trans (congrArg some (by kernel_rfl))⟩
  f57 := ⟨Tryz.f166.name, by decide, Tryz.func166.trans (congrArg some (by kernel_rfl))⟩
  t0 := Tryz.underlying0
  a0 := Tryz.isAgg0
  z0 := Tryz.sizeOf0
  v0 := Tryz.zeroValue0
  t3 := Tryz.underlying3
  a3 := Tryz.isAgg3
  z3 := Tryz.sizeOf3
  v3 := Tryz.zeroValue3
  t4 := Tryz.underlying4
  a4 := Tryz.isAgg4
  z4 := Tryz.sizeOf4
  v4 := Tryz.zeroValue4
  t5 := Tryz.underlying5
  a5 := Tryz.isAgg5
  z5 := Tryz.sizeOf5
  v5 := Tryz.zeroValue5
  t9 := Tryz.underlying9
  a9 := Tryz.isAgg9
  z9 := Tryz.sizeOf9
  v9 := Tryz.zeroValue9
  t22 := Tryz.underlying66
  a22 := Tryz.isAgg66
  z22 := Tryz.sizeOf66
  v22 := Tryz.zeroValue66
  a24 := Tryz.isAgg9
  z24 := Tryz.sizeOf9
  t25 := Tryz.underlying122
  a25 := Tryz.isAgg122
  z25 := Tryz.sizeOf122
  v25 := Tryz.zeroValue122
  t39 := Tryz.underlying169
  a39 := Tryz.isAgg169
  z39 := Tryz.sizeOf169
  v39 := Tryz.zeroValue169
  t45 := Tryz.underlying211
  a45 := Tryz.isAgg211
  z45 := Tryz.sizeOf211
  v45 := Tryz.zeroValue211
  t46 := Tryz.underlying212
  a46 := Tryz.isAgg212
  z46 := Tryz.sizeOf212
  v46 := Tryz.zeroValue212
  t50 := Tryz.underlying100
  a50 := Tryz.isAgg100
  z50 := Tryz.sizeOf100
  v50 := Tryz.zeroValue100
  t53 := Tryz.underlying170
  a53 := Tryz.isAgg170
  z53 := Tryz.sizeOf170
  v53 := Tryz.zeroValue170
  t55 := Tryz.underlying168
  a55 := Tryz.isAgg168
  z55 := Tryz.sizeOf168
  v55 := Tryz.zeroValue168
  t66 := Tryz.underlying220
  a66 := Tryz.isAgg220
  z66 := Tryz.sizeOf220
  v66 := Tryz.zeroValue220
  t70 := Tryz.underlying224
  a70 := Tryz.isAgg224
  z70 := Tryz.sizeOf224
  v70 := Tryz.zeroValue224
  t76 := Tryz.underlying229
  a76 := Tryz.isAgg229
  z76 := Tryz.sizeOf229
  v76 := Tryz.zeroValue229
  t77 := Tryz.underlying230
  a77 := Tryz.isAgg230
  z77 := Tryz.sizeOf230
  v77 := Tryz.zeroValue230 }
end Go.Proofs
namespace Go.Proofs.YtplleaimmmanhaaGreatDoor
open Go.RowKit Go.Lib Go.Sort

set_option maxHeartbeats 1000000 in
theorem comp_any (a b : ByteArray) (w : World) : Calls Tryz.prog 77 #[.string a, .string b] w fun e w' => e = .returned (.int .i64 (cb a b)) ∧ w' = w := by
  have h := Tryz.strings_Compare a b w
  go_enter Tryz.func77, Tryz.ntmps77
  go_wp2_with (go_at_call 126; refine h.mono ?_; rintro e w' ⟨rfl, rfl⟩)
  go_ret
  exact ⟨rfl, rfl⟩

theorem comp_reads (blk off size : Nat) (w : World) : CmpReads Tryz.prog 77 #[] encStr compareBytes blk off size w := fun m os dk _ x y =>
  (comp_any (mkB x) (mkB y) _).mono fun e w' ⟨he, hw⟩ => ⟨by rw [he]; unfold cb; simp [mkB], 0, by rw [hw]; rfl⟩

theorem enc_bsOf (ss : List ByteArray) : (ss.map bsOf).map encStr = ss.map Value.string := by
  rw [List.map_map]
  exact List.map_congr_left fun s _ => by simp [bsOf, encStr]
theorem enc_mkB (l : List Bs) : (l.map mkB).map Value.string = l.map encStr := by
  rw [List.map_map]
  exact List.map_congr_left fun s _ => rfl

set_option maxHeartbeats 1000000 in
theorem ins_none (p : Option Addr) (cap : Nat) (fv : Value) (w : World) : Calls Tryz.prog 141 #[.slice p 0 cap, .int .i64 0, .int .i64 0, fv] w fun e w' => e = .returned (.tuple #[]) ∧ w' = w := by
  go_enter Tryz.func141, Tryz.ntmps141
  go_wp2
  refine wp_loop_rounds 1 ?_
  rw [rounds_succ]
  go_wp2
  go_end0
  exact ⟨rfl, rfl⟩
set_option maxHeartbeats 1000000 in
theorem pdq_none (p : Option Addr) (cap : Nat) (lim : Int) (fv : Value) (w : World) : Calls Tryz.prog 124 #[.slice p 0 cap, .int .i64 0, .int .i64 0, .int .i64 lim, fv] w fun e w' => e = .returned (.tuple #[]) ∧ w' = w := by
  go_enter Tryz.func124, Tryz.ntmps124
  go_wp2
  refine wp_loop_rounds 1 ?_
  rw [rounds_succ]
  go_wp2_with (go_at_call 141; refine (ins_none p cap fv _).mono ?_; rintro e w' ⟨rfl, rfl⟩)
  (try simp only [Exit.inBlock, Exit.then]); refine bodyPost_ret (results_none rfl _ _ _) rfl ?_
  exact ⟨rfl, rfl⟩
set_option maxHeartbeats 1000000 in
theorem sort_none (p : Option Addr) (cap : Nat) (fv : Value) (w : World) : Calls Tryz.prog 76 #[.slice p 0 cap, fv] w fun e w' => e = .returned (.tuple #[]) ∧ w' = w := by
  have hl := fun W => Tryz.bits_Len 0 W (by omega) (by omega)
  go_enter Tryz.func76, Tryz.ntmps76
  go_wp2_with (go_at_call 125; refine (hl _).mono ?_; rintro e w' ⟨rfl, rfl⟩)
  go_wp2_with (go_at_call 124; refine (pdq_none p cap _ fv _).mono ?_; rintro e w' ⟨rfl, rfl⟩)
  go_end0
  exact ⟨rfl, rfl⟩

def SortedTo (B : Nat) (v : Value) (n : Nat) (ss : List ByteArray) (w : World) (e : Ending) (w' : World) : Prop :=
  e = .returned (.tuple #[]) ∧ w'.ownsRow B 9 1 v n ((srt (ss.map bsOf)).map encStr) ∧ Below B w w'

theorem sort_own (w : World) (B : Nat) (v : Value) (ss : List ByteArray) (h : w.ownsRow B 9 1 v ss.length (ss.map Value.string)) (hl : ss.length ≤ 1000000) :
    Calls Tryz.prog 76 #[v, .func (.func 77) #[] #[]] w (SortedTo B v ss.length ss w) := by
  have eg : ∀ args w, (callFunc 77 args).run Tryz.prog w = .ok (.enter 77 args) w := enters_of Tryz.func77 (by kernel_rfl) rfl
  rcases Nat.eq_zero_or_pos ss.length with h0 | h0
  · have e : ss = [] := List.eq_nil_of_length_eq_zero h0
    subst e
    obtain ⟨A, c, rfl⟩ := own_form h
    refine (sort_none A c (.func (.func 77) #[] #[]) w).mono fun e w' ⟨he, hw⟩ => ?_
    subst hw
    exact ⟨he, by simpa [srt] using h, Below.refl _ _⟩
  · rcases h.2 with ⟨_, h1⟩ | ⟨g, cap, cur, rfl, hB, hb, hn, hm, hs, ht⟩
    · omega
    · rw [Nat.mul_one] at ht
      have ht' : cur.toList.take (ss.map bsOf).length = (ss.map bsOf).map encStr := by rw [enc_bsOf, List.length_map]; exact ht
      have hg : g < w.heap.size := (Array.getElem?_eq_some_iff.1 hb).1
      have hsz : (ss.map bsOf).toArray.size = ss.length := by simp
      have sf := (Any.slices_SortFunc Tryz.laysSlF6_f76 encStr (fun _ => rfl) compareBytes cmp_swo 77 #[] g 0 cap (ss.map bsOf).toArray w eg (comp_reads g 0 _ w).lays (holds_of_block hb ht') hg (by rw [hsz]; omega)).mono fun (e : Ending) (w' : World) ⟨he, d', n, os, hp, hs, hw⟩ => (⟨he, n, os, by rw [hw, ← sorted_unique_holds cmp_swo cmp_tot (ss.map bsOf).toArray d' hp hs]⟩ : e = Ending.returned (.tuple #[]) ∧ ∃ n os, w' = sortWorld encStr w g 0 n ((ss.map bsOf).toArray.toList.mergeSort fun x y => !(ltOf compareBytes) y x).toArray os)
      rw [hsz] at sf
      refine sf.mono ?_
      rintro e w' ⟨he, n, os, hw⟩
      have hw' : w' = grow (putRow encStr (Sort.ahead w n) g 0 (srt (ss.map bsOf)).toArray) os := hw
      subst hw'
      have hlen : (srt (ss.map bsOf)).length = (ss.map bsOf).length := srt_len _
      refine ⟨he, ?_, ?_⟩
      · have := ownsRow_sorted (w := w) (base := B) (n := n) (os := os) (ts := srt (ss.map bsOf)) (ss := ss.map bsOf) hlen hB hb (by rw [List.length_map]; exact hn) hm hs
        rw [List.length_map] at this
        exact this
      · exact (Below.refl B w).grown (grownBy_sorted _) (by omega) fun z hz => by
          have : z = g := by simpa using hz.symm
          omega

def CompactedTo (B : Nat) (ss : List ByteArray) (w : World) (e : Ending) (w' : World) : Prop :=
  ∃ u, e = .returned u ∧ w'.ownsRow B 9 1 u (nrm ss).length ((nrm ss).map Value.string) ∧ Below B w w'

theorem compact_own (w : World) (B : Nat) (v : Value) (n : Nat) (ss : List ByteArray) (h : w.ownsRow B 9 1 v n ((srt (ss.map bsOf)).map encStr)) (hl : ss.length ≤ 1000000) :
    Calls Tryz.prog 78 #[v] w (CompactedTo B ss w) := by
  have hn0 : n = ss.length := by have := h.1; rw [List.length_map, srt_len, List.length_map] at this; omega
  have hlen : (srt (ss.map bsOf)).length = ss.length := by rw [srt_len, List.length_map]
  subst hn0
  rcases Nat.eq_zero_or_pos ss.length with h0 | h0
  · have e : ss = [] := List.eq_nil_of_length_eq_zero h0
    subst e
    obtain ⟨A, c, rfl⟩ := own_form h
    refine (Tryz.slices_Compact_string_empty A c w).mono fun e w' ⟨he, hw⟩ => ?_
    subst hw
    exact ⟨_, he, by simpa [srt, nrm, compact, compactUpTo] using h, Below.refl _ _⟩
  · rcases h.2 with ⟨_, h1⟩ | ⟨g, cap, cur, rfl, hB, hb, hn, hm, hs, ht⟩
    · omega
    · rw [Nat.mul_one] at ht
      have ht' : cur.toList.take (srt (ss.map bsOf)).length = (srt (ss.map bsOf)).map encStr := by rw [hlen]; exact ht
      have := Tryz.slices_Compact_string g 0 cap (srt (ss.map bsOf)) w (holds_of_block hb ht') (by rw [hlen]; omega) (by rw [hlen]; exact hn)
      rw [hlen] at this
      refine this.mono fun e w' ⟨he, q, hw⟩ => ?_
      obtain ⟨ts, hts⟩ : ∃ ts, ts = compact (srt (ss.map bsOf)) ++ List.replicate (ss.length - (compact (srt (ss.map bsOf))).length) [] := ⟨_, rfl⟩
      rw [← hts] at hw
      have hk : (compact (srt (ss.map bsOf))).length ≤ ss.length := by have := nrm_len ss; unfold nrm at this; rw [List.length_map] at this; exact this
      have htl : ts.length = ss.length := by rw [hts, List.length_append, List.length_replicate]; omega
      have hw2 : w' = grow (putRow encStr (Sort.ahead w q) g 0 ts.toArray) #[] := by rw [hw, grow_empty]
      subst hw2
      have hcs : ts.length ≤ cur.size := by rw [hs, htl]; omega
      have hnl : (nrm ss).length = (compact (srt (ss.map bsOf))).length := by unfold nrm; rw [List.length_map]
      refine ⟨_, by rw [he, ← hnl], ⟨by rw [List.length_map, Nat.mul_one], .inr ⟨g, cap, _, rfl, hB, heap_sorted _ hb, by omega, hm, by simp [putCells, hs], ?_⟩⟩, ?_⟩
      · have := take_putCells cur ts hcs
        rw [Nat.mul_one]
        have e1 : ((putCells encStr 0 ts.toArray cur).toList.take ts.length).take (nrm ss).length = (ts.map encStr).take (nrm ss).length := by rw [this]
        rw [List.take_take, Nat.min_eq_left (by omega)] at e1
        rw [e1, hts, List.map_append, List.take_append_of_le_length (by rw [List.length_map]; omega), List.take_of_length_le (by rw [List.length_map]; omega)]
        unfold nrm
        rw [enc_mkB]
      · have hg : g < w.heap.size := (Array.getElem?_eq_some_iff.1 hb).1
        exact (Below.refl B w).grown (grownBy_sorted _) (by omega) fun z hz => by
          have : z = g := by simpa using hz.symm
          omega
end Go.Proofs.YtplleaimmmanhaaGreatDoor
namespace Go.Proofs.YtplleaimmmanhaaGreatDoor
open Go.RowKit

/-- The paths that are in conflict. -/
def confE (l : List En) : List ByteArray := (l.filter fun e => decide (e.2.1 ≠ 0)).map (·.1)
theorem confE_snoc (l : List En) (e : En) : confE (l ++ [e]) = confE l ++ (if e.2.1 ≠ 0 then [e.1] else []) := by
  unfold confE
  rw [List.filter_append, List.map_append]
  congr 1
  by_cases h : e.2.1 = 0 <;> simp [h]
theorem confE_len (l : List En) : (confE l).length ≤ l.length := by
  unfold confE
  rw [List.length_map]
  exact List.length_filter_le _ _
theorem str_snoc (l : List ByteArray) (s : ByteArray) : (l ++ [s]).map Value.string = l.map Value.string ++ [.string s] := by simp

/-- A row of texts of the call's own. -/
def TextsTo (ss : List ByteArray) (w : World) (e : Ending) (w' : World) : Prop :=
  ∃ u, e = .returned u ∧ w'.ownsRow w.heap.size 9 1 u ss.length (ss.map Value.string) ∧ Below w.heap.size w w'

set_option maxHeartbeats 2000000 in
theorem conflicts_any (w : World) (v : Value) (l : List En) (h : Reads 6 cE w v l) (hl : l.length ≤ 100000) :
    Calls Tryz.prog 35 #[v] w (TextsTo (nrm (confE l)) w) := by
  obtain ⟨A, c, rfl⟩ := h.form
  have hn := h.len
  have hnm : l.length ≤ 9223372036854775807 := by omega
  have HO := Lib.hid h
  obtain ⟨i0, hi, hz0, hz1, hz2⟩ := info_parts strInfo
  clear h hn
  go_enter Tryz.func35, Tryz.ntmps35
  go_wp2
  go_loopw [3, 8] (fun s3 s8 wr => ∃ i : Nat, i ≤ l.length ∧ s8 = .int .i64 i ∧ Hid (wr.ownsRow w.heap.size 9 1 s3 (confE (l.take i)).length ((confE (l.take i)).map Value.string)) ∧ Below w.heap.size w wr) (fun _ s8 _ => l.length - (intOf s8).toNat)
  case atStart => exact ⟨0, Nat.zero_le _, rfl, Lib.hid (World.ownsRow_nil _ _ _ _), Below.refl _ _⟩
  case round =>
    obtain ⟨i, hil, rfl, hown, hb⟩ := hrel
    by_cases hlt : i < l.length
    · obtain ⟨e, he⟩ : ∃ e, l[i]? = some e := ⟨_, List.getElem?_eq_getElem hlt⟩
      obtain ⟨ad, rfl, c0, c1, c2, c3, c4, c5⟩ := Ents.at_ (HO.out.below hb) he
      have HT := Lib.hid (show confE (l.take (i + 1)) = confE (l.take i) ++ (if e.2.1 ≠ 0 then [e.1] else []) by rw [take_snoc he, confE_snoc])
      have hsl := Nat.le_trans (confE_len (l.take i)) (by rw [List.length_take]; omega : (l.take i).length ≤ 100000)
      obtain ⟨p, st, m, d, tm, sz⟩ := e
      have i0' : (0 : Int) ≤ (i : Int) := Int.natCast_nonneg _
      have hi1 : (i : Int) < (l.length : Int) := by omega
      have hcl := World.block_lt_of_cell? _ _ c0
      have hsz := hb.size
      clear he
      by_cases hst : st = 0
      · subst hst
        have hst' : Hid ((if (0 : Int) ≠ 0 then [p] else []) = ([] : List ByteArray)) := Lib.hid (if_neg (by decide))
        have hown4 := hown.out.alloc (.cells #[.string p, .int .i64 0, .int .i64 m, .string d, .int .i64 tm, .int .i64 sz] 71)
        have hb4 := hb.alloc hsz (.cells #[.string p, .int .i64 0, .int .i64 m, .string d, .int .i64 tm, .int .i64 sz] 71)
        go_wp2
        go_roundw
        case rel => exact ⟨i + 1, by omega, by go_num, Lib.hid (by rw [HT.out, hst'.out, List.append_nil]; exact hown4), hb4⟩
        case measure => simp [intOf]; omega
      · have hst' : Hid ((if st ≠ 0 then [p] else []) = [p]) := Lib.hid (if_pos hst)
        have hbe : (st != 0) = true := by simpa using hst
        have hown4 := ((hown.out.alloc (.cells #[.string p, .int .i64 st, .int .i64 m, .string d, .int .i64 tm, .int .i64 sz] 71)).alloc (.cells #[.string p] 9))
        have hnews := news_one (wr.alloc (.cells #[.string p, .int .i64 st, .int .i64 m, .string d, .int .i64 tm, .int .i64 sz] 71)) #[.string p] 9 (wr.heap.size + 1) (by simp)
        go_wp2_with (at_builtin; refine wpList_append_own _ rfl _ _ 66 rfl w.heap.size 9 i0 (.string { data := #[] }) 1 16 Tryz.underlying66 hi hz0 hz1 hz2 rfl (by decide) _ _ _ rfl hown4 ⟨wr.heap.size + 1, 0, none⟩ 1 1 [.string p] rfl rfl hnews (by simp [Value.oneCell']) (by unfold maxLen; omega) (by omega) (by simp; omega) ?_; intro v5 w5 hown5 hg5 _)
        have hb5 : Below w.heap.size w w5 := ((hb.alloc hsz _).alloc (by simp; omega) _).grown hg5 (by simp; omega) (fun k hk => (hown.out.lt k hk).1)
        clear hnews hown4 hg5
        go_roundw
        case rel => exact ⟨i + 1, by omega, by go_num, Lib.hid (by rw [HT.out, hst'.out, List.length_append, str_snoc]; exact hown5), hb5⟩
        case measure => simp [intOf]; omega
    · obtain rfl : i = l.length := by omega
      rw [List.take_length] at hown
      have hcl2 := Nat.le_trans (confE_len l) hl
      go_wp2_with fail
      refine (sort_own wr _ _ _ hown.out (by omega)).mono ?_
      rintro e w2 ⟨rfl, ho2, hb2⟩
      go_wp2_with fail
      refine (compact_own w2 _ _ _ _ ho2 (by omega)).mono ?_
      rintro e w3 ⟨u, rfl, ho3, hb3⟩
      go_wp2
      go_ret
      exact ⟨_, rfl, ho3, (hb.trans hb2).trans hb3⟩

/-- The paths of trees. -/
def pathsR (rs : List (Value × List Fl)) : List ByteArray := rs.flatMap fun r => r.2.map (·.1)
theorem pathsR_snoc (rs : List (Value × List Fl)) (r : Value × List Fl) : pathsR (rs ++ [r]) = pathsR rs ++ r.2.map (·.1) := by simp [pathsR]
theorem pathsR_take (rs : List (Value × List Fl)) (i : Nat) : (pathsR (rs.take i)).length ≤ (pathsR rs).length := by
  conv => rhs; rw [← List.take_append_drop i rs]
  unfold pathsR
  rw [List.flatMap_append, List.length_append]
  omega
/-- Trees in a row. -/
def Trees (w : World) (ad : Addr) (rs : List (Value × List Fl)) : Prop := ∀ (i : Nat) (r : Value × List Fl), rs[i]? = some r → w.cell? (ad.add i) = some r.1 ∧ Reads 3 cF w r.1 r.2
theorem Trees.below {w w' : World} {ad : Addr} {rs : List (Value × List Fl)} (h : Trees w ad rs) (hb : Below w.heap.size w w') : Trees w' ad rs := fun i r hr =>
  ⟨(hb.cell (World.block_lt_of_cell? _ _ (h i r hr).1)).trans (h i r hr).1, (h i r hr).2.below hb⟩

set_option maxHeartbeats 4000000 in
theorem paths_any (w : World) (ad : Addr) (c : Nat) (rs : List (Value × List Fl)) (h : Trees w ad rs) (hl : rs.length ≤ 1000) (hp : (pathsR rs).length ≤ 100000) :
    Calls Tryz.prog 43 #[.slice (some ad) rs.length c] w (TextsTo (nrm (pathsR rs)) w) := by
  have hnm : rs.length ≤ 9223372036854775807 := by omega
  have HO := Lib.hid h
  obtain ⟨i0, hi, hz0, hz1, hz2⟩ := info_parts strInfo
  clear h
  go_enter Tryz.func43, Tryz.ntmps43
  go_wp2
  go_loopw [3, 10] (fun s3 s10 wr => ∃ i : Nat, i ≤ rs.length ∧ s10 = .int .i64 i ∧ Hid (wr.ownsRow w.heap.size 9 1 s3 (pathsR (rs.take i)).length ((pathsR (rs.take i)).map Value.string)) ∧ Below w.heap.size w wr) (fun _ s10 _ => rs.length - (intOf s10).toNat)
  case atStart => exact ⟨0, Nat.zero_le _, rfl, Lib.hid (World.ownsRow_nil _ _ _ _), Below.refl _ _⟩
  case round =>
    obtain ⟨i, hil, rfl, hown, hb⟩ := hrel
    by_cases hlt : i < rs.length
    · obtain ⟨r, hr⟩ : ∃ r, rs[i]? = some r := ⟨_, List.getElem?_eq_getElem hlt⟩
      have HT := Lib.hid (show pathsR (rs.take (i + 1)) = pathsR (rs.take i) ++ r.2.map (·.1) by rw [take_snoc hr, pathsR_snoc])
      have hle := pathsR_take rs (i + 1)
      rw [HT.out, List.length_append, List.length_map] at hle
      have c0 := ((HO.out.below hb) i r hr).1
      have hrd := (HO.out i r hr).2
      obtain ⟨rv, l⟩ := r
      obtain ⟨B, d, hrv⟩ := hrd.form
      simp only at hrv
      subst hrv
      have hnl := hrd.len
      have HR := Lib.hid hrd
      have i0' : (0 : Int) ≤ (i : Int) := Int.natCast_nonneg _
      have hi1 : (i : Int) < (rs.length : Int) := by omega
      have hcl := World.block_lt_of_cell? _ _ c0
      have hsz := hb.size
      have hlm : l.length ≤ 9223372036854775807 := by simp only at hle; omega
      obtain ⟨acc, hacc⟩ : ∃ acc, acc = pathsR (rs.take i) := ⟨_, rfl⟩
      rw [← hacc] at hown HT hle
      clear hr hrd hnl hacc
      go_wp2
      go_loopw [3, 16] (fun s3 s16 wq => ∃ j : Nat, j ≤ l.length ∧ s16 = .int .i64 j ∧ Hid (wq.ownsRow w.heap.size 9 1 s3 (acc.length + j) ((acc ++ (l.take j).map (·.1)).map Value.string)) ∧ Below w.heap.size w wq) (fun _ s16 _ => l.length - (intOf s16).toNat)
      case atStart => exact ⟨0, Nat.zero_le _, rfl, Lib.hid (by rw [List.take_zero, List.map_nil, List.append_nil]; exact hown.out), hb⟩
      case round =>
        obtain ⟨j, hjl, rfl, hown, hb⟩ := hrel
        by_cases hjt : j < l.length
        · obtain ⟨f, hf⟩ : ∃ f, l[j]? = some f := ⟨_, List.getElem?_eq_getElem hjt⟩
          obtain ⟨ad2, rfl, c0, c1, c2⟩ := Fils.at_ (HR.out.below hb) hf
          obtain ⟨p, m, dd⟩ := f
          have HE := Lib.hid (show acc ++ (l.take (j + 1)).map (fun x => x.1) = (acc ++ (l.take j).map (fun x => x.1)) ++ [p] by rw [take_snoc hf]; simp)
          have j0' : (0 : Int) ≤ (j : Int) := Int.natCast_nonneg _
          have hj1 : (j : Int) < (l.length : Int) := by omega
          have hcl := World.block_lt_of_cell? _ _ c0
          have hsz := hb.size
          have hown4 := ((hown.out.alloc (.cells #[.string p, .int .i64 m, .string dd] 25)).alloc (.cells #[.string p] 9))
          have hnews := news_one (wr.alloc (.cells #[.string p, .int .i64 m, .string dd] 25)) #[.string p] 9 (wr.heap.size + 1) (by simp)
          clear hf
          go_wp2_with (at_builtin; refine wpList_append_own _ rfl _ _ 66 rfl w.heap.size 9 i0 (.string { data := #[] }) 1 16 Tryz.underlying66 hi hz0 hz1 hz2 rfl (by decide) _ _ _ rfl hown4 ⟨wr.heap.size + 1, 0, none⟩ 1 1 [.string p] rfl rfl hnews (by simp [Value.oneCell']) (by unfold maxLen; omega) (by omega) (by simp; omega) ?_; intro v5 w5 hown5 hg5 _)
          have hb5 : Below w.heap.size w w5 := ((hb.alloc hsz _).alloc (by simp; omega) _).grown hg5 (by simp; omega) (fun k hk => (hown.out.lt k hk).1)
          clear hnews hown4 hg5
          go_roundw
          case rel => exact ⟨j + 1, by omega, by go_num, Lib.hid (by rw [HE.out, str_snoc, ← Nat.add_assoc]; exact hown5), hb5⟩
          case measure => simp [intOf]; omega
        · obtain rfl : j = l.length := by omega
          go_wp2
          go_roundw
          case rel => exact ⟨i + 1, by omega, by go_num, Lib.hid (by rw [HT.out, List.length_append, List.length_map]; rw [List.take_length] at hown; exact hown.out), hb⟩
          case measure => simp [intOf]; omega
    · obtain rfl : i = rs.length := by omega
      rw [List.take_length] at hown
      go_wp2_with fail
      refine (sort_own wr _ _ _ hown.out (by omega)).mono ?_
      rintro e w2 ⟨rfl, ho2, hb2⟩
      go_wp2_with fail
      refine (compact_own w2 _ _ _ _ ho2 (by omega)).mono ?_
      rintro e w3 ⟨u, rfl, ho3, hb3⟩
      go_wp2
      go_ret
      exact ⟨_, rfl, ho3, (hb.trans hb2).trans hb3⟩
end Go.Proofs.YtplleaimmmanhaaGreatDoor
