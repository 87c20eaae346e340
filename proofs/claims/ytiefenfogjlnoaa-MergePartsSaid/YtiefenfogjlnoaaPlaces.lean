/-
  places: of each line of the one text where it is kept in the other; Clone of any slice of texts; whole.
-/
import Derived.Test.YtiefenfogjlnoaaReaders
import Derived.Deep.AppendLies
namespace Go.Proofs.Ytiefenfogjlnoaa
open Go.RowKit

theorem pls_snoc {α : Type} (k : Nat) (x : α) : ∀ (l : List (Nat × α)) (a : Nat), (∀ e ∈ l, e.1 = 1 ∨ e.1 = 2 ∨ e.1 = 3) → pls (l ++ [(k, x)]) a = pls l a ++ (if k = 1 then [some (a + (edB l).length)] else if k = 2 then [none] else []) := by
  intro l
  induction l with
  | nil => intro a _; simp [pls, edB]
  | cons e l ih =>
    intro a h
    obtain ⟨op, y⟩ := e
    have ih := fun a => ih a (fun e he => h e (List.mem_cons_of_mem _ he))
    have hk := h (op, y) (List.mem_cons_self ..)
    simp only at hk
    have e1 : ∀ n : Nat, a + 1 + n = a + (n + 1) := fun n => by omega
    have e2 : ∀ n : Nat, a + (n + 1) = a + 1 + n := fun n => by omega
    clear e1
    rcases hk with rfl | rfl | rfl
    all_goals
      by_cases h1 : k = 1
      · subst h1
        simp [pls, edB_cons, ih]
        try exact (e2 _).symm
      · by_cases h2 : k = 2
        · subst h2
          simp [pls, ih]
        · simp [pls, ih, h1, h2]

theorem edB_take' (l : List (Nat × ByteArray)) (k : Nat) {op : Nat} {s : ByteArray} (h : l[k]? = some (op, s)) : (edB (l.take (k + 1))).length = (edB (l.take k)).length + (if op = 2 then 0 else 1) := by
  rw [List.take_add_one, h]
  unfold edB
  rw [List.filter_append, List.map_append, List.length_append]
  congr 1
  by_cases e : op = 2 <;> simp [e]

theorem pls_take (l : List (Nat × ByteArray)) (hops : ∀ e ∈ l, e.1 = 1 ∨ e.1 = 2 ∨ e.1 = 3) (k : Nat) {op : Nat} {s : ByteArray} (h : l[k]? = some (op, s)) :
    pls (l.take (k + 1)) 0 = pls (l.take k) 0 ++ (if op = 1 then [some (edB (l.take k)).length] else if op = 2 then [none] else []) := by
  rw [List.take_add_one, h]
  have := pls_snoc op s (l.take k) 0 (fun e he => hops e (List.mem_of_mem_take he))
  rw [Nat.zero_add] at this
  exact this

theorem edB_len' (l : List (Nat × ByteArray)) (k : Nat) : (edB (l.take k)).length ≤ k := by
  unfold edB
  rw [List.length_map]
  have := List.length_filter_le (fun e : Nat × ByteArray => e.1 != 2) (l.take k)
  rw [List.length_take] at this
  omega
theorem pls_len' (l : List (Nat × ByteArray)) : ∀ a, (pls l a).length ≤ l.length := by
  induction l with
  | nil => intro a; simp [pls]
  | cons e l ih =>
    intro a
    simp only [pls]
    split
    · simp only [List.length_cons]; have := ih (a + 1); omega
    · split
      · simp only [List.length_cons]; have := ih a; omega
      · have := ih (a + 1); simp only [List.length_cons]; omega

theorem edCells_at {l : List (Nat × ByteArray)} : ∀ {i k : Nat} {s : ByteArray}, l[i]? = some (k, s) → (edCells l)[i * 2]? = some (.int .i64 (k : Int)) ∧ (edCells l)[i * 2 + 1]? = some (.string s) := by
  induction l with
  | nil => intro i k s h; simp at h
  | cons x l ih =>
    intro i k s h
    have hc : edCells (x :: l) = .int .i64 (x.1 : Int) :: .string x.2 :: edCells l := rfl
    rw [hc]
    cases i with
    | zero => simp at h; subst h; exact ⟨rfl, rfl⟩
    | succ i =>
      rw [show (i + 1) * 2 = i * 2 + 1 + 1 by omega]
      simp only [List.getElem?_cons_succ] at h ⊢
      exact ih h

theorem own2_at {w : World} {base g cap : Nat} {e : TypeId} {n : Nat} {xs : List Value} (h : w.ownsRow base e 2 (.slice (some ⟨g, 0, none⟩) n cap) n xs) {i : Nat} {x : Value} (hi : xs[i]? = some x) : w.cell? ⟨g, i, none⟩ = some x := by
  rw [h.cellAt i (by rw [← h.1]; exact (List.getElem?_eq_some_iff.1 hi).1)]
  exact hi

theorem intInfo3 : (Try.prog.info? 3).map (fun i => (i.zero, i.size, i.bytes)) = some (some (.int .i64 0), 1, 8) := by kernel_rfl

/-- The places come back in a row of the call's own. -/
def Placed (w : World) (p : List (Option Nat)) (e : Ending) (w' : World) : Prop := ∃ v, e = .returned v ∧ w'.ownsRow w.heap.size 3 1 v p.length (p.map pz) ∧ Below w.heap.size w w'

set_option maxRecDepth 100000 in
set_option maxHeartbeats 4000000 in
theorem places_any (w : World) (base : Nat) (v : Value) (l : List (Nat × ByteArray)) (h : w.ownsRow base 66 2 v l.length (edCells l)) (hl : l.length ≤ 600) (hops : ∀ e ∈ l, e.1 = 1 ∨ e.1 = 2 ∨ e.1 = 3) :
    Calls Try.prog 22 #[v] w (Placed w (pls l 0)) := by
  have HH := Lib.hid h
  have HOP := Lib.hid hops
  obtain ⟨i0, hi, hz0, hz1, hz2⟩ := info_parts intInfo3
  obtain ⟨A, m, c, rfl⟩ : ∃ A m c, v = .slice A m c := by
    rcases h.2 with ⟨rfl, _⟩ | ⟨g, cap, cur, rfl, _⟩
    · exact ⟨_, _, _, rfl⟩
    · exact ⟨_, _, _, rfl⟩
  obtain rfl : m = l.length := by
    rcases h.2 with ⟨e, e2⟩ | ⟨g, cap, cur, e, _⟩
    · cases e; exact e2.symm
    · cases e; rfl
  clear h hops
  go_enter Try.func22, Try.ntmps22
  go_wp2
  go_loopw [3, 4, 9] (fun s3 s4 s9 wr => ∃ k : Nat, k ≤ l.length ∧ s9 = .int .i64 k ∧ s4 = .int .i64 ((edB (l.take k)).length : Nat) ∧ wr.ownsRow w.heap.size 3 1 s3 (pls (l.take k) 0).length ((pls (l.take k) 0).map pz) ∧ Below w.heap.size w wr) (fun _ _ s9 _ => l.length - (intOf s9).toNat)
  case atStart => exact ⟨0, Nat.zero_le _, rfl, rfl, World.ownsRow_nil _ _ _ _, Below.refl _ _⟩
  case round =>
    obtain ⟨k, hk, rfl, rfl, hown, hb⟩ := hrel
    have k0 : (0 : Int) ≤ (k : Int) := Int.natCast_nonneg _
    have lB := edB_len' l k
    have lP := pls_len' (l.take k) 0
    rw [List.length_take] at lP
    by_cases hlt : k < l.length
    · obtain ⟨⟨op, s⟩, hs⟩ : ∃ x, l[k]? = some x := ⟨_, List.getElem?_eq_getElem hlt⟩
      have ho := own2_keep HH.out hb
      obtain ⟨g, rfl⟩ : ∃ g, A = some ⟨g, 0, none⟩ := by
        rcases ho.2 with ⟨_, e2⟩ | ⟨g, cap, cur, e, _⟩
        · omega
        · cases e; exact ⟨_, rfl⟩
      have k1 : (k : Int) < (l.length : Int) := by omega
      obtain ⟨x1, x2⟩ := edCells_at hs
      have c1 := own2_at ho x1
      have c2 := own2_at ho x2
      have eB := Lib.hid (edB_take' l k hs)
      have eP := Lib.hid (pls_take l HOP.out k hs)
      have hop := HOP.out _ (List.mem_of_getElem? hs)
      simp only at hop
      clear ho x1 x2 hs
      generalize hq : (edB (l.take k)).length = q at *
      generalize hP : pls (l.take k) 0 = P at *
      clear hq hP
      rcases hop with rfl | rfl | rfl
      · have hown4 := (hown.alloc (.cells #[.int .i64 1, .string s] 66)).alloc (.cells #[.int .i64 (q : Int)] 3)
        have hnews := World.news_of_block (cs := #[.int .i64 (q : Int)]) (t := 3) (fr := (0, 0)) (heap_alloc_new (wr.alloc (.cells #[.int .i64 1, .string s] 66)) (.cells #[.int .i64 (q : Int)] 3))
        rw [show (wr.alloc (.cells #[.int .i64 1, .string s] 66)).heap.size = wr.heap.size + 1 from by simp] at hnews
        have hb4 := (hb.alloc hb.size (.cells #[.int .i64 1, .string s] 66)).alloc (by have := hb.size; simp; omega) (.cells #[.int .i64 (q : Int)] 3)
        have hsz4 := hb4.size
        go_wp2_with (at_builtin; refine wpList_append_own _ rfl _ _ 51 rfl w.heap.size 3 i0 (.int .i64 0) 1 8 Try.underlying51 hi hz0 hz1 hz2 rfl (by decide) _ _ _ rfl hown4 ⟨wr.heap.size + 1, 0, none⟩ 1 1 [.int .i64 (q : Int)] rfl rfl hnews (by simp [Value.oneCell']) (by unfold maxLen; omega) (by omega) hsz4 ?_; intro v5 w5 hown5 hg5 _; have hb5 : Below w.heap.size w w5 := hb4.grown hg5 hsz4 (fun z hz => (hown.lt z hz).1); clear hnews hown4 hg5 hb4)
        go_roundw
        case rel => exact ⟨k + 1, by omega, by go_num, by rw [eB.out, if_neg (by omega)]; go_num, by rw [eP.out, if_pos rfl, List.length_append, List.map_append]; exact hown5, hb5⟩
        case measure => simp [intOf]; omega
      · have hown4 := (hown.alloc (.cells #[.int .i64 2, .string s] 66)).alloc (.cells #[.int .i64 (-1)] 3)
        have hnews := World.news_of_block (cs := #[.int .i64 (-1)]) (t := 3) (fr := (0, 0)) (heap_alloc_new (wr.alloc (.cells #[.int .i64 2, .string s] 66)) (.cells #[.int .i64 (-1)] 3))
        rw [show (wr.alloc (.cells #[.int .i64 2, .string s] 66)).heap.size = wr.heap.size + 1 from by simp] at hnews
        have hb4 := (hb.alloc hb.size (.cells #[.int .i64 2, .string s] 66)).alloc (by have := hb.size; simp; omega) (.cells #[.int .i64 (-1)] 3)
        have hsz4 := hb4.size
        go_wp2_with (at_builtin; refine wpList_append_own _ rfl _ _ 51 rfl w.heap.size 3 i0 (.int .i64 0) 1 8 Try.underlying51 hi hz0 hz1 hz2 rfl (by decide) _ _ _ rfl hown4 ⟨wr.heap.size + 1, 0, none⟩ 1 1 [.int .i64 (-1)] rfl rfl hnews (by simp [Value.oneCell']) (by unfold maxLen; omega) (by omega) hsz4 ?_; intro v5 w5 hown5 hg5 _; have hb5 : Below w.heap.size w w5 := hb4.grown hg5 hsz4 (fun z hz => (hown.lt z hz).1); clear hnews hown4 hg5 hb4)
        go_roundw
        case rel => exact ⟨k + 1, by omega, by go_num, by rw [eB.out, if_pos rfl]; rfl, by rw [eP.out, if_neg (by omega), if_pos rfl, List.length_append, List.map_append]; exact hown5, hb5⟩
        case measure => simp [intOf]; omega
      · go_wp2
        go_roundw
        case rel => exact ⟨k + 1, by omega, by go_num, by rw [eB.out, if_neg (by omega)]; go_num, by rw [eP.out, if_neg (by omega), if_neg (by omega), List.append_nil]; exact hown.alloc _, hb.alloc hb.size _⟩
        case measure => simp [intOf]; omega
    · obtain rfl : k = l.length := by omega
      rw [List.take_length] at hown
      go_wp2
      go_ret
      exact ⟨u3, rfl, hown, hb⟩

end Go.Proofs.Ytiefenfogjlnoaa
