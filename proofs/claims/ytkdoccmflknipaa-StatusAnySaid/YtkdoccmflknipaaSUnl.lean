/-
  status.unlike, status.changed: what became of a path.
-/
import Derived.Test.YtkdoccmflknipaaSFind
namespace Go.Proofs.Ytkdoccmflknipaa
open Go.RowKit

/-- From one to the other, each a file or none: A, D, M, or a blank. -/
def unl : Option Fl → Option Fl → Int
  | none, none => 32
  | none, some _ => 65
  | some _, none => 68
  | some f, some g => if f = g then 32 else 77
/-- .. where what is new is not known yet. -/
def chg (a b : Option Fl) : Int := if unl a b = 65 then 63 else unl a b
theorem unl_cases (a b : Option Fl) : unl a b = 32 ∨ unl a b = 65 ∨ unl a b = 68 ∨ unl a b = 77 := by
  cases a with
  | none => cases b <;> simp [unl]
  | some f =>
    cases b with
    | none => simp [unl]
    | some g =>
      show (if f = g then (32 : Int) else 77) = 32 ∨ _
      by_cases h : f = g
      · exact .inl (if_pos h)
      · exact .inr (.inr (.inr (if_neg h)))
theorem bytes_beq (x y : ByteArray) : (x.toList == y.toList) = decide (x = y) := by
  rw [ByteArray.toList_eq, ByteArray.toList_eq]
  by_cases e : x = y
  · simp [e]
  · simp [e]
    intro h
    exact e (ByteArray.ext h)

def LetterTo (n : Int) (w : World) (e : Ending) (w' : World) : Prop := e = .returned (.int .u8 n) ∧ Below w.heap.size w w'

/-- The letter as the program reckons it. -/
def unlB (x y : Fl) (p q : Bool) : Int := if p = false ∧ q = true then 65 else if p = true ∧ q = false then 68 else if x = y then 32 else 77
theorem tl_eq {x y : ByteArray} (h : x.toList = y.toList) : x = y := by
  rw [ByteArray.toList_eq, ByteArray.toList_eq] at h
  apply ByteArray.ext
  simpa using h
section
variable {x1 y1 x3 y3 : ByteArray} {x2 y2 : Int} (p : Bool)
theorem unlB_yes (h1 : x1.toList = y1.toList) (h2 : x2 = y2) (h3 : x3.toList = y3.toList) : unlB (x1, x2, x3) (y1, y2, y3) p p = 32 := by
  rw [tl_eq h1, h2, tl_eq h3]
  cases p <;> simp [unlB]
theorem unlB_no {x y : Fl} (h : x ≠ y) : unlB x y p p = 77 := by cases p <;> simp [unlB, h]
theorem unlB_no1 (h1 : ¬ x1.toList = y1.toList) : unlB (x1, x2, x3) (y1, y2, y3) p p = 77 := unlB_no p fun e => h1 (by rw [show x1 = y1 from congrArg Prod.fst e])
theorem unlB_no2 (h1 : ¬ x2 = y2) : unlB (x1, x2, x3) (y1, y2, y3) p p = 77 := unlB_no p fun e => h1 (show x2 = y2 from congrArg (fun z => z.2.1) e)
theorem unlB_no3 (h1 : ¬ x3.toList = y3.toList) : unlB (x1, x2, x3) (y1, y2, y3) p p = 77 := unlB_no p fun e => h1 (by rw [show x3 = y3 from congrArg (fun z => z.2.2) e])
end
def GotB (x : Fl) (p : Bool) (w : World) (e : Ending) (w' : World) : Prop := e = .returned (.tuple #[.agg #[.string x.1, .int .i64 x.2.1, .string x.2.2], .bool p]) ∧ Below w.heap.size w w'

set_option maxHeartbeats 4000000 in
theorem unlike_core (w : World) (v u : Value) (s : ByteArray) (x y : Fl) (p q : Bool) (G1 : Hid (Calls Try.prog 55 #[v, .string s] w (GotB x p w))) (G2 : Hid (∀ W, Below w.heap.size w W → Calls Try.prog 55 #[u, .string s] W (GotB y q W))) :
    Calls Try.prog 31 #[v, u, .string s] w (LetterTo (unlB x y p q) w) := by
  obtain ⟨x1, x2, x3⟩ := x
  obtain ⟨y1, y2, y3⟩ := y
  go_enter Try.func31, Try.ntmps31
  go_wp2_with fail
  refine G1.out.mono ?_
  rintro e w1 ⟨rfl, b1⟩
  have b1' := b1.alloc b1.size (.cells #[.string x1, .int .i64 x2, .string x3] 56)
  go_wp2_with fail
  refine (G2.out _ b1').mono ?_
  rintro e w2 ⟨rfl, b2⟩
  have K1 := (b2.block w1.heap.size (by simp)).trans (heap_alloc_new w1 (.cells #[.string x1, .int .i64 x2, .string x3] 56))
  have hlt : w1.heap.size + 1 ≤ w2.heap.size := by simpa using b2.size
  have d0 : w2.cell? ⟨w1.heap.size, 0, none⟩ = some (.string x1) := cell_of_row w2 w1.heap.size 0 _ 56 (0, 0) K1
  have d1 : w2.cell? ⟨w1.heap.size, 1, none⟩ = some (.int .i64 x2) := cell_of_row w2 w1.heap.size 1 _ 56 (0, 0) K1
  have d2 : w2.cell? ⟨w1.heap.size, 2, none⟩ = some (.string x3) := cell_of_row w2 w1.heap.size 2 _ 56 (0, 0) K1
  have hb : Below w.heap.size w w2 := b1'.trans (b2.mono (by have := b1.size; simp; omega))
  have hb' := hb.alloc hb.size (.cells #[.string y1, .int .i64 y2, .string y3] 56)
  obtain ⟨g, hg⟩ : ∃ g, g = w1.heap.size := ⟨_, rfl⟩
  rw [← hg] at d0 d1 d2 hlt ⊢
  have HB := Lib.hid hb'
  have hcl : g < w2.heap.size := by omega
  clear K1 G1 G2 b1 b1' b2 hb hb' hg
  cases p with
  | false =>
    cases q with
    | true =>
      go_wp2
      go_ret
      exact ⟨rfl, HB.out⟩
    | false =>
      go_wp2
      all_goals go_ret
      all_goals first
        | exact ⟨by rw [unlB_yes _ (by assumption) (by assumption) (by assumption)]; rfl, HB.out⟩
        | exact ⟨by rw [unlB_no1 _ (by assumption)]; rfl, HB.out⟩
        | exact ⟨by rw [unlB_no2 _ (by assumption)]; rfl, HB.out⟩
        | exact ⟨by rw [unlB_no3 _ (by assumption)]; rfl, HB.out⟩
  | true =>
    cases q with
    | false =>
      go_wp2
      go_ret
      exact ⟨rfl, HB.out⟩
    | true =>
      go_wp2
      all_goals go_ret
      all_goals first
        | exact ⟨by rw [unlB_yes _ (by assumption) (by assumption) (by assumption)]; rfl, HB.out⟩
        | exact ⟨by rw [unlB_no1 _ (by assumption)]; rfl, HB.out⟩
        | exact ⟨by rw [unlB_no2 _ (by assumption)]; rfl, HB.out⟩
        | exact ⟨by rw [unlB_no3 _ (by assumption)]; rfl, HB.out⟩

def flZ : Option Fl → Fl
  | some f => f
  | none => (⟨#[]⟩, 0, ⟨#[]⟩)
theorem gotV_flZ (o : Option Fl) : gotV o = .tuple #[.agg #[.string (flZ o).1, .int .i64 (flZ o).2.1, .string (flZ o).2.2], .bool o.isSome] := by cases o <;> rfl
theorem unlB_unl (a b : Option Fl) : unlB (flZ a) (flZ b) a.isSome b.isSome = unl a b := by
  cases a <;> cases b <;> first | rfl | (simp only [unlB, unl, flZ, Option.isSome]; split <;> split <;> simp_all)

theorem unlike_any (w : World) (v u : Value) (a b : List Fl) (s : ByteArray) (h : Reads 3 cF w v a) (g : Reads 3 cF w u b) (ha : RiseF a) (hb : RiseF b) (hal : a.length ≤ 100000) (hbl : b.length ≤ 100000) :
    Calls Try.prog 31 #[v, u, .string s] w (LetterTo (unl (getF a s) (getF b s)) w) := by
  rw [← unlB_unl]
  exact unlike_core w v u s _ _ _ _ (Lib.hid ((get_any w v a s h ha hal).mono fun e w' ⟨he, hb⟩ => ⟨by rw [he, gotV_flZ], hb⟩))
    (Lib.hid fun W hW => (get_any W u b s (g.below hW) hb hbl).mono fun e w' ⟨he, hb⟩ => ⟨by rw [he, gotV_flZ], hb⟩)

set_option maxHeartbeats 1000000 in
theorem changed_any (w : World) (v u : Value) (a b : List Fl) (s : ByteArray) (h : Reads 3 cF w v a) (g : Reads 3 cF w u b) (ha : RiseF a) (hb : RiseF b) (hal : a.length ≤ 100000) (hbl : b.length ≤ 100000) :
    Calls Try.prog 32 #[v, u, .string s] w (LetterTo (chg (getF a s) (getF b s)) w) := by
  have U := Lib.hid (unlike_any w v u a b s h g ha hb hal hbl)
  have HC := Lib.hid (show chg (getF a s) (getF b s) = if unl (getF a s) (getF b s) = 65 then 63 else unl (getF a s) (getF b s) from rfl)
  obtain ⟨n, hn⟩ : ∃ n, n = unl (getF a s) (getF b s) := ⟨_, rfl⟩
  rw [← hn] at HC U
  clear h g ha hb hn
  go_enter Try.func32, Try.ntmps32
  go_wp2_with fail
  refine U.out.mono ?_
  rintro e w1 ⟨rfl, b1⟩
  by_cases h65 : n = 65
  · subst h65
    go_wp2
    go_ret
    exact ⟨by rw [HC.out]; rfl, b1⟩
  · have hbe : (n == 65) = false := by simpa using h65
    have HN := Lib.hid h65
    go_wp2
    go_ret
    exact ⟨by rw [HC.out, if_neg HN.out]; rfl, b1⟩
end Go.Proofs.Ytkdoccmflknipaa
