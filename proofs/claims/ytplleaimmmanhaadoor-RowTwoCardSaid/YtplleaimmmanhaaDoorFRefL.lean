/-
  rectoref14.Like, rectoref14.What: whether a path is alike in two trees, and what became of it.
-/
import Derived.Test.YtplleaimmmanhaaDoorFRefG
namespace Go.Proofs.YtplleaimmmanhaaDoor
open Go.RowKit

def likeB (x y : Fl) (p q : Bool) : Bool := (p == q) && decide (x = y)
section
variable {x1 y1 x3 y3 : ByteArray} {x2 y2 : Int} (p : Bool)
theorem likeB_yes (h1 : x1.toList = y1.toList) (h2 : x2 = y2) (h3 : x3.toList = y3.toList) : likeB (x1, x2, x3) (y1, y2, y3) p p = true := by
  rw [tl_eq h1, h2, tl_eq h3]
  simp [likeB]
theorem likeB_no {x y : Fl} (h : x ≠ y) : likeB x y p p = false := by simp [likeB, h]
theorem likeB_no1 (h1 : ¬ x1.toList = y1.toList) : likeB (x1, x2, x3) (y1, y2, y3) p p = false := likeB_no p fun e => h1 (by rw [show x1 = y1 from congrArg Prod.fst e])
theorem likeB_no2 (h1 : ¬ x2 = y2) : likeB (x1, x2, x3) (y1, y2, y3) p p = false := likeB_no p fun e => h1 (show x2 = y2 from congrArg (fun z => z.2.1) e)
theorem likeB_no3 (h1 : ¬ x3.toList = y3.toList) : likeB (x1, x2, x3) (y1, y2, y3) p p = false := likeB_no p fun e => h1 (by rw [show x3 = y3 from congrArg (fun z => z.2.2) e])
end

set_option maxHeartbeats 4000000 in
theorem like_core (w : World) (v u : Value) (s : ByteArray) (x y : Fl) (p q : Bool) (G1 : Hid (Calls Tryd.prog 31 #[v, .string s] w (GotB x p w))) (G2 : Hid (∀ W, Below w.heap.size w W → Calls Tryd.prog 31 #[u, .string s] W (GotB y q W))) :
    Calls Tryd.prog 32 #[v, u, .string s] w (FlagTo (likeB x y p q) w) := by
  obtain ⟨x1, x2, x3⟩ := x
  obtain ⟨y1, y2, y3⟩ := y
  go_enter Tryd.func32, Tryd.ntmps32
  go_wp2_with fail
  refine G1.out.mono ?_
  rintro e w1 ⟨rfl, b1⟩
  have b1' := b1.alloc b1.size (.cells #[.string x1, .int .i64 x2, .string x3] 47)
  go_wp2_with fail
  refine (G2.out _ b1').mono ?_
  rintro e w2 ⟨rfl, b2⟩
  have K1 := (b2.block w1.heap.size (by simp)).trans (heap_alloc_new w1 (.cells #[.string x1, .int .i64 x2, .string x3] 47))
  have hlt : w1.heap.size + 1 ≤ w2.heap.size := by simpa using b2.size
  have d0 : w2.cell? ⟨w1.heap.size, 0, none⟩ = some (.string x1) := cell_of_row w2 w1.heap.size 0 _ 47 (0, 0) K1
  have d1 : w2.cell? ⟨w1.heap.size, 1, none⟩ = some (.int .i64 x2) := cell_of_row w2 w1.heap.size 1 _ 47 (0, 0) K1
  have d2 : w2.cell? ⟨w1.heap.size, 2, none⟩ = some (.string x3) := cell_of_row w2 w1.heap.size 2 _ 47 (0, 0) K1
  have hb : Below w.heap.size w w2 := b1'.trans (b2.mono (by have := b1.size; simp; omega))
  have hb' := hb.alloc hb.size (.cells #[.string y1, .int .i64 y2, .string y3] 47)
  obtain ⟨g, hg⟩ : ∃ g, g = w1.heap.size := ⟨_, rfl⟩
  rw [← hg] at d0 d1 d2 hlt ⊢
  have HB := Lib.hid hb'
  have hcl : g < w2.heap.size := by omega
  clear K1 G1 G2 b1 b1' b2 hb hb' hg
  cases p with
  | false =>
    cases q with
    | true =>
      go_wp2
      go_ret
      exact ⟨rfl, HB.out⟩
    | false =>
      go_wp2
      all_goals go_ret
      all_goals first
        | exact ⟨by rw [likeB_yes _ (by assumption) (by assumption) (by assumption)]; rfl, HB.out⟩
        | exact ⟨by rw [likeB_no1 _ (by assumption)]; rfl, HB.out⟩
        | exact ⟨by rw [likeB_no2 _ (by assumption)]; rfl, HB.out⟩
        | exact ⟨by rw [likeB_no3 _ (by assumption)]; rfl, HB.out⟩
  | true =>
    cases q with
    | false =>
      go_wp2
      go_ret
      exact ⟨rfl, HB.out⟩
    | true =>
      go_wp2
      all_goals go_ret
      all_goals first
        | exact ⟨by rw [likeB_yes _ (by assumption) (by assumption) (by assumption)]; rfl, HB.out⟩
        | exact ⟨by rw [likeB_no1 _ (by assumption)]; rfl, HB.out⟩
        | exact ⟨by rw [likeB_no2 _ (by assumption)]; rfl, HB.out⟩
        | exact ⟨by rw [likeB_no3 _ (by assumption)]; rfl, HB.out⟩

set_option maxHeartbeats 2000000 in
theorem what_core (w : World) (v u : Value) (s : ByteArray) (x y : Fl) (p q t : Bool) (n : Int) (HN : Hid (n = if t then 32 else if p then (if q then 77 else 68) else 65)) (G1 : Hid (Calls Tryd.prog 31 #[v, .string s] w (GotB x p w))) (G2 : Hid (∀ W, Below w.heap.size w W → Calls Tryd.prog 31 #[u, .string s] W (GotB y q W)))
    (G3 : Hid (∀ W, Below w.heap.size w W → Calls Tryd.prog 32 #[v, u, .string s] W (FlagTo t W))) :
    Calls Tryd.prog 13 #[v, u, .string s] w (LetterTo n w) := by
  obtain ⟨x1, x2, x3⟩ := x
  obtain ⟨y1, y2, y3⟩ := y
  go_enter Tryd.func13, Tryd.ntmps13
  go_wp2_with fail
  refine G1.out.mono ?_
  rintro e w1 ⟨rfl, b1⟩
  have b1' := b1.alloc b1.size (.cells #[.string x1, .int .i64 x2, .string x3] 47)
  go_wp2_with fail
  refine (G2.out _ b1').mono ?_
  rintro e w2 ⟨rfl, b2⟩
  have hb : Below w.heap.size w w2 := b1'.trans (b2.mono (by have := b1.size; simp; omega))
  have hb' := hb.alloc hb.size (.cells #[.string y1, .int .i64 y2, .string y3] 47)
  clear G1 G2 b1 b1' b2 hb
  go_wp2_with fail
  refine (G3.out _ hb').mono ?_
  rintro e w3 ⟨rfl, b3⟩
  have HB := Lib.hid (hb'.trans (b3.mono hb'.size))
  clear G3 b3 hb'
  cases t with
  | true =>
    go_wp2
    go_ret
    exact ⟨by rw [HN.out]; rfl, HB.out⟩
  | false =>
    cases p with
    | false =>
      go_wp2
      go_ret
      exact ⟨by rw [HN.out]; rfl, HB.out⟩
    | true =>
      cases q with
      | false =>
        go_wp2
        go_ret
        exact ⟨by rw [HN.out]; rfl, HB.out⟩
      | true =>
        go_wp2
        go_ret
        exact ⟨by rw [HN.out]; rfl, HB.out⟩

theorem likeB_get (a b : Option Fl) : (if likeB (flZ a) (flZ b) a.isSome b.isSome then (32 : Int) else if a.isSome then (if b.isSome then 77 else 68) else 65) = unl a b := by
  cases a with
  | none => cases b <;> simp [likeB, unl, flZ]
  | some f => cases b with
    | none => simp [likeB, unl]
    | some g => by_cases h : f = g <;> simp [likeB, unl, flZ, h]
theorem what_any (w : World) (v u : Value) (a b : List Fl) (s : ByteArray) (h : Reads 3 cF w v a) (g : Reads 3 cF w u b) (hal : a.length ≤ 100000) (hbl : b.length ≤ 100000) :
    Calls Tryd.prog 13 #[v, u, .string s] w (LetterTo (unl (getF a s) (getF b s)) w) := by
  rw [← likeB_get]
  have G : ∀ W, Below w.heap.size w W → Calls Tryd.prog 31 #[v, .string s] W (GotB (flZ (getF a s)) (getF a s).isSome W) := fun W hW => (refGet_any W v a s (h.below hW) hal).mono fun e w' ⟨he, hb⟩ => ⟨by rw [he, gotV_flZ], hb⟩
  have H : ∀ W, Below w.heap.size w W → Calls Tryd.prog 31 #[u, .string s] W (GotB (flZ (getF b s)) (getF b s).isSome W) := fun W hW => (refGet_any W u b s (g.below hW) hbl).mono fun e w' ⟨he, hb⟩ => ⟨by rw [he, gotV_flZ], hb⟩
  exact what_core w v u s _ _ _ _ _ _ (Lib.hid rfl) (Lib.hid (G w (Below.refl _ _))) (Lib.hid H) (Lib.hid fun W hW => like_core W v u s _ _ _ _ (Lib.hid (G W hW)) (Lib.hid fun W' hW' => H W' (hW.trans (hW'.mono hW.size))))
end Go.Proofs.YtplleaimmmanhaaDoor
