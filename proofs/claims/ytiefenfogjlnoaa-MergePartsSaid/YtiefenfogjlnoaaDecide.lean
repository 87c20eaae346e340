/-
  decide: what one side changed, or both alike.
-/
import Derived.Test.YtiefenfogjlnoaaChunk
import Derived.BigQuiet
namespace Go.Proofs.Ytiefenfogjlnoaa
open Go.RowKit

/-- What a chunk has decided: its clash and its Out stand in its cells. -/
def Decided (w : World) (X : Nat) (v0 v1 v2 : Value) (d : Ck ByteArray) (e : Ending) (w' : World) : Prop :=
  ∃ v4, e = .returned (.tuple #[]) ∧ Five w' X v0 v1 v2 (.bool d.clash) v4 ∧ w'.ownsRow w.heap.size 9 1 v4 d.out.length (d.out.map Value.string) ∧ w.grownBy w' (some X)

theorem Five.drewN {w : World} {X : Nat} {v0 v1 v2 v3 v4 : Value} (h : Five w X v0 v1 v2 v3 v4) (n : Nat) : Five (w.drewN n) X v0 v1 v2 v3 v4 := ⟨h.c0, h.c1, h.c2, h.c3, h.c4, h.z, h.row⟩

theorem flag_quiet {f : FuncId} {args : Array Value} {w : World} {n : Nat} {b : Bool} (h : Calls Try.prog f args (w.drewN n) (Flag b (w.drewN n))) : Calls Try.prog f args (w.drewN n) fun e w'' => e = .returned (.bool b) ∧ ∃ m, w'' = w.drewN m :=
  Calls.quiet_of (h.mono fun _ _ ⟨q, he, hw⟩ => ⟨he, q, hw⟩)

theorem grown_drewN (w : World) (n : Nat) (b : Option Nat) : w.grownBy (w.drewN n) b := ⟨rfl, rfl, rfl, Nat.le_refl _, fun _ _ _ => rfl⟩

theorem grown_store (w : World) (X k : Nat) (v : Value) : w.grownBy (w.setCell ⟨X, k, none⟩ v) (some X) :=
  ⟨rfl, rfl, rfl, by simp [World.setCell], fun j _ hne => Below.heap_setCell _ _ _ _ (fun e : j = X => hne (by rw [e]))⟩

theorem Five.out {w : World} {X : Nat} {v0 v1 v2 v3 v4 : Value} (h : Five w X v0 v1 v2 v3 v4) (v : Value) : Five (w.setCell ⟨X, 4, none⟩ v) X v0 v1 v2 v3 v := by
  have o : ∀ k : Nat, k ≠ 4 → (w.setCell ⟨X, 4, none⟩ v).cell? ⟨X, k, none⟩ = w.cell? ⟨X, k, none⟩ := fun k hk => World.cell?_setCell_other w _ _ v (by simp)
  exact ⟨(o 0 (by omega)).trans h.c0, (o 1 (by omega)).trans h.c1, (o 2 (by omega)).trans h.c2, (o 3 (by omega)).trans h.c3, set_same h.c4, fun k => (World.frozen?_setCell w _ _ _).trans (h.z k), row_set h.row _ _⟩

theorem grown_below {w w' : World} (h : Below w.heap.size w w') (b : Option Nat) : w.grownBy w' b := ⟨h.os, h.tape, h.output, h.size, fun k hk _ => h.block k hk⟩

theorem decided_store {w wq w2 : World} {X : Nat} {v0 v1 v2 v4 : Value} {xs ys zs out : List ByteArray} (hG : w.grownBy wq (some X)) (hs : w.heap.size ≤ wq.heap.size) (hB : Below wq.heap.size wq w2) (hX : Five w2 X v0 v1 v2 (.bool false) (.slice none 0 0)) (hO : w2.ownsRow wq.heap.size 9 1 v4 out.length (out.map Value.string)) :
    Decided w X v0 v1 v2 ⟨xs, ys, zs, false, out⟩ (.returned (.tuple #[])) (w2.setCell ⟨X, 4, none⟩ v4) :=
  ⟨v4, rfl, hX.out v4, own_le (hO.kept (grown_store w2 X 4 v4) (.inr (own_apart hO hX.ty (by decide)))) hs, (hG.trans (grown_below hB _)).trans (grown_store w2 X 4 v4)⟩

/-- What stands while it decides. -/
structure De (w0 w : World) (X : Nat) (v0 v1 v2 : Value) (xs ys zs : List ByteArray) : Prop where
  x : Five w X v0 v1 v2 (.bool false) (.slice none 0 0)
  g : w0.grownBy w (some X)
  s0 : Strs w v0 xs
  s1 : Strs w v1 ys
  s2 : Strs w v2 zs

theorem De.drewN {w0 w : World} {X : Nat} {v0 v1 v2 : Value} {xs ys zs : List ByteArray} (h : De w0 w X v0 v1 v2 xs ys zs) (n : Nat) : De w0 (w.drewN n) X v0 v1 v2 xs ys zs :=
  ⟨h.x.drewN n, h.g.trans (grown_drewN w n _), h.s0.drewN n, h.s1.drewN n, h.s2.drewN n⟩

theorem De.clash {w0 w : World} {X : Nat} {v0 v1 v2 : Value} {xs ys zs : List ByteArray} (h : De w0 w X v0 v1 v2 xs ys zs) : Decided w0 X v0 v1 v2 ⟨xs, ys, zs, true, []⟩ (.returned (.tuple #[])) (w.setCell ⟨X, 3, none⟩ (.bool true)) := by
  have o : ∀ k : Nat, k ≠ 3 → (w.setCell ⟨X, 3, none⟩ (.bool true)).cell? ⟨X, k, none⟩ = w.cell? ⟨X, k, none⟩ := fun k hk => World.cell?_setCell_other w _ _ _ (by simp)
  exact ⟨.slice none 0 0, rfl, ⟨(o 0 (by omega)).trans h.x.c0, (o 1 (by omega)).trans h.x.c1, (o 2 (by omega)).trans h.x.c2, set_same h.x.c3, (o 4 (by omega)).trans h.x.c4, fun k => (World.frozen?_setCell w _ _ _).trans (h.x.z k), row_set h.x.row _ _⟩,
    World.ownsRow_nil _ _ _ _, h.g.trans (grown_store w X 3 _)⟩

set_option maxHeartbeats 2000000 in
theorem decide_any (w : World) (X : Nat) (v0 v1 v2 : Value) (xs ys zs : List ByteArray) (h : Five w X v0 v1 v2 (.bool false) (.slice none 0 0)) (h0 : Strs w v0 xs) (h1 : Strs w v1 ys) (h2 : Strs w v2 zs)
    (ly : ys.length ≤ 1000) (lz : zs.length ≤ 1000) :
    Calls Try.prog 35 #[.pointer (some ⟨X, 0, none⟩)] w (Decided w X v0 v1 v2 (decideC xs ys zs)) := by
  have hDe : Hid (De w w X v0 v1 v2 xs ys zs) := Lib.hid ⟨h, grown_drewN w 0 _, h0, h1, h2⟩
  clear h h0 h1 h2
  have t0 := hDe.out.x.c0
  have t1 := hDe.out.x.c1
  have t2 := hDe.out.x.c2
  have t3 := hDe.out.x.c3
  have z3 := hDe.out.x.z 3
  go_enter Try.func35, Try.ntmps35
  by_cases e1 : ys = xs
  · have HD : Hid (decideC xs ys zs = ⟨xs, ys, zs, false, zs⟩) := by unfold decideC; rw [if_pos e1]; rfl
    have E1 := Lib.hid (decide_eq_true e1)
    clear e1
    go_wp2_with fail
    go_quiet ((go_at_call 44; exact flag_quiet (E1.out ▸ linesEqual_any _ _ _ _ _ (hDe.out.s1.drewN _) (hDe.out.s0.drewN _))))
    obtain ⟨wq, hwq⟩ : ∃ x, x = w.drewN nq := ⟨_, rfl⟩
    rw [← hwq]
    have hDe : Hid (De w wq X v0 v1 v2 xs ys zs) := Lib.hid (hwq ▸ hDe.out.drewN nq)
    clear hwq t0 t1 t2 t3 z3
    have t0 := hDe.out.x.c0
    have t1 := hDe.out.x.c1
    have t2 := hDe.out.x.c2
    have t3 := hDe.out.x.c3
    have z3 := hDe.out.x.z 3
    go_wp2_with fail
    refine (clone_any wq v2 zs hDe.out.s2 (by omega)).mono ?_
    rintro e w2 ⟨v4, rfl, hO, hB⟩
    obtain ⟨A4, m4, d4, rfl⟩ := own_form hO
    have hX2 := hDe.out.x.below hB
    have z4 := hX2.z 4
    have t4 := hX2.c4
    have hX2 := Lib.hid hX2
    have hO := Lib.hid hO
    go_wp2_with fail
    go_end0
    rw [HD.out]
    exact decided_store hDe.out.g hDe.out.g.size hB hX2.out hO.out
  · have E1 := Lib.hid (decide_eq_false e1)
    by_cases e2 : zs = xs
    · have HD : Hid (decideC xs ys zs = ⟨xs, ys, zs, false, ys⟩) := by unfold decideC; rw [if_neg e1, if_pos (.inl e2)]; rfl
      have E2 := Lib.hid (decide_eq_true e2)
      clear e1 e2
      go_wp2_with fail
      go_quiet ((go_at_call 44; exact flag_quiet (E1.out ▸ linesEqual_any _ _ _ _ _ (hDe.out.s1.drewN _) (hDe.out.s0.drewN _))))
      obtain ⟨wq, hwq⟩ : ∃ x, x = w.drewN nq := ⟨_, rfl⟩
      rw [← hwq]
      have hDe : Hid (De w wq X v0 v1 v2 xs ys zs) := Lib.hid (hwq ▸ hDe.out.drewN nq)
      clear hwq t0 t1 t2 t3 z3
      have t0 := hDe.out.x.c0
      have t1 := hDe.out.x.c1
      have t2 := hDe.out.x.c2
      have t3 := hDe.out.x.c3
      have z3 := hDe.out.x.z 3
      go_wp2_with fail
      go_quiet ((go_at_call 44; exact flag_quiet (E2.out ▸ linesEqual_any _ _ _ _ _ (hDe.out.s2.drewN _) (hDe.out.s0.drewN _))))
      obtain ⟨wq, hwq⟩ : ∃ x, x = wq.drewN nq := ⟨_, rfl⟩
      rw [← hwq]
      have hDe : Hid (De w wq X v0 v1 v2 xs ys zs) := Lib.hid (hwq ▸ hDe.out.drewN nq)
      clear hwq t0 t1 t2 t3 z3
      have t0 := hDe.out.x.c0
      have t1 := hDe.out.x.c1
      have t2 := hDe.out.x.c2
      have t3 := hDe.out.x.c3
      have z3 := hDe.out.x.z 3
      go_wp2_with fail
      refine (clone_any wq v1 ys hDe.out.s1 (by omega)).mono ?_
      rintro e w2 ⟨v4, rfl, hO, hB⟩
      obtain ⟨A4, m4, d4, rfl⟩ := own_form hO
      have hX2 := hDe.out.x.below hB
      have z4 := hX2.z 4
      have t4 := hX2.c4
      have hX2 := Lib.hid hX2
      have hO := Lib.hid hO
      go_wp2_with fail
      go_end0
      rw [HD.out]
      exact decided_store hDe.out.g hDe.out.g.size hB hX2.out hO.out
    · have E2 := Lib.hid (decide_eq_false e2)
      by_cases e3 : ys = zs
      · have HD : Hid (decideC xs ys zs = ⟨xs, ys, zs, false, ys⟩) := by unfold decideC; rw [if_neg e1, if_pos (.inr e3)]; rfl
        have E3 := Lib.hid (decide_eq_true e3)
        clear e1 e2 e3
        go_wp2_with fail
        go_quiet ((go_at_call 44; exact flag_quiet (E1.out ▸ linesEqual_any _ _ _ _ _ (hDe.out.s1.drewN _) (hDe.out.s0.drewN _))))
        obtain ⟨wq, hwq⟩ : ∃ x, x = w.drewN nq := ⟨_, rfl⟩
        rw [← hwq]
        have hDe : Hid (De w wq X v0 v1 v2 xs ys zs) := Lib.hid (hwq ▸ hDe.out.drewN nq)
        clear hwq t0 t1 t2 t3 z3
        have t0 := hDe.out.x.c0
        have t1 := hDe.out.x.c1
        have t2 := hDe.out.x.c2
        have t3 := hDe.out.x.c3
        have z3 := hDe.out.x.z 3
        go_wp2_with fail
        go_quiet ((go_at_call 44; exact flag_quiet (E2.out ▸ linesEqual_any _ _ _ _ _ (hDe.out.s2.drewN _) (hDe.out.s0.drewN _))))
        obtain ⟨wq, hwq⟩ : ∃ x, x = wq.drewN nq := ⟨_, rfl⟩
        rw [← hwq]
        have hDe : Hid (De w wq X v0 v1 v2 xs ys zs) := Lib.hid (hwq ▸ hDe.out.drewN nq)
        clear hwq t0 t1 t2 t3 z3
        have t0 := hDe.out.x.c0
        have t1 := hDe.out.x.c1
        have t2 := hDe.out.x.c2
        have t3 := hDe.out.x.c3
        have z3 := hDe.out.x.z 3
        go_wp2_with fail
        go_quiet ((go_at_call 44; exact flag_quiet (E3.out ▸ linesEqual_any _ _ _ _ _ (hDe.out.s1.drewN _) (hDe.out.s2.drewN _))))
        obtain ⟨wq, hwq⟩ : ∃ x, x = wq.drewN nq := ⟨_, rfl⟩
        rw [← hwq]
        have hDe : Hid (De w wq X v0 v1 v2 xs ys zs) := Lib.hid (hwq ▸ hDe.out.drewN nq)
        clear hwq t0 t1 t2 t3 z3
        have t0 := hDe.out.x.c0
        have t1 := hDe.out.x.c1
        have t2 := hDe.out.x.c2
        have t3 := hDe.out.x.c3
        have z3 := hDe.out.x.z 3
        go_wp2_with fail
        refine (clone_any wq v1 ys hDe.out.s1 (by omega)).mono ?_
        rintro e w2 ⟨v4, rfl, hO, hB⟩
        obtain ⟨A4, m4, d4, rfl⟩ := own_form hO
        have hX2 := hDe.out.x.below hB
        have z4 := hX2.z 4
        have t4 := hX2.c4
        have hX2 := Lib.hid hX2
        have hO := Lib.hid hO
        go_wp2_with fail
        go_end0
        rw [HD.out]
        exact decided_store hDe.out.g hDe.out.g.size hB hX2.out hO.out
      · have HD : Hid (decideC xs ys zs = ⟨xs, ys, zs, true, []⟩) := by unfold decideC; rw [if_neg e1, if_neg (fun h => h.elim e2 e3)]; rfl
        have E3 := Lib.hid (decide_eq_false e3)
        clear e1 e2 e3
        go_wp2_with fail
        go_quiet ((go_at_call 44; exact flag_quiet (E1.out ▸ linesEqual_any _ _ _ _ _ (hDe.out.s1.drewN _) (hDe.out.s0.drewN _))))
        obtain ⟨wq, hwq⟩ : ∃ x, x = w.drewN nq := ⟨_, rfl⟩
        rw [← hwq]
        have hDe : Hid (De w wq X v0 v1 v2 xs ys zs) := Lib.hid (hwq ▸ hDe.out.drewN nq)
        clear hwq t0 t1 t2 t3 z3
        have t0 := hDe.out.x.c0
        have t1 := hDe.out.x.c1
        have t2 := hDe.out.x.c2
        have t3 := hDe.out.x.c3
        have z3 := hDe.out.x.z 3
        go_wp2_with fail
        go_quiet ((go_at_call 44; exact flag_quiet (E2.out ▸ linesEqual_any _ _ _ _ _ (hDe.out.s2.drewN _) (hDe.out.s0.drewN _))))
        obtain ⟨wq, hwq⟩ : ∃ x, x = wq.drewN nq := ⟨_, rfl⟩
        rw [← hwq]
        have hDe : Hid (De w wq X v0 v1 v2 xs ys zs) := Lib.hid (hwq ▸ hDe.out.drewN nq)
        clear hwq t0 t1 t2 t3 z3
        have t0 := hDe.out.x.c0
        have t1 := hDe.out.x.c1
        have t2 := hDe.out.x.c2
        have t3 := hDe.out.x.c3
        have z3 := hDe.out.x.z 3
        go_wp2_with fail
        go_quiet ((go_at_call 44; exact flag_quiet (E3.out ▸ linesEqual_any _ _ _ _ _ (hDe.out.s1.drewN _) (hDe.out.s2.drewN _))))
        obtain ⟨wq, hwq⟩ : ∃ x, x = wq.drewN nq := ⟨_, rfl⟩
        rw [← hwq]
        have hDe : Hid (De w wq X v0 v1 v2 xs ys zs) := Lib.hid (hwq ▸ hDe.out.drewN nq)
        clear hwq t0 t1 t2 t3 z3
        have t0 := hDe.out.x.c0
        have t1 := hDe.out.x.c1
        have t2 := hDe.out.x.c2
        have t3 := hDe.out.x.c3
        have z3 := hDe.out.x.z 3
        go_wp2_with fail
        go_end0
        rw [HD.out]
        exact hDe.out.clash

end Go.Proofs.Ytiefenfogjlnoaa
