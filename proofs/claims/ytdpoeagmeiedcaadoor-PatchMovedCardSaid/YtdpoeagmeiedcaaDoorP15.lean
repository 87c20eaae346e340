/-
  rectolaw12.few: a text few and short.
-/
import Derived.Test.YtdpoeagmeiedcaaDoorG6
import Derived.Test.YtdpoeagmeiedcaaDoorG5
import Derived.Test.YtdpoeagmeiedcaaDoorP14
namespace Go.Proofs.YtdpoeagmeiedcaaDoor
open Go Go.RowKit

/-- It says so only of at most 50 lines. -/
def FewP (n m : Nat) (w : World) (e : Ending) (w' : World) : Prop := ∃ b : Bool, e = .returned (.bool b) ∧ (b = true → n ≤ 50 ∧ m ≤ 50) ∧ Below w.heap.size w w'
set_option maxRecDepth 100000 in
set_option maxHeartbeats 2000000 in
theorem few12_any (w : World) (v u : Value) (xs ys : List ByteArray) (h : Strs w v xs) (g : Strs w u ys) : Calls Tryd.prog 20 #[v, u] w (FewP xs.length ys.length w) := by
  have F := Lib.hid (few_any w v u xs ys h g)
  obtain ⟨A, n, c, rfl⟩ := h.form
  obtain ⟨B, m, d, rfl⟩ := g.form
  obtain rfl := h.len.1
  obtain rfl := g.len.1
  clear h g
  obtain ⟨n, hn⟩ : ∃ n, n = xs.length := ⟨_, rfl⟩
  obtain ⟨m, hm⟩ : ∃ m, m = ys.length := ⟨_, rfl⟩
  rw [← hn, ← hm] at F ⊢
  clear hn hm
  by_cases h1 : n ≤ 50
  · by_cases h2 : m ≤ 50
    · have i1 : (n : Int) ≤ 50 := by omega
      have i2 : (m : Int) ≤ 50 := by omega
      have HL := Lib.hid (And.intro h1 h2)
      clear h1 h2
      go_enter Tryd.func20, Tryd.ntmps20
      go_wp2_with fail
      refine F.out.mono ?_
      rintro e w2 ⟨b, rfl, _, rfl⟩
      go_wp2
      go_ret
      exact ⟨_, rfl, fun _ => HL.out, Below.refl _ _⟩
    · have i1 : (n : Int) ≤ 50 := by omega
      have i2 : ¬ (m : Int) ≤ 50 := by omega
      go_enter Tryd.func20, Tryd.ntmps20
      go_wp2
      go_ret
      exact ⟨_, rfl, (fun h => by first | cases h | simp at h), Below.refl _ _⟩
  · have i1 : ¬ (n : Int) ≤ 50 := by omega
    go_enter Tryd.func20, Tryd.ntmps20
    go_wp2
    go_ret
    exact ⟨_, rfl, (fun h => by first | cases h | simp at h), Below.refl _ _⟩

/-- Both say the same of a hunk that can't be done. -/
theorem tells_hunk (w : World) (F g i : Nat) (k : Int) (hi : i ≤ 9) (hk : k = 1 ∨ k = 2 ∨ k = 4 ∨ k = 9) (hF : Blk w F 102 #[.string bHunk, .int .i64 (i : Int), .iface 97 (.int .i64 k)]) (hg : Blk w g 104 #[.string bHunk, .int .i64 (i : Int)]) (hE : ErrType w) :
    Calls Tryd.prog 14 #[theFault F, wrongG g k] w (YesB w) :=
  tells_says w F g bHunk (dg i) i k hF hg (by decide) (by unfold dg; split; exact (show 1 ≤ 100 by decide); exact (show 2 ≤ 100 by decide)) (by unfold To14; omega) hE (fun W => itoa_0 i (by omega) W) (fun W => decimal_0 i (by omega) W)
theorem wrongH_in (a : List ByteArray) (h : Hk) (d m : Int) (hn : wrongH a h d m ≠ 0) : wrongH a h d m = 1 ∨ wrongH a h d m = 2 ∨ wrongH a h d m = 4 ∨ wrongH a h d m = 9 := by
  unfold wrongH at *
  split
  · simp
  · split
    · simp
    · split
      · simp
      · split
        · simp
        · exfalso; apply hn; simp_all
/-- Which hunk can't be done, and why. -/
theorem applyH_bad (a : List ByteArray) : ∀ (hs : List Hk) (d : Nat) (o : List ByteArray) (i j : Nat) (k : Int), applyH a hs d o i = .inl (j, k) → j < i + hs.length ∧ (k = 1 ∨ k = 2 ∨ k = 4 ∨ k = 9)
  | [], _, _, _, _, _, h => by cases h
  | x :: hs, d, o, i, j, k, h => by
    rw [applyH_cons] at h
    by_cases hw : wrongH a x d o.length ≠ 0
    · rw [if_pos hw] at h
      injection h with h
      injection h with h1 h2
      subst h1; subst h2
      exact ⟨by simp, wrongH_in _ _ _ _ hw⟩
    · rw [if_neg hw] at h
      have := applyH_bad a hs _ _ _ _ _ h
      exact ⟨by rw [List.length_cons]; omega, this.2⟩
end Go.Proofs.YtdpoeagmeiedcaaDoor
