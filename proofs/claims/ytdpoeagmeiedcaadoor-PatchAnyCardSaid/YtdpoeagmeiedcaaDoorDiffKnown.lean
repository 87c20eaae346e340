/-
  The closed play 'known' of the differences answers true.
-/
import Derived.Test.YtdpoeagmeiedcaaDoorMatches
namespace Go.Proofs.YtdpoeagmeiedcaaDoor
open Go.RowKit

abbrev Ka : ByteArray := ⟨#[97]⟩
abbrev Kb : ByteArray := ⟨#[98]⟩
abbrev Kc : ByteArray := ⟨#[99]⟩

theorem own2_form {w : World} {base k : Nat} {e : TypeId} {v : Value} {n : Nat} {xs : List Value} (h : w.ownsRow base e k v (n + 1) xs) : ∃ g cap, v = .slice (some ⟨g, 0, none⟩) (n + 1) cap := by
  rcases h.2 with ⟨_, e2⟩ | ⟨gg, cap, cur, e, _⟩
  · omega
  · exact ⟨_, _, e⟩

theorem Strs.two (w : World) (x y : ByteArray) : Strs (w.alloc (.cells #[.string x, .string y] 9)) (.slice (some ⟨w.heap.size, 0, none⟩) 2 2) [x, y] := by
  refine ⟨some ⟨w.heap.size, 0, none⟩, 2, rfl, by simp, by unfold maxLen; omega, (fun h => by cases h), fun ad ha i s hs => ?_⟩
  obtain rfl := Option.some.inj ha
  have hh := heap_alloc_new w (.cells #[.string x, .string y] 9)
  rw [Addr.add_lit]
  have := cell_of_row _ w.heap.size (0 + i) #[.string x, .string y] 9 (0, 0) hh
  rw [this]
  match i, hs with
  | 0, hs => simp at hs; subst hs; rfl
  | 1, hs => simp at hs; subst hs; rfl

theorem known_pair (w : World) (x y z u : ByteArray) :
    Strs ((w.alloc (.cells #[.string x, .string y] 9)).alloc (.cells #[.string z, .string u] 9)) (.slice (some ⟨w.heap.size, 0, none⟩) 2 2) [x, y] ∧
    Strs ((w.alloc (.cells #[.string x, .string y] 9)).alloc (.cells #[.string z, .string u] 9)) (.slice (some ⟨w.heap.size + 1, 0, none⟩) 2 2) [z, u] := by
  refine ⟨(Strs.two w x y).alloc _, ?_⟩
  have := Strs.two (w.alloc (.cells #[.string x, .string y] 9)) z u
  rw [show (w.alloc (.cells #[.string x, .string y] 9)).heap.size = w.heap.size + 1 from by simp] at this
  exact this

set_option maxRecDepth 100000 in
set_option maxHeartbeats 4000000 in
theorem diffKnown_yes (w : World) : Calls Tryd.prog 8 #[] w (YesB w) := by
  have hsz : ∀ s ∈ [Ka, Kb], s.size ≤ maxLen := by intro s hs; simp at hs; rcases hs with rfl | rfl <;> decide
  have hsz2 : ∀ s ∈ [Ka, Kc], s.size ≤ maxLen := by intro s hs; simp at hs; rcases hs with rfl | rfl <;> decide
  have he : ed [Ka, Kb] [Ka, Kc] = [(1, Ka), (2, Kb), (3, Kc)] := by decide
  have hm : (mrun [(1, Ka), (2, Kb), (3, Kc)]).1 = [(0, 0, 1)] := by decide
  have hc : lc [Ka, Kb] [Ka, Kc] = 1 := by decide
  have CL := fun (W : World) => lines_good ((W.alloc (.cells #[.string Ka, .string Kb] 9)).alloc (.cells #[.string Ka, .string Kc] 9)) _ _ _ _ (known_pair W Ka Kb Ka Kc).1 (known_pair W Ka Kb Ka Kc).2 hsz hsz2 (by simp) (by simp)
  have CM := fun (W : World) => matches_good ((W.alloc (.cells #[.string Ka, .string Kb] 9)).alloc (.cells #[.string Ka, .string Kc] 9)) _ _ _ _ (known_pair W Ka Kb Ka Kc).1 (known_pair W Ka Kb Ka Kc).2 hsz hsz2 (by simp) (by simp)
  have CC := fun (W : World) => common_good ((W.alloc (.cells #[.string Ka, .string Kb] 9)).alloc (.cells #[.string Ka, .string Kc] 9)) _ _ _ _ (known_pair W Ka Kb Ka Kc).1 (known_pair W Ka Kb Ka Kc).2 hsz hsz2 (by simp) (by simp)
  rw [he] at CL CM
  rw [hm] at CM
  rw [hc] at CC
  have HL := Lib.hid CL
  have HM := Lib.hid CM
  have HC := Lib.hid CC
  clear he hm hc CL CM CC hsz hsz2
  have E0 := fun (W : World) => ((Below.refl W.heap.size W).alloc (Nat.le_refl _) (.cells #[.string Ka, .string Kb] 9)).alloc (by simp) (.cells #[.string Ka, .string Kc] 9)
  have HE0 := Lib.hid E0
  clear E0
  go_enter Tryd.func8, Tryd.ntmps8
  go_wp2_with fail
  refine (HL.out w).mono ?_
  rintro e w1 ⟨v1, rfl, hown1, hb1⟩
  obtain ⟨g1, cap1, rfl⟩ := own2_form hown1
  have B1 := (HE0.out w).trans (hb1.mono (HE0.out w).size)
  clear hb1
  go_wp2_with fail
  refine (HM.out w1).mono ?_
  rintro e w2 ⟨v2, rfl, hown2, hb2⟩
  obtain ⟨g2, cap2, rfl⟩ := own2_form hown2
  have B12 := (HE0.out w1).trans (hb2.mono (HE0.out w1).size)
  have B2 := B1.trans (B12.mono B1.size)
  have own1 := own2_keep hown1 B12
  clear hb2 B12 B1 hown1
  go_wp2_with fail
  refine (HC.out w2).mono ?_
  rintro e w3 ⟨rfl, hb3⟩
  have B23 := (HE0.out w2).trans (hb3.mono (HE0.out w2).size)
  have B3 := B2.trans (B23.mono B2.size)
  replace own1 := own2_keep own1 B23
  have own2 := own2_keep hown2 B23
  have co := cost_any w3 _ _ [(1, Ka), (2, Kb), (3, Kc)] own1 (by simp)
  rw [show edCost [(1, Ka), (2, Kb), (3, Kc)] = 2 from by decide] at co
  have CO := Lib.hid co
  clear co
  have c1 : w3.cell? ⟨g1, 0, none⟩ = some (.int .i64 1) := own1.cellAt 0 (by simp)
  have c2 : w3.cell? ⟨g1, 2, none⟩ = some (.int .i64 2) := own1.cellAt 2 (by simp)
  have c3 : w3.cell? ⟨g1, 4, none⟩ = some (.int .i64 3) := own1.cellAt 4 (by simp)
  have c4 : w3.cell? ⟨g1, 5, none⟩ = some (.string Kc) := own1.cellAt 5 (by simp)
  have c5 : w3.cell? ⟨g2, 2, none⟩ = some (.int .i64 1) := own2.cellAt 2 (by simp)
  clear hb3 B23 B2 hown2 own1 own2
  go_wp2_with fail
  refine CO.out.mono ?_
  rintro e w4 ⟨rfl, hb4⟩
  go_wp2
  go_ret
  exact ⟨rfl, B3.trans (hb4.mono B3.size)⟩

end Go.Proofs.YtdpoeagmeiedcaaDoor
