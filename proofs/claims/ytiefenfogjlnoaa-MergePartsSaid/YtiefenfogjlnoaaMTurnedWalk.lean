/-
  The walk of MergeTurned.
-/
import Derived.Test.YtiefenfogjlnoaaMPlain
import Derived.Test.YtiefenfogjlnoaaSplitRef
import Derived.Test.YtiefenfogjlnoaaRefJoin
namespace Go.Proofs.Ytiefenfogjlnoaa
open Go.RowKit

theorem fewL_cat {xs : List ByteArray} (h : fewL xs = true) (hn : xs.length ≤ 40) : (cat xs).length ≤ 8000 := by
  unfold fewL at h
  rw [Bool.and_eq_true, List.all_eq_true] at h
  have key : ∀ ys : List ByteArray, (∀ x ∈ ys, x.size ≤ 200) → (cat ys).length ≤ ys.length * 200 := by
    intro ys
    induction ys with
    | nil => intro _; simp [cat]
    | cons y ys ih =>
      intro hy
      have h1 := ih fun x hx => hy x (List.mem_cons_of_mem _ hx)
      have h2 := hy y List.mem_cons_self
      have h3 : (cat (y :: ys)).length = y.size + (cat ys).length := by unfold cat; rw [List.map_cons, List.flatten_cons, List.length_append, size_data]
      rw [h3, List.length_cons]
      omega
  have := key xs fun x hx => by simpa using h.2 x hx
  omega

/-- few, said of a world behind the first one. -/
theorem few_of (w : World) (A : Option Addr) (n c : Nat) (xs : List ByteArray) (b : Bool) (h : Strs w (.slice A n c) xs) (hn : n = xs.length) (hb : fewL xs = b) :
    ∀ W, Below w.heap.size w W → Calls Try.prog 10 #[.slice A n c] W fun e w' => e = .returned (.bool b) ∧ Below W.heap.size W w' := fun W hB => by
  have := few_any W A n c xs (h.below hB) hn
  rwa [hb] at this
/-- The texts put together, and cut again. -/
theorem join_of (w : World) (A : Option Addr) (n c : Nat) (xs : List ByteArray) (s : ByteArray) (h : Strs w (.slice A n c) xs) (hs : s = mk (cat xs)) (hl : (cat xs).length ≤ 8000) :
    ∀ W, Below w.heap.size w W → Calls Try.prog 15 #[.slice A n c] W fun e w' => e = .returned (.string s) ∧ W = w' := fun W hB => by
  have := refJoin_any W _ xs (h.below hB) (by omega)
  rwa [← hs] at this
theorem split_of (s : ByteArray) (m : Nat) (hs : s.size ≤ 8000) (hm : m = (lns s).length) : ∀ W, Calls Try.prog 13 #[.string s] W fun e w' => ∃ A' c', e = .returned (.slice A' m c') ∧ Below W.heap.size W w' := fun W => by
  refine (refSplit_any W s (by omega)).mono ?_
  rintro e w' ⟨v, rfl, o, hb⟩
  have t := Strs.of_own o (show (cutL s.data.toList).length = (lns s).length by simp)
  obtain ⟨A', c', hv, _⟩ := t
  exact ⟨A', c', by rw [hv, hm], hb⟩

set_option maxRecDepth 100000 in
set_option maxHeartbeats 8000000 in
theorem turned_walk (w : World) (A B D : Option Addr) (n c m d0 r f : Nat) (xs ys zs : List ByteArray) (sx : Strs w (.slice A n c) xs) (sy : Strs w (.slice B m d0) ys) (sz : Strs w (.slice D r f) zs) (hn : n = xs.length) (hm : m = ys.length) (hr : r = zs.length) :
    Calls Try.prog 6 #[.slice A n c, .slice B m d0, .slice D r f] w (YesB w) := by
  by_cases gx : fewL xs = true
  · have Fx := Lib.hid (few_of w A n c xs true sx hn gx)
    by_cases gy : fewL ys = true
    · have Fy := Lib.hid (few_of w B m d0 ys true sy hm gy)
      by_cases gz : fewL zs = true
      · have Fz := Lib.hid (few_of w D r f zs true sz hr gz)
        by_cases lx : n ≤ 40
        · have ix : (n : Int) ≤ 40 := by omega
          by_cases ly : m ≤ 40
          · have iy : (m : Int) ≤ 40 := by omega
            by_cases lz : r ≤ 40
            · have iz : (r : Int) ≤ 40 := by omega
              have cx := fewL_cat gx (by omega)
              have cy := fewL_cat gy (by omega)
              have cz := fewL_cat gz (by omega)
              obtain ⟨tx, ex⟩ : ∃ s, s = mk (cat xs) := ⟨_, rfl⟩
              obtain ⟨ty, ey⟩ : ∃ s, s = mk (cat ys) := ⟨_, rfl⟩
              obtain ⟨tz, ez⟩ : ∃ s, s = mk (cat zs) := ⟨_, rfl⟩
              have zx : tx.size ≤ 8000 := by rw [ex, mk_size]; exact cx
              have zy : ty.size ≤ 8000 := by rw [ey, mk_size]; exact cy
              have zz : tz.size ≤ 8000 := by rw [ez, mk_size]; exact cz
              obtain ⟨mx, ux⟩ : ∃ m, m = (lns tx).length := ⟨_, rfl⟩
              obtain ⟨my, uy⟩ : ∃ m, m = (lns ty).length := ⟨_, rfl⟩
              obtain ⟨mz, uz⟩ : ∃ m, m = (lns tz).length := ⟨_, rfl⟩
              have Jx := Lib.hid (join_of w A n c xs tx sx ex cx)
              have Jy := Lib.hid (join_of w B m d0 ys ty sy ey cy)
              have Jz := Lib.hid (join_of w D r f zs tz sz ez cz)
              have Sx := Lib.hid (split_of tx mx zx ux)
              have Sy := Lib.hid (split_of ty my zy uy)
              have Sz := Lib.hid (split_of tz mz zz uz)
              by_cases kx : mx ≤ 60
              · have jx : (mx : Int) ≤ 60 := by omega
                by_cases ky : my ≤ 60
                · have jy : (my : Int) ≤ 60 := by omega
                  by_cases kz : mz ≤ 60
                  · have jz : (mz : Int) ≤ 60 := by omega
                    have lx1 : (lns tx).length ≤ 256 := by omega
                    have ly1 : (lns ty).length ≤ 256 := by omega
                    have lz1 : (lns tz).length ≤ 256 := by omega
                    have HR0 := txt_turn [112] [113] (lns tx) (lns ty) (lns tz)
                    have hk2 := clashes_turn (lns tx) (lns ty) (lns tz)
                    have X1 := fun W => text_any W tx ty tz ⟨#[112]⟩ ⟨#[113]⟩ (by omega) (by omega) (by omega) (by decide) (by decide) lx1 ly1 lz1
                    have X2 := fun W => text_any W tx tz ty ⟨#[112]⟩ ⟨#[113]⟩ (by omega) (by omega) (by omega) (by decide) (by decide) lx1 lz1 ly1
                    rw [hk2] at X2
                    rw [show (ByteArray.mk #[112]).data.toList = [112] from rfl, show (ByteArray.mk #[113]).data.toList = [113] from rfl] at X1 X2
                    generalize clashes (allC (lns tx) (lns ty) (lns tz)) = k at *
                    obtain ⟨r1, hr1⟩ : ∃ s, s = mk (txtAll [112] [113] (allC (lns tx) (lns ty) (lns tz))) := ⟨_, rfl⟩
                    obtain ⟨r2, hr2⟩ : ∃ s, s = mk (txtAll [112] [113] (allC (lns tx) (lns tz) (lns ty))) := ⟨_, rfl⟩
                    have HR : Hid (k = 0 → r1 = r2) := Lib.hid fun h => by rw [hr1, hr2, HR0 h]
                    unfold Texted at X1 X2
                    rw [← hr1] at X1
                    rw [← hr2] at X2
                    have X1 := Lib.hid X1
                    have X2 := Lib.hid X2
                    clear hr1 hr2 HR0 hk2 lx1 ly1 lz1
                    clear sx sy sz hn hm hr ex ey ez ux uy uz zx zy zz cx cy cz
                    go_enter Try.func6, Try.ntmps6
                    go_wp2_with fail
                    refine (known_yes w).mono ?_
                    rintro e w1 ⟨rfl, d⟩
                    have b1 := d
                    clear d
                    go_wp2_with fail
                    refine (Fx.out _ b1).mono ?_
                    rintro e w2 ⟨rfl, d⟩
                    have b2 := below_trans b1 d
                    clear b1 d
                    go_wp2_with fail
                    refine (Fy.out _ b2).mono ?_
                    rintro e w3 ⟨rfl, d⟩
                    have b3 := below_trans b2 d
                    clear b2 d
                    go_wp2_with fail
                    refine (Fz.out _ b3).mono ?_
                    rintro e w4 ⟨rfl, d⟩
                    have b4 := below_trans b3 d
                    clear b3 d
                    go_wp2_with fail
                    refine (Jx.out _ b4).mono ?_
                    rintro e w9 ⟨rfl, rfl⟩
                    go_wp2_with fail
                    refine (Sx.out _).mono ?_
                    rintro e w5 ⟨Ax, cx, rfl, d⟩
                    have b5 := below_trans b4 d
                    clear b4 d
                    go_wp2_with fail
                    refine (Jy.out _ b5).mono ?_
                    rintro e w9 ⟨rfl, rfl⟩
                    go_wp2_with fail
                    refine (Sy.out _).mono ?_
                    rintro e w6 ⟨Ay, cy, rfl, d⟩
                    have b6 := below_trans b5 d
                    clear b5 d
                    go_wp2_with fail
                    refine (Jz.out _ b6).mono ?_
                    rintro e w9 ⟨rfl, rfl⟩
                    go_wp2_with fail
                    refine (Sz.out _).mono ?_
                    rintro e w7 ⟨Az, cz, rfl, d⟩
                    have b7 := below_trans b6 d
                    clear b6 d
                    go_wp2_with fail
                    refine (Jx.out _ b7).mono ?_
                    rintro e w9 ⟨rfl, rfl⟩
                    go_wp2_with fail
                    refine (Jy.out _ b7).mono ?_
                    rintro e w9 ⟨rfl, rfl⟩
                    go_wp2_with fail
                    refine (Jz.out _ b7).mono ?_
                    rintro e w9 ⟨rfl, rfl⟩
                    go_wp2_with fail
                    refine (X1.out _).mono ?_
                    rintro e w8 ⟨rfl, d⟩
                    have b8 := below_trans b7 d
                    clear b7 d
                    go_wp2_with fail
                    refine (Jx.out _ b8).mono ?_
                    rintro e w9 ⟨rfl, rfl⟩
                    go_wp2_with fail
                    refine (Jz.out _ b8).mono ?_
                    rintro e w9 ⟨rfl, rfl⟩
                    go_wp2_with fail
                    refine (Jy.out _ b8).mono ?_
                    rintro e w9 ⟨rfl, rfl⟩
                    go_wp2_with fail
                    refine (X2.out _).mono ?_
                    rintro e w9 ⟨rfl, d⟩
                    have b9 := below_trans b8 d
                    clear b8 d
                    by_cases hk : k = 0
                    · have hr := HR.out hk
                      subst hk
                      subst hr
                      go_wp2_with fail
                      go_ret
                      exact ⟨by simp, b9⟩
                    · have hk1 : (0 : Int) < (k : Int) := by omega
                      go_wp2_with fail
                      go_ret
                      exact ⟨by simp, b9⟩
                  · have jz : ¬ (mz : Int) ≤ 60 := by omega
                    clear sx sy sz hn hm hr ex ey ez ux uy uz zx zy zz cx cy cz
                    go_enter Try.func6, Try.ntmps6
                    go_wp2_with fail
                    refine (known_yes w).mono ?_
                    rintro e w1 ⟨rfl, d⟩
                    have b1 := d
                    clear d
                    go_wp2_with fail
                    refine (Fx.out _ b1).mono ?_
                    rintro e w2 ⟨rfl, d⟩
                    have b2 := below_trans b1 d
                    clear b1 d
                    go_wp2_with fail
                    refine (Fy.out _ b2).mono ?_
                    rintro e w3 ⟨rfl, d⟩
                    have b3 := below_trans b2 d
                    clear b2 d
                    go_wp2_with fail
                    refine (Fz.out _ b3).mono ?_
                    rintro e w4 ⟨rfl, d⟩
                    have b4 := below_trans b3 d
                    clear b3 d
                    go_wp2_with fail
                    refine (Jx.out _ b4).mono ?_
                    rintro e w9 ⟨rfl, rfl⟩
                    go_wp2_with fail
                    refine (Sx.out _).mono ?_
                    rintro e w5 ⟨Ax, cx, rfl, d⟩
                    have b5 := below_trans b4 d
                    clear b4 d
                    go_wp2_with fail
                    refine (Jy.out _ b5).mono ?_
                    rintro e w9 ⟨rfl, rfl⟩
                    go_wp2_with fail
                    refine (Sy.out _).mono ?_
                    rintro e w6 ⟨Ay, cy, rfl, d⟩
                    have b6 := below_trans b5 d
                    clear b5 d
                    go_wp2_with fail
                    refine (Jz.out _ b6).mono ?_
                    rintro e w9 ⟨rfl, rfl⟩
                    go_wp2_with fail
                    refine (Sz.out _).mono ?_
                    rintro e w7 ⟨Az, cz, rfl, d⟩
                    have b7 := below_trans b6 d
                    clear b6 d
                    go_wp2_with fail
                    go_ret
                    exact ⟨rfl, b7⟩
                · have jy : ¬ (my : Int) ≤ 60 := by omega
                  clear sx sy sz hn hm hr ex ey ez ux uy uz zx zy zz cx cy cz
                  go_enter Try.func6, Try.ntmps6
                  go_wp2_with fail
                  refine (known_yes w).mono ?_
                  rintro e w1 ⟨rfl, d⟩
                  have b1 := d
                  clear d
                  go_wp2_with fail
                  refine (Fx.out _ b1).mono ?_
                  rintro e w2 ⟨rfl, d⟩
                  have b2 := below_trans b1 d
                  clear b1 d
                  go_wp2_with fail
                  refine (Fy.out _ b2).mono ?_
                  rintro e w3 ⟨rfl, d⟩
                  have b3 := below_trans b2 d
                  clear b2 d
                  go_wp2_with fail
                  refine (Fz.out _ b3).mono ?_
                  rintro e w4 ⟨rfl, d⟩
                  have b4 := below_trans b3 d
                  clear b3 d
                  go_wp2_with fail
                  refine (Jx.out _ b4).mono ?_
                  rintro e w9 ⟨rfl, rfl⟩
                  go_wp2_with fail
                  refine (Sx.out _).mono ?_
                  rintro e w5 ⟨Ax, cx, rfl, d⟩
                  have b5 := below_trans b4 d
                  clear b4 d
                  go_wp2_with fail
                  refine (Jy.out _ b5).mono ?_
                  rintro e w9 ⟨rfl, rfl⟩
                  go_wp2_with fail
                  refine (Sy.out _).mono ?_
                  rintro e w6 ⟨Ay, cy, rfl, d⟩
                  have b6 := below_trans b5 d
                  clear b5 d
                  go_wp2_with fail
                  go_ret
                  exact ⟨rfl, b6⟩
              · have jx : ¬ (mx : Int) ≤ 60 := by omega
                clear sx sy sz hn hm hr ex ey ez ux uy uz zx zy zz cx cy cz
                go_enter Try.func6, Try.ntmps6
                go_wp2_with fail
                refine (known_yes w).mono ?_
                rintro e w1 ⟨rfl, d⟩
                have b1 := d
                clear d
                go_wp2_with fail
                refine (Fx.out _ b1).mono ?_
                rintro e w2 ⟨rfl, d⟩
                have b2 := below_trans b1 d
                clear b1 d
                go_wp2_with fail
                refine (Fy.out _ b2).mono ?_
                rintro e w3 ⟨rfl, d⟩
                have b3 := below_trans b2 d
                clear b2 d
                go_wp2_with fail
                refine (Fz.out _ b3).mono ?_
                rintro e w4 ⟨rfl, d⟩
                have b4 := below_trans b3 d
                clear b3 d
                go_wp2_with fail
                refine (Jx.out _ b4).mono ?_
                rintro e w9 ⟨rfl, rfl⟩
                go_wp2_with fail
                refine (Sx.out _).mono ?_
                rintro e w5 ⟨Ax, cx, rfl, d⟩
                have b5 := below_trans b4 d
                clear b4 d
                go_wp2_with fail
                go_ret
                exact ⟨rfl, b5⟩
            · have iz : ¬ (r : Int) ≤ 40 := by omega
              clear sx sy sz hn hm hr
              go_enter Try.func6, Try.ntmps6
              go_wp2_with fail
              refine (known_yes w).mono ?_
              rintro e w1 ⟨rfl, d⟩
              have b1 := d
              clear d
              go_wp2_with fail
              refine (Fx.out _ b1).mono ?_
              rintro e w2 ⟨rfl, d⟩
              have b2 := below_trans b1 d
              clear b1 d
              go_wp2_with fail
              refine (Fy.out _ b2).mono ?_
              rintro e w3 ⟨rfl, d⟩
              have b3 := below_trans b2 d
              clear b2 d
              go_wp2_with fail
              refine (Fz.out _ b3).mono ?_
              rintro e w4 ⟨rfl, d⟩
              have b4 := below_trans b3 d
              clear b3 d
              go_wp2_with fail
              go_ret
              exact ⟨rfl, b4⟩
          · have iy : ¬ (m : Int) ≤ 40 := by omega
            clear sx sy sz hn hm hr
            go_enter Try.func6, Try.ntmps6
            go_wp2_with fail
            refine (known_yes w).mono ?_
            rintro e w1 ⟨rfl, d⟩
            have b1 := d
            clear d
            go_wp2_with fail
            refine (Fx.out _ b1).mono ?_
            rintro e w2 ⟨rfl, d⟩
            have b2 := below_trans b1 d
            clear b1 d
            go_wp2_with fail
            refine (Fy.out _ b2).mono ?_
            rintro e w3 ⟨rfl, d⟩
            have b3 := below_trans b2 d
            clear b2 d
            go_wp2_with fail
            refine (Fz.out _ b3).mono ?_
            rintro e w4 ⟨rfl, d⟩
            have b4 := below_trans b3 d
            clear b3 d
            go_wp2_with fail
            go_ret
            exact ⟨rfl, b4⟩
        · have ix : ¬ (n : Int) ≤ 40 := by omega
          clear sx sy sz hn hm hr
          go_enter Try.func6, Try.ntmps6
          go_wp2_with fail
          refine (known_yes w).mono ?_
          rintro e w1 ⟨rfl, d⟩
          have b1 := d
          clear d
          go_wp2_with fail
          refine (Fx.out _ b1).mono ?_
          rintro e w2 ⟨rfl, d⟩
          have b2 := below_trans b1 d
          clear b1 d
          go_wp2_with fail
          refine (Fy.out _ b2).mono ?_
          rintro e w3 ⟨rfl, d⟩
          have b3 := below_trans b2 d
          clear b2 d
          go_wp2_with fail
          refine (Fz.out _ b3).mono ?_
          rintro e w4 ⟨rfl, d⟩
          have b4 := below_trans b3 d
          clear b3 d
          go_wp2_with fail
          go_ret
          exact ⟨rfl, b4⟩
      · have gz0 : fewL zs = false := by simpa using gz
        have Fz := Lib.hid (few_of w D r f zs false sz hr gz0)
        clear gz gz0
        clear sx sy sz hn hm hr
        go_enter Try.func6, Try.ntmps6
        go_wp2_with fail
        refine (known_yes w).mono ?_
        rintro e w1 ⟨rfl, d⟩
        have b1 := d
        clear d
        go_wp2_with fail
        refine (Fx.out _ b1).mono ?_
        rintro e w2 ⟨rfl, d⟩
        have b2 := below_trans b1 d
        clear b1 d
        go_wp2_with fail
        refine (Fy.out _ b2).mono ?_
        rintro e w3 ⟨rfl, d⟩
        have b3 := below_trans b2 d
        clear b2 d
        go_wp2_with fail
        refine (Fz.out _ b3).mono ?_
        rintro e w4 ⟨rfl, d⟩
        have b4 := below_trans b3 d
        clear b3 d
        go_wp2_with fail
        go_ret
        exact ⟨rfl, b4⟩
    · have gy0 : fewL ys = false := by simpa using gy
      have Fy := Lib.hid (few_of w B m d0 ys false sy hm gy0)
      clear gy gy0
      clear sx sy sz hn hm hr
      go_enter Try.func6, Try.ntmps6
      go_wp2_with fail
      refine (known_yes w).mono ?_
      rintro e w1 ⟨rfl, d⟩
      have b1 := d
      clear d
      go_wp2_with fail
      refine (Fx.out _ b1).mono ?_
      rintro e w2 ⟨rfl, d⟩
      have b2 := below_trans b1 d
      clear b1 d
      go_wp2_with fail
      refine (Fy.out _ b2).mono ?_
      rintro e w3 ⟨rfl, d⟩
      have b3 := below_trans b2 d
      clear b2 d
      go_wp2_with fail
      go_ret
      exact ⟨rfl, b3⟩
  · have gx0 : fewL xs = false := by simpa using gx
    have Fx := Lib.hid (few_of w A n c xs false sx hn gx0)
    clear gx gx0
    clear sx sy sz hn hm hr
    go_enter Try.func6, Try.ntmps6
    go_wp2_with fail
    refine (known_yes w).mono ?_
    rintro e w1 ⟨rfl, d⟩
    have b1 := d
    clear d
    go_wp2_with fail
    refine (Fx.out _ b1).mono ?_
    rintro e w2 ⟨rfl, d⟩
    have b2 := below_trans b1 d
    clear b1 d
    go_wp2_with fail
    go_ret
    exact ⟨rfl, b2⟩

end Go.Proofs.Ytiefenfogjlnoaa
