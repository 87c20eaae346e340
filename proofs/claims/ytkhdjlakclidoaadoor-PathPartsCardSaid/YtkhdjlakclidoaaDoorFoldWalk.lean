/-
  The walk of PathFolders.
-/
import Derived.Test.YtkhdjlakclidoaaDoorPar
import Derived.Test.YtkhdjlakclidoaaDoorTwoWalk
namespace Go.Proofs.YtkhdjlakclidoaaDoor
open Go Go.RowKit Go.Shelf

/-- len(Parts(d)), with what becomes of the world. -/
theorem parts_len (d : ByteArray) (m : Int) (w : World) (hd : d.size ≤ 1000000) (hne : ¬ d.size = 0) (hm : w.cell? ⟨0, 0, none⟩ = some (.int .i64 m)) (n : Nat) (hn : (spl d.data.toList).length = n) :
    Calls Tryd.prog 12 #[.string d] w fun e w' => e = .returned (.slice (some ⟨w.heap.size, 0, none⟩) n n) ∧ Below w.heap.size w w' := by
  have P := parts_any d m w hd hne hm
  rw [count_parts, hn] at P
  refine P.mono ?_
  rintro e w' ⟨rfl, rfl⟩
  exact ⟨rfl, (Below.refl _ _).alloc (Nat.le_refl _) _⟩

set_option maxHeartbeats 4000000 in
theorem fold_walk (p : ByteArray) (hp : p.size ≤ 9223372036854775807) (w : World) (m : Int) (hm : w.cell? ⟨0, 0, none⟩ = some (.int .i64 m)) : Calls Tryd.prog 5 #[.string p] w (YesB w) := by
  have K := Lib.hid (known_yes w m hm)
  have hw0 : 0 < w.heap.size := World.block_lt_of_cell? w _ hm
  have C := Lib.hid fun W => check_any p W hp
  have HM := Lib.hid hm
  clear hm
  by_cases hc : chk p.data.toList = 0
  · obtain ⟨z1, z2, z3⟩ := chk_zero hc
    have hsz := size_list p
    have hs64 : p.size ≤ 64 := by omega
    have hs0 : ¬ p.size = 0 := fun e => z2 (List.eq_nil_of_length_eq_zero (by omega))
    have C' : Hid (∀ W, Calls Tryd.prog 9 #[.string p] W fun e w' => e = .returned (.int .i64 0) ∧ Below W.heap.size W w') := Lib.hid fun W => by have := C.out W; unfold Checked at this; rwa [hc] at this
    have HC := Lib.hid hc
    have Z := Lib.hid z2
    have Z3 := Lib.hid z3
    obtain ⟨n, hn⟩ : ∃ n, (spl p.data.toList).length = n := ⟨_, rfl⟩
    have hn1 : n ≤ 65 := by have := spl_len p.data.toList; omega
    have N := Lib.hid hn
    have U0 := Lib.hid (up_self z2)
    clear C hc z1 z2 z3 hn hsz
    go_enter Tryd.func5, Tryd.ntmps5
    go_wp2_with fail
    refine K.out.mono ?_
    rintro e w1 ⟨rfl, b1⟩
    go_wp2_with fail
    refine (C'.out w1).mono ?_
    rintro e w2 ⟨rfl, d2⟩
    have B2 := Lib.hid (b1.trans (d2.mono b1.size))
    clear b1 d2
    go_wp2_with fail
    refine (parts_len p m w2 (by omega) hs0 ((B2.out.cell (p := ⟨0, 0, none⟩) hw0).trans HM.out) n N.out).mono ?_
    rintro e w3 ⟨rfl, d3⟩
    have B3 := Lib.hid (B2.out.trans (d3.mono B2.out.size))
    clear d3
    go_wp2_with fail
    refine (parent_any p w3 (by omega)).mono ?_
    rintro e w4 ⟨rfl, rfl⟩
    go_wp2_with fail
    go_loopw [3, 4] (fun s3 s4 wr => ∃ (c : ByteArray) (k : Nat), s3 = .int .i64 k ∧ s4 = .string (c.extract 0 (parN c)) ∧ k ≤ 65 ∧ Hid ((spl c.data.toList).length = k) ∧ Hid (Up p.data.toList c.data.toList) ∧ Hid (Below w.heap.size w wr)) (fun s3 _ _ => (intOf s3).toNat)
    case atStart => exact ⟨p, n, rfl, rfl, hn1, N, U0, B3⟩
    case round =>
      obtain ⟨c, k, rfl, rfl, hk65, hk, hu, hb⟩ := hrel
      have hcs : c.size ≤ p.size := by
        obtain ⟨_, j, hj, _⟩ := hu.out
        have := congrArg List.length hj
        rw [size_list, List.length_take, size_list] at this
        omega
      rcases up_step hu.out Z3.out with ⟨h0, h1⟩ | ⟨h0, h1, h2, h3, h4, h5⟩
      · have hk1 : k = 1 := hk.out.symm.trans h1
        subst hk1
        have e0 : c.extract 0 (parN c) = ⟨#[]⟩ := by rw [h0]; exact nil_of (by rw [ByteArray.size_extract]; omega)
        rw [e0]
        have hroot : Hid (und p.data.toList (⟨#[]⟩ : ByteArray).data.toList = true) := Lib.hid (und_root Z.out)
        have hself : Hid (cls p.data.toList p.data.toList = false) := Lib.hid (cls_self Z.out)
        clear e0 h0 h1
        go_wp2_with fail
        refine (under_any p ⟨#[]⟩ wr (by omega) (by decide)).mono ?_
        rintro e w5 ⟨rfl, rfl⟩
        rw [hroot.out]
        go_wp2_with fail
        refine (clash_any p p wr (by omega) (by omega)).mono ?_
        rintro e w5 ⟨rfl, rfl⟩
        rw [hself.out]
        go_wp2_with fail
        go_ret
        exact ⟨rfl, hb.out⟩
      · have hd : (c.extract 0 (parN c)).data.toList = c.data.toList.take (parN c) := Lib.extract_from_zero c (parN c)
        rw [← hd] at h1 h2 h5
        obtain ⟨d, hdd⟩ : ∃ d, d = c.extract 0 (parN c) := ⟨_, rfl⟩
        rw [← hdd] at h1 h2 h5 ⊢
        have hds : d.size ≤ 64 := by rw [hdd, ByteArray.size_extract]; omega
        have hdne : ¬ d.size = 0 := fun e => h1.1 (List.eq_nil_of_length_eq_zero (by rw [size_list]; exact e))
        obtain ⟨q1, q2⟩ := not_nil hdne
        have hk2 := hk.out
        obtain ⟨k', rfl⟩ : ∃ k', k = k' + 1 := ⟨(spl d.data.toList).length, by omega⟩
        have hk3 : (spl d.data.toList).length = k' := by omega
        have hkp : 1 ≤ k' := by have := List.length_pos_iff.2 (spl_ne d.data.toList); omega
        have hck : chk d.data.toList = 0 := chk_up h1 HC.out
        have hun : und p.data.toList d.data.toList = true := und_up h1.1 h3 h4 h5
        have hcl : cls p.data.toList d.data.toList = true := cls_up Z.out h1.1 hun
        have HD := Lib.hid (And.intro h1 (And.intro hk3 (And.intro hck (And.intro hun hcl))))
        have hki : ¬ ((k' : Int) < 1) := by omega
        clear hd hdd h1 h2 h3 h4 h5 hk2 hk3 hck hun hcl h0 hk hu
        go_wp2_with fail
        refine (check_any d wr (by omega)).mono ?_
        rintro e w5 ⟨rfl, d5⟩
        rw [HD.out.2.2.1]
        have hb5 := Lib.hid (hb.out.trans (d5.mono hb.out.size))
        clear d5
        go_wp2_with fail
        refine (under_any p d w5 (by omega) (by omega)).mono ?_
        rintro e w6 ⟨rfl, rfl⟩
        rw [HD.out.2.2.2.1]
        go_wp2_with fail
        refine (clash_any p d w5 (by omega) (by omega)).mono ?_
        rintro e w6 ⟨rfl, rfl⟩
        rw [HD.out.2.2.2.2]
        go_wp2_with fail
        refine (parts_len d m w5 (by omega) hdne ((hb5.out.cell (p := ⟨0, 0, none⟩) hw0).trans HM.out) k' HD.out.2.1).mono ?_
        rintro e w7 ⟨rfl, d7⟩
        have hb7 := Lib.hid (hb5.out.trans (d7.mono hb5.out.size))
        clear d7
        go_wp2_with fail
        refine (parent_any d w7 (by omega)).mono ?_
        rintro e w8 ⟨rfl, rfl⟩
        go_wp2_with fail
        go_roundw
        case rel => exact ⟨d, k', rfl, rfl, by omega, Lib.hid HD.out.2.1, Lib.hid HD.out.1, hb7⟩
        case measure => simp [intOf]
  · have hc2 : (chk p.data.toList == 0) = false := by rw [beq_eq_false_iff_ne]; exact hc
    obtain ⟨x, hx⟩ : ∃ x, chk p.data.toList = x := ⟨_, rfl⟩
    have C' : Hid (∀ W, Calls Tryd.prog 9 #[.string p] W fun e w' => e = .returned (.int .i64 x) ∧ Below W.heap.size W w') := Lib.hid fun W => by have := C.out W; unfold Checked at this; rwa [hx] at this
    rw [hx] at hc hc2
    clear hx C
    go_enter Tryd.func5, Tryd.ntmps5
    go_wp2_with fail
    refine K.out.mono ?_
    rintro e w1 ⟨rfl, b1⟩
    go_wp2_with fail
    refine (C'.out w1).mono ?_
    rintro e w2 ⟨rfl, d2⟩
    have B2 := Lib.hid (b1.trans (d2.mono b1.size))
    clear b1 d2
    go_wp2_with fail
    go_ret
    exact ⟨rfl, B2.out⟩
end Go.Proofs.YtkhdjlakclidoaaDoor
