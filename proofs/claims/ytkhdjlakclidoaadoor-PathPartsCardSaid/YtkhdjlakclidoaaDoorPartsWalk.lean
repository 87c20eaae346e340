/-
  The walk of PathParts.
-/
import Derived.Test.YtkhdjlakclidoaaDoorPart
namespace Go.Proofs.YtkhdjlakclidoaaDoor
open Go Go.RowKit Go.Shelf

theorem pts_long (p : ByteArray) (hp : p.size ≤ 9223372036854775807) (h : 200 < p.size) (w : World) (m : Int) (hm : w.cell? ⟨0, 0, none⟩ = some (.int .i64 m)) : Calls Tryd.prog 6 #[.string p] w (YesB w) := by
  have K := Lib.hid (known_yes w m hm)
  have hi : (200 : Int) < (p.size : Int) := by omega
  clear hm
  go_enter Tryd.func6, Tryd.ntmps6
  go_wp2_with fail
  refine K.out.mono ?_
  rintro e w1 ⟨rfl, b1⟩
  go_wp2
  go_ret
  exact ⟨rfl, b1⟩

theorem pts_none (w : World) (m : Int) (hm : w.cell? ⟨0, 0, none⟩ = some (.int .i64 m)) : Calls Tryd.prog 6 #[.string ⟨#[]⟩] w (YesB w) := by
  have K := Lib.hid (known_yes w m hm)
  clear hm
  go_enter Tryd.func6, Tryd.ntmps6
  go_wp2_with fail
  refine K.out.mono ?_
  rintro e w1 ⟨rfl, b1⟩
  have B1 := Lib.hid b1
  clear b1
  go_wp2_with fail
  refine (parts_none w1).mono ?_
  rintro e w4 ⟨rfl, rfl⟩
  go_wp2_with fail
  go_loopw [4, 5] (fun s i wr => s = .string ⟨#[]⟩ ∧ i = .int .i64 0 ∧ SameW wr w1) (fun _ _ _ => 0)
  case atStart => exact ⟨rfl, rfl, rfl⟩
  case round =>
    obtain ⟨rfl, rfl, hw⟩ := hrel
    unfold SameW at hw
    subst hw
    go_wp2
    go_ret
    exact ⟨rfl, B1.out⟩

/-- Behind the first k parts. -/
def Joined (p : ByteArray) (k : Nat) (s : ByteArray) : Prop := s.data.toList = jn ((spl p.data.toList).take k)
theorem joined_zero (p : ByteArray) : Joined p 0 ⟨#[]⟩ := by show [] = jn ((spl p.data.toList).take 0); rw [List.take_zero]; rfl
theorem joined_first {p s : ByteArray} {x : List UInt8} (h : Joined p 0 s) (hx : (spl p.data.toList)[0]? = some x) : Joined p 1 (s ++ mk x) := by
  unfold Joined at *
  rw [ByteArray.data_append, Array.toList_append, h, toList_mk]
  cases hs : spl p.data.toList with
  | nil => exact absurd hs (spl_ne _)
  | cons y ys =>
    rw [hs] at hx
    obtain rfl : y = x := Option.some.inj hx
    rfl
theorem joined_next {p s : ByteArray} {x : List UInt8} {k : Nat} (hk : 0 < k) (h : Joined p k s) (hx : (spl p.data.toList)[k]? = some x) : Joined p (k + 1) (s ++ ⟨#[47]⟩ ++ mk x) := by
  unfold Joined at *
  have hlt := (List.getElem?_eq_some_iff.1 hx)
  rw [ByteArray.data_append, Array.toList_append, ByteArray.data_append, Array.toList_append, h, toList_mk, List.take_add_one, hx]
  show _ = jn (_ ++ [x])
  rw [jn_snoc]
  · simp
  · intro e
    have := congrArg List.length e
    rw [List.length_take, List.length_nil] at this
    have := hlt.1
    omega
theorem joined_all {p s : ByteArray} {n : Nat} (h : Joined p n s) (hn : (spl p.data.toList).length = n) : s = p := by
  unfold Joined at h
  rw [← hn, List.take_length, jn_spl] at h
  exact bytes_eq h
theorem jn_take : ∀ (f : List (List UInt8)) (k : Nat), (jn (f.take k)).length ≤ (jn f).length
  | [], k => by simp
  | x :: f, 0 => by simp [jn]
  | [x], k + 1 => by simp
  | x :: y :: f, k + 1 => by
    have ih := jn_take (y :: f) k
    rw [List.take_succ_cons]
    cases hk : (y :: f).take k with
    | nil => show x.length ≤ (x ++ 47 :: jn (y :: f)).length; simp
    | cons z r =>
      rw [hk] at ih
      show (x ++ 47 :: jn (z :: r)).length ≤ (x ++ 47 :: jn (y :: f)).length
      simp only [List.length_append, List.length_cons]
      omega
theorem joined_len {p s : ByteArray} {k : Nat} (h : Joined p k s) : s.size ≤ p.size := by
  unfold Joined at h
  have := jn_take (spl p.data.toList) k
  rw [← h, jn_spl, size_list, size_list] at this
  exact this

set_option maxHeartbeats 4000000 in
theorem pts_main (p : ByteArray) (hp : p.size ≤ 200) (hne : ¬ p.size = 0) (w : World) (m : Int) (hm : w.cell? ⟨0, 0, none⟩ = some (.int .i64 m)) : Calls Tryd.prog 6 #[.string p] w (YesB w) := by
  have K := Lib.hid (known_yes w m hm)
  have hw0 : 0 < w.heap.size := World.block_lt_of_cell? w _ hm
  have HM := Lib.hid hm
  clear hm
  have hi : (p.size : Int) ≤ 200 := by omega
  obtain ⟨n, hn⟩ : ∃ n, (spl p.data.toList).length = n := ⟨_, rfl⟩
  have hsz := size_list p
  have hn1 : n ≤ 201 := by have := spl_len p.data.toList; omega
  have hn0 : 0 < n := by have := List.length_pos_iff.2 (spl_ne p.data.toList); omega
  have HN := Lib.hid hn
  have PL : Hid (∀ x ∈ spl p.data.toList, x.length ≤ 200) := Lib.hid fun x hx => by have := spl_part hx; omega
  clear hn hsz
  obtain ⟨c, hc⟩ : ∃ c, chk p.data.toList = c := ⟨_, rfl⟩
  have C2 : Hid (∀ W, Calls Tryd.prog 10 #[.string p] W fun e w' => e = .returned (.int .i64 c) ∧ Below W.heap.size W w') := Lib.hid fun W => by have := refCheck_any p W (by omega); unfold Checked at this; rwa [hc] at this
  have CZ : Hid (c = 0 → ∀ x ∈ spl p.data.toList, chk x = 0 ∧ spl x = [x] ∧ x ≠ []) := Lib.hid fun h x hx => chk_part (hc.trans h) hx
  clear hc
  go_enter Tryd.func6, Tryd.ntmps6
  go_wp2_with fail
  refine K.out.mono ?_
  rintro e w1 ⟨rfl, b1⟩
  have B1 := Lib.hid b1
  clear b1
  go_wp2_with fail
  refine (parts_full p m w1 (by omega) hne ((B1.out.cell (p := ⟨0, 0, none⟩) hw0).trans HM.out) n HN.out).mono ?_
  rintro e w4 ⟨rfl, b4, g4, c4⟩
  have B4 := Lib.hid (B1.out.trans (b4.mono B1.out.size))
  have G4 := Lib.hid g4
  have C4 := Lib.hid c4
  clear b4 g4 c4
  generalize w1.heap.size = g at *
  go_wp2_with fail
  go_loopw [4, 5] (fun s i wr => ∃ (k : Nat) (s' : ByteArray), s = .string s' ∧ i = .int .i64 k ∧ k ≤ n ∧ Hid (Joined p k s') ∧ Hid (Below w4.heap.size w4 wr)) (fun _ i _ => n - (intOf i).toNat)
  case atStart => exact ⟨0, ⟨#[]⟩, rfl, rfl, Nat.zero_le _, Lib.hid (joined_zero p), Lib.hid (Below.refl _ _)⟩
  case round =>
    obtain ⟨k, s, rfl, rfl, hk, hJ, hb⟩ := hrel
    have hsl : s.size ≤ 200 := by have := joined_len hJ.out; omega
    by_cases hlt : k < n
    · obtain ⟨x, hx⟩ : ∃ x, (spl p.data.toList)[k]? = some x := ⟨_, List.getElem?_eq_getElem (by rw [HN.out]; exact hlt)⟩
      have hcell := (hb.out.cell (p := ⟨g, k, none⟩) G4.out).trans (C4.out k x hx)
      have hcg : g < wr.heap.size := Nat.lt_of_lt_of_le G4.out hb.out.size
      have hxl := PL.out x (List.mem_of_getElem? hx)
      have HX := Lib.hid hx
      clear hx
      obtain ⟨y, hy⟩ : ∃ y, mk x = y := ⟨_, rfl⟩
      have hyx : Hid (y.data.toList = x) := Lib.hid (by rw [← hy, toList_mk])
      have hys : y.size ≤ 200 := by rw [← hy, mk_size]; exact hxl
      have J1 : Hid (if k = 0 then Joined p (k + 1) (s ++ y) else Joined p (k + 1) (s ++ ⟨#[47]⟩ ++ y)) := Lib.hid (by
        rw [← hy]
        split
        · rename_i e; subst e; exact joined_first hJ.out HX.out
        · exact joined_next (by omega) hJ.out HX.out)
      rw [hy] at hcell
      clear hy hxl hJ
      by_cases hk0 : k = 0
      · subst hk0
        have JS : Hid (Joined p (0 + 1) (s ++ y)) := Lib.hid (by have := J1.out; rwa [if_pos rfl] at this)
        clear J1
        by_cases hc : c = 0
        · subst hc
          obtain ⟨z1, z2, z3⟩ := CZ.out rfl x (List.mem_of_getElem? HX.out)
          have Z1 : Hid (∀ W, Calls Tryd.prog 9 #[.string y] W fun e w' => e = .returned (.int .i64 0) ∧ Below W.heap.size W w') := Lib.hid fun W => by have := check_any y W (by omega); unfold Checked at this; rwa [hyx.out, z1] at this
          have Z2 : Hid ((spl y.data.toList).length = 1) := Lib.hid (by rw [hyx.out, z2]; rfl)
          have Z3 : Hid (¬ y.size = 0) := Lib.hid (fun e => z3 (by rw [← hyx.out]; exact List.eq_nil_of_length_eq_zero (by rw [size_list]; exact e)))
          clear z1 z2 z3
          go_wp2_with fail
          refine (C2.out wr).mono ?_
          rintro e w5 ⟨rfl, b5⟩
          have c5 := (b5.cell (p := ⟨g, 0, none⟩) hcg).trans hcell
          have B5 := Lib.hid (hb.out.trans (b5.mono hb.out.size))
          have hcg5 : g < w5.heap.size := Nat.lt_of_lt_of_le hcg b5.size
          clear b5 hcell hcg hb
          go_wp2_with fail
          refine (Z1.out w5).mono ?_
          rintro e w6 ⟨rfl, b6⟩
          have c6 := (b6.cell (p := ⟨g, 0, none⟩) hcg5).trans c5
          have B6 := Lib.hid (B5.out.trans (b6.mono B5.out.size))
          clear b6 c5 hcg5
          go_wp2_with fail
          refine (parts_len y m w6 (by omega) Z3.out (((B4.out.trans (B6.out.mono B4.out.size)).cell (p := ⟨0, 0, none⟩) hw0).trans HM.out) 1 Z2.out).mono ?_
          rintro e w7 ⟨rfl, b7⟩
          have B7 := Lib.hid (B6.out.trans (b7.mono B6.out.size))
          clear b7
          go_wp2
          go_roundw
          case rel => exact ⟨0 + 1, s ++ y, by rfl, by go_num, hlt, JS, B7⟩
          case measure => simp [intOf]; omega
        · have hc' : (c == 0) = false := by rw [beq_eq_false_iff_ne]; exact hc
          go_wp2_with fail
          refine (C2.out wr).mono ?_
          rintro e w5 ⟨rfl, b5⟩
          have B5 := Lib.hid (hb.out.trans (b5.mono hb.out.size))
          clear b5 hcell hcg hb
          go_wp2
          go_roundw
          case rel => exact ⟨0 + 1, s ++ y, by rfl, by go_num, hlt, JS, B5⟩
          case measure => simp [intOf]; omega
      · have hk1 : (0 : Int) < (k : Int) := by omega
        have JS : Hid (Joined p (k + 1) (s ++ ⟨#[47]⟩ ++ y)) := Lib.hid (by have := J1.out; rwa [if_neg hk0] at this)
        clear J1
        by_cases hc : c = 0
        · subst hc
          obtain ⟨z1, z2, z3⟩ := CZ.out rfl x (List.mem_of_getElem? HX.out)
          have Z1 : Hid (∀ W, Calls Tryd.prog 9 #[.string y] W fun e w' => e = .returned (.int .i64 0) ∧ Below W.heap.size W w') := Lib.hid fun W => by have := check_any y W (by omega); unfold Checked at this; rwa [hyx.out, z1] at this
          have Z2 : Hid ((spl y.data.toList).length = 1) := Lib.hid (by rw [hyx.out, z2]; rfl)
          have Z3 : Hid (¬ y.size = 0) := Lib.hid (fun e => z3 (by rw [← hyx.out]; exact List.eq_nil_of_length_eq_zero (by rw [size_list]; exact e)))
          clear z1 z2 z3
          go_wp2_with fail
          refine (C2.out wr).mono ?_
          rintro e w5 ⟨rfl, b5⟩
          have c5 := (b5.cell (p := ⟨g, k, none⟩) hcg).trans hcell
          have B5 := Lib.hid (hb.out.trans (b5.mono hb.out.size))
          have hcg5 : g < w5.heap.size := Nat.lt_of_lt_of_le hcg b5.size
          clear b5 hcell hcg hb
          go_wp2_with fail
          refine (Z1.out w5).mono ?_
          rintro e w6 ⟨rfl, b6⟩
          have c6 := (b6.cell (p := ⟨g, k, none⟩) hcg5).trans c5
          have B6 := Lib.hid (B5.out.trans (b6.mono B5.out.size))
          clear b6 c5 hcg5
          go_wp2_with fail
          refine (parts_len y m w6 (by omega) Z3.out (((B4.out.trans (B6.out.mono B4.out.size)).cell (p := ⟨0, 0, none⟩) hw0).trans HM.out) 1 Z2.out).mono ?_
          rintro e w7 ⟨rfl, b7⟩
          have B7 := Lib.hid (B6.out.trans (b7.mono B6.out.size))
          clear b7
          go_wp2
          go_roundw
          case rel => exact ⟨k + 1, s ++ ⟨#[47]⟩ ++ y, by rfl, by go_num, hlt, JS, B7⟩
          case measure => simp [intOf]; omega
        · have hc' : (c == 0) = false := by rw [beq_eq_false_iff_ne]; exact hc
          go_wp2_with fail
          refine (C2.out wr).mono ?_
          rintro e w5 ⟨rfl, b5⟩
          have B5 := Lib.hid (hb.out.trans (b5.mono hb.out.size))
          clear b5 hcell hcg hb
          go_wp2
          go_roundw
          case rel => exact ⟨k + 1, s ++ ⟨#[47]⟩ ++ y, by rfl, by go_num, hlt, JS, B5⟩
          case measure => simp [intOf]; omega
    · obtain rfl : k = n := by omega
      have he := joined_all hJ.out HN.out
      have BB := Lib.hid (B4.out.trans (hb.out.mono B4.out.size))
      clear hJ hb
      subst he
      go_wp2
      go_ret
      exact ⟨rfl, BB.out⟩

theorem pts_walk (p : ByteArray) (hp : p.size ≤ 9223372036854775807) (w : World) (m : Int) (hm : w.cell? ⟨0, 0, none⟩ = some (.int .i64 m)) : Calls Tryd.prog 6 #[.string p] w (YesB w) := by
  by_cases h : 200 < p.size
  · exact pts_long p hp h w m hm
  · by_cases h0 : p.size = 0
    · obtain rfl := nil_of h0
      exact pts_none w m hm
    · exact pts_main p (by omega) h0 w m hm
#print axioms pts_walk
end Go.Proofs.YtkhdjlakclidoaaDoor
