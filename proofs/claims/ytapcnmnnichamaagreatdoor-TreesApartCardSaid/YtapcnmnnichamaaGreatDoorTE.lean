/-
  rectolaw14.Few, rectolaw15.Few: whether trees and entries are few, and short.
  TreesSides: where one side is as it was, or both are alike.
-/
import Derived.Test.YtapcnmnnichamaaGreatDoorSRow
import Derived.Test.YtapcnmnnichamaaGreatDoorRP
import Derived.Test.YtapcnmnnichamaaGreatDoorTD
import Derived.Test.YtapcnmnnichamaaGreatDoorFThy

namespace Go.Proofs.YtapcnmnnichamaaGreatDoor
open Go.RowKit

def FewToF (l : List Fl) (w : World) (e : Ending) (w' : World) : Prop := ∃ b : Bool, e = .returned (.bool b) ∧ (b = true → l.length ≤ 80 ∧ ∀ x ∈ l, x.1.size ≤ 100 ∧ x.2.2.size ≤ 5000) ∧ ∃ q, w' = w.drewN q
set_option maxHeartbeats 4000000 in
theorem fewF_any (w : World) (v : Value) (l : List Fl) (h : Reads 3 cF w v l) : Calls Tryz.prog 8 #[v] w (FewToF l w) := by
  obtain ⟨A, c, rfl⟩ := h.form
  have hn := h.len
  have hnm : l.length ≤ 9223372036854775807 := by have := hn.2; unfold maxLen at this; omega
  have HO := Lib.hid h
  clear h hn
  by_cases hbig : 80 < l.length
  · have hb : (80 : Int) < (l.length : Int) := by omega
    go_enter Tryz.func8, Tryz.ntmps8
    go_wp2
    go_ret
    exact ⟨false, rfl, (fun h => by cases h), 0, rfl⟩
  · have hb : ¬ (80 : Int) < (l.length : Int) := by omega
    have HB := Lib.hid hbig
    go_enter Tryz.func8, Tryz.ntmps8
    go_wp2
    go_loopw [3] (fun s3 wr => ∃ k : Nat, k ≤ l.length ∧ s3 = .int .i64 k ∧ Hid (∀ x ∈ l.take k, x.1.size ≤ 100 ∧ x.2.2.size ≤ 5000) ∧ SameW wr w) (fun s3 _ => l.length - (intOf s3).toNat)
    case atStart => exact ⟨0, Nat.zero_le _, rfl, Lib.hid (fun x hx => by simp at hx), rfl⟩
    case round =>
      obtain ⟨k, hk, rfl, hp, hw⟩ := hrel
      unfold SameW at hw
      subst hw
      by_cases hlt : k < l.length
      · obtain ⟨x, hx⟩ : ∃ x, l[k]? = some x := ⟨_, List.getElem?_eq_getElem hlt⟩
        obtain ⟨ad, rfl, c0, c1, c2⟩ := Fils.at_ HO.out hx
        have HT := Lib.hid (take_snoc hx)
        obtain ⟨p, m, d⟩ := x
        have k0 : (0 : Int) ≤ (k : Int) := Int.natCast_nonneg _
        have k1 : (k : Int) < (l.length : Int) := by omega
        clear hx
        by_cases h1 : 100 < p.size
        · have h1' : (100 : Int) < (p.size : Int) := by omega
          go_wp2
          go_ret
          exact ⟨false, rfl, (fun h => by cases h), 0, rfl⟩
        · have h1' : ¬ (100 : Int) < (p.size : Int) := by omega
          by_cases h2 : 5000 < d.size
          · have h2' : (5000 : Int) < (d.size : Int) := by omega
            go_wp2
            go_ret
            exact ⟨false, rfl, (fun h => by cases h), 0, rfl⟩
          · have h2' : ¬ (5000 : Int) < (d.size : Int) := by omega
            have HP : Hid (∀ x ∈ l.take (k + 1), x.1.size ≤ 100 ∧ x.2.2.size ≤ 5000) := Lib.hid (by
              rw [HT.out]
              intro x hx
              rcases List.mem_append.1 hx with hx | hx
              · exact hp.out x hx
              · rw [List.mem_singleton.1 hx]; exact ⟨Nat.not_lt.1 h1, Nat.not_lt.1 h2⟩)
            go_wp2
            go_roundw
            case rel => exact ⟨k + 1, by omega, by go_num, HP, rfl⟩
            case measure => simp [intOf]; omega
      · obtain rfl : k = l.length := by omega
        have HP := Lib.hid (show ∀ x ∈ l, x.1.size ≤ 100 ∧ x.2.2.size ≤ 5000 by have := hp.out; rw [List.take_length] at this; exact this)
        go_wp2
        go_ret
        exact ⟨true, rfl, fun _ => ⟨Nat.not_lt.1 HB.out, HP.out⟩, 0, rfl⟩

end Go.Proofs.YtapcnmnnichamaaGreatDoor

namespace Go.Proofs.YtapcnmnnichamaaGreatDoor
open Go Go.RowKit

theorem mrg_same {F : OneF} {P : List ByteArray} {o : List Fl} (ro : RiseF o) (hP : RiseP P) (hin : ∀ f ∈ o, f.1 ∈ P) (hF : ∀ p, F p = (getF o p, false)) : mrgF F P = o ∧ mrgC F P = [] := by
  have hr : RiseF (mrgF F P) := by
    refine List.pairwise_filterMap.2 (hP.imp fun {a b} hab f hf g hg => ?_)
    rw [hF] at hf hg
    rw [getF_path hf, getF_path hg]
    exact hab
  refine ⟨tree_ext hr ro fun p => opt_ext fun f => ?_, ?_⟩
  · rw [getF_iff hr, getF_iff ro]
    constructor
    · rintro ⟨h1, h2⟩
      obtain ⟨q, _, h3⟩ := List.mem_filterMap.1 h1
      rw [hF] at h3
      exact ⟨getF_in h3, h2⟩
    · rintro ⟨h1, h2⟩
      refine ⟨List.mem_filterMap.2 ⟨f.1, hin f h1, ?_⟩, h2⟩
      rw [hF]
      exact (getF_iff ro).2 ⟨h1, rfl⟩
  · unfold mrgC
    rw [List.filter_eq_nil_iff]
    intro p _
    rw [hF]
    simp
/-- What comes of a merge where nothing clashes, and o is taken. -/
def TakenTo (o : List Fl) (w : World) (e : Ending) (w' : World) : Prop :=
  ∃ Af cf Ae ce Ac cc, e = .returned (.tuple #[.agg #[.slice Af o.length cf, .slice Ae 0 ce, .slice Ac 0 cc], .nilIface]) ∧ Reads 3 cF w' (.slice Af o.length cf) o ∧ Below w.heap.size w w'
theorem merge_taken (w : World) (v1 v2 v3 : Value) (a b c o : List Fl) (n m : ByteArray) (h1 : Reads 3 cF w v1 a) (h2 : Reads 3 cF w v2 b) (h3 : Reads 3 cF w v3 c) (k1 : chkF a = none) (k2 : chkF b = none) (k3 : chkF c = none) (s1 : SizedD a) (s2 : SizedD b) (s3 : SizedD c)
    (ho : chkF o = none) (hin : ∀ f ∈ o, f.1 ∈ pathsP a b c) (hF : ∀ p, oneV none p (getF a p) (getF b p) (getF c p) = (getF o p, false)) (hT : ∀ p, getF b p ≠ getF c p → getF a p ≠ getF c p → getF a p ≠ getF b p → False) :
    Calls Tryz.prog 10 #[v1, v2, v3, .string n, .string m] w (TakenTo o w) := by
  have MG := merge_any w v1 v2 v3 a b c n m h1 h2 h3 k1 k2 k3 s1 s2 s3 (fun _ => none) (fun p _ e1 e2 e3 => absurd (hT p e1 e2 e3) id) (fun _ _ _ h => by cases h)
  obtain ⟨e1, e2⟩ := mrg_same (F := fun p => oneV none p (getF a p) (getF b p) (getF c p)) (chkF_rise ho) (nrm_rise _) hin hF
  have e3 : mrgE (fun p => oneV none p (getF a p) (getF b p) (getF c p)) (fun p => entV p (getF a p) (getF b p) (getF c p)) (pathsP a b c) = [] := by
    unfold mrgE
    rw [show mrgC (fun p => oneV none p (getF a p) (getF b p) (getF c p)) (pathsP a b c) = [] from e2]
    rfl
  rw [show mrgF (fun p => oneV none p (getF a p) (getF b p) (getF c p)) (pathsP a b c) = o from e1, show mrgC (fun p => oneV none p (getF a p) (getF b p) (getF c p)) (pathsP a b c) = [] from e2, e3] at MG
  refine MG.mono fun e w' h => ?_
  obtain ⟨vf, ve, vc, rfl, of, oe, oc, hb⟩ := merged_ok h (way_of_chk ho)
  obtain ⟨Af, cf, rfl⟩ := own_form of
  obtain ⟨Ae, ce, rfl⟩ := own_form oe
  obtain ⟨Ac, cc, rfl⟩ := own_form oc
  exact ⟨Af, cf, Ae, ce, Ac, cc, rfl, Reads.of_own cF_len of, hb⟩
theorem in_paths {a b c : List Fl} {f : Fl} (h : f ∈ a ∨ f ∈ b ∨ f ∈ c) : f.1 ∈ pathsP a b c := by
  unfold pathsP
  rw [nrm_mem, List.mem_append, List.mem_append, List.mem_map, List.mem_map, List.mem_map]
  rcases h with h | h | h
  · exact .inl (.inl ⟨f, h, rfl⟩)
  · exact .inl (.inr ⟨f, h, rfl⟩)
  · exact .inr ⟨f, h, rfl⟩
theorem oneV_x {p : ByteArray} {x y : Option Fl} : oneV none p x y x = (y, false) := by unfold oneV; rw [if_pos (.inr rfl)]
theorem oneV_y {p : ByteArray} {x z : Option Fl} : oneV none p x x z = (z, false) := by
  unfold oneV
  by_cases h : x = z
  · rw [if_pos (.inr h), h]
  · rw [if_neg (fun e => e.elim h h), if_pos rfl]
theorem oneV_z {p : ByteArray} {x y : Option Fl} : oneV none p x y y = (y, false) := by unfold oneV; rw [if_pos (.inl rfl)]
set_option maxRecDepth 100000 in
set_option maxHeartbeats 8000000 in
theorem treesSides_any (w : World) (vb vo : Value) (b o : List Fl) (hb : Reads 3 cF w vb b) (ho : Reads 3 cF w vo o) :
    Calls Tryz.prog 5 #[vb, vo] w fun e w' => e = .returned (.bool true) ∧ Below w.heap.size w w' := by
  have KN := Lib.hid (known16_yes w)
  have RW := Lib.hid fun W (hW : Below w.heap.size w W) => (⟨hb.below hW, ho.below hW⟩ : Reads 3 cF W vb b ∧ Reads 3 cF W vo o)
  obtain ⟨Ab, cb', rfl⟩ := hb.form
  obtain ⟨Ao, co, rfl⟩ := ho.form
  clear hb ho
  go_enter Tryz.func5, Tryz.ntmps5
  go_wp2_with fail
  refine KN.out.mono ?_
  rintro e w1 ⟨rfl, b1⟩
  have B1 := Lib.hid b1
  have F1 := Lib.hid (fewF_any w1 _ b (RW.out _ b1).1)
  clear KN b1
  go_wp2_with fail
  refine F1.out.mono ?_
  rintro e w2 ⟨f1, rfl, hf1, q1, hq1⟩
  have B2 := Lib.hid (show Below w.heap.size w w2 by rw [hq1]; exact below_drewN B1.out q1)
  have FB := Lib.hid hf1
  clear hf1 hq1 F1 B1
  cases f1 with
  | false =>
    go_wp2
    go_ret
    exact ⟨rfl, B2.out⟩
  | true =>
    have F2 := Lib.hid (fewF_any w2 _ o (RW.out _ B2.out).2)
    go_wp2_with fail
    refine F2.out.mono ?_
    rintro e w3 ⟨f2, rfl, hf2, q2, hq2⟩
    have B3 := Lib.hid (show Below w.heap.size w w3 by rw [hq2]; exact below_drewN B2.out q2)
    have FO := Lib.hid hf2
    clear hf2 hq2 F2 B2
    cases f2 with
    | false =>
      go_wp2
      go_ret
      exact ⟨rfl, B3.out⟩
    | true =>
      have SB := Lib.hid (show SizedD b from fun x hx => by have := (FB.out trivial).2 x hx; omega)
      have SO := Lib.hid (show SizedD o from fun x hx => by have := (FO.out rfl).2 x hx; omega)
      have C1 := Lib.hid (checkF_any w3 _ b (RW.out _ B3.out).1 SB.out (by have := (FB.out trivial).1; omega))
      go_wp2_with fail
      refine C1.out.mono ?_
      rintro e w4 (⟨kb, rfl, b4⟩ | ⟨i, k, F, _, rfl, _, _, b4⟩)
      · have B4 := Lib.hid (B3.out.trans (b4.mono B3.out.size))
        have KB := Lib.hid kb
        clear b4 kb C1 B3
        have C2 := Lib.hid (checkF_any w4 _ o (RW.out _ B4.out).2 SO.out (by have := (FO.out trivial).1; omega))
        go_wp2_with fail
        refine C2.out.mono ?_
        rintro e w5 (⟨ko, rfl, b5⟩ | ⟨i, k, F, _, rfl, _, _, b5⟩)
        · have B5 := Lib.hid (B4.out.trans (b5.mono B4.out.size))
          have KO := Lib.hid ko
          clear b5 ko C2 B4
          have M1 := Lib.hid fun W (hW : Below w.heap.size w W) => merge_taken W _ _ _ b o b o ⟨#[120]⟩ ⟨#[121]⟩ (RW.out W hW).1 (RW.out W hW).2 (RW.out W hW).1 KB.out KO.out KB.out SB.out SO.out SB.out KO.out (fun f hf => in_paths (.inr (.inl hf))) (fun p => oneV_x) (fun p _ h _ => h rfl)
          have M2 := Lib.hid fun W (hW : Below w.heap.size w W) => merge_taken W _ _ _ b b o o ⟨#[120]⟩ ⟨#[121]⟩ (RW.out W hW).1 (RW.out W hW).1 (RW.out W hW).2 KB.out KB.out KO.out SB.out SB.out SO.out KO.out (fun f hf => in_paths (.inr (.inr hf))) (fun p => oneV_y) (fun p _ _ h => h rfl)
          have M3 := Lib.hid fun W (hW : Below w.heap.size w W) => merge_taken W _ _ _ b o o o ⟨#[120]⟩ ⟨#[121]⟩ (RW.out W hW).1 (RW.out W hW).2 (RW.out W hW).2 KB.out KO.out KO.out SB.out SO.out SO.out KO.out (fun f hf => in_paths (.inr (.inl hf))) (fun p => oneV_z) (fun p h _ _ => h rfl)
          go_upto_region 6 with (go_at_call 10; refine (M1.out _ B5.out).mono ?_; rintro e w6 ⟨Af, cf, Ae, ce, Ac, cc, rfl, r6, b6⟩; have R6 := Lib.hid (r6.alloc (.cells #[.slice Af o.length cf, .slice Ae 0 ce, .slice Ac 0 cc] 29)); have X6 := Lib.hid (Blk.new w6 29 #[.slice Af o.length cf, .slice Ae 0 ce, .slice Ac 0 cc]); have B6 := Lib.hid ((B5.out.trans (b6.mono B5.out.size)).alloc (Nat.le_trans B5.out.size b6.size) (.cells #[.slice Af o.length cf, .slice Ae 0 ce, .slice Ac 0 cc] 29)); clear r6 b6)
          obtain ⟨g6, hg6⟩ : ∃ x, x = w6.heap.size := ⟨_, rfl⟩
          rw [← hg6] at X6 ⊢
          clear hg6
          generalize hW7 : w6.alloc (.cells #[.slice Af o.length cf, .slice Ae 0 ce, .slice Ac 0 cc] 29) = w7 at *
          clear hW7
          go_upto_region 7 with (go_at_call 10; refine (M2.out _ B6.out).mono ?_; rintro e w8 ⟨Ag, cg, Ah, ch, Ai, ci, rfl, r8, b8⟩; have R8 := Lib.hid (r8.alloc (.cells #[.slice Ag o.length cg, .slice Ah 0 ch, .slice Ai 0 ci] 29)); have X8 := Lib.hid (Blk.new w8 29 #[.slice Ag o.length cg, .slice Ah 0 ch, .slice Ai 0 ci]); have bb := b8.alloc b8.size (.cells #[.slice Ag o.length cg, .slice Ah 0 ch, .slice Ai 0 ci] 29); have B8 := Lib.hid (B6.out.trans (bb.mono B6.out.size)); have X7 := Lib.hid (X6.out.below bb X6.out.lt); have R7 := Lib.hid (R6.out.below bb); clear r8 b8 bb)
          obtain ⟨g8, hg8⟩ : ∃ x, x = w8.heap.size := ⟨_, rfl⟩
          rw [← hg8] at X8 ⊢
          clear hg8 X6 R6 B6
          generalize hW9 : w8.alloc (.cells #[.slice Ag o.length cg, .slice Ah 0 ch, .slice Ai 0 ci] 29) = w9 at *
          clear hW9
          go_upto_region 8 with (go_at_call 10; refine (M3.out _ B8.out).mono ?_; rintro e wa ⟨Aj, cj, Ak, ck, Al, cl, rfl, ra, ba⟩; have Ra := Lib.hid (ra.alloc (.cells #[.slice Aj o.length cj, .slice Ak 0 ck, .slice Al 0 cl] 29)); have Xa := Lib.hid (Blk.new wa 29 #[.slice Aj o.length cj, .slice Ak 0 ck, .slice Al 0 cl]); have bb := ba.alloc ba.size (.cells #[.slice Aj o.length cj, .slice Ak 0 ck, .slice Al 0 cl] 29); have Ba := Lib.hid (B8.out.trans (bb.mono B8.out.size)); have X9 := Lib.hid (X7.out.below bb X7.out.lt); have R9 := Lib.hid (R7.out.below bb); have Y9 := Lib.hid (X8.out.below bb X8.out.lt); have Q9 := Lib.hid (R8.out.below bb); clear ra ba bb)
          obtain ⟨ga, hga⟩ : ∃ x, x = wa.heap.size := ⟨_, rfl⟩
          rw [← hga] at Xa ⊢
          clear hga X7 R7 B8 X8 R8 M1 M2 M3
          generalize hWb : wa.alloc (.cells #[.slice Aj o.length cj, .slice Ak 0 ck, .slice Al 0 cl] 29) = wb at *
          clear hWb
          have x0 := X9.out.cell 0
          have x1 := X9.out.cell 1
          have x2 := X9.out.cell 2
          have y0 := Y9.out.cell 0
          have y1 := Y9.out.cell 1
          have y2 := Y9.out.cell 2
          have z0 := Xa.out.cell 0
          have z1 := Xa.out.cell 1
          have z2 := Xa.out.cell 2
          have SM := fun (v : Value) (h : Reads 3 cF wb v o) (n : Nat) => sameF_any (wb.drewN n) v (.slice Ao o.length co) o o (h.drewN n) ((RW.out _ Ba.out).2.drewN n)
          have S1 := Lib.hid (sameF_any wb _ (.slice Ao o.length co) o o R9.out (RW.out _ Ba.out).2)
          have S2 := Lib.hid (SM _ Q9.out)
          have S3 := Lib.hid (SM _ Ra.out)
          rw [decide_eq_true (rfl : o = o)] at S1 S2 S3
          clear SM
          go_wp2_with (first
            | (go_at_call 18; refine (S3.out _).mono ?_; rintro e wf ⟨rfl, q3, rfl⟩; have hq3 := Lib.hid (show True from trivial))
            | (go_at_call 18; refine (S2.out _).mono ?_; rintro e we ⟨rfl, q2, rfl⟩)
            | (go_at_call 18; refine S1.out.mono ?_; rintro e wd ⟨rfl, q1, rfl⟩))
          go_ret
          exact ⟨rfl, below_drewN Ba.out _⟩
        · have B5 := Lib.hid (B4.out.trans (b5.mono B4.out.size))
          clear b5
          go_wp2
          go_ret
          exact ⟨rfl, B5.out⟩
      · have B4 := Lib.hid (B3.out.trans (b4.mono B3.out.size))
        clear b4
        go_wp2
        go_ret
        exact ⟨rfl, B4.out⟩
end Go.Proofs.YtapcnmnnichamaaGreatDoor
