/-
  rectoref3.At at any part; rectoref14.Check: the first file that may not be, and why, as the document's.
  Tells, at no error on both sides, and at what the two checks of a tree say.
  (Row).Put: a file put into a tree that rises.
  files.Diff: where two trees are unlike, by path.
  rectolaw14.known is true.
  rectolaw14.known is true.
  rectolaw14.Few, rectolaw15.Few: whether trees and entries are few, and short.
  rectolaw1.Texts: whether rows of texts are the same.
  rectoref14.Put at any files.
  rectoref14.Cut, rectoref14.Clear: a tree without a file, without what clashes.
  rectoref14.Get: the first file at a path, looked for in order.
  rectoref14.Same: are trees the same?
-/
import Derived.Test.YtplleaimmmanhaaGreatDoorG2
import Derived.Test.YtplleaimmmanhaaGreatDoorG5
import Derived.Test.YtplleaimmmanhaaGreatDoorG3
import Derived.Test.YtplleaimmmanhaaGreatDoorG4
namespace Go.Proofs.YtplleaimmmanhaaGreatDoor
open Go Go.RowKit

set_option maxHeartbeats 1000000 in
theorem refAt_gen (p : ByteArray) (n e : Int) (w : World) : Calls Tryz.prog 49 #[.string p, .int .i64 n, .int .i64 e] w fun x w' => ∃ g, x = .returned (wrongG g e) ∧ Blk w' g 95 #[.string p, .int .i64 n] ∧ w.heap.size ≤ g ∧ Below w.heap.size w w' := by
  go_enter Tryz.func49, Tryz.ntmps49
  go_wp2
  refine bodyPost_ret (results_cell_row (fn := Tryz.f49) rfl _ _ w.heap.size 36 #[.slice (some ⟨w.heap.size + 1, 0, none⟩) 1 1, .int .i64 e] (0, 0) _ rfl ((Blk.new w 36 _).alloc _) Tryz.underlying36 rfl (by kernel_rfl)) rfl ⟨w.heap.size + 1, rfl, ?_, by omega, ((Below.refl _ _).alloc (Nat.le_refl _) _).alloc (by simp) _⟩
  have h := heap_alloc_new (w.alloc (.cells #[.slice (some ⟨w.heap.size + 1, 0, none⟩) 1 1, .int .i64 e] 36)) (.cells #[.string p, .int .i64 n] 95)
  rw [show (w.alloc (.cells #[.slice (some ⟨w.heap.size + 1, 0, none⟩) 1 1, .int .i64 e] 36)).heap.size = w.heap.size + 1 by simp] at h
  exact h

/-- What the document's check answers: no error, or one of one part. -/
def WrongTo (p : ByteArray) (o : Option (Nat × Int)) (w : World) (e : Ending) (w' : World) : Prop :=
  (o = none ∧ e = .returned (.agg #[.slice none 0 0, .int .i64 0]) ∧ Below w.heap.size w w') ∨ ∃ (i : Nat) (k : Int) (g : Nat), o = some (i, k) ∧ e = .returned (wrongG g k) ∧ w.heap.size ≤ g ∧ Blk w' g 95 #[.string p, .int .i64 i] ∧ Below w.heap.size w w'
theorem clash_snoc {l : List Fl} {k : Nat} {y : Fl} (hy : l[k]? = some y) (p : ByteArray) : clashF (l.take (k + 1)) p = (clashF (l.take k) p || cls y.1.data.toList p.data.toList) := by
  unfold clashF
  rw [take_snoc hy, List.any_append]; simp
theorem clash_more {l : List Fl} {k i : Nat} (hk : k ≤ i) {p : ByteArray} (h : clashF (l.take k) p = true) : clashF (l.take i) p = true := by
  unfold clashF at *
  rw [List.any_eq_true] at *
  obtain ⟨x, hx, hp⟩ := h
  exact ⟨x, List.take_subset_take_left l hk hx, hp⟩

set_option maxRecDepth 100000 in
set_option maxHeartbeats 8000000 in
theorem refCheckF_any (w : World) (v : Value) (l : List Fl) (h : Reads 3 cF w v l) (hs : SizedD l) (hl : l.length ≤ 100000) :
    Calls Tryz.prog 12 #[v] w (WrongTo bFile (chkF l) w) := by
  obtain ⟨W1, hW1⟩ : ∃ W1, W1 = w.alloc (.cells #[.slice none 0 0, .int .i64 0] 36) := ⟨_, rfl⟩
  have B1 : Below w.heap.size w W1 := by rw [hW1]; exact (Below.refl _ _).alloc (Nat.le_refl _) _
  obtain ⟨G, hG⟩ : ∃ G, G = w.heap.size := ⟨_, rfl⟩
  have K1 : Blk W1 G 36 #[.slice none 0 0, .int .i64 0] := by rw [hW1, hG]; exact heap_alloc_new w _
  have hGl := K1.lt
  have GG := Lib.hid fun W (hW : Below W1.heap.size W1 W) => K1.below hW hGl
  obtain ⟨A, c, rfl⟩ := h.form
  have HO := Lib.hid (h.below B1)
  have HS := Lib.hid hs
  have HB1 := Lib.hid B1
  have b1s := B1.size
  have hgs : w.heap.size ≤ G := by omega
  have HW1s := Lib.hid (show W1.heap.size = G + 1 by rw [hW1, hG]; simp)
  clear h hs K1 B1
  by_cases hlong : 64 < l.length
  · have HV := Lib.hid (chkF_long hlong)
    have hli : (64 : Int) < (l.length : Int) := by omega
    have hl2 : l.length ≤ 9223372036854775807 := by omega
    have RT := Lib.hid (refAt_gen bFile 64 4 W1)
    clear hlong
    go_enter Tryz.func12, Tryz.ntmps12
    go_wp2_with fail
    rw [← hW1, ← hG]
    clear hW1
    have HG := Lib.hid hG
    clear hG
    refine RT.out.mono ?_
    rintro e w2 ⟨g, rfl, hg, hgl, b2⟩
    have K2 := GG.out w2 b2
    have hkl := K2.lt
    have c0 := K2.cell 0
    have c1 := K2.cell 1
    have f0 := K2.frozen 0
    have f1 := K2.frozen 1
    have HK := Lib.hid K2
    have Hg := Lib.hid hg
    have Hne := Lib.hid (K2.ne_ hg (by decide))
    have HB2 := Lib.hid (HB1.out.trans (b2.mono b1s))
    clear hg b2 K2
    go_wp2_with fail
    refine bodyPost_ret (results_cell_row (fn := Tryz.f12) rfl _ _ G 36 #[.slice (some ⟨g, 0, none⟩) 1 1, .int .i64 4] (0, 0) _ rfl (by first | exact (HK.out.set_ 0 _).set_ 1 _ | simpa using (HK.out.set_ 0 _).set_ 1 _) Tryz.underlying36 rfl (by kernel_rfl)) rfl (.inr ⟨64, 4, g, HV.out, rfl, by omega, (Hg.out.far (fun e => Hne.out e.symm) _).far (fun e => Hne.out e.symm) _, (HB2.out.setCell (p := ⟨G, 0, none⟩) hgs _).setCell (p := ⟨G, 1, none⟩) hgs _⟩)
  · have hli : ¬ (64 : Int) < (l.length : Int) := by omega
    have hl2 : l.length ≤ 9223372036854775807 := by omega
    have HL := Lib.hid hlong
    clear hlong
    go_enter Tryz.func12, Tryz.ntmps12
    go_wp2_with fail
    rw [← hW1, ← hG]
    clear hW1
    have HG := Lib.hid hG
    clear hG
    go_loopw [3, 4, 5] (fun s3 _ _ wr => ∃ i : Nat, i ≤ l.length ∧ s3 = .int .i64 i ∧ Below W1.heap.size W1 wr ∧ Hid (∀ j g, j < i → l[j]? = some g → refF (l.take j) g = 0)) (fun s3 _ _ _ => l.length - (intOf s3).toNat)
    case atStart => exact ⟨0, Nat.zero_le _, rfl, Below.refl _ _, Lib.hid (fun j _ hj => absurd hj (Nat.not_lt_zero _))⟩
    case round =>
      obtain ⟨i, hi, rfl, hb, I⟩ := hrel
      by_cases hlt : i < l.length
      · obtain ⟨x, hx⟩ : ∃ x, l[i]? = some x := ⟨_, List.getElem?_eq_getElem hlt⟩
        have HX := Lib.hid hx
        obtain ⟨ad, rfl, c0, c1, c2⟩ := Fils.at_ (HO.out.below hb) hx
        obtain ⟨p, m, d⟩ := x
        have hsx := HS.out.at_ hx
        have RC := Lib.hid (refCause_any wr p m d (by have := hsx.1; simp only at this; omega) (by have := hsx.2; simp only at this; omega))
        have HBR := Lib.hid hb
        have hbs := hb.size
        have hil : (i : Int) < (l.length : Int) := by omega
        have i0 : (0 : Int) ≤ (i : Int) := Int.natCast_nonneg _
        have HSX := Lib.hid hsx
        clear hx hb hsx
        go_wp2_with fail
        refine RC.out.mono ?_
        rintro e w2 ⟨rfl, b2⟩
        have B2 := Lib.hid (HBR.out.trans (b2.mono hbs))
        have e0 := (b2.cell (World.block_lt_of_cell? _ _ c0)).trans c0
        have AT := Lib.hid fun W (hW : Below W1.heap.size W1 W) k y (hy : l[k]? = some y) => Fils.at_ (HO.out.below hW) hy
        clear b2 c0 c1 c2 RC
        by_cases hc0 : causeF (p, m, d) = 0
        · have hce : (causeF (p, m, d) == 0) = true := by simpa using hc0
          have hce2 : (causeF (p, m, d) != 0) = false := by simpa using hc0
          have HC := Lib.hid hc0
          obtain ⟨cz, hcz⟩ : ∃ cz, cz = causeF (p, m, d) := ⟨_, rfl⟩
          rw [← hcz] at hce hce2 ⊢
          obtain rfl : cz = 0 := by rw [hcz]; exact hc0
          clear hcz hc0 hce hce2
          by_cases hi0 : i = 0
          · have HLT : Hid (lateF (l.take i) (p, m, d) = false) := Lib.hid (by rw [hi0]; rfl)
            have hnp : ¬ (0 : Int) < (i : Int) := by omega
            have hnp2 : ¬ 0 < i := by omega
            have HI0 := Lib.hid hi0
            clear hi0
            go_wp2_with fail
            go_quiet (fail)
            obtain ⟨w3, hw3⟩ : ∃ w3, w3 = w2.drewN nq := ⟨_, rfl⟩
            have B3 := Lib.hid (show Below W1.heap.size W1 w3 by rw [hw3]; exact below_drewN B2.out nq)
            rw [← hw3]
            clear hw3 e0
            go_wp2_with fail
            have HLX := HLT
            have HCL := Lib.hid fun W1' => fun k y (hy : l[k]? = some y) => refClash_any y.1 p W1' (HS.out.at_ hy).1 HSX.out.1
            go_loopw [4, 5] (fun s4 s5 wq => ∃ (k : Nat) (E : Int), k ≤ i ∧ s4 = .int .i64 E ∧ s5 = .int .i64 k ∧ Hid ((E = 0 ∧ clashF (l.take k) p = false) ∨ (E = 11 ∧ clashF (l.take i) p = true)) ∧ Below W1.heap.size W1 wq) (fun _ s5 _ => i - (intOf s5).toNat)
            case atStart => exact ⟨0, 0, Nat.zero_le _, rfl, rfl, Lib.hid (.inl ⟨rfl, by simp [clashF]⟩), B3.out⟩
            case round =>
              obtain ⟨k, E, hk, rfl, rfl, HE, hbq⟩ := hrel
              have HBQ := Lib.hid hbq
              rcases HE.out with ⟨he, hcl⟩ | ⟨he, hcl⟩
              · subst he
                by_cases hki : k < i
                · obtain ⟨y, hy⟩ : ∃ y, l[k]? = some y := ⟨_, List.getElem?_eq_getElem (by omega)⟩
                  obtain ⟨ad3, had3, u0, u1, u2⟩ := AT.out _ hbq k y hy
                  obtain rfl := Option.some.inj had3
                  obtain ⟨ad4, had4, x0, x1, x2⟩ := AT.out _ hbq i _ HX.out
                  obtain rfl := Option.some.inj had4
                  have CX := Lib.hid fun W => HCL.out W k y hy
                  have HSN := Lib.hid (clash_snoc hy p)
                  have hkii : (k : Int) < (i : Int) := by omega
                  have hkl : (k : Int) < (l.length : Int) := by omega
                  have hkl2 : k < l.length := by omega
                  have hk0 : (0 : Int) ≤ (k : Int) := Int.natCast_nonneg _
                  have HCLF := Lib.hid hcl
                  obtain ⟨y1, y2, y3⟩ := y
                  obtain ⟨cb0, hcb0⟩ : ∃ cb0, cb0 = cls y1.data.toList p.data.toList := ⟨_, rfl⟩
                  simp only at CX HSN u0 x0
                  rw [← hcb0] at CX HSN
                  clear hy hcb0 hbq hcl u1 u2 x1 x2 HE
                  cases cb0 with
                  | true =>
                    have HI2 := Lib.hid (clash_more (k := k + 1) (i := i) (by omega) (p := p) (by rw [HSN.out, Bool.or_true]))
                    go_wp2_with fail
                    go_quiet ((go_at_call 51; exact Calls.quiet_of_same ((CX.out _).mono fun _ _ h => ⟨h.1, h.2.symm⟩)))
                    have BN := Lib.hid (below_drewN HBQ.out nq)
                    go_wp2_with fail
                    go_roundw
                    case rel => exact ⟨k + 1, 11, by omega, rfl, by go_num, Lib.hid (.inr ⟨rfl, HI2.out⟩), BN.out⟩
                    case measure => simp [intOf]; omega
                  | false =>
                    have HI2 := Lib.hid (show clashF (l.take (k + 1)) p = false by rw [HSN.out, HCLF.out]; rfl)
                    go_wp2_with fail
                    go_quiet ((go_at_call 51; exact Calls.quiet_of_same ((CX.out _).mono fun _ _ h => ⟨h.1, h.2.symm⟩)))
                    have BN := Lib.hid (below_drewN HBQ.out nq)
                    go_wp2_with fail
                    go_roundw
                    case rel => exact ⟨k + 1, 0, by omega, rfl, by go_num, Lib.hid (.inl ⟨rfl, HI2.out⟩), BN.out⟩
                    case measure => simp [intOf]; omega
                · obtain rfl : k = i := by omega
                  have HI2 : Hid (∀ j g, j < k + 1 → l[j]? = some g → refF (l.take j) g = 0) := Lib.hid fun j g hj hg => by
                    rcases Nat.lt_or_ge j k with h1 | h1
                    · exact I.out j g h1 hg
                    · obtain rfl : j = k := by omega
                      rw [HX.out] at hg
                      cases hg
                      exact refF_zero HC.out HLX.out hcl
                  clear hcl HE hbq
                  go_wp2_with fail
                  go_roundw
                  case rel => exact ⟨k + 1, by omega, by go_num, HBQ.out, HI2⟩
                  case measure => simp [intOf]; omega
              · exfalso
                rw [HI0.out] at hcl
                simp [clashF] at hcl
          · obtain ⟨n, hn⟩ : ∃ n, i = n + 1 := ⟨i - 1, by omega⟩
            obtain ⟨y, hy⟩ : ∃ y, l[n]? = some y := ⟨_, List.getElem?_eq_getElem (by omega)⟩
            obtain ⟨ad2, had2, d0, d1, d2⟩ := AT.out w2 B2.out n y hy
            obtain rfl := Option.some.inj had2
            have hw : IntKind.i64.wrap ((i : Int) - 1) = (n : Int) := by rw [IntKind.wrap_i64] <;> omega
            have hnl : (n : Int) < (l.length : Int) := by omega
            have hnl2 : n < l.length := by omega
            have hn0 : (0 : Int) ≤ (n : Int) := Int.natCast_nonneg _
            have hip : (0 : Int) < (i : Int) := by omega
            have hip2 : 0 < i := by omega
            have hlc := less_cb y.1 p
            have HLT : Hid (lateF (l.take i) (p, m, d) = decide (0 ≤ cb y.1 p)) := Lib.hid (by
              unfold lateF
              rw [List.getLast?_take, if_neg hi0, hn, Nat.add_sub_cancel, hy]
              rfl)
            have HNI := Lib.hid hn
            clear hy hn hi0 d1 d2
            by_cases hcb : cb y.1 p < 0
            · have hls : Op.bytesLess y.1.toList p.toList = true := by rw [hlc]; exact decide_eq_true hcb
              have HL0 : Hid (lateF (l.take i) (p, m, d) = false) := Lib.hid (by rw [HLT.out]; exact decide_eq_false (by omega))
              clear hlc hcb HLT
              go_wp2_with fail
              go_quiet (fail)
              obtain ⟨w3, hw3⟩ : ∃ w3, w3 = w2.drewN nq := ⟨_, rfl⟩
              have B3 := Lib.hid (show Below W1.heap.size W1 w3 by rw [hw3]; exact below_drewN B2.out nq)
              rw [← hw3]
              clear hw3 e0 d0
              go_wp2_with fail
              have HLX := HL0
              have HCL := Lib.hid fun W1' => fun k y (hy : l[k]? = some y) => refClash_any y.1 p W1' (HS.out.at_ hy).1 HSX.out.1
              go_loopw [4, 5] (fun s4 s5 wq => ∃ (k : Nat) (E : Int), k ≤ i ∧ s4 = .int .i64 E ∧ s5 = .int .i64 k ∧ Hid ((E = 0 ∧ clashF (l.take k) p = false) ∨ (E = 11 ∧ clashF (l.take i) p = true)) ∧ Below W1.heap.size W1 wq) (fun _ s5 _ => i - (intOf s5).toNat)
              case atStart => exact ⟨0, 0, Nat.zero_le _, rfl, rfl, Lib.hid (.inl ⟨rfl, by simp [clashF]⟩), B3.out⟩
              case round =>
                obtain ⟨k, E, hk, rfl, rfl, HE, hbq⟩ := hrel
                have HBQ := Lib.hid hbq
                rcases HE.out with ⟨he, hcl⟩ | ⟨he, hcl⟩
                · subst he
                  by_cases hki : k < i
                  · obtain ⟨y, hy⟩ : ∃ y, l[k]? = some y := ⟨_, List.getElem?_eq_getElem (by omega)⟩
                    obtain ⟨ad3, had3, u0, u1, u2⟩ := AT.out _ hbq k y hy
                    obtain rfl := Option.some.inj had3
                    obtain ⟨ad4, had4, x0, x1, x2⟩ := AT.out _ hbq i _ HX.out
                    obtain rfl := Option.some.inj had4
                    have CX := Lib.hid fun W => HCL.out W k y hy
                    have HSN := Lib.hid (clash_snoc hy p)
                    have hkii : (k : Int) < (i : Int) := by omega
                    have hkl : (k : Int) < (l.length : Int) := by omega
                    have hkl2 : k < l.length := by omega
                    have hk0 : (0 : Int) ≤ (k : Int) := Int.natCast_nonneg _
                    have HCLF := Lib.hid hcl
                    obtain ⟨y1, y2, y3⟩ := y
                    obtain ⟨cb0, hcb0⟩ : ∃ cb0, cb0 = cls y1.data.toList p.data.toList := ⟨_, rfl⟩
                    simp only at CX HSN u0 x0
                    rw [← hcb0] at CX HSN
                    clear hy hcb0 hbq hcl u1 u2 x1 x2 HE
                    cases cb0 with
                    | true =>
                      have HI2 := Lib.hid (clash_more (k := k + 1) (i := i) (by omega) (p := p) (by rw [HSN.out, Bool.or_true]))
                      go_wp2_with fail
                      go_quiet ((go_at_call 51; exact Calls.quiet_of_same ((CX.out _).mono fun _ _ h => ⟨h.1, h.2.symm⟩)))
                      have BN := Lib.hid (below_drewN HBQ.out nq)
                      go_wp2_with fail
                      go_roundw
                      case rel => exact ⟨k + 1, 11, by omega, rfl, by go_num, Lib.hid (.inr ⟨rfl, HI2.out⟩), BN.out⟩
                      case measure => simp [intOf]; omega
                    | false =>
                      have HI2 := Lib.hid (show clashF (l.take (k + 1)) p = false by rw [HSN.out, HCLF.out]; rfl)
                      go_wp2_with fail
                      go_quiet ((go_at_call 51; exact Calls.quiet_of_same ((CX.out _).mono fun _ _ h => ⟨h.1, h.2.symm⟩)))
                      have BN := Lib.hid (below_drewN HBQ.out nq)
                      go_wp2_with fail
                      go_roundw
                      case rel => exact ⟨k + 1, 0, by omega, rfl, by go_num, Lib.hid (.inl ⟨rfl, HI2.out⟩), BN.out⟩
                      case measure => simp [intOf]; omega
                  · obtain rfl : k = i := by omega
                    have HI2 : Hid (∀ j g, j < k + 1 → l[j]? = some g → refF (l.take j) g = 0) := Lib.hid fun j g hj hg => by
                      rcases Nat.lt_or_ge j k with h1 | h1
                      · exact I.out j g h1 hg
                      · obtain rfl : j = k := by omega
                        rw [HX.out] at hg
                        cases hg
                        exact refF_zero HC.out HLX.out hcl
                    clear hcl HE hbq
                    go_wp2_with fail
                    go_roundw
                    case rel => exact ⟨k + 1, by omega, by go_num, HBQ.out, HI2⟩
                    case measure => simp [intOf]; omega
                · subst he
                  have HR : Hid (refF (l.take i) (p, m, d) = 11) := Lib.hid (by unfold refF; rw [if_neg (by rw [HC.out]; simp), if_neg (by rw [HLX.out]; simp), if_pos hcl])
                  have HV : Hid (chkF l = some (i, 11)) := Lib.hid (by have := chkF_bad HL.out I.out HX.out (by rw [HR.out]; decide); rw [this, HR.out])
                  clear hcl HE hbq
                  by_cases hz : (k : Int) < (i : Int)
                  all_goals
                    go_wp2_with fail
                    refine (refAt_gen bFile i 11 _).mono ?_
                    rintro e w4 ⟨g, rfl, hg, hgl, b4⟩
                    have B4 := Lib.hid (HBQ.out.trans (b4.mono HBQ.out.size))
                    have K4 := GG.out w4 B4.out
                    have hkl := K4.lt
                    have c0 := K4.cell 0
                    have c1 := K4.cell 1
                    have f0 := K4.frozen 0
                    have f1 := K4.frozen 1
                    have HK := Lib.hid K4
                    have Hg := Lib.hid hg
                    have Hne := Lib.hid (K4.ne_ hg (by decide))
                    have HB4 := Lib.hid (HB1.out.trans (B4.out.mono b1s))
                    have HGl := Lib.hid (show w.heap.size ≤ g by have := HBQ.out.size; omega)
                    clear hg b4 K4
                    go_wp2_with fail
                    refine bodyPost_ret (results_cell_row (fn := Tryz.f12) rfl _ _ G 36 #[.slice (some ⟨g, 0, none⟩) 1 1, .int .i64 (11)] (0, 0) _ rfl (by first | exact (HK.out.set_ 0 _).set_ 1 _ | simpa using (HK.out.set_ 0 _).set_ 1 _) Tryz.underlying36 rfl (by kernel_rfl)) rfl (.inr ⟨i, 11, g, HV.out, rfl, HGl.out, (Hg.out.far (fun e => Hne.out e.symm) _).far (fun e => Hne.out e.symm) _, (HB4.out.setCell (p := ⟨G, 0, none⟩) hgs _).setCell (p := ⟨G, 1, none⟩) hgs _⟩)
            · have hls : Op.bytesLess y.1.toList p.toList = false := by rw [hlc]; exact decide_eq_false hcb
              have HR : Hid (refF (l.take i) (p, m, d) = 6) := Lib.hid (by unfold refF; rw [if_neg (by rw [HC.out]; simp), if_pos (by rw [HLT.out]; exact decide_eq_true (by omega))])
              clear hlc hcb HLT
              go_wp2_with fail
              go_quiet (fail)
              obtain ⟨w3, hw3⟩ : ∃ w3, w3 = w2.drewN nq := ⟨_, rfl⟩
              have B3 := Lib.hid (show Below W1.heap.size W1 w3 by rw [hw3]; exact below_drewN B2.out nq)
              rw [← hw3]
              clear hw3 e0 d0
              have HV : Hid (chkF l = some (i, 6)) := Lib.hid (by have := chkF_bad HL.out I.out HX.out (by rw [HR.out]; decide); rw [this, HR.out])
              go_wp2_with fail
              go_loopw [4, 5] (fun s4 s5 wq => s4 = .int .i64 6 ∧ s5 = .int .i64 0 ∧ wq = w3) (fun _ _ _ => 0)
              case atStart => exact ⟨rfl, rfl, rfl⟩
              case round =>
                obtain ⟨rfl, rfl, rfl⟩ := hrel
                go_wp2_with fail
                refine (refAt_gen bFile i 6 _).mono ?_
                rintro e w4 ⟨g, rfl, hg, hgl, b4⟩
                have B4 := Lib.hid (B3.out.trans (b4.mono B3.out.size))
                have K4 := GG.out w4 B4.out
                have hkl := K4.lt
                have c0 := K4.cell 0
                have c1 := K4.cell 1
                have f0 := K4.frozen 0
                have f1 := K4.frozen 1
                have HK := Lib.hid K4
                have Hg := Lib.hid hg
                have Hne := Lib.hid (K4.ne_ hg (by decide))
                have HB4 := Lib.hid (HB1.out.trans (B4.out.mono b1s))
                have HGl := Lib.hid (show w.heap.size ≤ g by have := B3.out.size; omega)
                clear hg b4 K4
                go_wp2_with fail
                refine bodyPost_ret (results_cell_row (fn := Tryz.f12) rfl _ _ G 36 #[.slice (some ⟨g, 0, none⟩) 1 1, .int .i64 (6)] (0, 0) _ rfl (by first | exact (HK.out.set_ 0 _).set_ 1 _ | simpa using (HK.out.set_ 0 _).set_ 1 _) Tryz.underlying36 rfl (by kernel_rfl)) rfl (.inr ⟨i, 6, g, HV.out, rfl, HGl.out, (Hg.out.far (fun e => Hne.out e.symm) _).far (fun e => Hne.out e.symm) _, (HB4.out.setCell (p := ⟨G, 0, none⟩) hgs _).setCell (p := ⟨G, 1, none⟩) hgs _⟩)
        · have hce : (causeF (p, m, d) == 0) = false := by simpa using hc0
          have hce2 : (causeF (p, m, d) != 0) = true := by simpa using hc0
          have HR : Hid (refF (l.take i) (p, m, d) = causeF (p, m, d)) := Lib.hid (by unfold refF; rw [if_pos hc0])
          have HV : Hid (chkF l = some (i, causeF (p, m, d))) := Lib.hid (by have := chkF_bad HL.out I.out HX.out (by rw [HR.out]; exact hc0); rw [this, HR.out])
          obtain ⟨cz, hcz⟩ : ∃ cz, cz = causeF (p, m, d) := ⟨_, rfl⟩
          rw [← hcz] at hce hce2 HV ⊢
          clear hcz hc0 HR
          go_wp2_with fail
          go_quiet (fail)
          obtain ⟨w3, hw3⟩ : ∃ w3, w3 = w2.drewN nq := ⟨_, rfl⟩
          have B3 := Lib.hid (show Below W1.heap.size W1 w3 by rw [hw3]; exact below_drewN B2.out nq)
          rw [← hw3]
          clear hw3 e0
          go_wp2_with fail
          go_loopw [4, 5] (fun s4 s5 wq => s4 = .int .i64 cz ∧ s5 = .int .i64 0 ∧ wq = w3) (fun _ _ _ => 0)
          case atStart => exact ⟨rfl, rfl, rfl⟩
          case round =>
            obtain ⟨rfl, rfl, rfl⟩ := hrel
            by_cases hz : (0 : Int) < (i : Int)
            all_goals
              go_wp2_with fail
              refine (refAt_gen bFile i cz _).mono ?_
              rintro e w4 ⟨g, rfl, hg, hgl, b4⟩
              have B4 := Lib.hid (B3.out.trans (b4.mono B3.out.size))
              have K4 := GG.out w4 B4.out
              have hkl := K4.lt
              have c0 := K4.cell 0
              have c1 := K4.cell 1
              have f0 := K4.frozen 0
              have f1 := K4.frozen 1
              have HK := Lib.hid K4
              have Hg := Lib.hid hg
              have Hne := Lib.hid (K4.ne_ hg (by decide))
              have HB4 := Lib.hid (HB1.out.trans (B4.out.mono b1s))
              have HGl := Lib.hid (show w.heap.size ≤ g by have := B3.out.size; omega)
              clear hg b4 K4
              go_wp2_with fail
              refine bodyPost_ret (results_cell_row (fn := Tryz.f12) rfl _ _ G 36 #[.slice (some ⟨g, 0, none⟩) 1 1, .int .i64 (cz)] (0, 0) _ rfl (by first | exact (HK.out.set_ 0 _).set_ 1 _ | simpa using (HK.out.set_ 0 _).set_ 1 _) Tryz.underlying36 rfl (by kernel_rfl)) rfl (.inr ⟨i, cz, g, HV.out, rfl, HGl.out, (Hg.out.far (fun e => Hne.out e.symm) _).far (fun e => Hne.out e.symm) _, (HB4.out.setCell (p := ⟨G, 0, none⟩) hgs _).setCell (p := ⟨G, 1, none⟩) hgs _⟩)
      · obtain rfl : i = l.length := by omega
        have HV : Hid (chkF l = none) := Lib.hid (chkF_good HL.out fun i f hf => I.out i f (List.getElem?_eq_some_iff.1 hf).1 hf)
        have K2 := GG.out wr hb
        have hkl := K2.lt
        have c0 := K2.cell 0
        have c1 := K2.cell 1
        have f0 := K2.frozen 0
        have f1 := K2.frozen 1
        have HK := Lib.hid K2
        have HB2 := Lib.hid (HB1.out.trans (hb.mono b1s))
        clear K2 hb
        go_wp2_with fail
        refine bodyPost_ret (results_cell_row (fn := Tryz.f12) rfl _ _ G 36 #[.slice none 0 0, .int .i64 0] (0, 0) _ rfl (by first | exact (HK.out.set_ 0 _).set_ 1 _ | simpa using (HK.out.set_ 0 _).set_ 1 _) Tryz.underlying36 rfl (by kernel_rfl)) rfl (.inl ⟨HV.out, rfl, (HB2.out.setCell (p := ⟨G, 0, none⟩) hgs _).setCell (p := ⟨G, 1, none⟩) hgs _⟩)
end Go.Proofs.YtplleaimmmanhaaGreatDoor
namespace Go.Proofs.YtplleaimmmanhaaGreatDoor
open Go Go.RowKit

def TrueTo (w : World) (e : Ending) (w' : World) : Prop := e = .returned (.bool true) ∧ Below w.heap.size w w'
set_option maxHeartbeats 1000000 in
theorem tells_none (w : World) : Calls Tryz.prog 10 #[.nilIface, .agg #[.slice none 0 0, .int .i64 0]] w (TrueTo w) := by
  go_enter Tryz.func10, Tryz.ntmps10
  go_wp2_with fail
  go_ret
  exact ⟨rfl, (Below.refl _ _).alloc (Nat.le_refl _) _⟩
theorem chk_15 (l : List UInt8) : chk l = 0 ∨ chk l = 4 ∨ chk l = 5 := by
  unfold chk
  split
  · exact .inr (.inl rfl)
  · split
    · exact .inr (.inr rfl)
    · split
      · exact .inl rfl
      · exact .inr (.inr rfl)
theorem causeF_cases (f : Fl) : causeF f = 0 ∨ causeF f = 1 ∨ causeF f = 4 ∨ causeF f = 5 := by
  unfold causeF
  rcases chk_15 f.1.data.toList with h | h | h
  · rw [h]; simp only [ne_eq, not_true_eq_false, if_false]
    split
    · exact .inr (.inl rfl)
    · split
      · exact .inr (.inr (.inl rfl))
      · exact .inl rfl
  · rw [h]; exact .inr (.inr (.inl rfl))
  · rw [h]; exact .inr (.inr (.inr rfl))
theorem refF_14 {a : List Fl} {f : Fl} (h : refF a f ≠ 0) : To14 (refF a f) := by
  unfold refF at *
  rcases causeF_cases f with hc | hc | hc | hc
  · rw [hc] at h ⊢
    simp only [ne_eq, not_true_eq_false, if_false] at h ⊢
    split
    · exact to14 (by decide) (by decide)
    · split
      · exact to14 (by decide) (by decide)
      · rename_i h1 h2; rw [if_neg h1, if_neg h2] at h; exact absurd rfl h
  all_goals
    rw [if_pos (by rw [hc]; decide), hc]
    exact to14 (by decide) (by decide)
theorem wrongF_14 : ∀ (a r : List Fl) {i : Nat} {k : Int}, wrongF a r = some (i, k) → To14 k ∧ i < a.length + r.length
  | _, [], _, _, h => by simp [wrongF] at h
  | a, f :: r, i, k, h => by
    unfold wrongF at h
    by_cases hr : refF a f = 0
    · rw [if_neg (by rw [hr]; simp)] at h
      have := wrongF_14 (a ++ [f]) r h
      refine ⟨this.1, ?_⟩
      have h2 := this.2
      simp at h2 ⊢; omega
    · rw [if_pos hr] at h
      cases h
      exact ⟨refF_14 hr, by simp⟩
theorem chkF_14 {l : List Fl} {i : Nat} {k : Int} (h : chkF l = some (i, k)) : To14 k ∧ i ≤ 64 := by
  unfold chkF at h
  by_cases hl : 64 < l.length
  · rw [if_pos hl] at h; cases h; exact ⟨to14 (by decide) (by decide), Nat.le_refl _⟩
  · rw [if_neg hl] at h
    have := wrongF_14 [] l h
    refine ⟨this.1, ?_⟩
    have h2 := this.2
    simp at h2; omega
theorem dg_small (n : Nat) : (dg n).size ≤ 100 := by have := dg_size n; omega

/-- What the two checks of one tree say is the same. -/
theorem tells_check (w : World) (l : List Fl) (e e2 : Value) (hE : ErrType w) (he : (chkF l = none ∧ e = .nilIface) ∨ ∃ (i : Nat) (k : Int) (F : Nat), chkF l = some (i, k) ∧ e = .iface 89 (.pointer (some ⟨F, 0, none⟩)) ∧ FaultOf F bFile i k w)
    (he2 : (chkF l = none ∧ e2 = .agg #[.slice none 0 0, .int .i64 0]) ∨ ∃ (i : Nat) (k : Int) (g : Nat), chkF l = some (i, k) ∧ e2 = wrongG g k ∧ Blk w g 95 #[.string bFile, .int .i64 i]) :
    Calls Tryz.prog 10 #[e, e2] w (TrueTo w) := by
  rcases he with ⟨h1, rfl⟩ | ⟨i, k, F, h1, rfl, hF⟩
  · rcases he2 with ⟨_, rfl⟩ | ⟨i, k, g, h2, _⟩
    · exact tells_none w
    · rw [h1] at h2; cases h2
  · rcases he2 with ⟨h2, _⟩ | ⟨i', k', g, h2, rfl, hg⟩
    · rw [h1] at h2; cases h2
    · rw [h1] at h2
      cases h2
      have h14 := chkF_14 h1
      exact tells_says w F g bFile (dg i) i k hF hg (by decide) (dg_small i) h14.1 hE (fun W => itoa_64 i h14.2 W) (fun W => decimal_64 i h14.2 W)
end Go.Proofs.YtplleaimmmanhaaGreatDoor
namespace Go.Proofs.YtplleaimmmanhaaGreatDoor
open Go.RowKit

set_option maxRecDepth 100000 in
set_option maxHeartbeats 4000000 in
theorem put_any (w : World) (v : Value) (l : List Fl) (f : Fl) (h : Reads 3 cF w v l) (hr : RiseF l) (hl : l.length ≤ 10000) :
    Calls Tryz.prog 17 #[v, .agg #[.string f.1, .int .i64 f.2.1, .string f.2.2]] w (OwnTo 25 3 cF (putF l f) w) := by
  obtain ⟨p, m, d⟩ := f
  obtain ⟨W1, hW1⟩ : ∃ W1, W1 = w.alloc (.cells #[.string p, .int .i64 m, .string d] 25) := ⟨_, rfl⟩
  have B1 : Below w.heap.size w W1 := by rw [hW1]; exact (Below.refl _ _).alloc (Nat.le_refl _) _
  obtain ⟨G, hG⟩ : ∃ G, G = w.heap.size := ⟨_, rfl⟩
  have K1 : W1.heap[G]? = some (.cells #[.string p, .int .i64 m, .string d] 25 (0, 0)) := by rw [hW1, hG]; exact heap_alloc_new w _
  have R1 := h.below B1
  have FN := Lib.hid (find_any W1 v l p R1 hr (by omega))
  obtain ⟨A, c, rfl⟩ := h.form
  have hlen := h.len
  have d0 := cell_of_row W1 G 0 _ 25 (0, 0) K1
  have HR1 := Lib.hid R1
  have HB1 := Lib.hid B1
  have HRI := Lib.hid hr
  have HK := Lib.hid K1
  have B1s := B1.size
  clear h R1 hr B1 K1
  go_enter Tryz.func17, Tryz.ntmps17
  go_wp2_with fail
  rw [← hW1, ← hG]
  clear hW1
  have HG := Lib.hid hG
  clear hG
  refine FN.out.mono ?_
  rintro e w2 ⟨i, b, rfl, b2, hi, hs, h1, h2⟩
  have R2 := Lib.hid (HR1.out.below b2)
  have hGl : G < W1.heap.size := (Array.getElem?_eq_some_iff.1 HK.out).1
  have K2 : w2.heap[G]? = some (.cells #[.string p, .int .i64 m, .string d] 25 (0, 0)) := (b2.block G hGl).trans HK.out
  have z0 : w2.drew.cell? ⟨G, 0, none⟩ = some (.string p) ∧ w2.drew.cell? ⟨G, 1, none⟩ = some (.int .i64 m) ∧ w2.drew.cell? ⟨G, 2, none⟩ = some (.string d) :=
    ⟨cell_of_row w2 G 0 _ 25 (0, 0) K2, cell_of_row w2 G 1 _ 25 (0, 0) K2, cell_of_row w2 G 2 _ 25 (0, 0) K2⟩
  have ZZ := Lib.hid fun W (hW : Below w2.heap.size w2 W) => (show W.cell? ⟨G, 0, none⟩ = some (.string p) ∧ W.cell? ⟨G, 1, none⟩ = some (.int .i64 m) ∧ W.cell? ⟨G, 2, none⟩ = some (.string d) from
    ⟨cell_of_row W G 0 _ 25 (0, 0) ((hW.block G (Array.getElem?_eq_some_iff.1 K2).1).trans K2), cell_of_row W G 1 _ 25 (0, 0) ((hW.block G (Array.getElem?_eq_some_iff.1 K2).1).trans K2), cell_of_row W G 2 _ 25 (0, 0) ((hW.block G (Array.getElem?_eq_some_iff.1 K2).1).trans K2)⟩)
  have BB := Lib.hid fun (o1 o2 : Obj) (W : World) (hW : Below ((w2.alloc o1).alloc o2).drew.heap.size ((w2.alloc o1).alloc o2).drew W) => (show Below w2.heap.size w2 W from Below.trans ((((Below.refl _ _).alloc (Nat.le_refl _) _).alloc (by simp) _).drew) (hW.mono (by simp; omega)))
  have B2 := Lib.hid (HB1.out.trans (b2.mono B1s))
  have hGw : G < w2.heap.size := (Array.getElem?_eq_some_iff.1 K2).1
  have i0 : (0 : Int) ≤ (i : Int) := Int.natCast_nonneg _
  have hic : i ≤ c := by omega
  have hi1 : (i : Int) ≤ (l.length : Int) := by omega
  have hi2 : (i : Int) ≤ (c : Int) := by omega
  have hcm : c ≤ 9223372036854775807 := by have := hlen.2.2; unfold maxLen at this; omega
  clear FN K2 b2 d0 HR1 HK hGl
  cases b with
  | false =>
    have HP := Lib.hid (put_none (f := (p, m, d)) hs (h2 rfl))
    have CT := Lib.hid (put_core w2 A c l p d m i i R2.out (Nat.le_refl i) hi (by omega))
    by_cases hci : c = i
    · rw [if_pos hci] at CT
      have hct : (c = i) = True := eq_true hci
      clear hci
      clear h1 h2 hs
      go_wp2_with fail
      go_region_held3 (fun w' => w'.cell? ⟨G, 0, none⟩ = some (.string p) ∧ w'.cell? ⟨G, 1, none⟩ = some (.int .i64 m) ∧ w'.cell? ⟨G, 2, none⟩ = some (.string d)) (first | exact z0 | exact z5 | exact ZZ.out _ (((Below.refl _ _).alloc (Nat.le_refl _) _).drew) | exact ZZ.out _ ((((Below.refl _ _).alloc (Nat.le_refl _) _).alloc (by simp) _).drew))
        ((go_at_call 53; refine (CT.out (World.drew _) (fun _ => rfl)).mono ?_; rintro e w5 ⟨v5, rfl, o5, b5⟩; have b6 := BB.out _ _ _ b5; have z5 := ZZ.out _ b6))
      have B6 := Lib.hid (B2.out.trans (b6.mono B2.out.size))
      have O6 := Lib.hid (own_base o5 (B' := w.heap.size) (by have := B2.out.size; simp; omega))
      clear o5 b5 b6 z0 z5
      go_wp2_with fail
      go_ret
      exact ⟨_, rfl, by rw [HP.out]; exact O6.out, B6.out⟩
    · rw [if_neg hci] at CT
      clear h1 h2 hs
      go_wp2_with fail
      go_region_held3 (fun w' => w'.cell? ⟨G, 0, none⟩ = some (.string p) ∧ w'.cell? ⟨G, 1, none⟩ = some (.int .i64 m) ∧ w'.cell? ⟨G, 2, none⟩ = some (.string d)) (first | exact z0 | exact z5 | exact ZZ.out _ (((Below.refl _ _).alloc (Nat.le_refl _) _).drew) | exact ZZ.out _ ((((Below.refl _ _).alloc (Nat.le_refl _) _).alloc (by simp) _).drew))
        ((go_at_call 53; refine (CT.out (World.drew _) (fun _ => rfl)).mono ?_; rintro e w5 ⟨v5, rfl, o5, b5⟩; have b6 := BB.out _ _ _ b5; have z5 := ZZ.out _ b6))
      have B6 := Lib.hid (B2.out.trans (b6.mono B2.out.size))
      have O6 := Lib.hid (own_base o5 (B' := w.heap.size) (by have := B2.out.size; simp; omega))
      clear o5 b5 b6 z0 z5
      go_wp2_with fail
      go_ret
      exact ⟨_, rfl, by rw [HP.out]; exact O6.out, B6.out⟩
  | true =>
    obtain ⟨g, hg, hgf⟩ := h1 rfl
    have hil := (List.getElem?_eq_some_iff.1 hg).1
    have HP := Lib.hid (put_some (f := (p, m, d)) HRI.out hs hg hgf)
    have CT := Lib.hid (put_core w2 A c l p d m i (i + 1) R2.out (Nat.le_succ i) hil (by omega))
    have hw1 : IntKind.i64.wrap ((i : Int) + 1) = (i : Int) + 1 := by rw [IntKind.wrap_i64] <;> omega
    have htn : ((i : Int) + 1).toNat = i + 1 := by omega
    have hj0 : (0 : Int) ≤ (i : Int) + 1 := by omega
    have hj1 : (i : Int) + 1 ≤ (l.length : Int) := by omega
    have hj2 : (i : Int) + 1 ≤ (c : Int) := by omega
    clear hg hgf
    by_cases hci : c = i + 1
    · rw [if_pos hci] at CT
      have hct : (c = i + 1) = True := eq_true hci
      clear hci
      clear h1 h2 hs
      go_wp2_with fail
      go_region_held3 (fun w' => w'.cell? ⟨G, 0, none⟩ = some (.string p) ∧ w'.cell? ⟨G, 1, none⟩ = some (.int .i64 m) ∧ w'.cell? ⟨G, 2, none⟩ = some (.string d)) (first | exact z0 | exact z5 | exact ZZ.out _ (((Below.refl _ _).alloc (Nat.le_refl _) _).drew) | exact ZZ.out _ ((((Below.refl _ _).alloc (Nat.le_refl _) _).alloc (by simp) _).drew))
        ((go_at_call 53; refine (CT.out (World.drew _) (fun _ => rfl)).mono ?_; rintro e w5 ⟨v5, rfl, o5, b5⟩; have b6 := BB.out _ _ _ b5; have z5 := ZZ.out _ b6))
      have B6 := Lib.hid (B2.out.trans (b6.mono B2.out.size))
      have O6 := Lib.hid (own_base o5 (B' := w.heap.size) (by have := B2.out.size; simp; omega))
      clear o5 b5 b6 z0 z5
      go_wp2_with fail
      go_ret
      exact ⟨_, rfl, by rw [HP.out]; exact O6.out, B6.out⟩
    · rw [if_neg hci] at CT
      clear h1 h2 hs
      go_wp2_with fail
      go_region_held3 (fun w' => w'.cell? ⟨G, 0, none⟩ = some (.string p) ∧ w'.cell? ⟨G, 1, none⟩ = some (.int .i64 m) ∧ w'.cell? ⟨G, 2, none⟩ = some (.string d)) (first | exact z0 | exact z5 | exact ZZ.out _ (((Below.refl _ _).alloc (Nat.le_refl _) _).drew) | exact ZZ.out _ ((((Below.refl _ _).alloc (Nat.le_refl _) _).alloc (by simp) _).drew))
        ((go_at_call 53; refine (CT.out (World.drew _) (fun _ => rfl)).mono ?_; rintro e w5 ⟨v5, rfl, o5, b5⟩; have b6 := BB.out _ _ _ b5; have z5 := ZZ.out _ b6))
      have B6 := Lib.hid (B2.out.trans (b6.mono B2.out.size))
      have O6 := Lib.hid (own_base o5 (B' := w.heap.size) (by have := B2.out.size; simp; omega))
      clear o5 b5 b6 z0 z5
      go_wp2_with fail
      go_ret
      exact ⟨_, rfl, by rw [HP.out]; exact O6.out, B6.out⟩
end Go.Proofs.YtplleaimmmanhaaGreatDoor
namespace Go.Proofs.YtplleaimmmanhaaGreatDoor
open Go.RowKit

/-- The cells of a difference. -/
def whB (n : Int) : ByteArray := ⟨#[UInt8.ofNat n.toNat]⟩
def cD (x : Dl) : List Value := [.string x.1, .string (whB x.2)]
theorem cD_len (x : Dl) : (cD x).length = 2 := rfl
theorem deltaInfo : (Tryz.prog.info? 84).map (fun i => (i.zero, i.size, i.bytes)) = some (some (.agg #[.string ⟨#[]⟩, .string ⟨#[]⟩]), 2, 32) := by kernel_rfl
theorem pathsR_two (v u : Value) (a b : List Fl) : nrm (pathsR [(v, a), (u, b)]) = paths2 a b := by simp [pathsR, paths2]
theorem trees_two {w : World} {v u : Value} {a b : List Fl} (h : Reads 3 cF w v a) (g : Reads 3 cF w u b) : Trees (w.alloc (.cells #[v, u] 23)) ⟨w.heap.size, 0, none⟩ [(v, a), (u, b)] := fun i r hr => by
  match i, hr with
  | 0, hr => obtain rfl := Option.some.inj hr; exact ⟨cell_of_row _ _ 0 _ 23 (0, 0) (heap_alloc_new w _), h.alloc _⟩
  | 1, hr => obtain rfl := Option.some.inj hr; exact ⟨cell_of_row _ _ 1 _ 23 (0, 0) (heap_alloc_new w _), g.alloc _⟩
  | i + 2, hr => simp at hr
/-- files.Paths of two trees. -/
theorem paths_two (w : World) (v u : Value) (a b : List Fl) (h : Reads 3 cF w v a) (g : Reads 3 cF w u b) (ha : a.length ≤ 10000) (hb : b.length ≤ 10000) :
    Calls Tryz.prog 43 #[.slice (some ⟨w.heap.size, 0, none⟩) 2 2] (w.alloc (.cells #[v, u] 23)) (TextsTo (paths2 a b) (w.alloc (.cells #[v, u] 23))) := by
  have := paths_any _ ⟨w.heap.size, 0, none⟩ 2 [(v, a), (u, b)] (trees_two h g) (by simp) (by simp [pathsR]; omega)
  rw [pathsR_two] at this
  exact this
theorem isSome_of {a b : List Fl} {p : ByteArray} (h : p ∈ paths2 a b) (hn : (getF a p).isSome = false) : (getF b p).isSome = true := by
  rw [paths2_mem] at h
  have key : ∀ {l : List Fl}, p ∈ l.map (·.1) → (getF l p).isSome = true := fun {l} hm => by
    obtain ⟨f, hf, he⟩ := List.mem_map.1 hm
    unfold getF
    rw [List.find?_isSome]
    exact ⟨f, hf, by simpa using he⟩
  rcases h with h | h
  · rw [key h] at hn; cases hn
  · exact key h
theorem unl_add {x y : Option Fl} (h1 : x.isSome = false) (h2 : y.isSome = true) : unl x y = 65 := by cases x <;> cases y <;> simp_all [unl]
theorem unl_del {x y : Option Fl} (h1 : x.isSome = true) (h2 : y.isSome = false) : unl x y = 68 := by cases x <;> cases y <;> simp_all [unl]
theorem unl_yes {x y : Option Fl} (h1 : x.isSome = true) (h2 : y.isSome = true) (h : flZ x = flZ y) : unl x y = 32 := by cases x <;> cases y <;> simp_all [unl, flZ]
theorem unl_mod {x y : Option Fl} (h1 : x.isSome = true) (h2 : y.isSome = true) (h : flZ x ≠ flZ y) : unl x y = 77 := by cases x <;> cases y <;> simp_all [unl, flZ]

set_option maxRecDepth 100000 in
set_option maxHeartbeats 8000000 in
theorem diff_any (w : World) (v u : Value) (a b : List Fl) (h : Reads 3 cF w v a) (g : Reads 3 cF w u b) (ra : RiseF a) (rb : RiseF b) (ha : a.length ≤ 10000) (hb : b.length ≤ 10000) :
    Calls Tryz.prog 42 #[v, u] w (OwnTo 84 2 cD (diffF a b) w) := by
  have PT := Lib.hid (paths_two w v u a b h g ha hb)
  have HD := Lib.hid (show diffF a b = diffOf (fun p => unl (getF a p) (getF b p)) (paths2 a b) from rfl)
  have HI := Lib.hid fun p (hp : p ∈ paths2 a b) => @isSome_of a b p hp
  have G1 := Lib.hid fun W (hW : Below w.heap.size w W) p => get_any W v a p (h.below hW) ra (by omega)
  have G2 := Lib.hid fun W (hW : Below w.heap.size w W) p => get_any W u b p (g.below hW) rb (by omega)
  have LP := paths2_len a b
  obtain ⟨A, c, rfl⟩ := h.form
  obtain ⟨A2, c2, rfl⟩ := g.form
  obtain ⟨ps, hps⟩ : ∃ ps, ps = paths2 a b := ⟨_, rfl⟩
  obtain ⟨fL, hfL⟩ : ∃ f, f = fun p => unl (getF a p) (getF b p) := ⟨_, rfl⟩
  have FP := Lib.hid (show ∀ p, fL p = unl (getF a p) (getF b p) from fun p => by rw [hfL])
  rw [← hps] at PT HD HI LP
  rw [← hfL] at HD
  obtain ⟨i0, hi, hz0, hz1, hz2⟩ := info_parts deltaInfo
  have hpm : ps.length ≤ 20000 := by omega
  have B1 : Below w.heap.size w (w.alloc (.cells #[.slice A a.length c, .slice A2 b.length c2] 23)) := (Below.refl _ _).alloc (Nat.le_refl _) _
  clear h g ra rb hps hfL LP
  go_enter Tryz.func42, Tryz.ntmps42
  go_wp2_with fail
  refine PT.out.mono ?_
  rintro e w1 ⟨v1, rfl, o1, b1⟩
  have B2 := Lib.hid (B1.trans (b1.mono B1.size))
  have RP := Lib.hid (Strs.of_own o1 rfl)
  obtain ⟨A1, c1, rfl⟩ := own_form o1
  clear o1 b1 PT B1
  go_wp2_with fail
  obtain ⟨wo, hwo⟩ : ∃ wo, wo = w1 := ⟨_, rfl⟩
  subst hwo
  go_loopw [5, 17] (fun s5 s17 wr => ∃ (k : Nat) (acc : List Dl), k ≤ ps.length ∧ s17 = .int .i64 k ∧ Hid (acc = diffOf fL (ps.take k)) ∧ Hid (wr.ownsRow wo.heap.size 84 2 s5 acc.length (acc.flatMap cD)) ∧ Below wo.heap.size wo wr) (fun _ s17 _ => ps.length - (intOf s17).toNat)
  case atStart => exact ⟨0, [], Nat.zero_le _, rfl, Lib.hid rfl, Lib.hid (World.ownsRow_nil _ _ _ _), Below.refl _ _⟩
  case round =>
    obtain ⟨k, acc, hk, rfl, hacc, hown, hb⟩ := hrel
    by_cases hlt : k < ps.length
    · obtain ⟨ad, p, rfl, hp, c0⟩ := strs_at RP.out hlt
      have c0' := (hb.cell (World.block_lt_of_cell? _ _ c0)).trans c0
      have HT := Lib.hid (show diffOf fL (ps.take (k + 1)) = acc ++ (if fL p ≠ 32 then [(p, fL p)] else []) by rw [take_snoc hp, diffOf_snoc, hacc.out])
      have hsl : acc.length ≤ 20000 := by
        rw [hacc.out]
        exact Nat.le_trans (diffOf_len _ _) (by rw [List.length_take]; omega)
      have HIp := Lib.hid (HI.out p (List.mem_of_getElem? hp))
      have hbs := hb.size
      have BW := Lib.hid (B2.out.trans (hb.mono B2.out.size))
      have GA := Lib.hid (G1.out wr BW.out p)
      have GB := Lib.hid fun W (hW : Below wr.heap.size wr W) => G2.out W (BW.out.trans (hW.mono BW.out.size)) p
      have FPp := Lib.hid (FP.out p)
      obtain ⟨oa, hoa⟩ : ∃ o, o = getF a p := ⟨_, rfl⟩
      obtain ⟨ob, hob⟩ : ∃ o, o = getF b p := ⟨_, rfl⟩
      rw [← hoa] at GA FPp HIp
      rw [← hob] at GB FPp HIp
      unfold Got at GA GB
      simp only [gotV_flZ] at GA GB
      obtain ⟨x, hx⟩ : ∃ x, x = flZ oa := ⟨_, rfl⟩
      obtain ⟨y, hy⟩ : ∃ y, y = flZ ob := ⟨_, rfl⟩
      obtain ⟨xa, hxa⟩ : ∃ q, q = oa.isSome := ⟨_, rfl⟩
      obtain ⟨xb, hxb⟩ : ∃ q, q = ob.isSome := ⟨_, rfl⟩
      have HX := Lib.hid hx
      have HY := Lib.hid hy
      have HXA := Lib.hid hxa
      have HXB := Lib.hid hxb
      rw [← hx, ← hxa] at GA
      rw [← hy, ← hxb] at GB
      obtain ⟨x1, x2, x3⟩ := x
      obtain ⟨y1, y2, y3⟩ := y
      have k0 : (0 : Int) ≤ (k : Int) := Int.natCast_nonneg _
      have k1 : (k : Int) < (ps.length : Int) := by omega
      clear hp c0 hoa hob hx hy hxa hxb hacc
      go_wp2_with fail
      refine GA.out.mono ?_
      rintro e w2 ⟨rfl, b2⟩
      have b2' := b2.alloc b2.size (.cells #[.string x1, .int .i64 x2, .string x3] 25)
      go_wp2_with fail
      refine (GB.out _ b2').mono ?_
      rintro e w3 ⟨rfl, b3⟩
      have K1 := (b3.block w2.heap.size (by simp)).trans (heap_alloc_new w2 (.cells #[.string x1, .int .i64 x2, .string x3] 25))
      have B3 := b2'.trans (b3.mono b2'.size)
      have hlt2 : w2.heap.size + 1 ≤ w3.heap.size := by simpa using b3.size
      obtain ⟨g, hg⟩ : ∃ g, g = w2.heap.size := ⟨_, rfl⟩
      rw [← hg] at K1 hlt2
      have d0 := cell_of_row w3 g 0 _ 25 (0, 0) K1
      have d1 := cell_of_row w3 g 1 _ 25 (0, 0) K1
      have d2 := cell_of_row w3 g 2 _ 25 (0, 0) K1
      have B4 := hb.trans (B3.mono hbs)
      have Ob := Lib.hid (own_keep hown.out B3)
      have B4s := B4.size
      have hcl : g < w3.heap.size := by omega
      rw [← hg]
      clear K1 B3 b2 b2' b3 hlt2 hown hb hbs c0' GA GB hg
      cases xa with
      | false =>
        have HV := Lib.hid (show fL p = 65 from FPp.out.trans (unl_add HXA.out.symm (HIp.out HXA.out.symm)))
        clear HX HY
        have HK := Lib.hid (show diffOf fL (ps.take (k + 1)) = acc ++ [(p, 65)] by rw [HT.out, if_pos (by rw [HV.out]; decide), HV.out])
        have own4 := (Ob.out.alloc (.cells #[.string y1, .int .i64 y2, .string y3] 25)).alloc (.cells #[.string p, .string ⟨#[65]⟩] 84)
        have news4 := news_one (w3.alloc (.cells #[.string y1, .int .i64 y2, .string y3] 25)) #[.string p, .string ⟨#[65]⟩] 84 (w3.heap.size + 1) (by simp)
        go_wp2_with (at_builtin; refine wpList_append_own _ rfl _ _ 80 rfl wo.heap.size 84 i0 (.agg #[.string ⟨#[]⟩, .string ⟨#[]⟩]) 2 32 Tryz.underlying80 hi hz0 hz1 hz2 rfl (by decide) _ _ _ rfl own4 ⟨w3.heap.size + 1, 0, none⟩ 1 1 [.string p, .string ⟨#[65]⟩] rfl rfl news4 (by simp [Value.oneCell']) (by unfold maxLen; omega) (by omega) (by simp; omega) ?_; intro v5 w5 own5 hg5 _)
        have b5 : Below wo.heap.size wo w5 := ((B4.alloc B4s _).alloc (by simp; omega) _).grown hg5 (by simp; omega) (fun k hk => (Ob.out.lt k hk).1)
        clear news4 own4 hg5
        go_roundw
        case rel => exact ⟨k + 1, acc ++ [(p, 65)], by omega, by go_num, Lib.hid HK.out.symm, Lib.hid (by rw [List.length_append, flat_snoc]; exact own5), b5⟩
        case measure => simp [intOf]; omega
      | true =>
        cases xb with
        | false =>
          have HV := Lib.hid (show fL p = 68 from FPp.out.trans (unl_del HXA.out.symm HXB.out.symm))
          clear HX HY
          have HK := Lib.hid (show diffOf fL (ps.take (k + 1)) = acc ++ [(p, 68)] by rw [HT.out, if_pos (by rw [HV.out]; decide), HV.out])
          have own4 := (Ob.out.alloc (.cells #[.string y1, .int .i64 y2, .string y3] 25)).alloc (.cells #[.string p, .string ⟨#[68]⟩] 84)
          have news4 := news_one (w3.alloc (.cells #[.string y1, .int .i64 y2, .string y3] 25)) #[.string p, .string ⟨#[68]⟩] 84 (w3.heap.size + 1) (by simp)
          go_wp2_with (at_builtin; refine wpList_append_own _ rfl _ _ 80 rfl wo.heap.size 84 i0 (.agg #[.string ⟨#[]⟩, .string ⟨#[]⟩]) 2 32 Tryz.underlying80 hi hz0 hz1 hz2 rfl (by decide) _ _ _ rfl own4 ⟨w3.heap.size + 1, 0, none⟩ 1 1 [.string p, .string ⟨#[68]⟩] rfl rfl news4 (by simp [Value.oneCell']) (by unfold maxLen; omega) (by omega) (by simp; omega) ?_; intro v5 w5 own5 hg5 _)
          have b5 : Below wo.heap.size wo w5 := ((B4.alloc B4s _).alloc (by simp; omega) _).grown hg5 (by simp; omega) (fun k hk => (Ob.out.lt k hk).1)
          clear news4 own4 hg5
          go_roundw
          case rel => exact ⟨k + 1, acc ++ [(p, 68)], by omega, by go_num, Lib.hid HK.out.symm, Lib.hid (by rw [List.length_append, flat_snoc]; exact own5), b5⟩
          case measure => simp [intOf]; omega
        | true =>
          by_cases h1 : x1 = y1
          · subst h1
            by_cases h2 : x2 = y2
            · subst h2
              by_cases h3 : x3 = y3
              · subst h3
                have HV := Lib.hid (show fL p = 32 from FPp.out.trans (unl_yes HXA.out.symm HXB.out.symm (by rw [← HX.out, ← HY.out])))
                have HK := Lib.hid (show diffOf fL (ps.take (k + 1)) = acc by rw [HT.out, if_neg (by rw [HV.out]; decide), List.append_nil])
                clear HX HY
                go_wp2_with fail
                go_roundw
                case rel => exact ⟨k + 1, acc, by omega, by go_num, Lib.hid HK.out.symm, Lib.hid (Ob.out.alloc _), B4.alloc B4s _⟩
                case measure => simp [intOf]; omega
              · have n3 : ¬ x3.toList = y3.toList := fun e => h3 (tl_eq e)
                have n3' : (x3.toList == y3.toList) = false := by simpa using n3
                have HV := Lib.hid (show fL p = 77 from FPp.out.trans (unl_mod HXA.out.symm HXB.out.symm (by rw [← HX.out, ← HY.out]; exact fun e => h3 (congrArg (fun z => z.2.2) e))))
                clear HX HY
                clear h3
                have HK := Lib.hid (show diffOf fL (ps.take (k + 1)) = acc ++ [(p, 77)] by rw [HT.out, if_pos (by rw [HV.out]; decide), HV.out])
                have own4 := (Ob.out.alloc (.cells #[.string x1, .int .i64 x2, .string y3] 25)).alloc (.cells #[.string p, .string ⟨#[77]⟩] 84)
                have news4 := news_one (w3.alloc (.cells #[.string x1, .int .i64 x2, .string y3] 25)) #[.string p, .string ⟨#[77]⟩] 84 (w3.heap.size + 1) (by simp)
                go_wp2_with (at_builtin; refine wpList_append_own _ rfl _ _ 80 rfl wo.heap.size 84 i0 (.agg #[.string ⟨#[]⟩, .string ⟨#[]⟩]) 2 32 Tryz.underlying80 hi hz0 hz1 hz2 rfl (by decide) _ _ _ rfl own4 ⟨w3.heap.size + 1, 0, none⟩ 1 1 [.string p, .string ⟨#[77]⟩] rfl rfl news4 (by simp [Value.oneCell']) (by unfold maxLen; omega) (by omega) (by simp; omega) ?_; intro v5 w5 own5 hg5 _)
                have b5 : Below wo.heap.size wo w5 := ((B4.alloc B4s _).alloc (by simp; omega) _).grown hg5 (by simp; omega) (fun k hk => (Ob.out.lt k hk).1)
                clear news4 own4 hg5
                go_roundw
                case rel => exact ⟨k + 1, acc ++ [(p, 77)], by omega, by go_num, Lib.hid HK.out.symm, Lib.hid (by rw [List.length_append, flat_snoc]; exact own5), b5⟩
                case measure => simp [intOf]; omega
            · have n2' : (x2 == y2) = false := by simpa using h2
              have HV := Lib.hid (show fL p = 77 from FPp.out.trans (unl_mod HXA.out.symm HXB.out.symm (by rw [← HX.out, ← HY.out]; exact fun e => h2 (congrArg (fun z => z.2.1) e))))
              clear HX HY
              have HK := Lib.hid (show diffOf fL (ps.take (k + 1)) = acc ++ [(p, 77)] by rw [HT.out, if_pos (by rw [HV.out]; decide), HV.out])
              have own4 := (Ob.out.alloc (.cells #[.string x1, .int .i64 y2, .string y3] 25)).alloc (.cells #[.string p, .string ⟨#[77]⟩] 84)
              have news4 := news_one (w3.alloc (.cells #[.string x1, .int .i64 y2, .string y3] 25)) #[.string p, .string ⟨#[77]⟩] 84 (w3.heap.size + 1) (by simp)
              go_wp2_with (at_builtin; refine wpList_append_own _ rfl _ _ 80 rfl wo.heap.size 84 i0 (.agg #[.string ⟨#[]⟩, .string ⟨#[]⟩]) 2 32 Tryz.underlying80 hi hz0 hz1 hz2 rfl (by decide) _ _ _ rfl own4 ⟨w3.heap.size + 1, 0, none⟩ 1 1 [.string p, .string ⟨#[77]⟩] rfl rfl news4 (by simp [Value.oneCell']) (by unfold maxLen; omega) (by omega) (by simp; omega) ?_; intro v5 w5 own5 hg5 _)
              have b5 : Below wo.heap.size wo w5 := ((B4.alloc B4s _).alloc (by simp; omega) _).grown hg5 (by simp; omega) (fun k hk => (Ob.out.lt k hk).1)
              clear news4 own4 hg5
              go_roundw
              case rel => exact ⟨k + 1, acc ++ [(p, 77)], by omega, by go_num, Lib.hid HK.out.symm, Lib.hid (by rw [List.length_append, flat_snoc]; exact own5), b5⟩
              case measure => simp [intOf]; omega
          · have n1 : ¬ x1.toList = y1.toList := fun e => h1 (tl_eq e)
            have n1' : (x1.toList == y1.toList) = false := by simpa using n1
            have HV := Lib.hid (show fL p = 77 from FPp.out.trans (unl_mod HXA.out.symm HXB.out.symm (by rw [← HX.out, ← HY.out]; exact fun e => h1 (congrArg (fun z => z.1) e))))
            clear HX HY
            clear h1
            have HK := Lib.hid (show diffOf fL (ps.take (k + 1)) = acc ++ [(p, 77)] by rw [HT.out, if_pos (by rw [HV.out]; decide), HV.out])
            have own4 := (Ob.out.alloc (.cells #[.string y1, .int .i64 y2, .string y3] 25)).alloc (.cells #[.string p, .string ⟨#[77]⟩] 84)
            have news4 := news_one (w3.alloc (.cells #[.string y1, .int .i64 y2, .string y3] 25)) #[.string p, .string ⟨#[77]⟩] 84 (w3.heap.size + 1) (by simp)
            go_wp2_with (at_builtin; refine wpList_append_own _ rfl _ _ 80 rfl wo.heap.size 84 i0 (.agg #[.string ⟨#[]⟩, .string ⟨#[]⟩]) 2 32 Tryz.underlying80 hi hz0 hz1 hz2 rfl (by decide) _ _ _ rfl own4 ⟨w3.heap.size + 1, 0, none⟩ 1 1 [.string p, .string ⟨#[77]⟩] rfl rfl news4 (by simp [Value.oneCell']) (by unfold maxLen; omega) (by omega) (by simp; omega) ?_; intro v5 w5 own5 hg5 _)
            have b5 : Below wo.heap.size wo w5 := ((B4.alloc B4s _).alloc (by simp; omega) _).grown hg5 (by simp; omega) (fun k hk => (Ob.out.lt k hk).1)
            clear news4 own4 hg5
            go_roundw
            case rel => exact ⟨k + 1, acc ++ [(p, 77)], by omega, by go_num, Lib.hid HK.out.symm, Lib.hid (by rw [List.length_append, flat_snoc]; exact own5), b5⟩
            case measure => simp [intOf]; omega
    · obtain rfl : k = ps.length := by omega
      rw [List.take_length] at hacc
      have HB := Lib.hid (B2.out.trans (hb.mono B2.out.size))
      have HO := Lib.hid (own_base hown.out B2.out.size)
      clear hown hb
      go_wp2
      go_ret
      exact ⟨_, rfl, by rw [HD.out, ← hacc.out]; exact HO.out, HB.out⟩
end Go.Proofs.YtplleaimmmanhaaGreatDoor
namespace Go.Proofs.YtplleaimmmanhaaGreatDoor
open Go Go.RowKit

def YesTo (w : World) (e : Ending) (w' : World) : Prop := e = .returned (.bool true) ∧ Below w.heap.size w w'
def pa : ByteArray := ⟨#[97]⟩
def pb : ByteArray := ⟨#[98]⟩
def fB : Fl := (⟨#[98]⟩, 1, ⟨#[120]⟩)
def fA : Fl := (⟨#[97]⟩, 1, ⟨#[]⟩)
def fC : Fl := (⟨#[98]⟩, 2, ⟨#[120]⟩)
theorem pab : cb pa pb < 0 := by decide
theorem kn_put1 : putF [] fB = [fB] := by decide
theorem kn_put2 : putF [fB] fA = [fA, fB] := by decide
theorem kn_put3 : putF [fA, fB] fC = [fA, fC] := by decide
theorem kn_rise1 : RiseF [fB] := List.pairwise_singleton _ _
theorem kn_rise2 : RiseF [fA, fB] := List.pairwise_pair.2 pab
theorem kn_rise3 : RiseF [fA, fC] := List.pairwise_pair.2 pab
theorem kn_get : getF [fA, fB] ⟨#[98]⟩ = some fB := by decide
theorem kn_paths : paths2 [fA, fB] [fA, fC] = [pa, pb] := rise_unique (nrm_rise _) (List.pairwise_pair.2 pab) fun s => by
  unfold paths2
  rw [nrm_mem]
  simp only [fA, fB, fC, pa, pb, List.map_cons, List.map_nil, List.cons_append, List.nil_append, List.mem_cons, List.not_mem_nil, or_false]
  constructor
  · rintro (h | h | h | h) <;> simp [h]
  · rintro (h | h) <;> simp [h]
theorem kn_diff : diffF [fA, fB] [fA, fC] = [(⟨#[98]⟩, 77)] := by
  unfold diffF
  rw [kn_paths]
  decide
theorem kn_check : chkF [fA, fB] = none := by decide
theorem kn_cut : cutF [fA, fB] ⟨#[97]⟩ = [fB] := by decide
theorem kn_clear : clearF [fA, fB] ⟨#[97, 47, 120]⟩ = [fB] := by decide
theorem kn_same : decide ([fA, fB] = [fA, fC]) = false := by decide
theorem kn_sized : SizedD [fA, fB] := fun x hx => by
  simp only [List.mem_cons, List.not_mem_nil, or_false] at hx
  rcases hx with rfl | rfl <;> exact ⟨by decide, by decide⟩
end Go.Proofs.YtplleaimmmanhaaGreatDoor
namespace Go.Proofs.YtplleaimmmanhaaGreatDoor
open Go Go.RowKit

theorem own_first {w : World} {B : Nat} {e : TypeId} {k : Nat} {v : Value} {n : Nat} {xs : List Value} (h : w.ownsRow B e k v n xs) (hn : 0 < n) :
    ∃ g cap, v = .slice (some ⟨g, 0, none⟩) n cap ∧ n ≤ cap ∧ cap ≤ 9223372036854775807 ∧ g < w.heap.size := by
  rcases h.2 with ⟨_, h0⟩ | ⟨g, cap, cur, hv, hg, hgb, hnc, hcm, _⟩
  · omega
  · exact ⟨g, cap, hv, hnc, by unfold maxLen at hcm; omega, (Array.getElem?_eq_some_iff.1 hgb).1⟩

theorem kn_gotV : gotV (some fB) = .tuple #[.agg #[.string ⟨#[98]⟩, .int .i64 1, .string ⟨#[120]⟩], .bool true] := rfl
set_option maxRecDepth 100000 in
set_option maxHeartbeats 4000000 in
theorem known_yes (w : World) : Calls Tryz.prog 7 #[] w (YesTo w) := by
  have P1 := Lib.hid (put_any w (.slice none 0 0) [] fB (Reads.nil w) List.Pairwise.nil (by decide))
  rw [kn_put1] at P1
  go_enter Tryz.func7, Tryz.ntmps7
  go_wp2_with fail
  refine P1.out.mono ?_
  rintro e w1 ⟨v1, rfl, o1, b1⟩
  have P2 := Lib.hid (put_any w1 v1 [fB] fA (Reads.of_own cF_len o1) kn_rise1 (by decide))
  rw [kn_put2] at P2
  have B1 := Lib.hid b1
  clear P1 o1 b1
  go_wp2_with fail
  refine P2.out.mono ?_
  rintro e w2 ⟨v2, rfl, o2, b2⟩
  have R2 := Lib.hid (Reads.of_own cF_len o2)
  have G2 := Lib.hid (get_any w2 v2 [fA, fB] ⟨#[98]⟩ R2.out kn_rise2 (by decide))
  rw [kn_get] at G2
  have O2 := Lib.hid (own_base (B' := w.heap.size) o2 B1.out.size)
  have B2 := Lib.hid (B1.out.trans (b2.mono B1.out.size))
  clear P2 o2 b2 B1
  go_wp2_with fail
  refine G2.out.mono ?_
  rintro e w3 ⟨rfl, b3⟩
  obtain ⟨W3, hW3⟩ : ∃ W3, W3 = w3.alloc (.cells #[.string ⟨#[98]⟩, .int .i64 1, .string ⟨#[120]⟩] 25) := ⟨_, rfl⟩
  have a3 : Below w3.heap.size w3 W3 := by rw [hW3]; exact (Below.refl _ _).alloc (Nat.le_refl _) _
  obtain ⟨q, hQ⟩ : ∃ q, q = w3.heap.size := ⟨_, rfl⟩
  have k3 : Hid (W3.heap[q]? = some (.cells #[.string ⟨#[98]⟩, .int .i64 1, .string ⟨#[120]⟩] 25 (0, 0))) := Lib.hid (by rw [hW3, hQ]; exact heap_alloc_new w3 _)
  have q3 : Hid (q < W3.heap.size) := Lib.hid (by rw [hW3, hQ]; simp)
  have b23 : Below w2.heap.size w2 W3 := b3.trans (a3.mono b3.size)
  have B3 := Lib.hid (B2.out.trans (b23.mono B2.out.size))
  have O3 := Lib.hid (own_keep O2.out b23)
  have R3 := Lib.hid (R2.out.below b23)
  have P3 := Lib.hid (put_any W3 v2 [fA, fB] fC R3.out kn_rise2 (by decide))
  rw [kn_put3] at P3
  obtain ⟨gr, cr, rfl, hcr, hcm, hgr⟩ := own_first O3.out (by decide)
  clear G2 b3 a3 b23 O2 R2 B2
  rw [kn_gotV]
  go_wp2_with fail
  rw [← hW3, ← hQ]
  clear hW3 hQ
  refine P3.out.mono ?_
  rintro e w4 ⟨v4, rfl, o4, b4⟩
  obtain ⟨A4, c4, hv4⟩ := own_form o4
  simp only [List.length_cons, List.length_nil, Nat.zero_add, Nat.reduceAdd] at hv4
  subst hv4
  have R4 := Lib.hid (R3.out.below b4)
  have O4 := Lib.hid (own_keep O3.out b4)
  have Q4 := Lib.hid (Reads.of_own cF_len o4)
  have B4 := Lib.hid (B3.out.trans (b4.mono B3.out.size))
  have k4 : Hid (w4.heap[q]? = some (.cells #[.string ⟨#[98]⟩, .int .i64 1, .string ⟨#[120]⟩] 25 (0, 0))) := Lib.hid ((b4.block q q3.out).trans k3.out)
  have q4 : Hid (q < w4.heap.size) := Lib.hid (Nat.lt_of_lt_of_le q3.out b4.size)
  have D4 := Lib.hid (diff_any w4 _ (.slice A4 2 c4) [fA, fB] [fA, fC] R4.out Q4.out kn_rise2 kn_rise3 (by decide) (by decide))
  rw [kn_diff] at D4
  clear P3 o4 b4 R3 O3 B3 k3 q3
  go_wp2_with fail
  refine D4.out.mono ?_
  rintro e w5 ⟨v5, rfl, o5, b5⟩
  have R5 := Lib.hid (R4.out.below b5)
  have O5 := Lib.hid (own_keep O4.out b5)
  have Q5 := Lib.hid (Q4.out.below b5)
  have B5 := Lib.hid (B4.out.trans (b5.mono B4.out.size))
  have k5 : Hid (w5.heap[q]? = some (.cells #[.string ⟨#[98]⟩, .int .i64 1, .string ⟨#[120]⟩] 25 (0, 0))) := Lib.hid ((b5.block q q4.out).trans k4.out)
  have q5 : Hid (q < w5.heap.size) := Lib.hid (Nat.lt_of_lt_of_le q4.out b5.size)
  have D5 := Lib.hid o5
  obtain ⟨gd, cd, rfl, hcd, hcdm, hgd⟩ := own_first o5 (by decide)
  have P5 := Lib.hid (paths_two w5 _ (.slice A4 2 c4) [fA, fB] [fA, fC] R5.out Q5.out (by decide) (by decide))
  rw [kn_paths] at P5
  obtain ⟨W5, hW5⟩ : ∃ W5, W5 = w5.alloc (.cells #[.slice (some ⟨gr, 0, none⟩) 2 cr, .slice A4 2 c4] 23) := ⟨_, rfl⟩
  have a5 : Below w5.heap.size w5 W5 := by rw [hW5]; exact (Below.refl _ _).alloc (Nat.le_refl _) _
  have HW5 := Lib.hid hW5
  simp only [List.length_cons, List.length_nil, Nat.zero_add, Nat.reduceAdd] at P5
  rw [← hW5] at P5
  clear D4 o5 b5 R4 O4 Q4 B4 k4 q4 hW5
  go_wp2_with fail
  rw [← HW5.out]
  refine P5.out.mono ?_
  rintro e w6 ⟨v6, rfl, o6, b6⟩
  have b56 : Below w5.heap.size w5 w6 := a5.trans (b6.mono a5.size)
  have R6 := Lib.hid (R5.out.below b56)
  have Q6 := Lib.hid (Q5.out.below b56)
  have B6 := Lib.hid (B5.out.trans (b56.mono B5.out.size))
  have D6 := Lib.hid (own_keep D5.out b56)
  have O6 := own_keep O5.out b56
  have x0 : w6.cell? ⟨gr, 0, none⟩ = some (.string ⟨#[97]⟩) := O6.cellAt 0 (by decide)
  have k6 := (b56.block q q5.out).trans k5.out
  have y0 := cell_of_row w6 q 2 _ 25 (0, 0) k6
  obtain ⟨A6, c6, rfl⟩ := own_form o6
  have C6 := Lib.hid (checkF_any w6 _ [fA, fB] R6.out kn_sized (by decide))
  rw [kn_check] at C6
  clear P5 R5 O5 Q5 B5 k5 q5 D5 o6 b6 a5 b56 O6 k6 HW5
  go_wp2_with fail
  refine C6.out.mono ?_
  rintro e w7 h7
  obtain ⟨rfl, b7⟩ : e = .returned .nilIface ∧ Below w6.heap.size w6 w7 := by
    rcases h7 with ⟨_, he, hb⟩ | ⟨i, k, F, ho, _⟩
    · exact ⟨he, hb⟩
    · cases ho
  have R7 := Lib.hid (R6.out.below b7)
  have Q7 := Lib.hid (Q6.out.below b7)
  have B7 := Lib.hid (B6.out.trans (b7.mono B6.out.size))
  have D7 := own_keep D6.out b7
  have x1 : w7.cell? ⟨gd, 1, none⟩ = some (.string ⟨#[77]⟩) := D7.cellAt 1 (by decide)
  have U7 := Lib.hid (cut_any w7 _ [fA, fB] ⟨#[97]⟩ R7.out kn_sized.paths (by decide))
  rw [kn_cut] at U7
  clear C6 h7 R6 Q6 B6 D6 D7 b7 x0 y0
  go_wp2_with fail
  refine U7.out.mono ?_
  rintro e w8 ⟨v8, rfl, r8, b8⟩
  obtain ⟨A8, c8, rfl⟩ := r8.form
  have R8 := Lib.hid (R7.out.below b8)
  have Q8 := Lib.hid (Q7.out.below b8)
  have B8 := Lib.hid (B7.out.trans (b8.mono B7.out.size))
  have L8 := Lib.hid (clear_any w8 _ [fA, fB] ⟨#[97, 47, 120]⟩ R8.out kn_sized.paths (by decide) (by decide))
  rw [kn_clear] at L8
  clear U7 r8 b8 R7 Q7 B7 x1
  go_wp2_with fail
  refine L8.out.mono ?_
  rintro e w9 ⟨v9, rfl, r9, b9⟩
  obtain ⟨A9, c9, rfl⟩ := r9.form
  have B9 := Lib.hid (B8.out.trans (b9.mono B8.out.size))
  have S9 := Lib.hid (sameF_any w9 _ (.slice A4 2 c4) [fA, fB] [fA, fC] (R8.out.below b9) (Q8.out.below b9))
  rw [kn_same] at S9
  clear L8 r9 b9 R8 Q8 B8
  go_wp2_with fail
  refine S9.out.mono ?_
  rintro e w10 ⟨rfl, n10, rfl⟩
  go_wp2_with fail
  go_ret
  exact ⟨rfl, below_drewN B9.out _⟩
end Go.Proofs.YtplleaimmmanhaaGreatDoor
namespace Go.Proofs.YtplleaimmmanhaaGreatDoor
open Go.RowKit

def FewToF (l : List Fl) (w : World) (e : Ending) (w' : World) : Prop := ∃ b : Bool, e = .returned (.bool b) ∧ (b = true → l.length ≤ 80 ∧ ∀ x ∈ l, x.1.size ≤ 100 ∧ x.2.2.size ≤ 5000) ∧ ∃ q, w' = w.drewN q
set_option maxHeartbeats 4000000 in
theorem fewF_any (w : World) (v : Value) (l : List Fl) (h : Reads 3 cF w v l) : Calls Tryz.prog 8 #[v] w (FewToF l w) := by
  obtain ⟨A, c, rfl⟩ := h.form
  have hn := h.len
  have hnm : l.length ≤ 9223372036854775807 := by have := hn.2; unfold maxLen at this; omega
  have HO := Lib.hid h
  clear h hn
  by_cases hbig : 80 < l.length
  · have hb : (80 : Int) < (l.length : Int) := by omega
    go_enter Tryz.func8, Tryz.ntmps8
    go_wp2
    go_ret
    exact ⟨false, rfl, (fun h => by cases h), 0, rfl⟩
  · have hb : ¬ (80 : Int) < (l.length : Int) := by omega
    have HB := Lib.hid hbig
    go_enter Tryz.func8, Tryz.ntmps8
    go_wp2
    go_loopw [3] (fun s3 wr => ∃ k : Nat, k ≤ l.length ∧ s3 = .int .i64 k ∧ Hid (∀ x ∈ l.take k, x.1.size ≤ 100 ∧ x.2.2.size ≤ 5000) ∧ SameW wr w) (fun s3 _ => l.length - (intOf s3).toNat)
    case atStart => exact ⟨0, Nat.zero_le _, rfl, Lib.hid (fun x hx => by simp at hx), rfl⟩
    case round =>
      obtain ⟨k, hk, rfl, hp, hw⟩ := hrel
      unfold SameW at hw
      subst hw
      by_cases hlt : k < l.length
      · obtain ⟨x, hx⟩ : ∃ x, l[k]? = some x := ⟨_, List.getElem?_eq_getElem hlt⟩
        obtain ⟨ad, rfl, c0, c1, c2⟩ := Fils.at_ HO.out hx
        have HT := Lib.hid (take_snoc hx)
        obtain ⟨p, m, d⟩ := x
        have k0 : (0 : Int) ≤ (k : Int) := Int.natCast_nonneg _
        have k1 : (k : Int) < (l.length : Int) := by omega
        clear hx
        by_cases h1 : 100 < p.size
        · have h1' : (100 : Int) < (p.size : Int) := by omega
          go_wp2
          go_ret
          exact ⟨false, rfl, (fun h => by cases h), 0, rfl⟩
        · have h1' : ¬ (100 : Int) < (p.size : Int) := by omega
          by_cases h2 : 5000 < d.size
          · have h2' : (5000 : Int) < (d.size : Int) := by omega
            go_wp2
            go_ret
            exact ⟨false, rfl, (fun h => by cases h), 0, rfl⟩
          · have h2' : ¬ (5000 : Int) < (d.size : Int) := by omega
            have HP : Hid (∀ x ∈ l.take (k + 1), x.1.size ≤ 100 ∧ x.2.2.size ≤ 5000) := Lib.hid (by
              rw [HT.out]
              intro x hx
              rcases List.mem_append.1 hx with hx | hx
              · exact hp.out x hx
              · rw [List.mem_singleton.1 hx]; exact ⟨Nat.not_lt.1 h1, Nat.not_lt.1 h2⟩)
            go_wp2
            go_roundw
            case rel => exact ⟨k + 1, by omega, by go_num, HP, rfl⟩
            case measure => simp [intOf]; omega
      · obtain rfl : k = l.length := by omega
        have HP := Lib.hid (show ∀ x ∈ l, x.1.size ≤ 100 ∧ x.2.2.size ≤ 5000 by have := hp.out; rw [List.take_length] at this; exact this)
        go_wp2
        go_ret
        exact ⟨true, rfl, fun _ => ⟨Nat.not_lt.1 HB.out, HP.out⟩, 0, rfl⟩

end Go.Proofs.YtplleaimmmanhaaGreatDoor
namespace Go.Proofs.YtplleaimmmanhaaGreatDoor
open Go.RowKit

theorem strs_form {w : World} {v : Value} {ss : List ByteArray} (h : Strs w v ss) : ∃ A c, v = .slice A ss.length c := by
  obtain ⟨A, c, hv, _⟩ := h
  exact ⟨_, _, hv⟩
set_option maxHeartbeats 2000000 in
theorem textsS_any (w : World) (v u : Value) (a b : List ByteArray) (h : Strs w v a) (g : Strs w u b) :
    Calls Tryz.prog 75 #[v, u] w (BoolTo (decide (a = b)) w) := by
  obtain ⟨A, c, rfl⟩ := strs_form h
  obtain ⟨B, d, rfl⟩ := strs_form g
  have hm1 : a.length ≤ 9223372036854775807 := by obtain ⟨_, _, hv, h1, h2, _⟩ := h; unfold maxLen at h2; omega
  have hm2 : b.length ≤ 9223372036854775807 := by obtain ⟨_, _, hv, h1, h2, _⟩ := g; unfold maxLen at h2; omega
  have HA := Lib.hid h
  have HB := Lib.hid g
  clear h g
  by_cases hnm : a.length = b.length
  · have hi0 : ((a.length : Int) != (b.length : Int)) = false := by simp [hnm]
    have HN := Lib.hid hnm
    clear hnm
    go_enter Tryz.func75, Tryz.ntmps75
    go_wp2
    go_loopw [5] (fun s5 wr => ∃ k q : Nat, k ≤ a.length ∧ s5 = .int .i64 k ∧ Hid (∀ i, i < k → a[i]? = b[i]?) ∧ wr = w.drewN q) (fun s5 _ => a.length - (intOf s5).toNat)
    case atStart => exact ⟨0, 0, Nat.zero_le _, rfl, Lib.hid (fun i hi => absurd hi (Nat.not_lt_zero _)), rfl⟩
    case round =>
      obtain ⟨k, q, hk, rfl, hp, rfl⟩ := hrel
      by_cases hlt : k < a.length
      · obtain ⟨ad, x, rfl, hx, c0⟩ := strs_at HA.out hlt
        obtain ⟨ad2, y, rfl, hy, d0⟩ := strs_at HB.out (show k < b.length by rw [← HN.out]; exact hlt)
        have HX := Lib.hid hx
        have HY := Lib.hid hy
        have k0 : (0 : Int) ≤ (k : Int) := Int.natCast_nonneg _
        have k1 : (k : Int) < (a.length : Int) := by omega
        have k2 : (k : Int) < (b.length : Int) := by have := HN.out; omega
        have HNE := Lib.hid (show x ≠ y → decide (a = b) = false from fun hne => decide_eq_false fun e => by
          rw [e, hy] at hx
          exact hne (Option.some.inj hx).symm)
        clear hx hy
        by_cases hxy : x = y
        · subst hxy
          go_wp2_with fail
          go_quiet (fail)
          go_wp2
          go_roundw
          case rel => exact ⟨k + 1, _, by omega, by go_num, Lib.hid (fun i hi => by
            rcases Nat.lt_or_ge i k with h1 | h1
            · exact hp.out i h1
            · obtain rfl : i = k := by omega
              rw [HX.out, HY.out]), rfl⟩
          case measure => simp [intOf]; omega
        · have HC := Lib.hid (HNE.out hxy)
          have e1 : ¬ x.toList = y.toList := fun e => hxy (tl_eq e)
          have e1' : (x.toList == y.toList) = false := by simpa using e1
          clear hxy
          go_wp2_with fail
          go_quiet (fail)
          go_wp2
          go_ret
          exact ⟨by rw [HC.out]; rfl, _, drewN_two _ _ _⟩
      · obtain rfl : k = a.length := by omega
        have HC : Hid (decide (a = b) = true) := Lib.hid (decide_eq_true (prefix_all hp.out rfl HN.out.symm))
        go_wp2
        go_ret
        exact ⟨by rw [HC.out]; rfl, _, rfl⟩
  · have hi0 : ((a.length : Int) != (b.length : Int)) = true := by simp; omega
    have HC : Hid (decide (a = b) = false) := Lib.hid (decide_eq_false fun e => hnm (by rw [e]))
    clear hnm
    go_enter Tryz.func75, Tryz.ntmps75
    go_wp2
    go_ret
    exact ⟨by rw [HC.out]; rfl, 0, rfl⟩
theorem texts_any (w : World) (v u : Value) (a b : List ByteArray) (h : Strs w v a) (g : Strs w u b) :
    Calls Tryz.prog 34 #[v, u] w (BoolTo (decide (a = b)) w) := by
  have E := Lib.hid (textsS_any w v u a b h g)
  clear h g
  go_enter Tryz.func34, Tryz.ntmps34
  go_wp2_with fail
  refine E.out.mono ?_
  rintro e w' ⟨rfl, q, rfl⟩
  go_wp2
  go_ret
  exact ⟨rfl, q, rfl⟩
end Go.Proofs.YtplleaimmmanhaaGreatDoor
namespace Go.Proofs.YtplleaimmmanhaaGreatDoor
open Go.RowKit

theorem putF_all {l : List Fl} {f : Fl} (h : ∀ x ∈ l, cb x.1 f.1 < 0) : putF l f = l ++ [f] := by
  unfold putF
  rw [List.filter_eq_self.2 fun x hx => decide_eq_true (h x hx), List.filter_eq_nil_iff.2 fun x hx => by have := h x hx; simp; omega]
theorem putF_snoc_gt {l : List Fl} {f q : Fl} (h : 0 < cb q.1 f.1) : putF (l ++ [q]) f = putF l f ++ [q] := by
  unfold putF
  rw [List.filter_append, List.filter_append, List.filter_cons, List.filter_cons, if_neg (by simp; omega), if_pos (by simpa using h)]
  simp
theorem putF_snoc_eq {l : List Fl} {f q : Fl} (h : cb q.1 f.1 = 0) : putF (l ++ [q]) f = putF l f := by
  unfold putF
  rw [List.filter_append, List.filter_append, List.filter_cons, List.filter_cons, if_neg (by simp; omega), if_neg (by simp; omega)]
  simp
/-- How far a file is put: as long as it is not, all that has come lies before it; once it is, all that comes lies behind. -/
def PutAtF (l : List Fl) (f : Fl) (i : Nat) : Bool → List Fl → Prop
  | false, acc => acc = l.take i ∧ ∀ x ∈ l.take i, cb x.1 f.1 < 0
  | true, acc => acc = putF (l.take i) f ∧ ∀ (t : Nat) (x : Fl), i ≤ t → l[t]? = some x → 0 < cb x.1 f.1
section
variable {l : List Fl} {f q : Fl} {i : Nat} {acc : List Fl}
theorem PutAtF.len {b : Bool} (h : PutAtF l f i b acc) : acc.length ≤ i + (if b then 1 else 0) := by
  cases b with
  | false => rw [h.1, List.length_take]; simp; omega
  | true => rw [h.1]; have := put_len (l.take i) f; rw [List.length_take] at this; simp; omega
theorem putF_lt (h : PutAtF l f i false acc) (hq : l[i]? = some q) (hc : cb q.1 f.1 < 0) : PutAtF l f (i + 1) false (acc ++ [q]) := by
  refine ⟨by rw [take_snoc hq, h.1], fun x hx => ?_⟩
  rw [take_snoc hq] at hx
  rcases List.mem_append.1 hx with hx | hx
  · exact h.2 x hx
  · simp at hx; subst hx; exact hc
theorem rise_later (hr : RiseF l) (hq : l[i]? = some q) {t : Nat} {x : Fl} (ht : i < t) (hx : l[t]? = some x) : cb q.1 x.1 < 0 := by
  obtain ⟨h1, rfl⟩ := List.getElem?_eq_some_iff.1 hq
  obtain ⟨h2, rfl⟩ := List.getElem?_eq_some_iff.1 hx
  exact List.pairwise_iff_getElem.1 hr i t h1 h2 ht
theorem putF_eq (hr : RiseF l) (h : PutAtF l f i false acc) (hq : l[i]? = some q) (he : q.1 = f.1) : PutAtF l f (i + 1) true (acc ++ [f]) := by
  refine ⟨by rw [take_snoc hq, putF_snoc_eq (by rw [he, cb_self]), putF_all h.2, h.1], fun t x ht hx => ?_⟩
  have := rise_later hr hq (by omega) hx
  rw [he] at this
  rw [cb_swap]; omega
theorem putF_ge (hr : RiseF l) (h : PutAtF l f i false acc) (hq : l[i]? = some q) (hc : ¬ cb q.1 f.1 < 0) (hne : ¬ q.1 = f.1) : PutAtF l f (i + 1) true (acc ++ [f] ++ [q]) := by
  have hpos : 0 < cb q.1 f.1 := by
    rcases Int.lt_or_le 0 (cb q.1 f.1) with h | h
    · exact h
    · exact absurd (cb_zero (by omega)) hne
  refine ⟨by rw [take_snoc hq, putF_snoc_gt hpos, putF_all h.2, h.1], fun t x ht hx => ?_⟩
  have h1 := rise_later hr hq (by omega) hx
  have h2 : cb f.1 q.1 < 0 := by rw [cb_swap]; omega
  have := cb_trans h2 h1
  rw [cb_swap]; omega
theorem putF_past (h : PutAtF l f i true acc) (hq : l[i]? = some q) : ¬ q.1 = f.1 ∧ PutAtF l f (i + 1) true (acc ++ [q]) := by
  have hpos := h.2 i q (Nat.le_refl _) hq
  refine ⟨fun e => by rw [e, cb_self] at hpos; omega, by rw [take_snoc hq, putF_snoc_gt hpos, h.1], fun t x ht hx => h.2 t x (by omega) hx⟩
theorem putF_end {b : Bool} (h : PutAtF l f l.length b acc) : putF l f = if b then acc else acc ++ [f] := by
  cases b with
  | false =>
    obtain ⟨h1, h2⟩ := h
    rw [List.take_length] at h1 h2
    rw [putF_all h2, h1]; rfl
  | true =>
    obtain ⟨h1, _⟩ := h
    rw [List.take_length] at h1
    rw [h1]; rfl
end

set_option maxRecDepth 100000 in
set_option maxHeartbeats 4000000 in
theorem refPutF_any (w : World) (v : Value) (ps : List Fl) (p : ByteArray) (pm : Int) (pd : ByteArray) (h : Reads 3 cF w v ps) (hr : RiseF ps) (hl : ps.length ≤ 100000) :
    Calls Tryz.prog 18 #[v, .agg #[.string p, .int .i64 pm, .string pd]] w (OwnTo 40 3 cF (putF ps (p, pm, pd)) w) := by
  obtain ⟨A, c, rfl⟩ := h.form
  have hn := h.len
  have hnm : ps.length ≤ 9223372036854775807 := by omega
  obtain ⟨W1, hW1⟩ : ∃ W1, W1 = w.alloc (.cells #[.string p, .int .i64 pm, .string pd] 40) := ⟨_, rfl⟩
  have B1 : Below w.heap.size w W1 := by rw [hW1]; exact (Below.refl _ _).alloc (Nat.le_refl _) _
  obtain ⟨G, hG⟩ : ∃ G, G = w.heap.size := ⟨_, rfl⟩
  have K1 : W1.heap[G]? = some (.cells #[.string p, .int .i64 pm, .string pd] 40 (0, 0)) := by rw [hW1, hG]; exact heap_alloc_new w _
  have YY := Lib.hid fun W (hW : Below W1.heap.size W1 W) => (⟨(hW.cell (World.block_lt_of_cell? _ _ (cell_of_row W1 G 0 _ 40 (0, 0) K1))).trans (cell_of_row W1 G 0 _ 40 (0, 0) K1), (hW.cell (World.block_lt_of_cell? _ _ (cell_of_row W1 G 1 _ 40 (0, 0) K1))).trans (cell_of_row W1 G 1 _ 40 (0, 0) K1), (hW.cell (World.block_lt_of_cell? _ _ (cell_of_row W1 G 2 _ 40 (0, 0) K1))).trans (cell_of_row W1 G 2 _ 40 (0, 0) K1)⟩ : W.cell? ⟨G, 0, none⟩ = some (.string p) ∧ W.cell? ⟨G, 1, none⟩ = some (.int .i64 pm) ∧ W.cell? ⟨G, 2, none⟩ = some (.string pd))
  have HO := Lib.hid (h.below B1)
  have HR := Lib.hid hr
  have HB1 := Lib.hid B1
  obtain ⟨i0, hi, hz0, hz1, hz2⟩ := info_parts refFileInfo
  clear h hn hr K1 B1
  go_enter Tryz.func18, Tryz.ntmps18
  go_wp2_with fail
  rw [← hW1, ← hG]
  clear hW1 hG
  go_loopw [5, 6, 7] (fun s5 s6 s7 wr => ∃ (i : Nat) (acc : List Fl) (b : Bool), i ≤ ps.length ∧ s6 = .bool b ∧ s7 = .int .i64 i ∧ Hid (PutAtF ps (p, pm, pd) i b acc) ∧ Hid (wr.ownsRow W1.heap.size 40 3 s5 acc.length (acc.flatMap cF)) ∧ Below W1.heap.size W1 wr) (fun _ _ s7 _ => ps.length - (intOf s7).toNat)
  case atStart => exact ⟨0, [], false, Nat.zero_le _, rfl, rfl, Lib.hid ⟨rfl, by simp⟩, Lib.hid (World.ownsRow_nil _ _ _ _), Below.refl _ _⟩
  case round =>
    obtain ⟨i, acc, b, hil, rfl, rfl, hp, hown, hb⟩ := hrel
    have HL := Lib.hid hp.out.len
    by_cases hlt : i < ps.length
    · obtain ⟨q, hq⟩ : ∃ q, ps[i]? = some q := ⟨_, List.getElem?_eq_getElem hlt⟩
      obtain ⟨ad, rfl, c0, c1, c2⟩ := Fils.at_ HO.out hq
      obtain ⟨q, qm, qd⟩ := q
      have HQ := Lib.hid hq
      have ZZ := Lib.hid fun W (hW : Below W1.heap.size W1 W) => (⟨(hW.cell (World.block_lt_of_cell? _ _ c0)).trans c0, (hW.cell (World.block_lt_of_cell? _ _ c1)).trans c1, (hW.cell (World.block_lt_of_cell? _ _ c2)).trans c2⟩ : FilCells ad i q qm qd W)
      unfold FilCells at ZZ
      have i0' : (0 : Int) ≤ (i : Int) := Int.natCast_nonneg _
      have hi1 : (i : Int) < (ps.length : Int) := by omega
      have hlc := less_cb q p
      clear hq c0 c1 c2
      cases b with
      | false =>
        by_cases hc : cb q p < 0
        · have hls : Op.bytesLess q.toList p.toList = true := by rw [hlc]; exact decide_eq_true hc
          have hne : ¬ q.toList = p.toList := fun e => by rw [tl_eq e, cb_self] at hc; omega
          have hneb : (q.toList == p.toList) = false := by simpa using hne
          have FA := Lib.hid (putF_lt hp.out HQ.out hc)
          clear hlc hc
          obtain ⟨x0, x1, x2⟩ := ZZ.out _ hb
          obtain ⟨y0, y1, y2⟩ := YY.out _ hb
          go_wp2_with fail
          go_quiet (fail)
          obtain ⟨w1, hw1⟩ : ∃ w1, w1 = wr.drewN nq := ⟨_, rfl⟩
          have hb1 : Below W1.heap.size W1 w1 := by rw [hw1]; exact below_drewN hb nq
          have hown1 : Hid (w1.ownsRow W1.heap.size 40 3 u5 acc.length (acc.flatMap cF)) := by rw [hw1]; exact hown
          rw [← hw1]
          clear hw1
          obtain ⟨x0, x1, x2⟩ := ZZ.out _ hb1
          obtain ⟨y0, y1, y2⟩ := YY.out _ hb1
          clear hown
          go_wp2_with fail
          go_quiet (fail)
          obtain ⟨w2, hw2⟩ : ∃ w2, w2 = w1.drewN nq := ⟨_, rfl⟩
          have hb2 : Below W1.heap.size W1 w2 := by rw [hw2]; exact below_drewN hb1 nq
          have hown2 : Hid (w2.ownsRow W1.heap.size 40 3 u5 acc.length (acc.flatMap cF)) := by rw [hw2]; exact hown1
          rw [← hw2]
          clear hw2
          clear x0 x1 x2 y0 y1 y2
          obtain ⟨x0, x1, x2⟩ := ZZ.out _ hb2
          obtain ⟨y0, y1, y2⟩ := YY.out _ hb2
          have hsz3 := hb2.size
          have own43 := hown2.out.alloc (.cells #[.string q, .int .i64 qm, .string qd] 40)
          have news3 := news_one w2 #[.string q, .int .i64 qm, .string qd] 40 w2.heap.size rfl
          go_wp2_with (at_builtin; refine wpList_append_own _ rfl _ _ 28 rfl W1.heap.size 40 i0 (.agg #[.string ⟨#[]⟩, .int .i64 0, .string ⟨#[]⟩]) 3 40 Tryz.underlying28 hi hz0 hz1 hz2 rfl (by decide) _ _ _ rfl own43 ⟨w2.heap.size, 0, none⟩ 1 1 [.string q, .int .i64 qm, .string qd] rfl rfl news3 (by simp [Value.oneCell']) (by unfold maxLen; (have := HL.out; simp at this; omega)) (by (have := HL.out; simp at this; omega)) (by simp; omega) ?_; intro v3 w3 ow3 hg3 _)
          have hb3 : Below W1.heap.size W1 w3 := (hb2.alloc hsz3 _).grown hg3 (by simp; omega) (fun k hk => (hown2.out.lt k hk).1)
          have hown3 : Hid (w3.ownsRow W1.heap.size 40 3 v3 (acc ++ [(q, qm, qd)]).length ((acc ++ [(q, qm, qd)]).flatMap cF)) := Lib.hid (by rw [flat_snoc, List.length_append]; exact ow3)
          clear news3 own43 hg3 ow3
          go_wp2
          go_roundw
          case rel => exact ⟨i + 1, acc ++ [(q, qm, qd)], false, by omega, rfl, by go_num, FA, hown3, hb3⟩
          case measure => simp [intOf]; omega
        · have hls : Op.bytesLess q.toList p.toList = false := by rw [hlc]; exact decide_eq_false hc
          clear hlc
          by_cases hqp : q = p
          · subst hqp
            have FA := Lib.hid (putF_eq HR.out hp.out HQ.out rfl)
            clear hc
            obtain ⟨x0, x1, x2⟩ := ZZ.out _ hb
            obtain ⟨y0, y1, y2⟩ := YY.out _ hb
            go_wp2_with fail
            go_quiet (fail)
            obtain ⟨w1, hw1⟩ : ∃ w1, w1 = wr.drewN nq := ⟨_, rfl⟩
            have hb1 : Below W1.heap.size W1 w1 := by rw [hw1]; exact below_drewN hb nq
            have hown1 : Hid (w1.ownsRow W1.heap.size 40 3 u5 acc.length (acc.flatMap cF)) := by rw [hw1]; exact hown
            rw [← hw1]
            clear hw1
            obtain ⟨x0, x1, x2⟩ := ZZ.out _ hb1
            obtain ⟨y0, y1, y2⟩ := YY.out _ hb1
            clear hown
            have hsz2 := hb1.size
            have own42 := hown1.out.alloc (.cells #[.string q, .int .i64 pm, .string pd] 40)
            have news2 := news_one w1 #[.string q, .int .i64 pm, .string pd] 40 w1.heap.size rfl
            go_wp2_with (at_builtin; refine wpList_append_own _ rfl _ _ 28 rfl W1.heap.size 40 i0 (.agg #[.string ⟨#[]⟩, .int .i64 0, .string ⟨#[]⟩]) 3 40 Tryz.underlying28 hi hz0 hz1 hz2 rfl (by decide) _ _ _ rfl own42 ⟨w1.heap.size, 0, none⟩ 1 1 [.string q, .int .i64 pm, .string pd] rfl rfl news2 (by simp [Value.oneCell']) (by unfold maxLen; (have := HL.out; simp at this; omega)) (by (have := HL.out; simp at this; omega)) (by simp; omega) ?_; intro v2 w2 ow2 hg2 _)
            have hb2 : Below W1.heap.size W1 w2 := (hb1.alloc hsz2 _).grown hg2 (by simp; omega) (fun k hk => (hown1.out.lt k hk).1)
            have hown2 : Hid (w2.ownsRow W1.heap.size 40 3 v2 (acc ++ [(q, pm, pd)]).length ((acc ++ [(q, pm, pd)]).flatMap cF)) := Lib.hid (by rw [flat_snoc, List.length_append]; exact ow2)
            clear news2 own42 hg2 ow2
            clear x0 x1 x2 y0 y1 y2
            obtain ⟨x0, x1, x2⟩ := ZZ.out _ hb2
            obtain ⟨y0, y1, y2⟩ := YY.out _ hb2
            go_wp2_with fail
            go_quiet (fail)
            obtain ⟨w3, hw3⟩ : ∃ w3, w3 = w2.drewN nq := ⟨_, rfl⟩
            have hb3 : Below W1.heap.size W1 w3 := by rw [hw3]; exact below_drewN hb2 nq
            have hown3 : Hid (w3.ownsRow W1.heap.size 40 3 v2 (acc ++ [(q, pm, pd)]).length ((acc ++ [(q, pm, pd)]).flatMap cF)) := by rw [hw3]; exact hown2
            rw [← hw3]
            clear hw3
            clear x0 x1 x2 y0 y1 y2
            obtain ⟨x0, x1, x2⟩ := ZZ.out _ hb3
            obtain ⟨y0, y1, y2⟩ := YY.out _ hb3
            go_wp2
            go_roundw
            case rel => exact ⟨i + 1, acc ++ [(q, pm, pd)], true, by omega, rfl, by go_num, FA, hown3, hb3⟩
            case measure => simp [intOf]; omega
          · have hne : ¬ q.toList = p.toList := fun e => hqp (tl_eq e)
            have hneb : (q.toList == p.toList) = false := by simpa using hne
            have FA := Lib.hid (putF_ge HR.out hp.out HQ.out hc hqp)
            clear hc hqp
            obtain ⟨x0, x1, x2⟩ := ZZ.out _ hb
            obtain ⟨y0, y1, y2⟩ := YY.out _ hb
            go_wp2_with fail
            go_quiet (fail)
            obtain ⟨w1, hw1⟩ : ∃ w1, w1 = wr.drewN nq := ⟨_, rfl⟩
            have hb1 : Below W1.heap.size W1 w1 := by rw [hw1]; exact below_drewN hb nq
            have hown1 : Hid (w1.ownsRow W1.heap.size 40 3 u5 acc.length (acc.flatMap cF)) := by rw [hw1]; exact hown
            rw [← hw1]
            clear hw1
            obtain ⟨x0, x1, x2⟩ := ZZ.out _ hb1
            obtain ⟨y0, y1, y2⟩ := YY.out _ hb1
            clear hown
            have hsz2 := hb1.size
            have own42 := hown1.out.alloc (.cells #[.string p, .int .i64 pm, .string pd] 40)
            have news2 := news_one w1 #[.string p, .int .i64 pm, .string pd] 40 w1.heap.size rfl
            go_wp2_with (at_builtin; refine wpList_append_own _ rfl _ _ 28 rfl W1.heap.size 40 i0 (.agg #[.string ⟨#[]⟩, .int .i64 0, .string ⟨#[]⟩]) 3 40 Tryz.underlying28 hi hz0 hz1 hz2 rfl (by decide) _ _ _ rfl own42 ⟨w1.heap.size, 0, none⟩ 1 1 [.string p, .int .i64 pm, .string pd] rfl rfl news2 (by simp [Value.oneCell']) (by unfold maxLen; (have := HL.out; simp at this; omega)) (by (have := HL.out; simp at this; omega)) (by simp; omega) ?_; intro v2 w2 ow2 hg2 _)
            have hb2 : Below W1.heap.size W1 w2 := (hb1.alloc hsz2 _).grown hg2 (by simp; omega) (fun k hk => (hown1.out.lt k hk).1)
            have hown2 : Hid (w2.ownsRow W1.heap.size 40 3 v2 (acc ++ [(p, pm, pd)]).length ((acc ++ [(p, pm, pd)]).flatMap cF)) := Lib.hid (by rw [flat_snoc, List.length_append]; exact ow2)
            clear news2 own42 hg2 ow2
            clear x0 x1 x2 y0 y1 y2
            obtain ⟨x0, x1, x2⟩ := ZZ.out _ hb2
            obtain ⟨y0, y1, y2⟩ := YY.out _ hb2
            go_wp2_with fail
            go_quiet (fail)
            obtain ⟨w3, hw3⟩ : ∃ w3, w3 = w2.drewN nq := ⟨_, rfl⟩
            have hb3 : Below W1.heap.size W1 w3 := by rw [hw3]; exact below_drewN hb2 nq
            have hown3 : Hid (w3.ownsRow W1.heap.size 40 3 v2 (acc ++ [(p, pm, pd)]).length ((acc ++ [(p, pm, pd)]).flatMap cF)) := by rw [hw3]; exact hown2
            rw [← hw3]
            clear hw3
            clear x0 x1 x2 y0 y1 y2
            obtain ⟨x0, x1, x2⟩ := ZZ.out _ hb3
            obtain ⟨y0, y1, y2⟩ := YY.out _ hb3
            have hsz4 := hb3.size
            have own44 := hown3.out.alloc (.cells #[.string q, .int .i64 qm, .string qd] 40)
            have news4 := news_one w3 #[.string q, .int .i64 qm, .string qd] 40 w3.heap.size rfl
            go_wp2_with (at_builtin; refine wpList_append_own _ rfl _ _ 28 rfl W1.heap.size 40 i0 (.agg #[.string ⟨#[]⟩, .int .i64 0, .string ⟨#[]⟩]) 3 40 Tryz.underlying28 hi hz0 hz1 hz2 rfl (by decide) _ _ _ rfl own44 ⟨w3.heap.size, 0, none⟩ 1 1 [.string q, .int .i64 qm, .string qd] rfl rfl news4 (by simp [Value.oneCell']) (by unfold maxLen; (have := HL.out; rw [List.length_append, List.length_singleton]; simp at this; omega)) (by (have := HL.out; rw [List.length_append, List.length_singleton]; simp at this; omega)) (by simp; omega) ?_; intro v4 w4 ow4 hg4 _)
            have hb4 : Below W1.heap.size W1 w4 := (hb3.alloc hsz4 _).grown hg4 (by simp; omega) (fun k hk => (hown3.out.lt k hk).1)
            have hown4 : Hid (w4.ownsRow W1.heap.size 40 3 v4 ((acc ++ [(p, pm, pd)]) ++ [(q, qm, qd)]).length (((acc ++ [(p, pm, pd)]) ++ [(q, qm, qd)]).flatMap cF)) := Lib.hid (by rw [flat_snoc, List.length_append]; exact ow4)
            clear news4 own44 hg4 ow4
            go_wp2
            go_roundw
            case rel => exact ⟨i + 1, acc ++ [(p, pm, pd)] ++ [(q, qm, qd)], true, by omega, rfl, by go_num, FA, hown4, hb4⟩
            case measure => simp [intOf]; omega
      | true =>
        have FA := Lib.hid (putF_past hp.out HQ.out)
        have hne : ¬ q.toList = p.toList := fun e => FA.out.1 (tl_eq e)
        have hneb : (q.toList == p.toList) = false := by simpa using hne
        clear hlc
        obtain ⟨x0, x1, x2⟩ := ZZ.out _ hb
        obtain ⟨y0, y1, y2⟩ := YY.out _ hb
        go_wp2_with fail
        go_quiet (fail)
        obtain ⟨w1, hw1⟩ : ∃ w1, w1 = wr.drewN nq := ⟨_, rfl⟩
        have hb1 : Below W1.heap.size W1 w1 := by rw [hw1]; exact below_drewN hb nq
        have hown1 : Hid (w1.ownsRow W1.heap.size 40 3 u5 acc.length (acc.flatMap cF)) := by rw [hw1]; exact hown
        rw [← hw1]
        clear hw1
        obtain ⟨x0, x1, x2⟩ := ZZ.out _ hb1
        obtain ⟨y0, y1, y2⟩ := YY.out _ hb1
        clear hown
        go_wp2_with fail
        go_quiet (fail)
        obtain ⟨w2, hw2⟩ : ∃ w2, w2 = w1.drewN nq := ⟨_, rfl⟩
        have hb2 : Below W1.heap.size W1 w2 := by rw [hw2]; exact below_drewN hb1 nq
        have hown2 : Hid (w2.ownsRow W1.heap.size 40 3 u5 acc.length (acc.flatMap cF)) := by rw [hw2]; exact hown1
        rw [← hw2]
        clear hw2
        clear x0 x1 x2 y0 y1 y2
        obtain ⟨x0, x1, x2⟩ := ZZ.out _ hb2
        obtain ⟨y0, y1, y2⟩ := YY.out _ hb2
        have hsz3 := hb2.size
        have own43 := hown2.out.alloc (.cells #[.string q, .int .i64 qm, .string qd] 40)
        have news3 := news_one w2 #[.string q, .int .i64 qm, .string qd] 40 w2.heap.size rfl
        go_wp2_with (at_builtin; refine wpList_append_own _ rfl _ _ 28 rfl W1.heap.size 40 i0 (.agg #[.string ⟨#[]⟩, .int .i64 0, .string ⟨#[]⟩]) 3 40 Tryz.underlying28 hi hz0 hz1 hz2 rfl (by decide) _ _ _ rfl own43 ⟨w2.heap.size, 0, none⟩ 1 1 [.string q, .int .i64 qm, .string qd] rfl rfl news3 (by simp [Value.oneCell']) (by unfold maxLen; (have := HL.out; simp at this; omega)) (by (have := HL.out; simp at this; omega)) (by simp; omega) ?_; intro v3 w3 ow3 hg3 _)
        have hb3 : Below W1.heap.size W1 w3 := (hb2.alloc hsz3 _).grown hg3 (by simp; omega) (fun k hk => (hown2.out.lt k hk).1)
        have hown3 : Hid (w3.ownsRow W1.heap.size 40 3 v3 (acc ++ [(q, qm, qd)]).length ((acc ++ [(q, qm, qd)]).flatMap cF)) := Lib.hid (by rw [flat_snoc, List.length_append]; exact ow3)
        clear news3 own43 hg3 ow3
        go_wp2
        go_roundw
        case rel => exact ⟨i + 1, acc ++ [(q, qm, qd)], true, by omega, rfl, by go_num, Lib.hid FA.out.2, hown3, hb3⟩
        case measure => simp [intOf]; omega
    · obtain rfl : i = ps.length := by omega
      have HE := Lib.hid (putF_end hp.out)
      cases b with
      | true =>
        have HE2 : Hid (putF ps (p, pm, pd) = acc) := Lib.hid HE.out
        go_wp2
        go_ret
        exact ⟨_, rfl, by rw [HE2.out]; exact own_base hown.out HB1.out.size, HB1.out.trans (hb.mono HB1.out.size)⟩
      | false =>
        have HE2 : Hid (putF ps (p, pm, pd) = acc ++ [(p, pm, pd)]) := Lib.hid HE.out
        obtain ⟨y0, y1, y2⟩ := YY.out _ hb
        have hsz3 := hb.size
        have own43 := hown.out.alloc (.cells #[.string p, .int .i64 pm, .string pd] 40)
        have news3 := news_one wr #[.string p, .int .i64 pm, .string pd] 40 wr.heap.size rfl
        go_wp2_with (at_builtin; refine wpList_append_own _ rfl _ _ 28 rfl W1.heap.size 40 i0 (.agg #[.string ⟨#[]⟩, .int .i64 0, .string ⟨#[]⟩]) 3 40 Tryz.underlying28 hi hz0 hz1 hz2 rfl (by decide) _ _ _ rfl own43 ⟨wr.heap.size, 0, none⟩ 1 1 [.string p, .int .i64 pm, .string pd] rfl rfl news3 (by simp [Value.oneCell']) (by unfold maxLen; (have := HL.out; simp at this; omega)) (by (have := HL.out; simp at this; omega)) (by simp; omega) ?_; intro v3 w3 ow3 hg3 _)
        have hb3 : Below W1.heap.size W1 w3 := (hb.alloc hsz3 _).grown hg3 (by simp; omega) (fun k hk => (hown.out.lt k hk).1)
        have hown3 : Hid (w3.ownsRow W1.heap.size 40 3 v3 (acc ++ [(p, pm, pd)]).length ((acc ++ [(p, pm, pd)]).flatMap cF)) := Lib.hid (by rw [flat_snoc, List.length_append]; exact ow3)
        clear news3 own43 hg3 ow3
        go_wp2
        go_ret
        exact ⟨_, rfl, by rw [HE2.out]; exact own_base hown3.out HB1.out.size, HB1.out.trans (hb3.mono HB1.out.size)⟩
end Go.Proofs.YtplleaimmmanhaaGreatDoor
namespace Go.Proofs.YtplleaimmmanhaaGreatDoor
open Go Go.RowKit

theorem filter_snoc {p : Fl → Bool} {l : List Fl} {i : Nat} {x : Fl} (hx : l[i]? = some x) : (l.take (i + 1)).filter p = (l.take i).filter p ++ (if p x then [x] else []) := by
  rw [take_snoc hx, List.filter_append]
  cases h : p x <;> simp [h]
set_option maxRecDepth 100000 in
set_option maxHeartbeats 2000000 in
theorem refCut_any (w : World) (v : Value) (l : List Fl) (s : ByteArray) (h : Reads 3 cF w v l) (hl : l.length ≤ 100000) :
    Calls Tryz.prog 20 #[v, .string s] w (OwnTo 40 3 cF (cutF l s) w) := by
  obtain ⟨A, c, rfl⟩ := h.form
  have hn := h.len
  have hnm : l.length ≤ 9223372036854775807 := by omega
  have HO := Lib.hid h
  obtain ⟨i0, hi, hz0, hz1, hz2⟩ := info_parts refFileInfo
  obtain ⟨P, hP⟩ : ∃ P : Fl → Bool, P = fun x => decide (x.1 ≠ s) := ⟨_, rfl⟩
  have HPF := Lib.hid (show cutF l s = l.filter P by rw [hP]; rfl)
  have HPX := Lib.hid fun x => (show P x = decide (x.1 ≠ s) by rw [hP])
  clear h hn hP
  go_enter Tryz.func20, Tryz.ntmps20
  go_wp2
  go_loopw [5, 6] (fun s5 s6 wr => ∃ (i : Nat) (acc : List Fl), i ≤ l.length ∧ s6 = .int .i64 i ∧ Hid (acc = (l.take i).filter P) ∧ Hid (wr.ownsRow w.heap.size 40 3 s5 acc.length (acc.flatMap cF)) ∧ Below w.heap.size w wr) (fun _ s6 _ => l.length - (intOf s6).toNat)
  case atStart => exact ⟨0, [], Nat.zero_le _, rfl, Lib.hid (by simp), Lib.hid (World.ownsRow_nil _ _ _ _), Below.refl _ _⟩
  case round =>
    obtain ⟨i, acc, hil, rfl, HA, hown, hb⟩ := hrel
    by_cases hlt : i < l.length
    · obtain ⟨f, hf⟩ : ∃ f, l[i]? = some f := ⟨_, List.getElem?_eq_getElem hlt⟩
      obtain ⟨ad, rfl, c0, c1, c2⟩ := Fils.at_ (HO.out.below hb) hf
      have HT := Lib.hid (filter_snoc (p := P) hf)
      have HPf := Lib.hid (HPX.out f)
      have hal : acc.length ≤ 100000 := by rw [HA.out]; exact Nat.le_trans (List.length_filter_le _ _) (by rw [List.length_take]; omega)
      obtain ⟨p, m, d⟩ := f
      have hsz := hb.size
      clear hf
      by_cases hps : p = s
      · subst hps
        have HN := Lib.hid (show (l.take (i + 1)).filter P = acc by rw [HT.out, HPf.out, HA.out]; simp)
        go_wp2
        go_roundw
        case rel => exact ⟨i + 1, acc, by omega, by go_num, Lib.hid HN.out.symm, hown, hb⟩
        case measure => simp [intOf]; omega
      · have hne : ¬ p.toList = s.toList := fun e => hps (tl_eq e)
        have hneb : (p.toList == s.toList) = false := by simpa using hne
        have HN := Lib.hid (show (l.take (i + 1)).filter P = acc ++ [(p, m, d)] by rw [HT.out, HPf.out, HA.out]; simp [hps])
        have own4 := hown.out.alloc (.cells #[.string p, .int .i64 m, .string d] 40)
        have news4 := news_one wr #[.string p, .int .i64 m, .string d] 40 wr.heap.size rfl
        clear hps
        go_wp2_with (at_builtin; refine wpList_append_own _ rfl _ _ 28 rfl w.heap.size 40 i0 (.agg #[.string ⟨#[]⟩, .int .i64 0, .string ⟨#[]⟩]) 3 40 Tryz.underlying28 hi hz0 hz1 hz2 rfl (by decide) _ _ _ rfl own4 ⟨wr.heap.size, 0, none⟩ 1 1 [.string p, .int .i64 m, .string d] rfl rfl news4 (by simp [Value.oneCell']) (by unfold maxLen; omega) (by omega) (by simp; omega) ?_; intro v5 w5 ow5 hg5 _)
        have hb5 : Below w.heap.size w w5 := (hb.alloc hsz _).grown hg5 (by simp; omega) (fun k hk => (hown.out.lt k hk).1)
        have hown5 : Hid (w5.ownsRow w.heap.size 40 3 v5 (acc ++ [(p, m, d)]).length ((acc ++ [(p, m, d)]).flatMap cF)) := Lib.hid (by rw [flat_snoc, List.length_append]; exact ow5)
        clear news4 own4 hg5 ow5
        go_wp2
        go_roundw
        case rel => exact ⟨i + 1, acc ++ [(p, m, d)], by omega, by go_num, Lib.hid HN.out.symm, hown5, hb5⟩
        case measure => simp [intOf]; omega
    · obtain rfl : i = l.length := by omega
      have HE := Lib.hid (show cutF l s = acc by rw [HPF.out, HA.out, List.take_length])
      go_wp2
      go_ret
      exact ⟨_, rfl, by rw [HE.out]; exact hown.out, hb⟩

set_option maxRecDepth 100000 in
set_option maxHeartbeats 2000000 in
theorem refClear_any (w : World) (v : Value) (l : List Fl) (s : ByteArray) (h : Reads 3 cF w v l) (hz : Sized l) (hs : s.size ≤ 1000000) (hl : l.length ≤ 100000) :
    Calls Tryz.prog 22 #[v, .string s] w (OwnTo 40 3 cF (clearF l s) w) := by
  obtain ⟨A, c, rfl⟩ := h.form
  have hn := h.len
  have hnm : l.length ≤ 9223372036854775807 := by omega
  have HO := Lib.hid h
  have HZ := Lib.hid hz
  obtain ⟨i0, hi, hz0, hz1, hz2⟩ := info_parts refFileInfo
  obtain ⟨P, hP⟩ : ∃ P : Fl → Bool, P = fun x => !cls x.1.data.toList s.data.toList := ⟨_, rfl⟩
  have HPF := Lib.hid (show clearF l s = l.filter P by rw [hP]; rfl)
  have HPX := Lib.hid fun x => (show P x = !cls x.1.data.toList s.data.toList by rw [hP])
  clear h hn hP hz
  go_enter Tryz.func22, Tryz.ntmps22
  go_wp2
  go_loopw [5, 6] (fun s5 s6 wr => ∃ (i : Nat) (acc : List Fl), i ≤ l.length ∧ s6 = .int .i64 i ∧ Hid (acc = (l.take i).filter P) ∧ Hid (wr.ownsRow w.heap.size 40 3 s5 acc.length (acc.flatMap cF)) ∧ Below w.heap.size w wr) (fun _ s6 _ => l.length - (intOf s6).toNat)
  case atStart => exact ⟨0, [], Nat.zero_le _, rfl, Lib.hid (by simp), Lib.hid (World.ownsRow_nil _ _ _ _), Below.refl _ _⟩
  case round =>
    obtain ⟨i, acc, hil, rfl, HA, hown, hb⟩ := hrel
    by_cases hlt : i < l.length
    · obtain ⟨f, hf⟩ : ∃ f, l[i]? = some f := ⟨_, List.getElem?_eq_getElem hlt⟩
      obtain ⟨ad, rfl, c0, c1, c2⟩ := Fils.at_ (HO.out.below hb) hf
      have HT := Lib.hid (filter_snoc (p := P) hf)
      have HPf := Lib.hid (HPX.out f)
      have hal : acc.length ≤ 100000 := by rw [HA.out]; exact Nat.le_trans (List.length_filter_le _ _) (by rw [List.length_take]; omega)
      have CX := Lib.hid fun W => refClash_any f.1 s W (HZ.out.at_ hf) hs
      obtain ⟨p, m, d⟩ := f
      obtain ⟨k, hk⟩ : ∃ k, k = cls p.data.toList s.data.toList := ⟨_, rfl⟩
      simp only at HPf CX
      rw [← hk] at HPf CX
      have hsz := hb.size
      clear hf hk
      cases k with
      | true =>
        have HN := Lib.hid (show (l.take (i + 1)).filter P = acc by rw [HT.out, HPf.out, HA.out]; simp)
        go_wp2_with fail
        refine (CX.out _).mono ?_
        rintro e w' ⟨rfl, rfl⟩
        go_wp2
        go_roundw
        case rel => exact ⟨i + 1, acc, by omega, by go_num, Lib.hid HN.out.symm, hown, hb⟩
        case measure => simp [intOf]; omega
      | false =>
        have HN := Lib.hid (show (l.take (i + 1)).filter P = acc ++ [(p, m, d)] by rw [HT.out, HPf.out, HA.out]; simp)
        have own4 := hown.out.alloc (.cells #[.string p, .int .i64 m, .string d] 40)
        have news4 := news_one wr #[.string p, .int .i64 m, .string d] 40 wr.heap.size rfl
        go_wp2_with fail
        refine (CX.out _).mono ?_
        rintro e w' ⟨rfl, rfl⟩
        go_wp2_with (at_builtin; refine wpList_append_own _ rfl _ _ 28 rfl w.heap.size 40 i0 (.agg #[.string ⟨#[]⟩, .int .i64 0, .string ⟨#[]⟩]) 3 40 Tryz.underlying28 hi hz0 hz1 hz2 rfl (by decide) _ _ _ rfl own4 ⟨wr.heap.size, 0, none⟩ 1 1 [.string p, .int .i64 m, .string d] rfl rfl news4 (by simp [Value.oneCell']) (by unfold maxLen; omega) (by omega) (by simp; omega) ?_; intro v5 w5 ow5 hg5 _)
        have hb5 : Below w.heap.size w w5 := (hb.alloc hsz _).grown hg5 (by simp; omega) (fun k hk => (hown.out.lt k hk).1)
        have hown5 : Hid (w5.ownsRow w.heap.size 40 3 v5 (acc ++ [(p, m, d)]).length ((acc ++ [(p, m, d)]).flatMap cF)) := Lib.hid (by rw [flat_snoc, List.length_append]; exact ow5)
        clear news4 own4 hg5 ow5
        go_wp2
        go_roundw
        case rel => exact ⟨i + 1, acc ++ [(p, m, d)], by omega, by go_num, Lib.hid HN.out.symm, hown5, hb5⟩
        case measure => simp [intOf]; omega
    · obtain rfl : i = l.length := by omega
      have HE := Lib.hid (show clearF l s = acc by rw [HPF.out, HA.out, List.take_length])
      go_wp2
      go_ret
      exact ⟨_, rfl, by rw [HE.out]; exact hown.out, hb⟩
end Go.Proofs.YtplleaimmmanhaaGreatDoor
namespace Go.Proofs.YtplleaimmmanhaaGreatDoor
open Go.RowKit

theorem refFileSize : (Tryz.prog.info? 40).map (·.size) = some 3 := by kernel_rfl
theorem getF_first {l : List Fl} {s : ByteArray} {k : Nat} {f : Fl} (h : l[k]? = some f) (hs : f.1 = s) (hp : ∀ x ∈ l.take k, x.1 ≠ s) : getF l s = some f := by
  obtain ⟨hk, e⟩ := List.getElem?_eq_some_iff.1 h
  unfold getF
  rw [List.find?_eq_some_iff_getElem]
  refine ⟨by simpa using hs, k, hk, e, fun t ht => ?_⟩
  have := hp (l[t]'(by omega)) (by rw [List.mem_take_iff_getElem]; exact ⟨t, by omega, rfl⟩)
  simpa using this
theorem getF_no {l : List Fl} {s : ByteArray} (hp : ∀ x ∈ l, x.1 ≠ s) : getF l s = none := by
  unfold getF
  rw [List.find?_eq_none]
  intro x hx
  simpa using hp x hx

set_option maxHeartbeats 2000000 in
theorem refGet_any (w : World) (v : Value) (l : List Fl) (s : ByteArray) (h : Reads 3 cF w v l) (hl : l.length ≤ 100000) :
    Calls Tryz.prog 15 #[v, .string s] w (Got (getF l s) w) := by
  obtain ⟨W1, hW1⟩ : ∃ W1, W1 = w.alloc (.cells #[.string ⟨#[]⟩, .int .i64 0, .string ⟨#[]⟩] 40) := ⟨_, rfl⟩
  have B1 : Below w.heap.size w W1 := by rw [hW1]; exact (Below.refl _ _).alloc (Nat.le_refl _) _
  obtain ⟨A, c, rfl⟩ := h.form
  have HO := Lib.hid (h.below B1)
  obtain ⟨g, hg⟩ : ∃ g, g = w.heap.size := ⟨_, rfl⟩
  have K1 : W1.heap[g]? = some (.cells #[.string ⟨#[]⟩, .int .i64 0, .string ⟨#[]⟩] 40 (0, 0)) := by rw [hW1, hg]; exact heap_alloc_new w _
  have d0 := cell_of_row W1 g 0 _ 40 (0, 0) K1
  have d1 := cell_of_row W1 g 1 _ 40 (0, 0) K1
  have d2 := cell_of_row W1 g 2 _ 40 (0, 0) K1
  have e0 : W1.frozen? ⟨g, 0, none⟩ = false := by simp [World.frozen?, K1]
  have e1 : W1.frozen? ⟨g, 1, none⟩ = false := by simp [World.frozen?, K1]
  have e2 : W1.frozen? ⟨g, 2, none⟩ = false := by simp [World.frozen?, K1]
  have HK := Lib.hid K1
  have HB := Lib.hid (show ∀ x y z, Below w.heap.size w (((W1.setCell ⟨g, 0, none⟩ x).setCell ⟨g, 1, none⟩ y).setCell ⟨g, 2, none⟩ z) from fun x y z => by
    have hle : w.heap.size ≤ g := by rw [hg]; exact Nat.le_refl _
    exact ((B1.setCell (p := ⟨g, 0, none⟩) hle _).setCell (p := ⟨g, 1, none⟩) hle _).setCell (p := ⟨g, 2, none⟩) hle _)
  clear h K1 B1
  go_enter Tryz.func15, Tryz.ntmps15
  go_wp2_with fail
  rw [← hW1, ← hg]
  clear hW1 hg
  go_loopw [5, 6] (fun s5 s6 wr => ∃ k : Nat, k ≤ l.length ∧ s5 = .bool false ∧ s6 = .int .i64 k ∧ Hid (∀ x ∈ l.take k, x.1 ≠ s) ∧ SameW wr W1) (fun _ s6 _ => l.length - (intOf s6).toNat)
  case atStart => exact ⟨0, Nat.zero_le _, rfl, rfl, Lib.hid (by simp), rfl⟩
  case round =>
    obtain ⟨k, hk, rfl, rfl, hp, hw⟩ := hrel
    unfold SameW at hw
    subst hw
    by_cases hlt : k < l.length
    · obtain ⟨f, hf⟩ : ∃ f, l[k]? = some f := ⟨_, List.getElem?_eq_getElem hlt⟩
      obtain ⟨ad, rfl, c0, c1, c2⟩ := Fils.at_ HO.out hf
      have HF := Lib.hid hf
      have k0 : (0 : Int) ≤ (k : Int) := Int.natCast_nonneg _
      have k1 : (k : Int) < (l.length : Int) := by omega
      clear hf
      by_cases hps : f.1 = s
      · have HG := Lib.hid (getF_first HF.out hps hp.out)
        have e1 : f.1.toList = s.toList := by rw [hps]
        have e1' : (f.1.toList == s.toList) = true := by simp [e1]
        clear hps
        go_wp2
        refine bodyPost_ret (results_row_tmp (fn := Tryz.f15) rfl _ _ g 40 #[.string f.1, .int .i64 f.2.1, .string f.2.2] (0, 0) _ rfl (by first | exact set_row _ _ _ _ _ _ _ (set_row _ _ _ _ _ _ _ (set_row _ _ _ _ _ _ _ HK.out)) | simpa using set_row _ _ _ _ _ _ _ (set_row _ _ _ _ _ _ _ (set_row _ _ _ _ _ _ _ HK.out))) Tryz.underlying40 rfl refFileSize) rfl ⟨by rw [HG.out]; rfl, HB.out _ _ _⟩
      · have HN := Lib.hid hps
        have e1 : ¬ f.1.toList = s.toList := fun e => hps (tl_eq e)
        have e1' : (f.1.toList == s.toList) = false := by simpa using e1
        clear hps
        go_wp2
        go_roundw
        case rel => exact ⟨k + 1, by omega, rfl, by go_num, Lib.hid (by
          rw [take_snoc HF.out]
          intro x hm
          rcases List.mem_append.1 hm with hm | hm
          · exact hp.out x hm
          · rw [List.mem_singleton.1 hm]; exact HN.out), rfl⟩
        case measure => simp [intOf]; omega
    · obtain rfl : k = l.length := by omega
      have HG := Lib.hid (getF_no (show ∀ x ∈ l, x.1 ≠ s by have := hp.out; rw [List.take_length] at this; exact this))
      go_wp2
      refine bodyPost_ret (results_row_tmp (fn := Tryz.f15) rfl _ _ g 40 #[.string ⟨#[]⟩, .int .i64 0, .string ⟨#[]⟩] (0, 0) _ rfl (by first | exact set_row _ _ _ _ _ _ _ (set_row _ _ _ _ _ _ _ (set_row _ _ _ _ _ _ _ HK.out)) | simpa using set_row _ _ _ _ _ _ _ (set_row _ _ _ _ _ _ _ (set_row _ _ _ _ _ _ _ HK.out))) Tryz.underlying40 rfl refFileSize) rfl ⟨by rw [HG.out]; rfl, HB.out _ _ _⟩
end Go.Proofs.YtplleaimmmanhaaGreatDoor
namespace Go.Proofs.YtplleaimmmanhaaGreatDoor
open Go.RowKit

set_option maxHeartbeats 4000000 in
theorem refSame_any (w : World) (v u : Value) (a b : List Fl) (h : Reads 3 cF w v a) (g : Reads 3 cF w u b) :
    Calls Tryz.prog 16 #[v, u] w (BoolTo (decide (a = b)) w) := by
  obtain ⟨A, c, rfl⟩ := h.form
  obtain ⟨B, d, rfl⟩ := g.form
  have hn := h.len
  have gn := g.len
  have hm1 : a.length ≤ 9223372036854775807 := by have := hn.2; unfold maxLen at this; omega
  have hm2 : b.length ≤ 9223372036854775807 := by have := gn.2; unfold maxLen at this; omega
  have HA := Lib.hid h
  have HB := Lib.hid g
  clear h g hn gn
  by_cases hnm : a.length = b.length
  · have hi0 : ((a.length : Int) != (b.length : Int)) = false := by simp [hnm]
    have HN := Lib.hid hnm
    clear hnm
    go_enter Tryz.func16, Tryz.ntmps16
    go_wp2
    go_loopw [5] (fun s5 wr => ∃ k q : Nat, k ≤ a.length ∧ s5 = .int .i64 k ∧ Hid (∀ i, i < k → a[i]? = b[i]?) ∧ wr = w.drewN q) (fun s5 _ => a.length - (intOf s5).toNat)
    case atStart => exact ⟨0, 0, Nat.zero_le _, rfl, Lib.hid (fun i hi => absurd hi (Nat.not_lt_zero _)), rfl⟩
    case round =>
      obtain ⟨k, q, hk, rfl, hp, rfl⟩ := hrel
      by_cases hlt : k < a.length
      · obtain ⟨x, hx⟩ : ∃ x, a[k]? = some x := ⟨_, List.getElem?_eq_getElem hlt⟩
        obtain ⟨y, hy⟩ : ∃ y, b[k]? = some y := ⟨_, List.getElem?_eq_getElem (by rw [← HN.out]; exact hlt)⟩
        obtain ⟨ad, rfl, c0, c1, c2⟩ := Fils.at_ HA.out hx
        obtain ⟨ad2, rfl, d0, d1, d2⟩ := Fils.at_ HB.out hy
        have HX := Lib.hid hx
        have HY := Lib.hid hy
        have k0 : (0 : Int) ≤ (k : Int) := Int.natCast_nonneg _
        have k1 : (k : Int) < (a.length : Int) := by omega
        have k2 : (k : Int) < (b.length : Int) := by have := HN.out; omega
        have HNE := Lib.hid (show x ≠ y → decide (a = b) = false from fun hne => decide_eq_false fun e => by
          rw [e, hy] at hx
          exact hne (Option.some.inj hx).symm)
        clear hx hy
        by_cases hxy : x = y
        · subst hxy
          obtain ⟨p, m, s⟩ := x
          go_wp2_with fail
          go_quiet (fail)
          go_wp2
          go_roundw
          case rel => exact ⟨k + 1, _, by omega, by go_num, Lib.hid (fun i hi => by
            rcases Nat.lt_or_ge i k with h1 | h1
            · exact hp.out i h1
            · obtain rfl : i = k := by omega
              rw [HX.out, HY.out]), rfl⟩
          case measure => simp [intOf]; omega
        · have HC := Lib.hid (HNE.out hxy)
          obtain ⟨p, m, s⟩ := x
          obtain ⟨p', m', s'⟩ := y
          by_cases h1 : p = p'
          · subst h1
            by_cases h2 : m = m'
            · subst h2
              have h3 : ¬ s = s' := fun e => hxy (by rw [e])
              have e3 : ¬ s.toList = s'.toList := fun e => h3 (tl_eq e)
              have e3' : (s.toList == s'.toList) = false := by simpa using e3
              clear h3 hxy
              go_wp2_with fail
              go_quiet (fail)
              go_wp2
              go_ret
              exact ⟨by rw [HC.out]; rfl, _, drewN_two _ _ _⟩
            · have e2 : (m == m') = false := by simpa using h2
              clear hxy
              go_wp2_with fail
              go_quiet (fail)
              go_wp2
              go_ret
              exact ⟨by rw [HC.out]; rfl, _, drewN_two _ _ _⟩
          · have e1 : ¬ p.toList = p'.toList := fun e => h1 (tl_eq e)
            have e1' : (p.toList == p'.toList) = false := by simpa using e1
            clear hxy h1
            go_wp2_with fail
            go_quiet (fail)
            go_wp2
            go_ret
            exact ⟨by rw [HC.out]; rfl, _, drewN_two _ _ _⟩
      · obtain rfl : k = a.length := by omega
        have HC : Hid (decide (a = b) = true) := Lib.hid (decide_eq_true (prefix_all hp.out rfl HN.out.symm))
        go_wp2
        go_ret
        exact ⟨by rw [HC.out]; rfl, _, rfl⟩
  · have hi0 : ((a.length : Int) != (b.length : Int)) = true := by simp; omega
    have HC : Hid (decide (a = b) = false) := Lib.hid (decide_eq_false fun e => hnm (by rw [e]))
    clear hnm
    go_enter Tryz.func16, Tryz.ntmps16
    go_wp2
    go_ret
    exact ⟨by rw [HC.out]; rfl, 0, rfl⟩
end Go.Proofs.YtplleaimmmanhaaGreatDoor
