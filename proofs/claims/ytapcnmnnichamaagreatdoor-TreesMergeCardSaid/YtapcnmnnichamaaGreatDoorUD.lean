/-
  rectoref11.Chunks: three texts, piece by piece.
  rectoref11.Chunks: whose lines are too many.
-/
import Derived.Test.YtapcnmnnichamaaGreatDoorUW
import Derived.BigQuiet
import Derived.Deep.DeepCutAuto
import Derived.Deep.CutBlock
import Derived.Deep.RegionLaw
import Derived.IntWalk

namespace Go.Proofs.YtapcnmnnichamaaGreatDoor.Mg
open Go Go.RowKit

theorem own_formk {w : World} {base k n : Nat} {e : TypeId} {v : Value} {xs : List Value} (h : w.ownsRow base e k v n xs) : ∃ A c, v = .slice A n c := by
  rcases h.2 with ⟨rfl, h0⟩ | ⟨g, cap, cur, rfl, _⟩
  · exact ⟨_, _, by rw [h0]⟩
  · exact ⟨_, _, rfl⟩
theorem refChunkInfo : (Tryz.prog.info? 168).map (fun i => (i.zero, i.size, i.bytes)) = some (some (.agg #[.slice none 0 0, .slice none 0 0, .slice none 0 0, .bool false, .slice none 0 0]), 5, 104) := by kernel_rfl
/-- All pieces of three texts. -/
def allR (xs ys zs : List ByteArray) : List (Ck ByteArray) := chunks (pls (ed xs ys) 0) (pls (ed xs zs) 0) xs ys zs (xs.length + 1) 0 0 0
theorem places_edR (xs ys : List ByteArray) : Places (pls (ed xs ys) 0) xs ys := by
  have ho := ed_ops xs ys
  obtain ⟨h1, h2, _⟩ := ed_all xs ys
  refine ⟨by rw [pls_len _ ho, h1], fun i j hij => ?_, fun i j i' j' a b c => pls_mono _ ho _ _ _ _ _ a b c⟩
  obtain ⟨_, x, e1, e2⟩ := pls_at _ ho _ _ _ hij
  rw [h1] at e1
  rw [h2, Nat.sub_zero] at e2
  exact ⟨x, e1, e2⟩

set_option maxRecDepth 100000 in
set_option maxHeartbeats 4000000 in
theorem refChunks_ok (w : World) (A B C : Option Addr) (cA cB cC : Nat) (xs ys zs : List ByteArray) (h0 : Strs w (.slice A xs.length cA) xs) (h1 : Strs w (.slice B ys.length cB) ys) (h2 : Strs w (.slice C zs.length cC) zs) (hx : xs.length ≤ 256) (hy : ys.length ≤ 256) (hz : zs.length ≤ 256) :
    Calls Tryz.prog 82 #[.slice A xs.length cA, .slice B ys.length cB, .slice C zs.length cC] w (RefChunked w xs ys zs (allR xs ys zs)) := by
  obtain ⟨i0, hi, hz0, hz1, hz2⟩ := info_parts refChunkInfo
  have b1 := (Below.refl w.heap.size w).alloc (Nat.le_refl _) (.cells #[.slice none 0 0, .int .i64 0] 40)
  have K7 := Blk.new w 40 #[.slice none 0 0, .int .i64 0]
  have H0 := Lib.hid h0
  have H1 := Lib.hid h1
  have H2 := Lib.hid h2
  clear h0 h1 h2
  go_enter Tryz.func82, Tryz.ntmps82
  go_wp2_with fail
  generalize hW1 : w.alloc (.cells #[.slice none 0 0, .int .i64 0] 40) = W1 at *
  clear hW1
  obtain ⟨Y, hY⟩ : ∃ Y, Y = w.heap.size := ⟨_, rfl⟩
  rw [← hY] at K7 ⊢
  have HY := Lib.hid hY
  clear hY
  have B1 := Lib.hid b1
  refine (refLines_any W1 _ _ xs ys (H0.out.below b1) (H1.out.below b1)).mono ?_
  rintro e w2 (⟨_, _, v1, rfl, o1, b2⟩ | ⟨k, g, hk, _⟩)
  case inr => unfold Over at hk; omega
  obtain ⟨A1, c1, rfl⟩ := own_formk o1
  have B2 := Lib.hid (B1.out.trans (b2.mono B1.out.size))
  have K7b := K7.below b2 K7.lt
  have b3 := (Below.refl w2.heap.size w2).alloc (Nat.le_refl _) (.cells #[.slice none 0 0, .int .i64 0] 40)
  have K9 := Blk.new w2 40 #[.slice none 0 0, .int .i64 0]
  have O1 := own2_keep o1 b3
  have K7c := K7b.below b3 K7b.lt
  have B3 := Lib.hid (B2.out.trans (b3.mono B2.out.size))
  clear b1 K7 o1 b2 K7b b3 B1 B2
  go_wp2_with fail
  generalize hW3 : w2.alloc (.cells #[.slice none 0 0, .int .i64 0] 40) = W3 at *
  clear hW3
  generalize w2.heap.size = X at *
  refine (refLines_any W3 _ _ xs zs (H0.out.below B3.out) (H2.out.below B3.out)).mono ?_
  rintro e w4 (⟨_, _, v2, rfl, o2, b4⟩ | ⟨k, g, hk, _⟩)
  case inr => unfold Over at hk; omega
  obtain ⟨A2, c2, rfl⟩ := own_formk o2
  have b5 := (Below.refl w4.heap.size w4).alloc (Nat.le_refl _) (.cells #[.slice none 0 0, .int .i64 0] 40)
  have b45 := b4.trans (b5.mono b4.size)
  have O1b := own2_keep O1 b45
  have O2 := own2_keep o2 b5
  have K7d := K7c.below b45 K7c.lt
  have K9d := K9.below b45 K9.lt
  have K11 := Blk.new w4 40 #[.slice none 0 0, .int .i64 0]
  have B5 := Lib.hid (B3.out.trans (b45.mono B3.out.size))
  clear O1 o2 K7c K9 b4 b5 b45 B3
  go_wp2_with fail
  generalize hW5 : w4.alloc (.cells #[.slice none 0 0, .int .i64 0] 40) = W5 at *
  clear hW5
  have hl1 : (ed xs ys).length ≤ 1000 := by have := ed_len xs ys; omega
  have hl2 : (ed xs zs).length ≤ 1000 := by have := ed_len xs zs; omega
  refine (refKept_any W5 _ _ (ed xs ys) xs.length O1b (ed_ops xs ys) hl1 (by rw [(ed_all xs ys).1]) (by omega)).mono ?_
  rintro e w6 ⟨P, rfl, hP, rP, b6⟩
  have O2b := own2_keep O2 b6
  have K7e := K7d.below b6 K7d.lt
  have K9e := K9d.below b6 K9d.lt
  have B6 := Lib.hid (B5.out.trans (b6.mono B5.out.size))
  clear O1b O2 K7d K9d K11 b6 B5
  go_wp2_with fail
  refine (refKept_any w6 _ _ (ed xs zs) xs.length O2b (ed_ops xs zs) hl2 (by rw [(ed_all xs zs).1]) (by omega)).mono ?_
  rintro e W ⟨Q, rfl, hQ, rQ, b7⟩
  have RP := Lib.hid (rowIs_below rP b7)
  have RQ := Lib.hid rQ
  have K7 := Lib.hid (K7e.below b7 K7e.lt)
  have K9 := Lib.hid (K9e.below b7 K9e.lt)
  have BW := Lib.hid (B6.out.trans (b7.mono B6.out.size))
  clear O2b K7e K9e b7 B6 rP rQ hP hQ hl1 hl2
  have hPP := Lib.hid (places_edR xs ys)
  have hQQ := Lib.hid (places_edR xs zs)
  obtain ⟨p, hp⟩ : ∃ p, p = pls (ed xs ys) 0 := ⟨_, rfl⟩
  obtain ⟨q, hq⟩ : ∃ q, q = pls (ed xs zs) 0 := ⟨_, rfl⟩
  obtain ⟨all, hall⟩ : ∃ L, L = allR xs ys zs := ⟨_, rfl⟩
  have HALL := Lib.hid (show all = chunks p q xs ys zs (xs.length + 1) 0 0 0 by rw [hall, hp, hq]; rfl)
  rw [← hp] at RP hPP
  rw [← hq] at RQ hQQ
  have HALLR := Lib.hid hall
  clear hp hq hall
  go_wp2_with fail
  go_loopw [14, 15, 16, 17, 18, 19, 20, 21, 22] (fun s14 s15 s16 s17 _ _ _ _ _ wr => ∃ (i j k f : Nat) (done : List (Ck ByteArray)) (vals : List Value), i ≤ xs.length ∧ s15 = .int .i64 i ∧ s16 = .int .i64 j ∧ s17 = .int .i64 k ∧ Hid (xs.length < f + i) ∧ Hid (Beh p ys i j) ∧ Hid (Beh q zs i k) ∧ Hid (done.length ≤ 2 * i) ∧ Hid (done ++ chunks p q xs ys zs f i j k = all) ∧
      Hid (wr.ownsRow W.heap.size 168 5 s14 done.length vals) ∧ Hid (CkS w vals done) ∧ Hid (Below W.heap.size W wr)) (fun _ s15 _ _ _ _ _ _ _ _ => xs.length - (intOf s15).toNat)
  case atStart => exact ⟨0, 0, 0, xs.length + 1, [], [], Nat.zero_le _, rfl, rfl, rfl, (by show xs.length < _; omega), Beh.zero _ _, Beh.zero _ _, Nat.zero_le _, HALL.out.symm, World.ownsRow_nil _ _ _ _, rfl, Below.refl _ _⟩
  case round =>
    obtain ⟨i, j, k, f, done, vals, hil, rfl, rfl, rfl, hf, hA, hB, hlen, hd, hown, hck, hb⟩ := hrel
    obtain ⟨f, rfl⟩ : ∃ f', f = f' + 1 := ⟨f - 1, by have := hf.out; omega⟩
    obtain ⟨n, j1, k1, m, S, hst⟩ := stepM_all p q xs ys zs hPP.out.len hQQ.out.len i j k f hil
    have hstA := hA.out.step hPP.out S.s
    have hstB := hB.out.step hQQ.out S.s.turn
    have hin := S.s.le
    have hnx := S.s.nb
    have hnm := S.s.nm
    have hj1 := hstA.1
    have hjm := hstA.2.1
    have hk1 := hstB.1
    have hkm := hstB.2.1
    have HS := Lib.hid S
    have HST := Lib.hid hst
    have HSA := Lib.hid hstA.2.2
    have HSB := Lib.hid hstB.2.2
    clear S hst hstA hstB
    have i0' : (0 : Int) ≤ (i : Int) := Int.natCast_nonneg _
    have j0' : (0 : Int) ≤ (j : Int) := Int.natCast_nonneg _
    have k0' : (0 : Int) ≤ (k : Int) := Int.natCast_nonneg _
    have n0' : (0 : Int) ≤ (n : Int) := Int.natCast_nonneg _
    have CP := Lib.hid (fun t (ht : t < xs.length) => (rowIs_below RP.out hb.out).cell ht)
    have CQ := Lib.hid (fun t (ht : t < xs.length) => (rowIs_below RQ.out hb.out).cell ht)
    obtain ⟨wo, hwo⟩ : ∃ wo : World, wo = wr := ⟨_, rfl⟩
    rw [← hwo] at hown hb CP CQ ⊢
    clear hwo
    go_upto_block 2 with fail
    go_cut [18] (fun x18 wx => x18 = .int .i64 (n : Int) ∧ wx = wo)
    case first =>
      go_wp2_with fail
      go_loopw [18] (fun s18 wx => ∃ x : Nat, i ≤ x ∧ x ≤ n ∧ s18 = .int .i64 x ∧ wx = wo) (fun s18 _ => n - (intOf s18).toNat)
      case atStart => exact ⟨i, Nat.le_refl _, hin, rfl, rfl⟩
      case round =>
        obtain ⟨x, hx1, hx2, rfl, rfl⟩ := hrel
        have x0 : (0 : Int) ≤ (x : Int) := Int.natCast_nonneg _
        by_cases hxn : x < n
        · have hxl : (x : Int) < (xs.length : Int) := by omega
          have hno := HS.out.s.no x hx1 hxn
          have cP := CP.out x (by omega)
          have cQ := CQ.out x (by omega)
          obtain ⟨px, hpx⟩ : ∃ y, p[x]? = some y := ⟨_, List.getElem?_eq_getElem (by rw [hPP.out.len]; omega)⟩
          obtain ⟨qx, hqx⟩ : ∃ y, q[x]? = some y := ⟨_, List.getElem?_eq_getElem (by rw [hQQ.out.len]; omega)⟩
          rw [hpx] at cP
          rw [hqx] at cQ
          unfold isK at hno
          rw [hpx, hqx] at hno
          clear hpx hqx
          cases px with
          | none =>
            simp only [pzV] at cP
            clear cQ hno
            go_wp2
            go_roundw
            case rel => exact ⟨x + 1, by omega, by omega, by go_num, by trivial⟩
            case measure => simp [intOf]; omega
          | some a =>
            cases qx with
            | none =>
              simp only [pzV] at cP cQ
              have a0 : ¬ (a : Int) < 0 := by omega
              clear hno
              go_wp2
              go_roundw
              case rel => exact ⟨x + 1, by omega, by omega, by go_num, by trivial⟩
              case measure => simp [intOf]; omega
            | some d => simp [isSome2] at hno
        · obtain rfl : x = n := by omega
          by_cases hnb : x < xs.length
          · have hxl : (x : Int) < (xs.length : Int) := by omega
            have hy := HS.out.s.yes hnb
            have cP := CP.out x hnb
            have cQ := CQ.out x hnb
            rw [hy.1] at cP
            rw [hy.2] at cQ
            simp only [pzV] at cP cQ
            have a0 : ¬ (j1 : Int) < 0 := by omega
            have a1 : ¬ (k1 : Int) < 0 := by omega
            clear hy
            go_wp2_with fail
            go_meet
            exact ⟨rfl, rfl⟩
          · have hxl : ¬ (x : Int) < (xs.length : Int) := by omega
            go_wp2_with fail
            go_meet
            exact ⟨rfl, rfl⟩
    case rest =>
      obtain ⟨rfl, hwe⟩ := hcut
      have hwe := hwe.symm
      subst hwe
      go_upto_if 79 with fail
      go_cut [19, 20] (fun x19 x20 wy => x19 = .int .i64 (j1 : Int) ∧ x20 = .int .i64 (k1 : Int) ∧ wy = wo)
      case first =>
        by_cases hnb : n < xs.length
        · have hxl : (n : Int) < (xs.length : Int) := by omega
          have hy := HS.out.s.yes hnb
          have cP := CP.out n hnb
          have cQ := CQ.out n hnb
          rw [hy.1] at cP
          rw [hy.2] at cQ
          simp only [pzV] at cP cQ
          clear hy
          go_wp2_with fail
          go_meet
          exact ⟨rfl, rfl, rfl⟩
        · have hxl : ¬ (n : Int) < (xs.length : Int) := by omega
          have hfin := HS.out.s.fin (by omega)
          obtain ⟨e1, e2, _⟩ := hfin
          have E1 := Lib.hid e1
          have E2 := Lib.hid e2
          clear e1 e2
          go_wp2_with fail
          go_meet
          exact ⟨by rw [E1.out], by rw [E2.out], rfl⟩
      case rest =>
        obtain ⟨rfl, rfl, hwe⟩ := hcut
        have hwe := hwe.symm
        subst hwe
        go_upto_region 21 with fail
        go_cut [100] (fun x100 wy => x100 = .bool (decide (i < n ∨ j < j1 ∨ k < k1)) ∧ wy = wo)
        case first =>
          by_cases g1 : i < n
          · have HD := Lib.hid (decide_eq_true (show i < n ∨ j < j1 ∨ k < k1 from .inl g1))
            have g1i : (i : Int) < (n : Int) := by omega
            go_wp2_with fail
            go_meet
            exact ⟨by rw [HD.out], rfl⟩
          · have g1i : (decide ((i : Int) < (n : Int))) = false := decide_eq_false (by omega)
            by_cases g2 : j < j1
            · have HD := Lib.hid (decide_eq_true (show i < n ∨ j < j1 ∨ k < k1 from .inr (.inl g2)))
              have g2i : (j : Int) < (j1 : Int) := by omega
              go_wp2_with fail
              go_meet
              exact ⟨by rw [HD.out], rfl⟩
            · have g2i : (decide ((j : Int) < (j1 : Int))) = false := decide_eq_false (by omega)
              by_cases g3 : k < k1
              · have HD := Lib.hid (decide_eq_true (show i < n ∨ j < j1 ∨ k < k1 from .inr (.inr g3)))
                have g3i : (k : Int) < (k1 : Int) := by omega
                go_wp2_with fail
                go_meet
                exact ⟨by rw [HD.out], rfl⟩
              · have HD := Lib.hid (decide_eq_false (show ¬ (i < n ∨ j < j1 ∨ k < k1) by omega))
                have g3i : (decide ((k : Int) < (k1 : Int))) = false := decide_eq_false (by omega)
                go_wp2_with fail
                go_meet
                exact ⟨by rw [HD.out], rfl⟩
        case rest =>
          obtain ⟨rfl, hwe⟩ := hcut
          have hwe := hwe.symm
          subst hwe
          go_upto_if 100 with fail
          go_cut [14] (fun x14 wy => ∃ vals', Hid (wy.ownsRow W.heap.size 168 5 x14 (done ++ firstC xs ys zs i j k n j1 k1).length vals') ∧ Hid (CkS w vals' (done ++ firstC xs ys zs i j k n j1 k1)) ∧ Hid (Below W.heap.size W wy))
          case first =>
            by_cases hc : i < n ∨ j < j1 ∨ k < k1
            · have hfc : firstC xs ys zs i j k n j1 k1 = [decideC (cutL2 xs i n) (cutL2 ys j j1) (cutL2 zs k k1)] := by unfold firstC; rw [if_pos hc]
              rw [decide_eq_true hc]
              have HFC := Lib.hid hfc
              clear hfc hc
              have q1 : (i : Int) ≤ (n : Int) := by omega
              have q2 : (j : Int) ≤ (j1 : Int) := by omega
              have q3 : (k : Int) ≤ (k1 : Int) := by omega
              have hlA := H0.out.len.2.1
              have hlB := H1.out.len.2.1
              have hlC := H2.out.len.2.1
              have q4 : (n : Int) ≤ (cA : Int) := by omega
              have q5 : (j1 : Int) ≤ (cB : Int) := by omega
              have q6 : (k1 : Int) ≤ (cC : Int) := by omega
              have s0 := Strs.piece H0.out hin hnx
              have s1 := Strs.piece H1.out hj1 (show j1 ≤ ys.length by omega)
              have s2 := Strs.piece H2.out hk1 (show k1 ≤ zs.length by omega)
              have hwo := BW.out.trans (hb.out.mono BW.out.size)
              have T := Lib.hid (fun W' (hW : Below wo.heap.size wo W') => refBetween_any W' _ _ _ _ _ _ (s0.below (hwo.trans (hW.mono hwo.size))) (s1.below (hwo.trans (hW.mono hwo.size))) (s2.below (hwo.trans (hW.mono hwo.size))))
              have S0 := Lib.hid s0
              have S1 := Lib.hid s1
              have S2 := Lib.hid s2
              have HWO := Lib.hid hwo
              have DB := Lib.hid (decideC_base (cutL2 xs i n) (cutL2 ys j j1) (cutL2 zs k k1))
              have DO := Lib.hid (decideC_ours (cutL2 xs i n) (cutL2 ys j j1) (cutL2 zs k k1))
              have DT := Lib.hid (decideC_theirs (cutL2 xs i n) (cutL2 ys j j1) (cutL2 zs k k1))
              have hdl := hlen.out
              clear s0 s1 s2 hwo
              generalize decideC (cutL2 xs i n) (cutL2 ys j j1) (cutL2 zs k k1) = dk at *
              go_wp2_with fail
              go_region_law (first
                | (refine step_append_lies _ (by rfl) _ _ _ (by rfl) W.heap.size 168 i0 _ 5 104 Tryz.underlying165 hi hz0 hz1 hz2 rfl (by omega) _ done.length vals (by rfl) (hownB.out.alloc _)
                    ⟨wB.heap.size, 0, none⟩ 1 1 [.slice (if cA = i then A else Option.map (fun x => x.add i) A) (n - i) (cA - i), .slice (if cB = j then B else Option.map (fun x => x.add j) B) (j1 - j) (cB - j), .slice (if cC = k then C else Option.map (fun x => x.add k) C) (k1 - k) (cC - k), .bool dk.clash, .slice A4 m4 c4] (by rfl) (by rfl) (World.news_of_block (cs := #[.slice (if cA = i then A else Option.map (fun x => x.add i) A) (n - i) (cA - i), .slice (if cB = j then B else Option.map (fun x => x.add j) B) (j1 - j) (cB - j), .slice (if cC = k then C else Option.map (fun x => x.add k) C) (k1 - k) (cC - k), .bool dk.clash, .slice A4 m4 c4]) (t := 168) (fr := (0, 0)) (heap_alloc_new wB _)) (by simp [Value.oneCell'])
                    (by omega) (by unfold maxLen; omega) (by omega) (by simp; omega) (wB.heap.size + 1) (by simp) ?_; intro gg cap w3 hown1 hgrow hat hlt)
                | (go_simp; go_at_call 114; (with_reducible refine (T.out _ ((Below.refl _ wo).drew)).mono ?_); rintro e wB ⟨ve, rfl, hve, bB⟩; have hve1 := hve w S0.out S1.out S2.out; obtain ⟨A4, m4, c4, rfl⟩ := hve1.form; have hVE := Lib.hid hve1; have hbB := Lib.hid (((Below.refl wo.heap.size wo).drew).trans bB); have hownB := Lib.hid (own2_keep hown.out hbB.out); have hWs := (hb.out.trans (hbB.out.mono hb.out.size)).size; clear hve hve1 bB))
              generalize hAA : (if cA = i then A else Option.map (fun x => x.add i) A) = aA
              have HAA := Lib.hid hAA
              clear hAA
              generalize hAB : (if cB = j then B else Option.map (fun x => x.add j) B) = aB
              have HAB := Lib.hid hAB
              clear hAB
              generalize hAC : (if cC = k then C else Option.map (fun x => x.add k) C) = aC
              have HAC := Lib.hid hAC
              clear hAC
              have HO1 := Lib.hid hown1
              have HGR := Lib.hid hgrow
              have HWS := Lib.hid hWs
              clear hown1 hgrow hat hlt hWs q1 q2 q3 q4 q5 q6 hlA hlB hlC hdl
              go_wp2_with fail
              change Met _ (Act.put _ (some 14) _) _
              simp only [Act.put, List.setIfInBounds_toArray, List.set_cons_zero, List.set_cons_succ]
              go_meet
              exact Exists.intro (vals ++ [.slice (if cA = i then A else Option.map (fun x => x.add i) A) (n - i) (cA - i), .slice (if cB = j then B else Option.map (fun x => x.add j) B) (j1 - j) (cB - j), .slice (if cC = k then C else Option.map (fun x => x.add k) C) (k1 - k) (cC - k), .bool dk.clash, .slice A4 m4 c4]) (And.intro (by rw [HFC.out, List.length_append]; exact HO1.out) (And.intro (by rw [HFC.out]; exact CkS.snoc (c := dk) (by rw [DB.out]; exact S0.out) (by rw [DO.out]; exact S1.out) (by rw [DT.out]; exact S2.out) hVE.out hck.out) (by
                have hbW := hb.out.trans (hbB.out.mono hb.out.size)
                exact Below.grown (hbW.alloc hbW.size _) HGR.out (by have := hbW.size; simp; omega) (fun z hz => (hown.out.lt z hz).1))))
            · have hfc : firstC xs ys zs i j k n j1 k1 = [] := by unfold firstC; rw [if_neg hc]
              rw [decide_eq_false hc]
              have HFC := Lib.hid hfc
              clear hfc hc
              go_wp2_with fail
              go_meet
              exact ⟨vals, by rw [HFC.out, List.append_nil]; exact hown.out, by rw [HFC.out, List.append_nil]; exact hck.out, hb.out⟩
          case rest =>
            obtain ⟨vals2, HO2, HC2, HB2⟩ := hcut
            obtain ⟨done2, hdone2⟩ : ∃ d, d = done ++ firstC xs ys zs i j k n j1 k1 := ⟨_, rfl⟩
            rw [← hdone2] at HO2 HC2
            have hfl : (firstC xs ys zs i j k n j1 k1).length ≤ 1 := by unfold firstC; split <;> simp
            have hl2 : done2.length ≤ 2 * i + 1 := by rw [hdone2, List.length_append]; have := hlen.out; omega
            have HD2 := Lib.hid (show done2 ++ (keptC xs ys zs n j1 k1 m ++ chunks p q xs ys zs f (n + m) (j1 + m) (k1 + m)) = all by rw [hdone2, List.append_assoc, ← HST.out]; exact hd.out)
            have CP2 := Lib.hid (fun t (ht : t < xs.length) => (rowIs_below RP.out HB2.out).cell ht)
            have CQ2 := Lib.hid (fun t (ht : t < xs.length) => (rowIs_below RQ.out HB2.out).cell ht)
            have HHL := Lib.hid hl2
            clear hdone2 hfl hl2 hown hck hb CP CQ hd HST hA hB
            by_cases hnb : n < xs.length
            · have hxl : (n : Int) < (xs.length : Int) := by omega
              have hne : ((n : Int) == (xs.length : Int)) = false := by simpa using (show (n : Int) ≠ (xs.length : Int) by omega)
              have HRE := Lib.hid (run_eq hPP.out HS.out.s hjm)
              have HRE2 := Lib.hid (run_eq hQQ.out HS.out.s.turn hkm)
              have hmp := HS.out.s.pos hnb
              obtain ⟨wo2, hwo2⟩ : ∃ wo2 : World, wo2 = wc := ⟨_, rfl⟩
              rw [← hwo2] at HO2 HB2 CP2 CQ2 ⊢
              clear hwo2
              go_upto_block 4 with fail
              go_cut [21] (fun x21 wx => x21 = .int .i64 ((n + m : Nat) : Int) ∧ wx = wo2)
              case first =>
                go_wp2_with fail
                go_loopw [21] (fun s21 wx => ∃ y : Nat, n ≤ y ∧ y ≤ n + m ∧ s21 = .int .i64 (y : Int) ∧ wx = wo2) (fun s21 _ => n + m - (intOf s21).toNat)
                case atStart => exact ⟨n, Nat.le_refl _, by omega, rfl, rfl⟩
                case round =>
                  obtain ⟨y, hy1, hy2, rfl, rfl⟩ := hrel
                  have y0 : (0 : Int) ≤ (y : Int) := Int.natCast_nonneg _
                  have hyn0 : (n : Int) ≤ (y : Int) := by omega
                  have hx9 : xs.length ≤ 256 := hx
                  by_cases hyn : y < n + m
                  · have hyl : (y : Int) < (xs.length : Int) := by omega
                    have hr := HS.out.s.run (y - n) (by omega)
                    rw [show n + (y - n) = y by omega] at hr
                    have hb1 := hPP.out.lt hr.1
                    have hb2 := hQQ.out.lt hr.2
                    have cP := CP2.out y (by omega)
                    have cQ := CQ2.out y (by omega)
                    rw [hr.1] at cP
                    rw [hr.2] at cQ
                    simp only [pzV] at cP cQ
                    obtain ⟨a, ha⟩ : ∃ a, a = j1 + (y - n) := ⟨_, rfl⟩
                    obtain ⟨d, hd⟩ : ∃ d, d = k1 + (y - n) := ⟨_, rfl⟩
                    rw [← ha] at cP hb1
                    rw [← hd] at cQ hb2
                    have a0 : (0 : Int) ≤ (a : Int) := by omega
                    have d0 : (0 : Int) ≤ (d : Int) := by omega
                    have a9 : (a : Int) ≤ 256 := by omega
                    have d9 : (d : Int) ≤ 256 := by omega
                    have j9 : (j1 : Int) ≤ 256 := by omega
                    have k9 : (k1 : Int) ≤ 256 := by omega
                    have j00 : (0 : Int) ≤ (j1 : Int) := by omega
                    have k00 : (0 : Int) ≤ (k1 : Int) := by omega
                    have y9 : (y : Int) ≤ 256 := by omega
                    have e1 : ((a : Int) - (j1 : Int) == (y : Int) - (n : Int)) = true := by simpa using (show (a : Int) - (j1 : Int) = (y : Int) - (n : Int) by omega)
                    have e2 : ((d : Int) - (k1 : Int) == (y : Int) - (n : Int)) = true := by simpa using (show (d : Int) - (k1 : Int) = (y : Int) - (n : Int) by omega)
                    have E1 := Lib.hid ha
                    have E2 := Lib.hid hd
                    clear ha hd hr hb1 hb2
                    go_wp2
                    go_roundw
                    case rel => exact ⟨y + 1, by omega, by omega, by go_num, by trivial⟩
                    case measure => simp [intOf]; omega
                  · obtain rfl : y = n + m := by omega
                    by_cases hyl0 : n + m < xs.length
                    · have hmax := HS.out.max hyl0
                      have hyl : ((n + m : Nat) : Int) < (xs.length : Int) := by omega
                      have cP := CP2.out (n + m) hyl0
                      have cQ := CQ2.out (n + m) hyl0
                      obtain ⟨px, hpx⟩ : ∃ y, p[n + m]? = some y := ⟨_, List.getElem?_eq_getElem (by rw [hPP.out.len]; omega)⟩
                      obtain ⟨qx, hqx⟩ : ∃ y, q[n + m]? = some y := ⟨_, List.getElem?_eq_getElem (by rw [hQQ.out.len]; omega)⟩
                      have hPX := Lib.hid hpx
                      have hQX := Lib.hid hqx
                      rw [hpx] at cP
                      rw [hqx] at cQ
                      rw [hpx, hqx] at hmax
                      clear hpx hqx
                      obtain ⟨y, hy⟩ : ∃ y, y = n + m := ⟨_, rfl⟩
                      have HYN := Lib.hid hy
                      rw [← hy] at cP cQ hyl hyn0 y0 hPX hQX ⊢
                      have y9 : (y : Int) ≤ 256 := by omega
                      have hyz : (y : Int) - (n : Int) = (m : Int) := by omega
                      have HYZ := Lib.hid hyz
                      clear hy hyz hyl0 hyn hy1 hy2
                      cases px with
                      | none =>
                        simp only [pzV] at cP
                        clear cQ hmax
                        go_wp2_with fail
                        go_meet
                        exact ⟨by rw [HYN.out], by trivial⟩
                      | some a =>
                        have hb1 := hPP.out.lt hPX.out
                        have a0 : (0 : Int) ≤ (a : Int) := by omega
                        have a9 : (a : Int) ≤ 256 := by omega
                        cases qx with
                        | none =>
                          simp only [pzV] at cP cQ
                          clear hmax hb1
                          go_wp2_with fail
                          go_meet
                          exact ⟨by rw [HYN.out], by trivial⟩
                        | some d =>
                          have hb2 := hQQ.out.lt hQX.out
                          have d0 : (0 : Int) ≤ (d : Int) := by omega
                          have d9 : (d : Int) ≤ 256 := by omega
                          have j9 : (j1 : Int) ≤ 256 := by omega
                          have k9 : (k1 : Int) ≤ 256 := by omega
                          have j00 : (0 : Int) ≤ (j1 : Int) := by omega
                          have k00 : (0 : Int) ≤ (k1 : Int) := by omega
                          simp only [pzV] at cP cQ
                          by_cases hea : a = j1 + m
                          · have hed : d ≠ k1 + m := fun e => hmax ⟨by rw [hea], by rw [e]⟩
                            have e1 : ((a : Int) - (j1 : Int) == (y : Int) - (n : Int)) = true := by have := HYZ.out; simpa using (show (a : Int) - (j1 : Int) = (y : Int) - (n : Int) by omega)
                            have e2 : ((d : Int) - (k1 : Int) == (y : Int) - (n : Int)) = false := by have := HYZ.out; simpa using (show (d : Int) - (k1 : Int) ≠ (y : Int) - (n : Int) by omega)
                            clear hmax hb1 hb2 hea hed
                            go_wp2_with fail
                            go_meet
                            exact ⟨by rw [HYN.out], by trivial⟩
                          · have e1 : ((a : Int) - (j1 : Int) == (y : Int) - (n : Int)) = false := by have := HYZ.out; simpa using (show (a : Int) - (j1 : Int) ≠ (y : Int) - (n : Int) by omega)
                            clear hmax hb1 hb2 hea
                            go_wp2_with fail
                            go_meet
                            exact ⟨by rw [HYN.out], by trivial⟩
                    · have hyl : ¬ ((n + m : Nat) : Int) < (xs.length : Int) := by omega
                      go_wp2_with fail
                      go_meet
                      exact ⟨rfl, by trivial⟩
              case rest =>
                obtain ⟨rfl, hwe⟩ := hcut
                have hwe := hwe.symm
                subst hwe
                have q1 : (n : Int) ≤ ((n + m : Nat) : Int) := by omega
                have hlA := H0.out.len.2.1
                have q4 : ((n + m : Nat) : Int) ≤ (cA : Int) := by omega
                have q0 : (0 : Int) ≤ ((n + m : Nat) : Int) := by omega
                have sK0 := Strs.piece H0.out (show n ≤ n + m by omega) hnm
                rw [if_neg (by omega : ¬ cA = n), show n + m - n = m by omega] at sK0
                have sK := Lib.hid sK0
                clear sK0
                go_upto_region 29 with fail
                generalize Option.map (fun x => x.add n) A = aR at *
                rw [show n + m - n = m by omega]
                have hKC : keptC xs ys zs n j1 k1 m = [⟨cutL2 xs n (n + m), cutL2 xs n (n + m), cutL2 xs n (n + m), false, cutL2 xs n (n + m)⟩] := by
                  unfold keptC
                  rw [if_pos hmp, ← HRE.out, ← HRE2.out]
                have HKC := Lib.hid hKC
                have hll := HHL.out
                have hll2 : done2.length ≤ 2 * xs.length + 1 := by omega
                have hown4 := HO2.out.alloc (.cells #[.slice aR m (cA - n), .slice aR m (cA - n), .slice aR m (cA - n), .bool false, .slice aR m (cA - n)] 168)
                have hnews := World.news_of_block (cs := #[.slice aR m (cA - n), .slice aR m (cA - n), .slice aR m (cA - n), .bool false, .slice aR m (cA - n)]) (t := 168) (fr := (0, 0)) (heap_alloc_new wo2 (.cells #[.slice aR m (cA - n), .slice aR m (cA - n), .slice aR m (cA - n), .bool false, .slice aR m (cA - n)] 168))
                have hb4 := HB2.out.alloc HB2.out.size (.cells #[.slice aR m (cA - n), .slice aR m (cA - n), .slice aR m (cA - n), .bool false, .slice aR m (cA - n)] 168)
                have hsz4 := hb4.size
                have j9 : (j1 : Int) ≤ 256 := by omega
                have k9 : (k1 : Int) ≤ 256 := by omega
                have j00 : (0 : Int) ≤ (j1 : Int) := by omega
                have k00 : (0 : Int) ≤ (k1 : Int) := by omega
                have nm9 : ((n + m : Nat) : Int) ≤ 256 := by omega
                clear hKC
                go_wp2_with (at_builtin; (refine wpList_append_own _ rfl _ _ 165 rfl W.heap.size 168 i0 (.agg #[.slice none 0 0, .slice none 0 0, .slice none 0 0, .bool false, .slice none 0 0]) 5 104 Tryz.underlying165 hi hz0 hz1 hz2 rfl (by decide) _ _ _ rfl hown4 ⟨wo2.heap.size, 0, none⟩ 1 1 [.slice aR m (cA - n), .slice aR m (cA - n), .slice aR m (cA - n), .bool false, .slice aR m (cA - n)] rfl rfl hnews (by simp [Value.oneCell']) (by unfold maxLen; omega) (by omega) hsz4 ?_); intro v5 w5 hown5 hg5 _)
                have hb5 : Below W.heap.size W w5 := hb4.grown hg5 hsz4 (fun k hk => (HO2.out.lt k hk).1)
                clear hnews hown4 hg5 hb4
                go_roundw
                case rel => exact ⟨n + m, j1 + m, k1 + m, f, done2 ++ [⟨cutL2 xs n (n + m), cutL2 xs n (n + m), cutL2 xs n (n + m), false, cutL2 xs n (n + m)⟩], vals2 ++ [.slice aR m (cA - n), .slice aR m (cA - n), .slice aR m (cA - n), .bool false, .slice aR m (cA - n)], hnm, by go_num, by go_num, by go_num, Lib.hid (by have := hf.out; omega), HSA, HSB, Lib.hid (by rw [List.length_append, List.length_singleton]; have := hll; omega), Lib.hid (by rw [List.append_assoc]; have := HD2.out; rw [HKC.out] at this; exact this), Lib.hid (by rw [List.length_append, List.length_singleton]; exact hown5), Lib.hid (CkS.snoc (c := ⟨cutL2 xs n (n + m), cutL2 xs n (n + m), cutL2 xs n (n + m), false, cutL2 xs n (n + m)⟩) sK.out sK.out sK.out sK.out HC2.out), Lib.hid hb5⟩
                case measure => simp [intOf]; omega
            · obtain rfl : n = xs.length := by omega
              obtain ⟨e1, e2, e3⟩ := HS.out.s.fin rfl
              subst e3
              have hall := HD2.out
              rw [show keptC xs ys zs xs.length j1 k1 0 = [] by simp [keptC], List.nil_append, chunks_end p q xs ys zs f (xs.length + 0) (j1 + 0) (k1 + 0) ⟨rfl, e1, e2⟩, List.append_nil] at hall
              have HALL2 := Lib.hid hall
              have KY := K7.out.below HB2.out K7.out.lt
              have KX := K9.out.below HB2.out K9.out.lt
              have c0 := KX.cell 0
              have c1 := KX.cell 1
              have y0 := KY.cell 0
              have y1 := KY.cell 1
              have f0 := KY.frozen 0
              have f1 := KY.frozen 1
              have HKY := Lib.hid KY
              have BR := Lib.hid (BW.out.trans (HB2.out.mono BW.out.size))
              have O9 := Lib.hid (own2_le ((HO2.out.kept (grown_cellL wc Y 0 (.slice none 0 0)) (.inr (own_blk_ne HO2.out KY (by decide)))).kept (grown_cellL (wc.setCell ⟨Y, 0, none⟩ (.slice none 0 0)) Y 1 (.int .i64 0)) (.inr (own_blk_ne HO2.out KY (by decide)))) BW.out.size)
              have hYw : w.heap.size ≤ Y := by rw [HY.out]; exact Nat.le_refl _
              have B9 := Lib.hid ((BR.out.setCell (p := ⟨Y, 0, none⟩) hYw (.slice none 0 0)).setCell (p := ⟨Y, 1, none⟩) hYw (.int .i64 0))
              have C9 := Lib.hid (CkS.below B9.out HC2.out)
              clear KX KY hYw e1 e2 hall
              go_wp2_with fail
              go_region
              go_wp2_with fail
              refine bodyPost_ret (results_tmp_row (fn := Tryz.f82) rfl _ _ Y 40 #[.slice none 0 0, .int .i64 0] (0, 0) rfl (by first | exact (HKY.out.set_ 0 _).set_ 1 _ | simpa using (HKY.out.set_ 0 (.slice none 0 0)).set_ 1 (.int .i64 0)) Tryz.underlying40 (by kernel_rfl)) rfl (.inl ⟨hx, hy, hz, _, vals2, rfl, ?_, ?_, ?_⟩)
              · rw [← HALLR.out, ← HALL2.out]; exact O9.out
              · rw [← HALLR.out, ← HALL2.out]; first | exact C9.out | exact CkS.below ((Below.refl _ _).drew) C9.out
              · first | exact B9.out | exact B9.out.drew
end Go.Proofs.YtapcnmnnichamaaGreatDoor.Mg

namespace Go.Proofs.YtapcnmnnichamaaGreatDoor.Mg
open Go Go.RowKit

theorem over_or (n m : Nat) : (n ≤ 256 ∧ m ≤ 256) ∨ ∃ k, Over n m k := by
  unfold Over
  by_cases h1 : n ≤ 256
  · by_cases h2 : m ≤ 256
    · exact .inl ⟨h1, h2⟩
    · exact .inr ⟨1, .inr ⟨rfl, by omega, by omega⟩⟩
  · exact .inr ⟨0, .inl ⟨rfl, by omega⟩⟩
set_option maxRecDepth 100000 in
set_option maxHeartbeats 4000000 in
theorem refChunks_e1 (w : World) (A B C : Option Addr) (cA cB cC : Nat) (xs ys zs : List ByteArray) (h0 : Strs w (.slice A xs.length cA) xs) (h1 : Strs w (.slice B ys.length cB) ys) (ho : ∃ k, Over xs.length ys.length k) :
    Calls Tryz.prog 82 #[.slice A xs.length cA, .slice B ys.length cB, .slice C zs.length cC] w (RefChunked w xs ys zs (allR xs ys zs)) := by
  have E1 := (Below.refl w.heap.size w).alloc (Nat.le_refl _) (.cells #[.slice none 0 0, .int .i64 0] 40)
  have K1 := Blk.new w 40 #[.slice none 0 0, .int .i64 0]
  have hs1 : (w.alloc (.cells #[.slice none 0 0, .int .i64 0] 40)).heap.size = w.heap.size + 1 := by simp
  have LO := Lib.hid (refLines_any (w.alloc (.cells #[.slice none 0 0, .int .i64 0] 40)) _ _ xs ys (h0.below E1) (h1.below E1))
  have HOO := Lib.hid ho
  clear h0 h1 ho
  go_enter Tryz.func82, Tryz.ntmps82
  go_wp2_with fail
  refine LO.out.mono ?_
  rintro e w2 (⟨hxl, hyl, _⟩ | ⟨k, g, hk, rfl, hg, hb2⟩)
  · obtain ⟨k, hk⟩ := HOO.out
    unfold Over at hk
    omega
  · have E2 := E1.trans (hb2.mono (by rw [hs1]; omega))
    have K2 := K1.below hb2 K1.lt
    have K3 := K2.alloc (.cells #[.slice (some ⟨g, 0, none⟩) 1 1, .int .i64 4] 40)
    have X3 := Blk.new w2 40 #[.slice (some ⟨g, 0, none⟩) 1 1, .int .i64 4]
    have G3 := Lib.hid (Blk.alloc hg (.cells #[.slice (some ⟨g, 0, none⟩) 1 1, .int .i64 4] 40))
    have E3 := Lib.hid (E2.trans (((Below.refl w2.heap.size w2).alloc (Nat.le_refl _) (.cells #[.slice (some ⟨g, 0, none⟩) 1 1, .int .i64 4] 40)).mono E2.size))
    have c0 := X3.cell 0
    have c1 := X3.cell 1
    have y0 := K3.cell 0
    have y1 := K3.cell 1
    have f0 := K3.frozen 0
    have f1 := K3.frozen 1
    have HK3 := Lib.hid K3
    have HYG := Lib.hid (K3.ne_ G3.out (by decide))
    have hYX : w.heap.size ≠ w2.heap.size := by have := K2.lt; omega
    have HOV := Lib.hid hk
    clear hg X3 K3 K1 E1 E2 LO hb2 hs1 hk K2 HOO
    go_wp2_with fail
    generalize hW3 : w2.alloc (.cells #[.slice (some ⟨g, 0, none⟩) 1 1, .int .i64 4] 40) = W3 at *
    go_region
    go_wp2_with fail
    refine bodyPost_ret (results_tmp_row (fn := Tryz.f82) rfl _ _ w.heap.size 40 #[.slice (some ⟨g, 0, none⟩) 1 1, .int .i64 4] (0, 0) rfl (by first | exact (HK3.out.set_ 0 _).set_ 1 _ | simpa using (HK3.out.set_ 0 (.slice (some ⟨g, 0, none⟩) 1 1)).set_ 1 (.int .i64 4)) Tryz.underlying40 (by kernel_rfl)) rfl (.inr ⟨k, g, .inl HOV.out, rfl, (G3.out.far (p := ⟨w.heap.size, 0, none⟩) (fun e => HYG.out e.symm) _).far (p := ⟨w.heap.size, 1, none⟩) (fun e => HYG.out e.symm) _, ?_⟩)
    exact ((E3.out.setCell (p := ⟨w.heap.size, 0, none⟩) (Nat.le_refl _) _).setCell (p := ⟨w.heap.size, 1, none⟩) (Nat.le_refl _) _).drew

set_option maxRecDepth 100000 in
set_option maxHeartbeats 4000000 in
theorem refChunks_e2 (w : World) (A B C : Option Addr) (cA cB cC : Nat) (xs ys zs : List ByteArray) (h0 : Strs w (.slice A xs.length cA) xs) (h1 : Strs w (.slice B ys.length cB) ys) (h2 : Strs w (.slice C zs.length cC) zs) (hx : xs.length ≤ 256) (hy : ys.length ≤ 256) (ho : ∃ k, Over xs.length zs.length k) :
    Calls Tryz.prog 82 #[.slice A xs.length cA, .slice B ys.length cB, .slice C zs.length cC] w (RefChunked w xs ys zs (allR xs ys zs)) := by
  have b1 := (Below.refl w.heap.size w).alloc (Nat.le_refl _) (.cells #[.slice none 0 0, .int .i64 0] 40)
  have K7 := Blk.new w 40 #[.slice none 0 0, .int .i64 0]
  have H0 := Lib.hid h0
  have H1 := Lib.hid h1
  have H2 := Lib.hid h2
  have HOO := Lib.hid ho
  clear h0 h1 h2 ho
  go_enter Tryz.func82, Tryz.ntmps82
  go_wp2_with fail
  generalize hW1 : w.alloc (.cells #[.slice none 0 0, .int .i64 0] 40) = W1 at *
  clear hW1
  obtain ⟨Y, hY⟩ : ∃ Y, Y = w.heap.size := ⟨_, rfl⟩
  rw [← hY] at K7 ⊢
  have HY := Lib.hid hY
  clear hY
  have B1 := Lib.hid b1
  refine (refLines_any W1 _ _ xs ys (H0.out.below b1) (H1.out.below b1)).mono ?_
  rintro e w2 (⟨_, _, v1, rfl, o1, b2⟩ | ⟨k, g, hk, _⟩)
  case inr => unfold Over at hk; omega
  obtain ⟨A1, c1, rfl⟩ := own_formk o1
  have B2 := Lib.hid (B1.out.trans (b2.mono B1.out.size))
  have K7b := K7.below b2 K7.lt
  have b3 := (Below.refl w2.heap.size w2).alloc (Nat.le_refl _) (.cells #[.slice none 0 0, .int .i64 0] 40)
  have K7c := K7b.below b3 K7b.lt
  have B3 := Lib.hid (B2.out.trans (b3.mono B2.out.size))
  clear b1 K7 o1 b2 K7b b3 B1 B2
  go_wp2_with fail
  generalize hW3 : w2.alloc (.cells #[.slice none 0 0, .int .i64 0] 40) = W3 at *
  clear hW3
  generalize w2.heap.size = X at *
  refine (refLines_any W3 _ _ xs zs (H0.out.below B3.out) (H2.out.below B3.out)).mono ?_
  rintro e w4 (⟨hxl, hzl, _⟩ | ⟨k, g, hk, rfl, hg, b4⟩)
  · obtain ⟨k, hk⟩ := HOO.out
    unfold Over at hk
    omega
  · have E2 := B3.out.trans (b4.mono B3.out.size)
    have K2 := K7c.below b4 K7c.lt
    have K3 := K2.alloc (.cells #[.slice (some ⟨g, 0, none⟩) 1 1, .int .i64 4] 40)
    have X3 := Blk.new w4 40 #[.slice (some ⟨g, 0, none⟩) 1 1, .int .i64 4]
    have G3 := Lib.hid (Blk.alloc hg (.cells #[.slice (some ⟨g, 0, none⟩) 1 1, .int .i64 4] 40))
    have E3 := Lib.hid (E2.trans (((Below.refl w4.heap.size w4).alloc (Nat.le_refl _) (.cells #[.slice (some ⟨g, 0, none⟩) 1 1, .int .i64 4] 40)).mono E2.size))
    have c0 := X3.cell 0
    have c1' := X3.cell 1
    have y0 := K3.cell 0
    have y1 := K3.cell 1
    have f0 := K3.frozen 0
    have f1 := K3.frozen 1
    have HK3 := Lib.hid K3
    have HYG := Lib.hid (K3.ne_ G3.out (by decide))
    have hYX : Y ≠ w4.heap.size := by have := K2.lt; omega
    have HOV := Lib.hid hk
    have hYw : Hid (w.heap.size ≤ Y) := Lib.hid (by rw [HY.out]; exact Nat.le_refl _)
    clear hg X3 K3 E2 b4 hk K2 HOO K7c
    go_wp2_with fail
    generalize hW3 : w4.alloc (.cells #[.slice (some ⟨g, 0, none⟩) 1 1, .int .i64 4] 40) = W5 at *
    go_region
    go_wp2_with fail
    refine bodyPost_ret (results_tmp_row (fn := Tryz.f82) rfl _ _ Y 40 #[.slice (some ⟨g, 0, none⟩) 1 1, .int .i64 4] (0, 0) rfl (by first | exact (HK3.out.set_ 0 _).set_ 1 _ | simpa using (HK3.out.set_ 0 (.slice (some ⟨g, 0, none⟩) 1 1)).set_ 1 (.int .i64 4)) Tryz.underlying40 (by kernel_rfl)) rfl (.inr ⟨k, g, .inr ⟨hx, hy, HOV.out⟩, rfl, (G3.out.far (p := ⟨Y, 0, none⟩) (fun e => HYG.out e.symm) _).far (p := ⟨Y, 1, none⟩) (fun e => HYG.out e.symm) _, ?_⟩)
    exact ((E3.out.setCell (p := ⟨Y, 0, none⟩) hYw.out _).setCell (p := ⟨Y, 1, none⟩) hYw.out _).drew

theorem refChunks_any (w : World) (v0 v1 v2 : Value) (xs ys zs : List ByteArray) (h0 : Strs w v0 xs) (h1 : Strs w v1 ys) (h2 : Strs w v2 zs) :
    Calls Tryz.prog 82 #[v0, v1, v2] w (RefChunked w xs ys zs (allR xs ys zs)) := by
  obtain ⟨A, n, c, rfl⟩ := h0.form
  obtain ⟨B, m, d, rfl⟩ := h1.form
  obtain ⟨C, r, f, rfl⟩ := h2.form
  obtain rfl := h0.len.1
  obtain rfl := h1.len.1
  obtain rfl := h2.len.1
  rcases over_or xs.length ys.length with ⟨hx, hy⟩ | ho
  · rcases over_or xs.length zs.length with ⟨_, hz⟩ | ho
    · exact refChunks_ok w A B C c d f xs ys zs h0 h1 h2 hx hy hz
    · exact refChunks_e2 w A B C c d f xs ys zs h0 h1 h2 hx hy ho
  · exact refChunks_e1 w A B C c d f xs ys zs h0 h1 ho
end Go.Proofs.YtapcnmnnichamaaGreatDoor.Mg
