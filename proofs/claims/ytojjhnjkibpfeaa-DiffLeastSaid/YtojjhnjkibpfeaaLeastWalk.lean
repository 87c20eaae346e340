/-
  The walk of DiffLeast.
-/
import Derived.Test.YtojjhnjkibpfeaaDoneWalk
import Derived.Laws.IdiomStrings
namespace Go.Proofs.Ytojjhnjkibpfeaa
open Go.RowKit

/-- The text of one byte. -/
def one (j : Int) : ByteArray := ⟨#[UInt8.ofNat j.toNat]⟩

theorem conv1 (W : World) (j : Int) (h0 : 0 ≤ j) (h1 : j ≤ 255) :
    (convert 37 9 (.slice (some ⟨W.heap.size, 0, none⟩) 1 1)).run Try.prog (W.alloc (.cells #[.int .u8 j] 5)) = .ok (.string (one j)) (W.alloc (.cells #[.int .u8 j] 5)) := by
  have := run_convert_bytes_back (P := Try.prog) (W.alloc (.cells #[.int .u8 j] 5)) 37 9 5 ⟨W.heap.size, 0, none⟩ 1 [UInt8.ofNat j.toNat] Try.underlying37 Try.underlying5 Try.underlying9 (fun i hi => by
    obtain rfl : i = 0 := by simpa using hi
    have hh := heap_alloc_new W (.cells #[.int .u8 j] 5)
    have := cell_of_row _ _ 0 _ 5 (0, 0) hh
    have e : ((⟨W.heap.size, 0, none⟩ : Addr).add 0) = ⟨W.heap.size, 0, none⟩ := rfl
    rw [e, this]
    simp
    omega)
  exact this

theorem one_size (c : UInt8) (z : Int) : ((⟨#[c]⟩ : ByteArray) ++ one z).size ≤ 100 := by
  rw [ByteArray.size_append]
  show 1 + 1 ≤ 100
  omega

/-- Bytes that came in. -/
def Bytes (w : World) (A : Option Addr) (n : Nat) : Prop := ∀ i, i < n → ∃ (ad : Addr) (x : Int), A = some ad ∧ w.cell? (ad.add i) = some (.int .u8 x) ∧ 0 ≤ x ∧ x ≤ 255

/-- cs as far as k is in order in P; P is not long, and none of it is. -/
structure Sub (cs P : List ByteArray) (k e : Nat) : Prop where
  s : (cs.take k).Sublist P
  l : P.length ≤ 3 * k + e
  z : ∀ s ∈ P, s.size ≤ 100

theorem Sub.more {cs P : List ByteArray} {k e : Nat} (h : Sub cs P k e) {s : ByteArray} (hs : s.size ≤ 100) : Sub cs (P ++ [s]) k (e + 1) :=
  ⟨h.s.trans (List.sublist_append_left _ _), by have := h.l; simp; omega, fun t ht => by
    rw [List.mem_append, List.mem_singleton] at ht
    rcases ht with ht | rfl
    · exact h.z t ht
    · exact hs⟩
theorem Sub.next {cs P : List ByteArray} {k e : Nat} (h : Sub cs P k e) (he : e ≤ 2) {s : ByteArray} (hk : cs[k]? = some s) (hs : s.size ≤ 100) : Sub cs (P ++ [s]) (k + 1) 0 :=
  ⟨by rw [List.take_add_one, hk]; exact h.s.append (List.Sublist.refl _), by have := h.l; simp; omega, (h.more hs).z⟩
theorem Sub.mono {cs P : List ByteArray} {k e e' : Nat} (h : Sub cs P k e) (he : e ≤ e') : Sub cs P k e' := ⟨h.s, by have := h.l; omega, h.z⟩

set_option maxRecDepth 100000 in
set_option maxHeartbeats 4000000 in
theorem least_walk (w : World) (A B C : Option Addr) (n c m d r f : Nat) (cs : List ByteArray) (h : Strs w (.slice A n c) cs) (hB : Bytes w B m) (hC : Bytes w C r) (hm : m ≤ 9223372036854775807) (hr : r ≤ 9223372036854775807) :
    Calls Try.prog 7 #[.slice A n c, .slice B m d, .slice C r f] w (YesB w) := by
  have hn := h.length_le
  obtain ⟨i0, hi, hz0, hz1, hz2⟩ := info_parts strInfo
  have HA := Lib.hid h
  have HB := Lib.hid hB
  have HC := Lib.hid hC
  have HN := Lib.hid h.len.1
  clear h hB hC
  have hlong : 20 < n ∨ 20 < m ∨ 20 < r → Calls Try.prog 7 #[.slice A n c, .slice B m d, .slice C r f] w (YesB w) := by
    intro h
    by_cases h1 : 20 < n
    · clear h
      go_enter Try.func7, Try.ntmps7
      go_wp2_with fail
      refine (diffKnown_yes w).mono ?_
      rintro e w1 ⟨rfl, hb1⟩
      go_wp2
      go_ret
      exact ⟨rfl, hb1⟩
    by_cases h2 : 20 < m
    · clear h
      go_enter Try.func7, Try.ntmps7
      go_wp2_with fail
      refine (diffKnown_yes w).mono ?_
      rintro e w1 ⟨rfl, hb1⟩
      go_wp2
      go_ret
      exact ⟨rfl, hb1⟩
    · have h3 : 20 < r := by omega
      clear h
      go_enter Try.func7, Try.ntmps7
      go_wp2_with fail
      refine (diffKnown_yes w).mono ?_
      rintro e w1 ⟨rfl, hb1⟩
      go_wp2
      go_ret
      exact ⟨rfl, hb1⟩
  by_cases h1 : 20 < n
  · exact hlong (.inl h1)
  by_cases h2 : 20 < m
  · exact hlong (.inr (.inl h2))
  by_cases h3 : 20 < r
  · exact hlong (.inr (.inr h3))
  clear hlong
  have d1 : decide (20 < (n : Int)) = false := by simp; omega
  have d2 : decide (20 < (m : Int)) = false := by simp; omega
  have d3 : decide (20 < (r : Int)) = false := by simp; omega
  have h1' : n ≤ 20 := by omega
  have h2' : m ≤ 20 := by omega
  have h3' : r ≤ 20 := by omega
  clear h1 h2 h3
  go_enter Try.func7, Try.ntmps7
  go_wp2_with fail
  refine (diffKnown_yes w).mono ?_
  rintro e w1 ⟨rfl, hb1⟩
  go_wp2_with fail
  clear d1 d2 d3
  go_loopw [7, 8, 9] (fun s7 s8 s9 wr => ∃ (k : Nat) (P Q : List ByteArray), k ≤ n ∧ s9 = .int .i64 k ∧ Pair wr w1.heap.size s7 s8 P Q ∧ Sub cs P k 0 ∧ Sub cs Q k 0 ∧ Below w1.heap.size w1 wr) (fun _ _ s9 _ => n - (intOf s9).toNat)
  case atStart => exact ⟨0, [], [], Nat.zero_le _, rfl, ⟨World.ownsRow_nil _ _ _ _, World.ownsRow_nil _ _ _ _, fun k hk => by cases hk⟩, ⟨by simp, by simp, by simp⟩, ⟨by simp, by simp, by simp⟩, Below.refl _ _⟩
  case round =>
    obtain ⟨k, P, Q, hk, rfl, hp, hP, hQ, hbr⟩ := hrel
    have k0 : (0 : Int) ≤ (k : Int) := Int.natCast_nonneg _
    have hbw := hb1.trans (hbr.mono hb1.size)
    by_cases hlt : k < n
    · obtain ⟨ad, s, rfl, hs, hc⟩ := (HA.out.below hbw).cell hlt
      have k1 : (k : Int) < (n : Int) := by omega
      have HS := Lib.hid hs
      clear hs
      by_cases hlen : 100 < s.size
      · go_wp2
        go_ret
        exact ⟨rfl, hbw⟩
      have hle : s.size ≤ 100 := by omega
      have dl : decide (100 < (s.size : Int)) = false := by simp; omega
      clear hlen
      have HP := Lib.hid hP
      have HQ := Lib.hid hQ
      clear hP hQ hbw
      go_upto_if 46 with fail
      go_cut [7] (fun xx wx => ∃ P' : List ByteArray, Pair wx w1.heap.size xx u8 P' Q ∧ Sub cs P' k 2 ∧ Below w1.heap.size w1 wx)
      case first =>
        by_cases hkm : k < m
        · obtain ⟨ab, v, rfl, hcv, v0, v1⟩ := HB.out k hkm
          have km1 : (k : Int) < (m : Int) := by omega
          have hcb := World.block_lt_of_cell? w _ hcv
          have HCV := Lib.hid hcv
          clear hcv hc
          go_wp2_with fail
          obtain ⟨wo, hwo⟩ : ∃ wo : World, wo = wr := ⟨_, rfl⟩
          rw [← hwo] at hp hbr ⊢
          clear hwo
          rw [decide_eq_true hkm]
          go_loopw [7, 10] (fun ss s10 wr => ∃ (j : Nat) (P' : List ByteArray), j ≤ 2 ∧ s10 = .int .i64 j ∧ Pair wr w1.heap.size ss u8 P' Q ∧ Sub cs P' k j ∧ Below w1.heap.size w1 wr) (fun _ s10 _ => 3 - (intOf s10).toNat)
          case atStart => exact ⟨0, P, by omega, rfl, hp, HP.out, hbr⟩
          case round =>
            clear hp hbr
            obtain ⟨j, P', hj, rfl, hp, hP', hbr⟩ := hrel
            have j0 : (0 : Int) ≤ (j : Int) := Int.natCast_nonneg _
            have hcvi : wr.cell? (ab.add k) = some (.int .u8 v) := ((hb1.trans (hbr.mono hb1.size)).cell hcb).trans HCV.out
            by_cases hjv : (j : Int) < v % 3
            · have cv := fun W => conv1 W (48 + (j : Int)) (by omega) (by omega)
              have hpa := (hp.alloc (.cells #[.int .u8 (48 + (j : Int))] 5)).alloc (.cells #[.string (⟨#[120]⟩ ++ one (48 + (j : Int)))] 9)
              have hnews := World.news_of_block (cs := #[.string (⟨#[120]⟩ ++ one (48 + (j : Int)))]) (t := 9) (fr := (0, 0)) (heap_alloc_new (wr.alloc (.cells #[.int .u8 (48 + (j : Int))] 5)) (.cells #[.string (⟨#[120]⟩ ++ one (48 + (j : Int)))] 9))
              rw [show (wr.alloc (.cells #[.int .u8 (48 + (j : Int))] 5)).heap.size = wr.heap.size + 1 from by simp] at hnews
              have hba := (hbr.alloc hbr.size (.cells #[.int .u8 (48 + (j : Int))] 5)).alloc (by have := hbr.size; simp; omega) (.cells #[.string (⟨#[120]⟩ ++ one (48 + (j : Int)))] 9)
              have hsz := hba.size
              have hlP := hP'.l
              go_wp2_with (at_builtin; refine wpList_append_own_at _ rfl _ _ 23 rfl w1.heap.size 9 i0 (.string ⟨#[]⟩) 1 16 Try.underlying23 hi hz0 hz1 hz2 rfl (by decide) _ _ _ rfl hpa.px ⟨wr.heap.size + 1, 0, none⟩ 1 1 [.string (⟨#[120]⟩ ++ one (48 + (j : Int)))] rfl rfl hnews (by simp [Value.oneCell']) (by unfold maxLen; omega) (by omega) hsz ?_; intro v5 w5 hown5 hg5 _ hat5; have hp5 := hpa.put hown5 hg5 hat5; have hb5 : Below w1.heap.size w1 w5 := hba.grown hg5 hsz (fun z hz => (hpa.px.lt z hz).1); clear hpa hnews hba hown5 hg5 hat5)
              go_roundw
              case rel => exact ⟨j + 1, _, by omega, by go_num, hp5, hP'.more (one_size _ _), hb5⟩
              case measure => simp [intOf]; omega
            · go_wp2_with fail
              go_meet
              exact ⟨P', hp, hP'.mono hj, hbr⟩
        · clear hc
          go_wp2_with fail
          go_meet
          exact ⟨P, hp, HP.out.mono (by omega), hbr⟩
      obtain ⟨P1, hp1, hP1, hbr1⟩ := hcut
      clear hp hbr hc
      obtain ⟨wa, hwa⟩ : ∃ wa : World, wa = wc := ⟨_, rfl⟩
      rw [← hwa] at hp1 hbr1 ⊢
      clear hwa HP
      have hp := hp1
      have hbr := hbr1
      have hc : True := trivial
      clear hp1 hbr1
      go_upto_if 69 with fail
      go_cut [8] (fun xx wx => ∃ P' : List ByteArray, Pair wx w1.heap.size u7 xx P1 P' ∧ Sub cs P' k 2 ∧ Below w1.heap.size w1 wx)
      case first =>
        by_cases hkm : k < r
        · obtain ⟨ab, v, rfl, hcv, v0, v1⟩ := HC.out k hkm
          have km1 : (k : Int) < (r : Int) := by omega
          have hcb := World.block_lt_of_cell? w _ hcv
          have HCV := Lib.hid hcv
          clear hcv hc
          go_wp2_with fail
          obtain ⟨wo, hwo⟩ : ∃ wo : World, wo = wa := ⟨_, rfl⟩
          rw [← hwo] at hp hbr ⊢
          clear hwo
          rw [decide_eq_true hkm]
          go_loopw [8, 11] (fun ss s10 wr => ∃ (j : Nat) (P' : List ByteArray), j ≤ 2 ∧ s10 = .int .i64 j ∧ Pair wr w1.heap.size u7 ss P1 P' ∧ Sub cs P' k j ∧ Below w1.heap.size w1 wr) (fun _ s10 _ => 3 - (intOf s10).toNat)
          case atStart => exact ⟨0, Q, by omega, rfl, hp, HQ.out, hbr⟩
          case round =>
            clear hp hbr
            obtain ⟨j, P', hj, rfl, hp, hP', hbr⟩ := hrel
            have j0 : (0 : Int) ≤ (j : Int) := Int.natCast_nonneg _
            have hcvi : wr.cell? (ab.add k) = some (.int .u8 v) := ((hb1.trans (hbr.mono hb1.size)).cell hcb).trans HCV.out
            by_cases hjv : (j : Int) < v % 3
            · have cv := fun W => conv1 W (48 + (j : Int)) (by omega) (by omega)
              have hpa := (hp.swap.alloc (.cells #[.int .u8 (48 + (j : Int))] 5)).alloc (.cells #[.string (⟨#[121]⟩ ++ one (48 + (j : Int)))] 9)
              have hnews := World.news_of_block (cs := #[.string (⟨#[121]⟩ ++ one (48 + (j : Int)))]) (t := 9) (fr := (0, 0)) (heap_alloc_new (wr.alloc (.cells #[.int .u8 (48 + (j : Int))] 5)) (.cells #[.string (⟨#[121]⟩ ++ one (48 + (j : Int)))] 9))
              rw [show (wr.alloc (.cells #[.int .u8 (48 + (j : Int))] 5)).heap.size = wr.heap.size + 1 from by simp] at hnews
              have hba := (hbr.alloc hbr.size (.cells #[.int .u8 (48 + (j : Int))] 5)).alloc (by have := hbr.size; simp; omega) (.cells #[.string (⟨#[121]⟩ ++ one (48 + (j : Int)))] 9)
              have hsz := hba.size
              have hlP := hP'.l
              go_wp2_with (at_builtin; refine wpList_append_own_at _ rfl _ _ 23 rfl w1.heap.size 9 i0 (.string ⟨#[]⟩) 1 16 Try.underlying23 hi hz0 hz1 hz2 rfl (by decide) _ _ _ rfl hpa.px ⟨wr.heap.size + 1, 0, none⟩ 1 1 [.string (⟨#[121]⟩ ++ one (48 + (j : Int)))] rfl rfl hnews (by simp [Value.oneCell']) (by unfold maxLen; omega) (by omega) hsz ?_; intro v5 w5 hown5 hg5 _ hat5; have hp5 := (hpa.put hown5 hg5 hat5).swap; have hb5 : Below w1.heap.size w1 w5 := hba.grown hg5 hsz (fun z hz => (hpa.px.lt z hz).1); clear hpa hnews hba hown5 hg5 hat5)
              go_roundw
              case rel => exact ⟨j + 1, _, by omega, by go_num, hp5, hP'.more (one_size _ _), hb5⟩
              case measure => simp [intOf]; omega
            · go_wp2_with fail
              go_meet
              exact ⟨P', hp, hP'.mono hj, hbr⟩
        · clear hc
          go_wp2_with fail
          go_meet
          exact ⟨Q, hp, HQ.out.mono (by omega), hbr⟩
      obtain ⟨Q1, hp1, hQ1, hbr1⟩ := hcut
      clear hp hbr hc HQ
      obtain ⟨wb, hwb⟩ : ∃ wb : World, wb = wc := ⟨_, rfl⟩
      rw [← hwb] at hp1 hbr1 ⊢
      clear hwb
      have hbx := hb1.trans (hbr1.mono hb1.size)
      obtain ⟨ad', s', had, hs', hc'⟩ := HA.out.cell hlt
      obtain rfl : ad = ad' := Option.some.inj had
      obtain rfl : s = s' := by rw [HS.out] at hs'; exact Option.some.inj hs'
      have hab := World.block_lt_of_cell? _ _ hc'
      have HC0 := Lib.hid hc'
      clear hc' hs' had
      have q1 : wb.cell? (ad.add k) = some (.string s) := (hbx.cell hab).trans HC0.out
      have hpa := hp1.alloc (.cells #[.string s] 9)
      have hnews := World.news_of_block (cs := #[.string s]) (t := 9) (fr := (0, 0)) (heap_alloc_new wb (.cells #[.string s] 9))
      have hba := hbr1.alloc hbr1.size (.cells #[.string s] 9)
      have hsz := hba.size
      have hlP := hP1.l
      have hlQ := hQ1.l
      clear hbx
      go_wp2_with (first | (at_builtin; refine wpList_append_own_at _ rfl (.tmp 96) (.tmp 101) 23 rfl w1.heap.size 9 i0 (.string ⟨#[]⟩) 1 16 Try.underlying23 hi hz0 hz1 hz2 rfl (by decide) _ _ _ rfl hpb.px ⟨w5.heap.size, 0, none⟩ 1 1 [.string s] rfl rfl hnews2 (by simp [Value.oneCell']) (by unfold maxLen; omega) (by omega) hsz2 ?_; intro v6 w6 hown6 hg6 _ hat6; have hp6 := (hpb.put hown6 hg6 hat6).swap; have hb6 : Below w1.heap.size w1 w6 := hbb.grown hg6 hsz2 (fun z hz => (hp5.px.lt z hz).1); clear hpb hnews2 hbb hown6 hg6 hat6 q2) | (at_builtin; refine wpList_append_own_at _ rfl (.tmp 89) (.tmp 94) 23 rfl w1.heap.size 9 i0 (.string ⟨#[]⟩) 1 16 Try.underlying23 hi hz0 hz1 hz2 rfl (by decide) _ _ _ rfl hpa.px ⟨wb.heap.size, 0, none⟩ 1 1 [.string s] rfl rfl hnews (by simp [Value.oneCell']) (by unfold maxLen; omega) (by omega) hsz ?_; intro v5 w5 hown5 hg5 _ hat5; have hp5 := (hpa.put hown5 hg5 hat5).swap; have hb5 : Below w1.heap.size w1 w5 := hba.grown hg5 hsz (fun z hz => (hp1.px.lt z hz).1); clear hpa hnews hba hown5 hg5 hat5 q1; have q2 : w5.cell? (ad.add k) = some (.string s) := ((hb1.trans (hb5.mono hb1.size)).cell hab).trans HC0.out; have hpb := hp5.alloc (.cells #[.string s] 9); have hnews2 := World.news_of_block (cs := #[.string s]) (t := 9) (fr := (0, 0)) (heap_alloc_new w5 (.cells #[.string s] 9)); have hbb := hb5.alloc hb5.size (.cells #[.string s] 9); have hsz2 := hbb.size))
      go_roundw
      case rel => exact ⟨k + 1, _, _, by omega, by go_num, hp6, hP1.next (by omega) HS.out hle, hQ1.next (by omega) HS.out hle, hb6⟩
      case measure => simp [intOf]; omega
    · obtain rfl : k = n := by omega
      have hPl := hP.l
      have hQl := hQ.l
      have hsP := hP.s
      have hsQ := hQ.s
      rw [HN.out, List.take_length] at hsP hsQ
      have hge := lc_ge cs P Q hsP hsQ
      have hsy := lc_symm Q P
      have hnge : (k : Int) ≤ (lc P Q : Int) := by have := HN.out; omega
      have S1 : Strs wr u7 P := Strs.of_own hp.px rfl
      have S2 : Strs wr u8 Q := Strs.of_own hp.py rfl
      have hz1 : ∀ s ∈ P, s.size ≤ maxLen := fun s hs => Nat.le_trans (hP.z s hs) (by decide)
      have hz2 : ∀ s ∈ Q, s.size ≤ maxLen := fun s hs => Nat.le_trans (hQ.z s hs) (by decide)
      have C1 := common_good wr u7 u8 P Q S1 S2 hz1 hz2 (by omega) (by omega)
      have C2 := fun (W : World) (hb : Below wr.heap.size wr W) => common_good W u8 u7 Q P (S2.below hb) (S1.below hb) hz2 hz1 (by omega) (by omega)
      rw [hsy] at C2
      have HC1 := Lib.hid C1
      have HC2 := Lib.hid C2
      clear C1 C2 hsy hsP hsQ hz1 hz2 hP hQ S1 S2 hp hPl hQl hge
      generalize lc P Q = q at *
      go_wp2_with fail
      refine HC1.out.mono ?_
      rintro e w3 ⟨rfl, hb3⟩
      go_wp2_with fail
      refine (HC2.out w3 hb3).mono ?_
      rintro e w4 ⟨rfl, hb4⟩
      go_wp2
      go_ret
      have hb34 := hb3.trans (hb4.mono hb3.size)
      exact ⟨rfl, hbw.trans (hb34.mono hbw.size)⟩

end Go.Proofs.Ytojjhnjkibpfeaa
