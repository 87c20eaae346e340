/-
  patch.Hunks: a difference in pieces.
-/
import Derived.Test.YtdpoeagmeiedcaaDoorP10
import Derived.WalkLawsBesides
namespace Go.Proofs.YtdpoeagmeiedcaaDoor
open Go Go.RowKit

/-- Rows that rise, from d on, up to n. -/
def RowsOk (n : Nat) : Nat → List HRw → Prop
  | _, [] => True
  | d, r :: rs => d ≤ r.1 ∧ r.1 ≤ r.2 ∧ r.2 ≤ n ∧ RowsOk n r.2 rs
theorem RowsOk.snoc {n : Nat} {r : HRw} (h2 : r.1 ≤ r.2) (h3 : r.2 ≤ n) : ∀ {d : Nat} {out : List HRw}, RowsOk n d out → (∀ x ∈ out, x.2 ≤ r.1) → d ≤ r.1 → RowsOk n d (out ++ [r])
  | _, [], _, _, hd => ⟨hd, h2, h3, trivial⟩
  | _, x :: _, ⟨a, b, c, h⟩, hx, _ => ⟨a, b, c, RowsOk.snoc h2 h3 h (fun y hy => hx y (List.mem_cons_of_mem _ hy)) (hx x List.mem_cons_self)⟩
theorem RowsOk.init {n : Nat} {r : HRw} : ∀ {d : Nat} {out : List HRw}, RowsOk n d (out ++ [r]) → RowsOk n d out ∧ d ≤ r.1 ∧ r.1 ≤ r.2 ∧ ∀ x ∈ out, x.2 ≤ r.1
  | _, [], ⟨a, b, _, _⟩ => ⟨trivial, a, b, by simp⟩
  | _, x :: out, ⟨a, b, c, h⟩ => by
    obtain ⟨h1, h2, h3, h4⟩ := RowsOk.init h
    refine ⟨⟨a, b, c, h1⟩, by omega, h3, fun y hy => ?_⟩
    rcases List.mem_cons.1 hy with rfl | hy
    · exact h2
    · exact h4 y hy
theorem addR_ok {n k a : Nat} {out : List HRw} (h : RowsOk n 0 out) (hb : ∀ r ∈ out, r.1 ≤ k) (hk : k < n) : RowsOk n 0 (addR out (k - a) (min (k + 1 + a) n)) ∧ ∀ r ∈ addR out (k - a) (min (k + 1 + a) n), r.1 ≤ k := by
  rcases List.eq_nil_or_concat out with rfl | ⟨pre, ⟨p, q⟩, rfl⟩
  · rw [addR_nil]
    refine ⟨⟨Nat.zero_le _, by show k - a ≤ min (k + 1 + a) n; omega, by show min (k + 1 + a) n ≤ n; omega, trivial⟩, fun r hr => ?_⟩
    rw [List.mem_singleton] at hr
    subst hr
    show k - a ≤ k
    omega
  · rw [List.concat_eq_append] at h hb ⊢
    rw [addR_snoc]
    obtain ⟨h1, h2, h3, h4⟩ := h.init
    have hp := hb (p, q) (by simp)
    simp only at h3 h4 hp
    split
    · refine ⟨RowsOk.snoc (by show p ≤ min (k + 1 + a) n; omega) (by show min (k + 1 + a) n ≤ n; omega) h1 h4 (Nat.zero_le _), fun r hr => ?_⟩
      rcases List.mem_append.1 hr with hr | hr
      · exact hb r (List.mem_append.2 (.inl hr))
      · rw [List.mem_singleton] at hr; subst hr; exact hp
    · rename_i hbq
      refine ⟨RowsOk.snoc (by show k - a ≤ min (k + 1 + a) n; omega) (by show min (k + 1 + a) n ≤ n; omega) h (fun x hx => ?_) (Nat.zero_le _), fun r hr => ?_⟩
      · show x.2 ≤ k - a
        rcases List.mem_append.1 hx with hx | hx
        · have := h4 x hx; omega
        · rw [List.mem_singleton] at hx; subst hx; show q ≤ k - a; omega
      · rcases List.mem_append.1 hr with hr | hr
        · exact hb r hr
        · rw [List.mem_singleton] at hr; subst hr; show k - a ≤ k; omega
theorem rowsF_ok {a n : Nat} : ∀ (l : List EdI) (out : List HRw) (k : Nat), RowsOk n 0 out → (∀ r ∈ out, r.1 ≤ k) → k + l.length ≤ n → RowsOk n 0 (rowsF a n out k l)
  | [], _, _, h, _, _ => h
  | e :: l, out, k, h, hb, hk => by
    rw [List.length_cons] at hk
    unfold rowsF
    split
    · exact rowsF_ok l out (k + 1) h (fun r hr => Nat.le_succ_of_le (hb r hr)) (by omega)
    · obtain ⟨h1, h2⟩ := addR_ok (a := a) h hb (show k < n by omega)
      exact rowsF_ok l _ (k + 1) h1 (fun r hr => Nat.le_succ_of_le (h2 r hr)) (by omega)
theorem rowsF_le {a n : Nat} : ∀ (l : List EdI) (out : List HRw) (k : Nat), (rowsF a n out k l).length ≤ out.length + l.length
  | [], _, _ => Nat.le_refl _
  | e :: l, out, k => by
    unfold rowsF
    rw [List.length_cons]
    split
    · have := rowsF_le (a := a) (n := n) l out (k + 1); omega
    · have := rowsF_le (a := a) (n := n) l (addR out (k - a) (min (k + 1 + a) n)) (k + 1)
      have := addR_le out (k - a) (min (k + 1 + a) n)
      omega
def cutE (l : List EdI) (i j : Nat) : List EdI := (l.drop i).take (j - i)
theorem cutE_len (l : List EdI) {i j : Nat} (h : j ≤ l.length) : (cutE l i j).length = j - i := by unfold cutE; rw [List.length_take, List.length_drop]; omega
theorem hunkInfo : (Tryd.prog.info? 64).map (fun i => (i.zero, i.size, i.bytes)) = some (some (.agg #[.int .i64 0, .int .i64 0, .int .i64 0, .int .i64 0, .slice none 0 0]), 5, 56) := by kernel_rfl
/-- The hunks of rows. -/
def hunksF (l : List EdI) : Nat → Nat → Nat → List HRw → List Hk
  | _, _, _, [] => []
  | at_, to_, d, r :: rs => ⟨((at_ + dels (cutE l d r.1) : Nat) : Int), (dels (cutE l r.1 r.2) : Int), ((to_ + adds (cutE l d r.1) : Nat) : Int), (adds (cutE l r.1 r.2) : Int), cutE l r.1 r.2⟩ ::
      hunksF l (at_ + dels (cutE l d r.1) + dels (cutE l r.1 r.2)) (to_ + adds (cutE l d r.1) + adds (cutE l r.1 r.2)) r.2 rs
/-- A difference in pieces, with around lines. -/
def hunksP (l : List EdI) (a : Nat) : List Hk := hunksF l 0 0 0 (rowsF a l.length [] 0 l)
theorem Reads.piece {w : World} {A : Option Addr} {n c : Nat} {l : List EdI} (h : Reads 2 cEd w (.slice A n c) l) {i j : Nat} (hi : i ≤ j) (hj : j ≤ n) : Reads 2 cEd w (.slice (if c = i then A else A.map (·.add (i * 2))) (j - i) (c - i)) (cutE l i j) := by
  have h2 := (h.front hj).cut hi
  have e : (l.take j).drop i = cutE l i j := by unfold cutE; rw [List.drop_take]
  rw [e] at h2
  exact h2
theorem HkV.le {e : TypeId} {w : World} {B B' : Nat} (hb : B' ≤ B) : ∀ {hs : List Hk} {vals : List Value}, HkV e w B vals hs → HkV e w B' vals hs
  | [], _, h => h
  | _ :: _, _, ⟨vl, rest, hv, h1, h2⟩ => ⟨vl, rest, hv, own2_le h1 hb, HkV.le hb h2⟩
theorem Rws.at_ {w : World} {A : Option Addr} {n c : Nat} {l : List HRw} (h : Reads 2 cRw w (.slice A n c) l) {i : Nat} {r : HRw} (hi : l[i]? = some r) :
    ∃ ad : Addr, A = some ad ∧ w.cell? (ad.add (i * 2)) = some (.int .i64 (r.1 : Int)) ∧ w.cell? ⟨(ad.add (i * 2)).block, (ad.add (i * 2)).off + 1, none⟩ = some (.int .i64 (r.2 : Int)) := by
  obtain ⟨ad, rfl, hc⟩ := h.at_ hi
  exact ⟨ad, rfl, hc 0 _ rfl, hc 1 _ rfl⟩
theorem kept_at {w : World} {base k n : Nat} {e : TypeId} {v : Value} {xs : List Value} (h : w.ownsRow base e k v n xs) {g : Nat} (hne : v.ownBlock ≠ some g) (i : Nat) (u : Value) : (w.setCell ⟨g, i, none⟩ u).ownsRow base e k v n xs :=
  h.kept (grown_cellL w g i u) (.inr hne)

set_option maxRecDepth 100000 in
set_option maxHeartbeats 8000000 in
theorem hunks_any (w : World) (v : Value) (l : List EdI) (around : Int) (h : Reads 2 cEd w v l) (hl : l.length ≤ 500) :
    Calls Tryd.prog 21 #[v, .int .i64 around] w (HunksTo 64 66 (hunksP l (min around.toNat 16)) w) := by
  obtain ⟨A, c, rfl⟩ := h.form
  have hnm : c ≤ 9223372036854775807 := by have := h.len.2.2; unfold maxLen at this; omega
  have hlc := h.len.2.1
  have HO := Lib.hid h
  have ha16 : min around.toNat 16 ≤ 16 := by omega
  obtain ⟨a, haa⟩ : ∃ a, a = min around.toNat 16 := ⟨_, rfl⟩
  rw [← haa] at ha16 ⊢
  have HAA := Lib.hid haa
  have RW := Lib.hid (fun (x : Int) (hx : x = (a : Int)) => (by rw [hx]; exact rows_any w (.slice A l.length c) l a h (by omega) ha16 : Calls Tryd.prog 46 #[.slice A l.length c, .int .i64 x] w (OwnTo 108 2 cRw (rowsF a l.length [] 0 l) w)))
  have ROK := Lib.hid (rowsF_ok (a := a) (n := l.length) l [] 0 trivial (by simp) (by omega))
  have RLE := rowsF_le (a := a) (n := l.length) l [] 0
  rw [List.length_nil, Nat.zero_add] at RLE
  obtain ⟨R, hR⟩ : ∃ R, R = rowsF a l.length [] 0 l := ⟨_, rfl⟩
  rw [← hR] at RW ROK RLE
  obtain ⟨HS, hHS⟩ : ∃ HS, HS = hunksP l a := ⟨_, rfl⟩
  rw [← hHS]
  have HHS := Lib.hid (show HS = hunksF l 0 0 0 R by rw [hHS, hR]; rfl)
  clear h haa hR hHS
  go_enter Tryd.func21, Tryd.ntmps21
  go_upto_region 3 with fail
  go_cut [18, 19, 20] (fun x18 x19 x20 wy => x20 = .int .i64 0 ∧ x19 = .int .i64 (R.length : Int) ∧ Hid (wy.ownsRow w.heap.size 108 2 x18 R.length (R.flatMap cRw)) ∧ Hid (Below w.heap.size w wy))
  case first =>
    rcases (by omega : around < 0 ∨ (0 ≤ around ∧ around ≤ 16) ∨ 16 < around) with h1 | ⟨h1, h2⟩ | h1
    · go_wp2_with fail
      refine (RW.out _ (by have := HAA.out; omega)).mono ?_
      rintro e w2 ⟨v2, rfl, o2, b2⟩
      have O2 := Lib.hid o2
      have B2 := Lib.hid b2
      obtain ⟨A2, c2, rfl⟩ := own_formP o2
      clear o2 b2
      go_wp2_with fail
      go_meet
      exact ⟨rfl, rfl, O2, B2⟩
    · have h3 : ¬ around < 0 := by omega
      have h4 : ¬ (16 : Int) < around := by omega
      go_wp2_with fail
      refine (RW.out _ (by have := HAA.out; omega)).mono ?_
      rintro e w2 ⟨v2, rfl, o2, b2⟩
      have O2 := Lib.hid o2
      have B2 := Lib.hid b2
      obtain ⟨A2, c2, rfl⟩ := own_formP o2
      clear o2 b2
      go_wp2_with fail
      go_meet
      exact ⟨rfl, rfl, O2, B2⟩
    · have h3 : ¬ around < 0 := by omega
      go_wp2_with fail
      refine (RW.out _ (by have := HAA.out; omega)).mono ?_
      rintro e w2 ⟨v2, rfl, o2, b2⟩
      have O2 := Lib.hid o2
      have B2 := Lib.hid b2
      obtain ⟨A2, c2, rfl⟩ := own_formP o2
      clear o2 b2
      go_wp2_with fail
      go_meet
      exact ⟨rfl, rfl, O2, B2⟩
  case rest =>
    obtain ⟨rfl, rfl, HOR, HBW⟩ := hcut
    clear RW HAA
    obtain ⟨A2, c2, rfl⟩ := own_formP HOR.out
    obtain ⟨i0, hi, hz0, hz1, hz2⟩ := info_parts hunkInfo
    have HRR := Lib.hid (Reads.of_own cRw_len HOR.out)
    have HOW := Lib.hid (HO.out.below HBW.out)
    clear HOR
    go_wp2_with fail
    go_loopw [5, 6, 7, 8, 20] (fun s5 s6 s7 s8 s20 wr => ∃ (k at_ to_ d : Nat) (out : List Hk) (vals : List Value), k ≤ R.length ∧ s20 = .int .i64 k ∧ s6 = .int .i64 (at_ : Int) ∧ s7 = .int .i64 (to_ : Int) ∧ s8 = .int .i64 (d : Int) ∧ Hid (out ++ hunksF l at_ to_ d (R.drop k) = HS) ∧ Hid (RowsOk l.length d (R.drop k)) ∧ (at_ ≤ d ∧ to_ ≤ d ∧ d ≤ l.length) ∧ Hid (out.length ≤ k) ∧
      Hid (wr.ownsRow wc.heap.size 64 5 s5 out.length vals) ∧ Hid (HkV 66 wr wc.heap.size vals out) ∧ Hid (Below wc.heap.size wc wr)) (fun _ _ _ _ s20 _ => R.length - (intOf s20).toNat)
    case atStart => exact ⟨0, 0, 0, 0, [], [], Nat.zero_le _, rfl, rfl, rfl, rfl, Lib.hid HHS.out.symm, ROK, ⟨Nat.le_refl _, Nat.le_refl _, Nat.zero_le _⟩, Lib.hid (Nat.le_refl _), Lib.hid (World.ownsRow_nil _ _ _ _), Lib.hid rfl, Lib.hid (Below.refl _ _)⟩
    case round =>
      obtain ⟨k, at_, to_, d, out, vals, hk, rfl, rfl, rfl, rfl, hap, hok, ⟨hat, hto, hd⟩, hol, hown, hkv, hb⟩ := hrel
      have k0 : (0 : Int) ≤ (k : Int) := Int.natCast_nonneg _
      obtain ⟨wo, hwo⟩ : ∃ wo : World, wo = wr := ⟨_, rfl⟩
      rw [← hwo] at hown hkv hb ⊢
      clear hwo
      by_cases hlt : k < R.length
      · have k1 : (k : Int) < (R.length : Int) := by omega
        obtain ⟨⟨b, e⟩, hx⟩ : ∃ x, R[k]? = some x := ⟨_, List.getElem?_eq_getElem hlt⟩
        have HRC := HRR.out.below hb.out
        obtain ⟨ad, rfl, c0, c1⟩ := Rws.at_ HRC hx
        have hrk := hok.out
        rw [drop_consP hx] at hrk
        obtain ⟨hdb, hbe, hen, hrok⟩ := hrk
        simp only at hdb hbe hen hrok c0 c1
        have HAP := Lib.hid (show out ++ (⟨((at_ + dels (cutE l d b) : Nat) : Int), (dels (cutE l b e) : Int), ((to_ + adds (cutE l d b) : Nat) : Int), (adds (cutE l b e) : Int), cutE l b e⟩ ::
          hunksF l (at_ + dels (cutE l d b) + dels (cutE l b e)) (to_ + adds (cutE l d b) + adds (cutE l b e)) e (R.drop (k + 1))) = HS by
            have := hap.out
            rw [drop_consP hx] at this
            exact this)
        have HROK := Lib.hid hrok
        have P1 := Lib.hid (fun (w' : World) (hb' : Below w.heap.size w w') => (HO.out.below hb').piece hdb (show b ≤ l.length by omega))
        have P2 := Lib.hid (fun (w' : World) (hb' : Below w.heap.size w w') => (HO.out.below hb').piece hbe (show e ≤ l.length by omega))
        obtain ⟨Q1, hQ1⟩ : ∃ Q, (if c = d then A else Option.map (fun x => x.add (d * 2)) A) = Q := ⟨_, rfl⟩
        obtain ⟨Q2, hQ2⟩ : ∃ Q, (if c = b then A else Option.map (fun x => x.add (b * 2)) A) = Q := ⟨_, rfl⟩
        rw [hQ1] at P1
        rw [hQ2] at P2
        have l1 := cutE_len l (i := d) (j := b) (by omega)
        have l2 := cutE_len l (i := b) (j := e) (by omega)
        have n1 := dels_le (cutE l d b)
        have n2 := adds_le (cutE l d b)
        have n3 := dels_le (cutE l b e)
        have n4 := adds_le (cutE l b e)
        have L1 := Lib.hid l1
        have L2 := Lib.hid l2
        have hbw := HBW.out.trans (hb.out.mono HBW.out.size)
        have C1 := Lib.hid (fun (w' : World) (hb' : Below w.heap.size w w') => count_any w' _ _ (P1.out w' hb') (by omega))
        have C2 := Lib.hid (fun (w' : World) (hb' : Below w.heap.size w w') => cloneEd_any w' _ _ (P2.out w' hb') (by omega))
        generalize hE1 : cutE l d b = E1 at *
        generalize hE2 : cutE l b e = E2 at *
        have HBo := Lib.hid hbw
        have b1 := hb.out.alloc hb.out.size (.cells #[.int .i64 (b : Int), .int .i64 (e : Int)] 108)
        have KX1 := Lib.hid (Blk.new wo 108 #[.int .i64 (b : Int), .int .i64 (e : Int)])
        have O1 := Lib.hid (hown.out.alloc (.cells #[.int .i64 (b : Int), .int .i64 (e : Int)] 108))
        have V1 := Lib.hid (hkv.out.keep fun v n xs hr => hr.alloc (.cells #[.int .i64 (b : Int), .int .i64 (e : Int)] 108))
        have B1 := Lib.hid b1
        have HOB := Lib.hid (fun g (hg : u5.ownBlock = some g) => (hown.out.lt g hg).2)
        have x1 := KX1.out.cell 0
        have x2 := KX1.out.cell 1
        have i1 : (d : Int) ≤ (b : Int) := by omega
        have i2 : (b : Int) ≤ (c : Int) := by omega
        have i3 : (b : Int) ≤ (e : Int) := by omega
        have i4 : (e : Int) ≤ (c : Int) := by omega
        have i5 : (0 : Int) ≤ (d : Int) := by omega
        have i6 : (0 : Int) ≤ (b : Int) := by omega
        have j1 : ((at_ : Nat) : Int) ≤ 1000 := by omega
        have j2 : ((to_ : Nat) : Int) ≤ 1000 := by omega
        have j3 : ((dels E1 : Nat) : Int) ≤ 1000 := by omega
        have j4 : ((adds E1 : Nat) : Int) ≤ 1000 := by omega
        have j5 : (0 : Int) ≤ ((at_ : Nat) : Int) := Int.natCast_nonneg _
        have j6 : (0 : Int) ≤ ((to_ : Nat) : Int) := Int.natCast_nonneg _
        have j7 : (0 : Int) ≤ ((dels E1 : Nat) : Int) := Int.natCast_nonneg _
        have j8 : (0 : Int) ≤ ((adds E1 : Nat) : Int) := Int.natCast_nonneg _
        clear hx hok hrok hap hbw b1 HRC l1 l2 hown hkv hb hdb hbe
        go_upto_region 6 with fail
        generalize hW1 : wo.alloc (.cells #[.int .i64 (b : Int), .int .i64 (e : Int)] 108) = W1 at *
        generalize wo.heap.size = X1 at *
        clear hW1 c0 c1
        go_wp2_with fail
        refine (C1.out W1 (HBW.out.trans (B1.out.mono HBW.out.size))).mono ?_
        rintro e' w2 ⟨rfl, b2⟩
        have B2 := Lib.hid (B1.out.trans (b2.mono B1.out.size))
        have KX2 := Lib.hid (KX1.out.below b2 KX1.out.lt)
        have O2 := Lib.hid (own2_keep O1.out b2)
        have V2 := Lib.hid (V1.out.keep fun v n xs hr => own2_keep hr b2)
        have hX12 := KX1.out.lt
        have hs2 := b2.size
        clear b2 KX1 O1 V1 B1 C1 x1 x2
        have x1 := KX2.out.cell 0
        have x2 := KX2.out.cell 1
        go_wp2_with fail
        refine (C2.out w2 (HBW.out.trans (B2.out.mono HBW.out.size))).mono ?_
        rintro e' w3 ⟨v6, rfl, o6, b3⟩
        obtain ⟨A6, c6, rfl⟩ := own_formP o6
        have B3 := Lib.hid (B2.out.trans (b3.mono B2.out.size))
        have KX3 := Lib.hid (KX2.out.below b3 KX2.out.lt)
        have O3 := Lib.hid (own2_keep O2.out b3)
        have V3 := Lib.hid (V2.out.keep fun v n xs hr => own2_keep hr b3)
        have hX13 := KX3.out.lt
        have b4 := (Below.refl w3.heap.size w3).alloc (Nat.le_refl _) (.cells #[.int .i64 ((at_ : Int) + (dels E1 : Int)), .int .i64 0, .int .i64 ((to_ : Int) + (adds E1 : Int)), .int .i64 0, .slice A6 E2.length c6] 64)
        have B4 := Lib.hid (B3.out.trans (b4.mono B3.out.size))
        have KX4 := Lib.hid (KX3.out.below b4 KX3.out.lt)
        have O4 := Lib.hid (own2_keep O3.out b4)
        have V4 := Lib.hid (V3.out.keep fun v n xs hr => own2_keep hr b4)
        have O64 := Lib.hid (own2_keep (own2_le o6 B2.out.size) b4)
        have KY4 := Lib.hid (Blk.new w3 64 #[.int .i64 ((at_ : Int) + (dels E1 : Int)), .int .i64 0, .int .i64 ((to_ : Int) + (adds E1 : Int)), .int .i64 0, .slice A6 E2.length c6])
        have hXY : X1 ≠ w3.heap.size := by omega
        have hX2b := B3.out.size
        have hOY : u5.ownBlock ≠ some w3.heap.size := fun hg => by have := (O3.out.lt _ hg).2; omega
        clear o6 b3 b4 KX2 O2 V2 B2 C2 KX3 O3 V3 B3 x1 x2 hX12 hs2 hX13
        go_upto_region 8 with fail
        generalize hW4 : w3.alloc (.cells #[.int .i64 ((at_ : Int) + (dels E1 : Int)), .int .i64 0, .int .i64 ((to_ : Int) + (adds E1 : Int)), .int .i64 0, .slice A6 E2.length c6] 64) = W4 at *
        generalize w3.heap.size = X2 at *
        clear hW4
        have y4 := KY4.out.cell 4
        have C3 := Lib.hid (count_any W4 (.slice A6 E2.length c6) E2 (Reads.of_own cEd_len O64.out) (by have := L2.out; omega))
        go_wp2_with fail
        refine C3.out.mono ?_
        rintro e' w5 ⟨rfl, b5⟩
        have B5 := Lib.hid (B4.out.trans (b5.mono B4.out.size))
        have KX5 := Lib.hid (KX4.out.below b5 KX4.out.lt)
        have O5 := Lib.hid (own2_keep O4.out b5)
        have V5 := Lib.hid (V4.out.keep fun v n xs hr => own2_keep hr b5)
        have O65 := Lib.hid (own2_keep O64.out b5)
        have KY5 := Lib.hid (KY4.out.below b5 KY4.out.lt)
        clear b5 C3 y4 KX4 O4 V4 O64 KY4
        have y1 := KY5.out.cell 1
        have y3 := KY5.out.cell 3
        have f1 := KY5.out.frozen 1
        have f3 := KY5.out.frozen 3
        have KY6 := Lib.hid (((KY5.out.set_ 1 (.int .i64 (dels E2 : Int))).set_ 3 (.int .i64 (adds E2 : Int))))
        have KX6 := Lib.hid ((KX5.out.far (p := ⟨X2, 1, none⟩) hXY (.int .i64 (dels E2 : Int))).far (p := ⟨X2, 3, none⟩) hXY (.int .i64 (adds E2 : Int)))
        have O6 := Lib.hid (kept_at (kept_at O5.out hOY 1 (.int .i64 (dels E2 : Int))) hOY 3 (.int .i64 (adds E2 : Int)))
        have hLY : (Value.slice A6 E2.length c6).ownBlock ≠ some X2 := own_blk_ne O65.out KY5.out (by decide)
        have O66 := Lib.hid (kept_at (kept_at O65.out hLY 1 (.int .i64 (dels E2 : Int))) hLY 3 (.int .i64 (adds E2 : Int)))
        have V6 := Lib.hid (V5.out.keep fun v n xs hr => kept_at (kept_at hr (own_blk_ne hr KY5.out (by decide)) 1 (.int .i64 (dels E2 : Int))) (own_blk_ne hr KY5.out (by decide)) 3 (.int .i64 (adds E2 : Int)))
        have B6 := Lib.hid ((B5.out.setCell (p := ⟨X2, 1, none⟩) hX2b (.int .i64 (dels E2 : Int))).setCell (p := ⟨X2, 3, none⟩) hX2b (.int .i64 (adds E2 : Int)))
        go_upto_region 9 with fail
        generalize hW6 : (w5.setCell ⟨X2, 1, none⟩ (.int .i64 (dels E2 : Int))).setCell ⟨X2, 3, none⟩ (.int .i64 (adds E2 : Int)) = W6 at *
        clear hW6 y1 y3 f1 f3
        have KY7 : Hid (Blk W6 X2 64 #[.int .i64 ((at_ : Int) + (dels E1 : Int)), .int .i64 (dels E2 : Int), .int .i64 ((to_ : Int) + (adds E1 : Int)), .int .i64 (adds E2 : Int), .slice A6 E2.length c6]) := Lib.hid (by simpa using KY6.out)
        have z0 := KY7.out.cell 0
        have z1 := KY7.out.cell 1
        have z2 := KY7.out.cell 2
        have z3 := KY7.out.cell 3
        have x2 := KX6.out.cell 1
        have m1 : ((dels E2 : Nat) : Int) ≤ 1000 := by have := L2.out; omega
        have m2 : ((adds E2 : Nat) : Int) ≤ 1000 := by have := L2.out; omega
        have m3 : (0 : Int) ≤ ((dels E2 : Nat) : Int) := Int.natCast_nonneg _
        have m4 : (0 : Int) ≤ ((adds E2 : Nat) : Int) := Int.natCast_nonneg _
        have s1 : IntKind.i64.wrap ((at_ : Int) + (dels E1 : Int) + (dels E2 : Int)) = (at_ : Int) + (dels E1 : Int) + (dels E2 : Int) := IntWalk.i64_in _ (by omega)
        have s2 : IntKind.i64.wrap ((to_ : Int) + (adds E1 : Int) + (adds E2 : Int)) = (to_ : Int) + (adds E1 : Int) + (adds E2 : Int) := IntWalk.i64_in _ (by omega)
        have HBD := Lib.hid (show at_ + dels E1 + dels E2 ≤ e ∧ to_ + adds E1 + adds E2 ≤ e by have := L1.out; have := L2.out; omega)
        clear O5 V5 O65 KX5 KY5 KY6 B5
        go_quiet (fail)
        generalize hW7 : W6.drewN _ = W7
        have KY8 : Blk W7 X2 64 #[.int .i64 ((at_ : Int) + (dels E1 : Int)), .int .i64 (dels E2 : Int), .int .i64 ((to_ : Int) + (adds E1 : Int)), .int .i64 (adds E2 : Int), .slice A6 E2.length c6] := by rw [← hW7]; exact KY7.out
        have O7 : Hid (W7.ownsRow wc.heap.size 64 5 u5 out.length vals) := Lib.hid (by rw [← hW7]; exact O6.out)
        have O67 : Hid (W7.ownsRow wc.heap.size 66 2 (.slice A6 E2.length c6) E2.length (E2.flatMap cEd)) := Lib.hid (by rw [← hW7]; exact O66.out)
        have V7 : Hid (HkV 66 W7 wc.heap.size vals out) := Lib.hid (by rw [← hW7]; exact V6.out.keep fun v n xs hr => own2_keep hr (below_drewN (Below.refl _ _) _))
        have B7 : Below wc.heap.size wc W7 := by rw [← hW7]; exact below_drewN B6.out _
        clear hW7 z0 z1 z2 z3 x2 s1 s2 KY7 KX6 O6 O66 V6 B6
        have z0 := KY8.cell 0
        have z1 := KY8.cell 1
        have z2 := KY8.cell 2
        have z3 := KY8.cell 3
        have z4 := KY8.cell 4
        obtain ⟨A5, c5, rfl⟩ := own_formP O7.out
        have hol9 := hol.out
        have hown4 := O7.out.alloc (.cells #[.int .i64 ((at_ : Int) + (dels E1 : Int)), .int .i64 (dels E2 : Int), .int .i64 ((to_ : Int) + (adds E1 : Int)), .int .i64 (adds E2 : Int), .slice A6 E2.length c6] 64)
        have hnews := World.news_of_block (cs := #[.int .i64 ((at_ : Int) + (dels E1 : Int)), .int .i64 (dels E2 : Int), .int .i64 ((to_ : Int) + (adds E1 : Int)), .int .i64 (adds E2 : Int), .slice A6 E2.length c6]) (t := 64) (fr := (0, 0)) (heap_alloc_new W7 (.cells #[.int .i64 ((at_ : Int) + (dels E1 : Int)), .int .i64 (dels E2 : Int), .int .i64 ((to_ : Int) + (adds E1 : Int)), .int .i64 (adds E2 : Int), .slice A6 E2.length c6] 64))
        have hb4 := B7.alloc B7.size (.cells #[.int .i64 ((at_ : Int) + (dels E1 : Int)), .int .i64 (dels E2 : Int), .int .i64 ((to_ : Int) + (adds E1 : Int)), .int .i64 (adds E2 : Int), .slice A6 E2.length c6] 64)
        have hsz4 := hb4.size
        have HO4 := Lib.hid hown4
        have V8 := Lib.hid (V7.out.keep fun v n xs hr => hr.alloc (.cells #[.int .i64 ((at_ : Int) + (dels E1 : Int)), .int .i64 (dels E2 : Int), .int .i64 ((to_ : Int) + (adds E1 : Int)), .int .i64 (adds E2 : Int), .slice A6 E2.length c6] 64))
        have O68 := Lib.hid (O67.out.alloc (.cells #[.int .i64 ((at_ : Int) + (dels E1 : Int)), .int .i64 (dels E2 : Int), .int .i64 ((to_ : Int) + (adds E1 : Int)), .int .i64 (adds E2 : Int), .slice A6 E2.length c6] 64))
        go_wp2_with (at_builtin; refine wpList_append_own _ rfl _ _ 50 rfl wc.heap.size 64 i0 (.agg #[.int .i64 0, .int .i64 0, .int .i64 0, .int .i64 0, .slice none 0 0]) 5 56 Tryd.underlying50 hi hz0 hz1 hz2 rfl (by decide) _ _ _ rfl hown4 ⟨W7.heap.size, 0, none⟩ 1 1 [.int .i64 ((at_ : Int) + (dels E1 : Int)), .int .i64 (dels E2 : Int), .int .i64 ((to_ : Int) + (adds E1 : Int)), .int .i64 (adds E2 : Int), .slice A6 E2.length c6] rfl rfl hnews (by simp [Value.oneCell']) (by unfold maxLen; omega) (by omega) hsz4 ?_; intro v9 w9 hown9 hg9 _)
        have b9 : Below wc.heap.size wc w9 := hb4.grown hg9 hsz4 (fun z hz => (HO4.out.lt z hz).1)
        have V9 := Lib.hid (V8.out.keep fun v n xs hr => kept_ne hr HO4.out (by decide) hg9)
        have O69 := Lib.hid (kept_ne O68.out HO4.out (by decide) hg9)
        clear hnews hown4 hg9 hb4 z0 z1 z2 z3 z4 KY8
        go_roundw
        case rel => exact ⟨k + 1, at_ + dels E1 + dels E2, to_ + adds E1 + adds E2, e, out ++ [⟨((at_ + dels E1 : Nat) : Int), (dels E2 : Int), ((to_ + adds E1 : Nat) : Int), (adds E2 : Int), E2⟩], vals ++ [.int .i64 ((at_ : Int) + (dels E1 : Int)), .int .i64 (dels E2 : Int), .int .i64 ((to_ : Int) + (adds E1 : Int)), .int .i64 (adds E2 : Int), .slice A6 E2.length c6], by omega, by go_num, by go_num, by go_num, rfl, Lib.hid (by rw [List.append_assoc]; exact HAP.out), HROK, ⟨HBD.out.1, HBD.out.2, hen⟩, Lib.hid (by rw [List.length_append, List.length_singleton]; omega), Lib.hid (by rw [List.length_append, List.length_singleton]; exact hown9), Lib.hid (HkV.snoc (h := ⟨((at_ + dels E1 : Nat) : Int), (dels E2 : Int), ((to_ + adds E1 : Nat) : Int), (adds E2 : Int), E2⟩) O69.out V9.out), Lib.hid b9⟩
        case measure => simp [intOf]; omega
      · obtain rfl : k = R.length := by omega
        have HFIN : Hid (out = HS) := Lib.hid (by have := hap.out; rw [List.drop_length] at this; simpa [hunksF] using this)
        go_wp2
        go_ret
        exact ⟨_, vals, rfl, by rw [← HFIN.out]; exact own2_le hown.out HBW.out.size, by rw [← HFIN.out]; exact hkv.out.le HBW.out.size, HBW.out.trans (hb.out.mono HBW.out.size)⟩
end Go.Proofs.YtdpoeagmeiedcaaDoor
