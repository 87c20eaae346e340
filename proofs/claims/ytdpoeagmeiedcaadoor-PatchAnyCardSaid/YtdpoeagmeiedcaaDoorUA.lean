/-
  patch.Apply: hunks done.
  rectoref11.Apply: the document's hunks, done.
  rectolaw11.Of: edits as the document's.
  rectolaw12.Of: hunks as the document's.
  patch.rows: where hunks begin and end.
  append of edits to a row of the call's own; slices.Clone of edits; a slice of edits cut.
  patch.Hunks: a difference in pieces.
  patch.turned, patch.Turned, of hunks without a line that is kept.
-/
import Derived.Test.YtdpoeagmeiedcaaDoorPHunk
import Derived.Test.YtdpoeagmeiedcaaDoorUZ
import Derived.Maps.AppendAt
import Derived.Laws.AppendOwnNone
import Derived.Deep.DeepCutAuto
import Derived.Deep.CutBlock
import Derived.Deep.AppendLies
import Derived.Deep.RegionLaw
import Derived.Deep.RegionHeld3
import Derived.Lib.SliceRun
import Derived.Lib.AppendZeros
import Derived.WalkLawsBesides

namespace Go.Proofs.YtdpoeagmeiedcaaDoor
open Go Go.RowKit

theorem wpList_append_strs {w : World} {ops : Array Oper} {rest : List Oper} {o : Oper} {a : Act} {Q : Exit → Act → World → Prop} (hgd : o.guard = none) (s x : Operand)
    (ho : o.op = .call { callee := .builtin .append, args := #[s, x], argTypes := #[22, 22] }) (base : Nat) (v : Value) (X : List ByteArray) (hs : a.eval s = v) (hown : w.ownsRow base 9 1 v X.length (X.map Value.string))
    (u : Value) (Y : List ByteArray) (hu : Strs w u Y) (hx : a.eval x = u) (h63 : X.length + Y.length ≤ 1000000) (hbase : base ≤ w.heap.size)
    (h : ∀ v' w', w'.ownsRow base 9 1 v' (X ++ Y).length ((X ++ Y).map Value.string) → w.grownBy w' v.ownBlock → (v'.ownBlock = v.ownBlock ∨ v'.ownBlock = some w.heap.size) → wpList Tryd.prog ops Q rest (a.put o.dst v') w') : wpList Tryd.prog ops Q (o :: rest) a w := by
  obtain ⟨i0, hi, hz0, hz1, hz2⟩ := info_parts strInfo
  obtain ⟨A, c, rfl, h1, h2, h3, h4⟩ := hu
  cases A with
  | none =>
    obtain rfl := h3 rfl
    obtain rfl : Y = [] := List.eq_nil_of_length_eq_zero (by omega)
    refine wpList_append_own_none hgd s x 22 ho base 9 i0 1 Tryd.underlying22 hi v _ _ hs hown hx ?_
    exact h v w (by simpa using hown) ⟨rfl, rfl, rfl, Nat.le_refl _, fun _ _ _ => rfl⟩ (.inl rfl)
  | some ad =>
    refine wpList_append_own_at w hgd s x 22 ho base 9 i0 (.string { data := #[] }) 1 16 Tryd.underlying22 hi hz0 hz1 hz2 rfl (by decide) v _ _ hs hown ad Y.length c (Y.map Value.string) hx (by simp) ?_ ?_ (by unfold maxLen; omega) (by omega) hbase ?_
    · intro j z hz
      rw [List.getElem?_map] at hz
      cases hy : Y[j]? with
      | none => rw [hy] at hz; cases hz
      | some t => rw [hy] at hz; obtain rfl := Option.some.inj hz; exact h4 ad rfl j t hy
    · intro z hz
      obtain ⟨t, _, rfl⟩ := List.mem_map.1 hz
      rfl
    · intro v' w' hown' hg _ hat
      exact h v' w' (by rw [List.length_append, List.map_append]; exact hown') hg hat


abbrev bHunk : ByteArray := ⟨#[104, 117, 110, 107]⟩
/-- What a text is behind hunks; or the first that can't be done. -/
def AppliedTo (R : (Nat × Int) ⊕ List ByteArray) (w : World) (e : Ending) (w' : World) : Prop :=
  (∃ l v, R = .inr l ∧ e = .returned (.tuple #[v, .nilIface]) ∧ w'.ownsRow w.heap.size 9 1 v l.length (l.map Value.string) ∧ Below w.heap.size w w') ∨
    ∃ (i : Nat) (k : Int) (F : Nat), R = .inl (i, k) ∧ e = .returned (.tuple #[.slice none 0 0, theFault F]) ∧ Blk w' F 102 #[.string bHunk, .int .i64 (i : Int), .iface 97 (.int .i64 k)] ∧ Below w.heap.size w w'
/-- Hunks that are few and small enough. -/
structure HkOk (h : Hk) : Prop where
  l : h.ls.length ≤ 200
  a1 : -1099511627776 ≤ h.at_
  a2 : h.at_ ≤ 1099511627776
  t1 : -1099511627776 ≤ h.to_
  t2 : h.to_ ≤ 1099511627776
theorem applyH_cons {a : List ByteArray} {hs : List Hk} {h : Hk} {done : Nat} {out : List ByteArray} {i : Nat} : applyH a (h :: hs) done out i = if wrongH a h done out.length ≠ 0 then .inl (i, wrongH a h done out.length) else applyH a hs (h.at_ + h.del).toNat (out ++ ((a.drop done).take (h.at_.toNat - done) ++ newL h.ls)) (i + 1) := rfl
theorem own_strs {w : World} {base : Nat} {v : Value} {l : List ByteArray} (h : w.ownsRow base 9 1 v l.length (l.map Value.string)) : ∃ A c, v = .slice A l.length c := by
  rcases h.2 with ⟨rfl, h0⟩ | ⟨g, cap, cur, rfl, _⟩
  · exact ⟨none, 0, by rw [h0]⟩
  · exact ⟨_, _, rfl⟩

/-- The hunk k, read in a world behind; its lines stand where they stood. -/
theorem HksIn.at2 {w wr : World} {A : Option Addr} {n c : Nat} {hs : List Hk} (h : HksIn w (.slice A n c) hs) (hb : Below w.heap.size w wr) {i : Nat} {x : Hk} (hi : hs[i]? = some x) :
    ∃ (ad : Addr) (vl : Value), A = some ad ∧ wr.cell? (ad.add (i * 5)) = some (.int .i64 x.at_) ∧ wr.cell? ⟨(ad.add (i * 5)).block, (ad.add (i * 5)).off + 1, none⟩ = some (.int .i64 x.del) ∧ wr.cell? ⟨(ad.add (i * 5)).block, (ad.add (i * 5)).off + 2, none⟩ = some (.int .i64 x.to_) ∧
      wr.cell? ⟨(ad.add (i * 5)).block, (ad.add (i * 5)).off + 3, none⟩ = some (.int .i64 x.add) ∧ wr.cell? ⟨(ad.add (i * 5)).block, (ad.add (i * 5)).off + 4, none⟩ = some vl ∧ Reads 2 cEd w vl x.ls := by
  obtain ⟨ad, vl, h0, c0, c1, c2, c3, c4, r⟩ := h.at_ hi
  have k : ∀ {p : Addr} {u : Value}, w.cell? p = some u → wr.cell? p = some u := fun hc => (hb.cell (World.block_lt_of_cell? _ _ hc)).trans hc
  exact ⟨ad, vl, h0, k c0, k c1, k c2, k c3, k c4, r⟩

set_option maxRecDepth 100000 in
set_option maxHeartbeats 8000000 in
theorem apply_any (w : World) (va vh : Value) (xs : List ByteArray) (hs : List Hk) (ha : Strs w va xs) (hh : HksIn w vh hs) (lx : xs.length ≤ 1000) (lh : hs.length ≤ 200) (hok : ∀ h ∈ hs, HkOk h) :
    Calls Tryd.prog 29 #[va, vh] w (AppliedTo (applyH xs hs 0 [] 0) w) := by
  obtain ⟨B, n, d, rfl⟩ := ha.form
  obtain ⟨A, c, rfl⟩ := hh.form
  obtain rfl := ha.len.1
  have hxd := ha.len.2.1
  have hxm : d ≤ 9223372036854775807 := by have := ha.len.2.2; unfold maxLen at this; omega
  have hhc := hh.len.2.1
  have hhm : c ≤ 9223372036854775807 := by have := hh.len.2.2; unfold maxLen at this; omega
  have HA := Lib.hid ha
  have HH := Lib.hid hh
  have HOK := Lib.hid hok
  obtain ⟨i0, hi, hz0, hz1, hz2⟩ := info_parts strInfo
  obtain ⟨R, hR⟩ : ∃ R, R = applyH xs hs 0 [] 0 := ⟨_, rfl⟩
  rw [← hR]
  have HR := Lib.hid hR
  clear ha hh hok hR
  go_enter Tryd.func29, Tryd.ntmps29
  go_wp2_with fail
  go_loopw [6, 7, 15] (fun s6 s7 s15 wr => ∃ (k done : Nat) (out : List ByteArray), k ≤ hs.length ∧ s15 = .int .i64 k ∧ s7 = .int .i64 done ∧ wr.ownsRow w.heap.size 9 1 s6 out.length (out.map Value.string) ∧ Hid (applyH xs (hs.drop k) done out k = R) ∧ done ≤ xs.length ∧ out.length ≤ done + 200 * k ∧ Below w.heap.size w wr) (fun _ _ s15 _ => hs.length - (intOf s15).toNat)
  case atStart => exact ⟨0, 0, [], Nat.zero_le _, rfl, rfl, World.ownsRow_nil _ _ _ _, Lib.hid HR.out.symm, Nat.zero_le _, by simp, Below.refl _ _⟩
  case round =>
    obtain ⟨k, done, out, hk, rfl, rfl, hown, hap, hdone, hol, hb⟩ := hrel
    have k0 : (0 : Int) ≤ (k : Int) := Int.natCast_nonneg _
    have d0 : (0 : Int) ≤ (done : Int) := Int.natCast_nonneg _
    obtain ⟨Ao, co, rfl⟩ := own_strs hown
    have HO := Lib.hid hown
    clear hown
    by_cases hlt : k < hs.length
    · have k1 : (k : Int) < (hs.length : Int) := by omega
      obtain ⟨x, hx⟩ : ∃ x, hs[k]? = some x := ⟨_, List.getElem?_eq_getElem hlt⟩
      obtain ⟨ad, vl, rfl, c0, c1, c2, c3, c4, hrd⟩ := HH.out.at2 hb hx
      have hxo := HOK.out x (List.mem_of_getElem? hx)
      have HAP := Lib.hid (show applyH xs (x :: hs.drop (k + 1)) done out k = R by rw [← drop_consP hx]; exact hap.out)
      obtain ⟨at_, del, to_, add, ls⟩ := x
      simp only at c0 c1 c2 c3 hrd
      obtain ⟨Al, cl, rfl⟩ := hrd.form
      have hb1 := hb.alloc hb.size (.cells #[.int .i64 at_, .int .i64 del, .int .i64 to_, .int .i64 add, .slice Al ls.length cl] 64)
      have KX := Lib.hid (Blk.new wr 64 #[.int .i64 at_, .int .i64 del, .int .i64 to_, .int .i64 add, .slice Al ls.length cl])
      have WR := Lib.hid (wrong_any (wr.alloc (.cells #[.int .i64 at_, .int .i64 del, .int .i64 to_, .int .i64 add, .slice Al ls.length cl] 64)) (.slice B xs.length d) (.slice Al ls.length cl) xs at_ del to_ add ls done out.length (HA.out.below hb1) (hrd.below hb1) lx (by have := hxo.l; simp only at this; omega) hxo.a1 hxo.a2 (by omega) (by omega) (by omega) (by omega))
      have HO1 := Lib.hid (HO.out.alloc (.cells #[.int .i64 at_, .int .i64 del, .int .i64 to_, .int .i64 add, .slice Al ls.length cl] 64))
      have HRD := Lib.hid hrd
      have hlc := hrd.len.2.1
      have hlm : cl ≤ 9223372036854775807 := by have := hrd.len.2.2; unfold maxLen at this; omega
      have HB1 := Lib.hid hb1
      have HXO := Lib.hid hxo
      clear hx hxo hrd hb1 hap
      go_wp2_with fail
      refine WR.out.mono ?_
      rintro e w2 ⟨rfl, b2⟩
      have HB2 := Lib.hid (HB1.out.trans (b2.mono HB1.out.size))
      have KX2 := Lib.hid (KX.out.below b2 KX.out.lt)
      have HO2 := Lib.hid (own2_keep HO1.out b2)
      generalize hX : wr.heap.size = X at *
      clear hX b2 WR KX HO1 c0 c1 c2 c3 c4
      by_cases hw0 : wrongH xs ⟨at_, del, to_, add, ls⟩ done out.length = 0
      · obtain ⟨z1, hdel, z3, hge, z5, z6, hfit, z8⟩ := wrongH_ok hw0
        clear z1 z3 z5 z6 z8
        simp only at hdel hge hfit
        obtain ⟨p, hp⟩ : ∃ p : Nat, at_ = (p : Int) := ⟨at_.toNat, by omega⟩
        obtain ⟨dl, hdl⟩ : ∃ dl, dl = dels ls := ⟨_, rfl⟩
        rw [← hdl] at hdel hfit
        subst hp
        subst hdel
        have hdp : done ≤ p := by omega
        have hpx : p + dl ≤ xs.length := by omega
        have HAP2 : Hid (applyH xs (hs.drop (k + 1)) (p + dl) (out ++ (cutL2 xs done p ++ newL ls)) (k + 1) = R) := Lib.hid (by
          rw [← HAP.out, applyH_cons, if_neg (by rw [hw0]; decide)]
          show _ = applyH xs (hs.drop (k + 1)) ((p : Int) + (dl : Int)).toNat (out ++ ((xs.drop done).take ((p : Int).toNat - done) ++ newL ls)) (k + 1)
          rw [Int.toNat_natCast, show ((p : Int) + (dl : Int)).toNat = p + dl by omega]
          rfl)
        have hnl := newL_le ls
        have hls := HXO.out.l
        simp only at hls
        have HCL := Lib.hid (show (cutL2 xs done p).length = p - done from cutL2_len _ (by omega))
        rw [hw0]
        have sK := Strs.piece (HA.out.below HB2.out) hdp (show p ≤ xs.length by omega)
        obtain ⟨P, hP⟩ : ∃ P, (if d = done then B else Option.map (fun x => x.add done) B) = P := ⟨_, rfl⟩
        rw [hP] at sK
        have q1 : (done : Int) ≤ (p : Int) := by omega
        have q2 : (p : Int) ≤ (d : Int) := by omega
        have p0 : (0 : Int) ≤ (p : Int) := by omega
        have e0 := KX2.out.cell 0
        have e4 := KX2.out.cell 4
        have hwb := HB2.out.size
        clear hw0 hdl HAP hge hfit
        go_wp2_with (at_builtin; refine wpList_append_strs rfl (.tmp 34) (.tmp 39) rfl w.heap.size _ out rfl HO2.out _ (cutL2 xs done p) sK rfl (by have := HCL.out; omega) hwb ?_; intro v8 w8 hown8 hg8 _; have KX8 := Lib.hid (KX2.out.grown hg8 (fun e => own_blk_ne HO2.out KX2.out (by decide) e.symm)); have HB8 := Lib.hid (HB2.out.grown hg8 hwb (fun z hz => (HO2.out.lt z hz).1)); have HO8 := Lib.hid hown8; clear hown8 hg8 e0 e4; have e0 := KX8.out.cell 0; have e1 := KX8.out.cell 1; have e4 := KX8.out.cell 4)
        obtain ⟨pre, hpre⟩ : ∃ pre, pre = out ++ cutL2 xs done p := ⟨_, rfl⟩
        have hprl : pre.length ≤ 100000 := by rw [hpre, List.length_append, HCL.out]; omega
        have HO8p : Hid (w8.ownsRow w.heap.size 9 1 v8 pre.length (pre.map Value.string)) := Lib.hid (by rw [hpre]; exact HO8.out)
        have HPRE := Lib.hid hpre
        clear hpre HO8 sK hP
        obtain ⟨A8, c8, rfl⟩ := own_strs HO8p.out
        go_loopw [6, 44] (fun s6 s44 wq => ∃ j : Nat, j ≤ ls.length ∧ s44 = .int .i64 j ∧ wq.ownsRow w.heap.size 9 1 s6 (pre ++ newL (ls.take j)).length ((pre ++ newL (ls.take j)).map Value.string) ∧ Blk wq X 64 #[.int .i64 (p : Int), .int .i64 (dl : Int), .int .i64 to_, .int .i64 add, .slice Al ls.length cl] ∧ Below w.heap.size w wq) (fun _ s44 _ => ls.length - (intOf s44).toNat)
        case atStart => exact ⟨0, Nat.zero_le _, rfl, by simpa [newL] using HO8p.out, KX8.out, HB8.out⟩
        case round =>
          obtain ⟨j, hj, rfl, hown, hkx, hbq⟩ := hrel
          clear e0 e1 e4
          have j0 : (0 : Int) ≤ (j : Int) := Int.natCast_nonneg _
          by_cases hjl : j < ls.length
          · have j1 : (j : Int) < (ls.length : Int) := by omega
            obtain ⟨x, hx⟩ : ∃ x, ls[j]? = some x := ⟨_, List.getElem?_eq_getElem hjl⟩
            obtain ⟨ad2, rfl, c0, c1⟩ := Eds.at_ (HRD.out.below hbq) hx
            have TN := Lib.hid (newL_snoc (ls.take j) x)
            rw [← take_snocP hx] at TN
            obtain ⟨o, s⟩ := x
            have hnj := newL_le (ls.take j)
            have hnj2 := List.length_take_le j ls
            have hLL : (pre ++ newL (ls.take j)).length ≤ 300000 := by rw [List.length_append]; omega
            have HN2 := Lib.hid (And.intro hnj hnj2)
            clear hx hnj hnj2
            generalize hL : pre ++ newL (ls.take j) = L at *
            have HLE := Lib.hid hL
            clear hL
            have hownE := hown.alloc (.cells #[.int .i64 o, .string s] 66)
            have hkxE := hkx.alloc (.cells #[.int .i64 o, .string s] 66)
            have hbE := hbq.alloc hbq.size (.cells #[.int .i64 o, .string s] 66)
            have kE := Blk.new wr 66 #[.int .i64 o, .string s]
            have cE1 := kE.cell 1
            by_cases ho : o = 2
            · subst ho
              have HOE := Lib.hid hownE
              have HKE := Lib.hid hkxE
              have HBE := Lib.hid hbE
              clear hownE hkxE hbE kE cE1 hown hkx
              go_wp2
              go_roundw
              case rel => exact ⟨j + 1, by omega, by go_num, by rw [TN.out, if_pos rfl, List.append_nil, HLE.out]; exact HOE.out, HKE.out, HBE.out⟩
              case measure => simp [intOf]; omega
            · have ho' : (o != 2) = true := by simpa using ho
              have ho'' : (o == 2) = false := by simpa using ho
              have HNO := Lib.hid ho
              clear ho hown hkx
              go_upto_region 14 with fail
              generalize hWe : wr.alloc (.cells #[.int .i64 o, .string s] 66) = We at *
              clear hWe
              have hown4 := hownE.alloc (.cells #[.string s] 9)
              have hkx4 := hkxE.alloc (.cells #[.string s] 9)
              have hnews := World.news_of_block (cs := #[.string s]) (t := 9) (fr := (0, 0)) (heap_alloc_new We (.cells #[.string s] 9))
              have hb4 := hbE.alloc hbE.size (.cells #[.string s] 9)
              have hsz4 := hb4.size
              go_wp2_with (at_builtin; refine wpList_append_own _ rfl _ _ 22 rfl w.heap.size 9 i0 (.string { data := #[] }) 1 16 Tryd.underlying22 hi hz0 hz1 hz2 rfl (by decide) _ _ _ rfl hown4 ⟨We.heap.size, 0, none⟩ 1 1 [.string s] rfl rfl hnews (by simp [Value.oneCell']) (by unfold maxLen; omega) (by omega) hsz4 ?_; intro v5 w5 hown5 hg5 _)
              have hb5 : Below w.heap.size w w5 := hb4.grown hg5 hsz4 (fun z hz => (hownE.lt z hz).1)
              have hkx5 := hkx4.grown hg5 (fun e => own_blk_ne hownE hkxE (by decide) e.symm)
              clear hnews hown4 hg5 hb4 hkx4
              go_roundw
              case rel => exact ⟨j + 1, by omega, by go_num, by rw [TN.out, if_neg HNO.out, ← List.append_assoc, HLE.out, List.length_append, List.map_append]; exact hown5, hkx5, hb5⟩
              case measure => simp [intOf]; omega
          · obtain rfl : j = ls.length := by omega
            rw [List.take_length] at hown
            have e0 := hkx.cell 0
            have e1 := hkx.cell 1
            have HOW := Lib.hid hown
            clear hown hkx
            go_wp2
            go_roundw
            case rel => exact ⟨k + 1, p + dl, out ++ (cutL2 xs done p ++ newL ls), by omega, by go_num, by go_num, by rw [← List.append_assoc, ← HPRE.out]; exact HOW.out, HAP2, hpx, by rw [List.length_append, List.length_append, HCL.out]; omega, hbq⟩
            case measure => simp [intOf]; omega
      · have HRR : Hid (R = .inl (k, wrongH xs ⟨at_, del, to_, add, ls⟩ done out.length)) := Lib.hid (by rw [← HAP.out, applyH_cons, if_pos hw0])
        generalize wrongH xs ⟨at_, del, to_, add, ls⟩ done out.length = q at *
        have hq : (q != 0) = true := by simpa using hw0
        have hq' : (q == 0) = false := by simpa using hw0
        clear hw0 HAP
        go_wp2
        go_ret2
        exact .inr ⟨k, q, w2.heap.size, HRR.out, rfl, heap_alloc_new w2 _, HB2.out.alloc HB2.out.size _⟩
    · obtain rfl : k = hs.length := by omega
      have hRR : R = .inr (out ++ xs.drop done) := by rw [← hap.out, List.drop_length]; rfl
      have HRR := Lib.hid hRR
      have sK := Strs.piece (HA.out.below hb) hdone (Nat.le_refl xs.length)
      rw [show cutL2 xs done xs.length = xs.drop done by unfold cutL2; rw [List.take_of_length_le (by rw [List.length_drop]; omega)]] at sK
      obtain ⟨P, hP⟩ : ∃ P, (if d = done then B else Option.map (fun x => x.add done) B) = P := ⟨_, rfl⟩
      rw [hP] at sK
      have q1 : (done : Int) ≤ (xs.length : Int) := by omega
      have hwb := hb.size
      have hdl : (xs.drop done).length = xs.length - done := List.length_drop
      clear hRR hap
      go_wp2_with (at_builtin; refine wpList_append_strs rfl (.tmp 63) (.tmp 66) rfl w.heap.size _ out rfl HO.out _ (xs.drop done) sK rfl (by omega) hwb ?_; intro v8 w8 hown8 hg8 _; have HB8 := Lib.hid (hb.grown hg8 hwb (fun z hz => (HO.out.lt z hz).1)); have HO8 := Lib.hid hown8; clear hown8 hg8)
      go_ret2
      exact .inl ⟨_, _, HRR.out, rfl, HO8.out, HB8.out⟩
end Go.Proofs.YtdpoeagmeiedcaaDoor

namespace Go.Proofs.YtdpoeagmeiedcaaDoor
open Go Go.RowKit

/-- As the document tells it. -/
def RefAppliedTo (R : (Nat × Int) ⊕ List ByteArray) (w : World) (e : Ending) (w' : World) : Prop :=
  (∃ l v, R = .inr l ∧ e = .returned (.tuple #[v, wrong0]) ∧ w'.ownsRow w.heap.size 9 1 v l.length (l.map Value.string) ∧ Below w.heap.size w w') ∨
    ∃ (i : Nat) (k : Int) (g : Nat), R = .inl (i, k) ∧ e = .returned (.tuple #[.slice none 0 0, wrongG g k]) ∧ Blk w' g 104 #[.string bHunk, .int .i64 (i : Int)] ∧ Below w.heap.size w w'

set_option maxRecDepth 100000 in
set_option maxHeartbeats 8000000 in
theorem refApply_any (w : World) (va vh : Value) (xs : List ByteArray) (hs : List Hk) (ha : Strs w va xs) (hh : HksIn w vh hs) (lx : xs.length ≤ 1000) (lh : hs.length ≤ 200) (hok : ∀ h ∈ hs, HkOk h) :
    Calls Tryd.prog 31 #[va, vh] w (RefAppliedTo (applyH xs hs 0 [] 0) w) := by
  obtain ⟨B, n, d, rfl⟩ := ha.form
  obtain ⟨A, c, rfl⟩ := hh.form
  obtain rfl := ha.len.1
  have hxd := ha.len.2.1
  have hxm : d ≤ 9223372036854775807 := by have := ha.len.2.2; unfold maxLen at this; omega
  have hhc := hh.len.2.1
  have hhm : c ≤ 9223372036854775807 := by have := hh.len.2.2; unfold maxLen at this; omega
  have HA := Lib.hid ha
  have HH := Lib.hid hh
  have HOK := Lib.hid hok
  have E1 := (Below.refl w.heap.size w).alloc (Nat.le_refl _) (.cells #[.slice none 0 0, .int .i64 0] 33)
  have KY := Lib.hid (Blk.new w 33 #[.slice none 0 0, .int .i64 0])
  have HE1 := Lib.hid E1
  obtain ⟨i0, hi, hz0, hz1, hz2⟩ := info_parts strInfo
  obtain ⟨R, hR⟩ : ∃ R, R = applyH xs hs 0 [] 0 := ⟨_, rfl⟩
  rw [← hR]
  have HR := Lib.hid hR
  clear ha hh hok hR E1
  go_enter Tryd.func31, Tryd.ntmps31
  go_wp2_with fail
  generalize hW : w.alloc (.cells #[.slice none 0 0, .int .i64 0] 33) = W at *
  clear hW
  obtain ⟨Y, hY⟩ : ∃ Y, Y = w.heap.size := ⟨_, rfl⟩
  rw [← hY]
  rw [← hY] at KY
  have hYw : Hid (w.heap.size ≤ Y) := Lib.hid (by rw [hY]; exact Nat.le_refl _)
  have hYW := KY.out.lt
  clear hY
  go_loopw [6, 7, 8] (fun s6 s7 s8 wr => ∃ (k done : Nat) (out : List ByteArray), k ≤ hs.length ∧ s8 = .int .i64 k ∧ s7 = .int .i64 done ∧ wr.ownsRow W.heap.size 9 1 s6 out.length (out.map Value.string) ∧ Hid (applyH xs (hs.drop k) done out k = R) ∧ done ≤ xs.length ∧ out.length ≤ done + 200 * k ∧ Below W.heap.size W wr) (fun _ _ s8 _ => hs.length - (intOf s8).toNat)
  case atStart => exact ⟨0, 0, [], Nat.zero_le _, rfl, rfl, World.ownsRow_nil _ _ _ _, Lib.hid HR.out.symm, Nat.zero_le _, by simp, Below.refl _ _⟩
  case round =>
    obtain ⟨k, done, out, hk, rfl, rfl, hown, hap, hdone, hol, hb⟩ := hrel
    obtain ⟨wo, hwo⟩ : ∃ wo : World, wo = wr := ⟨_, rfl⟩
    rw [← hwo] at hown hb ⊢
    clear hwo
    have k0 : (0 : Int) ≤ (k : Int) := Int.natCast_nonneg _
    have d0 : (0 : Int) ≤ (done : Int) := Int.natCast_nonneg _
    obtain ⟨Ao, co, rfl⟩ := own_strs hown
    have HO := Lib.hid hown
    have HBo := Lib.hid (HE1.out.trans (hb.mono HE1.out.size))
    clear hown
    by_cases hlt : k < hs.length
    · have k1 : (k : Int) < (hs.length : Int) := by omega
      obtain ⟨x, hx⟩ : ∃ x, hs[k]? = some x := ⟨_, List.getElem?_eq_getElem hlt⟩
      obtain ⟨ad, vl, rfl, c0, c1, c2, c3, c4, hrd⟩ := HH.out.at2 (Below.refl _ _) hx
      have hxo := HOK.out x (List.mem_of_getElem? hx)
      have HAP := Lib.hid (show applyH xs (x :: hs.drop (k + 1)) done out k = R by rw [← drop_consP hx]; exact hap.out)
      obtain ⟨at_, del, to_, add, ls⟩ := x
      simp only at c0 c1 c2 c3 hrd
      obtain ⟨Al, cl, rfl⟩ := hrd.form
      have HC := Lib.hid (fun (w' : World) (hb' : Below w.heap.size w w') => And.intro ((hb'.cell (World.block_lt_of_cell? _ _ c0)).trans c0) (And.intro ((hb'.cell (World.block_lt_of_cell? _ _ c1)).trans c1) (And.intro ((hb'.cell (World.block_lt_of_cell? _ _ c2)).trans c2) (And.intro ((hb'.cell (World.block_lt_of_cell? _ _ c3)).trans c3) ((hb'.cell (World.block_lt_of_cell? _ _ c4)).trans c4)))))
      clear c0 c1 c2 c3 c4
      obtain ⟨c0, c1, c2, c3, c4⟩ := HC.out wo HBo.out
      have WR := Lib.hid (refHunk_any wo (.slice B xs.length d) (.slice Al ls.length cl) xs at_ del to_ add ls done out.length (HA.out.below HBo.out) (hrd.below HBo.out) lx (by have := hxo.l; simp only at this; omega) hxo.a1 hxo.a2 hxo.t1 hxo.t2 (by omega) (by omega))
      have HRD := Lib.hid hrd
      have hlc := hrd.len.2.1
      have hlm : cl ≤ 9223372036854775807 := by have := hrd.len.2.2; unfold maxLen at this; omega
      have HXO := Lib.hid hxo
      have ol9 : (out.length : Int) ≤ 1000000 := by omega
      have ol0 : (0 : Int) ≤ (out.length : Int) := by omega
      have dn9 : (done : Int) ≤ 1000000 := by omega
      clear hx hxo hrd hap
      go_wp2_with fail
      refine WR.out.mono ?_
      rintro e w2 ⟨rfl, b2⟩
      have HB2 := Lib.hid (hb.trans (b2.mono hb.size))
      have HO2 := Lib.hid (own2_keep HO.out b2)
      have HB2o := Lib.hid (HE1.out.trans (HB2.out.mono HE1.out.size))
      have KY2 := Lib.hid (KY.out.below HB2.out hYW)
      obtain ⟨c0', c1', _, _, c4'⟩ := HC.out w2 HB2o.out
      clear b2 WR c0 c1 c2 c3 c4
      by_cases hw0 : wrongH xs ⟨at_, del, to_, add, ls⟩ done out.length = 0
      · obtain ⟨z1, hdel, z3, hge, z5, z6, hfit, z8⟩ := wrongH_ok hw0
        clear z1 z3 z5 z6 z8
        simp only at hdel hge hfit
        obtain ⟨p, hp⟩ : ∃ p : Nat, at_ = (p : Int) := ⟨at_.toNat, by omega⟩
        obtain ⟨dl, hdl⟩ : ∃ dl, dl = dels ls := ⟨_, rfl⟩
        rw [← hdl] at hdel hfit
        subst hp
        subst hdel
        have hdp : done ≤ p := by omega
        have hpx : p + dl ≤ xs.length := by omega
        have HAP2 : Hid (applyH xs (hs.drop (k + 1)) (p + dl) (out ++ (cutL2 xs done p ++ newL ls)) (k + 1) = R) := Lib.hid (by
          rw [← HAP.out, applyH_cons, if_neg (by rw [hw0]; decide)]
          show _ = applyH xs (hs.drop (k + 1)) ((p : Int) + (dl : Int)).toNat (out ++ ((xs.drop done).take ((p : Int).toNat - done) ++ newL ls)) (k + 1)
          rw [Int.toNat_natCast, show ((p : Int) + (dl : Int)).toNat = p + dl by omega]
          rfl)
        have hnl := newL_le ls
        have hls := HXO.out.l
        simp only at hls
        have HCL := Lib.hid (show (cutL2 xs done p).length = p - done from cutL2_len _ (by omega))
        rw [hw0]
        have sK := Strs.piece (HA.out.below HB2o.out) hdp (show p ≤ xs.length by omega)
        obtain ⟨P, hP⟩ : ∃ P, (if d = done then B else Option.map (fun x => x.add done) B) = P := ⟨_, rfl⟩
        rw [hP] at sK
        have q1 : (done : Int) ≤ (p : Int) := by omega
        have q2 : (p : Int) ≤ (d : Int) := by omega
        have p0 : (0 : Int) ≤ (p : Int) := by omega
        have hwb := HB2.out.size
        clear hw0 hdl HAP hge hfit ol9 ol0 dn9
        go_wp2_with (at_builtin; refine wpList_append_strs rfl (.tmp 33) (.tmp 41) rfl W.heap.size _ out rfl HO2.out _ (cutL2 xs done p) sK rfl (by have := HCL.out; omega) hwb ?_; intro v8 w8 hown8 hg8 _; have HB8 := Lib.hid (HB2.out.grown hg8 hwb (fun z hz => (HO2.out.lt z hz).1)); have HO8 := Lib.hid hown8; clear hown8 hg8 c0' c1' c4')
        obtain ⟨pre, hpre⟩ : ∃ pre, pre = out ++ cutL2 xs done p := ⟨_, rfl⟩
        have hprl : pre.length ≤ 100000 := by rw [hpre, List.length_append, HCL.out]; omega
        have HO8p : Hid (w8.ownsRow W.heap.size 9 1 v8 pre.length (pre.map Value.string)) := Lib.hid (by rw [hpre]; exact HO8.out)
        have HPRE := Lib.hid hpre
        clear hpre HO8 sK hP
        obtain ⟨A8, c8, rfl⟩ := own_strs HO8p.out
        go_loopw [6, 10] (fun s6 s10 wq => ∃ j : Nat, j ≤ ls.length ∧ s10 = .int .i64 j ∧ wq.ownsRow W.heap.size 9 1 s6 (pre ++ newL (ls.take j)).length ((pre ++ newL (ls.take j)).map Value.string) ∧ Below W.heap.size W wq) (fun _ s10 _ => ls.length - (intOf s10).toNat)
        case atStart => exact ⟨0, Nat.zero_le _, rfl, by simpa [newL] using HO8p.out, HB8.out⟩
        case round =>
          obtain ⟨j, hj, rfl, hown, hbq⟩ := hrel
          have j0 : (0 : Int) ≤ (j : Int) := Int.natCast_nonneg _
          have hbw := HE1.out.trans (hbq.mono HE1.out.size)
          obtain ⟨c0, c1, _, _, c4⟩ := HC.out wr hbw
          by_cases hjl : j < ls.length
          · have j1 : (j : Int) < (ls.length : Int) := by omega
            obtain ⟨x, hx⟩ : ∃ x, ls[j]? = some x := ⟨_, List.getElem?_eq_getElem hjl⟩
            obtain ⟨ad2, rfl, x0, x1⟩ := Eds.at_ (HRD.out.below hbw) hx
            have TN := Lib.hid (newL_snoc (ls.take j) x)
            rw [← take_snocP hx] at TN
            obtain ⟨o, s⟩ := x
            have hnj := newL_le (ls.take j)
            have hnj2 := List.length_take_le j ls
            have hLL : (pre ++ newL (ls.take j)).length ≤ 300000 := by rw [List.length_append]; omega
            clear hx hnj hnj2
            generalize hL : pre ++ newL (ls.take j) = L at *
            have HLE := Lib.hid hL
            clear hL
            by_cases ho : o = 2
            · subst ho
              have HOE := Lib.hid hown
              have HBE := Lib.hid hbq
              clear hown
              go_wp2
              go_roundw
              case rel => exact ⟨j + 1, by omega, by go_num, by rw [TN.out, if_pos rfl, List.append_nil, HLE.out]; exact HOE.out, HBE.out⟩
              case measure => simp [intOf]; omega
            · have ho' : (o != 2) = true := by simpa using ho
              have ho'' : (o == 2) = false := by simpa using ho
              have HNO := Lib.hid ho
              have hown4 := hown.alloc (.cells #[.string s] 9)
              have hnews := World.news_of_block (cs := #[.string s]) (t := 9) (fr := (0, 0)) (heap_alloc_new wr (.cells #[.string s] 9))
              have hb4 := hbq.alloc hbq.size (.cells #[.string s] 9)
              have hsz4 := hb4.size
              clear ho
              go_wp2_with (at_builtin; refine wpList_append_own _ rfl _ _ 22 rfl W.heap.size 9 i0 (.string { data := #[] }) 1 16 Tryd.underlying22 hi hz0 hz1 hz2 rfl (by decide) _ _ _ rfl hown4 ⟨wr.heap.size, 0, none⟩ 1 1 [.string s] rfl rfl hnews (by simp [Value.oneCell']) (by unfold maxLen; omega) (by omega) hsz4 ?_; intro v5 w5 hown5 hg5 _)
              have hb5 : Below W.heap.size W w5 := hb4.grown hg5 hsz4 (fun z hz => (hown.lt z hz).1)
              clear hnews hown4 hg5 hb4
              go_roundw
              case rel => exact ⟨j + 1, by omega, by go_num, by rw [TN.out, if_neg HNO.out, ← List.append_assoc, HLE.out, List.length_append, List.map_append]; exact hown5, hb5⟩
              case measure => simp [intOf]; omega
          · obtain rfl : j = ls.length := by omega
            rw [List.take_length] at hown
            have HOW := Lib.hid hown
            have hsp : IntKind.i64.wrap ((p : Int) + (dl : Int)) = (p : Int) + (dl : Int) := IntWalk.i64_in _ (by omega)
            clear hown
            go_wp2_with fail
            go_quiet (fail)
            go_wp2
            go_roundw
            case rel => exact ⟨k + 1, p + dl, out ++ (cutL2 xs done p ++ newL ls), by omega, by go_num, by go_num, by rw [← List.append_assoc, ← HPRE.out]; exact HOW.out, HAP2, hpx, by rw [List.length_append, List.length_append, HCL.out]; omega, below_drewN hbq _⟩
            case measure => simp [intOf]; omega
      · have HRR : Hid (R = .inl (k, wrongH xs ⟨at_, del, to_, add, ls⟩ done out.length)) := Lib.hid (by rw [← HAP.out, applyH_cons, if_pos hw0])
        generalize wrongH xs ⟨at_, del, to_, add, ls⟩ done out.length = q at *
        have hq : (q != 0) = true := by simpa using hw0
        have hq' : (q == 0) = false := by simpa using hw0
        have AT := Lib.hid (refAt_gen bHunk (k : Int) q w2)
        clear hw0 HAP c0' c1' c4'
        go_wp2_with fail
        refine AT.out.mono ?_
        rintro e w3 ⟨g, rfl, hg, hge, b3⟩
        have KY3 := Lib.hid (KY2.out.below b3 KY2.out.lt)
        have HB3 := Lib.hid (HB2o.out.trans (b3.mono HB2o.out.size))
        have HG := Lib.hid hg
        have HYG := Lib.hid (KY3.out.ne_ hg (by decide))
        have y0 := KY3.out.cell 0
        have y1 := KY3.out.cell 1
        have f0 := KY3.out.frozen 0
        have f1 := KY3.out.frozen 1
        clear hg hge b3 AT
        go_wp2_with fail
        refine bodyPost_ret (results_tmp_row (fn := Tryd.f31) rfl _ _ Y 33 #[.slice (some ⟨g, 0, none⟩) 1 1, .int .i64 q] (0, 0) rfl (by first | exact (KY3.out.set_ 0 _).set_ 1 _ | simpa using (KY3.out.set_ 0 (.slice (some ⟨g, 0, none⟩) 1 1)).set_ 1 (.int .i64 q)) Tryd.underlying33 (by kernel_rfl)) rfl (.inr ⟨k, q, g, HRR.out, rfl, (HG.out.far (p := ⟨Y, 0, none⟩) (fun e => HYG.out e.symm) _).far (p := ⟨Y, 1, none⟩) (fun e => HYG.out e.symm) _, ?_⟩)
        first | exact ((HB3.out.setCell (p := ⟨Y, 0, none⟩) hYw.out _).setCell (p := ⟨Y, 1, none⟩) hYw.out _) | exact ((HB3.out.setCell (p := ⟨Y, 0, none⟩) hYw.out _).setCell (p := ⟨Y, 1, none⟩) hYw.out _).drew
    · obtain rfl : k = hs.length := by omega
      have hRR : R = .inr (out ++ xs.drop done) := by rw [← hap.out, List.drop_length]; rfl
      have HRR := Lib.hid hRR
      have sK := Strs.piece (HA.out.below HBo.out) hdone (Nat.le_refl xs.length)
      rw [show cutL2 xs done xs.length = xs.drop done by unfold cutL2; rw [List.take_of_length_le (by rw [List.length_drop]; omega)]] at sK
      obtain ⟨P, hP⟩ : ∃ P, (if d = done then B else Option.map (fun x => x.add done) B) = P := ⟨_, rfl⟩
      rw [hP] at sK
      have q1 : (done : Int) ≤ (xs.length : Int) := by omega
      have hwb := hb.size
      have HDL := Lib.hid (show (xs.drop done).length = xs.length - done from List.length_drop)
      clear hRR hap
      go_wp2_with (at_builtin; refine wpList_append_strs rfl (.tmp 86) (.tmp 89) rfl W.heap.size _ out rfl HO.out _ (xs.drop done) sK rfl (by have := HDL.out; omega) hwb ?_; intro v8 w8 hown8 hg8 _; have HB8 := Lib.hid (hb.grown hg8 hwb (fun z hz => (HO.out.lt z hz).1)); have HO8 := Lib.hid hown8; have KY8 := Lib.hid (KY.out.below HB8.out hYW); have y0 := KY8.out.cell 0; have y1 := KY8.out.cell 1; have f0 := KY8.out.frozen 0; have f1 := KY8.out.frozen 1; clear hown8 hg8)
      have HB9 := Lib.hid (HE1.out.trans (HB8.out.mono HE1.out.size))
      have HO9 := Lib.hid (own2_le ((HO8.out.kept (grown_cellL w8 Y 0 (.slice none 0 0)) (.inr (own_blk_ne HO8.out KY8.out (by decide)))).kept (grown_cellL (w8.setCell ⟨Y, 0, none⟩ (.slice none 0 0)) Y 1 (.int .i64 0)) (.inr (own_blk_ne HO8.out KY8.out (by decide)))) HE1.out.size)
      refine bodyPost_ret (results_tmp_row (fn := Tryd.f31) rfl _ _ Y 33 #[.slice none 0 0, .int .i64 0] (0, 0) rfl (by first | exact (KY8.out.set_ 0 _).set_ 1 _ | simpa using (KY8.out.set_ 0 (.slice none 0 0)).set_ 1 (.int .i64 0)) Tryd.underlying33 (by kernel_rfl)) rfl (.inl ⟨_, _, HRR.out, rfl, HO9.out, ?_⟩)
      first | exact ((HB9.out.setCell (p := ⟨Y, 0, none⟩) hYw.out _).setCell (p := ⟨Y, 1, none⟩) hYw.out _) | exact ((HB9.out.setCell (p := ⟨Y, 0, none⟩) hYw.out _).setCell (p := ⟨Y, 1, none⟩) hYw.out _).drew
end Go.Proofs.YtdpoeagmeiedcaaDoor

namespace Go.Proofs.YtdpoeagmeiedcaaDoor
open Go Go.RowKit

/-- A row of the call's own. -/
def OwnTo {α : Type} (e : TypeId) (k : Nat) (enc : α → List Value) (l : List α) (w : World) (x : Ending) (w' : World) : Prop := ∃ v, x = .returned v ∧ w'.ownsRow w.heap.size e k v l.length (l.flatMap enc) ∧ Below w.heap.size w w'
theorem flat_snocP {α : Type} (enc : α → List Value) (l : List α) (x : α) : (l ++ [x]).flatMap enc = l.flatMap enc ++ enc x := by simp

set_option maxRecDepth 100000 in
set_option maxHeartbeats 4000000 in
theorem ofEd_any (w : World) (v : Value) (l : List EdI) (h : Reads 2 cEd w v l) (hl : l.length ≤ 1000) :
    Calls Tryd.prog 60 #[v] w (OwnTo 91 2 cEd l w) := by
  obtain ⟨A, c, rfl⟩ := h.form
  have hnm : c ≤ 9223372036854775807 := by have := h.len.2.2; unfold maxLen at this; omega
  have HO := Lib.hid h
  obtain ⟨i0, hi, hz0, hz1, hz2⟩ := info_parts refEditInfo
  clear h
  go_enter Tryd.func60, Tryd.ntmps60
  go_wp2_with fail
  go_loopw [3, 4] (fun s3 s4 wr => ∃ i : Nat, i ≤ l.length ∧ s4 = .int .i64 i ∧ Hid (wr.ownsRow w.heap.size 91 2 s3 i ((l.take i).flatMap cEd)) ∧ Hid (Below w.heap.size w wr)) (fun _ s4 _ => l.length - (intOf s4).toNat)
  case atStart => exact ⟨0, Nat.zero_le _, rfl, Lib.hid (World.ownsRow_nil _ _ _ _), Below.refl _ _⟩
  case round =>
    obtain ⟨i, hil, rfl, hown, hb⟩ := hrel
    have i0' : (0 : Int) ≤ (i : Int) := Int.natCast_nonneg _
    by_cases hlt : i < l.length
    · obtain ⟨x, hx⟩ : ∃ x, l[i]? = some x := ⟨_, List.getElem?_eq_getElem hlt⟩
      obtain ⟨ad, rfl, c0, c1⟩ := Eds.at_ (HO.out.below hb.out) hx
      obtain ⟨o, s⟩ := x
      have HF := Lib.hid hx
      have hi1 : (i : Int) < (l.length : Int) := by omega
      have hsz := hb.out.size
      obtain ⟨vals, hvals⟩ : ∃ vs, vs = (l.take i).flatMap cEd := ⟨_, rfl⟩
      rw [← hvals] at hown
      have HV := Lib.hid hvals
      clear hx hvals
      go_upto_block 1 with fail
      go_cut [3] (fun x3 wy => Hid (wy.ownsRow w.heap.size 91 2 x3 (i + 1) ((l.take (i + 1)).flatMap cEd)) ∧ Hid (Below w.heap.size w wy))
      case first =>
        go_wp2_with fail
        go_region_law ((refine step_append_lies _ (by rfl) _ _ _ (by rfl) w.heap.size 91 i0 _ 2 24 Tryd.underlying30 hi hz0 hz1 hz2 rfl (by omega) _ i vals (by rfl) ((hown.out.alloc _).drew) ⟨wr.heap.size, 0, none⟩ 1 1 [.int .i64 o, .string s] (by rfl) (by rfl) (World.news_of_block (cs := #[.int .i64 o, .string s]) (t := 91) (fr := (0, 0)) (heap_alloc_new wr _)) (by simp [Value.oneCell']) (by omega) (by unfold maxLen; omega) (by omega) (by simp; omega) (wr.heap.size + 1) (by simp) ?_; intro gg cap w3 hown1 hgrow hat hlt2))
        all_goals
          go_wp2_with fail
          change Met _ (Act.put _ (some 3) _) _
          simp only [Act.put, List.setIfInBounds_toArray, List.set_cons_zero, List.set_cons_succ]
          go_meet
          exact ⟨Lib.hid (by rw [take_snocP HF.out, flat_snocP, ← HV.out]; exact hown1), Lib.hid (((hb.out.alloc hsz _).drew).grown hgrow (by simp; omega) (fun z hz => (hown.out.lt z hz).1))⟩
      case rest =>
        obtain ⟨h1, h2⟩ := hcut
        go_wp2
        go_roundw
        case rel => exact ⟨i + 1, by omega, by go_num, h1, h2⟩
        case measure => simp [intOf]; omega
    · obtain rfl : i = l.length := by omega
      have HL : Hid ((l.take l.length).flatMap cEd = l.flatMap cEd) := Lib.hid (by rw [List.take_length])
      go_wp2
      go_ret
      exact ⟨_, rfl, by rw [← HL.out]; exact hown.out, hb.out⟩
end Go.Proofs.YtdpoeagmeiedcaaDoor

namespace Go.Proofs.YtdpoeagmeiedcaaDoor
open Go Go.RowKit

theorem refHunkInfo : (Tryd.prog.info? 114).map (fun i => (i.zero, i.size, i.bytes)) = some (some (.agg #[.int .i64 0, .int .i64 0, .int .i64 0, .int .i64 0, .slice none 0 0]), 5, 56) := by kernel_rfl
/-- Five values a hunk, its lines in a row of the call's own of type e. -/
def HkV (e : TypeId) (w : World) (B : Nat) : List Value → List Hk → Prop
  | vals, [] => vals = []
  | vals, h :: hs => ∃ vl rest, vals = .int .i64 h.at_ :: .int .i64 h.del :: .int .i64 h.to_ :: .int .i64 h.add :: vl :: rest ∧ w.ownsRow B e 2 vl h.ls.length (h.ls.flatMap cEd) ∧ HkV e w B rest hs
theorem HkV.keep {e : TypeId} {w w' : World} {B : Nat} (hk : ∀ v n xs, w.ownsRow B e 2 v n xs → w'.ownsRow B e 2 v n xs) : ∀ {hs : List Hk} {vals : List Value}, HkV e w B vals hs → HkV e w' B vals hs
  | [], _, h => h
  | _ :: _, _, ⟨vl, rest, hv, h1, h2⟩ => ⟨vl, rest, hv, hk _ _ _ h1, HkV.keep hk h2⟩
theorem HkV.snoc {e : TypeId} {w : World} {B : Nat} {h : Hk} {vl : Value} (h1 : w.ownsRow B e 2 vl h.ls.length (h.ls.flatMap cEd)) : ∀ {hs : List Hk} {vals : List Value}, HkV e w B vals hs → HkV e w B (vals ++ [.int .i64 h.at_, .int .i64 h.del, .int .i64 h.to_, .int .i64 h.add, vl]) (hs ++ [h])
  | [], _, h0 => by rw [show _ = [] from h0]; exact ⟨vl, [], rfl, h1, rfl⟩
  | _ :: _, _, ⟨vl', rest, hv, g1, g2⟩ => ⟨vl', _, by rw [hv]; rfl, g1, HkV.snoc h1 g2⟩
theorem HkV.at_ {e : TypeId} {w : World} {B : Nat} : ∀ {hs : List Hk} {vals : List Value} {i : Nat} {h : Hk}, HkV e w B vals hs → hs[i]? = some h →
    ∃ vl, vals[i * 5]? = some (.int .i64 h.at_) ∧ vals[i * 5 + 1]? = some (.int .i64 h.del) ∧ vals[i * 5 + 2]? = some (.int .i64 h.to_) ∧ vals[i * 5 + 3]? = some (.int .i64 h.add) ∧ vals[i * 5 + 4]? = some vl ∧ w.ownsRow B e 2 vl h.ls.length (h.ls.flatMap cEd)
  | [], _, _, _, _, hi => by simp at hi
  | h0 :: hs, _, 0, h, ⟨vl, rest, hv, g1, _⟩, hi => by
    simp at hi
    subst hi
    rw [hv]
    exact ⟨vl, rfl, rfl, rfl, rfl, rfl, g1⟩
  | h0 :: hs, _, i + 1, h, ⟨vl, rest, hv, _, g2⟩, hi => by
    rw [List.getElem?_cons_succ] at hi
    obtain ⟨vl', k0, k1, k2, k3, k4, r⟩ := HkV.at_ g2 hi
    rw [hv]
    refine ⟨vl', ?_, ?_, ?_, ?_, ?_, r⟩
    · rw [show (i + 1) * 5 = i * 5 + 5 by omega]; exact k0
    · rw [show (i + 1) * 5 + 1 = i * 5 + 1 + 5 by omega]; exact k1
    · rw [show (i + 1) * 5 + 2 = i * 5 + 2 + 5 by omega]; exact k2
    · rw [show (i + 1) * 5 + 3 = i * 5 + 3 + 5 by omega]; exact k3
    · rw [show (i + 1) * 5 + 4 = i * 5 + 4 + 5 by omega]; exact k4
theorem own_formP {w : World} {base k n : Nat} {e : TypeId} {v : Value} {xs : List Value} (h : w.ownsRow base e k v n xs) : ∃ A c, v = .slice A n c := by
  rcases h.2 with ⟨rfl, h0⟩ | ⟨g, cap, cur, rfl, _⟩
  · exact ⟨_, _, by rw [h0]⟩
  · exact ⟨_, _, rfl⟩
/-- Rows of unlike types lie apart. -/
theorem rows_ne {w : World} {b1 b2 k1 k2 n1 n2 : Nat} {e1 e2 : TypeId} {v1 v2 : Value} {x1 x2 : List Value} (h1 : w.ownsRow b1 e1 k1 v1 n1 x1) (h2 : w.ownsRow b2 e2 k2 v2 n2 x2) (hne : e1 ≠ e2) : ∀ g, v1.ownBlock = some g → v2.ownBlock ≠ some g := by
  intro g g1 g2
  rcases h1.2 with ⟨rfl, _⟩ | ⟨g', cap, cur, rfl, _, hh, _⟩
  · simp [Value.ownBlock] at g1
  · rcases h2.2 with ⟨rfl, _⟩ | ⟨g'', cap', cur', rfl, _, hh', _⟩
    · simp [Value.ownBlock] at g2
    · simp [Value.ownBlock] at g1 g2
      subst g1; subst g2
      rw [hh] at hh'
      injection hh' with e
      injection e with _ e2
      exact hne e2
theorem kept_ne {w w' : World} {b1 b2 k1 k2 n1 n2 : Nat} {e1 e2 : TypeId} {v1 v2 : Value} {x1 x2 : List Value} (h1 : w.ownsRow b1 e1 k1 v1 n1 x1) (h2 : w.ownsRow b2 e2 k2 v2 n2 x2) (hne : e1 ≠ e2) (hg : w.grownBy w' v2.ownBlock) : w'.ownsRow b1 e1 k1 v1 n1 x1 := by
  refine h1.kept hg ?_
  cases hy : v1.ownBlock with
  | none => exact .inl rfl
  | some k => exact .inr fun e => rows_ne h1 h2 hne k hy e.symm
theorem HksIn.of_own {w : World} {base B : Nat} {e t : TypeId} {v : Value} {hs : List Hk} {vals : List Value} (h : w.ownsRow base t 5 v hs.length vals) (hv : HkV e w B vals hs) : HksIn w v hs := by
  rcases h.2 with ⟨rfl, h0⟩ | ⟨g, cap, cur, rfl, hb, hg, hnc, hm, hcs, ht⟩
  · have : hs = [] := List.eq_nil_of_length_eq_zero h0
    subst this
    exact HksIn.nil w
  · refine ⟨some ⟨g, 0, none⟩, cap, rfl, hnc, hm, (fun h => by cases h), fun ad ha i x hx => ?_⟩
    obtain rfl := Option.some.inj ha
    obtain ⟨vl, k0, k1, k2, k3, k4, r⟩ := hv.at_ hx
    have c := fun j u (hu : vals[j]? = some u) => h.cells (g := g) rfl j u hu
    have ar : ∀ j u, vals[i * 5 + j]? = some u → w.cell? (adr ⟨g, 0, none⟩ i 5 j) = some u := fun j u hu => by
      have := c _ _ hu
      rw [add_zero_addr] at this
      cases j with
      | zero => unfold adr; rw [add_zero_addr]; exact this
      | succ j => unfold adr; rw [add_zero_addr]; exact this
    exact ⟨vl, ar 0 _ k0, ar 1 _ k1, ar 2 _ k2, ar 3 _ k3, ar 4 _ k4, Reads.of_own cEd_len r⟩

/-- Hunks in a row of the call's own. -/
def HunksTo (t e : TypeId) (hs : List Hk) (w : World) (x : Ending) (w' : World) : Prop := ∃ v vals, x = .returned v ∧ w'.ownsRow w.heap.size t 5 v hs.length vals ∧ HkV e w' w.heap.size vals hs ∧ Below w.heap.size w w'

set_option maxRecDepth 100000 in
set_option maxHeartbeats 8000000 in
theorem ofHk_any (w : World) (v : Value) (hs : List Hk) (h : HksIn w v hs) (hl : hs.length ≤ 1000) (hll : ∀ x ∈ hs, x.ls.length ≤ 1000) :
    Calls Tryd.prog 32 #[v] w (HunksTo 114 91 hs w) := by
  obtain ⟨A, c, rfl⟩ := h.form
  have hnm : c ≤ 9223372036854775807 := by have := h.len.2.2; unfold maxLen at this; omega
  have hnc := h.len.2.1
  have HH := Lib.hid h
  have HLL := Lib.hid hll
  obtain ⟨i0, hi, hz0, hz1, hz2⟩ := info_parts refHunkInfo
  clear h hll
  go_enter Tryd.func32, Tryd.ntmps32
  go_wp2_with fail
  go_loopw [3, 4] (fun s3 s4 wr => ∃ (i : Nat) (vals : List Value), i ≤ hs.length ∧ s4 = .int .i64 i ∧ Hid (wr.ownsRow w.heap.size 114 5 s3 i vals) ∧ Hid (HkV 91 wr w.heap.size vals (hs.take i)) ∧ Hid (Below w.heap.size w wr)) (fun _ s4 _ => hs.length - (intOf s4).toNat)
  case atStart => exact ⟨0, [], Nat.zero_le _, rfl, Lib.hid (World.ownsRow_nil _ _ _ _), Lib.hid rfl, Lib.hid (Below.refl _ _)⟩
  case round =>
    obtain ⟨i, vals, hil, rfl, hown, hv, hb⟩ := hrel
    have i0' : (0 : Int) ≤ (i : Int) := Int.natCast_nonneg _
    by_cases hlt : i < hs.length
    · obtain ⟨x, hx⟩ : ∃ x, hs[i]? = some x := ⟨_, List.getElem?_eq_getElem hlt⟩
      obtain ⟨ad, vl, rfl, c0, c1, c2, c3, c4, hrd⟩ := HH.out.at2 (Below.refl _ _) hx
      have hxl := HLL.out x (List.mem_of_getElem? hx)
      have HF := Lib.hid hx
      obtain ⟨at_, del, to_, add, ls⟩ := x
      simp only at c0 c1 c2 c3 hrd hxl
      obtain ⟨Al, cl, rfl⟩ := hrd.form
      have hi1 : (i : Int) < (hs.length : Int) := by omega
      have hsz := hb.out.size
      have ZZ := Lib.hid (fun (w' : World) (hb' : Below w.heap.size w w') => And.intro ((hb'.cell (World.block_lt_of_cell? _ _ c0)).trans c0) (And.intro ((hb'.cell (World.block_lt_of_cell? _ _ c1)).trans c1) (And.intro ((hb'.cell (World.block_lt_of_cell? _ _ c2)).trans c2) (And.intro ((hb'.cell (World.block_lt_of_cell? _ _ c3)).trans c3) ((hb'.cell (World.block_lt_of_cell? _ _ c4)).trans c4)))))
      have z0 := ZZ.out _ hb.out.drew
      have T := Lib.hid (fun (w' : World) (hb' : Below w.heap.size w w') => ofEd_any w' (.slice Al ls.length cl) ls (hrd.below hb') hxl)
      have HB := Lib.hid (fun (w' : World) (b' : Below wr.drew.heap.size wr.drew w') => hb.out.drew.trans (b'.mono hb.out.drew.size))
      clear hx hrd hxl c0 c1 c2 c3 c4
      go_upto_block 1 with fail
      go_cut [3] (fun x3 wy => ∃ vals2, Hid (wy.ownsRow w.heap.size 114 5 x3 (i + 1) vals2) ∧ Hid (HkV 91 wy w.heap.size vals2 (hs.take (i + 1))) ∧ Hid (Below w.heap.size w wy))
      case first =>
        go_wp2_with fail
        go_region_held3 (fun w' => w'.cell? (ad.add (i * 5)) = some (.int .i64 at_) ∧ w'.cell? ⟨(ad.add (i * 5)).block, (ad.add (i * 5)).off + 1, none⟩ = some (.int .i64 del) ∧ w'.cell? ⟨(ad.add (i * 5)).block, (ad.add (i * 5)).off + 2, none⟩ = some (.int .i64 to_) ∧ w'.cell? ⟨(ad.add (i * 5)).block, (ad.add (i * 5)).off + 3, none⟩ = some (.int .i64 add) ∧ w'.cell? ⟨(ad.add (i * 5)).block, (ad.add (i * 5)).off + 4, none⟩ = some (.slice Al ls.length cl)) (first | exact z0 | exact z6 | exact ZZ.out _ (d6.alloc d6.size _) | exact z7) (first
          | (refine step_append_lies _ (by rfl) _ _ 53 (by rfl) w.heap.size 114 i0 (.agg #[.int .i64 0, .int .i64 0, .int .i64 0, .int .i64 0, .slice none 0 0]) 5 56 Tryd.underlying53 hi hz0 hz1 hz2 rfl (by omega) _ i vals (by rfl) (hown6.alloc _) ⟨w6.heap.size, 0, none⟩ 1 1 [.int .i64 at_, .int .i64 del, .int .i64 to_, .int .i64 add, .slice A6 ls.length c6] (by rfl) (by rfl) (World.news_of_block (cs := #[.int .i64 at_, .int .i64 del, .int .i64 to_, .int .i64 add, .slice A6 ls.length c6]) (t := 114) (fr := (0, 0)) (heap_alloc_new w6 _)) (by simp [Value.oneCell']) (by omega) (by unfold maxLen; omega) (by omega) (by simp; omega) (w6.heap.size + 1) (by simp) ?_; intro gg cap w7 hown7 hg7 hat hlt7; have d7 := (d6.alloc d6.size (.cells #[.int .i64 at_, .int .i64 del, .int .i64 to_, .int .i64 add, .slice A6 ls.length c6] 114)).grown hg7 (by simp; omega) (fun z hz => (hown6.lt z hz).1); have z7 := ZZ.out _ d7)
          | (go_at_call 60; (with_reducible refine (T.out wr.drew hb.out.drew).mono ?_); rintro e w6 ⟨v6, rfl, o6, b6⟩; have d6 := HB.out _ b6; have z6 := ZZ.out _ d6; have hown6 := own2_keep hown.out.drew b6; have hws6 := d6.size; obtain ⟨A6, c6, rfl⟩ := own_formP o6))
        all_goals
          go_wp2_with fail
          go_meet
          exact ⟨vals ++ [.int .i64 at_, .int .i64 del, .int .i64 to_, .int .i64 add, .slice A6 ls.length c6], Lib.hid hown7, Lib.hid (by
            rw [take_snocP HF.out]
            exact HkV.snoc (h := ⟨at_, del, to_, add, ls⟩) (kept_ne ((own2_le o6 hb.out.drew.size).alloc _) (hown6.alloc _) (by decide) hg7) (hv.out.keep fun v n xs hr => kept_ne ((own2_keep hr.drew b6).alloc _) (hown6.alloc _) (by decide) hg7)), Lib.hid d7⟩
      case rest =>
        obtain ⟨vals2, h1, h2, h3⟩ := hcut
        go_wp2
        go_roundw
        case rel => exact ⟨i + 1, vals2, by omega, by go_num, h1, h2, h3⟩
        case measure => simp [intOf]; omega
    · obtain rfl : i = hs.length := by omega
      have HL : Hid (hs.take hs.length = hs) := Lib.hid (by rw [List.take_length])
      go_wp2
      go_ret
      exact ⟨_, vals, rfl, hown.out, by rw [HL.out] at hv; exact hv.out, hb.out⟩
end Go.Proofs.YtdpoeagmeiedcaaDoor

namespace Go.Proofs.YtdpoeagmeiedcaaDoor
open Go Go.RowKit

theorem rowInfo : (Tryd.prog.info? 108).map (fun i => (i.zero, i.size, i.bytes)) = some (some (.agg #[.int .i64 0, .int .i64 0]), 2, 16) := by kernel_rfl
abbrev HRw := Nat × Nat
def cRw (r : HRw) : List Value := [.int .i64 (r.1 : Int), .int .i64 (r.2 : Int)]
theorem cRw_len (r : HRw) : (cRw r).length = 2 := rfl
/-- A row more, or the last one's end. -/
def addR (out : List HRw) (b e : Nat) : List HRw := match out.getLast? with
  | some p => if b ≤ p.2 then out.dropLast ++ [(p.1, e)] else out ++ [(b, e)]
  | none => [(b, e)]
theorem addR_nil (b e : Nat) : addR [] b e = [(b, e)] := rfl
theorem addR_snoc (pre : List HRw) (p q b e : Nat) : addR (pre ++ [(p, q)]) b e = if b ≤ q then pre ++ [(p, e)] else pre ++ [(p, q)] ++ [(b, e)] := by
  unfold addR
  rw [List.getLast?_append]
  simp
theorem addR_le (out : List HRw) (b e : Nat) : (addR out b e).length ≤ out.length + 1 := by
  unfold addR
  split
  · split
    · rw [List.length_append, List.length_dropLast, List.length_singleton]; omega
    · rw [List.length_append, List.length_singleton]; omega
  · simp
/-- The rows of what is changed, with a lines around. -/
def rowsF (a n : Nat) : List HRw → Nat → List EdI → List HRw
  | out, _, [] => out
  | out, i, e :: l => rowsF a n (if e.1 = 1 then out else addR out (i - a) (min (i + 1 + a) n)) (i + 1) l
theorem flat_set_last (pre : List HRw) (p q e : Nat) : ((pre ++ [(p, q)]).flatMap cRw).set (pre.length * 2 + 1) (.int .i64 (e : Int)) = (pre ++ [(p, e)]).flatMap cRw := by
  rw [flat_snocP, flat_snocP, List.set_append]
  have h := flat_len cRw_len pre
  rw [if_neg (by omega), h, show pre.length * 2 + 1 - pre.length * 2 = 1 by omega]
  rfl
theorem flat_last (pre : List HRw) (p q : Nat) : ((pre ++ [(p, q)]).flatMap cRw)[pre.length * 2 + 1]? = some (.int .i64 (q : Int)) := by
  rw [flat_snocP]
  have h := flat_len cRw_len pre
  rw [List.getElem?_append_right (by omega), h, show pre.length * 2 + 1 - pre.length * 2 = 1 by omega]
  rfl

set_option maxRecDepth 100000 in
set_option maxHeartbeats 8000000 in
theorem rows_any (w : World) (v : Value) (l : List EdI) (a : Nat) (h : Reads 2 cEd w v l) (hl : l.length ≤ 1000) (ha : a ≤ 16) :
    Calls Tryd.prog 46 #[v, .int .i64 (a : Int)] w (OwnTo 108 2 cRw (rowsF a l.length [] 0 l) w) := by
  obtain ⟨A, c, rfl⟩ := h.form
  have hnm : c ≤ 9223372036854775807 := by have := h.len.2.2; unfold maxLen at this; omega
  have HO := Lib.hid h
  obtain ⟨i0, hi, hz0, hz1, hz2⟩ := info_parts rowInfo
  obtain ⟨R, hR⟩ : ∃ R, R = rowsF a l.length [] 0 l := ⟨_, rfl⟩
  rw [← hR]
  have HR := Lib.hid hR
  have a0 : (0 : Int) ≤ (a : Int) := Int.natCast_nonneg _
  have a1 : (a : Int) ≤ 16 := by omega
  clear h hR
  go_enter Tryd.func46, Tryd.ntmps46
  go_wp2_with fail
  go_loopw [5, 12] (fun s5 s12 wr => ∃ (k : Nat) (out : List HRw), k ≤ l.length ∧ s12 = .int .i64 k ∧ Hid (wr.ownsRow w.heap.size 108 2 s5 out.length (out.flatMap cRw)) ∧ Hid (rowsF a l.length out k (l.drop k) = R) ∧ Hid (out.length ≤ k) ∧ Hid (Below w.heap.size w wr)) (fun _ s12 _ => l.length - (intOf s12).toNat)
  case atStart => exact ⟨0, [], Nat.zero_le _, rfl, Lib.hid (World.ownsRow_nil _ _ _ _), Lib.hid HR.out.symm, Lib.hid (Nat.zero_le _), Lib.hid (Below.refl _ _)⟩
  case round =>
    obtain ⟨k, out, hk, rfl, hown, hap, hol, hb⟩ := hrel
    have k0 : (0 : Int) ≤ (k : Int) := Int.natCast_nonneg _
    by_cases hlt : k < l.length
    · have k1 : (k : Int) < (l.length : Int) := by omega
      obtain ⟨x, hx⟩ : ∃ x, l[k]? = some x := ⟨_, List.getElem?_eq_getElem hlt⟩
      obtain ⟨ad, rfl, c0, c1⟩ := Eds.at_ (HO.out.below hb.out) hx
      have HAP := Lib.hid (show rowsF a l.length (if x.1 = 1 then out else addR out (k - a) (min (k + 1 + a) l.length)) (k + 1) (l.drop (k + 1)) = R by
        have := hap.out
        rw [drop_consP hx] at this
        exact this)
      obtain ⟨o, s⟩ := x
      have hbE := Lib.hid (hb.out.alloc hb.out.size (.cells #[.int .i64 o, .string s] 66))
      have hownE := Lib.hid (hown.out.alloc (.cells #[.int .i64 o, .string s] 66))
      clear hx hap
      by_cases ho : o = 1
      · subst ho
        go_wp2
        go_roundw
        case rel => exact ⟨k + 1, out, by omega, by go_num, hownE, by have := HAP.out; rw [if_pos rfl] at this; exact Lib.hid this, Lib.hid (by have := hol.out; omega), hbE⟩
        case measure => simp [intOf]; omega
      · have m1 : (o == 1) = false := by simpa using ho
        have HAP2 := Lib.hid (by have := HAP.out; rw [if_neg ho] at this; exact this)
        clear HAP ho
        go_upto_region 7 with fail
        first
          | rw [show (if (k : Int) - (a : Int) < 0 then 0 else (k : Int) - (a : Int)) = ((k - a : Nat) : Int) by split <;> omega, show (if (l.length : Int) < (k : Int) + 1 + (a : Int) then (l.length : Int) else (k : Int) + 1 + (a : Int)) = ((min (k + 1 + a) l.length : Nat) : Int) by split <;> omega]
          | rw [show max ((k : Int) - (a : Int)) 0 = ((k - a : Nat) : Int) by omega, show min ((k : Int) + 1 + (a : Int)) (l.length : Int) = ((min (k + 1 + a) l.length : Nat) : Int) by omega]
        obtain ⟨b, hbb⟩ : ∃ b, b = k - a := ⟨_, rfl⟩
        obtain ⟨e, hee⟩ : ∃ e, e = min (k + 1 + a) l.length := ⟨_, rfl⟩
        rw [← hbb, ← hee]
        rw [← hbb, ← hee] at HAP2
        have b9 : (b : Int) ≤ 1000 := by omega
        have e9 : (e : Int) ≤ 1000 := by omega
        clear hbb hee
        have bb0 : (0 : Int) ≤ (b : Int) := Int.natCast_nonneg _
        have ee0 : (0 : Int) ≤ (e : Int) := Int.natCast_nonneg _
        have KR : Blk ((wr.alloc (.cells #[.int .i64 o, .string s] 66)).alloc (.cells #[.int .i64 (b : Int), .int .i64 (e : Int)] 108)) (wr.heap.size + 1) 108 #[.int .i64 (b : Int), .int .i64 (e : Int)] := by
          have := Blk.new (wr.alloc (.cells #[.int .i64 o, .string s] 66)) 108 #[.int .i64 (b : Int), .int .i64 (e : Int)]
          rwa [show (wr.alloc (.cells #[.int .i64 o, .string s] 66)).heap.size = wr.heap.size + 1 by simp] at this
        have hown2 := hownE.out.alloc (.cells #[.int .i64 (b : Int), .int .i64 (e : Int)] 108)
        have hb2 := hbE.out.alloc hbE.out.size (.cells #[.int .i64 (b : Int), .int .i64 (e : Int)] 108)
        have hap0 : ∀ g, u5.ownBlock = some g → g ≠ wr.heap.size + 1 := fun g hg => by have := (hown.out.lt g hg).2; omega
        generalize (wr.alloc (.cells #[.int .i64 o, .string s] 66)).alloc (.cells #[.int .i64 (b : Int), .int .i64 (e : Int)] 108) = W2 at *
        generalize wr.heap.size + 1 = X at *
        generalize wr.heap.size = E at *
        have r0 := KR.cell 0
        have r1 := KR.cell 1
        have HO2 := Lib.hid hown2
        have HB2 := Lib.hid hb2
        have HKR := Lib.hid KR
        have HAP0 := Lib.hid hap0
        clear KR hown2 hb2 hap0 hownE hbE hown hb
        rcases List.eq_nil_or_concat out with rfl | ⟨pre, ⟨p, q⟩, rfl⟩
        · have HO3 : Hid (W2.ownsRow w.heap.size 108 2 u5 0 []) := Lib.hid HO2.out
          have HAP3 : Hid (rowsF a l.length [(b, e)] (k + 1) (l.drop (k + 1)) = R) := Lib.hid HAP2.out
          obtain ⟨A0, c0', rfl⟩ := own_formP HO3.out
          clear HO2 HAP2
          go_wp2_with fail
          go_quiet (fail)
          generalize hW3 : W2.drewN _ = W3
          have HO4 : Hid (W3.ownsRow w.heap.size 108 2 (.slice A0 0 c0') 0 []) := Lib.hid (by rw [← hW3]; exact HO3.out)
          have HK4 : Blk W3 X 108 #[.int .i64 (b : Int), .int .i64 (e : Int)] := by rw [← hW3]; exact HKR.out
          have HB4 : Below w.heap.size w W3 := by rw [← hW3]; exact below_drewN HB2.out _
          clear hW3 r0 r1
          have r0 := HK4.cell 0
          have r1 := HK4.cell 1
          have hown4 := HO4.out.alloc (.cells #[.int .i64 (b : Int), .int .i64 (e : Int)] 108)
          have hnews := World.news_of_block (cs := #[.int .i64 (b : Int), .int .i64 (e : Int)]) (t := 108) (fr := (0, 0)) (heap_alloc_new W3 (.cells #[.int .i64 (b : Int), .int .i64 (e : Int)] 108))
          have hb4 := HB4.alloc HB4.size (.cells #[.int .i64 (b : Int), .int .i64 (e : Int)] 108)
          have hsz4 := hb4.size
          go_wp2_with (at_builtin; refine wpList_append_own _ rfl _ _ 105 rfl w.heap.size 108 i0 (.agg #[.int .i64 0, .int .i64 0]) 2 16 Tryd.underlying105 hi hz0 hz1 hz2 rfl (by decide) _ _ _ rfl hown4 ⟨W3.heap.size, 0, none⟩ 1 1 [.int .i64 (b : Int), .int .i64 (e : Int)] rfl rfl hnews (by simp [Value.oneCell']) (by unfold maxLen; omega) (by omega) hsz4 ?_; intro v5 w5 hown5 hg5 _)
          have hb5 : Below w.heap.size w w5 := hb4.grown hg5 hsz4 (fun z hz => (HO4.out.lt z hz).1)
          clear hnews hown4 hg5 hb4
          go_roundw
          case rel => exact ⟨k + 1, [(b, e)], by omega, by go_num, Lib.hid (by simpa [cRw] using hown5), HAP3, Lib.hid (by simp), Lib.hid hb5⟩
          case measure => simp [intOf]; omega
        · have hlen : (pre ++ [(p, q)]).length = pre.length + 1 := by simp
          have hol2 := hol.out
          have hown3 := HO2.out
          rw [List.concat_eq_append] at hown3 hol2 HAP2
          rw [hlen] at hown3 hol2
          obtain ⟨gg, cap, rfl⟩ : ∃ gg cap, u5 = .slice (some ⟨gg, 0, none⟩) (pre.length + 1) cap := by
            rcases hown3.2 with ⟨_, e2⟩ | ⟨gg, cap, cur, e, _⟩
            · omega
            · exact ⟨_, _, e⟩
          have hgX : gg ≠ X := HAP0.out gg rfl
          have hXg : X ≠ gg := Ne.symm hgX
          have hgb := (hown3.lt gg rfl).1
          have hcl := hown3.cellAt (pre.length * 2 + 1) (by omega)
          rw [flat_last] at hcl
          have hfz := hown3.frozenAt (pre.length * 2 + 1)
          have hst := hown3.stored (pre.length * 2 + 1) (.int .i64 (e : Int))
          rw [flat_set_last] at hst
          have HST := Lib.hid hst.1
          have HO3 := Lib.hid hown3
          have HL := Lib.hid hlen
          have HA2 := Lib.hid (addR_snoc pre p q b e)
          have HBS := Lib.hid (HB2.out.setCell (p := ⟨gg, pre.length * 2 + 1, none⟩) hgb (.int .i64 (e : Int)))
          have HLE := Lib.hid hol2
          have n9 : (pre.length : Int) ≤ 1000 := by omega
          have n0 : (0 : Int) ≤ (pre.length : Int) := Int.natCast_nonneg _
          clear hst hlen hol2 HO2 hgb hown3 hol
          have HPN := Lib.hid (show (0 : Nat) ≤ pre.length from Nat.zero_le _)
          by_cases hbq : b ≤ q
          · have hbqi : (b : Int) ≤ (q : Int) := by omega
            have HAP3 : Hid (rowsF a l.length (pre ++ [(p, e)]) (k + 1) (l.drop (k + 1)) = R) := Lib.hid (by have h1 := HAP2.out; rw [HA2.out, if_pos hbq] at h1; exact h1)
            clear hbq
            generalize hpn : pre.length = m at *
            have HPM := Lib.hid hpn
            clear hpn
            go_wp2_with fail
            go_quiet (fail)
            go_wp2
            go_roundw
            case rel => exact ⟨k + 1, pre ++ [(p, e)], by omega, by go_num, Lib.hid (by rw [show (pre ++ [(p, e)]).length = m + 1 by rw [List.length_append, HPM.out]; rfl]; first | exact HST.out | exact ((show (W2.drewN nq).ownsRow w.heap.size 108 2 (.slice (some ⟨gg, 0, none⟩) (m + 1) cap) (m + 1) ((pre ++ [(p, q)]).flatMap cRw) from HO3.out).stored (m * 2 + 1) (.int .i64 (e : Int))).1), HAP3, Lib.hid (by rw [List.length_append, HPM.out]; have := HLE.out; simp; omega), Lib.hid (by first | exact below_drewN HBS.out nq | exact (below_drewN HB2.out nq).setCell (p := ⟨gg, m * 2 + 1, none⟩) (HO3.out.lt gg rfl).1 (.int .i64 (e : Int)))⟩
            case measure => simp [intOf]; omega
          · have hbqi : (decide ((b : Int) ≤ (q : Int))) = false := decide_eq_false (by omega)
            have hbqj : ¬ (b : Int) ≤ (q : Int) := by omega
            have hbqn : (decide (b ≤ q)) = false := decide_eq_false hbq
            have hbqm : (q : Int) < (b : Int) := by omega
            have HAP3 : Hid (rowsF a l.length (pre ++ [(p, q)] ++ [(b, e)]) (k + 1) (l.drop (k + 1)) = R) := Lib.hid (by have h1 := HAP2.out; rw [HA2.out, if_neg hbq] at h1; exact h1)
            clear hbq
            generalize hpn : pre.length = m at *
            have HPM := Lib.hid hpn
            clear hpn
            go_wp2_with fail
            go_quiet (fail)
            generalize hW3 : W2.drewN _ = W3
            have HO4 : Hid (W3.ownsRow w.heap.size 108 2 (.slice (some ⟨gg, 0, none⟩) (m + 1) cap) (m + 1) ((pre ++ [(p, q)]).flatMap cRw)) := Lib.hid (by rw [← hW3]; exact HO3.out)
            have HK4 : Blk W3 X 108 #[.int .i64 (b : Int), .int .i64 (e : Int)] := by rw [← hW3]; exact HKR.out
            have HB4 : Below w.heap.size w W3 := by rw [← hW3]; exact below_drewN HB2.out _
            clear hW3 r0 r1 hcl hfz
            have r0 := HK4.cell 0
            have r1 := HK4.cell 1
            have hown4 := HO4.out.alloc (.cells #[.int .i64 (b : Int), .int .i64 (e : Int)] 108)
            have hnews := World.news_of_block (cs := #[.int .i64 (b : Int), .int .i64 (e : Int)]) (t := 108) (fr := (0, 0)) (heap_alloc_new W3 (.cells #[.int .i64 (b : Int), .int .i64 (e : Int)] 108))
            have hb4 := HB4.alloc HB4.size (.cells #[.int .i64 (b : Int), .int .i64 (e : Int)] 108)
            have hsz4 := hb4.size
            go_wp2_with (at_builtin; refine wpList_append_own _ rfl _ _ 105 rfl w.heap.size 108 i0 (.agg #[.int .i64 0, .int .i64 0]) 2 16 Tryd.underlying105 hi hz0 hz1 hz2 rfl (by decide) _ _ _ rfl hown4 ⟨W3.heap.size, 0, none⟩ 1 1 [.int .i64 (b : Int), .int .i64 (e : Int)] rfl rfl hnews (by simp [Value.oneCell']) (by unfold maxLen; omega) (by omega) hsz4 ?_; intro v5 w5 hown5 hg5 _)
            have hb5 : Below w.heap.size w w5 := hb4.grown hg5 hsz4 (fun z hz => (HO4.out.lt z hz).1)
            clear hnews hown4 hg5 hb4
            go_roundw
            case rel => exact ⟨k + 1, pre ++ [(p, q)] ++ [(b, e)], by omega, by go_num, Lib.hid (by rw [show (pre ++ [(p, q)] ++ [(b, e)]).length = m + 1 + 1 by rw [List.length_append, List.length_append, HPM.out]; rfl, flat_snocP]; exact hown5), HAP3, Lib.hid (by rw [List.length_append, List.length_append, HPM.out]; have := HLE.out; simp; omega), Lib.hid hb5⟩
            case measure => simp [intOf]; omega
    · obtain rfl : k = l.length := by omega
      have HL : Hid (out = R) := Lib.hid (by have := hap.out; rw [List.drop_length] at this; exact this)
      go_wp2
      go_ret
      exact ⟨_, rfl, by rw [← HL.out]; exact hown.out, hb.out⟩
end Go.Proofs.YtdpoeagmeiedcaaDoor

namespace Go.Proofs.YtdpoeagmeiedcaaDoor
open Go Go.RowKit

theorem addr_block (ad : Addr) (n : Nat) : (ad.add n).block = ad.block := by unfold Addr.add; split <;> rfl
theorem addr_off (ad : Addr) (n : Nat) : (ad.add n).off = ad.off + n := by unfold Addr.add; split <;> simp_all
theorem adr_flat (ad : Addr) (i k j : Nat) : adr ad i k j = ad.add (i * k + j) := by
  cases j with
  | zero => rfl
  | succ j =>
    have h : ad.add (i * k + (j + 1)) = ⟨ad.block, ad.off + (i * k + (j + 1)), none⟩ := by unfold Addr.add; rw [if_neg (by omega)]
    rw [h]
    show (⟨(ad.add (i * k)).block, (ad.add (i * k)).off + (j + 1), none⟩ : Addr) = _
    rw [addr_block, addr_off]
    congr 1
    omega
theorem reads_flat {α : Type} {k : Nat} {enc : α → List Value} {w : World} {ad : Addr} {n c : Nat} {l : List α} (hk : ∀ x, (enc x).length = k) (h0 : 0 < k) (h : Reads k enc w (.slice (some ad) n c) l) : ∀ (j : Nat) (u : Value), (l.flatMap enc)[j]? = some u → w.cell? (ad.add j) = some u := fun j u hu => by
  have hj := (List.getElem?_eq_some_iff.1 hu).1
  rw [flat_len hk] at hj
  have hi : j / k < l.length := Nat.div_lt_of_lt_mul (by rw [Nat.mul_comm]; exact hj)
  have hm : j % k < k := Nat.mod_lt _ h0
  have hd : j / k * k + j % k = j := Nat.div_add_mod' j k
  obtain ⟨ad', ha, hc⟩ := h.at_ (List.getElem?_eq_getElem hi)
  obtain rfl := Option.some.inj ha
  have := hc (j % k) u (by rw [← flat_at hk l (j / k) (j % k) _ (List.getElem?_eq_getElem hi) hm, hd]; exact hu)
  rw [adr_flat, hd] at this
  exact this
theorem cEd_one (l : List EdI) : ∀ u ∈ l.flatMap cEd, u.oneCell' = true := fun u hu => by
  obtain ⟨f, _, hf⟩ := List.mem_flatMap.1 hu
  simp [cEd] at hf
  rcases hf with rfl | rfl <;> rfl

theorem run_append_eds (w : World) (ty : TypeId) (base : Nat) (v : Value) (xs ys : List EdI) (hown : w.ownsRow base 66 2 v xs.length (xs.flatMap cEd)) (A : Option Addr) (m c : Nat) (h : Reads 2 cEd w (.slice A m c) ys) (hl : xs.length + ys.length ≤ 1000000) (hbase : base ≤ w.heap.size) :
    ∃ A' c' w', (Builtin.append_ #[25, 25] ty #[v, .slice A m c]).run Tryd.prog w = .ok (.slice A' (xs ++ ys).length c') w' ∧ w'.ownsRow base 66 2 (.slice A' (xs ++ ys).length c') (xs ++ ys).length ((xs ++ ys).flatMap cEd) ∧ Below base w w' ∧ w.grownBy w' v.ownBlock := by
  obtain ⟨i0, hi, hz0, hz1, hz2⟩ := info_parts editInfo
  obtain ⟨hm, hmc, hcm⟩ := h.len
  cases A with
  | none =>
    obtain ⟨A', c', hv, h1, h2, h3, h4⟩ := h
    injection hv with e1 e2 e3
    subst e1; subst e3
    have hc := h3 rfl
    subst hc
    have hm0 : m = 0 := by omega
    subst hm0
    have : ys = [] := List.eq_nil_of_length_eq_zero (by omega)
    subst this
    obtain ⟨A', c', rfl⟩ := own_formP hown
    have hr := run_append_owned_none (P := Tryd.prog) (w := w) base 25 ty 66 i0 2 Tryd.underlying25 hi _ _ _ hown
    rw [List.append_nil]
    exact ⟨A', c', w, hr, hown, Below.refl _ _, World.grownBy.refl _ _⟩
  | some ad =>
    obtain ⟨v', w', hr, ho, hg, _⟩ := run_append_own (P := Tryd.prog) w base 25 ty 66 i0 (.agg #[.int .i64 0, .string ⟨#[]⟩]) 2 24 Tryd.underlying25 hi hz0 hz1 hz2 rfl (by decide) v xs.length (xs.flatMap cEd) hown ad m c (ys.flatMap cEd) (by rw [flat_len cEd_len, hm]) (reads_flat cEd_len (by decide) h) (cEd_one ys) (by unfold maxLen; omega) (by omega) hbase
    have ho2 : w'.ownsRow base 66 2 v' (xs ++ ys).length ((xs ++ ys).flatMap cEd) := by rw [List.length_append, List.flatMap_append, ← hm]; exact ho
    obtain ⟨A', c', rfl⟩ := own_formP ho2
    exact ⟨A', c', w', hr, ho2, (Below.refl base w).grown hg hbase fun k hk => (hown.lt k hk).1, hg⟩

theorem wpList_append_eds (w : World) {ops : Array Oper} {rest : List Oper} {o : Oper} {a : Act} {Q : Exit → Act → World → Prop} (hgd : o.guard = none) (s x : Operand)
    (ho : o.op = .call { callee := .builtin .append, args := #[s, x], argTypes := #[25, 25] })
    (base : Nat) (v : Value) (xs ys : List EdI) (hs : a.eval s = v) (hown : w.ownsRow base 66 2 v xs.length (xs.flatMap cEd)) (A : Option Addr) (m c : Nat) (hx : a.eval x = .slice A m c) (h : Reads 2 cEd w (.slice A m c) ys) (hl : xs.length + ys.length ≤ 1000000) (hbase : base ≤ w.heap.size)
    (hk : ∀ A' c' w', w'.ownsRow base 66 2 (.slice A' (xs ++ ys).length c') (xs ++ ys).length ((xs ++ ys).flatMap cEd) → Below base w w' → w.grownBy w' v.ownBlock → wpList Tryd.prog ops Q rest (a.put o.dst (.slice A' (xs ++ ys).length c')) w') : wpList Tryd.prog ops Q (o :: rest) a w := by
  obtain ⟨A', c', w', hr, h2, h3, h4⟩ := run_append_eds w o.type base v xs ys hown A m c h hl hbase
  exact Lib.wpList_append_run w hgd s x _ _ ho _ _ hs hx _ _ hr (hk A' c' w' h2 h3 h4)

section
variable {α : Type} {k : Nat} {enc : α → List Value} {w : World} {A : Option Addr} {n c : Nat} {l : List α}
theorem Reads.front (h : Reads k enc w (.slice A n c) l) {i : Nat} (hi : i ≤ n) : Reads k enc w (.slice A i c) (l.take i) := by
  obtain ⟨hn, hnc, hcm⟩ := h.len
  obtain ⟨A', c', hv, h1, h2, h3, h4⟩ := h
  injection hv with e1 e2 e3
  subst e1; subst e3
  refine ⟨A, c, by rw [List.length_take, Nat.min_eq_left (by omega)], by rw [List.length_take]; omega, hcm, h3, fun ad ha j x hx => h4 ad ha j x ?_⟩
  rw [List.getElem?_take] at hx
  split at hx
  · exact hx
  · cases hx
theorem Reads.cut (h : Reads k enc w (.slice A n c) l) {i : Nat} (hi : i ≤ n) : Reads k enc w (.slice (if c = i then A else A.map (·.add (i * k))) (n - i) (c - i)) (l.drop i) := by
  obtain ⟨hn, hnc, hcm⟩ := h.len
  obtain ⟨A', c', hv, h1, h2, h3, h4⟩ := h
  injection hv with e1 e2 e3
  subst e1; subst e3
  refine ⟨_, c - i, by rw [List.length_drop, hn], by rw [List.length_drop]; omega, by omega, ?_, ?_⟩
  · intro hA
    by_cases hc : c = i
    · omega
    · rw [if_neg hc] at hA
      have : A = none := by cases A with | none => rfl | some a => simp at hA
      have := h3 this
      omega
  · intro ad ha j x hx u v hv
    rw [List.getElem?_drop] at hx
    have hj := (List.getElem?_eq_some_iff.1 hx).1
    by_cases hc : c = i
    · omega
    · rw [if_neg hc] at ha
      cases A with
      | none => simp at ha
      | some a =>
        simp at ha
        subst ha
        have := h4 a rfl (i + j) x hx u v hv
        rw [adr_flat] at this ⊢
        have e : (a.add (i * k)).add (j * k + u) = a.add ((i + j) * k + u) := by
          rw [Nat.add_mul, Nat.add_assoc]
          generalize i * k = p
          generalize j * k + u = q
          unfold Addr.add
          by_cases hp : p = 0
          · subst hp; simp
          · by_cases hq : q = 0
            · subst hq; simp [hp]
            · simp [hp, hq, Nat.add_assoc]
        rw [e]
        exact this
end

set_option maxHeartbeats 2000000 in
theorem cloneEd_any (w : World) (v : Value) (l : List EdI) (h : Reads 2 cEd w v l) (hl : l.length ≤ 100000) :
    Calls Tryd.prog 48 #[v] w (OwnTo 66 2 cEd l w) := by
  have q : ∀ (w : World) (a : Option Addr) (n c n' c' : Nat), (binOp .eql 25 (.slice a n c) (.slice none n' c')).run Tryd.prog w = .ok (.bool a.isNone) w := fun w a n c n' c' => Lib.run_eql_slice_nil w _ _ a n c n' c' Tryd.underlying25
  obtain ⟨A, c, rfl⟩ := h.form
  have HR := Lib.hid h
  cases A with
  | none =>
    have h0 : l = [] := by
      obtain ⟨A', c', hv, h1, h2, h3, _⟩ := h
      injection hv with e1 e2 e3
      subst e1; subst e3
      have := h3 rfl
      exact List.eq_nil_of_length_eq_zero (by omega)
    subst h0
    clear h
    go_enter Tryd.func48, Tryd.ntmps48
    go_wp2
    go_ret
    exact ⟨_, rfl, World.ownsRow_nil _ _ _ _, Below.refl _ _⟩
  | some ad =>
    have hm : w.heap.size ≤ (w.alloc (.cells #[] 66)).heap.size := by simp
    have hll : ([] : List EdI).length + l.length ≤ 1000000 := by simp; omega
    have O0 := Lib.hid (show (w.alloc (.cells #[] 66)).ownsRow w.heap.size 66 2 (.slice (some ⟨w.heap.size, 0, none⟩) 0 0) ([] : List EdI).length (([] : List EdI).flatMap cEd) from World.ownsRow_made w #[] 0 (Nat.le_refl _) (Nat.zero_le _) rfl)
    clear h
    go_enter Tryd.func48, Tryd.ntmps48
    go_wp2_with (at_builtin; refine wpList_append_eds _ rfl _ _ rfl w.heap.size _ [] l rfl O0.out _ _ _ rfl (HR.out.alloc _) hll hm ?_; intro A' c' w5 own5 b5 hg5)
    rw [List.nil_append] at own5
    have O5 := Lib.hid own5
    have B5 := Lib.hid (Below.trans ((Below.refl _ _).alloc (Nat.le_refl _) (.cells #[] 66)) b5)
    clear own5 b5 hg5
    go_ret
    exact ⟨_, rfl, O5.out, B5.out⟩
end Go.Proofs.YtdpoeagmeiedcaaDoor

namespace Go.Proofs.YtdpoeagmeiedcaaDoor
open Go Go.RowKit

/-- Rows that rise, from d on, up to n. -/
def RowsOk (n : Nat) : Nat → List HRw → Prop
  | _, [] => True
  | d, r :: rs => d ≤ r.1 ∧ r.1 ≤ r.2 ∧ r.2 ≤ n ∧ RowsOk n r.2 rs
theorem RowsOk.snoc {n : Nat} {r : HRw} (h2 : r.1 ≤ r.2) (h3 : r.2 ≤ n) : ∀ {d : Nat} {out : List HRw}, RowsOk n d out → (∀ x ∈ out, x.2 ≤ r.1) → d ≤ r.1 → RowsOk n d (out ++ [r])
  | _, [], _, _, hd => ⟨hd, h2, h3, trivial⟩
  | _, x :: _, ⟨a, b, c, h⟩, hx, _ => ⟨a, b, c, RowsOk.snoc h2 h3 h (fun y hy => hx y (List.mem_cons_of_mem _ hy)) (hx x List.mem_cons_self)⟩
theorem RowsOk.init {n : Nat} {r : HRw} : ∀ {d : Nat} {out : List HRw}, RowsOk n d (out ++ [r]) → RowsOk n d out ∧ d ≤ r.1 ∧ r.1 ≤ r.2 ∧ ∀ x ∈ out, x.2 ≤ r.1
  | _, [], ⟨a, b, _, _⟩ => ⟨trivial, a, b, by simp⟩
  | _, x :: out, ⟨a, b, c, h⟩ => by
    obtain ⟨h1, h2, h3, h4⟩ := RowsOk.init h
    refine ⟨⟨a, b, c, h1⟩, by omega, h3, fun y hy => ?_⟩
    rcases List.mem_cons.1 hy with rfl | hy
    · exact h2
    · exact h4 y hy
theorem addR_ok {n k a : Nat} {out : List HRw} (h : RowsOk n 0 out) (hb : ∀ r ∈ out, r.1 ≤ k) (hk : k < n) : RowsOk n 0 (addR out (k - a) (min (k + 1 + a) n)) ∧ ∀ r ∈ addR out (k - a) (min (k + 1 + a) n), r.1 ≤ k := by
  rcases List.eq_nil_or_concat out with rfl | ⟨pre, ⟨p, q⟩, rfl⟩
  · rw [addR_nil]
    refine ⟨⟨Nat.zero_le _, by show k - a ≤ min (k + 1 + a) n; omega, by show min (k + 1 + a) n ≤ n; omega, trivial⟩, fun r hr => ?_⟩
    rw [List.mem_singleton] at hr
    subst hr
    show k - a ≤ k
    omega
  · rw [List.concat_eq_append] at h hb ⊢
    rw [addR_snoc]
    obtain ⟨h1, h2, h3, h4⟩ := h.init
    have hp := hb (p, q) (by simp)
    simp only at h3 h4 hp
    split
    · refine ⟨RowsOk.snoc (by show p ≤ min (k + 1 + a) n; omega) (by show min (k + 1 + a) n ≤ n; omega) h1 h4 (Nat.zero_le _), fun r hr => ?_⟩
      rcases List.mem_append.1 hr with hr | hr
      · exact hb r (List.mem_append.2 (.inl hr))
      · rw [List.mem_singleton] at hr; subst hr; exact hp
    · rename_i hbq
      refine ⟨RowsOk.snoc (by show k - a ≤ min (k + 1 + a) n; omega) (by show min (k + 1 + a) n ≤ n; omega) h (fun x hx => ?_) (Nat.zero_le _), fun r hr => ?_⟩
      · show x.2 ≤ k - a
        rcases List.mem_append.1 hx with hx | hx
        · have := h4 x hx; omega
        · rw [List.mem_singleton] at hx; subst hx; show q ≤ k - a; omega
      · rcases List.mem_append.1 hr with hr | hr
        · exact hb r hr
        · rw [List.mem_singleton] at hr; subst hr; show k - a ≤ k; omega
theorem rowsF_ok {a n : Nat} : ∀ (l : List EdI) (out : List HRw) (k : Nat), RowsOk n 0 out → (∀ r ∈ out, r.1 ≤ k) → k + l.length ≤ n → RowsOk n 0 (rowsF a n out k l)
  | [], _, _, h, _, _ => h
  | e :: l, out, k, h, hb, hk => by
    rw [List.length_cons] at hk
    unfold rowsF
    split
    · exact rowsF_ok l out (k + 1) h (fun r hr => Nat.le_succ_of_le (hb r hr)) (by omega)
    · obtain ⟨h1, h2⟩ := addR_ok (a := a) h hb (show k < n by omega)
      exact rowsF_ok l _ (k + 1) h1 (fun r hr => Nat.le_succ_of_le (h2 r hr)) (by omega)
theorem rowsF_le {a n : Nat} : ∀ (l : List EdI) (out : List HRw) (k : Nat), (rowsF a n out k l).length ≤ out.length + l.length
  | [], _, _ => Nat.le_refl _
  | e :: l, out, k => by
    unfold rowsF
    rw [List.length_cons]
    split
    · have := rowsF_le (a := a) (n := n) l out (k + 1); omega
    · have := rowsF_le (a := a) (n := n) l (addR out (k - a) (min (k + 1 + a) n)) (k + 1)
      have := addR_le out (k - a) (min (k + 1 + a) n)
      omega
def cutE (l : List EdI) (i j : Nat) : List EdI := (l.drop i).take (j - i)
theorem cutE_len (l : List EdI) {i j : Nat} (h : j ≤ l.length) : (cutE l i j).length = j - i := by unfold cutE; rw [List.length_take, List.length_drop]; omega
theorem hunkInfo : (Tryd.prog.info? 64).map (fun i => (i.zero, i.size, i.bytes)) = some (some (.agg #[.int .i64 0, .int .i64 0, .int .i64 0, .int .i64 0, .slice none 0 0]), 5, 56) := by kernel_rfl
/-- The hunks of rows. -/
def hunksF (l : List EdI) : Nat → Nat → Nat → List HRw → List Hk
  | _, _, _, [] => []
  | at_, to_, d, r :: rs => ⟨((at_ + dels (cutE l d r.1) : Nat) : Int), (dels (cutE l r.1 r.2) : Int), ((to_ + adds (cutE l d r.1) : Nat) : Int), (adds (cutE l r.1 r.2) : Int), cutE l r.1 r.2⟩ ::
      hunksF l (at_ + dels (cutE l d r.1) + dels (cutE l r.1 r.2)) (to_ + adds (cutE l d r.1) + adds (cutE l r.1 r.2)) r.2 rs
/-- A difference in pieces, with around lines. -/
def hunksP (l : List EdI) (a : Nat) : List Hk := hunksF l 0 0 0 (rowsF a l.length [] 0 l)
theorem Reads.piece {w : World} {A : Option Addr} {n c : Nat} {l : List EdI} (h : Reads 2 cEd w (.slice A n c) l) {i j : Nat} (hi : i ≤ j) (hj : j ≤ n) : Reads 2 cEd w (.slice (if c = i then A else A.map (·.add (i * 2))) (j - i) (c - i)) (cutE l i j) := by
  have h2 := (h.front hj).cut hi
  have e : (l.take j).drop i = cutE l i j := by unfold cutE; rw [List.drop_take]
  rw [e] at h2
  exact h2
theorem HkV.le {e : TypeId} {w : World} {B B' : Nat} (hb : B' ≤ B) : ∀ {hs : List Hk} {vals : List Value}, HkV e w B vals hs → HkV e w B' vals hs
  | [], _, h => h
  | _ :: _, _, ⟨vl, rest, hv, h1, h2⟩ => ⟨vl, rest, hv, own2_le h1 hb, HkV.le hb h2⟩
theorem Rws.at_ {w : World} {A : Option Addr} {n c : Nat} {l : List HRw} (h : Reads 2 cRw w (.slice A n c) l) {i : Nat} {r : HRw} (hi : l[i]? = some r) :
    ∃ ad : Addr, A = some ad ∧ w.cell? (ad.add (i * 2)) = some (.int .i64 (r.1 : Int)) ∧ w.cell? ⟨(ad.add (i * 2)).block, (ad.add (i * 2)).off + 1, none⟩ = some (.int .i64 (r.2 : Int)) := by
  obtain ⟨ad, rfl, hc⟩ := h.at_ hi
  exact ⟨ad, rfl, hc 0 _ rfl, hc 1 _ rfl⟩
theorem kept_at {w : World} {base k n : Nat} {e : TypeId} {v : Value} {xs : List Value} (h : w.ownsRow base e k v n xs) {g : Nat} (hne : v.ownBlock ≠ some g) (i : Nat) (u : Value) : (w.setCell ⟨g, i, none⟩ u).ownsRow base e k v n xs :=
  h.kept (grown_cellL w g i u) (.inr hne)

set_option maxRecDepth 100000 in
set_option maxHeartbeats 8000000 in
theorem hunks_any (w : World) (v : Value) (l : List EdI) (around : Int) (h : Reads 2 cEd w v l) (hl : l.length ≤ 500) :
    Calls Tryd.prog 21 #[v, .int .i64 around] w (HunksTo 64 66 (hunksP l (min around.toNat 16)) w) := by
  obtain ⟨A, c, rfl⟩ := h.form
  have hnm : c ≤ 9223372036854775807 := by have := h.len.2.2; unfold maxLen at this; omega
  have hlc := h.len.2.1
  have HO := Lib.hid h
  have ha16 : min around.toNat 16 ≤ 16 := by omega
  obtain ⟨a, haa⟩ : ∃ a, a = min around.toNat 16 := ⟨_, rfl⟩
  rw [← haa] at ha16 ⊢
  have HAA := Lib.hid haa
  have RW := Lib.hid (fun (x : Int) (hx : x = (a : Int)) => (by rw [hx]; exact rows_any w (.slice A l.length c) l a h (by omega) ha16 : Calls Tryd.prog 46 #[.slice A l.length c, .int .i64 x] w (OwnTo 108 2 cRw (rowsF a l.length [] 0 l) w)))
  have ROK := Lib.hid (rowsF_ok (a := a) (n := l.length) l [] 0 trivial (by simp) (by omega))
  have RLE := rowsF_le (a := a) (n := l.length) l [] 0
  rw [List.length_nil, Nat.zero_add] at RLE
  obtain ⟨R, hR⟩ : ∃ R, R = rowsF a l.length [] 0 l := ⟨_, rfl⟩
  rw [← hR] at RW ROK RLE
  obtain ⟨HS, hHS⟩ : ∃ HS, HS = hunksP l a := ⟨_, rfl⟩
  rw [← hHS]
  have HHS := Lib.hid (show HS = hunksF l 0 0 0 R by rw [hHS, hR]; rfl)
  clear h haa hR hHS
  go_enter Tryd.func21, Tryd.ntmps21
  go_upto_region 3 with fail
  go_cut [18, 19, 20] (fun x18 x19 x20 wy => x20 = .int .i64 0 ∧ x19 = .int .i64 (R.length : Int) ∧ Hid (wy.ownsRow w.heap.size 108 2 x18 R.length (R.flatMap cRw)) ∧ Hid (Below w.heap.size w wy))
  case first =>
    rcases (by omega : around < 0 ∨ (0 ≤ around ∧ around ≤ 16) ∨ 16 < around) with h1 | ⟨h1, h2⟩ | h1
    · go_wp2_with fail
      refine (RW.out _ (by have := HAA.out; omega)).mono ?_
      rintro e w2 ⟨v2, rfl, o2, b2⟩
      have O2 := Lib.hid o2
      have B2 := Lib.hid b2
      obtain ⟨A2, c2, rfl⟩ := own_formP o2
      clear o2 b2
      go_wp2_with fail
      go_meet
      exact ⟨rfl, rfl, O2, B2⟩
    · have h3 : ¬ around < 0 := by omega
      have h4 : ¬ (16 : Int) < around := by omega
      go_wp2_with fail
      refine (RW.out _ (by have := HAA.out; omega)).mono ?_
      rintro e w2 ⟨v2, rfl, o2, b2⟩
      have O2 := Lib.hid o2
      have B2 := Lib.hid b2
      obtain ⟨A2, c2, rfl⟩ := own_formP o2
      clear o2 b2
      go_wp2_with fail
      go_meet
      exact ⟨rfl, rfl, O2, B2⟩
    · have h3 : ¬ around < 0 := by omega
      go_wp2_with fail
      refine (RW.out _ (by have := HAA.out; omega)).mono ?_
      rintro e w2 ⟨v2, rfl, o2, b2⟩
      have O2 := Lib.hid o2
      have B2 := Lib.hid b2
      obtain ⟨A2, c2, rfl⟩ := own_formP o2
      clear o2 b2
      go_wp2_with fail
      go_meet
      exact ⟨rfl, rfl, O2, B2⟩
  case rest =>
    obtain ⟨rfl, rfl, HOR, HBW⟩ := hcut
    clear RW HAA
    obtain ⟨A2, c2, rfl⟩ := own_formP HOR.out
    obtain ⟨i0, hi, hz0, hz1, hz2⟩ := info_parts hunkInfo
    have HRR := Lib.hid (Reads.of_own cRw_len HOR.out)
    have HOW := Lib.hid (HO.out.below HBW.out)
    clear HOR
    go_wp2_with fail
    go_loopw [5, 6, 7, 8, 20] (fun s5 s6 s7 s8 s20 wr => ∃ (k at_ to_ d : Nat) (out : List Hk) (vals : List Value), k ≤ R.length ∧ s20 = .int .i64 k ∧ s6 = .int .i64 (at_ : Int) ∧ s7 = .int .i64 (to_ : Int) ∧ s8 = .int .i64 (d : Int) ∧ Hid (out ++ hunksF l at_ to_ d (R.drop k) = HS) ∧ Hid (RowsOk l.length d (R.drop k)) ∧ (at_ ≤ d ∧ to_ ≤ d ∧ d ≤ l.length) ∧ Hid (out.length ≤ k) ∧
      Hid (wr.ownsRow wc.heap.size 64 5 s5 out.length vals) ∧ Hid (HkV 66 wr wc.heap.size vals out) ∧ Hid (Below wc.heap.size wc wr)) (fun _ _ _ _ s20 _ => R.length - (intOf s20).toNat)
    case atStart => exact ⟨0, 0, 0, 0, [], [], Nat.zero_le _, rfl, rfl, rfl, rfl, Lib.hid HHS.out.symm, ROK, ⟨Nat.le_refl _, Nat.le_refl _, Nat.zero_le _⟩, Lib.hid (Nat.le_refl _), Lib.hid (World.ownsRow_nil _ _ _ _), Lib.hid rfl, Lib.hid (Below.refl _ _)⟩
    case round =>
      obtain ⟨k, at_, to_, d, out, vals, hk, rfl, rfl, rfl, rfl, hap, hok, ⟨hat, hto, hd⟩, hol, hown, hkv, hb⟩ := hrel
      have k0 : (0 : Int) ≤ (k : Int) := Int.natCast_nonneg _
      obtain ⟨wo, hwo⟩ : ∃ wo : World, wo = wr := ⟨_, rfl⟩
      rw [← hwo] at hown hkv hb ⊢
      clear hwo
      by_cases hlt : k < R.length
      · have k1 : (k : Int) < (R.length : Int) := by omega
        obtain ⟨⟨b, e⟩, hx⟩ : ∃ x, R[k]? = some x := ⟨_, List.getElem?_eq_getElem hlt⟩
        have HRC := HRR.out.below hb.out
        obtain ⟨ad, rfl, c0, c1⟩ := Rws.at_ HRC hx
        have hrk := hok.out
        rw [drop_consP hx] at hrk
        obtain ⟨hdb, hbe, hen, hrok⟩ := hrk
        simp only at hdb hbe hen hrok c0 c1
        have HAP := Lib.hid (show out ++ (⟨((at_ + dels (cutE l d b) : Nat) : Int), (dels (cutE l b e) : Int), ((to_ + adds (cutE l d b) : Nat) : Int), (adds (cutE l b e) : Int), cutE l b e⟩ ::
          hunksF l (at_ + dels (cutE l d b) + dels (cutE l b e)) (to_ + adds (cutE l d b) + adds (cutE l b e)) e (R.drop (k + 1))) = HS by
            have := hap.out
            rw [drop_consP hx] at this
            exact this)
        have HROK := Lib.hid hrok
        have P1 := Lib.hid (fun (w' : World) (hb' : Below w.heap.size w w') => (HO.out.below hb').piece hdb (show b ≤ l.length by omega))
        have P2 := Lib.hid (fun (w' : World) (hb' : Below w.heap.size w w') => (HO.out.below hb').piece hbe (show e ≤ l.length by omega))
        obtain ⟨Q1, hQ1⟩ : ∃ Q, (if c = d then A else Option.map (fun x => x.add (d * 2)) A) = Q := ⟨_, rfl⟩
        obtain ⟨Q2, hQ2⟩ : ∃ Q, (if c = b then A else Option.map (fun x => x.add (b * 2)) A) = Q := ⟨_, rfl⟩
        rw [hQ1] at P1
        rw [hQ2] at P2
        have l1 := cutE_len l (i := d) (j := b) (by omega)
        have l2 := cutE_len l (i := b) (j := e) (by omega)
        have n1 := dels_le (cutE l d b)
        have n2 := adds_le (cutE l d b)
        have n3 := dels_le (cutE l b e)
        have n4 := adds_le (cutE l b e)
        have L1 := Lib.hid l1
        have L2 := Lib.hid l2
        have hbw := HBW.out.trans (hb.out.mono HBW.out.size)
        have C1 := Lib.hid (fun (w' : World) (hb' : Below w.heap.size w w') => count_any w' _ _ (P1.out w' hb') (by omega))
        have C2 := Lib.hid (fun (w' : World) (hb' : Below w.heap.size w w') => cloneEd_any w' _ _ (P2.out w' hb') (by omega))
        generalize hE1 : cutE l d b = E1 at *
        generalize hE2 : cutE l b e = E2 at *
        have HBo := Lib.hid hbw
        have b1 := hb.out.alloc hb.out.size (.cells #[.int .i64 (b : Int), .int .i64 (e : Int)] 108)
        have KX1 := Lib.hid (Blk.new wo 108 #[.int .i64 (b : Int), .int .i64 (e : Int)])
        have O1 := Lib.hid (hown.out.alloc (.cells #[.int .i64 (b : Int), .int .i64 (e : Int)] 108))
        have V1 := Lib.hid (hkv.out.keep fun v n xs hr => hr.alloc (.cells #[.int .i64 (b : Int), .int .i64 (e : Int)] 108))
        have B1 := Lib.hid b1
        have HOB := Lib.hid (fun g (hg : u5.ownBlock = some g) => (hown.out.lt g hg).2)
        have x1 := KX1.out.cell 0
        have x2 := KX1.out.cell 1
        have i1 : (d : Int) ≤ (b : Int) := by omega
        have i2 : (b : Int) ≤ (c : Int) := by omega
        have i3 : (b : Int) ≤ (e : Int) := by omega
        have i4 : (e : Int) ≤ (c : Int) := by omega
        have i5 : (0 : Int) ≤ (d : Int) := by omega
        have i6 : (0 : Int) ≤ (b : Int) := by omega
        have j1 : ((at_ : Nat) : Int) ≤ 1000 := by omega
        have j2 : ((to_ : Nat) : Int) ≤ 1000 := by omega
        have j3 : ((dels E1 : Nat) : Int) ≤ 1000 := by omega
        have j4 : ((adds E1 : Nat) : Int) ≤ 1000 := by omega
        have j5 : (0 : Int) ≤ ((at_ : Nat) : Int) := Int.natCast_nonneg _
        have j6 : (0 : Int) ≤ ((to_ : Nat) : Int) := Int.natCast_nonneg _
        have j7 : (0 : Int) ≤ ((dels E1 : Nat) : Int) := Int.natCast_nonneg _
        have j8 : (0 : Int) ≤ ((adds E1 : Nat) : Int) := Int.natCast_nonneg _
        clear hx hok hrok hap hbw b1 HRC l1 l2 hown hkv hb hdb hbe
        go_upto_region 6 with fail
        generalize hW1 : wo.alloc (.cells #[.int .i64 (b : Int), .int .i64 (e : Int)] 108) = W1 at *
        generalize wo.heap.size = X1 at *
        clear hW1 c0 c1
        go_wp2_with fail
        refine (C1.out W1 (HBW.out.trans (B1.out.mono HBW.out.size))).mono ?_
        rintro e' w2 ⟨rfl, b2⟩
        have B2 := Lib.hid (B1.out.trans (b2.mono B1.out.size))
        have KX2 := Lib.hid (KX1.out.below b2 KX1.out.lt)
        have O2 := Lib.hid (own2_keep O1.out b2)
        have V2 := Lib.hid (V1.out.keep fun v n xs hr => own2_keep hr b2)
        have hX12 := KX1.out.lt
        have hs2 := b2.size
        clear b2 KX1 O1 V1 B1 C1 x1 x2
        have x1 := KX2.out.cell 0
        have x2 := KX2.out.cell 1
        go_wp2_with fail
        refine (C2.out w2 (HBW.out.trans (B2.out.mono HBW.out.size))).mono ?_
        rintro e' w3 ⟨v6, rfl, o6, b3⟩
        obtain ⟨A6, c6, rfl⟩ := own_formP o6
        have B3 := Lib.hid (B2.out.trans (b3.mono B2.out.size))
        have KX3 := Lib.hid (KX2.out.below b3 KX2.out.lt)
        have O3 := Lib.hid (own2_keep O2.out b3)
        have V3 := Lib.hid (V2.out.keep fun v n xs hr => own2_keep hr b3)
        have hX13 := KX3.out.lt
        have b4 := (Below.refl w3.heap.size w3).alloc (Nat.le_refl _) (.cells #[.int .i64 ((at_ : Int) + (dels E1 : Int)), .int .i64 0, .int .i64 ((to_ : Int) + (adds E1 : Int)), .int .i64 0, .slice A6 E2.length c6] 64)
        have B4 := Lib.hid (B3.out.trans (b4.mono B3.out.size))
        have KX4 := Lib.hid (KX3.out.below b4 KX3.out.lt)
        have O4 := Lib.hid (own2_keep O3.out b4)
        have V4 := Lib.hid (V3.out.keep fun v n xs hr => own2_keep hr b4)
        have O64 := Lib.hid (own2_keep (own2_le o6 B2.out.size) b4)
        have KY4 := Lib.hid (Blk.new w3 64 #[.int .i64 ((at_ : Int) + (dels E1 : Int)), .int .i64 0, .int .i64 ((to_ : Int) + (adds E1 : Int)), .int .i64 0, .slice A6 E2.length c6])
        have hXY : X1 ≠ w3.heap.size := by omega
        have hX2b := B3.out.size
        have hOY : u5.ownBlock ≠ some w3.heap.size := fun hg => by have := (O3.out.lt _ hg).2; omega
        clear o6 b3 b4 KX2 O2 V2 B2 C2 KX3 O3 V3 B3 x1 x2 hX12 hs2 hX13
        go_upto_region 8 with fail
        generalize hW4 : w3.alloc (.cells #[.int .i64 ((at_ : Int) + (dels E1 : Int)), .int .i64 0, .int .i64 ((to_ : Int) + (adds E1 : Int)), .int .i64 0, .slice A6 E2.length c6] 64) = W4 at *
        generalize w3.heap.size = X2 at *
        clear hW4
        have y4 := KY4.out.cell 4
        have C3 := Lib.hid (count_any W4 (.slice A6 E2.length c6) E2 (Reads.of_own cEd_len O64.out) (by have := L2.out; omega))
        go_wp2_with fail
        refine C3.out.mono ?_
        rintro e' w5 ⟨rfl, b5⟩
        have B5 := Lib.hid (B4.out.trans (b5.mono B4.out.size))
        have KX5 := Lib.hid (KX4.out.below b5 KX4.out.lt)
        have O5 := Lib.hid (own2_keep O4.out b5)
        have V5 := Lib.hid (V4.out.keep fun v n xs hr => own2_keep hr b5)
        have O65 := Lib.hid (own2_keep O64.out b5)
        have KY5 := Lib.hid (KY4.out.below b5 KY4.out.lt)
        clear b5 C3 y4 KX4 O4 V4 O64 KY4
        have y1 := KY5.out.cell 1
        have y3 := KY5.out.cell 3
        have f1 := KY5.out.frozen 1
        have f3 := KY5.out.frozen 3
        have KY6 := Lib.hid (((KY5.out.set_ 1 (.int .i64 (dels E2 : Int))).set_ 3 (.int .i64 (adds E2 : Int))))
        have KX6 := Lib.hid ((KX5.out.far (p := ⟨X2, 1, none⟩) hXY (.int .i64 (dels E2 : Int))).far (p := ⟨X2, 3, none⟩) hXY (.int .i64 (adds E2 : Int)))
        have O6 := Lib.hid (kept_at (kept_at O5.out hOY 1 (.int .i64 (dels E2 : Int))) hOY 3 (.int .i64 (adds E2 : Int)))
        have hLY : (Value.slice A6 E2.length c6).ownBlock ≠ some X2 := own_blk_ne O65.out KY5.out (by decide)
        have O66 := Lib.hid (kept_at (kept_at O65.out hLY 1 (.int .i64 (dels E2 : Int))) hLY 3 (.int .i64 (adds E2 : Int)))
        have V6 := Lib.hid (V5.out.keep fun v n xs hr => kept_at (kept_at hr (own_blk_ne hr KY5.out (by decide)) 1 (.int .i64 (dels E2 : Int))) (own_blk_ne hr KY5.out (by decide)) 3 (.int .i64 (adds E2 : Int)))
        have B6 := Lib.hid ((B5.out.setCell (p := ⟨X2, 1, none⟩) hX2b (.int .i64 (dels E2 : Int))).setCell (p := ⟨X2, 3, none⟩) hX2b (.int .i64 (adds E2 : Int)))
        go_upto_region 9 with fail
        generalize hW6 : (w5.setCell ⟨X2, 1, none⟩ (.int .i64 (dels E2 : Int))).setCell ⟨X2, 3, none⟩ (.int .i64 (adds E2 : Int)) = W6 at *
        clear hW6 y1 y3 f1 f3
        have KY7 : Hid (Blk W6 X2 64 #[.int .i64 ((at_ : Int) + (dels E1 : Int)), .int .i64 (dels E2 : Int), .int .i64 ((to_ : Int) + (adds E1 : Int)), .int .i64 (adds E2 : Int), .slice A6 E2.length c6]) := Lib.hid (by simpa using KY6.out)
        have z0 := KY7.out.cell 0
        have z1 := KY7.out.cell 1
        have z2 := KY7.out.cell 2
        have z3 := KY7.out.cell 3
        have x2 := KX6.out.cell 1
        have m1 : ((dels E2 : Nat) : Int) ≤ 1000 := by have := L2.out; omega
        have m2 : ((adds E2 : Nat) : Int) ≤ 1000 := by have := L2.out; omega
        have m3 : (0 : Int) ≤ ((dels E2 : Nat) : Int) := Int.natCast_nonneg _
        have m4 : (0 : Int) ≤ ((adds E2 : Nat) : Int) := Int.natCast_nonneg _
        have s1 : IntKind.i64.wrap ((at_ : Int) + (dels E1 : Int) + (dels E2 : Int)) = (at_ : Int) + (dels E1 : Int) + (dels E2 : Int) := IntWalk.i64_in _ (by omega)
        have s2 : IntKind.i64.wrap ((to_ : Int) + (adds E1 : Int) + (adds E2 : Int)) = (to_ : Int) + (adds E1 : Int) + (adds E2 : Int) := IntWalk.i64_in _ (by omega)
        have HBD := Lib.hid (show at_ + dels E1 + dels E2 ≤ e ∧ to_ + adds E1 + adds E2 ≤ e by have := L1.out; have := L2.out; omega)
        clear O5 V5 O65 KX5 KY5 KY6 B5
        go_quiet (fail)
        generalize hW7 : W6.drewN _ = W7
        have KY8 : Blk W7 X2 64 #[.int .i64 ((at_ : Int) + (dels E1 : Int)), .int .i64 (dels E2 : Int), .int .i64 ((to_ : Int) + (adds E1 : Int)), .int .i64 (adds E2 : Int), .slice A6 E2.length c6] := by rw [← hW7]; exact KY7.out
        have O7 : Hid (W7.ownsRow wc.heap.size 64 5 u5 out.length vals) := Lib.hid (by rw [← hW7]; exact O6.out)
        have O67 : Hid (W7.ownsRow wc.heap.size 66 2 (.slice A6 E2.length c6) E2.length (E2.flatMap cEd)) := Lib.hid (by rw [← hW7]; exact O66.out)
        have V7 : Hid (HkV 66 W7 wc.heap.size vals out) := Lib.hid (by rw [← hW7]; exact V6.out.keep fun v n xs hr => own2_keep hr (below_drewN (Below.refl _ _) _))
        have B7 : Below wc.heap.size wc W7 := by rw [← hW7]; exact below_drewN B6.out _
        clear hW7 z0 z1 z2 z3 x2 s1 s2 KY7 KX6 O6 O66 V6 B6
        have z0 := KY8.cell 0
        have z1 := KY8.cell 1
        have z2 := KY8.cell 2
        have z3 := KY8.cell 3
        have z4 := KY8.cell 4
        obtain ⟨A5, c5, rfl⟩ := own_formP O7.out
        have hol9 := hol.out
        have hown4 := O7.out.alloc (.cells #[.int .i64 ((at_ : Int) + (dels E1 : Int)), .int .i64 (dels E2 : Int), .int .i64 ((to_ : Int) + (adds E1 : Int)), .int .i64 (adds E2 : Int), .slice A6 E2.length c6] 64)
        have hnews := World.news_of_block (cs := #[.int .i64 ((at_ : Int) + (dels E1 : Int)), .int .i64 (dels E2 : Int), .int .i64 ((to_ : Int) + (adds E1 : Int)), .int .i64 (adds E2 : Int), .slice A6 E2.length c6]) (t := 64) (fr := (0, 0)) (heap_alloc_new W7 (.cells #[.int .i64 ((at_ : Int) + (dels E1 : Int)), .int .i64 (dels E2 : Int), .int .i64 ((to_ : Int) + (adds E1 : Int)), .int .i64 (adds E2 : Int), .slice A6 E2.length c6] 64))
        have hb4 := B7.alloc B7.size (.cells #[.int .i64 ((at_ : Int) + (dels E1 : Int)), .int .i64 (dels E2 : Int), .int .i64 ((to_ : Int) + (adds E1 : Int)), .int .i64 (adds E2 : Int), .slice A6 E2.length c6] 64)
        have hsz4 := hb4.size
        have HO4 := Lib.hid hown4
        have V8 := Lib.hid (V7.out.keep fun v n xs hr => hr.alloc (.cells #[.int .i64 ((at_ : Int) + (dels E1 : Int)), .int .i64 (dels E2 : Int), .int .i64 ((to_ : Int) + (adds E1 : Int)), .int .i64 (adds E2 : Int), .slice A6 E2.length c6] 64))
        have O68 := Lib.hid (O67.out.alloc (.cells #[.int .i64 ((at_ : Int) + (dels E1 : Int)), .int .i64 (dels E2 : Int), .int .i64 ((to_ : Int) + (adds E1 : Int)), .int .i64 (adds E2 : Int), .slice A6 E2.length c6] 64))
        go_wp2_with (at_builtin; refine wpList_append_own _ rfl _ _ 50 rfl wc.heap.size 64 i0 (.agg #[.int .i64 0, .int .i64 0, .int .i64 0, .int .i64 0, .slice none 0 0]) 5 56 Tryd.underlying50 hi hz0 hz1 hz2 rfl (by decide) _ _ _ rfl hown4 ⟨W7.heap.size, 0, none⟩ 1 1 [.int .i64 ((at_ : Int) + (dels E1 : Int)), .int .i64 (dels E2 : Int), .int .i64 ((to_ : Int) + (adds E1 : Int)), .int .i64 (adds E2 : Int), .slice A6 E2.length c6] rfl rfl hnews (by simp [Value.oneCell']) (by unfold maxLen; omega) (by omega) hsz4 ?_; intro v9 w9 hown9 hg9 _)
        have b9 : Below wc.heap.size wc w9 := hb4.grown hg9 hsz4 (fun z hz => (HO4.out.lt z hz).1)
        have V9 := Lib.hid (V8.out.keep fun v n xs hr => kept_ne hr HO4.out (by decide) hg9)
        have O69 := Lib.hid (kept_ne O68.out HO4.out (by decide) hg9)
        clear hnews hown4 hg9 hb4 z0 z1 z2 z3 z4 KY8
        go_roundw
        case rel => exact ⟨k + 1, at_ + dels E1 + dels E2, to_ + adds E1 + adds E2, e, out ++ [⟨((at_ + dels E1 : Nat) : Int), (dels E2 : Int), ((to_ + adds E1 : Nat) : Int), (adds E2 : Int), E2⟩], vals ++ [.int .i64 ((at_ : Int) + (dels E1 : Int)), .int .i64 (dels E2 : Int), .int .i64 ((to_ : Int) + (adds E1 : Int)), .int .i64 (adds E2 : Int), .slice A6 E2.length c6], by omega, by go_num, by go_num, by go_num, rfl, Lib.hid (by rw [List.append_assoc]; exact HAP.out), HROK, ⟨HBD.out.1, HBD.out.2, hen⟩, Lib.hid (by rw [List.length_append, List.length_singleton]; omega), Lib.hid (by rw [List.length_append, List.length_singleton]; exact hown9), Lib.hid (HkV.snoc (h := ⟨((at_ + dels E1 : Nat) : Int), (dels E2 : Int), ((to_ + adds E1 : Nat) : Int), (adds E2 : Int), E2⟩) O69.out V9.out), Lib.hid b9⟩
        case measure => simp [intOf]; omega
      · obtain rfl : k = R.length := by omega
        have HFIN : Hid (out = HS) := Lib.hid (by have := hap.out; rw [List.drop_length] at this; simpa [hunksF] using this)
        go_wp2
        go_ret
        exact ⟨_, vals, rfl, by rw [← HFIN.out]; exact own2_le hown.out HBW.out.size, by rw [← HFIN.out]; exact hkv.out.le HBW.out.size, HBW.out.trans (hb.out.mono HBW.out.size)⟩
end Go.Proofs.YtdpoeagmeiedcaaDoor

namespace Go.Proofs.YtdpoeagmeiedcaaDoor
open Go Go.RowKit

/-- What was added ahead, deleted now; what was deleted behind it, added now. -/
def turnO (l : List EdI) : List EdI := l.flatMap fun e => if e.1 = 3 then [(2, e.2)] else []
def turnA (l : List EdI) : List EdI := l.flatMap fun e => if e.1 = 3 then [] else [(3, e.2)]
theorem turnO_snoc (l : List EdI) (e : EdI) : turnO (l ++ [e]) = turnO l ++ if e.1 = 3 then [(2, e.2)] else [] := by unfold turnO; rw [List.flatMap_append]; simp
theorem turnA_snoc (l : List EdI) (e : EdI) : turnA (l ++ [e]) = turnA l ++ if e.1 = 3 then [] else [(3, e.2)] := by unfold turnA; rw [List.flatMap_append]; simp
theorem turnO_le (l : List EdI) : (turnO l).length ≤ l.length := by
  induction l with
  | nil => simp [turnO]
  | cons e l ih =>
    unfold turnO at ih ⊢
    rw [List.flatMap_cons, List.length_append, List.length_cons]
    have : (if e.1 = 3 then [((2 : Int), e.2)] else []).length ≤ 1 := by split <;> simp
    omega
theorem turnA_le (l : List EdI) : (turnA l).length ≤ l.length := by
  induction l with
  | nil => simp [turnA]
  | cons e l ih =>
    unfold turnA at ih ⊢
    rw [List.flatMap_cons, List.length_append, List.length_cons]
    have : (if e.1 = 3 then [] else [((3 : Int), e.2)]).length ≤ 1 := by split <;> simp
    omega

set_option maxRecDepth 100000 in
set_option maxHeartbeats 4000000 in
theorem turned_any (w : World) (v : Value) (l : List EdI) (h : Reads 2 cEd w v l) (hl : l.length ≤ 1000) (hops : ∀ e ∈ l, e.1 = 2 ∨ e.1 = 3) :
    Calls Tryd.prog 56 #[v] w (OwnTo 66 2 cEd (turnO l ++ turnA l) w) := by
  obtain ⟨A, c, rfl⟩ := h.form
  have hnm : c ≤ 9223372036854775807 := by have := h.len.2.2; unfold maxLen at this; omega
  have HO := Lib.hid h
  have HP := Lib.hid hops
  obtain ⟨i0, hi, hz0, hz1, hz2⟩ := info_parts editInfo
  clear h hops
  go_enter Tryd.func56, Tryd.ntmps56
  go_wp2_with fail
  go_loopw [3, 4, 9] (fun s3 s4 s9 wr => ∃ k : Nat, k ≤ l.length ∧ s9 = .int .i64 k ∧ Hid (wr.ownsRow w.heap.size 66 2 s3 (turnO (l.take k)).length ((turnO (l.take k)).flatMap cEd)) ∧ Hid (wr.ownsRow w.heap.size 66 2 s4 (turnA (l.take k)).length ((turnA (l.take k)).flatMap cEd)) ∧
    Hid (∀ g, s3.ownBlock = some g → s4.ownBlock ≠ some g) ∧ Hid (Below w.heap.size w wr)) (fun _ _ s9 _ => l.length - (intOf s9).toNat)
  case atStart => exact ⟨0, Nat.zero_le _, rfl, Lib.hid (World.ownsRow_nil _ _ _ _), Lib.hid (World.ownsRow_nil _ _ _ _), Lib.hid (fun g hg => by cases hg), Lib.hid (Below.refl _ _)⟩
  case round =>
    obtain ⟨k, hk, rfl, ho, ha, hne, hb⟩ := hrel
    have k0 : (0 : Int) ≤ (k : Int) := Int.natCast_nonneg _
    have t1 := turnO_le (l.take k)
    have t2 := turnA_le (l.take k)
    have t3 := List.length_take_le k l
    obtain ⟨A3, c3, rfl⟩ := own_formP ho.out
    obtain ⟨A4, c4, rfl⟩ := own_formP ha.out
    by_cases hlt : k < l.length
    · have k1 : (k : Int) < (l.length : Int) := by omega
      obtain ⟨x, hx⟩ : ∃ x, l[k]? = some x := ⟨_, List.getElem?_eq_getElem hlt⟩
      obtain ⟨ad, rfl, c0, c1⟩ := Eds.at_ (HO.out.below hb.out) hx
      have hop := HP.out x (List.mem_of_getElem? hx)
      have TO := Lib.hid (turnO_snoc (l.take k) x)
      have TA := Lib.hid (turnA_snoc (l.take k) x)
      rw [← take_snocP hx] at TO TA
      obtain ⟨o, s⟩ := x
      simp only at hop
      have hbE := hb.out.alloc hb.out.size (.cells #[.int .i64 o, .string s] 66)
      have hoE := ho.out.alloc (.cells #[.int .i64 o, .string s] 66)
      have haE := ha.out.alloc (.cells #[.int .i64 o, .string s] 66)
      have kE := Blk.new wr 66 #[.int .i64 o, .string s]
      have e1 := kE.cell 1
      have hblt := fun g (hg : (Value.slice A4 (turnA (l.take k)).length c4).ownBlock = some g) => (ha.out.lt g hg).2
      have holt := fun g (hg : (Value.slice A3 (turnO (l.take k)).length c3).ownBlock = some g) => (ho.out.lt g hg).2
      generalize hLO : turnO (l.take k) = LO at *
      generalize hLA : turnA (l.take k) = LA at *
      have HB1 := Lib.hid hblt
      have HB2 := Lib.hid holt
      clear hx hLO hLA hblt holt
      rcases hop with rfl | rfl
      · go_upto_region 11 with fail
        generalize hW : wr.alloc (.cells #[.int .i64 2, .string s] 66) = W at *
        have HSZ : Hid (wr.heap.size < W.heap.size) := Lib.hid (by rw [← hW]; simp)
        clear hW
        have hown4 := haE.alloc (.cells #[.int .i64 3, .string s] 66)
        have hnews := World.news_of_block (cs := #[.int .i64 3, .string s]) (t := 66) (fr := (0, 0)) (heap_alloc_new W (.cells #[.int .i64 3, .string s] 66))
        have hb4 := hbE.alloc hbE.size (.cells #[.int .i64 3, .string s] 66)
        have hsz4 := hb4.size
        have HOE := Lib.hid (hoE.alloc (.cells #[.int .i64 3, .string s] 66))
        have HAE := Lib.hid haE
        go_wp2_with (at_builtin; refine wpList_append_own_at _ rfl (.tmp 31) (.tmp 35) 25 rfl w.heap.size 66 i0 (.agg #[.int .i64 0, .string ⟨#[]⟩]) 2 24 Tryd.underlying25 hi hz0 hz1 hz2 rfl (by decide) _ _ _ rfl hown4 ⟨W.heap.size, 0, none⟩ 1 1 [.int .i64 3, .string s] rfl rfl hnews (by simp [Value.oneCell']) (by unfold maxLen; omega) (by omega) hsz4 ?_; intro v5 w5 hown5 hg5 _ hat5)
        have hb5 : Below w.heap.size w w5 := hb4.grown hg5 hsz4 (fun z hz => (HAE.out.lt z hz).1)
        have ho5 : w5.ownsRow w.heap.size 66 2 (.slice A3 LO.length c3) LO.length (LO.flatMap cEd) := by
          refine HOE.out.kept hg5 ?_
          cases hy : (Value.slice A3 LO.length c3).ownBlock with
          | none => exact .inl rfl
          | some g => exact .inr fun e => hne.out g hy e.symm
        have hn5 : ∀ g, (Value.slice A3 LO.length c3).ownBlock = some g → v5.ownBlock ≠ some g := fun g hg hv => by
          rcases hat5 with h | h
          · exact hne.out g hg (h.symm.trans hv)
          · rw [hv] at h
            have h1 := HB2.out g hg
            have h2 := HSZ.out
            injection h with h
            simp at h
            omega
        have HB5 := Lib.hid hb5
        have HO5 := Lib.hid ho5
        have HN5 := Lib.hid hn5
        have HA5 := Lib.hid hown5
        clear hnews hown4 hg5 hb4 hat5 hb5 ho5 hn5 hown5
        go_roundw
        case rel => exact ⟨k + 1, by omega, by go_num, Lib.hid (by rw [TO.out, if_neg (show ¬ (2 : Int) = 3 by decide), List.append_nil]; exact HO5.out), Lib.hid (by rw [TA.out, if_neg (show ¬ (2 : Int) = 3 by decide), List.length_append, flat_snocP]; exact HA5.out), HN5, HB5⟩
        case measure => simp [intOf]; omega
      · go_upto_region 9 with fail
        generalize hW : wr.alloc (.cells #[.int .i64 3, .string s] 66) = W at *
        have HSZ : Hid (wr.heap.size < W.heap.size) := Lib.hid (by rw [← hW]; simp)
        clear hW
        have hown4 := hoE.alloc (.cells #[.int .i64 2, .string s] 66)
        have hnews := World.news_of_block (cs := #[.int .i64 2, .string s]) (t := 66) (fr := (0, 0)) (heap_alloc_new W (.cells #[.int .i64 2, .string s] 66))
        have hb4 := hbE.alloc hbE.size (.cells #[.int .i64 2, .string s] 66)
        have hsz4 := hb4.size
        have HAE := Lib.hid (haE.alloc (.cells #[.int .i64 2, .string s] 66))
        have HOE := Lib.hid hoE
        go_wp2_with (at_builtin; refine wpList_append_own_at _ rfl (.tmp 23) (.tmp 27) 25 rfl w.heap.size 66 i0 (.agg #[.int .i64 0, .string ⟨#[]⟩]) 2 24 Tryd.underlying25 hi hz0 hz1 hz2 rfl (by decide) _ _ _ rfl hown4 ⟨W.heap.size, 0, none⟩ 1 1 [.int .i64 2, .string s] rfl rfl hnews (by simp [Value.oneCell']) (by unfold maxLen; omega) (by omega) hsz4 ?_; intro v5 w5 hown5 hg5 _ hat5)
        have hb5 : Below w.heap.size w w5 := hb4.grown hg5 hsz4 (fun z hz => (HOE.out.lt z hz).1)
        have ha5 : w5.ownsRow w.heap.size 66 2 (.slice A4 LA.length c4) LA.length (LA.flatMap cEd) := by
          refine HAE.out.kept hg5 ?_
          cases hy : (Value.slice A4 LA.length c4).ownBlock with
          | none => exact .inl rfl
          | some g => exact .inr fun e => hne.out g e.symm hy
        have hn5 : ∀ g, v5.ownBlock = some g → (Value.slice A4 LA.length c4).ownBlock ≠ some g := fun g hg hv => by
          rcases hat5 with h | h
          · exact hne.out g (h.symm.trans hg) hv
          · rw [hg] at h
            have h1 := HB1.out g hv
            have h2 := HSZ.out
            injection h with h
            simp at h
            omega
        have HB5 := Lib.hid hb5
        have HA5 := Lib.hid ha5
        have HN5 := Lib.hid hn5
        have HO5 := Lib.hid hown5
        clear hnews hown4 hg5 hb4 hat5 hb5 ha5 hn5 hown5
        go_roundw
        case rel => exact ⟨k + 1, by omega, by go_num, Lib.hid (by rw [TO.out, if_pos rfl, List.length_append, flat_snocP]; exact HO5.out), Lib.hid (by rw [TA.out, if_pos rfl, List.append_nil]; exact HA5.out), HN5, HB5⟩
        case measure => simp [intOf]; omega
    · obtain rfl : k = l.length := by omega
      rw [List.take_length] at ho ha t1 t2
      rw [List.take_length]
      have HRA := Lib.hid (Reads.of_own cEd_len ha.out)
      have hbs := hb.out.size
      go_wp2_with (at_builtin; refine wpList_append_eds _ rfl (.tmp 38) (.tmp 39) rfl w.heap.size _ (turnO l) (turnA l) rfl ho.out _ _ _ rfl HRA.out (by omega) hbs ?_; intro A5 c5 w5 hown5 hb5 _)
      rw [List.length_append] at hown5
      have HO5 := Lib.hid hown5
      have HB5 := Lib.hid (hb.out.trans hb5)
      clear hown5 hb5
      go_ret
      exact ⟨_, rfl, by rw [List.length_append]; exact HO5.out, HB5.out⟩

/-- Hunks turned. -/
def turnH (h : Hk) : Hk := ⟨h.to_, h.add, h.at_, h.del, turnO h.ls ++ turnA h.ls⟩

set_option maxRecDepth 100000 in
set_option maxHeartbeats 8000000 in
theorem turnedH_any (w : World) (v : Value) (hs : List Hk) (h : HksIn w v hs) (hl : hs.length ≤ 1000) (hll : ∀ x ∈ hs, x.ls.length ≤ 1000 ∧ ∀ e ∈ x.ls, e.1 = 2 ∨ e.1 = 3) :
    Calls Tryd.prog 27 #[v] w (HunksTo 64 66 (hs.map turnH) w) := by
  obtain ⟨A, c, rfl⟩ := h.form
  have hnm : c ≤ 9223372036854775807 := by have := h.len.2.2; unfold maxLen at this; omega
  have hnc := h.len.2.1
  have HH := Lib.hid h
  have HLL := Lib.hid hll
  obtain ⟨i0, hi, hz0, hz1, hz2⟩ := info_parts hunkInfo
  clear h hll
  go_enter Tryd.func27, Tryd.ntmps27
  go_wp2_with fail
  go_loopw [3, 8] (fun s3 s8 wr => ∃ (i : Nat) (vals : List Value), i ≤ hs.length ∧ s8 = .int .i64 i ∧ Hid (wr.ownsRow w.heap.size 64 5 s3 i vals) ∧ Hid (HkV 66 wr w.heap.size vals ((hs.take i).map turnH)) ∧ Hid (Below w.heap.size w wr)) (fun _ s8 _ => hs.length - (intOf s8).toNat)
  case atStart => exact ⟨0, [], Nat.zero_le _, rfl, Lib.hid (World.ownsRow_nil _ _ _ _), Lib.hid rfl, Lib.hid (Below.refl _ _)⟩
  case round =>
    obtain ⟨i, vals, hil, rfl, hown, hv, hb⟩ := hrel
    have i0' : (0 : Int) ≤ (i : Int) := Int.natCast_nonneg _
    by_cases hlt : i < hs.length
    · obtain ⟨x, hx⟩ : ∃ x, hs[i]? = some x := ⟨_, List.getElem?_eq_getElem hlt⟩
      obtain ⟨ad, vl, rfl, c0, c1, c2, c3, c4, hrd⟩ := HH.out.at2 hb.out hx
      obtain ⟨hxl, hxo⟩ := HLL.out x (List.mem_of_getElem? hx)
      have HF := Lib.hid hx
      obtain ⟨at_, del, to_, add, ls⟩ := x
      simp only at c0 c1 c2 c3 hrd hxl hxo
      obtain ⟨Al, cl, rfl⟩ := hrd.form
      have hi1 : (i : Int) < (hs.length : Int) := by omega
      have b1 := hb.out.alloc hb.out.size (.cells #[.int .i64 at_, .int .i64 del, .int .i64 to_, .int .i64 add, .slice Al ls.length cl] 64)
      have O1 := Lib.hid (hown.out.alloc (.cells #[.int .i64 at_, .int .i64 del, .int .i64 to_, .int .i64 add, .slice Al ls.length cl] 64))
      have V1 := Lib.hid (hv.out.keep fun v n xs hr => hr.alloc (.cells #[.int .i64 at_, .int .i64 del, .int .i64 to_, .int .i64 add, .slice Al ls.length cl] 64))
      have KX := Lib.hid (Blk.new wr 64 #[.int .i64 at_, .int .i64 del, .int .i64 to_, .int .i64 add, .slice Al ls.length cl])
      have hOX : u3.ownBlock ≠ some wr.heap.size := fun hg => by have := (hown.out.lt _ hg).2; omega
      obtain ⟨TL, hTL⟩ : ∃ TL, TL = turnO ls ++ turnA ls := ⟨_, rfl⟩
      have T := Lib.hid (fun (w' : World) (hb' : Below w.heap.size w w') => (by rw [hTL]; exact turned_any w' (.slice Al ls.length cl) ls (hrd.below hb') hxl hxo : Calls Tryd.prog 56 #[.slice Al ls.length cl] w' (OwnTo 66 2 cEd TL w')))
      have HTL := Lib.hid hTL
      clear hTL
      have B1 := Lib.hid b1
      clear hx hrd hxl hxo b1 hown hv hb
      go_upto_block 1 with fail
      go_cut [3] (fun x3 wy => ∃ vals2, Hid (wy.ownsRow w.heap.size 64 5 x3 (i + 1) vals2) ∧ Hid (HkV 66 wy w.heap.size vals2 ((hs.take (i + 1)).map turnH)) ∧ Hid (Below w.heap.size w wy))
      case first =>
        go_upto_region 5 with fail
        generalize hW1 : wr.alloc (.cells #[.int .i64 at_, .int .i64 del, .int .i64 to_, .int .i64 add, .slice Al ls.length cl] 64) = W1 at *
        generalize wr.heap.size = X at *
        clear hW1 c0 c1 c2 c3 c4
        have z0 : W1.drew.cell? ⟨X, 0, none⟩ = some (.int .i64 at_) ∧ W1.drew.cell? ⟨X, 1, none⟩ = some (.int .i64 del) ∧ W1.drew.cell? ⟨X, 2, none⟩ = some (.int .i64 to_) ∧ W1.drew.cell? ⟨X, 3, none⟩ = some (.int .i64 add) ∧ W1.drew.cell? ⟨X, 4, none⟩ = some (.slice Al ls.length cl) := ⟨KX.out.cell 0, KX.out.cell 1, KX.out.cell 2, KX.out.cell 3, KX.out.cell 4⟩
        have KXd : Hid (Blk W1.drew X 64 #[.int .i64 at_, .int .i64 del, .int .i64 to_, .int .i64 add, .slice Al ls.length cl]) := Lib.hid KX.out
        have ZZ := Lib.hid (fun (w' : World) (k : Blk w' X 64 #[.int .i64 at_, .int .i64 del, .int .i64 to_, .int .i64 add, .slice Al ls.length cl]) => (show w'.cell? ⟨X, 0, none⟩ = some (.int .i64 at_) ∧ w'.cell? ⟨X, 1, none⟩ = some (.int .i64 del) ∧ w'.cell? ⟨X, 2, none⟩ = some (.int .i64 to_) ∧ w'.cell? ⟨X, 3, none⟩ = some (.int .i64 add) ∧ w'.cell? ⟨X, 4, none⟩ = some (.slice Al ls.length cl) from ⟨k.cell 0, k.cell 1, k.cell 2, k.cell 3, k.cell 4⟩))
        have HB := Lib.hid (fun (w' : World) (b' : Below W1.drew.heap.size W1.drew w') => B1.out.drew.trans (b'.mono B1.out.drew.size))
        go_region_held3 (fun w' => w'.cell? ⟨X, 0, none⟩ = some (.int .i64 at_) ∧ w'.cell? ⟨X, 1, none⟩ = some (.int .i64 del) ∧ w'.cell? ⟨X, 2, none⟩ = some (.int .i64 to_) ∧ w'.cell? ⟨X, 3, none⟩ = some (.int .i64 add) ∧ w'.cell? ⟨X, 4, none⟩ = some (.slice Al ls.length cl)) (first | exact z0 | exact z6 | exact ZZ.out _ (KX6.alloc _) | exact z7) (first
          | (refine step_append_lies _ (by rfl) _ _ 50 (by rfl) w.heap.size 64 i0 (.agg #[.int .i64 0, .int .i64 0, .int .i64 0, .int .i64 0, .slice none 0 0]) 5 56 Tryd.underlying50 hi hz0 hz1 hz2 rfl (by omega) _ i vals (by rfl) (hown6.alloc _) ⟨w6.heap.size, 0, none⟩ 1 1 [.int .i64 to_, .int .i64 add, .int .i64 at_, .int .i64 del, .slice A6 TL.length c6] (by rfl) (by rfl) (World.news_of_block (cs := #[.int .i64 to_, .int .i64 add, .int .i64 at_, .int .i64 del, .slice A6 TL.length c6]) (t := 64) (fr := (0, 0)) (heap_alloc_new w6 _)) (by simp [Value.oneCell']) (by omega) (by unfold maxLen; omega) (by omega) (by simp; omega) (w6.heap.size + 1) (by simp) ?_; intro gg cap w7 hown7 hg7 hat hlt7; have d7 := (d6.alloc d6.size (.cells #[.int .i64 to_, .int .i64 add, .int .i64 at_, .int .i64 del, .slice A6 TL.length c6] 64)).grown hg7 (by simp; omega) (fun z hz => (hown6.lt z hz).1); have z7 := ZZ.out _ ((KX6.alloc _).grown hg7 (fun e => hOX e.symm)))
          | (go_at_call 56; (with_reducible refine (T.out W1.drew B1.out.drew).mono ?_); rintro e w6 ⟨v6, rfl, o6, b6⟩; have d6 := HB.out _ b6; have KX6 := KXd.out.below b6 KXd.out.lt; have z6 := ZZ.out _ KX6; have hown6 := own2_keep O1.out.drew b6; have hws6 := d6.size; obtain ⟨A6, c6, rfl⟩ := own_formP o6))
        all_goals
          go_wp2_with fail
          go_meet
          exact ⟨vals ++ [.int .i64 to_, .int .i64 add, .int .i64 at_, .int .i64 del, .slice A6 TL.length c6], Lib.hid hown7, Lib.hid (by
            rw [take_snocP HF.out, List.map_append]
            show HkV 66 w7 w.heap.size _ (List.map turnH (hs.take i) ++ [⟨to_, add, at_, del, turnO ls ++ turnA ls⟩])
            rw [← HTL.out]
            exact HkV.snoc (h := ⟨to_, add, at_, del, TL⟩) (kept_ne ((own2_le o6 B1.out.drew.size).alloc _) (hown6.alloc _) (by decide) hg7) (V1.out.keep fun v n xs hr => kept_ne ((own2_keep hr.drew b6).alloc _) (hown6.alloc _) (by decide) hg7)), Lib.hid d7⟩
      case rest =>
        obtain ⟨vals2, h1, h2, h3⟩ := hcut
        go_wp2
        go_roundw
        case rel => exact ⟨i + 1, vals2, by omega, by go_num, h1, h2, h3⟩
        case measure => simp [intOf]; omega
    · obtain rfl : i = hs.length := by omega
      have HL : Hid (hs.take hs.length = hs) := Lib.hid (by rw [List.take_length])
      go_wp2
      go_ret
      exact ⟨_, vals, rfl, by rw [List.length_map]; exact hown.out, by rw [HL.out] at hv; exact hv.out, hb.out⟩
end Go.Proofs.YtdpoeagmeiedcaaDoor
