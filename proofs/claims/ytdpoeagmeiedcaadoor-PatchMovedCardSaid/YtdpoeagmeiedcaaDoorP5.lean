/-
  patch.Apply: hunks done.
-/
import Derived.Test.YtdpoeagmeiedcaaDoorP4
import Derived.Test.YtdpoeagmeiedcaaDoorG6
import Derived.Maps.AppendAt
import Derived.Laws.AppendOwnNone
import Derived.Deep.DeepCutAuto
import Derived.Deep.CutBlock
namespace Go.Proofs.YtdpoeagmeiedcaaDoor
open Go Go.RowKit

theorem wpList_append_strs {w : World} {ops : Array Oper} {rest : List Oper} {o : Oper} {a : Act} {Q : Exit → Act → World → Prop} (hgd : o.guard = none) (s x : Operand)
    (ho : o.op = .call { callee := .builtin .append, args := #[s, x], argTypes := #[22, 22] }) (base : Nat) (v : Value) (X : List ByteArray) (hs : a.eval s = v) (hown : w.ownsRow base 9 1 v X.length (X.map Value.string))
    (u : Value) (Y : List ByteArray) (hu : Strs w u Y) (hx : a.eval x = u) (h63 : X.length + Y.length ≤ 1000000) (hbase : base ≤ w.heap.size)
    (h : ∀ v' w', w'.ownsRow base 9 1 v' (X ++ Y).length ((X ++ Y).map Value.string) → w.grownBy w' v.ownBlock → (v'.ownBlock = v.ownBlock ∨ v'.ownBlock = some w.heap.size) → wpList Tryd.prog ops Q rest (a.put o.dst v') w') : wpList Tryd.prog ops Q (o :: rest) a w := by
  obtain ⟨i0, hi, hz0, hz1, hz2⟩ := info_parts strInfo
  obtain ⟨A, c, rfl, h1, h2, h3, h4⟩ := hu
  cases A with
  | none =>
    obtain rfl := h3 rfl
    obtain rfl : Y = [] := List.eq_nil_of_length_eq_zero (by omega)
    refine wpList_append_own_none hgd s x 22 ho base 9 i0 1 Tryd.underlying22 hi v _ _ hs hown hx ?_
    exact h v w (by simpa using hown) ⟨rfl, rfl, rfl, Nat.le_refl _, fun _ _ _ => rfl⟩ (.inl rfl)
  | some ad =>
    refine wpList_append_own_at w hgd s x 22 ho base 9 i0 (.string { data := #[] }) 1 16 Tryd.underlying22 hi hz0 hz1 hz2 rfl (by decide) v _ _ hs hown ad Y.length c (Y.map Value.string) hx (by simp) ?_ ?_ (by unfold maxLen; omega) (by omega) hbase ?_
    · intro j z hz
      rw [List.getElem?_map] at hz
      cases hy : Y[j]? with
      | none => rw [hy] at hz; cases hz
      | some t => rw [hy] at hz; obtain rfl := Option.some.inj hz; exact h4 ad rfl j t hy
    · intro z hz
      obtain ⟨t, _, rfl⟩ := List.mem_map.1 hz
      rfl
    · intro v' w' hown' hg _ hat
      exact h v' w' (by rw [List.length_append, List.map_append]; exact hown') hg hat


abbrev bHunk : ByteArray := ⟨#[104, 117, 110, 107]⟩
/-- What a text is behind hunks; or the first that can't be done. -/
def AppliedTo (R : (Nat × Int) ⊕ List ByteArray) (w : World) (e : Ending) (w' : World) : Prop :=
  (∃ l v, R = .inr l ∧ e = .returned (.tuple #[v, .nilIface]) ∧ w'.ownsRow w.heap.size 9 1 v l.length (l.map Value.string) ∧ Below w.heap.size w w') ∨
    ∃ (i : Nat) (k : Int) (F : Nat), R = .inl (i, k) ∧ e = .returned (.tuple #[.slice none 0 0, theFault F]) ∧ Blk w' F 102 #[.string bHunk, .int .i64 (i : Int), .iface 97 (.int .i64 k)] ∧ Below w.heap.size w w'
/-- Hunks that are few and small enough. -/
structure HkOk (h : Hk) : Prop where
  l : h.ls.length ≤ 200
  a1 : -1099511627776 ≤ h.at_
  a2 : h.at_ ≤ 1099511627776
  t1 : -1099511627776 ≤ h.to_
  t2 : h.to_ ≤ 1099511627776
theorem applyH_cons {a : List ByteArray} {hs : List Hk} {h : Hk} {done : Nat} {out : List ByteArray} {i : Nat} : applyH a (h :: hs) done out i = if wrongH a h done out.length ≠ 0 then .inl (i, wrongH a h done out.length) else applyH a hs (h.at_ + h.del).toNat (out ++ ((a.drop done).take (h.at_.toNat - done) ++ newL h.ls)) (i + 1) := rfl
theorem own_strs {w : World} {base : Nat} {v : Value} {l : List ByteArray} (h : w.ownsRow base 9 1 v l.length (l.map Value.string)) : ∃ A c, v = .slice A l.length c := by
  rcases h.2 with ⟨rfl, h0⟩ | ⟨g, cap, cur, rfl, _⟩
  · exact ⟨none, 0, by rw [h0]⟩
  · exact ⟨_, _, rfl⟩

/-- The hunk k, read in a world behind; its lines stand where they stood. -/
theorem HksIn.at2 {w wr : World} {A : Option Addr} {n c : Nat} {hs : List Hk} (h : HksIn w (.slice A n c) hs) (hb : Below w.heap.size w wr) {i : Nat} {x : Hk} (hi : hs[i]? = some x) :
    ∃ (ad : Addr) (vl : Value), A = some ad ∧ wr.cell? (ad.add (i * 5)) = some (.int .i64 x.at_) ∧ wr.cell? ⟨(ad.add (i * 5)).block, (ad.add (i * 5)).off + 1, none⟩ = some (.int .i64 x.del) ∧ wr.cell? ⟨(ad.add (i * 5)).block, (ad.add (i * 5)).off + 2, none⟩ = some (.int .i64 x.to_) ∧
      wr.cell? ⟨(ad.add (i * 5)).block, (ad.add (i * 5)).off + 3, none⟩ = some (.int .i64 x.add) ∧ wr.cell? ⟨(ad.add (i * 5)).block, (ad.add (i * 5)).off + 4, none⟩ = some vl ∧ Reads 2 cEd w vl x.ls := by
  obtain ⟨ad, vl, h0, c0, c1, c2, c3, c4, r⟩ := h.at_ hi
  have k : ∀ {p : Addr} {u : Value}, w.cell? p = some u → wr.cell? p = some u := fun hc => (hb.cell (World.block_lt_of_cell? _ _ hc)).trans hc
  exact ⟨ad, vl, h0, k c0, k c1, k c2, k c3, k c4, r⟩

set_option maxRecDepth 100000 in
set_option maxHeartbeats 8000000 in
theorem apply_any (w : World) (va vh : Value) (xs : List ByteArray) (hs : List Hk) (ha : Strs w va xs) (hh : HksIn w vh hs) (lx : xs.length ≤ 1000) (lh : hs.length ≤ 200) (hok : ∀ h ∈ hs, HkOk h) :
    Calls Tryd.prog 29 #[va, vh] w (AppliedTo (applyH xs hs 0 [] 0) w) := by
  obtain ⟨B, n, d, rfl⟩ := ha.form
  obtain ⟨A, c, rfl⟩ := hh.form
  obtain rfl := ha.len.1
  have hxd := ha.len.2.1
  have hxm : d ≤ 9223372036854775807 := by have := ha.len.2.2; unfold maxLen at this; omega
  have hhc := hh.len.2.1
  have hhm : c ≤ 9223372036854775807 := by have := hh.len.2.2; unfold maxLen at this; omega
  have HA := Lib.hid ha
  have HH := Lib.hid hh
  have HOK := Lib.hid hok
  obtain ⟨i0, hi, hz0, hz1, hz2⟩ := info_parts strInfo
  obtain ⟨R, hR⟩ : ∃ R, R = applyH xs hs 0 [] 0 := ⟨_, rfl⟩
  rw [← hR]
  have HR := Lib.hid hR
  clear ha hh hok hR
  go_enter Tryd.func29, Tryd.ntmps29
  go_wp2_with fail
  go_loopw [6, 7, 15] (fun s6 s7 s15 wr => ∃ (k done : Nat) (out : List ByteArray), k ≤ hs.length ∧ s15 = .int .i64 k ∧ s7 = .int .i64 done ∧ wr.ownsRow w.heap.size 9 1 s6 out.length (out.map Value.string) ∧ Hid (applyH xs (hs.drop k) done out k = R) ∧ done ≤ xs.length ∧ out.length ≤ done + 200 * k ∧ Below w.heap.size w wr) (fun _ _ s15 _ => hs.length - (intOf s15).toNat)
  case atStart => exact ⟨0, 0, [], Nat.zero_le _, rfl, rfl, World.ownsRow_nil _ _ _ _, Lib.hid HR.out.symm, Nat.zero_le _, by simp, Below.refl _ _⟩
  case round =>
    obtain ⟨k, done, out, hk, rfl, rfl, hown, hap, hdone, hol, hb⟩ := hrel
    have k0 : (0 : Int) ≤ (k : Int) := Int.natCast_nonneg _
    have d0 : (0 : Int) ≤ (done : Int) := Int.natCast_nonneg _
    obtain ⟨Ao, co, rfl⟩ := own_strs hown
    have HO := Lib.hid hown
    clear hown
    by_cases hlt : k < hs.length
    · have k1 : (k : Int) < (hs.length : Int) := by omega
      obtain ⟨x, hx⟩ : ∃ x, hs[k]? = some x := ⟨_, List.getElem?_eq_getElem hlt⟩
      obtain ⟨ad, vl, rfl, c0, c1, c2, c3, c4, hrd⟩ := HH.out.at2 hb hx
      have hxo := HOK.out x (List.mem_of_getElem? hx)
      have HAP := Lib.hid (show applyH xs (x :: hs.drop (k + 1)) done out k = R by rw [← drop_consP hx]; exact hap.out)
      obtain ⟨at_, del, to_, add, ls⟩ := x
      simp only at c0 c1 c2 c3 hrd
      obtain ⟨Al, cl, rfl⟩ := hrd.form
      have hb1 := hb.alloc hb.size (.cells #[.int .i64 at_, .int .i64 del, .int .i64 to_, .int .i64 add, .slice Al ls.length cl] 64)
      have KX := Lib.hid (Blk.new wr 64 #[.int .i64 at_, .int .i64 del, .int .i64 to_, .int .i64 add, .slice Al ls.length cl])
      have WR := Lib.hid (wrong_any (wr.alloc (.cells #[.int .i64 at_, .int .i64 del, .int .i64 to_, .int .i64 add, .slice Al ls.length cl] 64)) (.slice B xs.length d) (.slice Al ls.length cl) xs at_ del to_ add ls done out.length (HA.out.below hb1) (hrd.below hb1) lx (by have := hxo.l; simp only at this; omega) hxo.a1 hxo.a2 (by omega) (by omega) (by omega) (by omega))
      have HO1 := Lib.hid (HO.out.alloc (.cells #[.int .i64 at_, .int .i64 del, .int .i64 to_, .int .i64 add, .slice Al ls.length cl] 64))
      have HRD := Lib.hid hrd
      have hlc := hrd.len.2.1
      have hlm : cl ≤ 9223372036854775807 := by have := hrd.len.2.2; unfold maxLen at this; omega
      have HB1 := Lib.hid hb1
      have HXO := Lib.hid hxo
      clear hx hxo hrd hb1 hap
      go_wp2_with fail
      refine WR.out.mono ?_
      rintro e w2 ⟨rfl, b2⟩
      have HB2 := Lib.hid (HB1.out.trans (b2.mono HB1.out.size))
      have KX2 := Lib.hid (KX.out.below b2 KX.out.lt)
      have HO2 := Lib.hid (own2_keep HO1.out b2)
      generalize hX : wr.heap.size = X at *
      clear hX b2 WR KX HO1 c0 c1 c2 c3 c4
      by_cases hw0 : wrongH xs ⟨at_, del, to_, add, ls⟩ done out.length = 0
      · obtain ⟨z1, hdel, z3, hge, z5, z6, hfit, z8⟩ := wrongH_ok hw0
        clear z1 z3 z5 z6 z8
        simp only at hdel hge hfit
        obtain ⟨p, hp⟩ : ∃ p : Nat, at_ = (p : Int) := ⟨at_.toNat, by omega⟩
        obtain ⟨dl, hdl⟩ : ∃ dl, dl = dels ls := ⟨_, rfl⟩
        rw [← hdl] at hdel hfit
        subst hp
        subst hdel
        have hdp : done ≤ p := by omega
        have hpx : p + dl ≤ xs.length := by omega
        have HAP2 : Hid (applyH xs (hs.drop (k + 1)) (p + dl) (out ++ (cutL2 xs done p ++ newL ls)) (k + 1) = R) := Lib.hid (by
          rw [← HAP.out, applyH_cons, if_neg (by rw [hw0]; decide)]
          show _ = applyH xs (hs.drop (k + 1)) ((p : Int) + (dl : Int)).toNat (out ++ ((xs.drop done).take ((p : Int).toNat - done) ++ newL ls)) (k + 1)
          rw [Int.toNat_natCast, show ((p : Int) + (dl : Int)).toNat = p + dl by omega]
          rfl)
        have hnl := newL_le ls
        have hls := HXO.out.l
        simp only at hls
        have HCL := Lib.hid (show (cutL2 xs done p).length = p - done from cutL2_len _ (by omega))
        rw [hw0]
        have sK := Strs.piece (HA.out.below HB2.out) hdp (show p ≤ xs.length by omega)
        obtain ⟨P, hP⟩ : ∃ P, (if d = done then B else Option.map (fun x => x.add done) B) = P := ⟨_, rfl⟩
        rw [hP] at sK
        have q1 : (done : Int) ≤ (p : Int) := by omega
        have q2 : (p : Int) ≤ (d : Int) := by omega
        have p0 : (0 : Int) ≤ (p : Int) := by omega
        have e0 := KX2.out.cell 0
        have e4 := KX2.out.cell 4
        have hwb := HB2.out.size
        clear hw0 hdl HAP hge hfit
        go_wp2_with (at_builtin; refine wpList_append_strs rfl (.tmp 34) (.tmp 39) rfl w.heap.size _ out rfl HO2.out _ (cutL2 xs done p) sK rfl (by have := HCL.out; omega) hwb ?_; intro v8 w8 hown8 hg8 _; have KX8 := Lib.hid (KX2.out.grown hg8 (fun e => own_blk_ne HO2.out KX2.out (by decide) e.symm)); have HB8 := Lib.hid (HB2.out.grown hg8 hwb (fun z hz => (HO2.out.lt z hz).1)); have HO8 := Lib.hid hown8; clear hown8 hg8 e0 e4; have e0 := KX8.out.cell 0; have e1 := KX8.out.cell 1; have e4 := KX8.out.cell 4)
        obtain ⟨pre, hpre⟩ : ∃ pre, pre = out ++ cutL2 xs done p := ⟨_, rfl⟩
        have hprl : pre.length ≤ 100000 := by rw [hpre, List.length_append, HCL.out]; omega
        have HO8p : Hid (w8.ownsRow w.heap.size 9 1 v8 pre.length (pre.map Value.string)) := Lib.hid (by rw [hpre]; exact HO8.out)
        have HPRE := Lib.hid hpre
        clear hpre HO8 sK hP
        obtain ⟨A8, c8, rfl⟩ := own_strs HO8p.out
        go_loopw [6, 44] (fun s6 s44 wq => ∃ j : Nat, j ≤ ls.length ∧ s44 = .int .i64 j ∧ wq.ownsRow w.heap.size 9 1 s6 (pre ++ newL (ls.take j)).length ((pre ++ newL (ls.take j)).map Value.string) ∧ Blk wq X 64 #[.int .i64 (p : Int), .int .i64 (dl : Int), .int .i64 to_, .int .i64 add, .slice Al ls.length cl] ∧ Below w.heap.size w wq) (fun _ s44 _ => ls.length - (intOf s44).toNat)
        case atStart => exact ⟨0, Nat.zero_le _, rfl, by simpa [newL] using HO8p.out, KX8.out, HB8.out⟩
        case round =>
          obtain ⟨j, hj, rfl, hown, hkx, hbq⟩ := hrel
          clear e0 e1 e4
          have j0 : (0 : Int) ≤ (j : Int) := Int.natCast_nonneg _
          by_cases hjl : j < ls.length
          · have j1 : (j : Int) < (ls.length : Int) := by omega
            obtain ⟨x, hx⟩ : ∃ x, ls[j]? = some x := ⟨_, List.getElem?_eq_getElem hjl⟩
            obtain ⟨ad2, rfl, c0, c1⟩ := Eds.at_ (HRD.out.below hbq) hx
            have TN := Lib.hid (newL_snoc (ls.take j) x)
            rw [← take_snocP hx] at TN
            obtain ⟨o, s⟩ := x
            have hnj := newL_le (ls.take j)
            have hnj2 := List.length_take_le j ls
            have hLL : (pre ++ newL (ls.take j)).length ≤ 300000 := by rw [List.length_append]; omega
            have HN2 := Lib.hid (And.intro hnj hnj2)
            clear hx hnj hnj2
            generalize hL : pre ++ newL (ls.take j) = L at *
            have HLE := Lib.hid hL
            clear hL
            have hownE := hown.alloc (.cells #[.int .i64 o, .string s] 66)
            have hkxE := hkx.alloc (.cells #[.int .i64 o, .string s] 66)
            have hbE := hbq.alloc hbq.size (.cells #[.int .i64 o, .string s] 66)
            have kE := Blk.new wr 66 #[.int .i64 o, .string s]
            have cE1 := kE.cell 1
            by_cases ho : o = 2
            · subst ho
              have HOE := Lib.hid hownE
              have HKE := Lib.hid hkxE
              have HBE := Lib.hid hbE
              clear hownE hkxE hbE kE cE1 hown hkx
              go_wp2
              go_roundw
              case rel => exact ⟨j + 1, by omega, by go_num, by rw [TN.out, if_pos rfl, List.append_nil, HLE.out]; exact HOE.out, HKE.out, HBE.out⟩
              case measure => simp [intOf]; omega
            · have ho' : (o != 2) = true := by simpa using ho
              have ho'' : (o == 2) = false := by simpa using ho
              have HNO := Lib.hid ho
              clear ho hown hkx
              go_upto_region 14 with fail
              generalize hWe : wr.alloc (.cells #[.int .i64 o, .string s] 66) = We at *
              clear hWe
              have hown4 := hownE.alloc (.cells #[.string s] 9)
              have hkx4 := hkxE.alloc (.cells #[.string s] 9)
              have hnews := World.news_of_block (cs := #[.string s]) (t := 9) (fr := (0, 0)) (heap_alloc_new We (.cells #[.string s] 9))
              have hb4 := hbE.alloc hbE.size (.cells #[.string s] 9)
              have hsz4 := hb4.size
              go_wp2_with (at_builtin; refine wpList_append_own _ rfl _ _ 22 rfl w.heap.size 9 i0 (.string { data := #[] }) 1 16 Tryd.underlying22 hi hz0 hz1 hz2 rfl (by decide) _ _ _ rfl hown4 ⟨We.heap.size, 0, none⟩ 1 1 [.string s] rfl rfl hnews (by simp [Value.oneCell']) (by unfold maxLen; omega) (by omega) hsz4 ?_; intro v5 w5 hown5 hg5 _)
              have hb5 : Below w.heap.size w w5 := hb4.grown hg5 hsz4 (fun z hz => (hownE.lt z hz).1)
              have hkx5 := hkx4.grown hg5 (fun e => own_blk_ne hownE hkxE (by decide) e.symm)
              clear hnews hown4 hg5 hb4 hkx4
              go_roundw
              case rel => exact ⟨j + 1, by omega, by go_num, by rw [TN.out, if_neg HNO.out, ← List.append_assoc, HLE.out, List.length_append, List.map_append]; exact hown5, hkx5, hb5⟩
              case measure => simp [intOf]; omega
          · obtain rfl : j = ls.length := by omega
            rw [List.take_length] at hown
            have e0 := hkx.cell 0
            have e1 := hkx.cell 1
            have HOW := Lib.hid hown
            clear hown hkx
            go_wp2
            go_roundw
            case rel => exact ⟨k + 1, p + dl, out ++ (cutL2 xs done p ++ newL ls), by omega, by go_num, by go_num, by rw [← List.append_assoc, ← HPRE.out]; exact HOW.out, HAP2, hpx, by rw [List.length_append, List.length_append, HCL.out]; omega, hbq⟩
            case measure => simp [intOf]; omega
      · have HRR : Hid (R = .inl (k, wrongH xs ⟨at_, del, to_, add, ls⟩ done out.length)) := Lib.hid (by rw [← HAP.out, applyH_cons, if_pos hw0])
        generalize wrongH xs ⟨at_, del, to_, add, ls⟩ done out.length = q at *
        have hq : (q != 0) = true := by simpa using hw0
        have hq' : (q == 0) = false := by simpa using hw0
        clear hw0 HAP
        go_wp2
        go_ret2
        exact .inr ⟨k, q, w2.heap.size, HRR.out, rfl, heap_alloc_new w2 _, HB2.out.alloc HB2.out.size _⟩
    · obtain rfl : k = hs.length := by omega
      have hRR : R = .inr (out ++ xs.drop done) := by rw [← hap.out, List.drop_length]; rfl
      have HRR := Lib.hid hRR
      have sK := Strs.piece (HA.out.below hb) hdone (Nat.le_refl xs.length)
      rw [show cutL2 xs done xs.length = xs.drop done by unfold cutL2; rw [List.take_of_length_le (by rw [List.length_drop]; omega)]] at sK
      obtain ⟨P, hP⟩ : ∃ P, (if d = done then B else Option.map (fun x => x.add done) B) = P := ⟨_, rfl⟩
      rw [hP] at sK
      have q1 : (done : Int) ≤ (xs.length : Int) := by omega
      have hwb := hb.size
      have hdl : (xs.drop done).length = xs.length - done := List.length_drop
      clear hRR hap
      go_wp2_with (at_builtin; refine wpList_append_strs rfl (.tmp 63) (.tmp 66) rfl w.heap.size _ out rfl HO.out _ (xs.drop done) sK rfl (by omega) hwb ?_; intro v8 w8 hown8 hg8 _; have HB8 := Lib.hid (hb.grown hg8 hwb (fun z hz => (HO.out.lt z hz).1)); have HO8 := Lib.hid hown8; clear hown8 hg8)
      go_ret2
      exact .inl ⟨_, _, HRR.out, rfl, HO8.out, HB8.out⟩
end Go.Proofs.YtdpoeagmeiedcaaDoor
