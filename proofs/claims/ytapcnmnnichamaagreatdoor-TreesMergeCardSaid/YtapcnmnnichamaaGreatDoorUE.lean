/-
  The contract of the document's Split.
  The document's Join.
  rectoref11.ended, marked: lines, the last one with its end.
  rectoref11.Text: three texts as one.
  rectoref11.Text: whose lines are too many.
-/
import Derived.Test.YtapcnmnnichamaaGreatDoorVA
import Derived.Test.YtapcnmnnichamaaGreatDoorVC
import Derived.Test.YtapcnmnnichamaaGreatDoorUY
import Derived.Test.YtapcnmnnichamaaGreatDoorUD
import Derived.Deep.QuietTactic
import Derived.BigQuiet
import Derived.IntWalk

namespace Go.Proofs.YtapcnmnnichamaaGreatDoor.Mg
open Go.RowKit

set_option maxRecDepth 100000 in
set_option maxHeartbeats 2000000 in
theorem refSplit_any (w : World) (s : ByteArray) (hs : s.size ≤ 1000000) :
    Calls Tryz.prog 83 #[.string s] w (Lines w.heap.size w (cutL s.data.toList)) := by
  obtain ⟨i0, hi, hz0, hz1, hz2⟩ := info_parts strInfo
  have hsz : s.data.toList.length = s.size := by rw [Array.length_toList]; rfl
  have HSZ := Lib.hid hsz
  clear hsz
  go_enter Tryz.func83, Tryz.ntmps83
  go_wp2_with fail
  go_loopw [3, 4, 5] (fun v b i wr => ∃ k q : Nat, k ≤ s.size ∧ i = .int .i64 k ∧ b = .int .i64 q ∧ q ≤ k ∧ At s.data.toList k q ∧ Own w.heap.size s k v wr ∧ Below w.heap.size w wr) (fun _ _ i _ => s.size - (intOf i).toNat)
  case atStart => exact ⟨0, 0, Nat.zero_le _, rfl, rfl, Nat.le_refl _, At.zero _, World.ownsRow_nil _ _ _ _, Below.refl _ _⟩
  case round =>
    obtain ⟨k, q, hk, rfl, rfl, hqk, hat, hown, hb⟩ := hrel
    have HA := Lib.hid hat
    clear hat
    by_cases hlt : k < s.size
    · have hl : k < s.data.toList.length := by rw [HSZ.out]; exact hlt
      by_cases hc : s[k] = 10
      · have hc' : s.data.toList[k] = 10 := hc
        have hA := HA.out.ended hl hc'
        have HE := Lib.hid hA
        have ht : ((s[k].toNat : Int) == 10) = true := by rw [hc]; rfl
        have hst := st_len s.data.toList k
        unfold Own at hown
        clear hA hc hc'
        go_wp2_with (at_builtin; refine wpList_append_own _ rfl _ _ 27 rfl w.heap.size 9 i0 (.string { data := #[] }) 1 16 Tryz.underlying27 hi hz0 hz1 hz2 rfl (by decide) _ _ _ rfl (hown.alloc _) ⟨wr.heap.size, 0, none⟩ 1 1 [.string (s.extract q (k + 1))] rfl ?c1 ?c2 ?c3 ?c4 ?c5 ?c6 ?_)
        case c1 => rfl
        case c2 => exact cell_one_new _ _ _
        case c3 => intro u hu; simp at hu; subst hu; rfl
        case c4 => unfold maxLen; omega
        case c5 => omega
        case c6 => have := hb.size; simp; omega
        intro v' w2 hown2 hg2 _
        have hb2 := (hb.alloc hb.size _).grown hg2 (by have := hb.size; simp; omega) fun z hz => (hown.lt z hz).1
        clear hg2 hown hb
        go_wp2
        go_roundw
        case rel =>
          refine ⟨k + 1, k + 1, by omega, by go_num, by go_num, by omega, HE.out.1, ?_, hb2⟩
          unfold Own
          rw [HE.out.2]
          simpa [extract_mk] using hown2
        case measure => simp [intOf]; omega
      · have hc' : s.data.toList[k] ≠ 10 := hc
        have hA := HA.out.more hl hc'
        have HE := Lib.hid hA
        have ht : ((s[k].toNat : Int) == 10) = false := by
          rw [beq_eq_false_iff_ne]
          intro e
          exact hc (UInt8.toNat_inj.1 (show s[k].toNat = 10 by omega))
        clear hA hc hc'
        go_wp2
        go_roundw
        case rel =>
          refine ⟨k + 1, q, by omega, by go_num, rfl, by omega, HE.out.1, ?_, hb⟩
          unfold Own
          rw [HE.out.2]
          exact hown
        case measure => simp [intOf]; omega
    · obtain rfl : k = s.size := by omega
      have hall : s.data.toList.take s.size = s.data.toList := List.take_of_length_le (by rw [HSZ.out]; omega)
      have hst := st_len s.data.toList s.size
      unfold Own at hown
      rw [hall] at hown hst
      have hat := HA.out
      unfold At at hat
      rw [hall] at hat
      have hrest : s.extract q s.size = mk (st s.data.toList).2 := by rw [extract_mk, hall, hat.2]
      have HR := Lib.hid hrest
      have hcl : cutL s.data.toList = if q < s.size then (st s.data.toList).1 ++ [(st s.data.toList).2] else (st s.data.toList).1 := by
        have hl := HSZ.out
        unfold cutL close
        by_cases hq : q < s.size
        · rw [if_pos hq, if_neg]
          rw [hat.2]
          intro e
          have := congrArg List.length e
          simp at this
          omega
        · rw [if_neg hq, if_pos]
          rw [hat.2]
          exact List.drop_eq_nil_of_le (by omega)
      have HC := Lib.hid hcl
      clear hall hat hrest hcl HA HSZ
      by_cases hq : q < s.size
      · go_wp2_with (at_builtin; refine wpList_append_own _ rfl _ _ 27 rfl w.heap.size 9 i0 (.string { data := #[] }) 1 16 Tryz.underlying27 hi hz0 hz1 hz2 rfl (by decide) _ _ _ rfl (hown.alloc _) ⟨wr.heap.size, 0, none⟩ 1 1 [.string (s.extract q s.size)] rfl ?d1 ?d2 ?d3 ?d4 ?d5 ?d6 ?_)
        case d1 => rfl
        case d2 => exact cell_one_new _ _ _
        case d3 => intro u hu; simp at hu; subst hu; rfl
        case d4 => unfold maxLen; omega
        case d5 => omega
        case d6 => have := hb.size; simp; omega
        intro v' w2 hown2 hg2 _
        have hb2 := (hb.alloc hb.size _).grown hg2 (by have := hb.size; simp; omega) fun z hz => (hown.lt z hz).1
        clear hg2 hown hb
        go_wp2
        go_ret
        refine ⟨v', rfl, ?_, hb2⟩
        rw [HC.out, if_pos hq]
        rw [HR.out] at hown2
        simpa using hown2
      · go_wp2
        go_ret
        refine ⟨_, rfl, ?_, hb⟩
        rw [HC.out, if_neg hq]
        exact hown

end Go.Proofs.YtapcnmnnichamaaGreatDoor.Mg

namespace Go.Proofs.YtapcnmnnichamaaGreatDoor.Mg
open Go.RowKit

set_option maxHeartbeats 2000000 in
/-- The document's Join. -/
theorem refJoin_any (w : World) (v : Value) (xs : List ByteArray) (h : Strs w v xs) (hl : (cat xs).length ≤ 2000000) :
    Calls Tryz.prog 84 #[v] w fun e w' => e = .returned (.string (mk (cat xs))) ∧ w = w' := by
  obtain ⟨A, n, c, rfl⟩ := h.form
  have hn := h.len
  have hb1 : n ≤ 9223372036854775807 := by have := hn.2; unfold maxLen at this; omega
  have HH := Lib.hid (fun k (hk : k < n) => h.cell hk)
  have HN := Lib.hid hn.1
  clear h hn
  go_enter Tryz.func84, Tryz.ntmps84
  go_wp2
  go_loopw [3, 4] (fun s i wr => ∃ k : Nat, k ≤ n ∧ i = .int .i64 k ∧ s = .string (mk (cat (xs.take k))) ∧ wr = w) (fun _ i _ => n - (intOf i).toNat)
  case atStart => exact ⟨0, Nat.zero_le _, rfl, rfl, rfl⟩
  case round =>
    obtain ⟨k, hk, rfl, rfl, rfl⟩ := hrel
    by_cases hlt : k < n
    · obtain ⟨a, x, rfl, hx, hc1⟩ := HH.out k hlt
      have hi0 : (0 : Int) ≤ (k : Int) := Int.natCast_nonneg _
      have hi1 : (k : Int) < (n : Int) := by omega
      have ht := cat_take xs k x hx
      have hs1 : (mk (cat (xs.take k))).size ≤ 2000000 := by rw [mk_size]; have := cat_le xs k; omega
      have hs2 : x.size ≤ 2000000 := by
        have h2 : (mk (cat (xs.take (k + 1)))).size ≤ 2000000 := by rw [mk_size]; have := cat_le xs (k + 1); omega
        rw [ht, ByteArray.size_append] at h2
        omega
      have HT := Lib.hid ht
      clear ht hx
      generalize mk (cat (xs.take k)) = p at *
      go_wp2
      go_roundw
      case rel => exact ⟨k + 1, by omega, by go_num, by rw [HT.out], trivial⟩
      case measure => simp [intOf]; omega
    · obtain rfl : k = n := by omega
      have hall : xs.take k = xs := List.take_of_length_le (by rw [← HN.out]; omega)
      rw [hall]
      clear hall
      go_wp2
      go_ret
      exact ⟨rfl, rfl⟩

end Go.Proofs.YtapcnmnnichamaaGreatDoor.Mg

namespace Go.Proofs.YtapcnmnnichamaaGreatDoor.Mg
open Go Go.RowKit

theorem mk_dataR (s : ByteArray) : mk s.data.toList = s := by apply ByteArray.ext; simp [mk]
theorem endL_yes {s : ByteArray} (h : wholeL s.data.toList = true) : mk (endL s.data.toList) = s := by
  unfold endL
  rw [if_pos h, mk_dataR]
theorem endL_no {s : ByteArray} (h : wholeL s.data.toList ≠ true) : mk (endL s.data.toList) = s ++ ⟨#[10]⟩ := by
  unfold endL
  rw [if_neg h]
  apply ByteArray.ext
  apply Array.toList_inj.1
  simp [mk]

attribute [-go_sem] run_string_add_if
set_option maxHeartbeats 1000000 in
theorem ended_m (s : ByteArray) (w : World) (h0 : 0 < s.size) (hs : s.size ≤ 1000000) : Calls Tryz.prog 115 #[.string s] w fun e w' => e = .returned (.string (mk (endL s.data.toList))) ∧ w = w' := by
  have hz : (ByteArray.mk #[10]).size = 1 := rfl
  obtain ⟨s1, e1, n1, p1⟩ := sum_namedM s ⟨#[10]⟩ (by omega)
  obtain ⟨n, hn⟩ : ∃ n, s.size = n + 1 := ⟨s.size - 1, by omega⟩
  have hl : n < s.size := by omega
  have hll : n < s.data.toList.length := by rw [size_data]; exact hl
  have hlast : s.data.toList.getLast? = some s[n] := by
    rw [List.getLast?_eq_getElem?, size_data, hn, Nat.add_sub_cancel, List.getElem?_eq_getElem hll]
    rfl
  have hw : wholeL s.data.toList = (s[n] == 10) := by unfold wholeL; rw [hlast]; rfl
  by_cases hc : s[n] = 10
  · have hE : Hid (mk (endL s.data.toList) = s) := Lib.hid (endL_yes (by rw [hw, hc]; rfl))
    have ht : ((s[n].toNat : Int) == 10) = true := by rw [hc]; rfl
    rw [hE.out]
    clear hlast hc e1 n1 hz h0 hw
    go_enter Tryz.func115, Tryz.ntmps115
    go_wp2_with fail
    go_ret
    exact ⟨rfl, rfl⟩
  · have hE : Hid (mk (endL s.data.toList) = s1) := Lib.hid (by
      rw [e1]
      refine endL_no ?_
      rw [hw]
      intro e
      exact hc (by simpa using e))
    have ht : ((s[n].toNat : Int) == 10) = false := by
      rw [beq_eq_false_iff_ne]
      intro e
      exact hc (UInt8.toNat_inj.1 (show s[n].toNat = 10 by omega))
    rw [hE.out]
    clear hlast hc e1 n1 hz h0 hw
    go_enter Tryz.func115, Tryz.ntmps115
    go_wp2_with fail
    go_ret
    exact ⟨rfl, rfl⟩

set_option maxHeartbeats 1000000 in
theorem marked_m (w : World) (v : Value) (xs : List ByteArray) (h : Strs w v xs) (hl : (cat xs).length ≤ 900000) :
    Calls Tryz.prog 85 #[v] w fun e w' => e = .returned (.string (mk (endL (cat xs)))) ∧ w = w' := by
  have J := Lib.hid (refJoin_any w v xs h (by omega))
  have hd : (mk (cat xs)).data.toList = cat xs := by simp [mk]
  have E := fun hp => ended_m (mk (cat xs)) w hp (by rw [mk_size]; omega)
  rw [hd] at E
  rw [mk_size] at E
  by_cases hc : cat xs = []
  · have he : endL (cat xs) = [] := by rw [hc]; rfl
    rw [he]
    rw [hc] at J
    clear E hd he hc h hl
    go_enter Tryz.func85, Tryz.ntmps85
    go_wp2_with fail
    refine J.out.mono ?_
    rintro e w1 ⟨rfl, rfl⟩
    have hb : (mk [] : ByteArray) = ⟨#[]⟩ := rfl
    rw [hb]
    go_wp2_with fail
    go_ret
    exact ⟨rfl, rfl⟩
  · have hpos : 0 < (cat xs).length := List.length_pos_iff.2 hc
    have E1 := Lib.hid (E hpos)
    have hne : (mk (cat xs)).toList.isEmpty = false := by
      rw [Lib.toList_data, hd, List.isEmpty_eq_false_iff]
      exact hc
    clear E hd hc h hl hpos
    generalize mk (cat xs) = s at *
    generalize endL (cat xs) = t at *
    go_enter Tryz.func85, Tryz.ntmps85
    go_wp2_with fail
    refine J.out.mono ?_
    rintro e w1 ⟨rfl, rfl⟩
    go_wp2_with fail
    refine E1.out.mono ?_
    rintro e w1 ⟨rfl, rfl⟩
    go_wp2_with fail
    go_ret
    exact ⟨rfl, rfl⟩
end Go.Proofs.YtapcnmnnichamaaGreatDoor.Mg

namespace Go.Proofs.YtapcnmnnichamaaGreatDoor.Mg
open Go Go.RowKit

theorem allR_eq (xs ys zs : List ByteArray) : allR xs ys zs = allC xs ys zs := rfl
theorem results_tmp2_row {fn : Func} {t u p : Tmp} {ty : TypeId} (h : fn.results = #[.tmp t, .tmp u, .cell p ty]) {P : Program} (tmps : Array Value) (w : World) (g : Nat) (tt : TypeId) (cs : Array Value) (fr : Nat × Nat) {fs : Array Field}
    (hp : tmps.getD p undef = .pointer (some ⟨g, 0, none⟩)) (hg : w.heap[g]? = some (.cells cs tt fr))
    (hu : P.underlying ty = some (.struct fs)) (hi : (P.info? ty).map (·.size) = some cs.size) :
    (results fn tmps).run P w = .ok (.tuple #[tmps.getD t undef, tmps.getD u undef, .agg cs]) w := by
  have hp' : tmps[p]?.getD undef = .pointer (some ⟨g, 0, none⟩) := by simpa using hp
  simp [results, h, hp', asAddr, run_loadVar_row w g tt ty cs fr (.struct fs) hg hu rfl hi, Result.andThen]
/-- The document's text of three, and how much of it clashes. -/
def RefTexted (w : World) (l : List UInt8) (n : Nat) (e : Ending) (w' : World) : Prop := e = .returned (.tuple #[.string (mk l), .int .i64 (n : Int), wrong0]) ∧ Below w.heap.size w w'
theorem mk_app (a b : List UInt8) : mk (a ++ b) = mk a ++ mk b := by
  apply ByteArray.ext
  apply Array.toList_inj.1
  simp [mk]
theorem ck_at {w : World} {B : Nat} {A : Option Addr} {cap : Nat} {vals : List Value} {cs : List (Ck ByteArray)} (h : w.ownsRow B 168 5 (.slice A cs.length cap) cs.length vals) (hk : CkS w vals cs) {k : Nat} {c : Ck ByteArray} (hc : cs[k]? = some c) :
    ∃ g b d e, A = some ⟨g, 0, none⟩ ∧ w.cell? ⟨g, k * 5 + 1, none⟩ = some b ∧ w.cell? ⟨g, k * 5 + 2, none⟩ = some d ∧ w.cell? ⟨g, k * 5 + 3, none⟩ = some (.bool c.clash) ∧ w.cell? ⟨g, k * 5 + 4, none⟩ = some e ∧ Strs w b c.ours ∧ Strs w d c.theirs ∧ Strs w e c.out := by
  have hlt := (List.getElem?_eq_some_iff.1 hc).1
  obtain ⟨a, b, d, e, k0, k1, k2, k3, k4, t1, t2, t3, t4⟩ := hk.at hc
  obtain ⟨g, cap', hv, _, _⟩ := World.ownsRow.form h (by omega)
  injection hv with e1 e2 e3
  subst e1; subst e3
  exact ⟨g, b, d, e, rfl, own5_at h k1, own5_at h k2, own5_at h k3, own5_at h k4, t2, t3, t4⟩

attribute [-go_sem] run_string_add_if
set_option maxRecDepth 100000 in
set_option maxHeartbeats 8000000 in
theorem refText_good (w : World) (sb so st sa sn : ByteArray) (h1 : sb.size ≤ 20000) (h2 : so.size ≤ 20000) (h3 : st.size ≤ 20000) (h4 : sa.size ≤ 1000) (h5 : sn.size ≤ 1000)
    (l1 : (lns sb).length ≤ 256) (l2 : (lns so).length ≤ 256) (l3 : (lns st).length ≤ 256) :
    Calls Tryz.prog 63 #[.string sb, .string so, .string st, .string sa, .string sn] w (RefTexted w (txtAll sa.data.toList sn.data.toList (allC (lns sb) (lns so) (lns st))) (clashes (allC (lns sb) (lns so) (lns st)))) := by
  have hG : Hid (∀ c ∈ allC (lns sb) (lns so) (lns st), (cat c.ours).length ≤ 20000 ∧ (cat c.theirs).length ≤ 20000 ∧ (cat c.out).length ≤ 20000 ∧ (txtC sa.data.toList sn.data.toList c).length ≤ 50000) := Lib.hid fun c hc => by
    obtain ⟨_, a2, a3, a4⟩ := piece_le (lns sb) (lns so) (lns st) (M := 20000) (by rw [lns_cat, size_data]; exact h1) (by rw [lns_cat, size_data]; exact h2) (by rw [lns_cat, size_data]; exact h3) hc
    exact ⟨a2, a3, a4, txtC_le (by rw [size_data]; exact h4) (by rw [size_data]; exact h5) a2 a3 a4⟩
  have hL : (allC (lns sb) (lns so) (lns st)).length ≤ 600 := by have := chunks_len (pls (ed (lns sb) (lns so)) 0) (pls (ed (lns sb) (lns st)) 0) (lns sb) (lns so) (lns st) ((lns sb).length + 1) 0 0 0; unfold allC; omega
  have S1 := Lib.hid fun w1 => refSplit_any w1 sb (by omega)
  have S2 := Lib.hid fun w1 => refSplit_any w1 so (by omega)
  have S3 := Lib.hid fun w1 => refSplit_any w1 st (by omega)
  have CH := Lib.hid fun w1 v0 v1 v2 g0 g1 g2 => refChunks_any w1 v0 v1 v2 (lns sb) (lns so) (lns st) g0 g1 g2
  have q1 : (cutL sb.data.toList).length = (lns sb).length := by simp
  have q2 : (cutL so.data.toList).length = (lns so).length := by simp
  have q3 : (cutL st.data.toList).length = (lns st).length := by simp
  have Q1 := Lib.hid q1
  have Q2 := Lib.hid q2
  have Q3 := Lib.hid q3
  have b1 := (Below.refl w.heap.size w).alloc (Nat.le_refl _) (.cells #[.slice none 0 0, .int .i64 0] 40)
  have K1 := Blk.new w 40 #[.slice none 0 0, .int .i64 0]
  have HSA := Lib.hid h4
  have HSN := Lib.hid h5
  clear h1 h2 h3 q1 q2 q3 h4 h5
  have HL1 := Lib.hid l1
  have HL2 := Lib.hid l2
  have HL3 := Lib.hid l3
  clear l1 l2 l3
  simp only [allR_eq] at CH
  generalize allC (lns sb) (lns so) (lns st) = cs at *
  go_enter Tryz.func63, Tryz.ntmps63
  go_wp2_with fail
  generalize hW1 : w.alloc (.cells #[.slice none 0 0, .int .i64 0] 40) = W1 at *
  clear hW1
  obtain ⟨Y, hY⟩ : ∃ Y, Y = w.heap.size := ⟨_, rfl⟩
  rw [← hY] at K1 ⊢
  have HY := Lib.hid hY
  clear hY
  refine (S1.out W1).mono ?_
  rintro e w1 ⟨v1, rfl, o1, d1⟩
  have t1 := Strs.of_own o1 Q1.out
  have b2 := below_trans b1 d1
  have K2 := K1.below d1 K1.lt
  clear o1 b1 K1 d1 S1
  go_wp2_with fail
  refine (S2.out w1).mono ?_
  rintro e w2 ⟨v2, rfl, o2, d2⟩
  have t2 := Strs.of_own o2 Q2.out
  have b3 := below_trans b2 d2
  have K3 := K2.below d2 K2.lt
  have t1' := t1.below d2
  clear o2 b2 K2 t1 d2 S2 Q1 Q2
  go_wp2_with fail
  refine (S3.out w2).mono ?_
  rintro e w3 ⟨v3, rfl, o3, d3⟩
  have t3 := Strs.of_own o3 Q3.out
  have b4 := below_trans b3 d3
  have K4 := K3.below d3 K3.lt
  have C3 := Lib.hid (CH.out w3 v1 v2 v3 (t1'.below d3) (t2.below d3) t3)
  clear o3 b3 K3 t1' t2 t3 d3 S3 CH Q3
  go_wp2_with fail
  refine C3.out.mono ?_
  rintro e w5 (⟨_, _, _, vC, vals, rfl, o5, hck, d5⟩ | ⟨k, g, hk, _⟩)
  case inr => have := HL1.out; have := HL2.out; have := HL3.out; unfold Over at hk; omega
  obtain ⟨AC, cC, rfl⟩ := own_formk o5
  have b5 := below_trans b4 d5
  have K5 := K4.below d5 K4.lt
  have d6 := (Below.refl w5.heap.size w5).alloc (Nat.le_refl _) (.cells #[.slice none 0 0, .int .i64 0] 40)
  have K6 := K5.below d6 K5.lt
  have X6 := Blk.new w5 40 #[.slice none 0 0, .int .i64 0]
  have O6 := Lib.hid (own2_keep o5 d6)
  have C6 := Lib.hid (hck.below d6)
  have B6 := Lib.hid (below_trans b5 d6)
  have c1 := X6.cell 1
  clear C3 b4 K4 o5 hck d5 K5 b5 d6
  go_wp2_with fail
  generalize hW : w5.alloc (.cells #[.slice none 0 0, .int .i64 0] 40) = W at *
  clear hW
  generalize w5.heap.size = X at *
  have HK := Lib.hid K6
  have HX := Lib.hid X6
  clear K6 X6 c1
  go_wp2_with fail
  go_loopw [15, 16, 17] (fun s15 s16 s17 wr => ∃ k : Nat, k ≤ cs.length ∧ s17 = .int .i64 k ∧ s16 = .int .i64 (clashes (cs.take k) : Nat) ∧ s15 = .string (mk (txtAll sa.data.toList sn.data.toList (cs.take k))) ∧ Below W.heap.size W wr) (fun _ _ s17 _ => cs.length - (intOf s17).toNat)
  case atStart => exact ⟨0, Nat.zero_le _, rfl, rfl, rfl, Below.refl _ _⟩
  case round =>
    obtain ⟨k, hk, rfl, rfl, rfl, hB⟩ := hrel
    have k0 : (0 : Int) ≤ (k : Int) := Int.natCast_nonneg _
    by_cases hlt : k < cs.length
    · have k1 : (k : Int) < (cs.length : Int) := by omega
      obtain ⟨c, hc⟩ : ∃ c, cs[k]? = some c := ⟨_, List.getElem?_eq_getElem hlt⟩
      obtain ⟨g, vb, vd, ve, rfl, x1, x2, x3, x4, t2, t3, t4⟩ := ck_at (own2_keep O6.out hB) (C6.out.below hB) hc
      obtain ⟨m1, m2, m3, m4⟩ := hG.out c (List.mem_of_getElem? hc)
      have HT := Lib.hid (txtAll_take (a := sa.data.toList) (n := sn.data.toList) hc)
      have HC := Lib.hid (clashes_take hc)
      have hcl := clashes_le (cs.take k)
      rw [List.length_take] at hcl
      have htl : (txtAll sa.data.toList sn.data.toList (cs.take k)).length ≤ 600 * 50000 := by
        have := flatMap_le (f := txtC sa.data.toList sn.data.toList) (M := 50000) (l := cs.take k) (fun x hx => (hG.out x (List.mem_of_mem_take hx)).2.2.2)
        rw [List.length_take] at this
        unfold txtAll
        have h6 : min k cs.length ≤ 600 := by omega
        exact Nat.le_trans this (Nat.mul_le_mul_right _ h6)
      obtain ⟨A2, n2, c2, rfl⟩ := t2.form
      obtain ⟨A3, n3, c3, rfl⟩ := t3.form
      obtain ⟨A4, n4, c4, rfl⟩ := t4.form
      cases hcc : c.clash with
      | false =>
        have HE : Hid (txtC sa.data.toList sn.data.toList c = cat c.out) := Lib.hid (by unfold txtC; rw [hcc]; rfl)
        rw [hcc] at x3 HC
        have J := Lib.hid (refJoin_any _ _ c.out t4 (by omega))
        have HBl := Lib.hid hB
        have y0 : (mk (txtAll sa.data.toList sn.data.toList (cs.take k))).size ≤ 600 * 50000 := by rw [mk_size]; exact htl
        have y1 : (mk (cat c.out)).size ≤ 20000 := by rw [mk_size]; exact m3
        clear hc t2 t3 t4 hcc hB m1 m2 m4 htl m3
        generalize clashes (cs.take k) = n at *
        generalize txtAll sa.data.toList sn.data.toList (cs.take k) = T at *
        obtain ⟨s1, e1, n1, p1⟩ := sum_namedM (mk T) (mk (cat c.out)) (by omega)
        have E1 := Lib.hid e1
        clear e1 n1 y0 y1
        go_wp2_with fail
        refine J.out.mono ?_
        rintro e w6 ⟨rfl, rfl⟩
        go_wp2_with fail
        go_roundw
        case rel => exact ⟨k + 1, by omega, by go_num, by rw [HC.out]; rfl, by rw [HT.out, HE.out, E1.out, mk_app], HBl.out⟩
        case measure => simp [intOf]; omega
      | true =>
        have HE : Hid (txtC sa.data.toList sn.data.toList c = markL sa.data.toList sn.data.toList (endL (cat c.ours)) (endL (cat c.theirs))) := Lib.hid (by unfold txtC; rw [hcc]; rfl)
        rw [hcc] at x3 HC
        have M1 := Lib.hid fun N => marked_m (wr.drewN N) _ c.ours (t2.below (below_drewN (Below.refl _ wr) N)) (by omega)
        have M2 := Lib.hid fun N => marked_m (wr.drewN N) _ c.theirs (t3.below (below_drewN (Below.refl _ wr) N)) (by omega)
        have hlE1 := endL_le (cat c.ours)
        have hlE2 := endL_le (cat c.theirs)
        have HBl := Lib.hid hB
        clear hc t2 t3 t4 hcc hB
        generalize clashes (cs.take k) = n at *
        generalize txtAll sa.data.toList sn.data.toList (cs.take k) = T at *
        generalize endL (cat c.ours) = E1 at *
        generalize endL (cat c.theirs) = E2 at *
        have y0 : (mk T).size ≤ 600 * 50000 := by rw [mk_size]; exact htl
        have y1 : (mk E1).size ≤ 20001 := by rw [mk_size]; omega
        have y2 : (mk E2).size ≤ 20001 := by rw [mk_size]; omega
        have y3 := HSA.out
        have y4 := HSN.out
        have l1 : (ByteArray.mk #[60, 60, 60, 60, 60, 60, 60, 32]).size = 8 := rfl
        have l2 : (ByteArray.mk #[10]).size = 1 := rfl
        have l3 : (ByteArray.mk #[61, 61, 61, 61, 61, 61, 61, 10]).size = 8 := rfl
        have l4 : (ByteArray.mk #[62, 62, 62, 62, 62, 62, 62, 32]).size = 8 := rfl
        obtain ⟨s0, e0, n0, p0⟩ := sum_namedM (mk T) ⟨#[60, 60, 60, 60, 60, 60, 60, 32]⟩ (by omega)
        obtain ⟨s1, e1, n1, p1⟩ := sum_namedM s0 sa (by omega)
        obtain ⟨s2, e2, n2', p2⟩ := sum_namedM s1 ⟨#[10]⟩ (by omega)
        obtain ⟨s3, e3, n3', p3⟩ := sum_namedM s2 (mk E1) (by omega)
        obtain ⟨s4, e4, n4', p4⟩ := sum_namedM s3 ⟨#[61, 61, 61, 61, 61, 61, 61, 10]⟩ (by omega)
        obtain ⟨s5, e5, n5, p5⟩ := sum_namedM s4 (mk E2) (by omega)
        obtain ⟨s6, e6, n6, p6⟩ := sum_namedM s5 ⟨#[62, 62, 62, 62, 62, 62, 62, 32]⟩ (by omega)
        obtain ⟨s7, e7, n7, p7⟩ := sum_namedM s6 sn (by omega)
        obtain ⟨s8, e8, n8, p8⟩ := sum_namedM s7 ⟨#[10]⟩ (by omega)
        have eM : Hid (s8 = mk (T ++ markL sa.data.toList sn.data.toList E1 E2)) := Lib.hid (by
          rw [e8, e7, e6, e5, e4, e3, e2, e1, e0]
          apply ByteArray.ext
          apply Array.toList_inj.1
          unfold markL
          simp [mk])
        clear l1 l2 l3 l4 e0 e1 e2 e3 e4 e5 e6 e7 e8 n0 n1 n2' n3' n4' n5 n6 n7 n8 y0 y1 y2 y3 y4 m1 m2 m3 m4 htl hlE1 hlE2
        go_wp2_with fail
        go_quiet (first
          | (go_at_call 85; exact Calls.quiet_of_same ((M1.out _).mono fun _ _ h => ⟨h.1, h.2.symm⟩))
          | (go_at_call 85; exact Calls.quiet_of_same ((M2.out _).mono fun _ _ h => ⟨h.1, h.2.symm⟩)))
        all_goals
          go_wp2_with fail
          go_roundw
          case rel => exact ⟨k + 1, by omega, by go_num, by rw [HC.out]; go_num, by rw [HT.out, HE.out, eM.out], below_drewN HBl.out _⟩
          case measure => simp [intOf]; omega
    · obtain rfl : k = cs.length := by omega
      rw [List.take_length]
      have BR := Lib.hid (B6.out.trans (hB.mono B6.out.size))
      have KY := HK.out.below hB HK.out.lt
      have KX := HX.out.below hB HX.out.lt
      have c0 := KX.cell 0
      have c1 := KX.cell 1
      have y0 := KY.cell 0
      have y1 := KY.cell 1
      have f0 := KY.frozen 0
      have f1 := KY.frozen 1
      have HKY := Lib.hid KY
      have hYw : Hid (w.heap.size ≤ Y) := Lib.hid (by rw [HY.out]; exact Nat.le_refl _)
      clear KX KY hB
      go_wp2_with fail
      go_region
      go_wp2_with fail
      refine bodyPost_ret (results_tmp2_row (fn := Tryz.f63) rfl _ _ Y 40 #[.slice none 0 0, .int .i64 0] (0, 0) rfl (by first | exact (HKY.out.set_ 0 _).set_ 1 _ | simpa using (HKY.out.set_ 0 (.slice none 0 0)).set_ 1 (.int .i64 0)) Tryz.underlying40 (by kernel_rfl)) rfl ⟨rfl, ?_⟩
      have B9 := ((BR.out.setCell (p := ⟨Y, 0, none⟩) hYw.out (.slice none 0 0)).setCell (p := ⟨Y, 1, none⟩) hYw.out (.int .i64 0))
      first | exact B9 | exact B9.drew
end Go.Proofs.YtapcnmnnichamaaGreatDoor.Mg

namespace Go.Proofs.YtapcnmnnichamaaGreatDoor.Mg
open Go Go.RowKit

attribute [-go_sem] run_string_add_if
set_option maxRecDepth 100000 in
set_option maxHeartbeats 8000000 in
theorem refText_bad (w : World) (sb so st sa sn : ByteArray) (h1 : sb.size ≤ 20000) (h2 : so.size ≤ 20000) (h3 : st.size ≤ 20000)
    (hk : ¬ ((lns sb).length ≤ 256 ∧ (lns so).length ≤ 256 ∧ (lns st).length ≤ 256)) :
    Calls Tryz.prog 63 #[.string sb, .string so, .string st, .string sa, .string sn] w (fun e w' => (∃ g, e = .returned (.tuple #[.string ⟨#[]⟩, .int .i64 0, wrongG g 4])) ∧ Below w.heap.size w w') := by
  have S1 := Lib.hid fun w1 => refSplit_any w1 sb (by omega)
  have S2 := Lib.hid fun w1 => refSplit_any w1 so (by omega)
  have S3 := Lib.hid fun w1 => refSplit_any w1 st (by omega)
  have CH := Lib.hid fun w1 v0 v1 v2 g0 g1 g2 => refChunks_any w1 v0 v1 v2 (lns sb) (lns so) (lns st) g0 g1 g2
  have q1 : (cutL sb.data.toList).length = (lns sb).length := by simp
  have q2 : (cutL so.data.toList).length = (lns so).length := by simp
  have q3 : (cutL st.data.toList).length = (lns st).length := by simp
  have Q1 := Lib.hid q1
  have Q2 := Lib.hid q2
  have Q3 := Lib.hid q3
  have b1 := (Below.refl w.heap.size w).alloc (Nat.le_refl _) (.cells #[.slice none 0 0, .int .i64 0] 40)
  have K1 := Blk.new w 40 #[.slice none 0 0, .int .i64 0]
  have HK := Lib.hid hk
  clear h1 h2 h3 q1 q2 q3 hk
  go_enter Tryz.func63, Tryz.ntmps63
  go_wp2_with fail
  generalize hW1 : w.alloc (.cells #[.slice none 0 0, .int .i64 0] 40) = W1 at *
  clear hW1
  obtain ⟨Y, hY⟩ : ∃ Y, Y = w.heap.size := ⟨_, rfl⟩
  rw [← hY] at K1 ⊢
  have HY := Lib.hid hY
  clear hY
  refine (S1.out W1).mono ?_
  rintro e w1 ⟨v1, rfl, o1, d1⟩
  have t1 := Strs.of_own o1 Q1.out
  have b2 := below_trans b1 d1
  have K2 := K1.below d1 K1.lt
  clear o1 b1 K1 d1 S1
  go_wp2_with fail
  refine (S2.out w1).mono ?_
  rintro e w2 ⟨v2, rfl, o2, d2⟩
  have t2 := Strs.of_own o2 Q2.out
  have b3 := below_trans b2 d2
  have K3 := K2.below d2 K2.lt
  have t1' := t1.below d2
  clear o2 b2 K2 t1 d2 S2 Q1 Q2
  go_wp2_with fail
  refine (S3.out w2).mono ?_
  rintro e w3 ⟨v3, rfl, o3, d3⟩
  have t3 := Strs.of_own o3 Q3.out
  have b4 := below_trans b3 d3
  have K4 := K3.below d3 K3.lt
  have C3 := Lib.hid (CH.out w3 v1 v2 v3 (t1'.below d3) (t2.below d3) t3)
  clear o3 b3 K3 t1' t2 t3 d3 S3 CH Q3
  go_wp2_with fail
  refine C3.out.mono ?_
  rintro e w5 (⟨x1, x2, x3, _⟩ | ⟨k, g, _, rfl, hg, d5⟩)
  case inl => exact absurd ⟨x1, x2, x3⟩ HK.out
  have b5 := below_trans b4 d5
  have K5 := K4.below d5 K4.lt
  have d6 := (Below.refl w5.heap.size w5).alloc (Nat.le_refl _) (.cells #[.slice (some ⟨g, 0, none⟩) 1 1, .int .i64 4] 40)
  have K6 := K5.below d6 K5.lt
  have X6 := Blk.new w5 40 #[.slice (some ⟨g, 0, none⟩) 1 1, .int .i64 4]
  have B6 := Lib.hid (below_trans b5 d6)
  have ne : Y ≠ w5.heap.size := by have := K5.lt; omega
  have c0 := X6.cell 0
  have c1 := X6.cell 1
  have y0 := K6.cell 0
  have y1 := K6.cell 1
  have f0 := K6.frozen 0
  have f1 := K6.frozen 1
  have HKY := Lib.hid K6
  have hYw : Hid (w.heap.size ≤ Y) := Lib.hid (by rw [HY.out]; exact Nat.le_refl _)
  clear C3 b4 K4 d5 K5 b5 d6 K6 X6 hg
  go_upto_region 3 with fail
  generalize hW : w5.alloc (.cells #[.slice (some ⟨g, 0, none⟩) 1 1, .int .i64 4] 40) = W at *
  clear hW
  generalize w5.heap.size = X at *
  go_region
  go_wp2_with fail
  refine bodyPost_ret (results_tmp2_row (fn := Tryz.f63) rfl _ _ Y 40 #[.slice (some ⟨g, 0, none⟩) 1 1, .int .i64 4] (0, 0) rfl (by first | exact (HKY.out.set_ 0 _).set_ 1 _ | simpa using (HKY.out.set_ 0 (.slice (some ⟨g, 0, none⟩) 1 1)).set_ 1 (.int .i64 4)) Tryz.underlying40 (by kernel_rfl)) rfl ⟨⟨g, rfl⟩, ?_⟩
  have B9 := ((B6.out.setCell (p := ⟨Y, 0, none⟩) hYw.out (.slice (some ⟨g, 0, none⟩) 1 1)).setCell (p := ⟨Y, 1, none⟩) hYw.out (.int .i64 4))
  first | exact B9 | exact B9.drew
end Go.Proofs.YtapcnmnnichamaaGreatDoor.Mg
