/-
  rectolaw14.Few, rectolaw15.Few: whether trees and entries are few, and short.
  merge.Text: whose lines are too many.
  merge.Text at any three texts, as tmerge wants it; Merge of three trees, one of which may not be.
  tmerge: Merge of three trees, one of which may not be.
  rectolaw16.short: a yes or a no.
-/
import Derived.Test.YtapcnmnnichamaaDoorSRow
import Derived.Test.YtapcnmnnichamaaDoorRP
import Derived.Test.YtapcnmnnichamaaDoorVG
import Derived.Test.YtapcnmnnichamaaDoorKMem
import Derived.OwnWalk
import Derived.Test.YtapcnmnnichamaaDoorTD
import Derived.Test.YtapcnmnnichamaaDoorTC

namespace Go.Proofs.YtapcnmnnichamaaDoor
open Go.RowKit

def FewToF (l : List Fl) (w : World) (e : Ending) (w' : World) : Prop := ∃ b : Bool, e = .returned (.bool b) ∧ (b = true → l.length ≤ 80 ∧ ∀ x ∈ l, x.1.size ≤ 100 ∧ x.2.2.size ≤ 5000) ∧ ∃ q, w' = w.drewN q
set_option maxHeartbeats 4000000 in
theorem fewF_any (w : World) (v : Value) (l : List Fl) (h : Reads 3 cF w v l) : Calls Tryd.prog 5 #[v] w (FewToF l w) := by
  obtain ⟨A, c, rfl⟩ := h.form
  have hn := h.len
  have hnm : l.length ≤ 9223372036854775807 := by have := hn.2; unfold maxLen at this; omega
  have HO := Lib.hid h
  clear h hn
  by_cases hbig : 80 < l.length
  · have hb : (80 : Int) < (l.length : Int) := by omega
    go_enter Tryd.func5, Tryd.ntmps5
    go_wp2
    go_ret
    exact ⟨false, rfl, (fun h => by cases h), 0, rfl⟩
  · have hb : ¬ (80 : Int) < (l.length : Int) := by omega
    have HB := Lib.hid hbig
    go_enter Tryd.func5, Tryd.ntmps5
    go_wp2
    go_loopw [3] (fun s3 wr => ∃ k : Nat, k ≤ l.length ∧ s3 = .int .i64 k ∧ Hid (∀ x ∈ l.take k, x.1.size ≤ 100 ∧ x.2.2.size ≤ 5000) ∧ SameW wr w) (fun s3 _ => l.length - (intOf s3).toNat)
    case atStart => exact ⟨0, Nat.zero_le _, rfl, Lib.hid (fun x hx => by simp at hx), rfl⟩
    case round =>
      obtain ⟨k, hk, rfl, hp, hw⟩ := hrel
      unfold SameW at hw
      subst hw
      by_cases hlt : k < l.length
      · obtain ⟨x, hx⟩ : ∃ x, l[k]? = some x := ⟨_, List.getElem?_eq_getElem hlt⟩
        obtain ⟨ad, rfl, c0, c1, c2⟩ := Fils.at_ HO.out hx
        have HT := Lib.hid (take_snoc hx)
        obtain ⟨p, m, d⟩ := x
        have k0 : (0 : Int) ≤ (k : Int) := Int.natCast_nonneg _
        have k1 : (k : Int) < (l.length : Int) := by omega
        clear hx
        by_cases h1 : 100 < p.size
        · have h1' : (100 : Int) < (p.size : Int) := by omega
          go_wp2
          go_ret
          exact ⟨false, rfl, (fun h => by cases h), 0, rfl⟩
        · have h1' : ¬ (100 : Int) < (p.size : Int) := by omega
          by_cases h2 : 5000 < d.size
          · have h2' : (5000 : Int) < (d.size : Int) := by omega
            go_wp2
            go_ret
            exact ⟨false, rfl, (fun h => by cases h), 0, rfl⟩
          · have h2' : ¬ (5000 : Int) < (d.size : Int) := by omega
            have HP : Hid (∀ x ∈ l.take (k + 1), x.1.size ≤ 100 ∧ x.2.2.size ≤ 5000) := Lib.hid (by
              rw [HT.out]
              intro x hx
              rcases List.mem_append.1 hx with hx | hx
              · exact hp.out x hx
              · rw [List.mem_singleton.1 hx]; exact ⟨Nat.not_lt.1 h1, Nat.not_lt.1 h2⟩)
            go_wp2
            go_roundw
            case rel => exact ⟨k + 1, by omega, by go_num, HP, rfl⟩
            case measure => simp [intOf]; omega
      · obtain rfl : k = l.length := by omega
        have HP := Lib.hid (show ∀ x ∈ l, x.1.size ≤ 100 ∧ x.2.2.size ≤ 5000 by have := hp.out; rw [List.take_length] at this; exact this)
        go_wp2
        go_ret
        exact ⟨true, rfl, fun _ => ⟨Nat.not_lt.1 HB.out, HP.out⟩, 0, rfl⟩

end Go.Proofs.YtapcnmnnichamaaDoor

namespace Go.Proofs.YtapcnmnnichamaaDoor.Mg
open Go Go.RowKit

theorem Strs.form' {w : World} {v : Value} {ss : List ByteArray} (h : Strs w v ss) : ∃ A n c, v = .slice A n c ∧ n = ss.length := by
  obtain ⟨A, c, hv, _⟩ := h
  exact ⟨A, _, c, hv, rfl⟩
abbrev bLines : ByteArray := ⟨#[108, 105, 110, 101, 115]⟩
/-- Which text has too many lines. -/
def Over (n m k : Nat) : Prop := (k = 0 ∧ 256 < n) ∨ (k = 1 ∧ n ≤ 256 ∧ 256 < m)
/-- The refusal: its fault in a block of its own. -/
def FaultIs (k F : Nat) (w w' : World) : Prop := Blk w' F 59 #[.string bLines, .int .i64 (k : Int), .iface 57 (.int .i64 4)] ∧ Below w.heap.size w w'
abbrev theFault (F : Nat) : Value := .iface 56 (.pointer (some ⟨F, 0, none⟩))
def FaultTo (k : Nat) (w : World) (e : Ending) (w' : World) : Prop := ∃ F, e = .returned (theFault F) ∧ FaultIs k F w w'

set_option maxHeartbeats 1000000 in
theorem check_bad (b n c m d k : Nat) (A B : Option Addr) (hk : Over n m k) (w : World) (h0 : w.cell? ⟨b, 0, none⟩ = some (.slice A n c)) (h1 : w.cell? ⟨b, 1, none⟩ = some (.slice B m d)) :
    Calls Tryd.prog 71 #[.slice (some ⟨b, 0, none⟩) 2 2] w (FaultTo k w) := by
  rcases hk with ⟨rfl, hn⟩ | ⟨rfl, hn, hm⟩
  · go_enter Tryd.func71, Tryd.ntmps71
    go_wp2
    go_loop [7] (fun i => i = .int .i64 0) (fun i => 0)
    case atStart => rfl
    case round =>
      obtain rfl := hrel
      go_wp2
      go_ret
      exact ⟨w.heap.size, rfl, heap_alloc_new w _, (Below.refl _ _).alloc (Nat.le_refl _) _⟩
  · go_enter Tryd.func71, Tryd.ntmps71
    go_wp2
    go_loop [7] (fun i => ∃ k : Nat, k ≤ 1 ∧ i = .int .i64 k) (fun i => 2 - (intOf i).toNat)
    case atStart => exact ⟨0, by omega, rfl⟩
    case round =>
      obtain ⟨k, hk, rfl⟩ := hrel
      by_cases e0 : k = 0
      · subst e0
        go_wp2
        go_round
        case rel => exact ⟨1, by omega, rfl⟩
        case measure => simp [intOf]
      · obtain rfl : k = 1 := by omega
        go_wp2
        go_ret
        exact ⟨w.heap.size, rfl, heap_alloc_new w _, (Below.refl _ _).alloc (Nat.le_refl _) _⟩

/-- .. with another answer before it. -/
def FaultTo2 (v : Value) (k : Nat) (w : World) (e : Ending) (w' : World) : Prop := ∃ F, e = .returned (.tuple #[v, theFault F]) ∧ FaultIs k F w w'
set_option maxRecDepth 100000 in
set_option maxHeartbeats 1000000 in
theorem lines_bad (w : World) (A B : Option Addr) (n c m d k : Nat) (hk : Over n m k) : Calls Tryd.prog 54 #[.slice A n c, .slice B m d] w (FaultTo2 (.slice none 0 0) k w) := by
  have E1 := (Below.refl w.heap.size w).alloc (Nat.le_refl _) (.cells #[.slice A n c, .slice B m d] 27)
  have hh := heap_alloc_new w (.cells #[.slice A n c, .slice B m d] 27)
  have CK := Lib.hid (check_bad w.heap.size n c m d k A B hk (w.alloc (.cells #[.slice A n c, .slice B m d] 27)) (cell_of_row _ _ 0 _ 27 (0, 0) hh) (cell_of_row _ _ 1 _ 27 (0, 0) hh))
  clear hh hk
  go_enter Tryd.func54, Tryd.ntmps54
  go_wp2_with fail
  refine CK.out.mono ?_
  rintro e w' ⟨F, rfl, T, hb⟩
  have E2 := E1.trans (hb.mono (by simp))
  go_wp2
  go_ret2
  exact ⟨F, rfl, T, E2⟩
/-- Whose lines of three are too many. -/
def Over3 (n m r k : Nat) : Prop := Over n m k ∨ (n ≤ 256 ∧ m ≤ 256 ∧ Over n r k)
theorem over3_same {n m r k k' : Nat} (h : Over3 n m r k) (h' : Over3 n m r k') : k = k' := by unfold Over3 Over at h h'; omega
theorem over3_01 {n m r k : Nat} (h : Over3 n m r k) : k = 0 ∨ k = 1 := by unfold Over3 Over at h; omega

set_option maxRecDepth 100000 in
set_option maxHeartbeats 1000000 in
theorem chunks_bad1 (w : World) (A B C : Option Addr) (n c m d r f k : Nat) (hk : Over n m k) : Calls Tryd.prog 35 #[.slice A n c, .slice B m d, .slice C r f] w (FaultTo2 (.slice none 0 0) k w) := by
  have CK := Lib.hid (lines_bad w A B n c m d k hk)
  clear hk
  go_enter Tryd.func35, Tryd.ntmps35
  go_wp2_with fail
  refine CK.out.mono ?_
  rintro e w' ⟨F, rfl, T, hb⟩
  go_wp2
  go_ret2
  exact ⟨F, rfl, T, hb⟩
set_option maxRecDepth 100000 in
set_option maxHeartbeats 1000000 in
theorem chunks_bad2 (w : World) (A B C : Option Addr) (c d f k : Nat) (xs ys zs : List ByteArray) (h0 : Strs w (.slice A xs.length c) xs) (h1 : Strs w (.slice B ys.length d) ys) (hx : ∀ s ∈ xs, s.size ≤ maxLen) (hy : ∀ s ∈ ys, s.size ≤ maxLen)
    (lx : xs.length ≤ 256) (ly : ys.length ≤ 256) (hk : Over xs.length zs.length k) : Calls Tryd.prog 35 #[.slice A xs.length c, .slice B ys.length d, .slice C zs.length f] w (FaultTo2 (.slice none 0 0) k w) := by
  have L1 := Lib.hid (lines_good w _ _ xs ys h0 h1 hx hy lx ly)
  have CK := Lib.hid fun W => lines_bad W A C xs.length c zs.length f k hk
  clear h0 h1 hx hy hk
  go_enter Tryd.func35, Tryd.ntmps35
  go_wp2_with fail
  refine L1.out.mono ?_
  rintro e w1 ⟨vE, rfl, o1, b1⟩
  clear o1
  go_wp2_with fail
  refine (CK.out w1).mono ?_
  rintro e w' ⟨F, rfl, T, hb⟩
  have B2 := Lib.hid (b1.trans (hb.mono b1.size))
  clear b1 hb
  go_wp2
  go_ret2
  exact ⟨F, rfl, T, B2.out⟩
theorem chunks_bad (w : World) (A B C : Option Addr) (c d f k : Nat) (xs ys zs : List ByteArray) (h0 : Strs w (.slice A xs.length c) xs) (h1 : Strs w (.slice B ys.length d) ys) (hx : ∀ s ∈ xs, s.size ≤ maxLen) (hy : ∀ s ∈ ys, s.size ≤ maxLen)
    (hk : Over3 xs.length ys.length zs.length k) : Calls Tryd.prog 35 #[.slice A xs.length c, .slice B ys.length d, .slice C zs.length f] w (FaultTo2 (.slice none 0 0) k w) := by
  rcases hk with hk | ⟨lx, ly, hk⟩
  · exact chunks_bad1 w A B C _ c _ d _ f k hk
  · exact chunks_bad2 w A B C c d f k xs ys zs h0 h1 hx hy lx ly hk
def BadTo (w : World) (e : Ending) (w' : World) : Prop := (∃ F, e = .returned (.tuple #[.string ⟨#[]⟩, .int .i64 0, theFault F])) ∧ Below w.heap.size w w'
theorem over3_of {n m r : Nat} (h : ¬ (n ≤ 256 ∧ m ≤ 256 ∧ r ≤ 256)) : ∃ k, Over3 n m r k := by
  unfold Over3 Over
  by_cases h1 : 256 < n
  · exact ⟨0, .inl (.inl ⟨rfl, h1⟩)⟩
  by_cases h2 : 256 < m
  · exact ⟨1, .inl (.inr ⟨rfl, by omega, h2⟩)⟩
  · exact ⟨1, .inr ⟨by omega, by omega, .inr ⟨rfl, by omega, by omega⟩⟩⟩
attribute [-go_sem] run_string_add_if
set_option maxRecDepth 100000 in
set_option maxHeartbeats 2000000 in
theorem text_bad (w : World) (sb so st sa sn : ByteArray) (h1 : sb.size ≤ 20000) (h2 : so.size ≤ 20000) (h3 : st.size ≤ 20000) (k : Nat) (hk : Over3 (lns sb).length (lns so).length (lns st).length k) :
    Calls Tryd.prog 27 #[.string sb, .string so, .string st, .string sa, .string sn] w (BadTo w) := by
  have z1 : ∀ s ∈ lns sb, s.size ≤ maxLen := fun s hs => by have := mem_cat hs; rw [lns_cat, size_data] at this; unfold maxLen; omega
  have z2 : ∀ s ∈ lns so, s.size ≤ maxLen := fun s hs => by have := mem_cat hs; rw [lns_cat, size_data] at this; unfold maxLen; omega
  have S1 := Lib.hid (split_any w sb (by omega))
  have S2 := Lib.hid fun w1 => split_any w1 so (by omega)
  have S3 := Lib.hid fun w1 => split_any w1 st (by omega)
  have CH := Lib.hid fun w1 A B C c d f g0 g1 => chunks_bad w1 A B C c d f k (lns sb) (lns so) (lns st) g0 g1 z1 z2 hk
  have q1 : (cutL sb.data.toList).length = (lns sb).length := by simp
  have q2 : (cutL so.data.toList).length = (lns so).length := by simp
  have q3 : (cutL st.data.toList).length = (lns st).length := by simp
  have Q1 := Lib.hid q1
  have Q2 := Lib.hid q2
  have Q3 := Lib.hid q3
  clear z1 z2 h1 h2 h3 q1 q2 q3 hk
  go_enter Tryd.func27, Tryd.ntmps27
  go_wp2_with fail
  refine S1.out.mono ?_
  rintro e w1 ⟨v1, rfl, o1, b1⟩
  have t1 := Strs.of_own o1 Q1.out
  go_wp2_with fail
  refine (S2.out w1).mono ?_
  rintro e w2 ⟨v2, rfl, o2, d2⟩
  have t2 := Strs.of_own o2 Q2.out
  have b2 := below_trans b1 d2
  have t1' := t1.below d2
  clear o1 o2 b1 S1 S2 t1 Q1 Q2
  go_wp2_with fail
  refine (S3.out w2).mono ?_
  rintro e w3 ⟨v3, rfl, o3, d3⟩
  have t3 := Strs.of_own o3 Q3.out
  have b3 := below_trans b2 d3
  have t1'' := t1'.below d3
  have t2' := t2.below d3
  obtain ⟨A1, n1, c1, rfl, e1⟩ := t1''.form'
  obtain ⟨A2, n2, c2, rfl, e2⟩ := t2'.form'
  obtain ⟨A3, n3, c3, rfl, e3⟩ := t3.form'
  have C1 := Lib.hid (show Calls Tryd.prog 35 #[.slice A1 n1 c1, .slice A2 n2 c2, .slice A3 n3 c3] w3 (FaultTo2 (.slice none 0 0) k w3) from by
    have h := CH.out w3 A1 A2 A3 c1 c2 c3 (by rw [← e1]; exact t1'') (by rw [← e2]; exact t2')
    rw [← e1, ← e2, ← e3] at h
    exact h)
  have BB := Lib.hid b3
  clear o3 b2 b3 S3 t1' t1'' t2 t2' t3 d2 d3 CH Q3 e1 e2 e3
  go_wp2_with fail
  refine C1.out.mono ?_
  rintro e w4 ⟨F, rfl, _, b4⟩
  have B4 := Lib.hid (below_trans BB.out b4)
  clear b4 C1
  go_wp2
  go_ret3
  exact ⟨⟨F, rfl⟩, B4.out⟩
end Go.Proofs.YtapcnmnnichamaaDoor.Mg

namespace Go.Proofs.YtapcnmnnichamaaDoor
open Go Go.RowKit

/-- What merge.Text makes of three texts: nothing, where one has too many lines. -/
def txV (b y z a n : ByteArray) : TxO := if (Mg.lns b).length ≤ 256 ∧ (Mg.lns y).length ≤ 256 ∧ (Mg.lns z).length ≤ 256 then some (txG b y z a n) else none
theorem text_says (b y z a n : ByteArray) (h1 : b.size ≤ 20000) (h2 : y.size ≤ 20000) (h3 : z.size ≤ 20000) (h4 : a.size ≤ 1000) (h5 : n.size ≤ 1000) (W : World) : TextSays (txV b y z a n) b y z a n W := by
  unfold txV
  by_cases h : (Mg.lns b).length ≤ 256 ∧ (Mg.lns y).length ≤ 256 ∧ (Mg.lns z).length ≤ 256
  · rw [if_pos h]
    exact text_good b y z a n h1 h2 h3 h4 h5 h.1 h.2.1 h.2.2 W
  · rw [if_neg h]
    obtain ⟨k, hk⟩ := Mg.over3_of h
    exact (Mg.text_bad W b y z a n h1 h2 h3 k hk).mono fun e w' ⟨⟨F, he⟩, hb⟩ => ⟨⟨_, he⟩, hb⟩
theorem txV_bound (b y z a n : ByteArray) (h1 : b.size ≤ 20000) (h2 : y.size ≤ 20000) (h3 : z.size ≤ 20000) (h4 : a.size ≤ 1000) (h5 : n.size ≤ 1000) (s : ByteArray) (k : Nat) (h : txV b y z a n = some (s, k)) : k ≤ 1000000 ∧ s.size ≤ 1000000000 := by
  unfold txV at h
  split at h
  · rename_i hl
    obtain e := Option.some.inj h
    have hk : (txG b y z a n).2 ≤ 600 := by
      have h1 := Mg.clashes_le (Mg.allC (Mg.lns b) (Mg.lns y) (Mg.lns z))
      have h2 := Mg.chunks_len (Mg.pls (Mg.ed (Mg.lns b) (Mg.lns y)) 0) (Mg.pls (Mg.ed (Mg.lns b) (Mg.lns z)) 0) (Mg.lns b) (Mg.lns y) (Mg.lns z) ((Mg.lns b).length + 1) 0 0 0
      show Mg.clashes _ ≤ 600
      unfold Mg.allC at h1 ⊢
      omega
    have hs : (txG b y z a n).1.size ≤ 30000000 := by
      show (Mg.mk _).size ≤ _
      have e1 : (Mg.mk (Mg.txtAll a.data.toList n.data.toList (Mg.allC (Mg.lns b) (Mg.lns y) (Mg.lns z)))).size = (Mg.txtAll a.data.toList n.data.toList (Mg.allC (Mg.lns b) (Mg.lns y) (Mg.lns z))).length := by
        unfold Mg.mk ByteArray.size
        simp
      rw [e1]
      have hc : ∀ c ∈ Mg.allC (Mg.lns b) (Mg.lns y) (Mg.lns z), (Mg.txtC a.data.toList n.data.toList c).length ≤ 50000 := fun c hc => by
        obtain ⟨_, a2, a3, a4⟩ := Mg.piece_le (Mg.lns b) (Mg.lns y) (Mg.lns z) (M := 20000) (by rw [Mg.lns_cat, Mg.size_data]; exact h1) (by rw [Mg.lns_cat, Mg.size_data]; exact h2) (by rw [Mg.lns_cat, Mg.size_data]; exact h3) hc
        exact Mg.txtC_le (by rw [Mg.size_data]; exact h4) (by rw [Mg.size_data]; exact h5) a2 a3 a4
      have hl2 := Mg.flatMap_le hc
      have h2 := Mg.chunks_len (Mg.pls (Mg.ed (Mg.lns b) (Mg.lns y)) 0) (Mg.pls (Mg.ed (Mg.lns b) (Mg.lns z)) 0) (Mg.lns b) (Mg.lns y) (Mg.lns z) ((Mg.lns b).length + 1) 0 0 0
      have h3 : (Mg.allC (Mg.lns b) (Mg.lns y) (Mg.lns z)).length ≤ 600 := by unfold Mg.allC; omega
      show ((Mg.allC (Mg.lns b) (Mg.lns y) (Mg.lns z)).flatMap (Mg.txtC a.data.toList n.data.toList)).length ≤ _
      exact Nat.le_trans hl2 (Nat.le_trans (Nat.mul_le_mul_right 50000 h3) (Nat.le_of_eq rfl))
    rw [e] at hk hs
    dsimp only at hk hs
    exact ⟨by omega, by omega⟩
  · cases h
end Go.Proofs.YtapcnmnnichamaaDoor

namespace Go.Proofs.YtapcnmnnichamaaDoor
open Go Go.RowKit

/-- What is wrong with the first tree that may not be. -/
def chkM (rs : List (Value × List Fl)) : Option (Nat × Int) := rs.findSome? fun r => chkF r.2
def BadTo (i : Nat) (k : Int) (w : World) (e : Ending) (w' : World) : Prop :=
  ∃ F, e = .returned (.tuple #[.agg #[.slice none 0 0, .slice none 0 0, .slice none 0 0], .iface 56 (.pointer (some ⟨F, 0, none⟩))]) ∧ w.heap.size ≤ F ∧ FaultOf F bFile i k w' ∧ Below w.heap.size w w'
theorem chkM_at {rs : List (Value × List Fl)} {i k : Nat} {e : Int} {r : Value × List Fl} (hm : chkM rs = some (i, e)) (hb : ∀ (j : Nat) (q : Value × List Fl), j < k → rs[j]? = some q → chkF q.2 = none) (hk : rs[k]? = some r) (h : chkF r.2 ≠ none) : chkF r.2 = some (i, e) := by
  induction rs generalizing k with
  | nil => simp at hk
  | cons x rs ih =>
    unfold chkM at hm
    rw [List.findSome?_cons] at hm
    cases k with
    | zero =>
      simp at hk
      subst hk
      cases hx : chkF x.2 with
      | none => exact absurd hx h
      | some y => rw [hx] at hm; exact hm
    | succ k =>
      have h0 := hb 0 x (by omega) rfl
      rw [h0] at hm
      exact ih hm (k := k) (fun j q hj hq => hb (j + 1) q (Nat.succ_lt_succ hj) (by simpa using hq)) (by simpa using hk)
theorem chkM_none {rs : List (Value × List Fl)} (h : ∀ (j : Nat) (q : Value × List Fl), rs[j]? = some q → chkF q.2 = none) : chkM rs = none := by
  unfold chkM
  rw [List.findSome?_eq_none_iff]
  intro x hx
  obtain ⟨j, hj⟩ := List.getElem?_of_mem hx
  exact h j x hj
set_option maxRecDepth 100000 in
set_option maxHeartbeats 8000000 in
theorem merge_bad (w : World) (vb vo vt : Value) (b o t : List Fl) (a n : ByteArray) (hb : Reads 3 cF w vb b) (ho : Reads 3 cF w vo o) (ht : Reads 3 cF w vt t) (sb : SizedD b) (so : SizedD o) (st : SizedD t) (lb : b.length ≤ 100000) (lo : o.length ≤ 100000) (lt : t.length ≤ 100000)
    (i : Nat) (ee : Int) (hm : chkM [(vb, b), (vo, o), (vt, t)] = some (i, ee)) :
    Calls Tryd.prog 7 #[vb, vo, vt, .string a, .string n] w (BadTo i ee w) := by
  obtain ⟨Ab, cb, rfl⟩ := hb.form
  obtain ⟨Ao, co, rfl⟩ := ho.form
  obtain ⟨At, ct, rfl⟩ := ht.form
  have G0 := Lib.hid (Blk.new w 29 #[.slice none 0 0, .slice none 0 0, .slice none 0 0])
  have TR := Lib.hid (trees3 (w.alloc (.cells #[.slice none 0 0, .slice none 0 0, .slice none 0 0] 29)) _ _ _ b o t (hb.alloc _) (ho.alloc _) (ht.alloc _))
  have B1 := Lib.hid ((Below.refl w.heap.size w).alloc (Nat.le_refl _) (.cells #[.slice none 0 0, .slice none 0 0, .slice none 0 0] 29))
  have B2 := Lib.hid (B1.out.alloc B1.out.size (.cells #[.slice Ab b.length cb, .slice Ao o.length co, .slice At t.length ct] 23))
  have G2 := Lib.hid (G0.out.alloc (.cells #[.slice Ab b.length cb, .slice Ao o.length co, .slice At t.length ct] 23))
  obtain ⟨rs, hrs⟩ : ∃ rs, rs = [(Value.slice Ab b.length cb, b), (Value.slice Ao o.length co, o), (Value.slice At t.length ct, t)] := ⟨_, rfl⟩
  have RR := Lib.hid (show ∀ (i : Nat) (r : Value × List Fl), rs[i]? = some r → SizedD r.2 ∧ r.2.length ≤ 100000 from fun i r hr => by
    have : r ∈ rs := List.mem_of_getElem? hr
    rw [hrs] at this
    simp at this
    rcases this with rfl | rfl | rfl
    · exact ⟨sb, lb⟩
    · exact ⟨so, lo⟩
    · exact ⟨st, lt⟩)
  have HL := Lib.hid (show rs.length = 3 by rw [hrs]; rfl)
  rw [← hrs] at TR hm
  have HM := Lib.hid hm
  clear hrs hb ho ht sb so st lb lo lt hm
  go_enter Tryd.func7, Tryd.ntmps7
  go_wp2_with fail
  obtain ⟨g0, hg0⟩ : ∃ g, g = w.heap.size := ⟨_, rfl⟩
  have hsz : (w.alloc (.cells #[.slice none 0 0, .slice none 0 0, .slice none 0 0] 29)).heap.size = g0 + 1 := by rw [hg0]; simp
  rw [hsz] at TR
  rw [← hg0] at G2 ⊢
  generalize hW1 : (w.alloc (.cells #[.slice none 0 0, .slice none 0 0, .slice none 0 0] 29)).alloc (.cells #[.slice Ab b.length cb, .slice Ao o.length co, .slice At t.length ct] 23) = w1 at *
  have HG0 := Lib.hid (show g0 = w.heap.size ∧ g0 < w1.heap.size from ⟨hg0, G2.out.lt⟩)
  clear hg0 hW1 hsz G0 B1
  go_loopw [27] (fun s27 wr => ∃ k : Nat, k ≤ 3 ∧ s27 = .int .i64 k ∧ Hid (Below w1.heap.size w1 wr) ∧ Hid (∀ (j : Nat) (q : Value × List Fl), j < k → rs[j]? = some q → chkF q.2 = none)) (fun s27 _ => 3 - (intOf s27).toNat)
  case atStart => exact ⟨0, Nat.zero_le _, rfl, Lib.hid (Below.refl _ _), Lib.hid fun j q hj => absurd hj (Nat.not_lt_zero _)⟩
  case round =>
    obtain ⟨k, hk, rfl, HB, HI⟩ := hrel
    have k0 : (0 : Int) ≤ (k : Int) := Int.natCast_nonneg _
    by_cases hlt : k < 3
    · obtain ⟨r, hr⟩ : ∃ r, rs[k]? = some r := ⟨_, List.getElem?_eq_getElem (by rw [HL.out]; exact hlt)⟩
      have c0 := ((TR.out.below HB.out) k r hr).1
      have hrd := ((TR.out.below HB.out) k r hr).2
      have hq := RR.out k r hr
      have HR := Lib.hid hr
      obtain ⟨rv, l⟩ := r
      dsimp only at hrd hq c0
      rw [add_zero_off] at c0
      have CK := Lib.hid (checkF_any wr rv l hrd hq.1 hq.2)
      obtain ⟨A, c, rfl⟩ := hrd.form
      have hk3 : (k : Int) < 3 := by omega
      clear hr hrd hq
      go_wp2_with fail
      refine CK.out.mono ?_
      rintro e w2 (⟨hn, rfl, b2⟩ | ⟨i2, k2, Fb, hn, rfl, hF, hFa, b2⟩)
      · have B3 := Lib.hid (HB.out.trans (b2.mono HB.out.size))
        have HI2 := Lib.hid (show ∀ (j : Nat) (q : Value × List Fl), j < k + 1 → rs[j]? = some q → chkF q.2 = none from fun j q hj hq => by
          rcases Nat.lt_or_ge j k with h1 | h1
          · exact HI.out j q h1 hq
          · obtain rfl : j = k := by omega
            rw [HR.out] at hq
            cases hq
            exact hn)
        clear b2 CK c0 hn
        go_wp2
        go_roundw
        case rel => exact ⟨k + 1, by omega, by go_num, B3, HI2⟩
        case measure => simp [intOf]; omega
      · have hie := chkM_at HM.out HI.out HR.out (by dsimp only; rw [hn]; simp)
        dsimp only at hie
        rw [hn] at hie
        obtain ⟨rfl, rfl⟩ : i2 = i ∧ k2 = ee := by
          have := Option.some.inj hie
          exact ⟨congrArg Prod.fst this, congrArg Prod.snd this⟩
        have G3 := Lib.hid ((G2.out.below HB.out G2.out.lt).below b2 (G2.out.below HB.out G2.out.lt).lt)
        have B3 := Lib.hid ((B2.out.trans (HB.out.mono B2.out.size)).trans (b2.mono (Nat.le_trans B2.out.size HB.out.size)))
        have HN := Lib.hid (show wr.heap.size ≤ Fb ∧ FaultOf Fb bFile i2 k2 w2 ∧ g0 < wr.heap.size ∧ w.heap.size ≤ wr.heap.size from ⟨hF, hFa, (G2.out.below HB.out G2.out.lt).lt, Nat.le_trans B2.out.size HB.out.size⟩)
        have HW := Lib.hid (show w.heap.size ≤ g0 by rw [HG0.out.1]; exact Nat.le_refl _)
        clear b2 hn hF hFa hie c0 CK
        have y0 := G3.out.cell 0
        have y1 := G3.out.cell 1
        have y2 := G3.out.cell 2
        have q0 := G3.out.frozen 0
        have q1 := G3.out.frozen 1
        have q2 := G3.out.frozen 2
        go_wp2
        exact bodyPost_ret (results_row_tmp (fn := Tryd.f7) rfl _ _ g0 29 #[.slice none 0 0, .slice none 0 0, .slice none 0 0] (0, 0) _ rfl (row3r G3.out rfl _ _ _) Tryd.underlying29 rfl resSize) rfl
          ⟨Fb, rfl, Nat.le_trans HN.out.2.2.2 HN.out.1, (heap3 w2 (by have := HN.out.1; have := HN.out.2.2.1; omega) _ _ _).trans HN.out.2.1, below3 B3.out HW.out _ _ _⟩
    · obtain rfl : k = 3 := by omega
      have := chkM_none (rs := rs) fun j q hq => HI.out j q (by have := (List.getElem?_eq_some_iff.1 hq).1; rw [HL.out] at this; exact this) hq
      rw [HM.out] at this
      cases this
end Go.Proofs.YtapcnmnnichamaaDoor

namespace Go.Proofs.YtapcnmnnichamaaDoor
open Go Go.RowKit

def YesNo (w : World) (e : Ending) (w' : World) : Prop := ∃ b : Bool, e = .returned (.bool b) ∧ w' = w
set_option maxHeartbeats 4000000 in
theorem short_any (w : World) (v : Value) (l : List Fl) (h : Reads 3 cF w v l) : Calls Tryd.prog 6 #[v] w (YesNo w) := by
  obtain ⟨A, c, rfl⟩ := h.form
  have hn := h.len
  have hnm : l.length ≤ 9223372036854775807 := by have := hn.2; unfold maxLen at this; omega
  have HO := Lib.hid h
  clear h hn
  by_cases hbig : 20 < l.length
  · have hb : (20 : Int) < (l.length : Int) := by omega
    by_cases h1 : (64 : Int) < (l.length : Int)
    · go_enter Tryd.func6, Tryd.ntmps6
      go_wp2
      go_ret
      exact ⟨_, rfl, rfl⟩
    · go_enter Tryd.func6, Tryd.ntmps6
      go_wp2
      go_ret
      exact ⟨_, rfl, rfl⟩
  · have hb : ¬ (20 : Int) < (l.length : Int) := by omega
    go_enter Tryd.func6, Tryd.ntmps6
    go_wp2
    go_loopw [3, 4] (fun s3 s4 wr => ∃ (k : Nat) (m : Int), k ≤ l.length ∧ s4 = .int .i64 k ∧ s3 = .int .i64 m ∧ SameW wr w) (fun _ s4 _ => l.length - (intOf s4).toNat)
    case atStart => exact ⟨0, 0, Nat.zero_le _, rfl, rfl, rfl⟩
    case round =>
      obtain ⟨k, m, hk, rfl, rfl, hw⟩ := hrel
      unfold SameW at hw
      subst hw
      by_cases hlt : k < l.length
      · obtain ⟨x, hx⟩ : ∃ x, l[k]? = some x := ⟨_, List.getElem?_eq_getElem hlt⟩
        obtain ⟨ad, rfl, c0, c1, c2⟩ := Fils.at_ HO.out hx
        obtain ⟨p, mo, d⟩ := x
        have k0 : (0 : Int) ≤ (k : Int) := Int.natCast_nonneg _
        have k1 : (k : Int) < (l.length : Int) := by omega
        clear hx
        by_cases h1 : (300 : Int) < (d.size : Int)
        · by_cases h2 : (d.size : Int) ≤ 4096
          · go_wp2
            go_ret
            exact ⟨_, rfl, rfl⟩
          · go_wp2
            go_roundw
            case rel => exact ⟨k + 1, _, by omega, by go_num, rfl, rfl⟩
            case measure => simp [intOf]; omega
        · go_wp2
          go_roundw
          case rel => exact ⟨k + 1, _, by omega, by go_num, rfl, rfl⟩
          case measure => simp [intOf]; omega
      · obtain rfl : k = l.length := by omega
        by_cases h1 : m ≤ 3000
        · go_wp2
          go_ret
          exact ⟨_, rfl, rfl⟩
        · go_wp2
          go_ret
          exact ⟨_, rfl, rfl⟩
end Go.Proofs.YtapcnmnnichamaaDoor
