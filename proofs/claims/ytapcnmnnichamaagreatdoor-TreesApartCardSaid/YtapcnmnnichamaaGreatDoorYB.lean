/-
  merge.Text: whose lines are too many.
  The document's word of too many lines.
-/
import Derived.Test.YtapcnmnnichamaaGreatDoorVG
import Derived.Test.YtapcnmnnichamaaGreatDoorKMem
import Derived.OwnWalk

namespace Go.Proofs.YtapcnmnnichamaaGreatDoor.Mg
open Go Go.RowKit

theorem Strs.form' {w : World} {v : Value} {ss : List ByteArray} (h : Strs w v ss) : ∃ A n c, v = .slice A n c ∧ n = ss.length := by
  obtain ⟨A, c, hv, _⟩ := h
  exact ⟨A, _, c, hv, rfl⟩
abbrev bLines : ByteArray := ⟨#[108, 105, 110, 101, 115]⟩
/-- Which text has too many lines. -/
def Over (n m k : Nat) : Prop := (k = 0 ∧ 256 < n) ∨ (k = 1 ∧ n ≤ 256 ∧ 256 < m)
/-- The refusal: its fault in a block of its own. -/
def FaultIs (k F : Nat) (w w' : World) : Prop := Blk w' F 80 #[.string bLines, .int .i64 (k : Int), .iface 75 (.int .i64 4)] ∧ Below w.heap.size w w'
abbrev theFault (F : Nat) : Value := .iface 76 (.pointer (some ⟨F, 0, none⟩))
def FaultTo (k : Nat) (w : World) (e : Ending) (w' : World) : Prop := ∃ F, e = .returned (theFault F) ∧ FaultIs k F w w'

set_option maxHeartbeats 1000000 in
theorem check_bad (b n c m d k : Nat) (A B : Option Addr) (hk : Over n m k) (w : World) (h0 : w.cell? ⟨b, 0, none⟩ = some (.slice A n c)) (h1 : w.cell? ⟨b, 1, none⟩ = some (.slice B m d)) :
    Calls Tryz.prog 125 #[.slice (some ⟨b, 0, none⟩) 2 2] w (FaultTo k w) := by
  rcases hk with ⟨rfl, hn⟩ | ⟨rfl, hn, hm⟩
  · go_enter Tryz.func125, Tryz.ntmps125
    go_wp2
    go_loop [7] (fun i => i = .int .i64 0) (fun i => 0)
    case atStart => rfl
    case round =>
      obtain rfl := hrel
      go_wp2
      go_ret
      exact ⟨w.heap.size, rfl, heap_alloc_new w _, (Below.refl _ _).alloc (Nat.le_refl _) _⟩
  · go_enter Tryz.func125, Tryz.ntmps125
    go_wp2
    go_loop [7] (fun i => ∃ k : Nat, k ≤ 1 ∧ i = .int .i64 k) (fun i => 2 - (intOf i).toNat)
    case atStart => exact ⟨0, by omega, rfl⟩
    case round =>
      obtain ⟨k, hk, rfl⟩ := hrel
      by_cases e0 : k = 0
      · subst e0
        go_wp2
        go_round
        case rel => exact ⟨1, by omega, rfl⟩
        case measure => simp [intOf]
      · obtain rfl : k = 1 := by omega
        go_wp2
        go_ret
        exact ⟨w.heap.size, rfl, heap_alloc_new w _, (Below.refl _ _).alloc (Nat.le_refl _) _⟩

/-- .. with another answer before it. -/
def FaultTo2 (v : Value) (k : Nat) (w : World) (e : Ending) (w' : World) : Prop := ∃ F, e = .returned (.tuple #[v, theFault F]) ∧ FaultIs k F w w'
set_option maxRecDepth 100000 in
set_option maxHeartbeats 1000000 in
theorem lines_bad (w : World) (A B : Option Addr) (n c m d k : Nat) (hk : Over n m k) : Calls Tryz.prog 103 #[.slice A n c, .slice B m d] w (FaultTo2 (.slice none 0 0) k w) := by
  have E1 := (Below.refl w.heap.size w).alloc (Nat.le_refl _) (.cells #[.slice A n c, .slice B m d] 27)
  have hh := heap_alloc_new w (.cells #[.slice A n c, .slice B m d] 27)
  have CK := Lib.hid (check_bad w.heap.size n c m d k A B hk (w.alloc (.cells #[.slice A n c, .slice B m d] 27)) (cell_of_row _ _ 0 _ 27 (0, 0) hh) (cell_of_row _ _ 1 _ 27 (0, 0) hh))
  clear hh hk
  go_enter Tryz.func103, Tryz.ntmps103
  go_wp2_with fail
  refine CK.out.mono ?_
  rintro e w' ⟨F, rfl, T, hb⟩
  have E2 := E1.trans (hb.mono (by simp))
  go_wp2
  go_ret2
  exact ⟨F, rfl, T, E2⟩
/-- Whose lines of three are too many. -/
def Over3 (n m r k : Nat) : Prop := Over n m k ∨ (n ≤ 256 ∧ m ≤ 256 ∧ Over n r k)
theorem over3_same {n m r k k' : Nat} (h : Over3 n m r k) (h' : Over3 n m r k') : k = k' := by unfold Over3 Over at h h'; omega
theorem over3_01 {n m r k : Nat} (h : Over3 n m r k) : k = 0 ∨ k = 1 := by unfold Over3 Over at h; omega

set_option maxRecDepth 100000 in
set_option maxHeartbeats 1000000 in
theorem chunks_bad1 (w : World) (A B C : Option Addr) (n c m d r f k : Nat) (hk : Over n m k) : Calls Tryz.prog 76 #[.slice A n c, .slice B m d, .slice C r f] w (FaultTo2 (.slice none 0 0) k w) := by
  have CK := Lib.hid (lines_bad w A B n c m d k hk)
  clear hk
  go_enter Tryz.func76, Tryz.ntmps76
  go_wp2_with fail
  refine CK.out.mono ?_
  rintro e w' ⟨F, rfl, T, hb⟩
  go_wp2
  go_ret2
  exact ⟨F, rfl, T, hb⟩
set_option maxRecDepth 100000 in
set_option maxHeartbeats 1000000 in
theorem chunks_bad2 (w : World) (A B C : Option Addr) (c d f k : Nat) (xs ys zs : List ByteArray) (h0 : Strs w (.slice A xs.length c) xs) (h1 : Strs w (.slice B ys.length d) ys) (hx : ∀ s ∈ xs, s.size ≤ maxLen) (hy : ∀ s ∈ ys, s.size ≤ maxLen)
    (lx : xs.length ≤ 256) (ly : ys.length ≤ 256) (hk : Over xs.length zs.length k) : Calls Tryz.prog 76 #[.slice A xs.length c, .slice B ys.length d, .slice C zs.length f] w (FaultTo2 (.slice none 0 0) k w) := by
  have L1 := Lib.hid (lines_good w _ _ xs ys h0 h1 hx hy lx ly)
  have CK := Lib.hid fun W => lines_bad W A C xs.length c zs.length f k hk
  clear h0 h1 hx hy hk
  go_enter Tryz.func76, Tryz.ntmps76
  go_wp2_with fail
  refine L1.out.mono ?_
  rintro e w1 ⟨vE, rfl, o1, b1⟩
  clear o1
  go_wp2_with fail
  refine (CK.out w1).mono ?_
  rintro e w' ⟨F, rfl, T, hb⟩
  have B2 := Lib.hid (b1.trans (hb.mono b1.size))
  clear b1 hb
  go_wp2
  go_ret2
  exact ⟨F, rfl, T, B2.out⟩
theorem chunks_bad (w : World) (A B C : Option Addr) (c d f k : Nat) (xs ys zs : List ByteArray) (h0 : Strs w (.slice A xs.length c) xs) (h1 : Strs w (.slice B ys.length d) ys) (hx : ∀ s ∈ xs, s.size ≤ maxLen) (hy : ∀ s ∈ ys, s.size ≤ maxLen)
    (hk : Over3 xs.length ys.length zs.length k) : Calls Tryz.prog 76 #[.slice A xs.length c, .slice B ys.length d, .slice C zs.length f] w (FaultTo2 (.slice none 0 0) k w) := by
  rcases hk with hk | ⟨lx, ly, hk⟩
  · exact chunks_bad1 w A B C _ c _ d _ f k hk
  · exact chunks_bad2 w A B C c d f k xs ys zs h0 h1 hx hy lx ly hk
def BadTo (w : World) (e : Ending) (w' : World) : Prop := (∃ F, e = .returned (.tuple #[.string ⟨#[]⟩, .int .i64 0, theFault F])) ∧ Below w.heap.size w w'
theorem over3_of {n m r : Nat} (h : ¬ (n ≤ 256 ∧ m ≤ 256 ∧ r ≤ 256)) : ∃ k, Over3 n m r k := by
  unfold Over3 Over
  by_cases h1 : 256 < n
  · exact ⟨0, .inl (.inl ⟨rfl, h1⟩)⟩
  by_cases h2 : 256 < m
  · exact ⟨1, .inl (.inr ⟨rfl, by omega, h2⟩)⟩
  · exact ⟨1, .inr ⟨by omega, by omega, .inr ⟨rfl, by omega, by omega⟩⟩⟩
attribute [-go_sem] run_string_add_if
set_option maxRecDepth 100000 in
set_option maxHeartbeats 2000000 in
theorem text_bad (w : World) (sb so st sa sn : ByteArray) (h1 : sb.size ≤ 20000) (h2 : so.size ≤ 20000) (h3 : st.size ≤ 20000) (k : Nat) (hk : Over3 (lns sb).length (lns so).length (lns st).length k) :
    Calls Tryz.prog 62 #[.string sb, .string so, .string st, .string sa, .string sn] w (BadTo w) := by
  have z1 : ∀ s ∈ lns sb, s.size ≤ maxLen := fun s hs => by have := mem_cat hs; rw [lns_cat, size_data] at this; unfold maxLen; omega
  have z2 : ∀ s ∈ lns so, s.size ≤ maxLen := fun s hs => by have := mem_cat hs; rw [lns_cat, size_data] at this; unfold maxLen; omega
  have S1 := Lib.hid (split_any w sb (by omega))
  have S2 := Lib.hid fun w1 => split_any w1 so (by omega)
  have S3 := Lib.hid fun w1 => split_any w1 st (by omega)
  have CH := Lib.hid fun w1 A B C c d f g0 g1 => chunks_bad w1 A B C c d f k (lns sb) (lns so) (lns st) g0 g1 z1 z2 hk
  have q1 : (cutL sb.data.toList).length = (lns sb).length := by simp
  have q2 : (cutL so.data.toList).length = (lns so).length := by simp
  have q3 : (cutL st.data.toList).length = (lns st).length := by simp
  have Q1 := Lib.hid q1
  have Q2 := Lib.hid q2
  have Q3 := Lib.hid q3
  clear z1 z2 h1 h2 h3 q1 q2 q3 hk
  go_enter Tryz.func62, Tryz.ntmps62
  go_wp2_with fail
  refine S1.out.mono ?_
  rintro e w1 ⟨v1, rfl, o1, b1⟩
  have t1 := Strs.of_own o1 Q1.out
  go_wp2_with fail
  refine (S2.out w1).mono ?_
  rintro e w2 ⟨v2, rfl, o2, d2⟩
  have t2 := Strs.of_own o2 Q2.out
  have b2 := below_trans b1 d2
  have t1' := t1.below d2
  clear o1 o2 b1 S1 S2 t1 Q1 Q2
  go_wp2_with fail
  refine (S3.out w2).mono ?_
  rintro e w3 ⟨v3, rfl, o3, d3⟩
  have t3 := Strs.of_own o3 Q3.out
  have b3 := below_trans b2 d3
  have t1'' := t1'.below d3
  have t2' := t2.below d3
  obtain ⟨A1, n1, c1, rfl, e1⟩ := t1''.form'
  obtain ⟨A2, n2, c2, rfl, e2⟩ := t2'.form'
  obtain ⟨A3, n3, c3, rfl, e3⟩ := t3.form'
  have C1 := Lib.hid (show Calls Tryz.prog 76 #[.slice A1 n1 c1, .slice A2 n2 c2, .slice A3 n3 c3] w3 (FaultTo2 (.slice none 0 0) k w3) from by
    have h := CH.out w3 A1 A2 A3 c1 c2 c3 (by rw [← e1]; exact t1'') (by rw [← e2]; exact t2')
    rw [← e1, ← e2, ← e3] at h
    exact h)
  have BB := Lib.hid b3
  clear o3 b2 b3 S3 t1' t1'' t2 t2' t3 d2 d3 CH Q3 e1 e2 e3
  go_wp2_with fail
  refine C1.out.mono ?_
  rintro e w4 ⟨F, rfl, _, b4⟩
  have B4 := Lib.hid (below_trans BB.out b4)
  clear b4 C1
  go_wp2
  go_ret3
  exact ⟨⟨F, rfl⟩, B4.out⟩
end Go.Proofs.YtapcnmnnichamaaGreatDoor.Mg

namespace Go.Proofs.YtapcnmnnichamaaGreatDoor.Mg
open Go Go.RowKit

abbrev wrongG (g : Nat) (e : Int) : Value := .agg #[.slice (some ⟨g, 0, none⟩) 1 1, .int .i64 e]
abbrev wrong0 : Value := .agg #[.slice none 0 0, .int .i64 0]
set_option maxRecDepth 100000 in
theorem refAt_gen (p : ByteArray) (n e : Int) (w : World) : Calls Tryz.prog 26 #[.string p, .int .i64 n, .int .i64 e] w fun x w' => ∃ g, x = .returned (wrongG g e) ∧ Blk w' g 82 #[.string p, .int .i64 n] ∧ w.heap.size ≤ g ∧ Below w.heap.size w w' := by
  go_enter Tryz.func26, Tryz.ntmps26
  go_wp2
  refine bodyPost_ret (results_cell_row (fn := Tryz.f26) rfl _ _ w.heap.size 40 #[.slice (some ⟨w.heap.size + 1, 0, none⟩) 1 1, .int .i64 e] (0, 0) _ rfl ((Blk.new w 40 _).alloc _) Tryz.underlying40 rfl (by kernel_rfl)) rfl ⟨w.heap.size + 1, rfl, ?_, by omega, ((Below.refl _ _).alloc (Nat.le_refl _) _).alloc (by simp) _⟩
  have h := heap_alloc_new (w.alloc (.cells #[.slice (some ⟨w.heap.size + 1, 0, none⟩) 1 1, .int .i64 e] 40)) (.cells #[.string p, .int .i64 n] 82)
  rw [show (w.alloc (.cells #[.slice (some ⟨w.heap.size + 1, 0, none⟩) 1 1, .int .i64 e] 40)).heap.size = w.heap.size + 1 by simp] at h
  exact h

/-- What the document's long answers. -/
def LongTo (n m : Nat) (w : World) (e : Ending) (w' : World) : Prop :=
  (n ≤ 256 ∧ m ≤ 256 ∧ e = .returned wrong0 ∧ Below w.heap.size w w') ∨ ∃ k g : Nat, Over n m k ∧ e = .returned (wrongG g 4) ∧ Blk w' g 82 #[.string bLines, .int .i64 (k : Int)] ∧ Below w.heap.size w w'
set_option maxHeartbeats 1000000 in
theorem long_any (w : World) (A B : Option Addr) (n c m d : Nat) (hn : n ≤ maxLen) (hm : m ≤ maxLen) : Calls Tryz.prog 134 #[.slice A n c, .slice B m d] w (LongTo n m w) := by
  have E1 := (Below.refl w.heap.size w).alloc (Nat.le_refl _) (.cells #[.slice none 0 0, .int .i64 0] 40)
  have hn0 : (n : Int) ≤ 9223372036854775807 := by unfold maxLen at hn; omega
  have hm0 : (m : Int) ≤ 9223372036854775807 := by unfold maxLen at hm; omega
  clear hn hm
  have RT := fun k => Lib.hid (refAt_gen bLines k 4 (w.alloc (.cells #[.slice none 0 0, .int .i64 0] 40)))
  have hh := Blk.new w 40 #[.slice none 0 0, .int .i64 0]
  have hsz : (w.alloc (.cells #[.slice none 0 0, .int .i64 0] 40)).heap.size = w.heap.size + 1 := by simp
  by_cases h1 : 256 < n
  · have hi : (256 : Int) < (n : Int) := by omega
    go_enter Tryz.func134, Tryz.ntmps134
    go_wp2_with fail
    refine (RT 0).out.mono ?_
    rintro e w2 ⟨g, rfl, hg, hgl, b2⟩
    have K2 := hh.below b2 hh.lt
    have c0 := K2.cell 0
    have c1 := K2.cell 1
    have f0 := K2.frozen 0
    have f1 := K2.frozen 1
    have E2 := E1.trans (b2.mono (by rw [hsz]; omega))
    have HK := Lib.hid K2
    have Hg := Lib.hid hg
    have Hne := Lib.hid (K2.ne_ hg (by decide))
    have HB2 := Lib.hid E2
    clear hg b2 K2 E2 hgl
    go_wp2
    refine bodyPost_ret (results_cell_row (fn := Tryz.f134) rfl _ _ w.heap.size 40 #[.slice (some ⟨g, 0, none⟩) 1 1, .int .i64 4] (0, 0) _ rfl (by first | exact (HK.out.set_ 0 _).set_ 1 _ | simpa using (HK.out.set_ 0 _).set_ 1 _) Tryz.underlying40 rfl (by kernel_rfl)) rfl (.inr ⟨0, g, .inl ⟨rfl, h1⟩, rfl, (Hg.out.far (fun e => Hne.out e.symm) _).far (fun e => Hne.out e.symm) _, (HB2.out.setCell (p := ⟨w.heap.size, 0, none⟩) (Nat.le_refl _) _).setCell (p := ⟨w.heap.size, 1, none⟩) (Nat.le_refl _) _⟩)
  · have hi : ¬ (256 : Int) < (n : Int) := by omega
    by_cases h2 : 256 < m
    · have hj : (256 : Int) < (m : Int) := by omega
      go_enter Tryz.func134, Tryz.ntmps134
      go_wp2_with fail
      refine (RT 1).out.mono ?_
      rintro e w2 ⟨g, rfl, hg, hgl, b2⟩
      have K2 := hh.below b2 hh.lt
      have c0 := K2.cell 0
      have c1 := K2.cell 1
      have f0 := K2.frozen 0
      have f1 := K2.frozen 1
      have E2 := E1.trans (b2.mono (by rw [hsz]; omega))
      have HK := Lib.hid K2
      have Hg := Lib.hid hg
      have Hne := Lib.hid (K2.ne_ hg (by decide))
      have HB2 := Lib.hid E2
      clear hg b2 K2 E2 hgl
      go_wp2
      refine bodyPost_ret (results_cell_row (fn := Tryz.f134) rfl _ _ w.heap.size 40 #[.slice (some ⟨g, 0, none⟩) 1 1, .int .i64 4] (0, 0) _ rfl (by first | exact (HK.out.set_ 0 _).set_ 1 _ | simpa using (HK.out.set_ 0 _).set_ 1 _) Tryz.underlying40 rfl (by kernel_rfl)) rfl (.inr ⟨1, g, .inr ⟨rfl, by omega, h2⟩, rfl, (Hg.out.far (fun e => Hne.out e.symm) _).far (fun e => Hne.out e.symm) _, (HB2.out.setCell (p := ⟨w.heap.size, 0, none⟩) (Nat.le_refl _) _).setCell (p := ⟨w.heap.size, 1, none⟩) (Nat.le_refl _) _⟩)
    · have hj : ¬ (256 : Int) < (m : Int) := by omega
      have c0 := hh.cell 0
      have c1 := hh.cell 1
      have f0 := hh.frozen 0
      have f1 := hh.frozen 1
      have HK := Lib.hid hh
      have HB2 := Lib.hid E1
      clear hh E1 RT
      go_enter Tryz.func134, Tryz.ntmps134
      go_wp2
      refine bodyPost_ret (results_cell_row (fn := Tryz.f134) rfl _ _ w.heap.size 40 #[.slice none 0 0, .int .i64 0] (0, 0) _ rfl (by first | exact HK.out | simpa using HK.out | exact (HK.out.set_ 0 _).set_ 1 _) Tryz.underlying40 rfl (by kernel_rfl)) rfl (.inl ⟨by omega, by omega, rfl, HB2.out⟩)
end Go.Proofs.YtapcnmnnichamaaGreatDoor.Mg
