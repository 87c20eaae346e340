/-
  merge.Text: whose lines are too many.
  The document's word of too many lines.
  rectoref11.Lines: the document's edits.
-/
import Derived.Test.YtapcnmnnichamaaGreatDoorVG
import Derived.Test.YtapcnmnnichamaaGreatDoorKMem
import Derived.OwnWalk
import Derived.Test.YtapcnmnnichamaaGreatDoorWA
import Derived.Test.YtapcnmnnichamaaGreatDoorVA

namespace Go.Proofs.YtapcnmnnichamaaGreatDoor.Mg
open Go Go.RowKit

theorem Strs.form' {w : World} {v : Value} {ss : List ByteArray} (h : Strs w v ss) : ∃ A n c, v = .slice A n c ∧ n = ss.length := by
  obtain ⟨A, c, hv, _⟩ := h
  exact ⟨A, _, c, hv, rfl⟩
abbrev bLines : ByteArray := ⟨#[108, 105, 110, 101, 115]⟩
/-- Which text has too many lines. -/
def Over (n m k : Nat) : Prop := (k = 0 ∧ 256 < n) ∨ (k = 1 ∧ n ≤ 256 ∧ 256 < m)
/-- The refusal: its fault in a block of its own. -/
def FaultIs (k F : Nat) (w w' : World) : Prop := Blk w' F 80 #[.string bLines, .int .i64 (k : Int), .iface 75 (.int .i64 4)] ∧ Below w.heap.size w w'
abbrev theFault (F : Nat) : Value := .iface 76 (.pointer (some ⟨F, 0, none⟩))
def FaultTo (k : Nat) (w : World) (e : Ending) (w' : World) : Prop := ∃ F, e = .returned (theFault F) ∧ FaultIs k F w w'

set_option maxHeartbeats 1000000 in
theorem check_bad (b n c m d k : Nat) (A B : Option Addr) (hk : Over n m k) (w : World) (h0 : w.cell? ⟨b, 0, none⟩ = some (.slice A n c)) (h1 : w.cell? ⟨b, 1, none⟩ = some (.slice B m d)) :
    Calls Tryz.prog 125 #[.slice (some ⟨b, 0, none⟩) 2 2] w (FaultTo k w) := by
  rcases hk with ⟨rfl, hn⟩ | ⟨rfl, hn, hm⟩
  · go_enter Tryz.func125, Tryz.ntmps125
    go_wp2
    go_loop [7] (fun i => i = .int .i64 0) (fun i => 0)
    case atStart => rfl
    case round =>
      obtain rfl := hrel
      go_wp2
      go_ret
      exact ⟨w.heap.size, rfl, heap_alloc_new w _, (Below.refl _ _).alloc (Nat.le_refl _) _⟩
  · go_enter Tryz.func125, Tryz.ntmps125
    go_wp2
    go_loop [7] (fun i => ∃ k : Nat, k ≤ 1 ∧ i = .int .i64 k) (fun i => 2 - (intOf i).toNat)
    case atStart => exact ⟨0, by omega, rfl⟩
    case round =>
      obtain ⟨k, hk, rfl⟩ := hrel
      by_cases e0 : k = 0
      · subst e0
        go_wp2
        go_round
        case rel => exact ⟨1, by omega, rfl⟩
        case measure => simp [intOf]
      · obtain rfl : k = 1 := by omega
        go_wp2
        go_ret
        exact ⟨w.heap.size, rfl, heap_alloc_new w _, (Below.refl _ _).alloc (Nat.le_refl _) _⟩

/-- .. with another answer before it. -/
def FaultTo2 (v : Value) (k : Nat) (w : World) (e : Ending) (w' : World) : Prop := ∃ F, e = .returned (.tuple #[v, theFault F]) ∧ FaultIs k F w w'
set_option maxRecDepth 100000 in
set_option maxHeartbeats 1000000 in
theorem lines_bad (w : World) (A B : Option Addr) (n c m d k : Nat) (hk : Over n m k) : Calls Tryz.prog 103 #[.slice A n c, .slice B m d] w (FaultTo2 (.slice none 0 0) k w) := by
  have E1 := (Below.refl w.heap.size w).alloc (Nat.le_refl _) (.cells #[.slice A n c, .slice B m d] 27)
  have hh := heap_alloc_new w (.cells #[.slice A n c, .slice B m d] 27)
  have CK := Lib.hid (check_bad w.heap.size n c m d k A B hk (w.alloc (.cells #[.slice A n c, .slice B m d] 27)) (cell_of_row _ _ 0 _ 27 (0, 0) hh) (cell_of_row _ _ 1 _ 27 (0, 0) hh))
  clear hh hk
  go_enter Tryz.func103, Tryz.ntmps103
  go_wp2_with fail
  refine CK.out.mono ?_
  rintro e w' ⟨F, rfl, T, hb⟩
  have E2 := E1.trans (hb.mono (by simp))
  go_wp2
  go_ret2
  exact ⟨F, rfl, T, E2⟩
/-- Whose lines of three are too many. -/
def Over3 (n m r k : Nat) : Prop := Over n m k ∨ (n ≤ 256 ∧ m ≤ 256 ∧ Over n r k)
theorem over3_same {n m r k k' : Nat} (h : Over3 n m r k) (h' : Over3 n m r k') : k = k' := by unfold Over3 Over at h h'; omega
theorem over3_01 {n m r k : Nat} (h : Over3 n m r k) : k = 0 ∨ k = 1 := by unfold Over3 Over at h; omega

set_option maxRecDepth 100000 in
set_option maxHeartbeats 1000000 in
theorem chunks_bad1 (w : World) (A B C : Option Addr) (n c m d r f k : Nat) (hk : Over n m k) : Calls Tryz.prog 76 #[.slice A n c, .slice B m d, .slice C r f] w (FaultTo2 (.slice none 0 0) k w) := by
  have CK := Lib.hid (lines_bad w A B n c m d k hk)
  clear hk
  go_enter Tryz.func76, Tryz.ntmps76
  go_wp2_with fail
  refine CK.out.mono ?_
  rintro e w' ⟨F, rfl, T, hb⟩
  go_wp2
  go_ret2
  exact ⟨F, rfl, T, hb⟩
set_option maxRecDepth 100000 in
set_option maxHeartbeats 1000000 in
theorem chunks_bad2 (w : World) (A B C : Option Addr) (c d f k : Nat) (xs ys zs : List ByteArray) (h0 : Strs w (.slice A xs.length c) xs) (h1 : Strs w (.slice B ys.length d) ys) (hx : ∀ s ∈ xs, s.size ≤ maxLen) (hy : ∀ s ∈ ys, s.size ≤ maxLen)
    (lx : xs.length ≤ 256) (ly : ys.length ≤ 256) (hk : Over xs.length zs.length k) : Calls Tryz.prog 76 #[.slice A xs.length c, .slice B ys.length d, .slice C zs.length f] w (FaultTo2 (.slice none 0 0) k w) := by
  have L1 := Lib.hid (lines_good w _ _ xs ys h0 h1 hx hy lx ly)
  have CK := Lib.hid fun W => lines_bad W A C xs.length c zs.length f k hk
  clear h0 h1 hx hy hk
  go_enter Tryz.func76, Tryz.ntmps76
  go_wp2_with fail
  refine L1.out.mono ?_
  rintro e w1 ⟨vE, rfl, o1, b1⟩
  clear o1
  go_wp2_with fail
  refine (CK.out w1).mono ?_
  rintro e w' ⟨F, rfl, T, hb⟩
  have B2 := Lib.hid (b1.trans (hb.mono b1.size))
  clear b1 hb
  go_wp2
  go_ret2
  exact ⟨F, rfl, T, B2.out⟩
theorem chunks_bad (w : World) (A B C : Option Addr) (c d f k : Nat) (xs ys zs : List ByteArray) (h0 : Strs w (.slice A xs.length c) xs) (h1 : Strs w (.slice B ys.length d) ys) (hx : ∀ s ∈ xs, s.size ≤ maxLen) (hy : ∀ s ∈ ys, s.size ≤ maxLen)
    (hk : Over3 xs.length ys.length zs.length k) : Calls Tryz.prog 76 #[.slice A xs.length c, .slice B ys.length d, .slice C zs.length f] w (FaultTo2 (.slice none 0 0) k w) := by
  rcases hk with hk | ⟨lx, ly, hk⟩
  · exact chunks_bad1 w A B C _ c _ d _ f k hk
  · exact chunks_bad2 w A B C c d f k xs ys zs h0 h1 hx hy lx ly hk
def BadTo (w : World) (e : Ending) (w' : World) : Prop := (∃ F, e = .returned (.tuple #[.string ⟨#[]⟩, .int .i64 0, theFault F])) ∧ Below w.heap.size w w'
theorem over3_of {n m r : Nat} (h : ¬ (n ≤ 256 ∧ m ≤ 256 ∧ r ≤ 256)) : ∃ k, Over3 n m r k := by
  unfold Over3 Over
  by_cases h1 : 256 < n
  · exact ⟨0, .inl (.inl ⟨rfl, h1⟩)⟩
  by_cases h2 : 256 < m
  · exact ⟨1, .inl (.inr ⟨rfl, by omega, h2⟩)⟩
  · exact ⟨1, .inr ⟨by omega, by omega, .inr ⟨rfl, by omega, by omega⟩⟩⟩
attribute [-go_sem] run_string_add_if
set_option maxRecDepth 100000 in
set_option maxHeartbeats 2000000 in
theorem text_bad (w : World) (sb so st sa sn : ByteArray) (h1 : sb.size ≤ 20000) (h2 : so.size ≤ 20000) (h3 : st.size ≤ 20000) (k : Nat) (hk : Over3 (lns sb).length (lns so).length (lns st).length k) :
    Calls Tryz.prog 62 #[.string sb, .string so, .string st, .string sa, .string sn] w (BadTo w) := by
  have z1 : ∀ s ∈ lns sb, s.size ≤ maxLen := fun s hs => by have := mem_cat hs; rw [lns_cat, size_data] at this; unfold maxLen; omega
  have z2 : ∀ s ∈ lns so, s.size ≤ maxLen := fun s hs => by have := mem_cat hs; rw [lns_cat, size_data] at this; unfold maxLen; omega
  have S1 := Lib.hid (split_any w sb (by omega))
  have S2 := Lib.hid fun w1 => split_any w1 so (by omega)
  have S3 := Lib.hid fun w1 => split_any w1 st (by omega)
  have CH := Lib.hid fun w1 A B C c d f g0 g1 => chunks_bad w1 A B C c d f k (lns sb) (lns so) (lns st) g0 g1 z1 z2 hk
  have q1 : (cutL sb.data.toList).length = (lns sb).length := by simp
  have q2 : (cutL so.data.toList).length = (lns so).length := by simp
  have q3 : (cutL st.data.toList).length = (lns st).length := by simp
  have Q1 := Lib.hid q1
  have Q2 := Lib.hid q2
  have Q3 := Lib.hid q3
  clear z1 z2 h1 h2 h3 q1 q2 q3 hk
  go_enter Tryz.func62, Tryz.ntmps62
  go_wp2_with fail
  refine S1.out.mono ?_
  rintro e w1 ⟨v1, rfl, o1, b1⟩
  have t1 := Strs.of_own o1 Q1.out
  go_wp2_with fail
  refine (S2.out w1).mono ?_
  rintro e w2 ⟨v2, rfl, o2, d2⟩
  have t2 := Strs.of_own o2 Q2.out
  have b2 := below_trans b1 d2
  have t1' := t1.below d2
  clear o1 o2 b1 S1 S2 t1 Q1 Q2
  go_wp2_with fail
  refine (S3.out w2).mono ?_
  rintro e w3 ⟨v3, rfl, o3, d3⟩
  have t3 := Strs.of_own o3 Q3.out
  have b3 := below_trans b2 d3
  have t1'' := t1'.below d3
  have t2' := t2.below d3
  obtain ⟨A1, n1, c1, rfl, e1⟩ := t1''.form'
  obtain ⟨A2, n2, c2, rfl, e2⟩ := t2'.form'
  obtain ⟨A3, n3, c3, rfl, e3⟩ := t3.form'
  have C1 := Lib.hid (show Calls Tryz.prog 76 #[.slice A1 n1 c1, .slice A2 n2 c2, .slice A3 n3 c3] w3 (FaultTo2 (.slice none 0 0) k w3) from by
    have h := CH.out w3 A1 A2 A3 c1 c2 c3 (by rw [← e1]; exact t1'') (by rw [← e2]; exact t2')
    rw [← e1, ← e2, ← e3] at h
    exact h)
  have BB := Lib.hid b3
  clear o3 b2 b3 S3 t1' t1'' t2 t2' t3 d2 d3 CH Q3 e1 e2 e3
  go_wp2_with fail
  refine C1.out.mono ?_
  rintro e w4 ⟨F, rfl, _, b4⟩
  have B4 := Lib.hid (below_trans BB.out b4)
  clear b4 C1
  go_wp2
  go_ret3
  exact ⟨⟨F, rfl⟩, B4.out⟩
end Go.Proofs.YtapcnmnnichamaaGreatDoor.Mg

namespace Go.Proofs.YtapcnmnnichamaaGreatDoor.Mg
open Go Go.RowKit

abbrev wrongG (g : Nat) (e : Int) : Value := .agg #[.slice (some ⟨g, 0, none⟩) 1 1, .int .i64 e]
abbrev wrong0 : Value := .agg #[.slice none 0 0, .int .i64 0]
set_option maxRecDepth 100000 in
theorem refAt_gen (p : ByteArray) (n e : Int) (w : World) : Calls Tryz.prog 26 #[.string p, .int .i64 n, .int .i64 e] w fun x w' => ∃ g, x = .returned (wrongG g e) ∧ Blk w' g 82 #[.string p, .int .i64 n] ∧ w.heap.size ≤ g ∧ Below w.heap.size w w' := by
  go_enter Tryz.func26, Tryz.ntmps26
  go_wp2
  refine bodyPost_ret (results_cell_row (fn := Tryz.f26) rfl _ _ w.heap.size 40 #[.slice (some ⟨w.heap.size + 1, 0, none⟩) 1 1, .int .i64 e] (0, 0) _ rfl ((Blk.new w 40 _).alloc _) Tryz.underlying40 rfl (by kernel_rfl)) rfl ⟨w.heap.size + 1, rfl, ?_, by omega, ((Below.refl _ _).alloc (Nat.le_refl _) _).alloc (by simp) _⟩
  have h := heap_alloc_new (w.alloc (.cells #[.slice (some ⟨w.heap.size + 1, 0, none⟩) 1 1, .int .i64 e] 40)) (.cells #[.string p, .int .i64 n] 82)
  rw [show (w.alloc (.cells #[.slice (some ⟨w.heap.size + 1, 0, none⟩) 1 1, .int .i64 e] 40)).heap.size = w.heap.size + 1 by simp] at h
  exact h

/-- What the document's long answers. -/
def LongTo (n m : Nat) (w : World) (e : Ending) (w' : World) : Prop :=
  (n ≤ 256 ∧ m ≤ 256 ∧ e = .returned wrong0 ∧ Below w.heap.size w w') ∨ ∃ k g : Nat, Over n m k ∧ e = .returned (wrongG g 4) ∧ Blk w' g 82 #[.string bLines, .int .i64 (k : Int)] ∧ Below w.heap.size w w'
set_option maxHeartbeats 1000000 in
theorem long_any (w : World) (A B : Option Addr) (n c m d : Nat) (hn : n ≤ maxLen) (hm : m ≤ maxLen) : Calls Tryz.prog 134 #[.slice A n c, .slice B m d] w (LongTo n m w) := by
  have E1 := (Below.refl w.heap.size w).alloc (Nat.le_refl _) (.cells #[.slice none 0 0, .int .i64 0] 40)
  have hn0 : (n : Int) ≤ 9223372036854775807 := by unfold maxLen at hn; omega
  have hm0 : (m : Int) ≤ 9223372036854775807 := by unfold maxLen at hm; omega
  clear hn hm
  have RT := fun k => Lib.hid (refAt_gen bLines k 4 (w.alloc (.cells #[.slice none 0 0, .int .i64 0] 40)))
  have hh := Blk.new w 40 #[.slice none 0 0, .int .i64 0]
  have hsz : (w.alloc (.cells #[.slice none 0 0, .int .i64 0] 40)).heap.size = w.heap.size + 1 := by simp
  by_cases h1 : 256 < n
  · have hi : (256 : Int) < (n : Int) := by omega
    go_enter Tryz.func134, Tryz.ntmps134
    go_wp2_with fail
    refine (RT 0).out.mono ?_
    rintro e w2 ⟨g, rfl, hg, hgl, b2⟩
    have K2 := hh.below b2 hh.lt
    have c0 := K2.cell 0
    have c1 := K2.cell 1
    have f0 := K2.frozen 0
    have f1 := K2.frozen 1
    have E2 := E1.trans (b2.mono (by rw [hsz]; omega))
    have HK := Lib.hid K2
    have Hg := Lib.hid hg
    have Hne := Lib.hid (K2.ne_ hg (by decide))
    have HB2 := Lib.hid E2
    clear hg b2 K2 E2 hgl
    go_wp2
    refine bodyPost_ret (results_cell_row (fn := Tryz.f134) rfl _ _ w.heap.size 40 #[.slice (some ⟨g, 0, none⟩) 1 1, .int .i64 4] (0, 0) _ rfl (by first | exact (HK.out.set_ 0 _).set_ 1 _ | simpa using (HK.out.set_ 0 _).set_ 1 _) Tryz.underlying40 rfl (by kernel_rfl)) rfl (.inr ⟨0, g, .inl ⟨rfl, h1⟩, rfl, (Hg.out.far (fun e => Hne.out e.symm) _).far (fun e => Hne.out e.symm) _, (HB2.out.setCell (p := ⟨w.heap.size, 0, none⟩) (Nat.le_refl _) _).setCell (p := ⟨w.heap.size, 1, none⟩) (Nat.le_refl _) _⟩)
  · have hi : ¬ (256 : Int) < (n : Int) := by omega
    by_cases h2 : 256 < m
    · have hj : (256 : Int) < (m : Int) := by omega
      go_enter Tryz.func134, Tryz.ntmps134
      go_wp2_with fail
      refine (RT 1).out.mono ?_
      rintro e w2 ⟨g, rfl, hg, hgl, b2⟩
      have K2 := hh.below b2 hh.lt
      have c0 := K2.cell 0
      have c1 := K2.cell 1
      have f0 := K2.frozen 0
      have f1 := K2.frozen 1
      have E2 := E1.trans (b2.mono (by rw [hsz]; omega))
      have HK := Lib.hid K2
      have Hg := Lib.hid hg
      have Hne := Lib.hid (K2.ne_ hg (by decide))
      have HB2 := Lib.hid E2
      clear hg b2 K2 E2 hgl
      go_wp2
      refine bodyPost_ret (results_cell_row (fn := Tryz.f134) rfl _ _ w.heap.size 40 #[.slice (some ⟨g, 0, none⟩) 1 1, .int .i64 4] (0, 0) _ rfl (by first | exact (HK.out.set_ 0 _).set_ 1 _ | simpa using (HK.out.set_ 0 _).set_ 1 _) Tryz.underlying40 rfl (by kernel_rfl)) rfl (.inr ⟨1, g, .inr ⟨rfl, by omega, h2⟩, rfl, (Hg.out.far (fun e => Hne.out e.symm) _).far (fun e => Hne.out e.symm) _, (HB2.out.setCell (p := ⟨w.heap.size, 0, none⟩) (Nat.le_refl _) _).setCell (p := ⟨w.heap.size, 1, none⟩) (Nat.le_refl _) _⟩)
    · have hj : ¬ (256 : Int) < (m : Int) := by omega
      have c0 := hh.cell 0
      have c1 := hh.cell 1
      have f0 := hh.frozen 0
      have f1 := hh.frozen 1
      have HK := Lib.hid hh
      have HB2 := Lib.hid E1
      clear hh E1 RT
      go_enter Tryz.func134, Tryz.ntmps134
      go_wp2
      refine bodyPost_ret (results_cell_row (fn := Tryz.f134) rfl _ _ w.heap.size 40 #[.slice none 0 0, .int .i64 0] (0, 0) _ rfl (by first | exact HK.out | simpa using HK.out | exact (HK.out.set_ 0 _).set_ 1 _) Tryz.underlying40 rfl (by kernel_rfl)) rfl (.inl ⟨by omega, by omega, rfl, HB2.out⟩)
end Go.Proofs.YtapcnmnnichamaaGreatDoor.Mg

namespace Go.Proofs.YtapcnmnnichamaaGreatDoor.Mg
open Go Go.RowKit

theorem results_tmp_row {fn : Func} {t p : Tmp} {ty : TypeId} (h : fn.results = #[.tmp t, .cell p ty]) {P : Program} (tmps : Array Value) (w : World) (g : Nat) (tt : TypeId) (cs : Array Value) (fr : Nat × Nat) {fs : Array Field}
    (hp : tmps.getD p undef = .pointer (some ⟨g, 0, none⟩)) (hg : w.heap[g]? = some (.cells cs tt fr))
    (hu : P.underlying ty = some (.struct fs)) (hi : (P.info? ty).map (·.size) = some cs.size) :
    (results fn tmps).run P w = .ok (.tuple #[tmps.getD t undef, .agg cs]) w := by
  have hp' : tmps[p]?.getD undef = .pointer (some ⟨g, 0, none⟩) := by simpa using hp
  simp [results, h, hp', asAddr, run_loadVar_row w g tt ty cs fr (.struct fs) hg hu rfl hi, Result.andThen]

theorem grown_cellL (w : World) (g p : Nat) (u : Value) : w.grownBy (w.setCell ⟨g, p, none⟩ u) (some g) :=
  ⟨rfl, rfl, rfl, by simp, fun k _ hk => Below.heap_setCell _ _ _ _ (fun e => hk (by rw [e]))⟩
theorem refEditInfo : (Tryz.prog.info? 223).map (fun i => (i.zero, i.size, i.bytes)) = some (some (.agg #[.int .i64 0, .string ⟨#[]⟩]), 2, 24) := by kernel_rfl
/-- The document's edits, in a row of the call's own; or which text has too many lines. -/
def RefEdited (w : World) (xs ys : List ByteArray) (e : Ending) (w' : World) : Prop :=
  (xs.length ≤ 256 ∧ ys.length ≤ 256 ∧ ∃ v, e = .returned (.tuple #[v, wrong0]) ∧ w'.ownsRow w.heap.size 223 2 v (ed xs ys).length (edCells (ed xs ys)) ∧ Below w.heap.size w w') ∨
  ∃ k g : Nat, Over xs.length ys.length k ∧ e = .returned (.tuple #[.slice none 0 0, wrongG g 4]) ∧ Blk w' g 82 #[.string bLines, .int .i64 (k : Int)] ∧ Below w.heap.size w w'

/-- What the table has, at any place. -/
structure TabAt (W : World) (G : Nat) (xs ys : List ByteArray) (wr : World) : Prop where
  row : ∀ t, t ≤ xs.length → wr.cell? ⟨G, t, none⟩ = some (.slice (some ⟨G + 1 + (xs.length - t), 0, none⟩) (ys.length + 1) (ys.length + 1))
  cell : ∀ t j, t ≤ xs.length → j ≤ ys.length → wr.cell? ⟨G + 1 + (xs.length - t), j, none⟩ = some (.int .i64 (cT xs ys t j : Int))
theorem TabAt.of {w wr : World} {G : Nat} {xs ys : List ByteArray} (h : OutT w wr G xs ys 0) : TabAt w G xs ys wr :=
  ⟨fun t ht => by rw [h.top.cell (by omega)]; simp only [topV]; rw [if_pos (Nat.zero_le _)], fun t j ht hj => (h.done t (Nat.zero_le _) ht).cell (by omega)⟩
theorem TabAt.below {w wr w' : World} {G : Nat} {xs ys : List ByteArray} (h : TabAt w G xs ys wr) (hb : Below wr.heap.size wr w') : TabAt w G xs ys w' :=
  ⟨fun t ht => (hb.cell (World.block_lt_of_cell? _ _ (h.row t ht))).trans (h.row t ht), fun t j ht hj => (hb.cell (World.block_lt_of_cell? _ _ (h.cell t j ht hj))).trans (h.cell t j ht hj)⟩

set_option maxRecDepth 100000 in
set_option maxHeartbeats 4000000 in
theorem refLines_any (w : World) (v u : Value) (xs ys : List ByteArray) (h : Strs w v xs) (g : Strs w u ys) :
    Calls Tryz.prog 112 #[v, u] w (RefEdited w xs ys) := by
  obtain ⟨A, n, c, rfl⟩ := h.form
  obtain ⟨B, m, d, rfl⟩ := g.form
  have hln := h.len
  have hlm := g.len
  obtain rfl := h.len.1
  obtain rfl := g.len.1
  obtain ⟨i0, hi, hz0, hz1, hz2⟩ := info_parts refEditInfo
  have E1 := (Below.refl w.heap.size w).alloc (Nat.le_refl _) (.cells #[.slice none 0 0, .int .i64 0] 40)
  have K1 := Blk.new w 40 #[.slice none 0 0, .int .i64 0]
  have LO := Lib.hid (long_any (w.alloc (.cells #[.slice none 0 0, .int .i64 0] 40)) A B xs.length c ys.length d (by omega) (by omega))
  have HA := Lib.hid h
  have HB := Lib.hid g
  have hs1 : (w.alloc (.cells #[.slice none 0 0, .int .i64 0] 40)).heap.size = w.heap.size + 1 := by simp
  clear h g hln hlm
  go_enter Tryz.func112, Tryz.ntmps112
  go_wp2_with fail
  refine LO.out.mono ?_
  rintro e w2 (⟨hxl, hyl, rfl, hb2⟩ | ⟨k, g, hk, rfl, hg, hb2⟩)
  · have E2 := E1.trans (hb2.mono (by rw [hs1]; omega))
    have K2 := K1.below hb2 K1.lt
    have E3 := E2.trans (((Below.refl w2.heap.size w2).alloc (Nat.le_refl _) (.cells #[.slice none 0 0, .int .i64 0] 40)).mono E2.size)
    have K3 := K2.alloc (.cells #[.slice none 0 0, .int .i64 0] 40)
    have X3 := Blk.new w2 40 #[.slice none 0 0, .int .i64 0]
    have TB := Lib.hid (refCommon_tab (w2.alloc (.cells #[.slice none 0 0, .int .i64 0] 40)) _ _ xs ys (HA.out.below E3) (HB.out.below E3) hxl hyl)
    have HX2 := Lib.hid (show w.heap.size ≤ w2.heap.size from E2.size)
    have HE3 := Lib.hid E3
    have HK3 := Lib.hid K3
    have HX3 := Lib.hid X3
    obtain ⟨N, hN⟩ : ∃ N, N = xs.length + 1 := ⟨_, rfl⟩
    obtain ⟨M, hM⟩ : ∃ M, M = ys.length + 1 := ⟨_, rfl⟩
    have HN := Lib.hid hN
    have HM := Lib.hid hM
    clear E2 K2 E3 K3 X3 LO E1 K1 hb2 hs1
    go_wp2_with fail
    refine TB.out.mono ?_
    rintro e W4 ⟨G, rfl, hGl, hO, hb4⟩
    rw [← hN]
    clear hN hM
    have E4 := HE3.out.trans (hb4.mono HE3.out.size)
    have HTA := Lib.hid (TabAt.of hO)
    have HA4 := Lib.hid (HA.out.below E4)
    have HB4 := Lib.hid (HB.out.below E4)
    have HK4 := Lib.hid (HK3.out.below hb4 HK3.out.lt)
    have HX4 := Lib.hid (HX3.out.below hb4 HX3.out.lt)
    have HE4 := Lib.hid E4
    have hwW := E4.size
    clear TB HE3 HK3 HX3 hb4 E4 hO hGl HA HB
    obtain ⟨Y, hY⟩ : ∃ Y, Y = w.heap.size := ⟨_, rfl⟩
    obtain ⟨X, hX⟩ : ∃ X, X = w2.heap.size := ⟨_, rfl⟩
    rw [← hY, ← hX]
    rw [← hY] at HK4 HX2
    rw [← hX] at HX4 HX2
    have HY := Lib.hid hY
    clear hY hX
    go_wp2_with fail
    go_loopw [8, 9, 10] (fun s8 s9 s10 wr => ∃ (i j : Nat) (done : List (Nat × ByteArray)), i ≤ xs.length ∧ j ≤ ys.length ∧ s9 = .int .i64 i ∧ s10 = .int .i64 j ∧ Hid (done ++ ed (xs.drop i) (ys.drop j) = ed xs ys) ∧
        wr.ownsRow W4.heap.size 223 2 s8 done.length (edCells done) ∧ Below W4.heap.size W4 wr) (fun _ s9 s10 _ => (xs.length - (intOf s9).toNat) + (ys.length - (intOf s10).toNat))
    case atStart => exact ⟨0, 0, [], Nat.zero_le _, Nat.zero_le _, rfl, rfl, rfl, World.ownsRow_nil _ _ _ _, Below.refl _ _⟩
    case round =>
      obtain ⟨i, j, done, hil, hjl, rfl, rfl, hd, hown, hbr⟩ := hrel
      have hlen : done.length ≤ 512 := by
        have := congrArg List.length hd.out
        have := ed_len xs ys
        rw [List.length_append] at *
        omega
      have i0' : (0 : Int) ≤ (i : Int) := Int.natCast_nonneg _
      have j0' : (0 : Int) ≤ (j : Int) := Int.natCast_nonneg _
      by_cases hi1 : i < xs.length
      · have hi2 : (i : Int) < (xs.length : Int) := by omega
        obtain ⟨s, hs⟩ : ∃ s, xs[i]? = some s := ⟨_, List.getElem?_eq_getElem hi1⟩
        have HS := Lib.hid hs
        clear hs
        by_cases hj1 : j < ys.length
        · have hj2 : (j : Int) < (ys.length : Int) := by omega
          obtain ⟨t, ht⟩ : ∃ t, ys[j]? = some t := ⟨_, List.getElem?_eq_getElem hj1⟩
          have HTt := Lib.hid ht
          clear ht
          have TR := HTA.out.below hbr
          obtain ⟨a1, s1, rfl, hs1, d1⟩ := (HA4.out.below hbr).cell (k := i) (by omega)
          obtain ⟨a2, t1, rfl, ht1, d2⟩ := (HB4.out.below hbr).cell (k := j) (by omega)
          obtain rfl : s1 = s := Option.some.inj (hs1.symm.trans HS.out)
          obtain rfl : t1 = t := Option.some.inj (ht1.symm.trans HTt.out)
          clear hs1 ht1
          by_cases hst : s1 = t1
          · subst hst
            have HST : Hid (s1 = s1) := rfl
            clear TR
            go_wp2_with fail
            go_quiet (fail)
            generalize hw3 : wr.drewN _ = w3
            have hb3 : Below wr.heap.size wr w3 := by rw [← hw3]; exact below_drewN (Below.refl _ wr) _
            clear hw3
            have hbx := hbr.trans (hb3.mono hbr.size)
            have hS3 := (HA4.out.below hbx)
            obtain ⟨ad, s', had, hs', hc⟩ := hS3.cell (k := i) (by omega)
            cases had
            obtain rfl : s1 = s' := by have := HS.out; rw [hs'] at this; exact (Option.some.inj this).symm
            clear hs' hS3
            have hcl := World.block_lt_of_cell? _ _ hc
            have hown4 := (own2_keep hown hb3).alloc (.cells #[.int .i64 1, .string s1] 223)
            have hnews := World.news_of_block (cs := #[.int .i64 1, .string s1]) (t := 223) (fr := (0, 0)) (heap_alloc_new w3 (.cells #[.int .i64 1, .string s1] 223))
            have hb4 := hbx.alloc hbx.size (.cells #[.int .i64 1, .string s1] 223)
            have hsz4 := hb4.size
            go_wp2_with (at_builtin; refine wpList_append_own _ rfl _ _ 195 rfl W4.heap.size 223 i0 (.agg #[.int .i64 0, .string ⟨#[]⟩]) 2 24 Tryz.underlying195 hi hz0 hz1 hz2 rfl (by decide) _ _ _ rfl hown4 ⟨w3.heap.size, 0, none⟩ 1 1 [.int .i64 1, .string s1] rfl rfl hnews (by simp [Value.oneCell']) (by unfold maxLen; omega) (by omega) hsz4 ?_; intro v5 w5 hown5 hg5 _)
            have hb5 : Below W4.heap.size W4 w5 := hb4.grown hg5 hsz4 (fun k hk => (hown.lt k hk).1)
            clear hnews hown4 hg5 hb4
            go_roundw
            case rel => exact ⟨i + 1, j + 1, done ++ [(1, s1)], by omega, by omega, by go_num, by go_num, by rw [List.append_assoc]; have := hd.out; rw [ed_keep HS.out HTt.out rfl] at this; exact this, by simpa [edCells_snoc] using hown5, hb5⟩
            case measure => simp [intOf]; omega
          · have HST := Lib.hid hst
            have hse : (s1.toList == t1.toList) = false := by
              rw [ByteArray.toList_eq, ByteArray.toList_eq]
              simp
              intro h
              exact hst (ByteArray.ext h)
            have P0 := TR.row i (by omega)
            have P1 := TR.row (i + 1) (by omega)
            have P2 := TR.cell (i + 1) j (by omega) (by omega)
            have P3 := TR.cell i (j + 1) (by omega) (by omega)
            rw [← HM.out] at P0 P1
            have b1 := cT_le xs ys (i + 1) j
            have b2 := cT_le xs ys i (j + 1)
            have hiN : (i : Int) + 1 < (N : Int) := by have := HN.out; omega
            have hiN0 : (i : Int) < (N : Int) := by have := HN.out; omega
            have hjM : (j : Int) + 1 < (M : Int) := by have := HM.out; omega
            have hjM0 : (j : Int) < (M : Int) := by have := HM.out; omega
            have hsp : IntKind.i64.wrap ((i : Int) + 1) = (i : Int) + 1 := IntWalk.i64_in _ (by omega)
            have hsj : IntKind.i64.wrap ((j : Int) + 1) = (j : Int) + 1 := IntWalk.i64_in _ (by omega)
            have hjne : ((j : Int) == (ys.length : Int)) = false := by simpa using (show (j : Int) ≠ (ys.length : Int) by omega)
            clear TR hst
            obtain ⟨c1, hc1⟩ : ∃ c, c = cT xs ys (i + 1) j := ⟨_, rfl⟩
            obtain ⟨c2, hc2⟩ : ∃ c, c = cT xs ys i (j + 1) := ⟨_, rfl⟩
            rw [← hc1] at P2 b1
            rw [← hc2] at P3 b2
            have HC1 := Lib.hid hc1
            have HC2 := Lib.hid hc2
            clear hc1 hc2
            by_cases hle : c2 ≤ c1
            · have hli : (c2 : Int) ≤ (c1 : Int) := by omega
              have HLE : Hid (lc (xs.drop i) (ys.drop (j + 1)) ≤ lc (xs.drop (i + 1)) (ys.drop j)) := Lib.hid (by have h1 := HC1.out; have h2 := HC2.out; unfold cT at h1 h2; rw [← h1, ← h2]; exact hle)
              go_wp2_with fail
              go_quiet (fail)
              go_wp2_with fail
              go_quiet (fail)
              generalize hw3 : World.drewN (wr.drewN _) _ = w3
              have hb3 : Below wr.heap.size wr w3 := by rw [← hw3]; exact below_drewN (below_drewN (Below.refl _ wr) _) _
              clear hw3
              have hbx := hbr.trans (hb3.mono hbr.size)
              have hS3 := (HA4.out.below hbx)
              obtain ⟨ad, s', had, hs', hc⟩ := hS3.cell (k := i) (by omega)
              cases had
              obtain rfl : s1 = s' := by have := HS.out; rw [hs'] at this; exact (Option.some.inj this).symm
              clear hs' hS3
              have hcl := World.block_lt_of_cell? _ _ hc
              have hown4 := (own2_keep hown hb3).alloc (.cells #[.int .i64 2, .string s1] 223)
              have hnews := World.news_of_block (cs := #[.int .i64 2, .string s1]) (t := 223) (fr := (0, 0)) (heap_alloc_new w3 (.cells #[.int .i64 2, .string s1] 223))
              have hb4 := hbx.alloc hbx.size (.cells #[.int .i64 2, .string s1] 223)
              have hsz4 := hb4.size
              go_wp2_with (at_builtin; refine wpList_append_own _ rfl _ _ 195 rfl W4.heap.size 223 i0 (.agg #[.int .i64 0, .string ⟨#[]⟩]) 2 24 Tryz.underlying195 hi hz0 hz1 hz2 rfl (by decide) _ _ _ rfl hown4 ⟨w3.heap.size, 0, none⟩ 1 1 [.int .i64 2, .string s1] rfl rfl hnews (by simp [Value.oneCell']) (by unfold maxLen; omega) (by omega) hsz4 ?_; intro v5 w5 hown5 hg5 _)
              have hb5 : Below W4.heap.size W4 w5 := hb4.grown hg5 hsz4 (fun k hk => (hown.lt k hk).1)
              clear hnews hown4 hg5 hb4
              go_roundw
              case rel => exact ⟨i + 1, j, done ++ [(2, s1)], by omega, by omega, by go_num, by go_num, by rw [List.append_assoc]; have := hd.out; rw [ed_else HS.out HTt.out HST.out, if_pos HLE.out] at this; exact this, by simpa [edCells_snoc] using hown5, hb5⟩
              case measure => simp [intOf]; omega
            · have hli : (decide ((c2 : Int) ≤ (c1 : Int))) = false := decide_eq_false (by omega)
              have HLE : Hid (¬ lc (xs.drop i) (ys.drop (j + 1)) ≤ lc (xs.drop (i + 1)) (ys.drop j)) := Lib.hid (by have h1 := HC1.out; have h2 := HC2.out; unfold cT at h1 h2; rw [← h1, ← h2]; exact hle)
              go_wp2_with fail
              go_quiet (fail)
              go_wp2_with fail
              go_quiet (fail)
              generalize hw3 : World.drewN (wr.drewN _) _ = w3
              have hb3 : Below wr.heap.size wr w3 := by rw [← hw3]; exact below_drewN (below_drewN (Below.refl _ wr) _) _
              clear hw3
              have hbx := hbr.trans (hb3.mono hbr.size)
              have hS3 := (HB4.out.below hbx)
              obtain ⟨ad, s', had, hs', hc⟩ := hS3.cell (k := j) (by omega)
              cases had
              obtain rfl : t1 = s' := by have := HTt.out; rw [hs'] at this; exact (Option.some.inj this).symm
              clear hs' hS3
              have hcl := World.block_lt_of_cell? _ _ hc
              have hown4 := (own2_keep hown hb3).alloc (.cells #[.int .i64 3, .string t1] 223)
              have hnews := World.news_of_block (cs := #[.int .i64 3, .string t1]) (t := 223) (fr := (0, 0)) (heap_alloc_new w3 (.cells #[.int .i64 3, .string t1] 223))
              have hb4 := hbx.alloc hbx.size (.cells #[.int .i64 3, .string t1] 223)
              have hsz4 := hb4.size
              go_wp2_with (at_builtin; refine wpList_append_own _ rfl _ _ 195 rfl W4.heap.size 223 i0 (.agg #[.int .i64 0, .string ⟨#[]⟩]) 2 24 Tryz.underlying195 hi hz0 hz1 hz2 rfl (by decide) _ _ _ rfl hown4 ⟨w3.heap.size, 0, none⟩ 1 1 [.int .i64 3, .string t1] rfl rfl hnews (by simp [Value.oneCell']) (by unfold maxLen; omega) (by omega) hsz4 ?_; intro v5 w5 hown5 hg5 _)
              have hb5 : Below W4.heap.size W4 w5 := hb4.grown hg5 hsz4 (fun k hk => (hown.lt k hk).1)
              clear hnews hown4 hg5 hb4
              go_roundw
              case rel => exact ⟨i, j + 1, done ++ [(3, t1)], by omega, by omega, by go_num, by go_num, by rw [List.append_assoc]; have := hd.out; rw [ed_else HS.out HTt.out HST.out, if_neg HLE.out] at this; exact this, by simpa [edCells_snoc] using hown5, hb5⟩
              case measure => simp [intOf]; omega
        · obtain rfl : j = ys.length := by omega
          go_wp2_with fail
          go_quiet (fail)
          go_wp2_with fail
          go_quiet (fail)
          generalize hw3 : World.drewN (wr.drewN _) _ = w3
          have hb3 : Below wr.heap.size wr w3 := by rw [← hw3]; exact below_drewN (below_drewN (Below.refl _ wr) _) _
          clear hw3
          have hbx := hbr.trans (hb3.mono hbr.size)
          have hS3 := (HA4.out.below hbx)
          obtain ⟨ad, s', had, hs', hc⟩ := hS3.cell (k := i) (by omega)
          cases had
          obtain rfl : s = s' := by have := HS.out; rw [hs'] at this; exact (Option.some.inj this).symm
          clear hs' hS3
          have hcl := World.block_lt_of_cell? _ _ hc
          have hown4 := (own2_keep hown hb3).alloc (.cells #[.int .i64 2, .string s] 223)
          have hnews := World.news_of_block (cs := #[.int .i64 2, .string s]) (t := 223) (fr := (0, 0)) (heap_alloc_new w3 (.cells #[.int .i64 2, .string s] 223))
          have hb4 := hbx.alloc hbx.size (.cells #[.int .i64 2, .string s] 223)
          have hsz4 := hb4.size
          go_wp2_with (at_builtin; refine wpList_append_own _ rfl _ _ 195 rfl W4.heap.size 223 i0 (.agg #[.int .i64 0, .string ⟨#[]⟩]) 2 24 Tryz.underlying195 hi hz0 hz1 hz2 rfl (by decide) _ _ _ rfl hown4 ⟨w3.heap.size, 0, none⟩ 1 1 [.int .i64 2, .string s] rfl rfl hnews (by simp [Value.oneCell']) (by unfold maxLen; omega) (by omega) hsz4 ?_; intro v5 w5 hown5 hg5 _)
          have hb5 : Below W4.heap.size W4 w5 := hb4.grown hg5 hsz4 (fun k hk => (hown.lt k hk).1)
          clear hnews hown4 hg5 hb4
          go_roundw
          case rel => exact ⟨i + 1, ys.length, done ++ [(2, s)], by omega, by omega, by go_num, by go_num, by rw [List.append_assoc]; have := hd.out; rw [ed_end_b HS.out] at this; exact this, by simpa [edCells_snoc] using hown5, hb5⟩
          case measure => simp [intOf]; omega
      · obtain rfl : i = xs.length := by omega
        by_cases hj1 : j < ys.length
        · have hj2 : (j : Int) < (ys.length : Int) := by omega
          obtain ⟨t, ht⟩ : ∃ t, ys[j]? = some t := ⟨_, List.getElem?_eq_getElem hj1⟩
          have HTt := Lib.hid ht
          clear ht
          go_wp2_with fail
          go_quiet (fail)
          go_wp2_with fail
          go_quiet (fail)
          generalize hw3 : World.drewN (wr.drewN _) _ = w3
          have hb3 : Below wr.heap.size wr w3 := by rw [← hw3]; exact below_drewN (below_drewN (Below.refl _ wr) _) _
          clear hw3
          have hbx := hbr.trans (hb3.mono hbr.size)
          have hS3 := (HB4.out.below hbx)
          obtain ⟨ad, s', had, hs', hc⟩ := hS3.cell (k := j) (by omega)
          cases had
          obtain rfl : t = s' := by have := HTt.out; rw [hs'] at this; exact (Option.some.inj this).symm
          clear hs' hS3
          have hcl := World.block_lt_of_cell? _ _ hc
          have hown4 := (own2_keep hown hb3).alloc (.cells #[.int .i64 3, .string t] 223)
          have hnews := World.news_of_block (cs := #[.int .i64 3, .string t]) (t := 223) (fr := (0, 0)) (heap_alloc_new w3 (.cells #[.int .i64 3, .string t] 223))
          have hb4 := hbx.alloc hbx.size (.cells #[.int .i64 3, .string t] 223)
          have hsz4 := hb4.size
          go_wp2_with (at_builtin; refine wpList_append_own _ rfl _ _ 195 rfl W4.heap.size 223 i0 (.agg #[.int .i64 0, .string ⟨#[]⟩]) 2 24 Tryz.underlying195 hi hz0 hz1 hz2 rfl (by decide) _ _ _ rfl hown4 ⟨w3.heap.size, 0, none⟩ 1 1 [.int .i64 3, .string t] rfl rfl hnews (by simp [Value.oneCell']) (by unfold maxLen; omega) (by omega) hsz4 ?_; intro v5 w5 hown5 hg5 _)
          have hb5 : Below W4.heap.size W4 w5 := hb4.grown hg5 hsz4 (fun k hk => (hown.lt k hk).1)
          clear hnews hown4 hg5 hb4
          go_roundw
          case rel => exact ⟨xs.length, j + 1, done ++ [(3, t)], by omega, by omega, by go_num, by go_num, by rw [List.append_assoc]; have := hd.out; rw [ed_end_a HTt.out] at this; exact this, by simpa [edCells_snoc] using hown5, hb5⟩
          case measure => simp [intOf]; omega
        · obtain rfl : j = ys.length := by omega
          have hdd := hd.out
          rw [List.drop_length, List.drop_length, show ed ([] : List ByteArray) [] = [] from rfl, List.append_nil] at hdd
          subst hdd
          have KY := HK4.out.below hbr HK4.out.lt
          have KX := HX4.out.below hbr HX4.out.lt
          have c0 := KX.cell 0
          have c1 := KX.cell 1
          have y0 := KY.cell 0
          have y1 := KY.cell 1
          have f0 := KY.frozen 0
          have f1 := KY.frozen 1
          have HKY := Lib.hid KY
          have BR := Lib.hid (HE4.out.trans (hbr.mono HE4.out.size))
          have O := Lib.hid hown
          have O9 := Lib.hid (own2_le ((hown.kept (grown_cellL wr Y 0 (.slice none 0 0)) (.inr (own_blk_ne hown KY (by decide)))).kept (grown_cellL (wr.setCell ⟨Y, 0, none⟩ (.slice none 0 0)) Y 1 (.int .i64 0)) (.inr (own_blk_ne hown KY (by decide)))) hwW)
          have hYw : w.heap.size ≤ Y := by rw [HY.out]; exact Nat.le_refl _
          have B9 := Lib.hid ((BR.out.setCell (p := ⟨Y, 0, none⟩) hYw (.slice none 0 0)).setCell (p := ⟨Y, 1, none⟩) hYw (.int .i64 0))
          clear KX KY hown hYw
          go_wp2_with fail
          go_region
          go_wp2_with fail
          refine bodyPost_ret (results_tmp_row (fn := Tryz.f112) rfl _ _ Y 40 #[.slice none 0 0, .int .i64 0] (0, 0) rfl (by first | exact (HKY.out.set_ 0 _).set_ 1 _ | simpa using (HKY.out.set_ 0 (.slice none 0 0)).set_ 1 (.int .i64 0)) Tryz.underlying40 (by kernel_rfl)) rfl (.inl ⟨hxl, hyl, _, rfl, ?_, ?_⟩)
          · exact O9.out
          · first | exact B9.out | exact B9.out.drew
  · have E2 := E1.trans (hb2.mono (by rw [hs1]; omega))
    have K2 := K1.below hb2 K1.lt
    have K3 := K2.alloc (.cells #[.slice (some ⟨g, 0, none⟩) 1 1, .int .i64 4] 40)
    have X3 := Blk.new w2 40 #[.slice (some ⟨g, 0, none⟩) 1 1, .int .i64 4]
    have G3 := Lib.hid (Blk.alloc hg (.cells #[.slice (some ⟨g, 0, none⟩) 1 1, .int .i64 4] 40))
    have E3 := Lib.hid (E2.trans (((Below.refl w2.heap.size w2).alloc (Nat.le_refl _) (.cells #[.slice (some ⟨g, 0, none⟩) 1 1, .int .i64 4] 40)).mono E2.size))
    have c0 := X3.cell 0
    have c1 := X3.cell 1
    have y0 := K3.cell 0
    have y1 := K3.cell 1
    have f0 := K3.frozen 0
    have f1 := K3.frozen 1
    have HK3 := Lib.hid K3
    have HYG := Lib.hid (K3.ne_ G3.out (by decide))
    have hYX : w.heap.size ≠ w2.heap.size := by have := K2.lt; omega
    have HOV := Lib.hid hk
    clear hg X3 K3 K1 E1 E2 LO hb2 hs1 hk K2
    go_wp2_with fail
    generalize hW3 : w2.alloc (.cells #[.slice (some ⟨g, 0, none⟩) 1 1, .int .i64 4] 40) = W3 at *
    go_region
    go_wp2_with fail
    refine bodyPost_ret (results_tmp_row (fn := Tryz.f112) rfl _ _ w.heap.size 40 #[.slice (some ⟨g, 0, none⟩) 1 1, .int .i64 4] (0, 0) rfl (by first | exact (HK3.out.set_ 0 _).set_ 1 _ | simpa using (HK3.out.set_ 0 (.slice (some ⟨g, 0, none⟩) 1 1)).set_ 1 (.int .i64 4)) Tryz.underlying40 (by kernel_rfl)) rfl (.inr ⟨k, g, HOV.out, rfl, (G3.out.far (p := ⟨w.heap.size, 0, none⟩) (fun e => HYG.out e.symm) _).far (p := ⟨w.heap.size, 1, none⟩) (fun e => HYG.out e.symm) _, ?_⟩)
    exact ((E3.out.setCell (p := ⟨w.heap.size, 0, none⟩) (Nat.le_refl _) _).setCell (p := ⟨w.heap.size, 1, none⟩) (Nat.le_refl _) _).drew
end Go.Proofs.YtapcnmnnichamaaGreatDoor.Mg
