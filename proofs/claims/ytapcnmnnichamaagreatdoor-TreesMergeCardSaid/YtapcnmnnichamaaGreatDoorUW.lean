/-
  merge.Text: whose lines are too many.
  The document's word of too many lines.
  rectoref11.Lines: the document's edits.
  rectoref11.kept: of each line of base where it is kept.
  rectoref11.between: a piece that is not kept.
  rectoref11.Chunks: the row of pieces, and how far a run goes.
-/
import Derived.Test.YtapcnmnnichamaaGreatDoorUY
import Derived.Test.YtapcnmnnichamaaGreatDoorKMem
import Derived.OwnWalk
import Derived.Test.YtapcnmnnichamaaGreatDoorWA
import Derived.Test.YtapcnmnnichamaaGreatDoorVA
import Derived.Test.YtapcnmnnichamaaGreatDoorVM
import Derived.Test.YtapcnmnnichamaaGreatDoorVB
import Derived.Deep.AppendLies

namespace Go.Proofs.YtapcnmnnichamaaGreatDoor.Mg
open Go Go.RowKit

theorem Strs.form' {w : World} {v : Value} {ss : List ByteArray} (h : Strs w v ss) : ∃ A n c, v = .slice A n c ∧ n = ss.length := by
  obtain ⟨A, c, hv, _⟩ := h
  exact ⟨A, _, c, hv, rfl⟩
abbrev bLines : ByteArray := ⟨#[108, 105, 110, 101, 115]⟩
/-- Which text has too many lines. -/
def Over (n m k : Nat) : Prop := (k = 0 ∧ 256 < n) ∨ (k = 1 ∧ n ≤ 256 ∧ 256 < m)
/-- The refusal: its fault in a block of its own. -/
def FaultIs (k F : Nat) (w w' : World) : Prop := Blk w' F 80 #[.string bLines, .int .i64 (k : Int), .iface 75 (.int .i64 4)] ∧ Below w.heap.size w w'
abbrev theFault (F : Nat) : Value := .iface 76 (.pointer (some ⟨F, 0, none⟩))
def FaultTo (k : Nat) (w : World) (e : Ending) (w' : World) : Prop := ∃ F, e = .returned (theFault F) ∧ FaultIs k F w w'

set_option maxHeartbeats 1000000 in
theorem check_bad (b n c m d k : Nat) (A B : Option Addr) (hk : Over n m k) (w : World) (h0 : w.cell? ⟨b, 0, none⟩ = some (.slice A n c)) (h1 : w.cell? ⟨b, 1, none⟩ = some (.slice B m d)) :
    Calls Tryz.prog 125 #[.slice (some ⟨b, 0, none⟩) 2 2] w (FaultTo k w) := by
  rcases hk with ⟨rfl, hn⟩ | ⟨rfl, hn, hm⟩
  · go_enter Tryz.func125, Tryz.ntmps125
    go_wp2
    go_loop [7] (fun i => i = .int .i64 0) (fun i => 0)
    case atStart => rfl
    case round =>
      obtain rfl := hrel
      go_wp2
      go_ret
      exact ⟨w.heap.size, rfl, heap_alloc_new w _, (Below.refl _ _).alloc (Nat.le_refl _) _⟩
  · go_enter Tryz.func125, Tryz.ntmps125
    go_wp2
    go_loop [7] (fun i => ∃ k : Nat, k ≤ 1 ∧ i = .int .i64 k) (fun i => 2 - (intOf i).toNat)
    case atStart => exact ⟨0, by omega, rfl⟩
    case round =>
      obtain ⟨k, hk, rfl⟩ := hrel
      by_cases e0 : k = 0
      · subst e0
        go_wp2
        go_round
        case rel => exact ⟨1, by omega, rfl⟩
        case measure => simp [intOf]
      · obtain rfl : k = 1 := by omega
        go_wp2
        go_ret
        exact ⟨w.heap.size, rfl, heap_alloc_new w _, (Below.refl _ _).alloc (Nat.le_refl _) _⟩

/-- .. with another answer before it. -/
def FaultTo2 (v : Value) (k : Nat) (w : World) (e : Ending) (w' : World) : Prop := ∃ F, e = .returned (.tuple #[v, theFault F]) ∧ FaultIs k F w w'
set_option maxRecDepth 100000 in
set_option maxHeartbeats 1000000 in
theorem lines_bad (w : World) (A B : Option Addr) (n c m d k : Nat) (hk : Over n m k) : Calls Tryz.prog 103 #[.slice A n c, .slice B m d] w (FaultTo2 (.slice none 0 0) k w) := by
  have E1 := (Below.refl w.heap.size w).alloc (Nat.le_refl _) (.cells #[.slice A n c, .slice B m d] 27)
  have hh := heap_alloc_new w (.cells #[.slice A n c, .slice B m d] 27)
  have CK := Lib.hid (check_bad w.heap.size n c m d k A B hk (w.alloc (.cells #[.slice A n c, .slice B m d] 27)) (cell_of_row _ _ 0 _ 27 (0, 0) hh) (cell_of_row _ _ 1 _ 27 (0, 0) hh))
  clear hh hk
  go_enter Tryz.func103, Tryz.ntmps103
  go_wp2_with fail
  refine CK.out.mono ?_
  rintro e w' ⟨F, rfl, T, hb⟩
  have E2 := E1.trans (hb.mono (by simp))
  go_wp2
  go_ret2
  exact ⟨F, rfl, T, E2⟩
/-- Whose lines of three are too many. -/
def Over3 (n m r k : Nat) : Prop := Over n m k ∨ (n ≤ 256 ∧ m ≤ 256 ∧ Over n r k)
theorem over3_same {n m r k k' : Nat} (h : Over3 n m r k) (h' : Over3 n m r k') : k = k' := by unfold Over3 Over at h h'; omega
theorem over3_01 {n m r k : Nat} (h : Over3 n m r k) : k = 0 ∨ k = 1 := by unfold Over3 Over at h; omega

set_option maxRecDepth 100000 in
set_option maxHeartbeats 1000000 in
theorem chunks_bad1 (w : World) (A B C : Option Addr) (n c m d r f k : Nat) (hk : Over n m k) : Calls Tryz.prog 76 #[.slice A n c, .slice B m d, .slice C r f] w (FaultTo2 (.slice none 0 0) k w) := by
  have CK := Lib.hid (lines_bad w A B n c m d k hk)
  clear hk
  go_enter Tryz.func76, Tryz.ntmps76
  go_wp2_with fail
  refine CK.out.mono ?_
  rintro e w' ⟨F, rfl, T, hb⟩
  go_wp2
  go_ret2
  exact ⟨F, rfl, T, hb⟩
set_option maxRecDepth 100000 in
set_option maxHeartbeats 1000000 in
theorem chunks_bad2 (w : World) (A B C : Option Addr) (c d f k : Nat) (xs ys zs : List ByteArray) (h0 : Strs w (.slice A xs.length c) xs) (h1 : Strs w (.slice B ys.length d) ys) (hx : ∀ s ∈ xs, s.size ≤ maxLen) (hy : ∀ s ∈ ys, s.size ≤ maxLen)
    (lx : xs.length ≤ 256) (ly : ys.length ≤ 256) (hk : Over xs.length zs.length k) : Calls Tryz.prog 76 #[.slice A xs.length c, .slice B ys.length d, .slice C zs.length f] w (FaultTo2 (.slice none 0 0) k w) := by
  have L1 := Lib.hid (lines_good w _ _ xs ys h0 h1 hx hy lx ly)
  have CK := Lib.hid fun W => lines_bad W A C xs.length c zs.length f k hk
  clear h0 h1 hx hy hk
  go_enter Tryz.func76, Tryz.ntmps76
  go_wp2_with fail
  refine L1.out.mono ?_
  rintro e w1 ⟨vE, rfl, o1, b1⟩
  clear o1
  go_wp2_with fail
  refine (CK.out w1).mono ?_
  rintro e w' ⟨F, rfl, T, hb⟩
  have B2 := Lib.hid (b1.trans (hb.mono b1.size))
  clear b1 hb
  go_wp2
  go_ret2
  exact ⟨F, rfl, T, B2.out⟩
theorem chunks_bad (w : World) (A B C : Option Addr) (c d f k : Nat) (xs ys zs : List ByteArray) (h0 : Strs w (.slice A xs.length c) xs) (h1 : Strs w (.slice B ys.length d) ys) (hx : ∀ s ∈ xs, s.size ≤ maxLen) (hy : ∀ s ∈ ys, s.size ≤ maxLen)
    (hk : Over3 xs.length ys.length zs.length k) : Calls Tryz.prog 76 #[.slice A xs.length c, .slice B ys.length d, .slice C zs.length f] w (FaultTo2 (.slice none 0 0) k w) := by
  rcases hk with hk | ⟨lx, ly, hk⟩
  · exact chunks_bad1 w A B C _ c _ d _ f k hk
  · exact chunks_bad2 w A B C c d f k xs ys zs h0 h1 hx hy lx ly hk
def BadTo (w : World) (e : Ending) (w' : World) : Prop := (∃ F, e = .returned (.tuple #[.string ⟨#[]⟩, .int .i64 0, theFault F])) ∧ Below w.heap.size w w'
theorem over3_of {n m r : Nat} (h : ¬ (n ≤ 256 ∧ m ≤ 256 ∧ r ≤ 256)) : ∃ k, Over3 n m r k := by
  unfold Over3 Over
  by_cases h1 : 256 < n
  · exact ⟨0, .inl (.inl ⟨rfl, h1⟩)⟩
  by_cases h2 : 256 < m
  · exact ⟨1, .inl (.inr ⟨rfl, by omega, h2⟩)⟩
  · exact ⟨1, .inr ⟨by omega, by omega, .inr ⟨rfl, by omega, by omega⟩⟩⟩
attribute [-go_sem] run_string_add_if
set_option maxRecDepth 100000 in
set_option maxHeartbeats 2000000 in
theorem text_bad (w : World) (sb so st sa sn : ByteArray) (h1 : sb.size ≤ 20000) (h2 : so.size ≤ 20000) (h3 : st.size ≤ 20000) (k : Nat) (hk : Over3 (lns sb).length (lns so).length (lns st).length k) :
    Calls Tryz.prog 62 #[.string sb, .string so, .string st, .string sa, .string sn] w (BadTo w) := by
  have z1 : ∀ s ∈ lns sb, s.size ≤ maxLen := fun s hs => by have := mem_cat hs; rw [lns_cat, size_data] at this; unfold maxLen; omega
  have z2 : ∀ s ∈ lns so, s.size ≤ maxLen := fun s hs => by have := mem_cat hs; rw [lns_cat, size_data] at this; unfold maxLen; omega
  have S1 := Lib.hid (split_any w sb (by omega))
  have S2 := Lib.hid fun w1 => split_any w1 so (by omega)
  have S3 := Lib.hid fun w1 => split_any w1 st (by omega)
  have CH := Lib.hid fun w1 A B C c d f g0 g1 => chunks_bad w1 A B C c d f k (lns sb) (lns so) (lns st) g0 g1 z1 z2 hk
  have q1 : (cutL sb.data.toList).length = (lns sb).length := by simp
  have q2 : (cutL so.data.toList).length = (lns so).length := by simp
  have q3 : (cutL st.data.toList).length = (lns st).length := by simp
  have Q1 := Lib.hid q1
  have Q2 := Lib.hid q2
  have Q3 := Lib.hid q3
  clear z1 z2 h1 h2 h3 q1 q2 q3 hk
  go_enter Tryz.func62, Tryz.ntmps62
  go_wp2_with fail
  refine S1.out.mono ?_
  rintro e w1 ⟨v1, rfl, o1, b1⟩
  have t1 := Strs.of_own o1 Q1.out
  go_wp2_with fail
  refine (S2.out w1).mono ?_
  rintro e w2 ⟨v2, rfl, o2, d2⟩
  have t2 := Strs.of_own o2 Q2.out
  have b2 := below_trans b1 d2
  have t1' := t1.below d2
  clear o1 o2 b1 S1 S2 t1 Q1 Q2
  go_wp2_with fail
  refine (S3.out w2).mono ?_
  rintro e w3 ⟨v3, rfl, o3, d3⟩
  have t3 := Strs.of_own o3 Q3.out
  have b3 := below_trans b2 d3
  have t1'' := t1'.below d3
  have t2' := t2.below d3
  obtain ⟨A1, n1, c1, rfl, e1⟩ := t1''.form'
  obtain ⟨A2, n2, c2, rfl, e2⟩ := t2'.form'
  obtain ⟨A3, n3, c3, rfl, e3⟩ := t3.form'
  have C1 := Lib.hid (show Calls Tryz.prog 76 #[.slice A1 n1 c1, .slice A2 n2 c2, .slice A3 n3 c3] w3 (FaultTo2 (.slice none 0 0) k w3) from by
    have h := CH.out w3 A1 A2 A3 c1 c2 c3 (by rw [← e1]; exact t1'') (by rw [← e2]; exact t2')
    rw [← e1, ← e2, ← e3] at h
    exact h)
  have BB := Lib.hid b3
  clear o3 b2 b3 S3 t1' t1'' t2 t2' t3 d2 d3 CH Q3 e1 e2 e3
  go_wp2_with fail
  refine C1.out.mono ?_
  rintro e w4 ⟨F, rfl, _, b4⟩
  have B4 := Lib.hid (below_trans BB.out b4)
  clear b4 C1
  go_wp2
  go_ret3
  exact ⟨⟨F, rfl⟩, B4.out⟩
end Go.Proofs.YtapcnmnnichamaaGreatDoor.Mg

namespace Go.Proofs.YtapcnmnnichamaaGreatDoor.Mg
open Go Go.RowKit

abbrev wrongG (g : Nat) (e : Int) : Value := .agg #[.slice (some ⟨g, 0, none⟩) 1 1, .int .i64 e]
abbrev wrong0 : Value := .agg #[.slice none 0 0, .int .i64 0]
set_option maxRecDepth 100000 in
theorem refAt_gen (p : ByteArray) (n e : Int) (w : World) : Calls Tryz.prog 26 #[.string p, .int .i64 n, .int .i64 e] w fun x w' => ∃ g, x = .returned (wrongG g e) ∧ Blk w' g 82 #[.string p, .int .i64 n] ∧ w.heap.size ≤ g ∧ Below w.heap.size w w' := by
  go_enter Tryz.func26, Tryz.ntmps26
  go_wp2
  refine bodyPost_ret (results_cell_row (fn := Tryz.f26) rfl _ _ w.heap.size 40 #[.slice (some ⟨w.heap.size + 1, 0, none⟩) 1 1, .int .i64 e] (0, 0) _ rfl ((Blk.new w 40 _).alloc _) Tryz.underlying40 rfl (by kernel_rfl)) rfl ⟨w.heap.size + 1, rfl, ?_, by omega, ((Below.refl _ _).alloc (Nat.le_refl _) _).alloc (by simp) _⟩
  have h := heap_alloc_new (w.alloc (.cells #[.slice (some ⟨w.heap.size + 1, 0, none⟩) 1 1, .int .i64 e] 40)) (.cells #[.string p, .int .i64 n] 82)
  rw [show (w.alloc (.cells #[.slice (some ⟨w.heap.size + 1, 0, none⟩) 1 1, .int .i64 e] 40)).heap.size = w.heap.size + 1 by simp] at h
  exact h

/-- What the document's long answers. -/
def LongTo (n m : Nat) (w : World) (e : Ending) (w' : World) : Prop :=
  (n ≤ 256 ∧ m ≤ 256 ∧ e = .returned wrong0 ∧ Below w.heap.size w w') ∨ ∃ k g : Nat, Over n m k ∧ e = .returned (wrongG g 4) ∧ Blk w' g 82 #[.string bLines, .int .i64 (k : Int)] ∧ Below w.heap.size w w'
set_option maxHeartbeats 1000000 in
theorem long_any (w : World) (A B : Option Addr) (n c m d : Nat) (hn : n ≤ maxLen) (hm : m ≤ maxLen) : Calls Tryz.prog 134 #[.slice A n c, .slice B m d] w (LongTo n m w) := by
  have E1 := (Below.refl w.heap.size w).alloc (Nat.le_refl _) (.cells #[.slice none 0 0, .int .i64 0] 40)
  have hn0 : (n : Int) ≤ 9223372036854775807 := by unfold maxLen at hn; omega
  have hm0 : (m : Int) ≤ 9223372036854775807 := by unfold maxLen at hm; omega
  clear hn hm
  have RT := fun k => Lib.hid (refAt_gen bLines k 4 (w.alloc (.cells #[.slice none 0 0, .int .i64 0] 40)))
  have hh := Blk.new w 40 #[.slice none 0 0, .int .i64 0]
  have hsz : (w.alloc (.cells #[.slice none 0 0, .int .i64 0] 40)).heap.size = w.heap.size + 1 := by simp
  by_cases h1 : 256 < n
  · have hi : (256 : Int) < (n : Int) := by omega
    go_enter Tryz.func134, Tryz.ntmps134
    go_wp2_with fail
    refine (RT 0).out.mono ?_
    rintro e w2 ⟨g, rfl, hg, hgl, b2⟩
    have K2 := hh.below b2 hh.lt
    have c0 := K2.cell 0
    have c1 := K2.cell 1
    have f0 := K2.frozen 0
    have f1 := K2.frozen 1
    have E2 := E1.trans (b2.mono (by rw [hsz]; omega))
    have HK := Lib.hid K2
    have Hg := Lib.hid hg
    have Hne := Lib.hid (K2.ne_ hg (by decide))
    have HB2 := Lib.hid E2
    clear hg b2 K2 E2 hgl
    go_wp2
    refine bodyPost_ret (results_cell_row (fn := Tryz.f134) rfl _ _ w.heap.size 40 #[.slice (some ⟨g, 0, none⟩) 1 1, .int .i64 4] (0, 0) _ rfl (by first | exact (HK.out.set_ 0 _).set_ 1 _ | simpa using (HK.out.set_ 0 _).set_ 1 _) Tryz.underlying40 rfl (by kernel_rfl)) rfl (.inr ⟨0, g, .inl ⟨rfl, h1⟩, rfl, (Hg.out.far (fun e => Hne.out e.symm) _).far (fun e => Hne.out e.symm) _, (HB2.out.setCell (p := ⟨w.heap.size, 0, none⟩) (Nat.le_refl _) _).setCell (p := ⟨w.heap.size, 1, none⟩) (Nat.le_refl _) _⟩)
  · have hi : ¬ (256 : Int) < (n : Int) := by omega
    by_cases h2 : 256 < m
    · have hj : (256 : Int) < (m : Int) := by omega
      go_enter Tryz.func134, Tryz.ntmps134
      go_wp2_with fail
      refine (RT 1).out.mono ?_
      rintro e w2 ⟨g, rfl, hg, hgl, b2⟩
      have K2 := hh.below b2 hh.lt
      have c0 := K2.cell 0
      have c1 := K2.cell 1
      have f0 := K2.frozen 0
      have f1 := K2.frozen 1
      have E2 := E1.trans (b2.mono (by rw [hsz]; omega))
      have HK := Lib.hid K2
      have Hg := Lib.hid hg
      have Hne := Lib.hid (K2.ne_ hg (by decide))
      have HB2 := Lib.hid E2
      clear hg b2 K2 E2 hgl
      go_wp2
      refine bodyPost_ret (results_cell_row (fn := Tryz.f134) rfl _ _ w.heap.size 40 #[.slice (some ⟨g, 0, none⟩) 1 1, .int .i64 4] (0, 0) _ rfl (by first | exact (HK.out.set_ 0 _).set_ 1 _ | simpa using (HK.out.set_ 0 _).set_ 1 _) Tryz.underlying40 rfl (by kernel_rfl)) rfl (.inr ⟨1, g, .inr ⟨rfl, by omega, h2⟩, rfl, (Hg.out.far (fun e => Hne.out e.symm) _).far (fun e => Hne.out e.symm) _, (HB2.out.setCell (p := ⟨w.heap.size, 0, none⟩) (Nat.le_refl _) _).setCell (p := ⟨w.heap.size, 1, none⟩) (Nat.le_refl _) _⟩)
    · have hj : ¬ (256 : Int) < (m : Int) := by omega
      have c0 := hh.cell 0
      have c1 := hh.cell 1
      have f0 := hh.frozen 0
      have f1 := hh.frozen 1
      have HK := Lib.hid hh
      have HB2 := Lib.hid E1
      clear hh E1 RT
      go_enter Tryz.func134, Tryz.ntmps134
      go_wp2
      refine bodyPost_ret (results_cell_row (fn := Tryz.f134) rfl _ _ w.heap.size 40 #[.slice none 0 0, .int .i64 0] (0, 0) _ rfl (by first | exact HK.out | simpa using HK.out | exact (HK.out.set_ 0 _).set_ 1 _) Tryz.underlying40 rfl (by kernel_rfl)) rfl (.inl ⟨by omega, by omega, rfl, HB2.out⟩)
end Go.Proofs.YtapcnmnnichamaaGreatDoor.Mg

namespace Go.Proofs.YtapcnmnnichamaaGreatDoor.Mg
open Go Go.RowKit

theorem results_tmp_row {fn : Func} {t p : Tmp} {ty : TypeId} (h : fn.results = #[.tmp t, .cell p ty]) {P : Program} (tmps : Array Value) (w : World) (g : Nat) (tt : TypeId) (cs : Array Value) (fr : Nat × Nat) {fs : Array Field}
    (hp : tmps.getD p undef = .pointer (some ⟨g, 0, none⟩)) (hg : w.heap[g]? = some (.cells cs tt fr))
    (hu : P.underlying ty = some (.struct fs)) (hi : (P.info? ty).map (·.size) = some cs.size) :
    (results fn tmps).run P w = .ok (.tuple #[tmps.getD t undef, .agg cs]) w := by
  have hp' : tmps[p]?.getD undef = .pointer (some ⟨g, 0, none⟩) := by simpa using hp
  simp [results, h, hp', asAddr, run_loadVar_row w g tt ty cs fr (.struct fs) hg hu rfl hi, Result.andThen]

theorem grown_cellL (w : World) (g p : Nat) (u : Value) : w.grownBy (w.setCell ⟨g, p, none⟩ u) (some g) :=
  ⟨rfl, rfl, rfl, by simp, fun k _ hk => Below.heap_setCell _ _ _ _ (fun e => hk (by rw [e]))⟩
theorem refEditInfo : (Tryz.prog.info? 223).map (fun i => (i.zero, i.size, i.bytes)) = some (some (.agg #[.int .i64 0, .string ⟨#[]⟩]), 2, 24) := by kernel_rfl
/-- The document's edits, in a row of the call's own; or which text has too many lines. -/
def RefEdited (w : World) (xs ys : List ByteArray) (e : Ending) (w' : World) : Prop :=
  (xs.length ≤ 256 ∧ ys.length ≤ 256 ∧ ∃ v, e = .returned (.tuple #[v, wrong0]) ∧ w'.ownsRow w.heap.size 223 2 v (ed xs ys).length (edCells (ed xs ys)) ∧ Below w.heap.size w w') ∨
  ∃ k g : Nat, Over xs.length ys.length k ∧ e = .returned (.tuple #[.slice none 0 0, wrongG g 4]) ∧ Blk w' g 82 #[.string bLines, .int .i64 (k : Int)] ∧ Below w.heap.size w w'

/-- What the table has, at any place. -/
structure TabAt (W : World) (G : Nat) (xs ys : List ByteArray) (wr : World) : Prop where
  row : ∀ t, t ≤ xs.length → wr.cell? ⟨G, t, none⟩ = some (.slice (some ⟨G + 1 + (xs.length - t), 0, none⟩) (ys.length + 1) (ys.length + 1))
  cell : ∀ t j, t ≤ xs.length → j ≤ ys.length → wr.cell? ⟨G + 1 + (xs.length - t), j, none⟩ = some (.int .i64 (cT xs ys t j : Int))
theorem TabAt.of {w wr : World} {G : Nat} {xs ys : List ByteArray} (h : OutT w wr G xs ys 0) : TabAt w G xs ys wr :=
  ⟨fun t ht => by rw [h.top.cell (by omega)]; simp only [topV]; rw [if_pos (Nat.zero_le _)], fun t j ht hj => (h.done t (Nat.zero_le _) ht).cell (by omega)⟩
theorem TabAt.below {w wr w' : World} {G : Nat} {xs ys : List ByteArray} (h : TabAt w G xs ys wr) (hb : Below wr.heap.size wr w') : TabAt w G xs ys w' :=
  ⟨fun t ht => (hb.cell (World.block_lt_of_cell? _ _ (h.row t ht))).trans (h.row t ht), fun t j ht hj => (hb.cell (World.block_lt_of_cell? _ _ (h.cell t j ht hj))).trans (h.cell t j ht hj)⟩

set_option maxRecDepth 100000 in
set_option maxHeartbeats 4000000 in
theorem refLines_any (w : World) (v u : Value) (xs ys : List ByteArray) (h : Strs w v xs) (g : Strs w u ys) :
    Calls Tryz.prog 112 #[v, u] w (RefEdited w xs ys) := by
  obtain ⟨A, n, c, rfl⟩ := h.form
  obtain ⟨B, m, d, rfl⟩ := g.form
  have hln := h.len
  have hlm := g.len
  obtain rfl := h.len.1
  obtain rfl := g.len.1
  obtain ⟨i0, hi, hz0, hz1, hz2⟩ := info_parts refEditInfo
  have E1 := (Below.refl w.heap.size w).alloc (Nat.le_refl _) (.cells #[.slice none 0 0, .int .i64 0] 40)
  have K1 := Blk.new w 40 #[.slice none 0 0, .int .i64 0]
  have LO := Lib.hid (long_any (w.alloc (.cells #[.slice none 0 0, .int .i64 0] 40)) A B xs.length c ys.length d (by omega) (by omega))
  have HA := Lib.hid h
  have HB := Lib.hid g
  have hs1 : (w.alloc (.cells #[.slice none 0 0, .int .i64 0] 40)).heap.size = w.heap.size + 1 := by simp
  clear h g hln hlm
  go_enter Tryz.func112, Tryz.ntmps112
  go_wp2_with fail
  refine LO.out.mono ?_
  rintro e w2 (⟨hxl, hyl, rfl, hb2⟩ | ⟨k, g, hk, rfl, hg, hb2⟩)
  · have E2 := E1.trans (hb2.mono (by rw [hs1]; omega))
    have K2 := K1.below hb2 K1.lt
    have E3 := E2.trans (((Below.refl w2.heap.size w2).alloc (Nat.le_refl _) (.cells #[.slice none 0 0, .int .i64 0] 40)).mono E2.size)
    have K3 := K2.alloc (.cells #[.slice none 0 0, .int .i64 0] 40)
    have X3 := Blk.new w2 40 #[.slice none 0 0, .int .i64 0]
    have TB := Lib.hid (refCommon_tab (w2.alloc (.cells #[.slice none 0 0, .int .i64 0] 40)) _ _ xs ys (HA.out.below E3) (HB.out.below E3) hxl hyl)
    have HX2 := Lib.hid (show w.heap.size ≤ w2.heap.size from E2.size)
    have HE3 := Lib.hid E3
    have HK3 := Lib.hid K3
    have HX3 := Lib.hid X3
    obtain ⟨N, hN⟩ : ∃ N, N = xs.length + 1 := ⟨_, rfl⟩
    obtain ⟨M, hM⟩ : ∃ M, M = ys.length + 1 := ⟨_, rfl⟩
    have HN := Lib.hid hN
    have HM := Lib.hid hM
    clear E2 K2 E3 K3 X3 LO E1 K1 hb2 hs1
    go_wp2_with fail
    refine TB.out.mono ?_
    rintro e W4 ⟨G, rfl, hGl, hO, hb4⟩
    rw [← hN]
    clear hN hM
    have E4 := HE3.out.trans (hb4.mono HE3.out.size)
    have HTA := Lib.hid (TabAt.of hO)
    have HA4 := Lib.hid (HA.out.below E4)
    have HB4 := Lib.hid (HB.out.below E4)
    have HK4 := Lib.hid (HK3.out.below hb4 HK3.out.lt)
    have HX4 := Lib.hid (HX3.out.below hb4 HX3.out.lt)
    have HE4 := Lib.hid E4
    have hwW := E4.size
    clear TB HE3 HK3 HX3 hb4 E4 hO hGl HA HB
    obtain ⟨Y, hY⟩ : ∃ Y, Y = w.heap.size := ⟨_, rfl⟩
    obtain ⟨X, hX⟩ : ∃ X, X = w2.heap.size := ⟨_, rfl⟩
    rw [← hY, ← hX]
    rw [← hY] at HK4 HX2
    rw [← hX] at HX4 HX2
    have HY := Lib.hid hY
    clear hY hX
    go_wp2_with fail
    go_loopw [8, 9, 10] (fun s8 s9 s10 wr => ∃ (i j : Nat) (done : List (Nat × ByteArray)), i ≤ xs.length ∧ j ≤ ys.length ∧ s9 = .int .i64 i ∧ s10 = .int .i64 j ∧ Hid (done ++ ed (xs.drop i) (ys.drop j) = ed xs ys) ∧
        wr.ownsRow W4.heap.size 223 2 s8 done.length (edCells done) ∧ Below W4.heap.size W4 wr) (fun _ s9 s10 _ => (xs.length - (intOf s9).toNat) + (ys.length - (intOf s10).toNat))
    case atStart => exact ⟨0, 0, [], Nat.zero_le _, Nat.zero_le _, rfl, rfl, rfl, World.ownsRow_nil _ _ _ _, Below.refl _ _⟩
    case round =>
      obtain ⟨i, j, done, hil, hjl, rfl, rfl, hd, hown, hbr⟩ := hrel
      have hlen : done.length ≤ 512 := by
        have := congrArg List.length hd.out
        have := ed_len xs ys
        rw [List.length_append] at *
        omega
      have i0' : (0 : Int) ≤ (i : Int) := Int.natCast_nonneg _
      have j0' : (0 : Int) ≤ (j : Int) := Int.natCast_nonneg _
      by_cases hi1 : i < xs.length
      · have hi2 : (i : Int) < (xs.length : Int) := by omega
        obtain ⟨s, hs⟩ : ∃ s, xs[i]? = some s := ⟨_, List.getElem?_eq_getElem hi1⟩
        have HS := Lib.hid hs
        clear hs
        by_cases hj1 : j < ys.length
        · have hj2 : (j : Int) < (ys.length : Int) := by omega
          obtain ⟨t, ht⟩ : ∃ t, ys[j]? = some t := ⟨_, List.getElem?_eq_getElem hj1⟩
          have HTt := Lib.hid ht
          clear ht
          have TR := HTA.out.below hbr
          obtain ⟨a1, s1, rfl, hs1, d1⟩ := (HA4.out.below hbr).cell (k := i) (by omega)
          obtain ⟨a2, t1, rfl, ht1, d2⟩ := (HB4.out.below hbr).cell (k := j) (by omega)
          obtain rfl : s1 = s := Option.some.inj (hs1.symm.trans HS.out)
          obtain rfl : t1 = t := Option.some.inj (ht1.symm.trans HTt.out)
          clear hs1 ht1
          by_cases hst : s1 = t1
          · subst hst
            have HST : Hid (s1 = s1) := rfl
            clear TR
            go_wp2_with fail
            go_quiet (fail)
            generalize hw3 : wr.drewN _ = w3
            have hb3 : Below wr.heap.size wr w3 := by rw [← hw3]; exact below_drewN (Below.refl _ wr) _
            clear hw3
            have hbx := hbr.trans (hb3.mono hbr.size)
            have hS3 := (HA4.out.below hbx)
            obtain ⟨ad, s', had, hs', hc⟩ := hS3.cell (k := i) (by omega)
            cases had
            obtain rfl : s1 = s' := by have := HS.out; rw [hs'] at this; exact (Option.some.inj this).symm
            clear hs' hS3
            have hcl := World.block_lt_of_cell? _ _ hc
            have hown4 := (own2_keep hown hb3).alloc (.cells #[.int .i64 1, .string s1] 223)
            have hnews := World.news_of_block (cs := #[.int .i64 1, .string s1]) (t := 223) (fr := (0, 0)) (heap_alloc_new w3 (.cells #[.int .i64 1, .string s1] 223))
            have hb4 := hbx.alloc hbx.size (.cells #[.int .i64 1, .string s1] 223)
            have hsz4 := hb4.size
            go_wp2_with (at_builtin; refine wpList_append_own _ rfl _ _ 195 rfl W4.heap.size 223 i0 (.agg #[.int .i64 0, .string ⟨#[]⟩]) 2 24 Tryz.underlying195 hi hz0 hz1 hz2 rfl (by decide) _ _ _ rfl hown4 ⟨w3.heap.size, 0, none⟩ 1 1 [.int .i64 1, .string s1] rfl rfl hnews (by simp [Value.oneCell']) (by unfold maxLen; omega) (by omega) hsz4 ?_; intro v5 w5 hown5 hg5 _)
            have hb5 : Below W4.heap.size W4 w5 := hb4.grown hg5 hsz4 (fun k hk => (hown.lt k hk).1)
            clear hnews hown4 hg5 hb4
            go_roundw
            case rel => exact ⟨i + 1, j + 1, done ++ [(1, s1)], by omega, by omega, by go_num, by go_num, by rw [List.append_assoc]; have := hd.out; rw [ed_keep HS.out HTt.out rfl] at this; exact this, by simpa [edCells_snoc] using hown5, hb5⟩
            case measure => simp [intOf]; omega
          · have HST := Lib.hid hst
            have hse : (s1.toList == t1.toList) = false := by
              rw [ByteArray.toList_eq, ByteArray.toList_eq]
              simp
              intro h
              exact hst (ByteArray.ext h)
            have P0 := TR.row i (by omega)
            have P1 := TR.row (i + 1) (by omega)
            have P2 := TR.cell (i + 1) j (by omega) (by omega)
            have P3 := TR.cell i (j + 1) (by omega) (by omega)
            rw [← HM.out] at P0 P1
            have b1 := cT_le xs ys (i + 1) j
            have b2 := cT_le xs ys i (j + 1)
            have hiN : (i : Int) + 1 < (N : Int) := by have := HN.out; omega
            have hiN0 : (i : Int) < (N : Int) := by have := HN.out; omega
            have hjM : (j : Int) + 1 < (M : Int) := by have := HM.out; omega
            have hjM0 : (j : Int) < (M : Int) := by have := HM.out; omega
            have hsp : IntKind.i64.wrap ((i : Int) + 1) = (i : Int) + 1 := IntWalk.i64_in _ (by omega)
            have hsj : IntKind.i64.wrap ((j : Int) + 1) = (j : Int) + 1 := IntWalk.i64_in _ (by omega)
            have hjne : ((j : Int) == (ys.length : Int)) = false := by simpa using (show (j : Int) ≠ (ys.length : Int) by omega)
            clear TR hst
            obtain ⟨c1, hc1⟩ : ∃ c, c = cT xs ys (i + 1) j := ⟨_, rfl⟩
            obtain ⟨c2, hc2⟩ : ∃ c, c = cT xs ys i (j + 1) := ⟨_, rfl⟩
            rw [← hc1] at P2 b1
            rw [← hc2] at P3 b2
            have HC1 := Lib.hid hc1
            have HC2 := Lib.hid hc2
            clear hc1 hc2
            by_cases hle : c2 ≤ c1
            · have hli : (c2 : Int) ≤ (c1 : Int) := by omega
              have HLE : Hid (lc (xs.drop i) (ys.drop (j + 1)) ≤ lc (xs.drop (i + 1)) (ys.drop j)) := Lib.hid (by have h1 := HC1.out; have h2 := HC2.out; unfold cT at h1 h2; rw [← h1, ← h2]; exact hle)
              go_wp2_with fail
              go_quiet (fail)
              go_wp2_with fail
              go_quiet (fail)
              generalize hw3 : World.drewN (wr.drewN _) _ = w3
              have hb3 : Below wr.heap.size wr w3 := by rw [← hw3]; exact below_drewN (below_drewN (Below.refl _ wr) _) _
              clear hw3
              have hbx := hbr.trans (hb3.mono hbr.size)
              have hS3 := (HA4.out.below hbx)
              obtain ⟨ad, s', had, hs', hc⟩ := hS3.cell (k := i) (by omega)
              cases had
              obtain rfl : s1 = s' := by have := HS.out; rw [hs'] at this; exact (Option.some.inj this).symm
              clear hs' hS3
              have hcl := World.block_lt_of_cell? _ _ hc
              have hown4 := (own2_keep hown hb3).alloc (.cells #[.int .i64 2, .string s1] 223)
              have hnews := World.news_of_block (cs := #[.int .i64 2, .string s1]) (t := 223) (fr := (0, 0)) (heap_alloc_new w3 (.cells #[.int .i64 2, .string s1] 223))
              have hb4 := hbx.alloc hbx.size (.cells #[.int .i64 2, .string s1] 223)
              have hsz4 := hb4.size
              go_wp2_with (at_builtin; refine wpList_append_own _ rfl _ _ 195 rfl W4.heap.size 223 i0 (.agg #[.int .i64 0, .string ⟨#[]⟩]) 2 24 Tryz.underlying195 hi hz0 hz1 hz2 rfl (by decide) _ _ _ rfl hown4 ⟨w3.heap.size, 0, none⟩ 1 1 [.int .i64 2, .string s1] rfl rfl hnews (by simp [Value.oneCell']) (by unfold maxLen; omega) (by omega) hsz4 ?_; intro v5 w5 hown5 hg5 _)
              have hb5 : Below W4.heap.size W4 w5 := hb4.grown hg5 hsz4 (fun k hk => (hown.lt k hk).1)
              clear hnews hown4 hg5 hb4
              go_roundw
              case rel => exact ⟨i + 1, j, done ++ [(2, s1)], by omega, by omega, by go_num, by go_num, by rw [List.append_assoc]; have := hd.out; rw [ed_else HS.out HTt.out HST.out, if_pos HLE.out] at this; exact this, by simpa [edCells_snoc] using hown5, hb5⟩
              case measure => simp [intOf]; omega
            · have hli : (decide ((c2 : Int) ≤ (c1 : Int))) = false := decide_eq_false (by omega)
              have HLE : Hid (¬ lc (xs.drop i) (ys.drop (j + 1)) ≤ lc (xs.drop (i + 1)) (ys.drop j)) := Lib.hid (by have h1 := HC1.out; have h2 := HC2.out; unfold cT at h1 h2; rw [← h1, ← h2]; exact hle)
              go_wp2_with fail
              go_quiet (fail)
              go_wp2_with fail
              go_quiet (fail)
              generalize hw3 : World.drewN (wr.drewN _) _ = w3
              have hb3 : Below wr.heap.size wr w3 := by rw [← hw3]; exact below_drewN (below_drewN (Below.refl _ wr) _) _
              clear hw3
              have hbx := hbr.trans (hb3.mono hbr.size)
              have hS3 := (HB4.out.below hbx)
              obtain ⟨ad, s', had, hs', hc⟩ := hS3.cell (k := j) (by omega)
              cases had
              obtain rfl : t1 = s' := by have := HTt.out; rw [hs'] at this; exact (Option.some.inj this).symm
              clear hs' hS3
              have hcl := World.block_lt_of_cell? _ _ hc
              have hown4 := (own2_keep hown hb3).alloc (.cells #[.int .i64 3, .string t1] 223)
              have hnews := World.news_of_block (cs := #[.int .i64 3, .string t1]) (t := 223) (fr := (0, 0)) (heap_alloc_new w3 (.cells #[.int .i64 3, .string t1] 223))
              have hb4 := hbx.alloc hbx.size (.cells #[.int .i64 3, .string t1] 223)
              have hsz4 := hb4.size
              go_wp2_with (at_builtin; refine wpList_append_own _ rfl _ _ 195 rfl W4.heap.size 223 i0 (.agg #[.int .i64 0, .string ⟨#[]⟩]) 2 24 Tryz.underlying195 hi hz0 hz1 hz2 rfl (by decide) _ _ _ rfl hown4 ⟨w3.heap.size, 0, none⟩ 1 1 [.int .i64 3, .string t1] rfl rfl hnews (by simp [Value.oneCell']) (by unfold maxLen; omega) (by omega) hsz4 ?_; intro v5 w5 hown5 hg5 _)
              have hb5 : Below W4.heap.size W4 w5 := hb4.grown hg5 hsz4 (fun k hk => (hown.lt k hk).1)
              clear hnews hown4 hg5 hb4
              go_roundw
              case rel => exact ⟨i, j + 1, done ++ [(3, t1)], by omega, by omega, by go_num, by go_num, by rw [List.append_assoc]; have := hd.out; rw [ed_else HS.out HTt.out HST.out, if_neg HLE.out] at this; exact this, by simpa [edCells_snoc] using hown5, hb5⟩
              case measure => simp [intOf]; omega
        · obtain rfl : j = ys.length := by omega
          go_wp2_with fail
          go_quiet (fail)
          go_wp2_with fail
          go_quiet (fail)
          generalize hw3 : World.drewN (wr.drewN _) _ = w3
          have hb3 : Below wr.heap.size wr w3 := by rw [← hw3]; exact below_drewN (below_drewN (Below.refl _ wr) _) _
          clear hw3
          have hbx := hbr.trans (hb3.mono hbr.size)
          have hS3 := (HA4.out.below hbx)
          obtain ⟨ad, s', had, hs', hc⟩ := hS3.cell (k := i) (by omega)
          cases had
          obtain rfl : s = s' := by have := HS.out; rw [hs'] at this; exact (Option.some.inj this).symm
          clear hs' hS3
          have hcl := World.block_lt_of_cell? _ _ hc
          have hown4 := (own2_keep hown hb3).alloc (.cells #[.int .i64 2, .string s] 223)
          have hnews := World.news_of_block (cs := #[.int .i64 2, .string s]) (t := 223) (fr := (0, 0)) (heap_alloc_new w3 (.cells #[.int .i64 2, .string s] 223))
          have hb4 := hbx.alloc hbx.size (.cells #[.int .i64 2, .string s] 223)
          have hsz4 := hb4.size
          go_wp2_with (at_builtin; refine wpList_append_own _ rfl _ _ 195 rfl W4.heap.size 223 i0 (.agg #[.int .i64 0, .string ⟨#[]⟩]) 2 24 Tryz.underlying195 hi hz0 hz1 hz2 rfl (by decide) _ _ _ rfl hown4 ⟨w3.heap.size, 0, none⟩ 1 1 [.int .i64 2, .string s] rfl rfl hnews (by simp [Value.oneCell']) (by unfold maxLen; omega) (by omega) hsz4 ?_; intro v5 w5 hown5 hg5 _)
          have hb5 : Below W4.heap.size W4 w5 := hb4.grown hg5 hsz4 (fun k hk => (hown.lt k hk).1)
          clear hnews hown4 hg5 hb4
          go_roundw
          case rel => exact ⟨i + 1, ys.length, done ++ [(2, s)], by omega, by omega, by go_num, by go_num, by rw [List.append_assoc]; have := hd.out; rw [ed_end_b HS.out] at this; exact this, by simpa [edCells_snoc] using hown5, hb5⟩
          case measure => simp [intOf]; omega
      · obtain rfl : i = xs.length := by omega
        by_cases hj1 : j < ys.length
        · have hj2 : (j : Int) < (ys.length : Int) := by omega
          obtain ⟨t, ht⟩ : ∃ t, ys[j]? = some t := ⟨_, List.getElem?_eq_getElem hj1⟩
          have HTt := Lib.hid ht
          clear ht
          go_wp2_with fail
          go_quiet (fail)
          go_wp2_with fail
          go_quiet (fail)
          generalize hw3 : World.drewN (wr.drewN _) _ = w3
          have hb3 : Below wr.heap.size wr w3 := by rw [← hw3]; exact below_drewN (below_drewN (Below.refl _ wr) _) _
          clear hw3
          have hbx := hbr.trans (hb3.mono hbr.size)
          have hS3 := (HB4.out.below hbx)
          obtain ⟨ad, s', had, hs', hc⟩ := hS3.cell (k := j) (by omega)
          cases had
          obtain rfl : t = s' := by have := HTt.out; rw [hs'] at this; exact (Option.some.inj this).symm
          clear hs' hS3
          have hcl := World.block_lt_of_cell? _ _ hc
          have hown4 := (own2_keep hown hb3).alloc (.cells #[.int .i64 3, .string t] 223)
          have hnews := World.news_of_block (cs := #[.int .i64 3, .string t]) (t := 223) (fr := (0, 0)) (heap_alloc_new w3 (.cells #[.int .i64 3, .string t] 223))
          have hb4 := hbx.alloc hbx.size (.cells #[.int .i64 3, .string t] 223)
          have hsz4 := hb4.size
          go_wp2_with (at_builtin; refine wpList_append_own _ rfl _ _ 195 rfl W4.heap.size 223 i0 (.agg #[.int .i64 0, .string ⟨#[]⟩]) 2 24 Tryz.underlying195 hi hz0 hz1 hz2 rfl (by decide) _ _ _ rfl hown4 ⟨w3.heap.size, 0, none⟩ 1 1 [.int .i64 3, .string t] rfl rfl hnews (by simp [Value.oneCell']) (by unfold maxLen; omega) (by omega) hsz4 ?_; intro v5 w5 hown5 hg5 _)
          have hb5 : Below W4.heap.size W4 w5 := hb4.grown hg5 hsz4 (fun k hk => (hown.lt k hk).1)
          clear hnews hown4 hg5 hb4
          go_roundw
          case rel => exact ⟨xs.length, j + 1, done ++ [(3, t)], by omega, by omega, by go_num, by go_num, by rw [List.append_assoc]; have := hd.out; rw [ed_end_a HTt.out] at this; exact this, by simpa [edCells_snoc] using hown5, hb5⟩
          case measure => simp [intOf]; omega
        · obtain rfl : j = ys.length := by omega
          have hdd := hd.out
          rw [List.drop_length, List.drop_length, show ed ([] : List ByteArray) [] = [] from rfl, List.append_nil] at hdd
          subst hdd
          have KY := HK4.out.below hbr HK4.out.lt
          have KX := HX4.out.below hbr HX4.out.lt
          have c0 := KX.cell 0
          have c1 := KX.cell 1
          have y0 := KY.cell 0
          have y1 := KY.cell 1
          have f0 := KY.frozen 0
          have f1 := KY.frozen 1
          have HKY := Lib.hid KY
          have BR := Lib.hid (HE4.out.trans (hbr.mono HE4.out.size))
          have O := Lib.hid hown
          have O9 := Lib.hid (own2_le ((hown.kept (grown_cellL wr Y 0 (.slice none 0 0)) (.inr (own_blk_ne hown KY (by decide)))).kept (grown_cellL (wr.setCell ⟨Y, 0, none⟩ (.slice none 0 0)) Y 1 (.int .i64 0)) (.inr (own_blk_ne hown KY (by decide)))) hwW)
          have hYw : w.heap.size ≤ Y := by rw [HY.out]; exact Nat.le_refl _
          have B9 := Lib.hid ((BR.out.setCell (p := ⟨Y, 0, none⟩) hYw (.slice none 0 0)).setCell (p := ⟨Y, 1, none⟩) hYw (.int .i64 0))
          clear KX KY hown hYw
          go_wp2_with fail
          go_region
          go_wp2_with fail
          refine bodyPost_ret (results_tmp_row (fn := Tryz.f112) rfl _ _ Y 40 #[.slice none 0 0, .int .i64 0] (0, 0) rfl (by first | exact (HKY.out.set_ 0 _).set_ 1 _ | simpa using (HKY.out.set_ 0 (.slice none 0 0)).set_ 1 (.int .i64 0)) Tryz.underlying40 (by kernel_rfl)) rfl (.inl ⟨hxl, hyl, _, rfl, ?_, ?_⟩)
          · exact O9.out
          · first | exact B9.out | exact B9.out.drew
  · have E2 := E1.trans (hb2.mono (by rw [hs1]; omega))
    have K2 := K1.below hb2 K1.lt
    have K3 := K2.alloc (.cells #[.slice (some ⟨g, 0, none⟩) 1 1, .int .i64 4] 40)
    have X3 := Blk.new w2 40 #[.slice (some ⟨g, 0, none⟩) 1 1, .int .i64 4]
    have G3 := Lib.hid (Blk.alloc hg (.cells #[.slice (some ⟨g, 0, none⟩) 1 1, .int .i64 4] 40))
    have E3 := Lib.hid (E2.trans (((Below.refl w2.heap.size w2).alloc (Nat.le_refl _) (.cells #[.slice (some ⟨g, 0, none⟩) 1 1, .int .i64 4] 40)).mono E2.size))
    have c0 := X3.cell 0
    have c1 := X3.cell 1
    have y0 := K3.cell 0
    have y1 := K3.cell 1
    have f0 := K3.frozen 0
    have f1 := K3.frozen 1
    have HK3 := Lib.hid K3
    have HYG := Lib.hid (K3.ne_ G3.out (by decide))
    have hYX : w.heap.size ≠ w2.heap.size := by have := K2.lt; omega
    have HOV := Lib.hid hk
    clear hg X3 K3 K1 E1 E2 LO hb2 hs1 hk K2
    go_wp2_with fail
    generalize hW3 : w2.alloc (.cells #[.slice (some ⟨g, 0, none⟩) 1 1, .int .i64 4] 40) = W3 at *
    go_region
    go_wp2_with fail
    refine bodyPost_ret (results_tmp_row (fn := Tryz.f112) rfl _ _ w.heap.size 40 #[.slice (some ⟨g, 0, none⟩) 1 1, .int .i64 4] (0, 0) rfl (by first | exact (HK3.out.set_ 0 _).set_ 1 _ | simpa using (HK3.out.set_ 0 (.slice (some ⟨g, 0, none⟩) 1 1)).set_ 1 (.int .i64 4)) Tryz.underlying40 (by kernel_rfl)) rfl (.inr ⟨k, g, HOV.out, rfl, (G3.out.far (p := ⟨w.heap.size, 0, none⟩) (fun e => HYG.out e.symm) _).far (p := ⟨w.heap.size, 1, none⟩) (fun e => HYG.out e.symm) _, ?_⟩)
    exact ((E3.out.setCell (p := ⟨w.heap.size, 0, none⟩) (Nat.le_refl _) _).setCell (p := ⟨w.heap.size, 1, none⟩) (Nat.le_refl _) _).drew
end Go.Proofs.YtapcnmnnichamaaGreatDoor.Mg

namespace Go.Proofs.YtapcnmnnichamaaGreatDoor.Mg
open Go Go.RowKit

theorem edA_append (l m : List (Nat × ByteArray)) : edA (l ++ m) = edA l ++ edA m := by simp [edA]
theorem edB_append (l m : List (Nat × ByteArray)) : edB (l ++ m) = edB l ++ edB m := by simp [edB]
theorem edA_1 (s : ByteArray) : edA [((1 : Nat), s)] = [s] := by rw [edA_cons]; simp [edA]
theorem edB_1 (s : ByteArray) : edB [((1 : Nat), s)] = [s] := by rw [edB_cons]; simp [edB]
theorem edA_2 (s : ByteArray) : edA [((2 : Nat), s)] = [s] := by rw [edA_cons]; simp [edA]
theorem edB_2 (s : ByteArray) : edB [((2 : Nat), s)] = [] := by rw [edB_cons]; simp [edB]
theorem edA_3 (s : ByteArray) : edA [((3 : Nat), s)] = [] := by rw [edA_cons]; simp [edA]
theorem edB_3 (s : ByteArray) : edB [((3 : Nat), s)] = [s] := by rw [edB_cons]; simp [edB]
theorem pls_append (m : List (Nat × ByteArray)) : ∀ (l : List (Nat × ByteArray)) (_ : ∀ e ∈ l, e.1 = 1 ∨ e.1 = 2 ∨ e.1 = 3) (a : Nat), pls (l ++ m) a = pls l a ++ pls m (a + (edB l).length)
  | [], _, a => by simp [pls, edB]
  | (k, x) :: l, h, a => by
    have ih := pls_append m l (fun e he => h e (List.mem_cons_of_mem _ he))
    have hk := h (k, x) (List.mem_cons_self ..)
    simp only at hk
    rw [List.cons_append, edB_cons]
    simp only [pls]
    rcases hk with rfl | rfl | rfl
    · simp only [if_true]
      rw [ih, if_neg (by omega), List.cons_append, List.length_cons, show a + 1 + (edB l).length = a + ((edB l).length + 1) by omega]
    · simp only [if_true]
      rw [if_neg (by omega), if_neg (by omega), ih, List.cons_append]
    · rw [if_neg (by omega), if_neg (by omega), if_neg (by omega), if_neg (by omega), if_neg (by omega), ih, List.length_cons, show a + 1 + (edB l).length = a + ((edB l).length + 1) by omega]
/-- As the program writes a place. -/
def pzV : Option (Option Nat) → Value
  | some (some j) => .int .i64 (j : Int)
  | some none => .int .i64 (-1)
  | none => .int .i64 0
/-- How far the edits before the k-th have come. -/
structure KeptAt (l : List (Nat × ByteArray)) (k i j : Nat) : Prop where
  i : i = (edA (l.take k)).length
  j : j = (edB (l.take k)).length
theorem KeptAt.zero (l : List (Nat × ByteArray)) : KeptAt l 0 0 0 := ⟨by simp [edA], by simp [edB]⟩
theorem take_snocK {l : List (Nat × ByteArray)} {k : Nat} {e : Nat × ByteArray} (h : l[k]? = some e) : l.take (k + 1) = l.take k ++ [e] := by rw [List.take_add_one, h]; rfl
theorem KeptAt.split {l : List (Nat × ByteArray)} {k : Nat} {e : Nat × ByteArray} (h : l[k]? = some e) : l = l.take k ++ e :: l.drop (k + 1) := by
  obtain ⟨hk, rfl⟩ := List.getElem?_eq_some_iff.1 h
  rw [← List.drop_eq_getElem_cons hk, List.take_append_drop]
theorem KeptAt.one {l : List (Nat × ByteArray)} {k i j : Nat} {s : ByteArray} (hops : ∀ e ∈ l, e.1 = 1 ∨ e.1 = 2 ∨ e.1 = 3) (h : KeptAt l k i j) (hs : l[k]? = some (1, s)) : KeptAt l (k + 1) (i + 1) (j + 1) ∧ i < (edA l).length ∧ (pls l 0)[i]? = some (some j) := by
  have hspl := KeptAt.split hs
  have ht := fun e (he : e ∈ l.take k) => hops e (List.mem_of_mem_take he)
  refine ⟨⟨?_, ?_⟩, ?_, ?_⟩
  · rw [take_snocK hs, edA_append, h.i, edA_1]; simp
  · rw [take_snocK hs, edB_append, h.j, edB_1]; simp
  · rw [hspl, edA_append, edA_cons, h.i]; simp
  · rw [hspl, pls_append _ _ ht, h.i, ← (show (pls (l.take k) 0).length = (edA (l.take k)).length from pls_len _ ht 0), List.getElem?_append_right (Nat.le_refl _), Nat.sub_self, h.j]
    simp [pls]
theorem KeptAt.two {l : List (Nat × ByteArray)} {k i j : Nat} {s : ByteArray} (hops : ∀ e ∈ l, e.1 = 1 ∨ e.1 = 2 ∨ e.1 = 3) (h : KeptAt l k i j) (hs : l[k]? = some (2, s)) : KeptAt l (k + 1) (i + 1) j ∧ i < (edA l).length ∧ (pls l 0)[i]? = some none := by
  have hspl := KeptAt.split hs
  have ht := fun e (he : e ∈ l.take k) => hops e (List.mem_of_mem_take he)
  refine ⟨⟨?_, ?_⟩, ?_, ?_⟩
  · rw [take_snocK hs, edA_append, h.i, edA_2]; simp
  · rw [take_snocK hs, edB_append, h.j, edB_2]; simp
  · rw [hspl, edA_append, edA_cons, h.i]; simp
  · rw [hspl, pls_append _ _ ht, h.i, ← (show (pls (l.take k) 0).length = (edA (l.take k)).length from pls_len _ ht 0), List.getElem?_append_right (Nat.le_refl _), Nat.sub_self]
    simp [pls]
theorem KeptAt.three {l : List (Nat × ByteArray)} {k i j : Nat} {s : ByteArray} (h : KeptAt l k i j) (hs : l[k]? = some (3, s)) : KeptAt l (k + 1) i (j + 1) :=
  ⟨by rw [take_snocK hs, edA_append, h.i, edA_3]; simp, by rw [take_snocK hs, edB_append, h.j, edB_3]; simp⟩

/-- The places, in a row of the call's own. -/
def KeptTo (w : World) (p : List (Option Nat)) (n : Nat) (e : Ending) (w' : World) : Prop :=
  ∃ G, e = .returned (.slice (some ⟨G, 0, none⟩) n n) ∧ w.heap.size ≤ G ∧ w'.rowIs G 3 n (fun t => pzV p[t]?) ∧ Below w.heap.size w w'
/-- Filled up to i. -/
def keptV (p : List (Option Nat)) (i : Nat) : Nat → Value := fun t => if t < i then pzV p[t]? else .int .i64 0

set_option maxRecDepth 100000 in
set_option maxHeartbeats 2000000 in
theorem refKept_any (w : World) (base : Nat) (v : Value) (l : List (Nat × ByteArray)) (n : Nat) (h : w.ownsRow base 223 2 v l.length (edCells l)) (hops0 : ∀ x ∈ l, x.1 = 1 ∨ x.1 = 2 ∨ x.1 = 3) (hel : l.length ≤ 1000) (hn : n = (edA l).length) (hn1 : n ≤ 1000) :
    Calls Tryz.prog 113 #[v, .int .i64 (n : Int)] w (KeptTo w (pls l 0) n) := by
  have hops := Lib.hid hops0
  have HO := Lib.hid h
  have HN := Lib.hid hn
  obtain ⟨A, m, c, rfl⟩ : ∃ A m c, v = .slice A m c := by
    rcases h.2 with ⟨rfl, _⟩ | ⟨g, cap, cur, rfl, _⟩
    · exact ⟨_, _, _, rfl⟩
    · exact ⟨_, _, _, rfl⟩
  obtain rfl : m = l.length := by
    rcases h.2 with ⟨e, e2⟩ | ⟨g, cap, cur, e, _⟩
    · cases e; exact e2.symm
    · cases e; rfl
  have mk1 := fun W => run_make_row' (P := Tryz.prog) 187 3 (.int .i64 0) 8 Tryz.underlying187 intInfoC rfl .i64 .i64 n (by omega) (by omega) W
  have R0 := Lib.hid ((World.rowIs_made w (.int .i64 0) n 3).congr (g := keptV (pls l 0) 0) (fun i _ => by simp [keptV]))
  have S0 := Lib.hid ((Below.refl w.heap.size w).alloc (Nat.le_refl _) (.cells (madeCells #[.int .i64 0] n) 3))
  clear h hops0 hn
  go_enter Tryz.func113, Tryz.ntmps113
  go_wp2_with fail
  obtain ⟨G, hG⟩ : ∃ G, G = w.heap.size := ⟨_, rfl⟩
  rw [← hG] at R0 ⊢
  have HG := Lib.hid hG
  clear hG mk1
  go_loopw [6, 7, 8] (fun s6 s7 s8 wr => ∃ k i j : Nat, k ≤ l.length ∧ s8 = .int .i64 k ∧ s6 = .int .i64 i ∧ s7 = .int .i64 j ∧ Hid (KeptAt l k i j) ∧ Hid (wr.rowIs G 3 n (keptV (pls l 0) i)) ∧ Hid (Below w.heap.size w wr)) (fun _ _ s8 _ => l.length - (intOf s8).toNat)
  case atStart => exact ⟨0, 0, 0, Nat.zero_le _, rfl, rfl, rfl, KeptAt.zero l, R0, S0⟩
  case round =>
    clear R0 S0
    obtain ⟨k, i, j, hk, rfl, rfl, rfl, hka, hr, hb⟩ := hrel
    have k0 : (0 : Int) ≤ (k : Int) := Int.natCast_nonneg _
    have i0 : (0 : Int) ≤ (i : Int) := Int.natCast_nonneg _
    have hil : i ≤ l.length := by rw [hka.out.i]; unfold edA; rw [List.length_map]; exact Nat.le_trans (List.length_filter_le _ _) (by rw [List.length_take]; omega)
    have hjl : j ≤ l.length := by rw [hka.out.j]; unfold edB; rw [List.length_map]; exact Nat.le_trans (List.length_filter_le _ _) (by rw [List.length_take]; omega)
    by_cases hlt : k < l.length
    · obtain ⟨⟨op, s⟩, hs⟩ : ∃ x, l[k]? = some x := ⟨_, List.getElem?_eq_getElem hlt⟩
      have ho := own2_keep HO.out hb.out
      obtain ⟨g, rfl⟩ : ∃ g, A = some ⟨g, 0, none⟩ := by
        rcases ho.2 with ⟨_, e2⟩ | ⟨g, cap, cur, e, _⟩
        · omega
        · cases e; exact ⟨_, rfl⟩
      have k1 : (k : Int) < (l.length : Int) := by omega
      obtain ⟨x1, x2⟩ := edCells_at hs
      have c1 := own2_at ho x1
      have hop := hops.out _ (List.mem_of_getElem? hs)
      simp only at hop
      have HS := Lib.hid hs
      clear ho x1 x2 hs
      rcases hop with rfl | rfl | rfl
      · obtain ⟨K1, hi2, hpl⟩ := hka.out.one hops.out HS.out
        have hin : (i : Int) < (n : Int) := by have := HN.out; omega
        have r1 := hr.out.cell (i := i) (by omega)
        have r2 := hr.out.frozen i
        have R1 := Lib.hid ((hr.out.set i (.int .i64 (j : Int))).congr (g := keptV (pls l 0) (i + 1)) (fun t _ => by
          simp only [keptV]
          by_cases e : t = i
          · subst e; rw [if_pos rfl, if_pos (by omega), hpl]; rfl
          · rw [if_neg e]
            by_cases e2 : t < i
            · rw [if_pos e2, if_pos (by omega)]
            · rw [if_neg e2, if_neg (by omega)]))
        have B1 := Lib.hid (hb.out.setCell (p := ⟨G, i, none⟩) (by rw [HG.out]; exact Nat.le_refl _) (.int .i64 (j : Int)))
        have HK1 := Lib.hid K1
        clear K1 hi2 hpl hka
        go_wp2
        go_roundw
        case rel => exact ⟨k + 1, i + 1, j + 1, by omega, by go_num, by go_num, by go_num, HK1.out, R1.out, B1.out⟩
        case measure => simp [intOf]; omega
      · obtain ⟨K1, hi2, hpl⟩ := hka.out.two hops.out HS.out
        have hin : (i : Int) < (n : Int) := by have := HN.out; omega
        have r1 := hr.out.cell (i := i) (by omega)
        have r2 := hr.out.frozen i
        have R1 := Lib.hid ((hr.out.set i (.int .i64 (-1))).congr (g := keptV (pls l 0) (i + 1)) (fun t _ => by
          simp only [keptV]
          by_cases e : t = i
          · subst e; rw [if_pos rfl, if_pos (by omega), hpl]; rfl
          · rw [if_neg e]
            by_cases e2 : t < i
            · rw [if_pos e2, if_pos (by omega)]
            · rw [if_neg e2, if_neg (by omega)]))
        have B1 := Lib.hid (hb.out.setCell (p := ⟨G, i, none⟩) (by rw [HG.out]; exact Nat.le_refl _) (.int .i64 (-1)))
        have HK1 := Lib.hid K1
        clear K1 hi2 hpl hka
        go_wp2
        go_roundw
        case rel => exact ⟨k + 1, i + 1, j, by omega, by go_num, by go_num, rfl, HK1.out, R1.out, B1.out⟩
        case measure => simp [intOf]; omega
      · have HK1 := Lib.hid (hka.out.three HS.out)
        clear hka
        go_wp2
        go_roundw
        case rel => exact ⟨k + 1, i, j + 1, by omega, by go_num, rfl, by go_num, HK1.out, hr.out, hb.out⟩
        case measure => simp [intOf]; omega
    · obtain rfl : k = l.length := by omega
      have hin := Lib.hid (show i = n by rw [hka.out.i, List.take_length, HN.out])
      go_wp2
      go_ret
      refine ⟨G, rfl, by rw [HG.out]; exact Nat.le_refl _, hr.out.congr (fun t ht => ?_), hb.out⟩
      simp only [keptV]
      rw [if_pos (by have := hin.out; omega)]
end Go.Proofs.YtapcnmnnichamaaGreatDoor.Mg

namespace Go.Proofs.YtapcnmnnichamaaGreatDoor.Mg
open Go Go.RowKit

/-- A piece by value: its texts are the call's arguments. -/
def BetwTo (w : World) (v0 v1 v2 : Value) (xs ys zs : List ByteArray) (c : Ck ByteArray) (e : Ending) (w' : World) : Prop :=
  ∃ ve, e = .returned (.agg #[v0, v1, v2, .bool c.clash, ve]) ∧ (∀ W0, Strs W0 v0 xs → Strs W0 v1 ys → Strs W0 v2 zs → Strs W0 ve c.out) ∧ Below w.heap.size w w'

set_option maxHeartbeats 2000000 in
theorem refBetween_any (w : World) (v0 v1 v2 : Value) (xs ys zs : List ByteArray) (h0 : Strs w v0 xs) (h1 : Strs w v1 ys) (h2 : Strs w v2 zs) :
    Calls Tryz.prog 114 #[v0, v1, v2] w (BetwTo w v0 v1 v2 xs ys zs (decideC xs ys zs)) := by
  obtain ⟨A0, n0, c0, rfl⟩ := h0.form
  obtain ⟨A1, n1, c1, rfl⟩ := h1.form
  obtain ⟨A2, n2, c2, rfl⟩ := h2.form
  have B1 := (Below.refl w.heap.size w).alloc (Nat.le_refl _) (.cells #[.slice none 0 0, .slice none 0 0, .slice none 0 0, .bool false, .slice none 0 0] 168)
  have B2 := Lib.hid (B1.alloc B1.size (.cells #[.slice A0 n0 c0, .slice A1 n1 c1, .slice A2 n2 c2, .bool false, .slice none 0 0] 168))
  have K6 := (Blk.new w 168 #[.slice none 0 0, .slice none 0 0, .slice none 0 0, .bool false, .slice none 0 0]).alloc (.cells #[.slice A0 n0 c0, .slice A1 n1 c1, .slice A2 n2 c2, .bool false, .slice none 0 0] 168)
  have K7 := Blk.new (w.alloc (.cells #[.slice none 0 0, .slice none 0 0, .slice none 0 0, .bool false, .slice none 0 0] 168)) 168 #[.slice A0 n0 c0, .slice A1 n1 c1, .slice A2 n2 c2, .bool false, .slice none 0 0]
  have hz : (w.alloc (.cells #[.slice none 0 0, .slice none 0 0, .slice none 0 0, .bool false, .slice none 0 0] 168)).heap.size = w.heap.size + 1 := by simp
  rw [hz] at K7
  have H0 := Lib.hid h0
  have H1 := Lib.hid h1
  have H2 := Lib.hid h2
  clear B1 hz h0 h1 h2
  have EQ := Lib.hid fun W' (hb : Below w.heap.size w W') => refEqual_any W' _ _ ys xs (H1.out.below hb) (H0.out.below hb)
  have EQ2 := Lib.hid fun W' (hb : Below w.heap.size w W') => refEqual_any W' _ _ zs xs (H2.out.below hb) (H0.out.below hb)
  have EQ3 := Lib.hid fun W' (hb : Below w.heap.size w W') => refEqual_any W' _ _ ys zs (H1.out.below hb) (H2.out.below hb)
  obtain ⟨X, hX⟩ : ∃ X, X = w.heap.size := ⟨_, rfl⟩
  obtain ⟨Y, hY⟩ : ∃ Y, Y = w.heap.size + 1 := ⟨_, rfl⟩
  have hXY : X ≠ Y := by omega
  have hYX : Y ≠ X := by omega
  have HX := Lib.hid (show w.heap.size ≤ X by omega)
  have HY := Lib.hid (show w.heap.size ≤ Y by omega)
  by_cases e1 : ys = xs
  · have hd : decideC xs ys zs = ⟨xs, ys, zs, false, zs⟩ := by unfold decideC; rw [if_pos e1]
    rw [hd]
    clear hd
    have HE1 := Lib.hid e1
    clear e1
    go_enter Tryz.func114, Tryz.ntmps114
    go_wp2_with fail
    rw [← hY, ← hX]
    generalize (w.alloc (.cells #[.slice none 0 0, .slice none 0 0, .slice none 0 0, .bool false, .slice none 0 0] 168)).alloc (.cells #[.slice A0 n0 c0, .slice A1 n1 c1, .slice A2 n2 c2, .bool false, .slice none 0 0] 168) = W at *
    rw [← hX] at K6
    rw [← hY] at K7
    clear hX hY
    refine (EQ.out W B2.out).mono ?_
    rintro e w2 ⟨q1, rfl, hq1⟩
    rw [decide_eq_true HE1.out]
    have K61 : Blk w2 X 168 #[.slice none 0 0, .slice none 0 0, .slice none 0 0, .bool false, .slice none 0 0] := by rw [hq1]; exact K6
    have K71 : Blk w2 Y 168 #[.slice A0 n0 c0, .slice A1 n1 c1, .slice A2 n2 c2, .bool false, .slice none 0 0] := by rw [hq1]; exact K7
    have B3 := Lib.hid (show Below w.heap.size w w2 by rw [hq1]; exact below_drewN B2.out _)
    clear hq1 K6 K7
    have y0 := K71.cell 0
    have y1 := K71.cell 1
    have y2 := K71.cell 2
    have y3 := K71.cell 3
    have y4 := K71.cell 4
    have x0 := K61.cell 0
    have f0 := K61.frozen 0
    have x1 := K61.cell 1
    have f1 := K61.frozen 1
    have x2 := K61.cell 2
    have f2 := K61.frozen 2
    have x3 := K61.cell 3
    have f3 := K61.frozen 3
    have x4 := K61.cell 4
    have f4 := K61.frozen 4
    have g3 := K71.frozen 3
    have g4 := K71.frozen 4
    have KF := Lib.hid (((((((K61.far (p := ⟨Y, 4, none⟩) hXY (.slice A2 n2 c2)).set_ 0 (.slice A0 n0 c0)).set_ 1 (.slice A1 n1 c1)).set_ 2 (.slice A2 n2 c2)).set_ 3 (.bool false)).set_ 4 (.slice A2 n2 c2)))
    have BF := Lib.hid ((((((B3.out.setCell (p := ⟨Y, 4, none⟩) HY.out (.slice A2 n2 c2)).setCell (p := ⟨X, 0, none⟩) HX.out (.slice A0 n0 c0)).setCell (p := ⟨X, 1, none⟩) HX.out (.slice A1 n1 c1)).setCell (p := ⟨X, 2, none⟩) HX.out (.slice A2 n2 c2)).setCell (p := ⟨X, 3, none⟩) HX.out (.bool false)).setCell (p := ⟨X, 4, none⟩) HX.out (.slice A2 n2 c2))
    clear K61 K71
    go_wp2
    refine bodyPost_ret (results_cell_row (fn := Tryz.f114) rfl _ _ X 168 #[.slice A0 n0 c0, .slice A1 n1 c1, .slice A2 n2 c2, .bool false, .slice A2 n2 c2] (0, 0) _ rfl (by first | exact KF.out | simpa using KF.out) Tryz.underlying168 rfl (by kernel_rfl)) rfl ⟨.slice A2 n2 c2, rfl, ?_, ?_⟩
    · exact fun _ _ _ d => d
    · first | exact BF.out | simpa using BF.out
  · by_cases e2 : zs = xs
    · have hd : decideC xs ys zs = ⟨xs, ys, zs, false, ys⟩ := by unfold decideC; rw [if_neg e1, if_pos (.inl e2)]
      rw [hd]
      clear hd
      have HE1 := Lib.hid e1
      clear e1
      have HE2 := Lib.hid e2
      clear e2
      go_enter Tryz.func114, Tryz.ntmps114
      go_wp2_with fail
      rw [← hY, ← hX]
      generalize (w.alloc (.cells #[.slice none 0 0, .slice none 0 0, .slice none 0 0, .bool false, .slice none 0 0] 168)).alloc (.cells #[.slice A0 n0 c0, .slice A1 n1 c1, .slice A2 n2 c2, .bool false, .slice none 0 0] 168) = W at *
      rw [← hX] at K6
      rw [← hY] at K7
      clear hX hY
      refine (EQ.out W B2.out).mono ?_
      rintro e w2 ⟨q1, rfl, hq1⟩
      rw [decide_eq_false HE1.out]
      have K61 : Blk w2 X 168 #[.slice none 0 0, .slice none 0 0, .slice none 0 0, .bool false, .slice none 0 0] := by rw [hq1]; exact K6
      have K71 : Blk w2 Y 168 #[.slice A0 n0 c0, .slice A1 n1 c1, .slice A2 n2 c2, .bool false, .slice none 0 0] := by rw [hq1]; exact K7
      have B3 := Lib.hid (show Below w.heap.size w w2 by rw [hq1]; exact below_drewN B2.out _)
      clear hq1 K6 K7
      go_wp2_with fail
      refine (EQ2.out w2 B3.out).mono ?_
      rintro e w3 ⟨q2, rfl, hq2⟩
      rw [decide_eq_true HE2.out]
      have K62 : Blk w3 X 168 #[.slice none 0 0, .slice none 0 0, .slice none 0 0, .bool false, .slice none 0 0] := by rw [hq2]; exact K61
      have K72 : Blk w3 Y 168 #[.slice A0 n0 c0, .slice A1 n1 c1, .slice A2 n2 c2, .bool false, .slice none 0 0] := by rw [hq2]; exact K71
      have B4 := Lib.hid (show Below w.heap.size w w3 by rw [hq2]; exact below_drewN B3.out _)
      clear hq2 K61 K71
      have y0 := K72.cell 0
      have y1 := K72.cell 1
      have y2 := K72.cell 2
      have y3 := K72.cell 3
      have y4 := K72.cell 4
      have x0 := K62.cell 0
      have f0 := K62.frozen 0
      have x1 := K62.cell 1
      have f1 := K62.frozen 1
      have x2 := K62.cell 2
      have f2 := K62.frozen 2
      have x3 := K62.cell 3
      have f3 := K62.frozen 3
      have x4 := K62.cell 4
      have f4 := K62.frozen 4
      have g3 := K72.frozen 3
      have g4 := K72.frozen 4
      have KF := Lib.hid (((((((K62.far (p := ⟨Y, 4, none⟩) hXY (.slice A1 n1 c1)).set_ 0 (.slice A0 n0 c0)).set_ 1 (.slice A1 n1 c1)).set_ 2 (.slice A2 n2 c2)).set_ 3 (.bool false)).set_ 4 (.slice A1 n1 c1)))
      have BF := Lib.hid ((((((B4.out.setCell (p := ⟨Y, 4, none⟩) HY.out (.slice A1 n1 c1)).setCell (p := ⟨X, 0, none⟩) HX.out (.slice A0 n0 c0)).setCell (p := ⟨X, 1, none⟩) HX.out (.slice A1 n1 c1)).setCell (p := ⟨X, 2, none⟩) HX.out (.slice A2 n2 c2)).setCell (p := ⟨X, 3, none⟩) HX.out (.bool false)).setCell (p := ⟨X, 4, none⟩) HX.out (.slice A1 n1 c1))
      clear K62 K72
      go_wp2
      refine bodyPost_ret (results_cell_row (fn := Tryz.f114) rfl _ _ X 168 #[.slice A0 n0 c0, .slice A1 n1 c1, .slice A2 n2 c2, .bool false, .slice A1 n1 c1] (0, 0) _ rfl (by first | exact KF.out | simpa using KF.out) Tryz.underlying168 rfl (by kernel_rfl)) rfl ⟨.slice A1 n1 c1, rfl, ?_, ?_⟩
      · exact fun _ _ b _ => b
      · first | exact BF.out | simpa using BF.out
    · by_cases e3 : ys = zs
      · have hd : decideC xs ys zs = ⟨xs, ys, zs, false, ys⟩ := by unfold decideC; rw [if_neg e1, if_pos (.inr e3)]
        rw [hd]
        clear hd
        have HE1 := Lib.hid e1
        clear e1
        have HE2 := Lib.hid e2
        clear e2
        have HE3 := Lib.hid e3
        clear e3
        go_enter Tryz.func114, Tryz.ntmps114
        go_wp2_with fail
        rw [← hY, ← hX]
        generalize (w.alloc (.cells #[.slice none 0 0, .slice none 0 0, .slice none 0 0, .bool false, .slice none 0 0] 168)).alloc (.cells #[.slice A0 n0 c0, .slice A1 n1 c1, .slice A2 n2 c2, .bool false, .slice none 0 0] 168) = W at *
        rw [← hX] at K6
        rw [← hY] at K7
        clear hX hY
        refine (EQ.out W B2.out).mono ?_
        rintro e w2 ⟨q1, rfl, hq1⟩
        rw [decide_eq_false HE1.out]
        have K61 : Blk w2 X 168 #[.slice none 0 0, .slice none 0 0, .slice none 0 0, .bool false, .slice none 0 0] := by rw [hq1]; exact K6
        have K71 : Blk w2 Y 168 #[.slice A0 n0 c0, .slice A1 n1 c1, .slice A2 n2 c2, .bool false, .slice none 0 0] := by rw [hq1]; exact K7
        have B3 := Lib.hid (show Below w.heap.size w w2 by rw [hq1]; exact below_drewN B2.out _)
        clear hq1 K6 K7
        go_wp2_with fail
        refine (EQ2.out w2 B3.out).mono ?_
        rintro e w3 ⟨q2, rfl, hq2⟩
        rw [decide_eq_false HE2.out]
        have K62 : Blk w3 X 168 #[.slice none 0 0, .slice none 0 0, .slice none 0 0, .bool false, .slice none 0 0] := by rw [hq2]; exact K61
        have K72 : Blk w3 Y 168 #[.slice A0 n0 c0, .slice A1 n1 c1, .slice A2 n2 c2, .bool false, .slice none 0 0] := by rw [hq2]; exact K71
        have B4 := Lib.hid (show Below w.heap.size w w3 by rw [hq2]; exact below_drewN B3.out _)
        clear hq2 K61 K71
        go_wp2_with fail
        refine (EQ3.out w3 B4.out).mono ?_
        rintro e w4 ⟨q3, rfl, hq3⟩
        rw [decide_eq_true HE3.out]
        have K63 : Blk w4 X 168 #[.slice none 0 0, .slice none 0 0, .slice none 0 0, .bool false, .slice none 0 0] := by rw [hq3]; exact K62
        have K73 : Blk w4 Y 168 #[.slice A0 n0 c0, .slice A1 n1 c1, .slice A2 n2 c2, .bool false, .slice none 0 0] := by rw [hq3]; exact K72
        have B5 := Lib.hid (show Below w.heap.size w w4 by rw [hq3]; exact below_drewN B4.out _)
        clear hq3 K62 K72
        have y0 := K73.cell 0
        have y1 := K73.cell 1
        have y2 := K73.cell 2
        have y3 := K73.cell 3
        have y4 := K73.cell 4
        have x0 := K63.cell 0
        have f0 := K63.frozen 0
        have x1 := K63.cell 1
        have f1 := K63.frozen 1
        have x2 := K63.cell 2
        have f2 := K63.frozen 2
        have x3 := K63.cell 3
        have f3 := K63.frozen 3
        have x4 := K63.cell 4
        have f4 := K63.frozen 4
        have g3 := K73.frozen 3
        have g4 := K73.frozen 4
        have KF := Lib.hid (((((((K63.far (p := ⟨Y, 4, none⟩) hXY (.slice A1 n1 c1)).set_ 0 (.slice A0 n0 c0)).set_ 1 (.slice A1 n1 c1)).set_ 2 (.slice A2 n2 c2)).set_ 3 (.bool false)).set_ 4 (.slice A1 n1 c1)))
        have BF := Lib.hid ((((((B5.out.setCell (p := ⟨Y, 4, none⟩) HY.out (.slice A1 n1 c1)).setCell (p := ⟨X, 0, none⟩) HX.out (.slice A0 n0 c0)).setCell (p := ⟨X, 1, none⟩) HX.out (.slice A1 n1 c1)).setCell (p := ⟨X, 2, none⟩) HX.out (.slice A2 n2 c2)).setCell (p := ⟨X, 3, none⟩) HX.out (.bool false)).setCell (p := ⟨X, 4, none⟩) HX.out (.slice A1 n1 c1))
        clear K63 K73
        go_wp2
        refine bodyPost_ret (results_cell_row (fn := Tryz.f114) rfl _ _ X 168 #[.slice A0 n0 c0, .slice A1 n1 c1, .slice A2 n2 c2, .bool false, .slice A1 n1 c1] (0, 0) _ rfl (by first | exact KF.out | simpa using KF.out) Tryz.underlying168 rfl (by kernel_rfl)) rfl ⟨.slice A1 n1 c1, rfl, ?_, ?_⟩
        · exact fun _ _ b _ => b
        · first | exact BF.out | simpa using BF.out
      · have hd : decideC xs ys zs = ⟨xs, ys, zs, true, []⟩ := by unfold decideC; rw [if_neg e1, if_neg (by rintro (h | h) <;> contradiction)]
        rw [hd]
        clear hd
        have HE1 := Lib.hid e1
        clear e1
        have HE2 := Lib.hid e2
        clear e2
        have HE3 := Lib.hid e3
        clear e3
        go_enter Tryz.func114, Tryz.ntmps114
        go_wp2_with fail
        rw [← hY, ← hX]
        generalize (w.alloc (.cells #[.slice none 0 0, .slice none 0 0, .slice none 0 0, .bool false, .slice none 0 0] 168)).alloc (.cells #[.slice A0 n0 c0, .slice A1 n1 c1, .slice A2 n2 c2, .bool false, .slice none 0 0] 168) = W at *
        rw [← hX] at K6
        rw [← hY] at K7
        clear hX hY
        refine (EQ.out W B2.out).mono ?_
        rintro e w2 ⟨q1, rfl, hq1⟩
        rw [decide_eq_false HE1.out]
        have K61 : Blk w2 X 168 #[.slice none 0 0, .slice none 0 0, .slice none 0 0, .bool false, .slice none 0 0] := by rw [hq1]; exact K6
        have K71 : Blk w2 Y 168 #[.slice A0 n0 c0, .slice A1 n1 c1, .slice A2 n2 c2, .bool false, .slice none 0 0] := by rw [hq1]; exact K7
        have B3 := Lib.hid (show Below w.heap.size w w2 by rw [hq1]; exact below_drewN B2.out _)
        clear hq1 K6 K7
        go_wp2_with fail
        refine (EQ2.out w2 B3.out).mono ?_
        rintro e w3 ⟨q2, rfl, hq2⟩
        rw [decide_eq_false HE2.out]
        have K62 : Blk w3 X 168 #[.slice none 0 0, .slice none 0 0, .slice none 0 0, .bool false, .slice none 0 0] := by rw [hq2]; exact K61
        have K72 : Blk w3 Y 168 #[.slice A0 n0 c0, .slice A1 n1 c1, .slice A2 n2 c2, .bool false, .slice none 0 0] := by rw [hq2]; exact K71
        have B4 := Lib.hid (show Below w.heap.size w w3 by rw [hq2]; exact below_drewN B3.out _)
        clear hq2 K61 K71
        go_wp2_with fail
        refine (EQ3.out w3 B4.out).mono ?_
        rintro e w4 ⟨q3, rfl, hq3⟩
        rw [decide_eq_false HE3.out]
        have K63 : Blk w4 X 168 #[.slice none 0 0, .slice none 0 0, .slice none 0 0, .bool false, .slice none 0 0] := by rw [hq3]; exact K62
        have K73 : Blk w4 Y 168 #[.slice A0 n0 c0, .slice A1 n1 c1, .slice A2 n2 c2, .bool false, .slice none 0 0] := by rw [hq3]; exact K72
        have B5 := Lib.hid (show Below w.heap.size w w4 by rw [hq3]; exact below_drewN B4.out _)
        clear hq3 K62 K72
        have y0 := K73.cell 0
        have y1 := K73.cell 1
        have y2 := K73.cell 2
        have y3 := K73.cell 3
        have y4 := K73.cell 4
        have x0 := K63.cell 0
        have f0 := K63.frozen 0
        have x1 := K63.cell 1
        have f1 := K63.frozen 1
        have x2 := K63.cell 2
        have f2 := K63.frozen 2
        have x3 := K63.cell 3
        have f3 := K63.frozen 3
        have x4 := K63.cell 4
        have f4 := K63.frozen 4
        have g3 := K73.frozen 3
        have g4 := K73.frozen 4
        have KF := Lib.hid (((((((K63.far (p := ⟨Y, 3, none⟩) hXY (.bool true)).set_ 0 (.slice A0 n0 c0)).set_ 1 (.slice A1 n1 c1)).set_ 2 (.slice A2 n2 c2)).set_ 3 (.bool true)).set_ 4 (.slice none 0 0)))
        have BF := Lib.hid ((((((B5.out.setCell (p := ⟨Y, 3, none⟩) HY.out (.bool true)).setCell (p := ⟨X, 0, none⟩) HX.out (.slice A0 n0 c0)).setCell (p := ⟨X, 1, none⟩) HX.out (.slice A1 n1 c1)).setCell (p := ⟨X, 2, none⟩) HX.out (.slice A2 n2 c2)).setCell (p := ⟨X, 3, none⟩) HX.out (.bool true)).setCell (p := ⟨X, 4, none⟩) HX.out (.slice none 0 0))
        clear K63 K73
        go_wp2
        refine bodyPost_ret (results_cell_row (fn := Tryz.f114) rfl _ _ X 168 #[.slice A0 n0 c0, .slice A1 n1 c1, .slice A2 n2 c2, .bool true, .slice none 0 0] (0, 0) _ rfl (by first | exact KF.out | simpa using KF.out) Tryz.underlying168 rfl (by kernel_rfl)) rfl ⟨.slice none 0 0, rfl, ?_, ?_⟩
        · exact fun W0 _ _ _ => Strs.nil W0
        · first | exact BF.out | simpa using BF.out
end Go.Proofs.YtapcnmnnichamaaGreatDoor.Mg

namespace Go.Proofs.YtapcnmnnichamaaGreatDoor.Mg
open Go Go.RowKit

/-- Five values a piece; its texts may be any slices. -/
def CkS (w : World) : List Value → List (Ck ByteArray) → Prop
  | vals, [] => vals = []
  | vals, c :: cs => ∃ a b d e rest, vals = a :: b :: d :: .bool c.clash :: e :: rest ∧ Strs w a c.base ∧ Strs w b c.ours ∧ Strs w d c.theirs ∧ Strs w e c.out ∧ CkS w rest cs
theorem CkS.below {w w' : World} (hb : Below w.heap.size w w') : ∀ {cs : List (Ck ByteArray)} {vals : List Value}, CkS w vals cs → CkS w' vals cs
  | [], _, h => h
  | _ :: _, _, ⟨a, b, d, e, rest, hv, h1, h2, h3, h4, h5⟩ => ⟨a, b, d, e, rest, hv, h1.below hb, h2.below hb, h3.below hb, h4.below hb, CkS.below hb h5⟩
theorem CkS.snoc {w : World} {c : Ck ByteArray} {a b d e : Value} (h1 : Strs w a c.base) (h2 : Strs w b c.ours) (h3 : Strs w d c.theirs) (h4 : Strs w e c.out) : ∀ {cs : List (Ck ByteArray)} {vals : List Value}, CkS w vals cs → CkS w (vals ++ [a, b, d, .bool c.clash, e]) (cs ++ [c])
  | [], _, h => by rw [show _ = [] from h]; exact ⟨a, b, d, e, [], rfl, h1, h2, h3, h4, rfl⟩
  | _ :: _, _, ⟨a', b', d', e', rest, hv, g1, g2, g3, g4, g5⟩ => ⟨a', b', d', e', _, by rw [hv]; rfl, g1, g2, g3, g4, CkS.snoc h1 h2 h3 h4 g5⟩
theorem CkS.at {w : World} : ∀ {cs : List (Ck ByteArray)} {vals : List Value} {i : Nat} {c : Ck ByteArray}, CkS w vals cs → cs[i]? = some c →
    ∃ a b d e, vals[i * 5]? = some a ∧ vals[i * 5 + 1]? = some b ∧ vals[i * 5 + 2]? = some d ∧ vals[i * 5 + 3]? = some (.bool c.clash) ∧ vals[i * 5 + 4]? = some e ∧ Strs w a c.base ∧ Strs w b c.ours ∧ Strs w d c.theirs ∧ Strs w e c.out
  | [], _, _, _, _, hi => by simp at hi
  | c0 :: cs, _, 0, c, ⟨a, b, d, e, rest, hv, g1, g2, g3, g4, _⟩, hi => by
    simp at hi
    subst hi
    rw [hv]
    exact ⟨a, b, d, e, rfl, rfl, rfl, rfl, rfl, g1, g2, g3, g4⟩
  | c0 :: cs, _, i + 1, c, ⟨a, b, d, e, rest, hv, _, _, _, _, g5⟩, hi => by
    rw [List.getElem?_cons_succ] at hi
    obtain ⟨a', b', d', e', k0, k1, k2, k3, k4, r⟩ := CkS.at g5 hi
    rw [hv]
    refine ⟨a', b', d', e', ?_, ?_, ?_, ?_, ?_, r⟩
    · rw [show (i + 1) * 5 = i * 5 + 5 by omega]; exact k0
    · rw [show (i + 1) * 5 + 1 = i * 5 + 1 + 5 by omega]; exact k1
    · rw [show (i + 1) * 5 + 2 = i * 5 + 2 + 5 by omega]; exact k2
    · rw [show (i + 1) * 5 + 3 = i * 5 + 3 + 5 by omega]; exact k3
    · rw [show (i + 1) * 5 + 4 = i * 5 + 4 + 5 by omega]; exact k4
theorem rowIs_below {W w' : World} {g n : Nat} {t : TypeId} {f : Nat → Value} (h : W.rowIs g t n f) (hb : Below W.heap.size W w') : w'.rowIs g t n f := h.of_block (hb.block g h.lt)
/-- A step, and that its run goes no further. -/
structure StepM (p q : List (Option Nat)) (b o t : List ByteArray) (i j k n j1 k1 m : Nat) : Prop where
  s : Step p q b o t i j k n j1 k1 m
  max : n + m < b.length → ¬ (p[n + m]? = some (some (j1 + m)) ∧ q[n + m]? = some (some (k1 + m)))
theorem stepM_any (p q : List (Option Nat)) (b o t : List ByteArray) (hp : p.length = b.length) (hq : q.length = b.length) (i j k f : Nat) (hi : i ≤ b.length) (he : ¬(i = b.length ∧ j = o.length ∧ k = t.length)) :
    ∃ n j1 k1 m, StepM p q b o t i j k n j1 k1 m ∧ chunks p q b o t (f + 1) i j k = firstC b o t i j k n j1 k1 ++ (keptC b o t n j1 k1 m ++ chunks p q b o t f (n + m) (j1 + m) (k1 + m)) := by
  obtain ⟨n, j1, k1, m, s, h1, h2, h3, h4⟩ := step_any p q b o t hp hq i j k hi
  refine ⟨n, j1, k1, m, ⟨s, fun hlt hc => ?_⟩, chunks_step p q b o t f i j k n j1 k1 m h1 h2 h3 h4 he⟩
  have hr := (rn_ge (isRun p q n j1 k1) (b.length - n) 0).2.2.2 (by rw [← h4]; omega)
  rw [← h4] at hr
  unfold isRun at hr
  rw [decide_eq_true hc.1, decide_eq_true hc.2] at hr
  cases hr
/-- .. at the end too. -/
theorem stepM_all (p q : List (Option Nat)) (b o t : List ByteArray) (hp : p.length = b.length) (hq : q.length = b.length) (i j k f : Nat) (hi : i ≤ b.length) :
    ∃ n j1 k1 m, StepM p q b o t i j k n j1 k1 m ∧ chunks p q b o t (f + 1) i j k = firstC b o t i j k n j1 k1 ++ (keptC b o t n j1 k1 m ++ chunks p q b o t f (n + m) (j1 + m) (k1 + m)) := by
  by_cases he : i = b.length ∧ j = o.length ∧ k = t.length
  · obtain ⟨rfl, rfl, rfl⟩ := he
    refine ⟨b.length, o.length, t.length, 0, ⟨⟨Nat.le_refl _, Nat.le_refl _, fun x h1 h2 => by omega, fun h => by omega, fun _ => ⟨rfl, rfl, rfl⟩, fun h => by omega, fun x h => by omega, by omega⟩, fun h => by omega⟩, ?_⟩
    have e0 := chunks_end p q b o t f b.length o.length t.length ⟨rfl, rfl, rfl⟩
    simp only [Nat.add_zero]
    rw [chunks_end p q b o t (f + 1) b.length o.length t.length ⟨rfl, rfl, rfl⟩, e0]
    simp [firstC, keptC]
  · exact stepM_any p q b o t hp hq i j k f hi he
/-- The document's pieces; or whose lines are too many. -/
def RefChunked (w : World) (b o t : List ByteArray) (cs : List (Ck ByteArray)) (e : Ending) (w' : World) : Prop :=
  (b.length ≤ 256 ∧ o.length ≤ 256 ∧ t.length ≤ 256 ∧ ∃ v vals, e = .returned (.tuple #[v, wrong0]) ∧ w'.ownsRow w.heap.size 168 5 v cs.length vals ∧ CkS w' vals cs ∧ Below w.heap.size w w') ∨
  ∃ k g : Nat, (Over b.length o.length k ∨ (b.length ≤ 256 ∧ o.length ≤ 256 ∧ Over b.length t.length k)) ∧ e = .returned (.tuple #[.slice none 0 0, wrongG g 4]) ∧ Blk w' g 82 #[.string bLines, .int .i64 (k : Int)] ∧ Below w.heap.size w w'
/-- A piece of a text. -/
theorem Strs.piece {w : World} {A : Option Addr} {n c : Nat} {ss : List ByteArray} (h : Strs w (.slice A n c) ss) {i k : Nat} (hi : i ≤ k) (hk : k ≤ n) :
    Strs w (.slice (if c = i then A else A.map (·.add i)) (k - i) (c - i)) (cutL2 ss i k) := by
  have h2 := (h.take hk).cut hi
  have e : (ss.take k).drop i = cutL2 ss i k := by unfold cutL2; rw [List.drop_take]
  rw [e] at h2
  exact h2
end Go.Proofs.YtapcnmnnichamaaGreatDoor.Mg
