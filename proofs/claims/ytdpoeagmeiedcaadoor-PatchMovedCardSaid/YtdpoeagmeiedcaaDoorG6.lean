/-
  rectoref11.Chunks: the row of pieces, and how far a run goes.
  rectoref11.Matches.
  rectoref11.Common; rectolaw11.Edits.
  The closed play 'known' of the differences answers true.
  The contract of the law's own 'Few': what it answers true of has few and short lines.
  The walk of DiffAny.
  rectoref11.Chunks: three texts, piece by piece.
  rectoref11.Chunks: whose lines are too many.
  merge.Chunks: whose lines are too many.
  three: are three texts few enough, or too long?
  The walk of MergeChunks.
-/
import Derived.Test.YtdpoeagmeiedcaaDoorG5
import Derived.Deep.AppendLies
import Derived.Test.YtdpoeagmeiedcaaDoorG3
import Derived.BigQuiet
import Derived.Deep.DeepCutAuto
import Derived.Deep.CutBlock
import Derived.Deep.RegionLaw
import Derived.IntWalk
import Derived.Test.YtdpoeagmeiedcaaDoorG4
namespace Go.Proofs.YtdpoeagmeiedcaaDoor
open Go Go.RowKit

/-- Five values a piece; its texts may be any slices. -/
def CkS (w : World) : List Value → List (Ck ByteArray) → Prop
  | vals, [] => vals = []
  | vals, c :: cs => ∃ a b d e rest, vals = a :: b :: d :: .bool c.clash :: e :: rest ∧ Strs w a c.base ∧ Strs w b c.ours ∧ Strs w d c.theirs ∧ Strs w e c.out ∧ CkS w rest cs
theorem CkS.below {w w' : World} (hb : Below w.heap.size w w') : ∀ {cs : List (Ck ByteArray)} {vals : List Value}, CkS w vals cs → CkS w' vals cs
  | [], _, h => h
  | _ :: _, _, ⟨a, b, d, e, rest, hv, h1, h2, h3, h4, h5⟩ => ⟨a, b, d, e, rest, hv, h1.below hb, h2.below hb, h3.below hb, h4.below hb, CkS.below hb h5⟩
theorem CkS.snoc {w : World} {c : Ck ByteArray} {a b d e : Value} (h1 : Strs w a c.base) (h2 : Strs w b c.ours) (h3 : Strs w d c.theirs) (h4 : Strs w e c.out) : ∀ {cs : List (Ck ByteArray)} {vals : List Value}, CkS w vals cs → CkS w (vals ++ [a, b, d, .bool c.clash, e]) (cs ++ [c])
  | [], _, h => by rw [show _ = [] from h]; exact ⟨a, b, d, e, [], rfl, h1, h2, h3, h4, rfl⟩
  | _ :: _, _, ⟨a', b', d', e', rest, hv, g1, g2, g3, g4, g5⟩ => ⟨a', b', d', e', _, by rw [hv]; rfl, g1, g2, g3, g4, CkS.snoc h1 h2 h3 h4 g5⟩
theorem CkS.at {w : World} : ∀ {cs : List (Ck ByteArray)} {vals : List Value} {i : Nat} {c : Ck ByteArray}, CkS w vals cs → cs[i]? = some c →
    ∃ a b d e, vals[i * 5]? = some a ∧ vals[i * 5 + 1]? = some b ∧ vals[i * 5 + 2]? = some d ∧ vals[i * 5 + 3]? = some (.bool c.clash) ∧ vals[i * 5 + 4]? = some e ∧ Strs w a c.base ∧ Strs w b c.ours ∧ Strs w d c.theirs ∧ Strs w e c.out
  | [], _, _, _, _, hi => by simp at hi
  | c0 :: cs, _, 0, c, ⟨a, b, d, e, rest, hv, g1, g2, g3, g4, _⟩, hi => by
    simp at hi
    subst hi
    rw [hv]
    exact ⟨a, b, d, e, rfl, rfl, rfl, rfl, rfl, g1, g2, g3, g4⟩
  | c0 :: cs, _, i + 1, c, ⟨a, b, d, e, rest, hv, _, _, _, _, g5⟩, hi => by
    rw [List.getElem?_cons_succ] at hi
    obtain ⟨a', b', d', e', k0, k1, k2, k3, k4, r⟩ := CkS.at g5 hi
    rw [hv]
    refine ⟨a', b', d', e', ?_, ?_, ?_, ?_, ?_, r⟩
    · rw [show (i + 1) * 5 = i * 5 + 5 by omega]; exact k0
    · rw [show (i + 1) * 5 + 1 = i * 5 + 1 + 5 by omega]; exact k1
    · rw [show (i + 1) * 5 + 2 = i * 5 + 2 + 5 by omega]; exact k2
    · rw [show (i + 1) * 5 + 3 = i * 5 + 3 + 5 by omega]; exact k3
    · rw [show (i + 1) * 5 + 4 = i * 5 + 4 + 5 by omega]; exact k4
theorem rowIs_below {W w' : World} {g n : Nat} {t : TypeId} {f : Nat → Value} (h : W.rowIs g t n f) (hb : Below W.heap.size W w') : w'.rowIs g t n f := h.of_block (hb.block g h.lt)
/-- A step, and that its run goes no further. -/
structure StepM (p q : List (Option Nat)) (b o t : List ByteArray) (i j k n j1 k1 m : Nat) : Prop where
  s : Step p q b o t i j k n j1 k1 m
  max : n + m < b.length → ¬ (p[n + m]? = some (some (j1 + m)) ∧ q[n + m]? = some (some (k1 + m)))
theorem stepM_any (p q : List (Option Nat)) (b o t : List ByteArray) (hp : p.length = b.length) (hq : q.length = b.length) (i j k f : Nat) (hi : i ≤ b.length) (he : ¬(i = b.length ∧ j = o.length ∧ k = t.length)) :
    ∃ n j1 k1 m, StepM p q b o t i j k n j1 k1 m ∧ chunks p q b o t (f + 1) i j k = firstC b o t i j k n j1 k1 ++ (keptC b o t n j1 k1 m ++ chunks p q b o t f (n + m) (j1 + m) (k1 + m)) := by
  obtain ⟨n, j1, k1, m, s, h1, h2, h3, h4⟩ := step_any p q b o t hp hq i j k hi
  refine ⟨n, j1, k1, m, ⟨s, fun hlt hc => ?_⟩, chunks_step p q b o t f i j k n j1 k1 m h1 h2 h3 h4 he⟩
  have hr := (rn_ge (isRun p q n j1 k1) (b.length - n) 0).2.2.2 (by rw [← h4]; omega)
  rw [← h4] at hr
  unfold isRun at hr
  rw [decide_eq_true hc.1, decide_eq_true hc.2] at hr
  cases hr
/-- .. at the end too. -/
theorem stepM_all (p q : List (Option Nat)) (b o t : List ByteArray) (hp : p.length = b.length) (hq : q.length = b.length) (i j k f : Nat) (hi : i ≤ b.length) :
    ∃ n j1 k1 m, StepM p q b o t i j k n j1 k1 m ∧ chunks p q b o t (f + 1) i j k = firstC b o t i j k n j1 k1 ++ (keptC b o t n j1 k1 m ++ chunks p q b o t f (n + m) (j1 + m) (k1 + m)) := by
  by_cases he : i = b.length ∧ j = o.length ∧ k = t.length
  · obtain ⟨rfl, rfl, rfl⟩ := he
    refine ⟨b.length, o.length, t.length, 0, ⟨⟨Nat.le_refl _, Nat.le_refl _, fun x h1 h2 => by omega, fun h => by omega, fun _ => ⟨rfl, rfl, rfl⟩, fun h => by omega, fun x h => by omega, by omega⟩, fun h => by omega⟩, ?_⟩
    have e0 := chunks_end p q b o t f b.length o.length t.length ⟨rfl, rfl, rfl⟩
    simp only [Nat.add_zero]
    rw [chunks_end p q b o t (f + 1) b.length o.length t.length ⟨rfl, rfl, rfl⟩, e0]
    simp [firstC, keptC]
  · exact stepM_any p q b o t hp hq i j k f hi he
/-- The document's pieces; or whose lines are too many. -/
def RefChunked (w : World) (b o t : List ByteArray) (cs : List (Ck ByteArray)) (e : Ending) (w' : World) : Prop :=
  (b.length ≤ 256 ∧ o.length ≤ 256 ∧ t.length ≤ 256 ∧ ∃ v vals, e = .returned (.tuple #[v, wrong0]) ∧ w'.ownsRow w.heap.size 80 5 v cs.length vals ∧ CkS w' vals cs ∧ Below w.heap.size w w') ∨
  ∃ k g : Nat, (Over b.length o.length k ∨ (b.length ≤ 256 ∧ o.length ≤ 256 ∧ Over b.length t.length k)) ∧ e = .returned (.tuple #[.slice none 0 0, wrongG g 4]) ∧ Blk w' g 104 #[.string bLines, .int .i64 (k : Int)] ∧ Below w.heap.size w w'
/-- A piece of a text. -/
theorem Strs.piece {w : World} {A : Option Addr} {n c : Nat} {ss : List ByteArray} (h : Strs w (.slice A n c) ss) {i k : Nat} (hi : i ≤ k) (hk : k ≤ n) :
    Strs w (.slice (if c = i then A else A.map (·.add i)) (k - i) (c - i)) (cutL2 ss i k) := by
  have h2 := (h.take hk).cut hi
  have e : (ss.take k).drop i = cutL2 ss i k := by unfold cutL2; rw [List.drop_take]
  rw [e] at h2
  exact h2
end Go.Proofs.YtdpoeagmeiedcaaDoor
namespace Go.Proofs.YtdpoeagmeiedcaaDoor
open Go Go.RowKit

theorem refMatchInfo : (Tryd.prog.info? 49).map (fun i => (i.zero, i.size, i.bytes)) = some (some (.agg #[.int .i64 0, .int .i64 0, .int .i64 0]), 3, 24) := by kernel_rfl
/-- The document's matches, in a row of the call's own. -/
def RefMatched (w : World) (l : List Mt) (e : Ending) (w' : World) : Prop :=
  ∃ v, e = .returned v ∧ w'.ownsRow w.heap.size 49 3 v l.length (mcells l) ∧ Below w.heap.size w w'

set_option maxRecDepth 100000 in
set_option maxHeartbeats 4000000 in
theorem refMatches_any (w : World) (base : Nat) (v : Value) (l : List (Nat × ByteArray)) (h : w.ownsRow base 91 2 v l.length (edCells l)) (hops0 : ∀ x ∈ l, x.1 = 1 ∨ x.1 = 2 ∨ x.1 = 3) (hel : l.length ≤ 512) :
    Calls Tryd.prog 16 #[v] w (RefMatched w (mrun l).1) := by
  obtain ⟨i0, hi, hz0, hz1, hz2⟩ := info_parts refMatchInfo
  have hops := Lib.hid hops0
  have HO := Lib.hid h
  obtain ⟨A, m, c, rfl⟩ : ∃ A m c, v = .slice A m c := by
    rcases h.2 with ⟨rfl, _⟩ | ⟨g, cap, cur, rfl, _⟩
    · exact ⟨_, _, _, rfl⟩
    · exact ⟨_, _, _, rfl⟩
  obtain rfl : m = l.length := by
    rcases h.2 with ⟨e, e2⟩ | ⟨g, cap, cur, e, _⟩
    · cases e; exact e2.symm
    · cases e; rfl
  clear h hops0
  go_enter Tryd.func16, Tryd.ntmps16
  go_wp2_with fail
  go_loopw [3, 4, 5, 6, 7] (fun s3 s4 s5 s6 s7 wr => ∃ (k i j lz : Nat) (b : Bool) (out : List Mt), k ≤ l.length ∧ s7 = .int .i64 k ∧ s4 = .int .i64 i ∧ s5 = .int .i64 j ∧ s6 = .int .i64 lz ∧ b = (lz == 1) ∧ Hid (mrun (l.take k) = (out, i, j, b)) ∧
      wr.ownsRow w.heap.size 49 3 s3 out.length (mcells out) ∧ Below w.heap.size w wr) (fun _ _ _ _ s7 _ => l.length - (intOf s7).toNat)
  case atStart => exact ⟨0, 0, 0, 0, false, [], Nat.zero_le _, rfl, rfl, rfl, rfl, rfl, rfl, World.ownsRow_nil _ _ _ _, Below.refl _ _⟩
  case round =>
    obtain ⟨k, i, j, lz, b, out, hk, rfl, rfl, rfl, rfl, hbz, hm, hown, hb⟩ := hrel
    have k0 : (0 : Int) ≤ (k : Int) := Int.natCast_nonneg _
    have hgood := MGood.run l k hk
    rw [hm.out] at hgood
    obtain ⟨gi, gj, gl, gn, gr⟩ := hgood
    simp only at gi gj gl gn gr
    by_cases hlt : k < l.length
    · obtain ⟨⟨op, s⟩, hs⟩ : ∃ x, l[k]? = some x := ⟨_, List.getElem?_eq_getElem hlt⟩
      have ho := own2_keep HO.out hb
      obtain ⟨g, rfl⟩ : ∃ g, A = some ⟨g, 0, none⟩ := by
        rcases ho.2 with ⟨_, e2⟩ | ⟨g, cap, cur, e, _⟩
        · omega
        · cases e; exact ⟨_, rfl⟩
      have hgw := (HO.out.lt g rfl).2
      have k1 : (k : Int) < (l.length : Int) := by omega
      obtain ⟨x1, x2⟩ := edCells_at hs
      have X1 := Lib.hid x1
      have c1 := own2_at ho x1
      have hst := mrun_take l k hs
      rw [hm.out] at hst
      have hop := hops.out _ (List.mem_of_getElem? hs)
      simp only at hop
      clear ho x1 x2 hs
      rcases hop with rfl | rfl | rfl
      · cases b with
        | true =>
          obtain rfl : lz = 1 := by simpa using hbz.symm
          clear hbz
          rw [show ((1 : Nat) : Int) = 1 from rfl]
          obtain ⟨pre, ⟨a1, a2, a3⟩, rfl⟩ : ∃ p x, out = p ++ [x] := ⟨out.dropLast, out.getLast (gr rfl), (List.dropLast_concat_getLast (gr rfl)).symm⟩
          rw [List.length_append, List.length_singleton] at hown gl
          obtain ⟨gg, cap, rfl⟩ : ∃ gg cap, u3 = .slice (some ⟨gg, 0, none⟩) (pre.length + 1) cap := by
            rcases hown.2 with ⟨_, e2⟩ | ⟨gg, cap, cur, e, _⟩
            · omega
            · exact ⟨_, _, e⟩
          have hgb := (hown.lt gg rfl).1
          have hne : (g = gg) = False := eq_false (by omega)
          have hne2 : (gg = g) = False := eq_false (by omega)
          have hcl := hown.cellAt (pre.length * 3 + 2) (by omega)
          rw [mcells_last] at hcl
          have hfz := hown.frozenAt (pre.length * 3 + 2)
          have hst2 := hown.stored (pre.length * 3 + 2) (.int .i64 ((a3 : Int) + 1))
          have hset := mcells_set pre a1 a2 a3 (a3 + 1)
          rw [show ((a3 + 1 : Nat) : Int) = (a3 : Int) + 1 from by omega] at hset
          rw [hset] at hst2
          have hlen : (pre ++ [(a1, a2, a3 + 1)]).length = pre.length + 1 := by simp
          have hst3 := hst2.1
          have hbs0 := hb.setCell (p := ⟨gg, pre.length * 3 + 2, none⟩) hgb (.int .i64 ((a3 : Int) + 1))
          rw [← hlen] at hst3
          have HST := Lib.hid hst
          have HS3 := Lib.hid hst3
          have HL := Lib.hid hlen
          have a3k : a3 ≤ k := gn (a1, a2, a3) (by simp)
          have HBS := Lib.hid hbs0
          have hmst : mrun (l.take (k + 1)) = (pre ++ [(a1, a2, a3 + 1)], i + 1, j + 1, true) := by rw [hst]; simp [mstep, bump_snoc]
          have HM := Lib.hid hmst
          clear hst hst2 hst3 hset hlen gn gr hbs0 hmst HST
          generalize pre.length = p at *
          have p0 : (0 : Int) ≤ (p : Int) := Int.natCast_nonneg _
          go_wp2
          go_roundw
          case rel => exact ⟨k + 1, i + 1, j + 1, 1, true, _, by omega, by go_num, by go_num, by go_num, rfl, rfl, HM.out, by rw [← HL.out]; exact HS3.out, HBS.out⟩
          case measure => simp [intOf]; omega
        | false =>
          have hlz : ((lz : Int) == 1) = false := by
            have : ¬ lz = 1 := by simpa using hbz.symm
            simpa using (show (lz : Int) ≠ 1 by omega)
          clear hbz
          have hown4 := hown.alloc (.cells #[.int .i64 i, .int .i64 j, .int .i64 1] 49)
          have hnews := World.news_of_block (cs := #[.int .i64 i, .int .i64 j, .int .i64 1]) (t := 49) (fr := (0, 0)) (heap_alloc_new wr (.cells #[.int .i64 i, .int .i64 j, .int .i64 1] 49))
          have hb4 := hb.alloc hb.size (.cells #[.int .i64 i, .int .i64 j, .int .i64 1] 49)
          have hsz4 := hb4.size
          have HST := Lib.hid hst
          clear hst
          go_wp2_with (at_builtin; refine wpList_append_own _ rfl _ _ 43 rfl w.heap.size 49 i0 (.agg #[.int .i64 0, .int .i64 0, .int .i64 0]) 3 24 Tryd.underlying43 hi hz0 hz1 hz2 rfl (by decide) _ _ _ rfl hown4 ⟨wr.heap.size, 0, none⟩ 1 1 [.int .i64 i, .int .i64 j, .int .i64 1] rfl rfl hnews (by simp [Value.oneCell']) (by unfold maxLen; omega) (by omega) hsz4 ?_; intro v5 w5 hown5 hg5 _; have hb5 : Below w.heap.size w w5 := hb4.grown hg5 hsz4 (fun z hz => (hown.lt z hz).1); have q1 := own2_at (own2_keep HO.out hb5) X1.out; clear hnews hown4 hg5 hb4)
          go_roundw
          case rel => exact ⟨k + 1, i + 1, j + 1, 1, true, out ++ [(i, j, 1)], by omega, by go_num, by go_num, by go_num, rfl, rfl, HST.out, by rw [mcells_snoc, List.length_append]; exact hown5, hb5⟩
          case measure => simp [intOf]; omega
      · have HST := Lib.hid hst
        clear hst hbz
        go_wp2
        go_roundw
        case rel => exact ⟨k + 1, i + 1, j, 2, false, out, by omega, by go_num, by go_num, rfl, rfl, rfl, HST.out, hown, hb⟩
        case measure => simp [intOf]; omega
      · have HST := Lib.hid hst
        clear hst hbz
        go_wp2
        go_roundw
        case rel => exact ⟨k + 1, i, j + 1, 3, false, out, by omega, by go_num, rfl, by go_num, rfl, rfl, HST.out, hown, hb⟩
        case measure => simp [intOf]; omega
    · obtain rfl : k = l.length := by omega
      have e1 := Lib.hid (show (mrun l).1 = out by have := hm.out; rw [List.take_length] at this; rw [this])
      go_wp2
      go_ret
      refine ⟨_, rfl, ?_, hb⟩
      rw [e1.out]
      exact hown

end Go.Proofs.YtdpoeagmeiedcaaDoor
namespace Go.Proofs.YtdpoeagmeiedcaaDoor
open Go Go.RowKit

set_option maxHeartbeats 1000000 in
theorem refCommon_any (w : World) (v u : Value) (xs ys : List ByteArray) (h : Strs w v xs) (g : Strs w u ys) (hxl : xs.length ≤ 256) (hyl : ys.length ≤ 256) :
    Calls Tryd.prog 17 #[v, u] w (Costs w (lc xs ys)) := by
  have TB := Lib.hid (refCommon_tab w v u xs ys h g hxl hyl)
  clear h g
  obtain ⟨N, hN⟩ : ∃ N, N = xs.length + 1 := ⟨_, rfl⟩
  obtain ⟨M, hM⟩ : ∃ M, M = ys.length + 1 := ⟨_, rfl⟩
  have HN := Lib.hid hN
  have HM := Lib.hid hM
  have hN0 : (0 : Int) < (N : Int) := by omega
  have hM0 : (0 : Int) < (M : Int) := by omega
  clear hM
  go_enter Tryd.func17, Tryd.ntmps17
  go_wp2_with fail
  refine TB.out.mono ?_
  rintro e w2 ⟨G, rfl, hGl, hO, hb⟩
  rw [← hN]
  clear hN
  have TA := TabAt.of hO
  have r0 := TA.row 0 (by omega)
  have r1 := TA.cell 0 0 (by omega) (by omega)
  rw [← HM.out] at r0
  have e0 : cT xs ys 0 0 = lc xs ys := by unfold cT; simp
  rw [e0] at r1
  rw [Nat.sub_zero] at r0 r1
  clear e0 TA hO
  go_wp2
  go_ret
  exact ⟨rfl, hb⟩

set_option maxHeartbeats 2000000 in
/-- The law's own look: the same edits. -/
theorem edits_same (w : World) (b1 b2 : Nat) (v u : Value) (l : List (Nat × ByteArray)) (h : w.ownsRow b1 66 2 v l.length (edCells l)) (g : w.ownsRow b2 91 2 u l.length (edCells l)) (hl : l.length ≤ 1000) :
    Calls Tryd.prog 15 #[v, u] w (YesB w) := by
  have HO := Lib.hid h
  have HG := Lib.hid g
  obtain ⟨A, m, c, rfl⟩ : ∃ A m c, v = .slice A m c := by
    rcases h.2 with ⟨rfl, _⟩ | ⟨g, cap, cur, rfl, _⟩
    · exact ⟨_, _, _, rfl⟩
    · exact ⟨_, _, _, rfl⟩
  obtain rfl : m = l.length := by
    rcases h.2 with ⟨e, e2⟩ | ⟨g, cap, cur, e, _⟩
    · cases e; exact e2.symm
    · cases e; rfl
  obtain ⟨B, m, d, rfl⟩ : ∃ A m c, u = .slice A m c := by
    rcases g.2 with ⟨rfl, _⟩ | ⟨g, cap, cur, rfl, _⟩
    · exact ⟨_, _, _, rfl⟩
    · exact ⟨_, _, _, rfl⟩
  obtain rfl : m = l.length := by
    rcases g.2 with ⟨e, e2⟩ | ⟨g, cap, cur, e, _⟩
    · cases e; exact e2.symm
    · cases e; rfl
  clear h g
  go_enter Tryd.func15, Tryd.ntmps15
  go_wp2_with fail
  go_loopw [5] (fun s5 wr => ∃ k q : Nat, k ≤ l.length ∧ s5 = .int .i64 k ∧ wr = w.drewN q) (fun s5 _ => l.length - (intOf s5).toNat)
  case atStart => exact ⟨0, 0, Nat.zero_le _, rfl, rfl⟩
  case round =>
    obtain ⟨k, q, hk, rfl, rfl⟩ := hrel
    have k0 : (0 : Int) ≤ (k : Int) := Int.natCast_nonneg _
    by_cases hlt : k < l.length
    · obtain ⟨⟨op, s⟩, hs⟩ : ∃ x, l[k]? = some x := ⟨_, List.getElem?_eq_getElem hlt⟩
      obtain ⟨g1, rfl⟩ : ∃ g, A = some ⟨g, 0, none⟩ := by
        rcases HO.out.2 with ⟨_, e2⟩ | ⟨g, cap, cur, e, _⟩
        · omega
        · cases e; exact ⟨_, rfl⟩
      obtain ⟨g2, rfl⟩ : ∃ g, B = some ⟨g, 0, none⟩ := by
        rcases HG.out.2 with ⟨_, e2⟩ | ⟨g, cap, cur, e, _⟩
        · omega
        · cases e; exact ⟨_, rfl⟩
      have k1 : (k : Int) < (l.length : Int) := by omega
      obtain ⟨x1, x2⟩ := edCells_at hs
      have c1 := own2_at HO.out x1
      have c2 := own2_at HO.out x2
      have c3 := own2_at HG.out x1
      have c4 := own2_at HG.out x2
      clear x1 x2 hs
      go_wp2_with fail
      go_quiet (fail)
      go_wp2
      go_roundw
      case rel => exact ⟨k + 1, _, by omega, by go_num, rfl⟩
      case measure => simp [intOf]; omega
    · obtain rfl : k = l.length := by omega
      go_wp2
      go_ret
      exact ⟨rfl, below_drewN (Below.refl _ _) _⟩
end Go.Proofs.YtdpoeagmeiedcaaDoor
namespace Go.Proofs.YtdpoeagmeiedcaaDoor
open Go.RowKit

abbrev Ka : ByteArray := ⟨#[97]⟩
abbrev Kb : ByteArray := ⟨#[98]⟩
abbrev Kc : ByteArray := ⟨#[99]⟩

theorem own2_form {w : World} {base k : Nat} {e : TypeId} {v : Value} {n : Nat} {xs : List Value} (h : w.ownsRow base e k v (n + 1) xs) : ∃ g cap, v = .slice (some ⟨g, 0, none⟩) (n + 1) cap := by
  rcases h.2 with ⟨_, e2⟩ | ⟨gg, cap, cur, e, _⟩
  · omega
  · exact ⟨_, _, e⟩

theorem Strs.two (w : World) (x y : ByteArray) : Strs (w.alloc (.cells #[.string x, .string y] 9)) (.slice (some ⟨w.heap.size, 0, none⟩) 2 2) [x, y] := by
  refine ⟨some ⟨w.heap.size, 0, none⟩, 2, rfl, by simp, by unfold maxLen; omega, (fun h => by cases h), fun ad ha i s hs => ?_⟩
  obtain rfl := Option.some.inj ha
  have hh := heap_alloc_new w (.cells #[.string x, .string y] 9)
  rw [Addr.add_lit]
  have := cell_of_row _ w.heap.size (0 + i) #[.string x, .string y] 9 (0, 0) hh
  rw [this]
  match i, hs with
  | 0, hs => simp at hs; subst hs; rfl
  | 1, hs => simp at hs; subst hs; rfl

theorem known_pair (w : World) (x y z u : ByteArray) :
    Strs ((w.alloc (.cells #[.string x, .string y] 9)).alloc (.cells #[.string z, .string u] 9)) (.slice (some ⟨w.heap.size, 0, none⟩) 2 2) [x, y] ∧
    Strs ((w.alloc (.cells #[.string x, .string y] 9)).alloc (.cells #[.string z, .string u] 9)) (.slice (some ⟨w.heap.size + 1, 0, none⟩) 2 2) [z, u] := by
  refine ⟨(Strs.two w x y).alloc _, ?_⟩
  have := Strs.two (w.alloc (.cells #[.string x, .string y] 9)) z u
  rw [show (w.alloc (.cells #[.string x, .string y] 9)).heap.size = w.heap.size + 1 from by simp] at this
  exact this

set_option maxRecDepth 100000 in
set_option maxHeartbeats 4000000 in
theorem diffKnown_yes (w : World) : Calls Tryd.prog 8 #[] w (YesB w) := by
  have hsz : ∀ s ∈ [Ka, Kb], s.size ≤ maxLen := by intro s hs; simp at hs; rcases hs with rfl | rfl <;> decide
  have hsz2 : ∀ s ∈ [Ka, Kc], s.size ≤ maxLen := by intro s hs; simp at hs; rcases hs with rfl | rfl <;> decide
  have he : ed [Ka, Kb] [Ka, Kc] = [(1, Ka), (2, Kb), (3, Kc)] := by decide
  have hm : (mrun [(1, Ka), (2, Kb), (3, Kc)]).1 = [(0, 0, 1)] := by decide
  have hc : lc [Ka, Kb] [Ka, Kc] = 1 := by decide
  have CL := fun (W : World) => lines_good ((W.alloc (.cells #[.string Ka, .string Kb] 9)).alloc (.cells #[.string Ka, .string Kc] 9)) _ _ _ _ (known_pair W Ka Kb Ka Kc).1 (known_pair W Ka Kb Ka Kc).2 hsz hsz2 (by simp) (by simp)
  have CM := fun (W : World) => matches_good ((W.alloc (.cells #[.string Ka, .string Kb] 9)).alloc (.cells #[.string Ka, .string Kc] 9)) _ _ _ _ (known_pair W Ka Kb Ka Kc).1 (known_pair W Ka Kb Ka Kc).2 hsz hsz2 (by simp) (by simp)
  have CC := fun (W : World) => common_good ((W.alloc (.cells #[.string Ka, .string Kb] 9)).alloc (.cells #[.string Ka, .string Kc] 9)) _ _ _ _ (known_pair W Ka Kb Ka Kc).1 (known_pair W Ka Kb Ka Kc).2 hsz hsz2 (by simp) (by simp)
  rw [he] at CL CM
  rw [hm] at CM
  rw [hc] at CC
  have HL := Lib.hid CL
  have HM := Lib.hid CM
  have HC := Lib.hid CC
  clear he hm hc CL CM CC hsz hsz2
  have E0 := fun (W : World) => ((Below.refl W.heap.size W).alloc (Nat.le_refl _) (.cells #[.string Ka, .string Kb] 9)).alloc (by simp) (.cells #[.string Ka, .string Kc] 9)
  have HE0 := Lib.hid E0
  clear E0
  go_enter Tryd.func8, Tryd.ntmps8
  go_wp2_with fail
  refine (HL.out w).mono ?_
  rintro e w1 ⟨v1, rfl, hown1, hb1⟩
  obtain ⟨g1, cap1, rfl⟩ := own2_form hown1
  have B1 := (HE0.out w).trans (hb1.mono (HE0.out w).size)
  clear hb1
  go_wp2_with fail
  refine (HM.out w1).mono ?_
  rintro e w2 ⟨v2, rfl, hown2, hb2⟩
  obtain ⟨g2, cap2, rfl⟩ := own2_form hown2
  have B12 := (HE0.out w1).trans (hb2.mono (HE0.out w1).size)
  have B2 := B1.trans (B12.mono B1.size)
  have own1 := own2_keep hown1 B12
  clear hb2 B12 B1 hown1
  go_wp2_with fail
  refine (HC.out w2).mono ?_
  rintro e w3 ⟨rfl, hb3⟩
  have B23 := (HE0.out w2).trans (hb3.mono (HE0.out w2).size)
  have B3 := B2.trans (B23.mono B2.size)
  replace own1 := own2_keep own1 B23
  have own2 := own2_keep hown2 B23
  have co := cost_any w3 _ _ [(1, Ka), (2, Kb), (3, Kc)] own1 (by simp)
  rw [show edCost [(1, Ka), (2, Kb), (3, Kc)] = 2 from by decide] at co
  have CO := Lib.hid co
  clear co
  have c1 : w3.cell? ⟨g1, 0, none⟩ = some (.int .i64 1) := own1.cellAt 0 (by simp)
  have c2 : w3.cell? ⟨g1, 2, none⟩ = some (.int .i64 2) := own1.cellAt 2 (by simp)
  have c3 : w3.cell? ⟨g1, 4, none⟩ = some (.int .i64 3) := own1.cellAt 4 (by simp)
  have c4 : w3.cell? ⟨g1, 5, none⟩ = some (.string Kc) := own1.cellAt 5 (by simp)
  have c5 : w3.cell? ⟨g2, 2, none⟩ = some (.int .i64 1) := own2.cellAt 2 (by simp)
  clear hb3 B23 B2 hown2 own1 own2
  go_wp2_with fail
  refine CO.out.mono ?_
  rintro e w4 ⟨rfl, hb4⟩
  go_wp2
  go_ret
  exact ⟨rfl, B3.trans (hb4.mono B3.size)⟩

end Go.Proofs.YtdpoeagmeiedcaaDoor
namespace Go.Proofs.YtdpoeagmeiedcaaDoor
open Go.RowKit

structure FewL (xs ys : List ByteArray) : Prop where
  a : xs.length ≤ 300
  b : ys.length ≤ 300
  s : ∀ s ∈ xs, s.size ≤ 300
  t : ∀ s ∈ ys, s.size ≤ 300

def FewSays (w : World) (xs ys : List ByteArray) (e : Ending) (w' : World) : Prop := ∃ b : Bool, e = .returned (.bool b) ∧ (b = true → FewL xs ys) ∧ w = w'

theorem few_no {w : World} {xs ys : List ByteArray} : FewSays w xs ys (.returned (.bool false)) w := ⟨false, rfl, (fun h => by cases h), rfl⟩

theorem few_all {n : Nat} {xs : List ByteArray} (hn : n = xs.length) (h : ∀ i, i < n → ∀ s, xs[i]? = some s → s.size ≤ 300) : ∀ s ∈ xs, s.size ≤ 300 := by
  intro s hs
  obtain ⟨i, hi⟩ := List.mem_iff_getElem?.1 hs
  exact h i (by rw [hn]; exact (List.getElem?_eq_some_iff.1 hi).1) s hi

set_option maxRecDepth 100000 in
set_option maxHeartbeats 2000000 in
theorem few_any (w : World) (v u : Value) (xs ys : List ByteArray) (h : Strs w v xs) (g : Strs w u ys) : Calls Tryd.prog 9 #[v, u] w (FewSays w xs ys) := by
  obtain ⟨A, n, c, rfl⟩ := h.form
  obtain ⟨B, m, d, rfl⟩ := g.form
  have hn := h.len
  have hm := g.len
  have hn2 : n ≤ 9223372036854775807 := by have := hn.2; unfold maxLen at this; omega
  have hm2 : m ≤ 9223372036854775807 := by have := hm.2; unfold maxLen at this; omega
  have H := Lib.hid fun k (hk : k < n) => h.cell hk
  have G := Lib.hid fun k (hk : k < m) => g.cell hk
  have HN := Lib.hid hn.1
  have HM := Lib.hid hm.1
  clear h g hn hm
  by_cases h1 : 300 < n
  · go_enter Tryd.func9, Tryd.ntmps9
    go_wp2
    go_ret
    exact few_no
  by_cases h2 : 300 < m
  · go_enter Tryd.func9, Tryd.ntmps9
    go_wp2
    go_ret
    exact few_no
  by_cases h3 : n ≤ 256
  · by_cases h4 : m ≤ 256
    · have hcast : (n : Int) * (m : Int) = ((n * m : Nat) : Int) := by simp
      have hmul : n * m ≤ 65536 := Nat.mul_le_mul h3 h4
      have hmw : IntKind.i64.wrap ((n : Int) * (m : Int)) = ((n * m : Nat) : Int) := by rw [hcast]; exact IntWalk.i64_in _ (by omega)
      generalize n * m = P at *
      clear hcast
      by_cases h5 : 2500 < P
      · go_enter Tryd.func9, Tryd.ntmps9
        go_wp2
        go_ret
        exact few_no
      · skip
        go_enter Tryd.func9, Tryd.ntmps9
        go_wp2
        go_loop [5] (fun s5 => ∃ k : Nat, k ≤ n ∧ s5 = .int .i64 k ∧ Hid (∀ i, i < k → ∀ s, xs[i]? = some s → s.size ≤ 300)) (fun s5 => n - (intOf s5).toNat)
        case atStart => exact ⟨0, Nat.zero_le _, rfl, fun i hi => absurd hi (by omega)⟩
        case round =>
          obtain ⟨k, hk, rfl, hs⟩ := hrel
          have k0 : (0 : Int) ≤ (k : Int) := Int.natCast_nonneg _
          by_cases hlt : k < n
          · obtain ⟨ad, s, rfl, hxs, hc⟩ := H.out k hlt
            have k1 : (k : Int) < (n : Int) := by omega
            have HX := Lib.hid hxs
            clear hxs
            by_cases hlen : 300 < s.size
            · go_wp2
              go_ret
              exact few_no
            · have hle : s.size ≤ 300 := by omega
              go_wp2
              go_round
              case rel => exact ⟨k + 1, by omega, by go_num, fun i hi t ht => by
                by_cases hik : i < k
                · exact hs.out i hik t ht
                · obtain rfl : i = k := by omega
                  rw [HX.out] at ht
                  cases ht
                  omega⟩
              case measure => simp [intOf]; omega
          · obtain rfl : k = n := by omega
            clear hlt
            go_wp2
            go_loop [6] (fun s6 => ∃ j : Nat, j ≤ m ∧ s6 = .int .i64 j ∧ Hid (∀ i, i < j → ∀ s, ys[i]? = some s → s.size ≤ 300)) (fun s6 => m - (intOf s6).toNat)
            case atStart => exact ⟨0, Nat.zero_le _, rfl, fun i hi => absurd hi (by omega)⟩
            case round =>
              obtain ⟨j, hj, rfl, ht⟩ := hrel
              have j0 : (0 : Int) ≤ (j : Int) := Int.natCast_nonneg _
              by_cases hlt : j < m
              · obtain ⟨ad, s, rfl, hys, hc⟩ := G.out j hlt
                have j1 : (j : Int) < (m : Int) := by omega
                have HY := Lib.hid hys
                clear hys
                by_cases hlen : 300 < s.size
                · go_wp2
                  go_ret
                  exact few_no
                · have hle : s.size ≤ 300 := by omega
                  go_wp2
                  go_round
                  case rel => exact ⟨j + 1, by omega, by go_num, fun i hi t' ht' => by
                    by_cases hik : i < j
                    · exact ht.out i hik t' ht'
                    · obtain rfl : i = j := by omega
                      rw [HY.out] at ht'
                      cases ht'
                      omega⟩
                  case measure => simp [intOf]; omega
              · obtain rfl : j = m := by omega
                go_wp2
                go_ret
                exact ⟨true, rfl, fun _ => ⟨by rw [← HN.out]; omega, by rw [← HM.out]; omega, few_all HN.out hs.out, few_all HM.out ht.out⟩, rfl⟩
    · skip
      go_enter Tryd.func9, Tryd.ntmps9
      go_wp2
      go_loop [5] (fun s5 => ∃ k : Nat, k ≤ n ∧ s5 = .int .i64 k ∧ Hid (∀ i, i < k → ∀ s, xs[i]? = some s → s.size ≤ 300)) (fun s5 => n - (intOf s5).toNat)
      case atStart => exact ⟨0, Nat.zero_le _, rfl, fun i hi => absurd hi (by omega)⟩
      case round =>
        obtain ⟨k, hk, rfl, hs⟩ := hrel
        have k0 : (0 : Int) ≤ (k : Int) := Int.natCast_nonneg _
        by_cases hlt : k < n
        · obtain ⟨ad, s, rfl, hxs, hc⟩ := H.out k hlt
          have k1 : (k : Int) < (n : Int) := by omega
          have HX := Lib.hid hxs
          clear hxs
          by_cases hlen : 300 < s.size
          · go_wp2
            go_ret
            exact few_no
          · have hle : s.size ≤ 300 := by omega
            go_wp2
            go_round
            case rel => exact ⟨k + 1, by omega, by go_num, fun i hi t ht => by
              by_cases hik : i < k
              · exact hs.out i hik t ht
              · obtain rfl : i = k := by omega
                rw [HX.out] at ht
                cases ht
                omega⟩
            case measure => simp [intOf]; omega
        · obtain rfl : k = n := by omega
          clear hlt
          go_wp2
          go_loop [6] (fun s6 => ∃ j : Nat, j ≤ m ∧ s6 = .int .i64 j ∧ Hid (∀ i, i < j → ∀ s, ys[i]? = some s → s.size ≤ 300)) (fun s6 => m - (intOf s6).toNat)
          case atStart => exact ⟨0, Nat.zero_le _, rfl, fun i hi => absurd hi (by omega)⟩
          case round =>
            obtain ⟨j, hj, rfl, ht⟩ := hrel
            have j0 : (0 : Int) ≤ (j : Int) := Int.natCast_nonneg _
            by_cases hlt : j < m
            · obtain ⟨ad, s, rfl, hys, hc⟩ := G.out j hlt
              have j1 : (j : Int) < (m : Int) := by omega
              have HY := Lib.hid hys
              clear hys
              by_cases hlen : 300 < s.size
              · go_wp2
                go_ret
                exact few_no
              · have hle : s.size ≤ 300 := by omega
                go_wp2
                go_round
                case rel => exact ⟨j + 1, by omega, by go_num, fun i hi t' ht' => by
                  by_cases hik : i < j
                  · exact ht.out i hik t' ht'
                  · obtain rfl : i = j := by omega
                    rw [HY.out] at ht'
                    cases ht'
                    omega⟩
                case measure => simp [intOf]; omega
            · obtain rfl : j = m := by omega
              go_wp2
              go_ret
              exact ⟨true, rfl, fun _ => ⟨by rw [← HN.out]; omega, by rw [← HM.out]; omega, few_all HN.out hs.out, few_all HM.out ht.out⟩, rfl⟩
  · skip
    go_enter Tryd.func9, Tryd.ntmps9
    go_wp2
    go_loop [5] (fun s5 => ∃ k : Nat, k ≤ n ∧ s5 = .int .i64 k ∧ Hid (∀ i, i < k → ∀ s, xs[i]? = some s → s.size ≤ 300)) (fun s5 => n - (intOf s5).toNat)
    case atStart => exact ⟨0, Nat.zero_le _, rfl, fun i hi => absurd hi (by omega)⟩
    case round =>
      obtain ⟨k, hk, rfl, hs⟩ := hrel
      have k0 : (0 : Int) ≤ (k : Int) := Int.natCast_nonneg _
      by_cases hlt : k < n
      · obtain ⟨ad, s, rfl, hxs, hc⟩ := H.out k hlt
        have k1 : (k : Int) < (n : Int) := by omega
        have HX := Lib.hid hxs
        clear hxs
        by_cases hlen : 300 < s.size
        · go_wp2
          go_ret
          exact few_no
        · have hle : s.size ≤ 300 := by omega
          go_wp2
          go_round
          case rel => exact ⟨k + 1, by omega, by go_num, fun i hi t ht => by
            by_cases hik : i < k
            · exact hs.out i hik t ht
            · obtain rfl : i = k := by omega
              rw [HX.out] at ht
              cases ht
              omega⟩
          case measure => simp [intOf]; omega
      · obtain rfl : k = n := by omega
        clear hlt
        go_wp2
        go_loop [6] (fun s6 => ∃ j : Nat, j ≤ m ∧ s6 = .int .i64 j ∧ Hid (∀ i, i < j → ∀ s, ys[i]? = some s → s.size ≤ 300)) (fun s6 => m - (intOf s6).toNat)
        case atStart => exact ⟨0, Nat.zero_le _, rfl, fun i hi => absurd hi (by omega)⟩
        case round =>
          obtain ⟨j, hj, rfl, ht⟩ := hrel
          have j0 : (0 : Int) ≤ (j : Int) := Int.natCast_nonneg _
          by_cases hlt : j < m
          · obtain ⟨ad, s, rfl, hys, hc⟩ := G.out j hlt
            have j1 : (j : Int) < (m : Int) := by omega
            have HY := Lib.hid hys
            clear hys
            by_cases hlen : 300 < s.size
            · go_wp2
              go_ret
              exact few_no
            · have hle : s.size ≤ 300 := by omega
              go_wp2
              go_round
              case rel => exact ⟨j + 1, by omega, by go_num, fun i hi t' ht' => by
                by_cases hik : i < j
                · exact ht.out i hik t' ht'
                · obtain rfl : i = j := by omega
                  rw [HY.out] at ht'
                  cases ht'
                  omega⟩
              case measure => simp [intOf]; omega
          · obtain rfl : j = m := by omega
            go_wp2
            go_ret
            exact ⟨true, rfl, fun _ => ⟨by rw [← HN.out]; omega, by rw [← HM.out]; omega, few_all HN.out hs.out, few_all HM.out ht.out⟩, rfl⟩

end Go.Proofs.YtdpoeagmeiedcaaDoor
namespace Go.Proofs.YtdpoeagmeiedcaaDoor
open Go Go.RowKit

theorem over_same {n m k k' : Nat} (h : Over n m k) (h' : Over n m k') : k = k' := by unfold Over at h h'; omega
theorem over_or (n m : Nat) : (n ≤ 256 ∧ m ≤ 256) ∨ ∃ k, Over n m k := by
  by_cases h1 : 256 < n
  · exact .inr ⟨0, .inl ⟨rfl, h1⟩⟩
  · by_cases h2 : 256 < m
    · exact .inr ⟨1, .inr ⟨rfl, by omega, h2⟩⟩
    · exact .inl ⟨by omega, by omega⟩
theorem over_01 {n m k : Nat} (h : Over n m k) : k = 0 ∨ k = 1 := by unfold Over at h; omega
theorem own_formk {w : World} {base k n : Nat} {e : TypeId} {v : Value} {xs : List Value} (h : w.ownsRow base e k v n xs) : ∃ A c, v = .slice A n c := by
  rcases h.2 with ⟨rfl, h0⟩ | ⟨g, cap, cur, rfl, _⟩
  · exact ⟨_, _, by rw [h0]⟩
  · exact ⟨_, _, rfl⟩
theorem mcells_at {l : List Mt} : ∀ {i : Nat} {x : Mt}, l[i]? = some x → (mcells l)[i * 3]? = some (.int .i64 (x.1 : Int)) ∧ (mcells l)[i * 3 + 1]? = some (.int .i64 (x.2.1 : Int)) ∧ (mcells l)[i * 3 + 2]? = some (.int .i64 (x.2.2 : Int)) := by
  induction l with
  | nil => intro i x h; simp at h
  | cons y l ih =>
    intro i x h
    have hc : mcells (y :: l) = .int .i64 (y.1 : Int) :: .int .i64 (y.2.1 : Int) :: .int .i64 (y.2.2 : Int) :: mcells l := rfl
    rw [hc]
    cases i with
    | zero => simp at h; subst h; exact ⟨rfl, rfl, rfl⟩
    | succ i =>
      rw [show (i + 1) * 3 = i * 3 + 1 + 1 + 1 by omega]
      simp only [List.getElem?_cons_succ] at h ⊢
      exact ih h
theorem own3_at {w : World} {base g cap : Nat} {e : TypeId} {n : Nat} {xs : List Value} (h : w.ownsRow base e 3 (.slice (some ⟨g, 0, none⟩) n cap) n xs) {i : Nat} {x : Value} (hi : xs[i]? = some x) : w.cell? ⟨g, i, none⟩ = some x := by
  rw [h.cellAt i (by rw [← h.1]; exact (List.getElem?_eq_some_iff.1 hi).1)]
  exact hi
theorem mrun_len (l : List (Nat × ByteArray)) : (mrun l).1.length ≤ l.length := by
  have := (MGood.run l l.length (Nat.le_refl _)).l
  rw [List.take_length] at this
  exact this

set_option maxRecDepth 100000 in
set_option maxHeartbeats 4000000 in
theorem diffAny_walk (w : World) (v u : Value) (xs ys : List ByteArray) (h : Strs w v xs) (g : Strs w u ys) (hE : ErrType w) :
    Calls Tryd.prog 3 #[v, u] w (YesB w) := by
  obtain ⟨A, n, c, rfl⟩ := h.form
  obtain ⟨B, m, d, rfl⟩ := g.form
  have hlm := h.len.2
  have glm := g.len.2
  obtain rfl := h.len.1
  obtain rfl := g.len.1
  have KN := Lib.hid (diffKnown_yes w)
  have H0 := Lib.hid h
  have G0 := Lib.hid g
  have E0 := Lib.hid hE
  clear h g hE
  go_enter Tryd.func3, Tryd.ntmps3
  go_wp2_with fail
  refine KN.out.mono ?_
  rintro e w1 ⟨rfl, b1⟩
  have B1 := Lib.hid b1
  have H1 := Lib.hid (H0.out.below b1)
  have G1 := Lib.hid (G0.out.below b1)
  have FW := Lib.hid (few_any w1 _ _ xs ys H1.out G1.out)
  clear b1 KN
  go_wp2_with fail
  refine FW.out.mono ?_
  rintro e w1' ⟨b, rfl, hb, rfl⟩
  clear FW
  cases b with
  | false =>
    go_wp2
    go_ret
    exact ⟨rfl, B1.out⟩
  | true =>
    have hfew := hb rfl
    have hxs : ∀ s ∈ xs, s.size ≤ maxLen := fun s hs => by have := hfew.s s hs; unfold maxLen; omega
    have hys : ∀ s ∈ ys, s.size ≤ maxLen := fun s hs => by have := hfew.t s hs; unfold maxLen; omega
    have hxl3 := hfew.a
    have hyl3 := hfew.b
    clear hb hfew
    rcases over_or xs.length ys.length with ⟨hxl, hyl⟩ | ⟨k, hk⟩
    · have CL := Lib.hid (lines_good w1 _ _ xs ys H1.out G1.out hxs hys hxl hyl)
      have HXS := Lib.hid hxs
      have HYS := Lib.hid hys
      have hel := ed_len xs ys
      have hops := Lib.hid (ed_ops xs ys)
      have hco := Lib.hid (ed_all xs ys).2.2
      have hll := lc_le_left xs ys
      have hmn := mrun_len (ed xs ys)
      have RF := Lib.hid fun W hh gg => refLines_any W (.slice A xs.length c) (.slice B ys.length d) xs ys hh gg
      clear hxs hys
      go_wp2_with fail
      refine CL.out.mono ?_
      rintro e w2 ⟨v5, rfl, o5, b2⟩
      have B2 := Lib.hid (B1.out.trans (b2.mono B1.out.size))
      have O5 := Lib.hid o5
      obtain ⟨A5, c5, rfl⟩ := own_formk o5
      clear o5 b2 CL
      go_wp2_with fail
      refine (RF.out w2 (H0.out.below B2.out) (G0.out.below B2.out)).mono ?_
      rintro e w3 (⟨_, _, v7, rfl, o7, b3⟩ | ⟨k, g, hk, _⟩)
      case inr => unfold Over at hk; omega
      have B3 := Lib.hid (B2.out.trans (b3.mono B2.out.size))
      have O5a := Lib.hid (own2_keep O5.out b3)
      obtain ⟨A7, c7, rfl⟩ := own_formk o7
      have b4 := (Below.refl w3.heap.size w3).alloc (Nat.le_refl _) (.cells #[.slice none 0 0, .int .i64 0] 33)
      have B4 := Lib.hid (B3.out.trans (b4.mono B3.out.size))
      have O5b := Lib.hid (own2_keep O5a.out b4)
      have O7 := Lib.hid (own2_keep o7 b4)
      have KE := Lib.hid (Blk.new w3 33 #[.slice none 0 0, .int .i64 0])
      clear o7 b3 b4 O5 O5a RF
      go_wp2_with fail
      generalize hW4 : w3.alloc (.cells #[.slice none 0 0, .int .i64 0] 33) = W4 at *
      clear hW4
      generalize w3.heap.size = E at *
      have CM := Lib.hid (matches_good W4 _ _ xs ys (H0.out.below B4.out) (G0.out.below B4.out) HXS.out HYS.out hxl hyl)
      refine CM.out.mono ?_
      rintro e w5 ⟨v9, rfl, o9, b5⟩
      have B5 := Lib.hid (B4.out.trans (b5.mono B4.out.size))
      have O5c := Lib.hid (own2_keep O5b.out b5)
      have O7c := Lib.hid (own2_keep O7.out b5)
      have KE5 := Lib.hid (KE.out.below b5 KE.out.lt)
      obtain ⟨A9, c9, rfl⟩ := own_formk o9
      have O9 := Lib.hid o9
      clear o9 b5 O5b O7 KE CM B4
      have CC := Lib.hid (common_good w5 _ _ xs ys (H0.out.below B5.out) (G0.out.below B5.out) HXS.out HYS.out hxl hyl)
      go_wp2_with fail
      refine CC.out.mono ?_
      rintro e w6 ⟨rfl, b6⟩
      have B6 := Lib.hid (B5.out.trans (b6.mono B5.out.size))
      have O5d := Lib.hid (own2_keep O5c.out b6)
      have O7d := Lib.hid (own2_keep O7c.out b6)
      have O9d := Lib.hid (own2_keep O9.out b6)
      have KE6 := Lib.hid (KE5.out.below b6 KE5.out.lt)
      clear b6 O5c O7c O9 KE5 CC B5
      have c0 := KE6.out.cell 0
      have c1 := KE6.out.cell 1
      go_wp2_with fail
      refine (tells_none w6).mono ?_
      rintro e w7 ⟨rfl, b7⟩
      have B7 := Lib.hid (B6.out.trans (b7.mono B6.out.size))
      have KE7 := Lib.hid (KE6.out.below b7 KE6.out.lt)
      have O5e := Lib.hid (own2_keep O5d.out b7)
      have O7e := Lib.hid (own2_keep O7d.out b7)
      have O9e := Lib.hid (own2_keep O9d.out b7)
      clear b7 c0 c1 KE6 B6 O5d O7d O9d
      have c0 := KE7.out.cell 0
      have c1 := KE7.out.cell 1
      go_wp2_with fail
      refine (tells_none w7).mono ?_
      rintro e w8 ⟨rfl, b8⟩
      have B8 := Lib.hid (B7.out.trans (b8.mono B7.out.size))
      have KE8 := Lib.hid (KE7.out.below b8 KE7.out.lt)
      have O5f := Lib.hid (own2_keep O5e.out b8)
      have O7f := Lib.hid (own2_keep O7e.out b8)
      have O9f := Lib.hid (own2_keep O9e.out b8)
      clear b8 c0 c1 KE7 B7 O5e O7e O9e
      have c0 := KE8.out.cell 0
      have c1 := KE8.out.cell 1
      go_wp2_with fail
      refine (tells_none w8).mono ?_
      rintro e w9 ⟨rfl, b9⟩
      have B9 := Lib.hid (B8.out.trans (b9.mono B8.out.size))
      have KE9 := Lib.hid (KE8.out.below b9 KE8.out.lt)
      have O5g := Lib.hid (own2_keep O5f.out b9)
      have O7g := Lib.hid (own2_keep O7f.out b9)
      have O9g := Lib.hid (own2_keep O9f.out b9)
      clear b9 c0 c1 KE8 B8 O5f O7f O9f
      go_wp2_with fail
      refine (edits_same w9 _ _ _ _ (ed xs ys) O5g.out O7g.out (by omega)).mono ?_
      rintro e w10 ⟨rfl, b10⟩
      have B10 := Lib.hid (B9.out.trans (b10.mono B9.out.size))
      have KE10 := Lib.hid (KE9.out.below b10 KE9.out.lt)
      have O5h := Lib.hid (own2_keep O5g.out b10)
      have O7h := Lib.hid (own2_keep O7g.out b10)
      have O9h := Lib.hid (own2_keep O9g.out b10)
      clear b10 KE9 B9 O5g O7g O9g
      have c1 := KE10.out.cell 1
      go_wp2_with fail
      refine (refMatches_any w10 _ _ (ed xs ys) O7h.out hops.out (by omega)).mono ?_
      rintro e w11 ⟨v13, rfl, o13, b11⟩
      have B11 := Lib.hid (B10.out.trans (b11.mono B10.out.size))
      have O5i := Lib.hid (own2_keep O5h.out b11)
      have O9i := Lib.hid (own2_keep O9h.out b11)
      obtain ⟨A13, c13, rfl⟩ := own_formk o13
      have O13 := Lib.hid o13
      clear b11 KE10 B10 O5h O7h O9h c1 o13
      go_wp2_with fail
      refine (refCommon_any w11 _ _ xs ys (H0.out.below B11.out) (G0.out.below B11.out) hxl hyl).mono ?_
      rintro e w12 ⟨rfl, b12⟩
      have B12 := Lib.hid (B11.out.trans (b12.mono B11.out.size))
      have O5j := Lib.hid (own2_keep O5i.out b12)
      have O9j := Lib.hid (own2_keep O9i.out b12)
      have O13j := Lib.hid (own2_keep O13.out b12)
      clear b12 B11 O5i O9i O13
      go_wp2_with fail
      refine (cost_any w12 _ _ (ed xs ys) O5j.out (by omega)).mono ?_
      rintro e w13 ⟨rfl, b13⟩
      have B13 := Lib.hid (B12.out.trans (b13.mono B12.out.size))
      have O9k := Lib.hid (own2_keep O9j.out b13)
      have O13k := Lib.hid (own2_keep O13j.out b13)
      clear b13 B12 O5j O9j O13j
      have hcc := hco.out
      generalize (mrun (ed xs ys)).1 = L at *
      generalize edCost (ed xs ys) = q at *
      generalize lc xs ys = r at *
      have q1 : IntKind.i64.wrap ((xs.length : Int) + (ys.length : Int)) = (xs.length : Int) + (ys.length : Int) := IntWalk.i64_in _ (by omega)
      have q2 : IntKind.i64.wrap (2 * (r : Int)) = 2 * (r : Int) := IntWalk.i64_in _ (by omega)
      have q3 : IntKind.i64.wrap ((xs.length : Int) + (ys.length : Int) - 2 * (r : Int)) = (q : Int) := by rw [show (xs.length : Int) + (ys.length : Int) - 2 * (r : Int) = (q : Int) by omega]; exact IntWalk.i64_in _ (by omega)
      have HL : L.length ≤ 512 := by omega
      clear hcc
      go_wp2_with fail
      go_loopw [14] (fun s14 wr => ∃ k q : Nat, k ≤ L.length ∧ s14 = .int .i64 k ∧ wr = w13.drewN q) (fun s14 _ => L.length - (intOf s14).toNat)
      case atStart => exact ⟨0, 0, Nat.zero_le _, rfl, rfl⟩
      case round =>
        obtain ⟨k, q', hk, rfl, rfl⟩ := hrel
        have k0 : (0 : Int) ≤ (k : Int) := Int.natCast_nonneg _
        clear q1 q2 q3
        by_cases hlt : k < L.length
        · obtain ⟨x, hs⟩ : ∃ x, L[k]? = some x := ⟨_, List.getElem?_eq_getElem hlt⟩
          obtain ⟨g1, rfl⟩ : ∃ g, A9 = some ⟨g, 0, none⟩ := by
            rcases O9k.out.2 with ⟨_, e2⟩ | ⟨g, cap, cur, e, _⟩
            · omega
            · cases e; exact ⟨_, rfl⟩
          obtain ⟨g2, rfl⟩ : ∃ g, A13 = some ⟨g, 0, none⟩ := by
            rcases O13k.out.2 with ⟨_, e2⟩ | ⟨g, cap, cur, e, _⟩
            · omega
            · cases e; exact ⟨_, rfl⟩
          have k1 : (k : Int) < (L.length : Int) := by omega
          obtain ⟨x1, x2, x3⟩ := mcells_at hs
          have d1 := own3_at O9k.out x1
          have d2 := own3_at O9k.out x2
          have d3 := own3_at O9k.out x3
          have d4 := own3_at O13k.out x1
          have d5 := own3_at O13k.out x2
          have d6 := own3_at O13k.out x3
          clear x1 x2 x3 hs
          go_wp2_with fail
          go_quiet (fail)
          go_wp2
          go_roundw
          case rel => exact ⟨k + 1, _, by omega, by go_num, rfl⟩
          case measure => simp [intOf]; omega
        · obtain rfl : k = L.length := by omega
          go_wp2
          go_ret
          exact ⟨rfl, below_drewN B13.out _⟩
    · have CL := Lib.hid (lines_bad w1 A B xs.length c ys.length d k hk)
      have HK := Lib.hid hk
      have RF := Lib.hid fun W hh gg => refLines_any W (.slice A xs.length c) (.slice B ys.length d) xs ys hh gg
      clear hxs hys hk
      go_wp2_with fail
      refine CL.out.mono ?_
      rintro e w2 ⟨F1, rfl, f1, b2⟩
      have B2 := Lib.hid (B1.out.trans (b2.mono B1.out.size))
      have F1a := Lib.hid f1
      clear f1 b2 CL
      go_wp2_with fail
      refine (RF.out w2 (H0.out.below B2.out) (G0.out.below B2.out)).mono ?_
      rintro e w3 (⟨hx, hy, _⟩ | ⟨k', g, hk', rfl, hg, b3⟩)
      case inl => have := HK.out; unfold Over at this; omega
      obtain rfl := over_same HK.out hk'
      clear hk'
      have B3 := Lib.hid (B2.out.trans (b3.mono B2.out.size))
      have F1b := Lib.hid (F1a.out.below b3 F1a.out.lt)
      have b4 := (Below.refl w3.heap.size w3).alloc (Nat.le_refl _) (.cells #[.slice (some ⟨g, 0, none⟩) 1 1, .int .i64 4] 33)
      have B4 := Lib.hid (B3.out.trans (b4.mono B3.out.size))
      have F1c := Lib.hid (F1b.out.below b4 F1b.out.lt)
      have PG := Lib.hid (Blk.below hg b4 hg.lt)
      have KE := Lib.hid (Blk.new w3 33 #[.slice (some ⟨g, 0, none⟩) 1 1, .int .i64 4])
      clear hg b3 b4 F1a F1b RF
      go_wp2_with fail
      generalize hW4 : w3.alloc (.cells #[.slice (some ⟨g, 0, none⟩) 1 1, .int .i64 4] 33) = W4 at *
      clear hW4
      generalize w3.heap.size = E at *
      refine (matches_bad W4 A B xs.length c ys.length d k HK.out).mono ?_
      rintro e w5 ⟨F2, rfl, f2, b5⟩
      have B5 := Lib.hid (B4.out.trans (b5.mono B4.out.size))
      have F1d := Lib.hid (F1c.out.below b5 F1c.out.lt)
      have F2d := Lib.hid f2
      have PG5 := Lib.hid (PG.out.below b5 PG.out.lt)
      have KE5 := Lib.hid (KE.out.below b5 KE.out.lt)
      clear f2 b5 F1c PG KE B4
      go_wp2_with fail
      refine (diffCommon_bad w5 A B xs.length c ys.length d k HK.out).mono ?_
      rintro e w6 ⟨F3, rfl, f3, b6⟩
      have B6 := Lib.hid (B5.out.trans (b6.mono B5.out.size))
      have F1e := Lib.hid (F1d.out.below b6 F1d.out.lt)
      have F2e := Lib.hid (F2d.out.below b6 F2d.out.lt)
      have F3e := Lib.hid f3
      have PG6 := Lib.hid (PG5.out.below b6 PG5.out.lt)
      have KE6 := Lib.hid (KE5.out.below b6 KE5.out.lt)
      clear f3 b6 F1d F2d PG5 KE5 B5
      have c0 := KE6.out.cell 0
      have c1 := KE6.out.cell 1
      go_wp2_with fail
      refine (tells_over w6 F1 g k (over_01 HK.out) F1e.out PG6.out (E0.out.below B6.out)).mono ?_
      rintro e w7 ⟨rfl, b7⟩
      have B7 := Lib.hid (B6.out.trans (b7.mono B6.out.size))
      have F2f := Lib.hid (F2e.out.below b7 F2e.out.lt)
      have F3f := Lib.hid (F3e.out.below b7 F3e.out.lt)
      have PG7 := Lib.hid (PG6.out.below b7 PG6.out.lt)
      have KE7 := Lib.hid (KE6.out.below b7 KE6.out.lt)
      clear b7 c0 c1 KE6 B6 F1e F2e F3e PG6
      have c0 := KE7.out.cell 0
      have c1 := KE7.out.cell 1
      go_wp2_with fail
      refine (tells_over w7 F2 g k (over_01 HK.out) F2f.out PG7.out (E0.out.below B7.out)).mono ?_
      rintro e w8 ⟨rfl, b8⟩
      have B8 := Lib.hid (B7.out.trans (b8.mono B7.out.size))
      have F3g := Lib.hid (F3f.out.below b8 F3f.out.lt)
      have PG8 := Lib.hid (PG7.out.below b8 PG7.out.lt)
      have KE8 := Lib.hid (KE7.out.below b8 KE7.out.lt)
      clear b8 c0 c1 KE7 B7 F2f F3f PG7
      have c0 := KE8.out.cell 0
      have c1 := KE8.out.cell 1
      go_wp2_with fail
      refine (tells_over w8 F3 g k (over_01 HK.out) F3g.out PG8.out (E0.out.below B8.out)).mono ?_
      rintro e w9 ⟨rfl, b9⟩
      have B9 := Lib.hid (B8.out.trans (b9.mono B8.out.size))
      have KE9 := Lib.hid (KE8.out.below b9 KE8.out.lt)
      clear b9 c0 c1 KE8 B8 F3g PG8
      go_wp2_with fail
      refine (edits_same w9 w9.heap.size w9.heap.size _ _ [] (World.ownsRow_nil _ _ _ _) (World.ownsRow_nil _ _ _ _) (by simp)).mono ?_
      rintro e w10 ⟨rfl, b10⟩
      have B10 := Lib.hid (B9.out.trans (b10.mono B9.out.size))
      have KE10 := Lib.hid (KE9.out.below b10 KE9.out.lt)
      clear b10 KE9 B9
      have c1 := KE10.out.cell 1
      go_wp2
      go_ret
      exact ⟨rfl, B10.out⟩
end Go.Proofs.YtdpoeagmeiedcaaDoor
namespace Go.Proofs.YtdpoeagmeiedcaaDoor
open Go Go.RowKit

theorem refChunkInfo : (Tryd.prog.info? 80).map (fun i => (i.zero, i.size, i.bytes)) = some (some (.agg #[.slice none 0 0, .slice none 0 0, .slice none 0 0, .bool false, .slice none 0 0]), 5, 104) := by kernel_rfl
/-- All pieces of three texts. -/
def allR (xs ys zs : List ByteArray) : List (Ck ByteArray) := chunks (pls (ed xs ys) 0) (pls (ed xs zs) 0) xs ys zs (xs.length + 1) 0 0 0
theorem places_edR (xs ys : List ByteArray) : Places (pls (ed xs ys) 0) xs ys := by
  have ho := ed_ops xs ys
  obtain ⟨h1, h2, _⟩ := ed_all xs ys
  refine ⟨by rw [pls_len _ ho, h1], fun i j hij => ?_, fun i j i' j' a b c => pls_mono _ ho _ _ _ _ _ a b c⟩
  obtain ⟨_, x, e1, e2⟩ := pls_at _ ho _ _ _ hij
  rw [h1] at e1
  rw [h2, Nat.sub_zero] at e2
  exact ⟨x, e1, e2⟩

set_option maxRecDepth 100000 in
set_option maxHeartbeats 4000000 in
theorem refChunks_ok (w : World) (A B C : Option Addr) (cA cB cC : Nat) (xs ys zs : List ByteArray) (h0 : Strs w (.slice A xs.length cA) xs) (h1 : Strs w (.slice B ys.length cB) ys) (h2 : Strs w (.slice C zs.length cC) zs) (hx : xs.length ≤ 256) (hy : ys.length ≤ 256) (hz : zs.length ≤ 256) :
    Calls Tryd.prog 36 #[.slice A xs.length cA, .slice B ys.length cB, .slice C zs.length cC] w (RefChunked w xs ys zs (allR xs ys zs)) := by
  obtain ⟨i0, hi, hz0, hz1, hz2⟩ := info_parts refChunkInfo
  have b1 := (Below.refl w.heap.size w).alloc (Nat.le_refl _) (.cells #[.slice none 0 0, .int .i64 0] 33)
  have K7 := Blk.new w 33 #[.slice none 0 0, .int .i64 0]
  have H0 := Lib.hid h0
  have H1 := Lib.hid h1
  have H2 := Lib.hid h2
  clear h0 h1 h2
  go_enter Tryd.func36, Tryd.ntmps36
  go_wp2_with fail
  generalize hW1 : w.alloc (.cells #[.slice none 0 0, .int .i64 0] 33) = W1 at *
  clear hW1
  obtain ⟨Y, hY⟩ : ∃ Y, Y = w.heap.size := ⟨_, rfl⟩
  rw [← hY] at K7 ⊢
  have HY := Lib.hid hY
  clear hY
  have B1 := Lib.hid b1
  refine (refLines_any W1 _ _ xs ys (H0.out.below b1) (H1.out.below b1)).mono ?_
  rintro e w2 (⟨_, _, v1, rfl, o1, b2⟩ | ⟨k, g, hk, _⟩)
  case inr => unfold Over at hk; omega
  obtain ⟨A1, c1, rfl⟩ := own_formk o1
  have B2 := Lib.hid (B1.out.trans (b2.mono B1.out.size))
  have K7b := K7.below b2 K7.lt
  have b3 := (Below.refl w2.heap.size w2).alloc (Nat.le_refl _) (.cells #[.slice none 0 0, .int .i64 0] 33)
  have K9 := Blk.new w2 33 #[.slice none 0 0, .int .i64 0]
  have O1 := own2_keep o1 b3
  have K7c := K7b.below b3 K7b.lt
  have B3 := Lib.hid (B2.out.trans (b3.mono B2.out.size))
  clear b1 K7 o1 b2 K7b b3 B1 B2
  go_wp2_with fail
  generalize hW3 : w2.alloc (.cells #[.slice none 0 0, .int .i64 0] 33) = W3 at *
  clear hW3
  generalize w2.heap.size = X at *
  refine (refLines_any W3 _ _ xs zs (H0.out.below B3.out) (H2.out.below B3.out)).mono ?_
  rintro e w4 (⟨_, _, v2, rfl, o2, b4⟩ | ⟨k, g, hk, _⟩)
  case inr => unfold Over at hk; omega
  obtain ⟨A2, c2, rfl⟩ := own_formk o2
  have b5 := (Below.refl w4.heap.size w4).alloc (Nat.le_refl _) (.cells #[.slice none 0 0, .int .i64 0] 33)
  have b45 := b4.trans (b5.mono b4.size)
  have O1b := own2_keep O1 b45
  have O2 := own2_keep o2 b5
  have K7d := K7c.below b45 K7c.lt
  have K9d := K9.below b45 K9.lt
  have K11 := Blk.new w4 33 #[.slice none 0 0, .int .i64 0]
  have B5 := Lib.hid (B3.out.trans (b45.mono B3.out.size))
  clear O1 o2 K7c K9 b4 b5 b45 B3
  go_wp2_with fail
  generalize hW5 : w4.alloc (.cells #[.slice none 0 0, .int .i64 0] 33) = W5 at *
  clear hW5
  have hl1 : (ed xs ys).length ≤ 1000 := by have := ed_len xs ys; omega
  have hl2 : (ed xs zs).length ≤ 1000 := by have := ed_len xs zs; omega
  refine (refKept_any W5 _ _ (ed xs ys) xs.length O1b (ed_ops xs ys) hl1 (by rw [(ed_all xs ys).1]) (by omega)).mono ?_
  rintro e w6 ⟨P, rfl, hP, rP, b6⟩
  have O2b := own2_keep O2 b6
  have K7e := K7d.below b6 K7d.lt
  have K9e := K9d.below b6 K9d.lt
  have B6 := Lib.hid (B5.out.trans (b6.mono B5.out.size))
  clear O1b O2 K7d K9d K11 b6 B5
  go_wp2_with fail
  refine (refKept_any w6 _ _ (ed xs zs) xs.length O2b (ed_ops xs zs) hl2 (by rw [(ed_all xs zs).1]) (by omega)).mono ?_
  rintro e W ⟨Q, rfl, hQ, rQ, b7⟩
  have RP := Lib.hid (rowIs_below rP b7)
  have RQ := Lib.hid rQ
  have K7 := Lib.hid (K7e.below b7 K7e.lt)
  have K9 := Lib.hid (K9e.below b7 K9e.lt)
  have BW := Lib.hid (B6.out.trans (b7.mono B6.out.size))
  clear O2b K7e K9e b7 B6 rP rQ hP hQ hl1 hl2
  have hPP := Lib.hid (places_edR xs ys)
  have hQQ := Lib.hid (places_edR xs zs)
  obtain ⟨p, hp⟩ : ∃ p, p = pls (ed xs ys) 0 := ⟨_, rfl⟩
  obtain ⟨q, hq⟩ : ∃ q, q = pls (ed xs zs) 0 := ⟨_, rfl⟩
  obtain ⟨all, hall⟩ : ∃ L, L = allR xs ys zs := ⟨_, rfl⟩
  have HALL := Lib.hid (show all = chunks p q xs ys zs (xs.length + 1) 0 0 0 by rw [hall, hp, hq]; rfl)
  rw [← hp] at RP hPP
  rw [← hq] at RQ hQQ
  have HALLR := Lib.hid hall
  clear hp hq hall
  go_wp2_with fail
  go_loopw [14, 15, 16, 17, 18, 19, 20, 21, 22] (fun s14 s15 s16 s17 _ _ _ _ _ wr => ∃ (i j k f : Nat) (done : List (Ck ByteArray)) (vals : List Value), i ≤ xs.length ∧ s15 = .int .i64 i ∧ s16 = .int .i64 j ∧ s17 = .int .i64 k ∧ Hid (xs.length < f + i) ∧ Hid (Beh p ys i j) ∧ Hid (Beh q zs i k) ∧ Hid (done.length ≤ 2 * i) ∧ Hid (done ++ chunks p q xs ys zs f i j k = all) ∧
      Hid (wr.ownsRow W.heap.size 80 5 s14 done.length vals) ∧ Hid (CkS w vals done) ∧ Hid (Below W.heap.size W wr)) (fun _ s15 _ _ _ _ _ _ _ _ => xs.length - (intOf s15).toNat)
  case atStart => exact ⟨0, 0, 0, xs.length + 1, [], [], Nat.zero_le _, rfl, rfl, rfl, (by show xs.length < _; omega), Beh.zero _ _, Beh.zero _ _, Nat.zero_le _, HALL.out.symm, World.ownsRow_nil _ _ _ _, rfl, Below.refl _ _⟩
  case round =>
    obtain ⟨i, j, k, f, done, vals, hil, rfl, rfl, rfl, hf, hA, hB, hlen, hd, hown, hck, hb⟩ := hrel
    obtain ⟨f, rfl⟩ : ∃ f', f = f' + 1 := ⟨f - 1, by have := hf.out; omega⟩
    obtain ⟨n, j1, k1, m, S, hst⟩ := stepM_all p q xs ys zs hPP.out.len hQQ.out.len i j k f hil
    have hstA := hA.out.step hPP.out S.s
    have hstB := hB.out.step hQQ.out S.s.turn
    have hin := S.s.le
    have hnx := S.s.nb
    have hnm := S.s.nm
    have hj1 := hstA.1
    have hjm := hstA.2.1
    have hk1 := hstB.1
    have hkm := hstB.2.1
    have HS := Lib.hid S
    have HST := Lib.hid hst
    have HSA := Lib.hid hstA.2.2
    have HSB := Lib.hid hstB.2.2
    clear S hst hstA hstB
    have i0' : (0 : Int) ≤ (i : Int) := Int.natCast_nonneg _
    have j0' : (0 : Int) ≤ (j : Int) := Int.natCast_nonneg _
    have k0' : (0 : Int) ≤ (k : Int) := Int.natCast_nonneg _
    have n0' : (0 : Int) ≤ (n : Int) := Int.natCast_nonneg _
    have CP := Lib.hid (fun t (ht : t < xs.length) => (rowIs_below RP.out hb.out).cell ht)
    have CQ := Lib.hid (fun t (ht : t < xs.length) => (rowIs_below RQ.out hb.out).cell ht)
    obtain ⟨wo, hwo⟩ : ∃ wo : World, wo = wr := ⟨_, rfl⟩
    rw [← hwo] at hown hb CP CQ ⊢
    clear hwo
    go_upto_block 2 with fail
    go_cut [18] (fun x18 wx => x18 = .int .i64 (n : Int) ∧ wx = wo)
    case first =>
      go_wp2_with fail
      go_loopw [18] (fun s18 wx => ∃ x : Nat, i ≤ x ∧ x ≤ n ∧ s18 = .int .i64 x ∧ wx = wo) (fun s18 _ => n - (intOf s18).toNat)
      case atStart => exact ⟨i, Nat.le_refl _, hin, rfl, rfl⟩
      case round =>
        obtain ⟨x, hx1, hx2, rfl, rfl⟩ := hrel
        have x0 : (0 : Int) ≤ (x : Int) := Int.natCast_nonneg _
        by_cases hxn : x < n
        · have hxl : (x : Int) < (xs.length : Int) := by omega
          have hno := HS.out.s.no x hx1 hxn
          have cP := CP.out x (by omega)
          have cQ := CQ.out x (by omega)
          obtain ⟨px, hpx⟩ : ∃ y, p[x]? = some y := ⟨_, List.getElem?_eq_getElem (by rw [hPP.out.len]; omega)⟩
          obtain ⟨qx, hqx⟩ : ∃ y, q[x]? = some y := ⟨_, List.getElem?_eq_getElem (by rw [hQQ.out.len]; omega)⟩
          rw [hpx] at cP
          rw [hqx] at cQ
          unfold isK at hno
          rw [hpx, hqx] at hno
          clear hpx hqx
          cases px with
          | none =>
            simp only [pzV] at cP
            clear cQ hno
            go_wp2
            go_roundw
            case rel => exact ⟨x + 1, by omega, by omega, by go_num, by trivial⟩
            case measure => simp [intOf]; omega
          | some a =>
            cases qx with
            | none =>
              simp only [pzV] at cP cQ
              have a0 : ¬ (a : Int) < 0 := by omega
              clear hno
              go_wp2
              go_roundw
              case rel => exact ⟨x + 1, by omega, by omega, by go_num, by trivial⟩
              case measure => simp [intOf]; omega
            | some d => simp [isSome2] at hno
        · obtain rfl : x = n := by omega
          by_cases hnb : x < xs.length
          · have hxl : (x : Int) < (xs.length : Int) := by omega
            have hy := HS.out.s.yes hnb
            have cP := CP.out x hnb
            have cQ := CQ.out x hnb
            rw [hy.1] at cP
            rw [hy.2] at cQ
            simp only [pzV] at cP cQ
            have a0 : ¬ (j1 : Int) < 0 := by omega
            have a1 : ¬ (k1 : Int) < 0 := by omega
            clear hy
            go_wp2_with fail
            go_meet
            exact ⟨rfl, rfl⟩
          · have hxl : ¬ (x : Int) < (xs.length : Int) := by omega
            go_wp2_with fail
            go_meet
            exact ⟨rfl, rfl⟩
    case rest =>
      obtain ⟨rfl, hwe⟩ := hcut
      have hwe := hwe.symm
      subst hwe
      go_upto_if 79 with fail
      go_cut [19, 20] (fun x19 x20 wy => x19 = .int .i64 (j1 : Int) ∧ x20 = .int .i64 (k1 : Int) ∧ wy = wo)
      case first =>
        by_cases hnb : n < xs.length
        · have hxl : (n : Int) < (xs.length : Int) := by omega
          have hy := HS.out.s.yes hnb
          have cP := CP.out n hnb
          have cQ := CQ.out n hnb
          rw [hy.1] at cP
          rw [hy.2] at cQ
          simp only [pzV] at cP cQ
          clear hy
          go_wp2_with fail
          go_meet
          exact ⟨rfl, rfl, rfl⟩
        · have hxl : ¬ (n : Int) < (xs.length : Int) := by omega
          have hfin := HS.out.s.fin (by omega)
          obtain ⟨e1, e2, _⟩ := hfin
          have E1 := Lib.hid e1
          have E2 := Lib.hid e2
          clear e1 e2
          go_wp2_with fail
          go_meet
          exact ⟨by rw [E1.out], by rw [E2.out], rfl⟩
      case rest =>
        obtain ⟨rfl, rfl, hwe⟩ := hcut
        have hwe := hwe.symm
        subst hwe
        go_upto_region 21 with fail
        go_cut [100] (fun x100 wy => x100 = .bool (decide (i < n ∨ j < j1 ∨ k < k1)) ∧ wy = wo)
        case first =>
          by_cases g1 : i < n
          · have HD := Lib.hid (decide_eq_true (show i < n ∨ j < j1 ∨ k < k1 from .inl g1))
            have g1i : (i : Int) < (n : Int) := by omega
            go_wp2_with fail
            go_meet
            exact ⟨by rw [HD.out], rfl⟩
          · have g1i : (decide ((i : Int) < (n : Int))) = false := decide_eq_false (by omega)
            by_cases g2 : j < j1
            · have HD := Lib.hid (decide_eq_true (show i < n ∨ j < j1 ∨ k < k1 from .inr (.inl g2)))
              have g2i : (j : Int) < (j1 : Int) := by omega
              go_wp2_with fail
              go_meet
              exact ⟨by rw [HD.out], rfl⟩
            · have g2i : (decide ((j : Int) < (j1 : Int))) = false := decide_eq_false (by omega)
              by_cases g3 : k < k1
              · have HD := Lib.hid (decide_eq_true (show i < n ∨ j < j1 ∨ k < k1 from .inr (.inr g3)))
                have g3i : (k : Int) < (k1 : Int) := by omega
                go_wp2_with fail
                go_meet
                exact ⟨by rw [HD.out], rfl⟩
              · have HD := Lib.hid (decide_eq_false (show ¬ (i < n ∨ j < j1 ∨ k < k1) by omega))
                have g3i : (decide ((k : Int) < (k1 : Int))) = false := decide_eq_false (by omega)
                go_wp2_with fail
                go_meet
                exact ⟨by rw [HD.out], rfl⟩
        case rest =>
          obtain ⟨rfl, hwe⟩ := hcut
          have hwe := hwe.symm
          subst hwe
          go_upto_if 100 with fail
          go_cut [14] (fun x14 wy => ∃ vals', Hid (wy.ownsRow W.heap.size 80 5 x14 (done ++ firstC xs ys zs i j k n j1 k1).length vals') ∧ Hid (CkS w vals' (done ++ firstC xs ys zs i j k n j1 k1)) ∧ Hid (Below W.heap.size W wy))
          case first =>
            by_cases hc : i < n ∨ j < j1 ∨ k < k1
            · have hfc : firstC xs ys zs i j k n j1 k1 = [decideC (cutL2 xs i n) (cutL2 ys j j1) (cutL2 zs k k1)] := by unfold firstC; rw [if_pos hc]
              rw [decide_eq_true hc]
              have HFC := Lib.hid hfc
              clear hfc hc
              have q1 : (i : Int) ≤ (n : Int) := by omega
              have q2 : (j : Int) ≤ (j1 : Int) := by omega
              have q3 : (k : Int) ≤ (k1 : Int) := by omega
              have hlA := H0.out.len.2.1
              have hlB := H1.out.len.2.1
              have hlC := H2.out.len.2.1
              have q4 : (n : Int) ≤ (cA : Int) := by omega
              have q5 : (j1 : Int) ≤ (cB : Int) := by omega
              have q6 : (k1 : Int) ≤ (cC : Int) := by omega
              have s0 := Strs.piece H0.out hin hnx
              have s1 := Strs.piece H1.out hj1 (show j1 ≤ ys.length by omega)
              have s2 := Strs.piece H2.out hk1 (show k1 ≤ zs.length by omega)
              have hwo := BW.out.trans (hb.out.mono BW.out.size)
              have T := Lib.hid (fun W' (hW : Below wo.heap.size wo W') => refBetween_any W' _ _ _ _ _ _ (s0.below (hwo.trans (hW.mono hwo.size))) (s1.below (hwo.trans (hW.mono hwo.size))) (s2.below (hwo.trans (hW.mono hwo.size))))
              have S0 := Lib.hid s0
              have S1 := Lib.hid s1
              have S2 := Lib.hid s2
              have HWO := Lib.hid hwo
              have DB := Lib.hid (decideC_base (cutL2 xs i n) (cutL2 ys j j1) (cutL2 zs k k1))
              have DO := Lib.hid (decideC_ours (cutL2 xs i n) (cutL2 ys j j1) (cutL2 zs k k1))
              have DT := Lib.hid (decideC_theirs (cutL2 xs i n) (cutL2 ys j j1) (cutL2 zs k k1))
              have hdl := hlen.out
              clear s0 s1 s2 hwo
              generalize decideC (cutL2 xs i n) (cutL2 ys j j1) (cutL2 zs k k1) = dk at *
              go_wp2_with fail
              go_region_law (first
                | (refine step_append_lies _ (by rfl) _ _ _ (by rfl) W.heap.size 80 i0 _ 5 104 Tryd.underlying75 hi hz0 hz1 hz2 rfl (by omega) _ done.length vals (by rfl) (hownB.out.alloc _)
                    ⟨wB.heap.size, 0, none⟩ 1 1 [.slice (if cA = i then A else Option.map (fun x => x.add i) A) (n - i) (cA - i), .slice (if cB = j then B else Option.map (fun x => x.add j) B) (j1 - j) (cB - j), .slice (if cC = k then C else Option.map (fun x => x.add k) C) (k1 - k) (cC - k), .bool dk.clash, .slice A4 m4 c4] (by rfl) (by rfl) (World.news_of_block (cs := #[.slice (if cA = i then A else Option.map (fun x => x.add i) A) (n - i) (cA - i), .slice (if cB = j then B else Option.map (fun x => x.add j) B) (j1 - j) (cB - j), .slice (if cC = k then C else Option.map (fun x => x.add k) C) (k1 - k) (cC - k), .bool dk.clash, .slice A4 m4 c4]) (t := 80) (fr := (0, 0)) (heap_alloc_new wB _)) (by simp [Value.oneCell'])
                    (by omega) (by unfold maxLen; omega) (by omega) (by simp; omega) (wB.heap.size + 1) (by simp) ?_; intro gg cap w3 hown1 hgrow hat hlt)
                | (go_simp; go_at_call 70; (with_reducible refine (T.out _ ((Below.refl _ wo).drew)).mono ?_); rintro e wB ⟨ve, rfl, hve, bB⟩; have hve1 := hve w S0.out S1.out S2.out; obtain ⟨A4, m4, c4, rfl⟩ := hve1.form; have hVE := Lib.hid hve1; have hbB := Lib.hid (((Below.refl wo.heap.size wo).drew).trans bB); have hownB := Lib.hid (own2_keep hown.out hbB.out); have hWs := (hb.out.trans (hbB.out.mono hb.out.size)).size; clear hve hve1 bB))
              generalize hAA : (if cA = i then A else Option.map (fun x => x.add i) A) = aA
              have HAA := Lib.hid hAA
              clear hAA
              generalize hAB : (if cB = j then B else Option.map (fun x => x.add j) B) = aB
              have HAB := Lib.hid hAB
              clear hAB
              generalize hAC : (if cC = k then C else Option.map (fun x => x.add k) C) = aC
              have HAC := Lib.hid hAC
              clear hAC
              have HO1 := Lib.hid hown1
              have HGR := Lib.hid hgrow
              have HWS := Lib.hid hWs
              clear hown1 hgrow hat hlt hWs q1 q2 q3 q4 q5 q6 hlA hlB hlC hdl
              go_wp2_with fail
              change Met _ (Act.put _ (some 14) _) _
              simp only [Act.put, List.setIfInBounds_toArray, List.set_cons_zero, List.set_cons_succ]
              go_meet
              exact Exists.intro (vals ++ [.slice (if cA = i then A else Option.map (fun x => x.add i) A) (n - i) (cA - i), .slice (if cB = j then B else Option.map (fun x => x.add j) B) (j1 - j) (cB - j), .slice (if cC = k then C else Option.map (fun x => x.add k) C) (k1 - k) (cC - k), .bool dk.clash, .slice A4 m4 c4]) (And.intro (by rw [HFC.out, List.length_append]; exact HO1.out) (And.intro (by rw [HFC.out]; exact CkS.snoc (c := dk) (by rw [DB.out]; exact S0.out) (by rw [DO.out]; exact S1.out) (by rw [DT.out]; exact S2.out) hVE.out hck.out) (by
                have hbW := hb.out.trans (hbB.out.mono hb.out.size)
                exact Below.grown (hbW.alloc hbW.size _) HGR.out (by have := hbW.size; simp; omega) (fun z hz => (hown.out.lt z hz).1))))
            · have hfc : firstC xs ys zs i j k n j1 k1 = [] := by unfold firstC; rw [if_neg hc]
              rw [decide_eq_false hc]
              have HFC := Lib.hid hfc
              clear hfc hc
              go_wp2_with fail
              go_meet
              exact ⟨vals, by rw [HFC.out, List.append_nil]; exact hown.out, by rw [HFC.out, List.append_nil]; exact hck.out, hb.out⟩
          case rest =>
            obtain ⟨vals2, HO2, HC2, HB2⟩ := hcut
            obtain ⟨done2, hdone2⟩ : ∃ d, d = done ++ firstC xs ys zs i j k n j1 k1 := ⟨_, rfl⟩
            rw [← hdone2] at HO2 HC2
            have hfl : (firstC xs ys zs i j k n j1 k1).length ≤ 1 := by unfold firstC; split <;> simp
            have hl2 : done2.length ≤ 2 * i + 1 := by rw [hdone2, List.length_append]; have := hlen.out; omega
            have HD2 := Lib.hid (show done2 ++ (keptC xs ys zs n j1 k1 m ++ chunks p q xs ys zs f (n + m) (j1 + m) (k1 + m)) = all by rw [hdone2, List.append_assoc, ← HST.out]; exact hd.out)
            have CP2 := Lib.hid (fun t (ht : t < xs.length) => (rowIs_below RP.out HB2.out).cell ht)
            have CQ2 := Lib.hid (fun t (ht : t < xs.length) => (rowIs_below RQ.out HB2.out).cell ht)
            have HHL := Lib.hid hl2
            clear hdone2 hfl hl2 hown hck hb CP CQ hd HST hA hB
            by_cases hnb : n < xs.length
            · have hxl : (n : Int) < (xs.length : Int) := by omega
              have hne : ((n : Int) == (xs.length : Int)) = false := by simpa using (show (n : Int) ≠ (xs.length : Int) by omega)
              have HRE := Lib.hid (run_eq hPP.out HS.out.s hjm)
              have HRE2 := Lib.hid (run_eq hQQ.out HS.out.s.turn hkm)
              have hmp := HS.out.s.pos hnb
              obtain ⟨wo2, hwo2⟩ : ∃ wo2 : World, wo2 = wc := ⟨_, rfl⟩
              rw [← hwo2] at HO2 HB2 CP2 CQ2 ⊢
              clear hwo2
              go_upto_block 4 with fail
              go_cut [21] (fun x21 wx => x21 = .int .i64 ((n + m : Nat) : Int) ∧ wx = wo2)
              case first =>
                go_wp2_with fail
                go_loopw [21] (fun s21 wx => ∃ y : Nat, n ≤ y ∧ y ≤ n + m ∧ s21 = .int .i64 (y : Int) ∧ wx = wo2) (fun s21 _ => n + m - (intOf s21).toNat)
                case atStart => exact ⟨n, Nat.le_refl _, by omega, rfl, rfl⟩
                case round =>
                  obtain ⟨y, hy1, hy2, rfl, rfl⟩ := hrel
                  have y0 : (0 : Int) ≤ (y : Int) := Int.natCast_nonneg _
                  have hyn0 : (n : Int) ≤ (y : Int) := by omega
                  have hx9 : xs.length ≤ 256 := hx
                  by_cases hyn : y < n + m
                  · have hyl : (y : Int) < (xs.length : Int) := by omega
                    have hr := HS.out.s.run (y - n) (by omega)
                    rw [show n + (y - n) = y by omega] at hr
                    have hb1 := hPP.out.lt hr.1
                    have hb2 := hQQ.out.lt hr.2
                    have cP := CP2.out y (by omega)
                    have cQ := CQ2.out y (by omega)
                    rw [hr.1] at cP
                    rw [hr.2] at cQ
                    simp only [pzV] at cP cQ
                    obtain ⟨a, ha⟩ : ∃ a, a = j1 + (y - n) := ⟨_, rfl⟩
                    obtain ⟨d, hd⟩ : ∃ d, d = k1 + (y - n) := ⟨_, rfl⟩
                    rw [← ha] at cP hb1
                    rw [← hd] at cQ hb2
                    have a0 : (0 : Int) ≤ (a : Int) := by omega
                    have d0 : (0 : Int) ≤ (d : Int) := by omega
                    have a9 : (a : Int) ≤ 256 := by omega
                    have d9 : (d : Int) ≤ 256 := by omega
                    have j9 : (j1 : Int) ≤ 256 := by omega
                    have k9 : (k1 : Int) ≤ 256 := by omega
                    have j00 : (0 : Int) ≤ (j1 : Int) := by omega
                    have k00 : (0 : Int) ≤ (k1 : Int) := by omega
                    have y9 : (y : Int) ≤ 256 := by omega
                    have e1 : ((a : Int) - (j1 : Int) == (y : Int) - (n : Int)) = true := by simpa using (show (a : Int) - (j1 : Int) = (y : Int) - (n : Int) by omega)
                    have e2 : ((d : Int) - (k1 : Int) == (y : Int) - (n : Int)) = true := by simpa using (show (d : Int) - (k1 : Int) = (y : Int) - (n : Int) by omega)
                    have E1 := Lib.hid ha
                    have E2 := Lib.hid hd
                    clear ha hd hr hb1 hb2
                    go_wp2
                    go_roundw
                    case rel => exact ⟨y + 1, by omega, by omega, by go_num, by trivial⟩
                    case measure => simp [intOf]; omega
                  · obtain rfl : y = n + m := by omega
                    by_cases hyl0 : n + m < xs.length
                    · have hmax := HS.out.max hyl0
                      have hyl : ((n + m : Nat) : Int) < (xs.length : Int) := by omega
                      have cP := CP2.out (n + m) hyl0
                      have cQ := CQ2.out (n + m) hyl0
                      obtain ⟨px, hpx⟩ : ∃ y, p[n + m]? = some y := ⟨_, List.getElem?_eq_getElem (by rw [hPP.out.len]; omega)⟩
                      obtain ⟨qx, hqx⟩ : ∃ y, q[n + m]? = some y := ⟨_, List.getElem?_eq_getElem (by rw [hQQ.out.len]; omega)⟩
                      have hPX := Lib.hid hpx
                      have hQX := Lib.hid hqx
                      rw [hpx] at cP
                      rw [hqx] at cQ
                      rw [hpx, hqx] at hmax
                      clear hpx hqx
                      obtain ⟨y, hy⟩ : ∃ y, y = n + m := ⟨_, rfl⟩
                      have HYN := Lib.hid hy
                      rw [← hy] at cP cQ hyl hyn0 y0 hPX hQX ⊢
                      have y9 : (y : Int) ≤ 256 := by omega
                      have hyz : (y : Int) - (n : Int) = (m : Int) := by omega
                      have HYZ := Lib.hid hyz
                      clear hy hyz hyl0 hyn hy1 hy2
                      cases px with
                      | none =>
                        simp only [pzV] at cP
                        clear cQ hmax
                        go_wp2_with fail
                        go_meet
                        exact ⟨by rw [HYN.out], by trivial⟩
                      | some a =>
                        have hb1 := hPP.out.lt hPX.out
                        have a0 : (0 : Int) ≤ (a : Int) := by omega
                        have a9 : (a : Int) ≤ 256 := by omega
                        cases qx with
                        | none =>
                          simp only [pzV] at cP cQ
                          clear hmax hb1
                          go_wp2_with fail
                          go_meet
                          exact ⟨by rw [HYN.out], by trivial⟩
                        | some d =>
                          have hb2 := hQQ.out.lt hQX.out
                          have d0 : (0 : Int) ≤ (d : Int) := by omega
                          have d9 : (d : Int) ≤ 256 := by omega
                          have j9 : (j1 : Int) ≤ 256 := by omega
                          have k9 : (k1 : Int) ≤ 256 := by omega
                          have j00 : (0 : Int) ≤ (j1 : Int) := by omega
                          have k00 : (0 : Int) ≤ (k1 : Int) := by omega
                          simp only [pzV] at cP cQ
                          by_cases hea : a = j1 + m
                          · have hed : d ≠ k1 + m := fun e => hmax ⟨by rw [hea], by rw [e]⟩
                            have e1 : ((a : Int) - (j1 : Int) == (y : Int) - (n : Int)) = true := by have := HYZ.out; simpa using (show (a : Int) - (j1 : Int) = (y : Int) - (n : Int) by omega)
                            have e2 : ((d : Int) - (k1 : Int) == (y : Int) - (n : Int)) = false := by have := HYZ.out; simpa using (show (d : Int) - (k1 : Int) ≠ (y : Int) - (n : Int) by omega)
                            clear hmax hb1 hb2 hea hed
                            go_wp2_with fail
                            go_meet
                            exact ⟨by rw [HYN.out], by trivial⟩
                          · have e1 : ((a : Int) - (j1 : Int) == (y : Int) - (n : Int)) = false := by have := HYZ.out; simpa using (show (a : Int) - (j1 : Int) ≠ (y : Int) - (n : Int) by omega)
                            clear hmax hb1 hb2 hea
                            go_wp2_with fail
                            go_meet
                            exact ⟨by rw [HYN.out], by trivial⟩
                    · have hyl : ¬ ((n + m : Nat) : Int) < (xs.length : Int) := by omega
                      go_wp2_with fail
                      go_meet
                      exact ⟨rfl, by trivial⟩
              case rest =>
                obtain ⟨rfl, hwe⟩ := hcut
                have hwe := hwe.symm
                subst hwe
                have q1 : (n : Int) ≤ ((n + m : Nat) : Int) := by omega
                have hlA := H0.out.len.2.1
                have q4 : ((n + m : Nat) : Int) ≤ (cA : Int) := by omega
                have q0 : (0 : Int) ≤ ((n + m : Nat) : Int) := by omega
                have sK0 := Strs.piece H0.out (show n ≤ n + m by omega) hnm
                rw [if_neg (by omega : ¬ cA = n), show n + m - n = m by omega] at sK0
                have sK := Lib.hid sK0
                clear sK0
                go_upto_region 29 with fail
                generalize Option.map (fun x => x.add n) A = aR at *
                rw [show n + m - n = m by omega]
                have hKC : keptC xs ys zs n j1 k1 m = [⟨cutL2 xs n (n + m), cutL2 xs n (n + m), cutL2 xs n (n + m), false, cutL2 xs n (n + m)⟩] := by
                  unfold keptC
                  rw [if_pos hmp, ← HRE.out, ← HRE2.out]
                have HKC := Lib.hid hKC
                have hll := HHL.out
                have hll2 : done2.length ≤ 2 * xs.length + 1 := by omega
                have hown4 := HO2.out.alloc (.cells #[.slice aR m (cA - n), .slice aR m (cA - n), .slice aR m (cA - n), .bool false, .slice aR m (cA - n)] 80)
                have hnews := World.news_of_block (cs := #[.slice aR m (cA - n), .slice aR m (cA - n), .slice aR m (cA - n), .bool false, .slice aR m (cA - n)]) (t := 80) (fr := (0, 0)) (heap_alloc_new wo2 (.cells #[.slice aR m (cA - n), .slice aR m (cA - n), .slice aR m (cA - n), .bool false, .slice aR m (cA - n)] 80))
                have hb4 := HB2.out.alloc HB2.out.size (.cells #[.slice aR m (cA - n), .slice aR m (cA - n), .slice aR m (cA - n), .bool false, .slice aR m (cA - n)] 80)
                have hsz4 := hb4.size
                have j9 : (j1 : Int) ≤ 256 := by omega
                have k9 : (k1 : Int) ≤ 256 := by omega
                have j00 : (0 : Int) ≤ (j1 : Int) := by omega
                have k00 : (0 : Int) ≤ (k1 : Int) := by omega
                have nm9 : ((n + m : Nat) : Int) ≤ 256 := by omega
                clear hKC
                go_wp2_with (at_builtin; (refine wpList_append_own _ rfl _ _ 75 rfl W.heap.size 80 i0 (.agg #[.slice none 0 0, .slice none 0 0, .slice none 0 0, .bool false, .slice none 0 0]) 5 104 Tryd.underlying75 hi hz0 hz1 hz2 rfl (by decide) _ _ _ rfl hown4 ⟨wo2.heap.size, 0, none⟩ 1 1 [.slice aR m (cA - n), .slice aR m (cA - n), .slice aR m (cA - n), .bool false, .slice aR m (cA - n)] rfl rfl hnews (by simp [Value.oneCell']) (by unfold maxLen; omega) (by omega) hsz4 ?_); intro v5 w5 hown5 hg5 _)
                have hb5 : Below W.heap.size W w5 := hb4.grown hg5 hsz4 (fun k hk => (HO2.out.lt k hk).1)
                clear hnews hown4 hg5 hb4
                go_roundw
                case rel => exact ⟨n + m, j1 + m, k1 + m, f, done2 ++ [⟨cutL2 xs n (n + m), cutL2 xs n (n + m), cutL2 xs n (n + m), false, cutL2 xs n (n + m)⟩], vals2 ++ [.slice aR m (cA - n), .slice aR m (cA - n), .slice aR m (cA - n), .bool false, .slice aR m (cA - n)], hnm, by go_num, by go_num, by go_num, Lib.hid (by have := hf.out; omega), HSA, HSB, Lib.hid (by rw [List.length_append, List.length_singleton]; have := hll; omega), Lib.hid (by rw [List.append_assoc]; have := HD2.out; rw [HKC.out] at this; exact this), Lib.hid (by rw [List.length_append, List.length_singleton]; exact hown5), Lib.hid (CkS.snoc (c := ⟨cutL2 xs n (n + m), cutL2 xs n (n + m), cutL2 xs n (n + m), false, cutL2 xs n (n + m)⟩) sK.out sK.out sK.out sK.out HC2.out), Lib.hid hb5⟩
                case measure => simp [intOf]; omega
            · obtain rfl : n = xs.length := by omega
              obtain ⟨e1, e2, e3⟩ := HS.out.s.fin rfl
              subst e3
              have hall := HD2.out
              rw [show keptC xs ys zs xs.length j1 k1 0 = [] by simp [keptC], List.nil_append, chunks_end p q xs ys zs f (xs.length + 0) (j1 + 0) (k1 + 0) ⟨rfl, e1, e2⟩, List.append_nil] at hall
              have HALL2 := Lib.hid hall
              have KY := K7.out.below HB2.out K7.out.lt
              have KX := K9.out.below HB2.out K9.out.lt
              have c0 := KX.cell 0
              have c1 := KX.cell 1
              have y0 := KY.cell 0
              have y1 := KY.cell 1
              have f0 := KY.frozen 0
              have f1 := KY.frozen 1
              have HKY := Lib.hid KY
              have BR := Lib.hid (BW.out.trans (HB2.out.mono BW.out.size))
              have O9 := Lib.hid (own2_le ((HO2.out.kept (grown_cellL wc Y 0 (.slice none 0 0)) (.inr (own_blk_ne HO2.out KY (by decide)))).kept (grown_cellL (wc.setCell ⟨Y, 0, none⟩ (.slice none 0 0)) Y 1 (.int .i64 0)) (.inr (own_blk_ne HO2.out KY (by decide)))) BW.out.size)
              have hYw : w.heap.size ≤ Y := by rw [HY.out]; exact Nat.le_refl _
              have B9 := Lib.hid ((BR.out.setCell (p := ⟨Y, 0, none⟩) hYw (.slice none 0 0)).setCell (p := ⟨Y, 1, none⟩) hYw (.int .i64 0))
              have C9 := Lib.hid (CkS.below B9.out HC2.out)
              clear KX KY hYw e1 e2 hall
              go_wp2_with fail
              go_region
              go_wp2_with fail
              refine bodyPost_ret (results_tmp_row (fn := Tryd.f36) rfl _ _ Y 33 #[.slice none 0 0, .int .i64 0] (0, 0) rfl (by first | exact (HKY.out.set_ 0 _).set_ 1 _ | simpa using (HKY.out.set_ 0 (.slice none 0 0)).set_ 1 (.int .i64 0)) Tryd.underlying33 (by kernel_rfl)) rfl (.inl ⟨hx, hy, hz, _, vals2, rfl, ?_, ?_, ?_⟩)
              · rw [← HALLR.out, ← HALL2.out]; exact O9.out
              · rw [← HALLR.out, ← HALL2.out]; first | exact C9.out | exact CkS.below ((Below.refl _ _).drew) C9.out
              · first | exact B9.out | exact B9.out.drew
end Go.Proofs.YtdpoeagmeiedcaaDoor
namespace Go.Proofs.YtdpoeagmeiedcaaDoor
open Go Go.RowKit

set_option maxRecDepth 100000 in
set_option maxHeartbeats 4000000 in
theorem refChunks_e1 (w : World) (A B C : Option Addr) (cA cB cC : Nat) (xs ys zs : List ByteArray) (h0 : Strs w (.slice A xs.length cA) xs) (h1 : Strs w (.slice B ys.length cB) ys) (ho : ∃ k, Over xs.length ys.length k) :
    Calls Tryd.prog 36 #[.slice A xs.length cA, .slice B ys.length cB, .slice C zs.length cC] w (RefChunked w xs ys zs (allR xs ys zs)) := by
  have E1 := (Below.refl w.heap.size w).alloc (Nat.le_refl _) (.cells #[.slice none 0 0, .int .i64 0] 33)
  have K1 := Blk.new w 33 #[.slice none 0 0, .int .i64 0]
  have hs1 : (w.alloc (.cells #[.slice none 0 0, .int .i64 0] 33)).heap.size = w.heap.size + 1 := by simp
  have LO := Lib.hid (refLines_any (w.alloc (.cells #[.slice none 0 0, .int .i64 0] 33)) _ _ xs ys (h0.below E1) (h1.below E1))
  have HOO := Lib.hid ho
  clear h0 h1 ho
  go_enter Tryd.func36, Tryd.ntmps36
  go_wp2_with fail
  refine LO.out.mono ?_
  rintro e w2 (⟨hxl, hyl, _⟩ | ⟨k, g, hk, rfl, hg, hb2⟩)
  · obtain ⟨k, hk⟩ := HOO.out
    unfold Over at hk
    omega
  · have E2 := E1.trans (hb2.mono (by rw [hs1]; omega))
    have K2 := K1.below hb2 K1.lt
    have K3 := K2.alloc (.cells #[.slice (some ⟨g, 0, none⟩) 1 1, .int .i64 4] 33)
    have X3 := Blk.new w2 33 #[.slice (some ⟨g, 0, none⟩) 1 1, .int .i64 4]
    have G3 := Lib.hid (Blk.alloc hg (.cells #[.slice (some ⟨g, 0, none⟩) 1 1, .int .i64 4] 33))
    have E3 := Lib.hid (E2.trans (((Below.refl w2.heap.size w2).alloc (Nat.le_refl _) (.cells #[.slice (some ⟨g, 0, none⟩) 1 1, .int .i64 4] 33)).mono E2.size))
    have c0 := X3.cell 0
    have c1 := X3.cell 1
    have y0 := K3.cell 0
    have y1 := K3.cell 1
    have f0 := K3.frozen 0
    have f1 := K3.frozen 1
    have HK3 := Lib.hid K3
    have HYG := Lib.hid (K3.ne_ G3.out (by decide))
    have hYX : w.heap.size ≠ w2.heap.size := by have := K2.lt; omega
    have HOV := Lib.hid hk
    clear hg X3 K3 K1 E1 E2 LO hb2 hs1 hk K2 HOO
    go_wp2_with fail
    generalize hW3 : w2.alloc (.cells #[.slice (some ⟨g, 0, none⟩) 1 1, .int .i64 4] 33) = W3 at *
    go_region
    go_wp2_with fail
    refine bodyPost_ret (results_tmp_row (fn := Tryd.f36) rfl _ _ w.heap.size 33 #[.slice (some ⟨g, 0, none⟩) 1 1, .int .i64 4] (0, 0) rfl (by first | exact (HK3.out.set_ 0 _).set_ 1 _ | simpa using (HK3.out.set_ 0 (.slice (some ⟨g, 0, none⟩) 1 1)).set_ 1 (.int .i64 4)) Tryd.underlying33 (by kernel_rfl)) rfl (.inr ⟨k, g, .inl HOV.out, rfl, (G3.out.far (p := ⟨w.heap.size, 0, none⟩) (fun e => HYG.out e.symm) _).far (p := ⟨w.heap.size, 1, none⟩) (fun e => HYG.out e.symm) _, ?_⟩)
    exact ((E3.out.setCell (p := ⟨w.heap.size, 0, none⟩) (Nat.le_refl _) _).setCell (p := ⟨w.heap.size, 1, none⟩) (Nat.le_refl _) _).drew

set_option maxRecDepth 100000 in
set_option maxHeartbeats 4000000 in
theorem refChunks_e2 (w : World) (A B C : Option Addr) (cA cB cC : Nat) (xs ys zs : List ByteArray) (h0 : Strs w (.slice A xs.length cA) xs) (h1 : Strs w (.slice B ys.length cB) ys) (h2 : Strs w (.slice C zs.length cC) zs) (hx : xs.length ≤ 256) (hy : ys.length ≤ 256) (ho : ∃ k, Over xs.length zs.length k) :
    Calls Tryd.prog 36 #[.slice A xs.length cA, .slice B ys.length cB, .slice C zs.length cC] w (RefChunked w xs ys zs (allR xs ys zs)) := by
  have b1 := (Below.refl w.heap.size w).alloc (Nat.le_refl _) (.cells #[.slice none 0 0, .int .i64 0] 33)
  have K7 := Blk.new w 33 #[.slice none 0 0, .int .i64 0]
  have H0 := Lib.hid h0
  have H1 := Lib.hid h1
  have H2 := Lib.hid h2
  have HOO := Lib.hid ho
  clear h0 h1 h2 ho
  go_enter Tryd.func36, Tryd.ntmps36
  go_wp2_with fail
  generalize hW1 : w.alloc (.cells #[.slice none 0 0, .int .i64 0] 33) = W1 at *
  clear hW1
  obtain ⟨Y, hY⟩ : ∃ Y, Y = w.heap.size := ⟨_, rfl⟩
  rw [← hY] at K7 ⊢
  have HY := Lib.hid hY
  clear hY
  have B1 := Lib.hid b1
  refine (refLines_any W1 _ _ xs ys (H0.out.below b1) (H1.out.below b1)).mono ?_
  rintro e w2 (⟨_, _, v1, rfl, o1, b2⟩ | ⟨k, g, hk, _⟩)
  case inr => unfold Over at hk; omega
  obtain ⟨A1, c1, rfl⟩ := own_formk o1
  have B2 := Lib.hid (B1.out.trans (b2.mono B1.out.size))
  have K7b := K7.below b2 K7.lt
  have b3 := (Below.refl w2.heap.size w2).alloc (Nat.le_refl _) (.cells #[.slice none 0 0, .int .i64 0] 33)
  have K7c := K7b.below b3 K7b.lt
  have B3 := Lib.hid (B2.out.trans (b3.mono B2.out.size))
  clear b1 K7 o1 b2 K7b b3 B1 B2
  go_wp2_with fail
  generalize hW3 : w2.alloc (.cells #[.slice none 0 0, .int .i64 0] 33) = W3 at *
  clear hW3
  generalize w2.heap.size = X at *
  refine (refLines_any W3 _ _ xs zs (H0.out.below B3.out) (H2.out.below B3.out)).mono ?_
  rintro e w4 (⟨hxl, hzl, _⟩ | ⟨k, g, hk, rfl, hg, b4⟩)
  · obtain ⟨k, hk⟩ := HOO.out
    unfold Over at hk
    omega
  · have E2 := B3.out.trans (b4.mono B3.out.size)
    have K2 := K7c.below b4 K7c.lt
    have K3 := K2.alloc (.cells #[.slice (some ⟨g, 0, none⟩) 1 1, .int .i64 4] 33)
    have X3 := Blk.new w4 33 #[.slice (some ⟨g, 0, none⟩) 1 1, .int .i64 4]
    have G3 := Lib.hid (Blk.alloc hg (.cells #[.slice (some ⟨g, 0, none⟩) 1 1, .int .i64 4] 33))
    have E3 := Lib.hid (E2.trans (((Below.refl w4.heap.size w4).alloc (Nat.le_refl _) (.cells #[.slice (some ⟨g, 0, none⟩) 1 1, .int .i64 4] 33)).mono E2.size))
    have c0 := X3.cell 0
    have c1' := X3.cell 1
    have y0 := K3.cell 0
    have y1 := K3.cell 1
    have f0 := K3.frozen 0
    have f1 := K3.frozen 1
    have HK3 := Lib.hid K3
    have HYG := Lib.hid (K3.ne_ G3.out (by decide))
    have hYX : Y ≠ w4.heap.size := by have := K2.lt; omega
    have HOV := Lib.hid hk
    have hYw : Hid (w.heap.size ≤ Y) := Lib.hid (by rw [HY.out]; exact Nat.le_refl _)
    clear hg X3 K3 E2 b4 hk K2 HOO K7c
    go_wp2_with fail
    generalize hW3 : w4.alloc (.cells #[.slice (some ⟨g, 0, none⟩) 1 1, .int .i64 4] 33) = W5 at *
    go_region
    go_wp2_with fail
    refine bodyPost_ret (results_tmp_row (fn := Tryd.f36) rfl _ _ Y 33 #[.slice (some ⟨g, 0, none⟩) 1 1, .int .i64 4] (0, 0) rfl (by first | exact (HK3.out.set_ 0 _).set_ 1 _ | simpa using (HK3.out.set_ 0 (.slice (some ⟨g, 0, none⟩) 1 1)).set_ 1 (.int .i64 4)) Tryd.underlying33 (by kernel_rfl)) rfl (.inr ⟨k, g, .inr ⟨hx, hy, HOV.out⟩, rfl, (G3.out.far (p := ⟨Y, 0, none⟩) (fun e => HYG.out e.symm) _).far (p := ⟨Y, 1, none⟩) (fun e => HYG.out e.symm) _, ?_⟩)
    exact ((E3.out.setCell (p := ⟨Y, 0, none⟩) hYw.out _).setCell (p := ⟨Y, 1, none⟩) hYw.out _).drew

theorem refChunks_any (w : World) (v0 v1 v2 : Value) (xs ys zs : List ByteArray) (h0 : Strs w v0 xs) (h1 : Strs w v1 ys) (h2 : Strs w v2 zs) :
    Calls Tryd.prog 36 #[v0, v1, v2] w (RefChunked w xs ys zs (allR xs ys zs)) := by
  obtain ⟨A, n, c, rfl⟩ := h0.form
  obtain ⟨B, m, d, rfl⟩ := h1.form
  obtain ⟨C, r, f, rfl⟩ := h2.form
  obtain rfl := h0.len.1
  obtain rfl := h1.len.1
  obtain rfl := h2.len.1
  rcases over_or xs.length ys.length with ⟨hx, hy⟩ | ho
  · rcases over_or xs.length zs.length with ⟨_, hz⟩ | ho
    · exact refChunks_ok w A B C c d f xs ys zs h0 h1 h2 hx hy hz
    · exact refChunks_e2 w A B C c d f xs ys zs h0 h1 h2 hx hy ho
  · exact refChunks_e1 w A B C c d f xs ys zs h0 h1 ho
end Go.Proofs.YtdpoeagmeiedcaaDoor
namespace Go.Proofs.YtdpoeagmeiedcaaDoor
open Go Go.RowKit

/-- Whose lines of three are too many. -/
def Over3 (n m r k : Nat) : Prop := Over n m k ∨ (n ≤ 256 ∧ m ≤ 256 ∧ Over n r k)
theorem over3_same {n m r k k' : Nat} (h : Over3 n m r k) (h' : Over3 n m r k') : k = k' := by unfold Over3 Over at h h'; omega
theorem over3_01 {n m r k : Nat} (h : Over3 n m r k) : k = 0 ∨ k = 1 := by unfold Over3 Over at h; omega

set_option maxRecDepth 100000 in
set_option maxHeartbeats 1000000 in
theorem chunks_bad1 (w : World) (A B C : Option Addr) (n c m d r f k : Nat) (hk : Over n m k) : Calls Tryd.prog 35 #[.slice A n c, .slice B m d, .slice C r f] w (FaultTo2 (.slice none 0 0) k w) := by
  have CK := Lib.hid (lines_bad w A B n c m d k hk)
  clear hk
  go_enter Tryd.func35, Tryd.ntmps35
  go_wp2_with fail
  refine CK.out.mono ?_
  rintro e w' ⟨F, rfl, T, hb⟩
  go_wp2
  go_ret2
  exact ⟨F, rfl, T, hb⟩
set_option maxRecDepth 100000 in
set_option maxHeartbeats 1000000 in
theorem chunks_bad2 (w : World) (A B C : Option Addr) (c d f k : Nat) (xs ys zs : List ByteArray) (h0 : Strs w (.slice A xs.length c) xs) (h1 : Strs w (.slice B ys.length d) ys) (hx : ∀ s ∈ xs, s.size ≤ maxLen) (hy : ∀ s ∈ ys, s.size ≤ maxLen)
    (lx : xs.length ≤ 256) (ly : ys.length ≤ 256) (hk : Over xs.length zs.length k) : Calls Tryd.prog 35 #[.slice A xs.length c, .slice B ys.length d, .slice C zs.length f] w (FaultTo2 (.slice none 0 0) k w) := by
  have L1 := Lib.hid (lines_good w _ _ xs ys h0 h1 hx hy lx ly)
  have CK := Lib.hid fun W => lines_bad W A C xs.length c zs.length f k hk
  clear h0 h1 hx hy hk
  go_enter Tryd.func35, Tryd.ntmps35
  go_wp2_with fail
  refine L1.out.mono ?_
  rintro e w1 ⟨vE, rfl, o1, b1⟩
  clear o1
  go_wp2_with fail
  refine (CK.out w1).mono ?_
  rintro e w' ⟨F, rfl, T, hb⟩
  have B2 := Lib.hid (b1.trans (hb.mono b1.size))
  clear b1 hb
  go_wp2
  go_ret2
  exact ⟨F, rfl, T, B2.out⟩
theorem chunks_bad (w : World) (A B C : Option Addr) (c d f k : Nat) (xs ys zs : List ByteArray) (h0 : Strs w (.slice A xs.length c) xs) (h1 : Strs w (.slice B ys.length d) ys) (hx : ∀ s ∈ xs, s.size ≤ maxLen) (hy : ∀ s ∈ ys, s.size ≤ maxLen)
    (hk : Over3 xs.length ys.length zs.length k) : Calls Tryd.prog 35 #[.slice A xs.length c, .slice B ys.length d, .slice C zs.length f] w (FaultTo2 (.slice none 0 0) k w) := by
  rcases hk with hk | ⟨lx, ly, hk⟩
  · exact chunks_bad1 w A B C _ c _ d _ f k hk
  · exact chunks_bad2 w A B C c d f k xs ys zs h0 h1 hx hy lx ly hk
end Go.Proofs.YtdpoeagmeiedcaaDoor
namespace Go.Proofs.YtdpoeagmeiedcaaDoor
open Go Go.RowKit

def LenOk (n m r : Nat) : Prop := (n ≤ 40 ∧ m ≤ 40 ∧ r ≤ 40) ∨ 256 < n ∨ (256 < m ∧ n ≤ 40) ∨ (256 < r ∧ n ≤ 40 ∧ m ≤ 40)
def ThreeSays (w : World) (xs ys zs : List ByteArray) (e : Ending) (w' : World) : Prop := ∃ b, e = .returned (.bool b) ∧ (b = true → fewL xs = true ∧ fewL ys = true ∧ fewL zs = true ∧ LenOk xs.length ys.length zs.length) ∧ Below w.heap.size w w'
theorem few_of (w : World) (A : Option Addr) (n c : Nat) (xs : List ByteArray) (b : Bool) (h : Strs w (.slice A n c) xs) (hn : n = xs.length) (hb : fewL xs = b) :
    ∀ W, Below w.heap.size w W → Calls Tryd.prog 63 #[.slice A n c] W fun e w' => e = .returned (.bool b) ∧ Below W.heap.size W w' := fun W hB => by
  have := few13_any W A n c xs (h.below hB) hn
  rwa [hb] at this

set_option maxRecDepth 100000 in
set_option maxHeartbeats 8000000 in
theorem three_any (w : World) (A B D : Option Addr) (c d f : Nat) (xs ys zs : List ByteArray) (sx : Strs w (.slice A xs.length c) xs) (sy : Strs w (.slice B ys.length d) ys) (sz : Strs w (.slice D zs.length f) zs) :
    Calls Tryd.prog 34 #[.slice A xs.length c, .slice B ys.length d, .slice D zs.length f] w (ThreeSays w xs ys zs) := by
  cases gx : fewL xs with
  | false =>
    have Fx := Lib.hid (few_of w A xs.length c xs false sx rfl gx)
    clear sx sy sz gx
    go_enter Tryd.func34, Tryd.ntmps34
    go_wp2_with fail
    refine (Fx.out w (Below.refl _ _)).mono ?_
    rintro e w1 ⟨rfl, b1⟩
    go_wp2
    go_ret
    exact ⟨false, rfl, (fun h => by cases h), b1⟩
  | true =>
    cases gy : fewL ys with
    | false =>
      have Fx := Lib.hid (few_of w A xs.length c xs true sx rfl gx)
      have Fy := Lib.hid (few_of w B ys.length d ys false sy rfl gy)
      clear sx sy sz gx gy
      go_enter Tryd.func34, Tryd.ntmps34
      go_wp2_with fail
      refine (Fx.out w (Below.refl _ _)).mono ?_
      rintro e w1 ⟨rfl, b1⟩
      go_wp2_with fail
      refine (Fy.out w1 b1).mono ?_
      rintro e w2 ⟨rfl, d2⟩
      have b2 := Lib.hid (b1.trans (d2.mono b1.size))
      clear b1 d2
      go_wp2
      go_ret
      exact ⟨false, rfl, (fun h => by cases h), b2.out⟩
    | true =>
      cases gz : fewL zs with
      | false =>
        have Fx := Lib.hid (few_of w A xs.length c xs true sx rfl gx)
        have Fy := Lib.hid (few_of w B ys.length d ys true sy rfl gy)
        have Fz := Lib.hid (few_of w D zs.length f zs false sz rfl gz)
        clear sx sy sz gx gy gz
        go_enter Tryd.func34, Tryd.ntmps34
        go_wp2_with fail
        refine (Fx.out w (Below.refl _ _)).mono ?_
        rintro e w1 ⟨rfl, b1⟩
        go_wp2_with fail
        refine (Fy.out w1 b1).mono ?_
        rintro e w2 ⟨rfl, d2⟩
        have b2 := Lib.hid (b1.trans (d2.mono b1.size))
        clear b1 d2
        go_wp2_with fail
        refine (Fz.out w2 b2.out).mono ?_
        rintro e w3 ⟨rfl, d3⟩
        have b3 := Lib.hid (b2.out.trans (d3.mono b2.out.size))
        clear b2 d3
        go_wp2
        go_ret
        exact ⟨false, rfl, (fun h => by cases h), b3.out⟩
      | true =>
        have Fx := Lib.hid (few_of w A xs.length c xs true sx rfl gx)
        have Fy := Lib.hid (few_of w B ys.length d ys true sy rfl gy)
        have Fz := Lib.hid (few_of w D zs.length f zs true sz rfl gz)
        have GX := Lib.hid gx
        have GY := Lib.hid gy
        have GZ := Lib.hid gz
        clear sx sy sz gx gy gz
        obtain ⟨n, hn⟩ : ∃ n, n = xs.length := ⟨_, rfl⟩
        obtain ⟨m, hm⟩ : ∃ m, m = ys.length := ⟨_, rfl⟩
        obtain ⟨r, hr⟩ : ∃ r, r = zs.length := ⟨_, rfl⟩
        rw [← hn, ← hm, ← hr]
        rw [← hn] at Fx
        rw [← hm] at Fy
        rw [← hr] at Fz
        have HL : Hid (∀ b : Bool, (b = true → LenOk n m r) → (b = true → fewL xs = true ∧ fewL ys = true ∧ fewL zs = true ∧ LenOk xs.length ys.length zs.length)) := Lib.hid fun b h hb => ⟨GX.out, GY.out, GZ.out, by rw [← hn, ← hm, ← hr]; exact h hb⟩
        clear hn hm hr
        have PX : (((n : Int) ≤ 40 ∧ ¬ (256 : Int) < n) ∨ (¬ (n : Int) ≤ 40 ∧ ¬ (256 : Int) < n)) ∨ (¬ (n : Int) ≤ 40 ∧ (256 : Int) < n) := by omega
        have PY : (((m : Int) ≤ 40 ∧ ¬ (256 : Int) < m) ∨ (¬ (m : Int) ≤ 40 ∧ ¬ (256 : Int) < m)) ∨ (¬ (m : Int) ≤ 40 ∧ (256 : Int) < m) := by omega
        have PZ : ((r : Int) ≤ 40 ∧ ¬ (256 : Int) < r) ∨ (¬ (r : Int) ≤ 40 ∧ ¬ (256 : Int) < r) ∨ (¬ (r : Int) ≤ 40 ∧ (256 : Int) < r) := by omega
        go_enter Tryd.func34, Tryd.ntmps34
        clear PX PY PZ
        go_wp2_with fail
        refine (Fx.out w (Below.refl _ _)).mono ?_
        rintro e w1 ⟨rfl, b1⟩
        go_wp2_with fail
        refine (Fy.out w1 b1).mono ?_
        rintro e w2 ⟨rfl, d2⟩
        have b2 := Lib.hid (b1.trans (d2.mono b1.size))
        clear b1 d2
        go_wp2_with fail
        refine (Fz.out w2 b2.out).mono ?_
        rintro e w3 ⟨rfl, d3⟩
        have b3 := Lib.hid (b2.out.trans (d3.mono b2.out.size))
        clear b2 d3 Fx Fy Fz
        have PX : ((n : Int) ≤ 40 ∧ ¬ (256 : Int) < n) ∨ (¬ (n : Int) ≤ 40 ∧ ¬ (256 : Int) < n) ∨ (¬ (n : Int) ≤ 40 ∧ (256 : Int) < n) := by omega
        have PY : ((m : Int) ≤ 40 ∧ ¬ (256 : Int) < m) ∨ (¬ (m : Int) ≤ 40 ∧ ¬ (256 : Int) < m) ∨ (¬ (m : Int) ≤ 40 ∧ (256 : Int) < m) := by omega
        have PZ : ((r : Int) ≤ 40 ∧ ¬ (256 : Int) < r) ∨ (¬ (r : Int) ≤ 40 ∧ ¬ (256 : Int) < r) ∨ (¬ (r : Int) ≤ 40 ∧ (256 : Int) < r) := by omega
        rcases PX with ⟨x1, x2⟩ | ⟨x1, x2⟩ | ⟨x1, x2⟩ <;> rcases PY with ⟨y1, y2⟩ | ⟨y1, y2⟩ | ⟨y1, y2⟩ <;> rcases PZ with ⟨z1, z2⟩ | ⟨z1, z2⟩ | ⟨z1, z2⟩
        all_goals
          go_wp2
          go_ret
          refine ⟨_, rfl, HL.out _ (fun hb => ?_), b3.out⟩
          first | (unfold LenOk; omega) | (simp at hb; done) | (simp at hb; unfold LenOk; omega)
end Go.Proofs.YtdpoeagmeiedcaaDoor
namespace Go.Proofs.YtdpoeagmeiedcaaDoor
open Go Go.RowKit

/-- rectoref11.Equal at two rows of the same texts, in a world behind theirs. -/
theorem eq_yes (w5 : World) (u v : Value) (xs : List ByteArray) (h : Strs w5 u xs) (g : Strs w5 v xs) : ∀ W, Below w5.heap.size w5 W → Calls Tryd.prog 30 #[u, v] W (Flag true W) := fun W hB => by
  have := refEqual_any W u v xs xs (h.below hB) (g.below hB)
  rwa [decide_eq_true rfl] at this
/-- Five cells of a row. -/
def Cells5 (w : World) (g k : Nat) (v0 v1 v2 v3 v4 : Value) : Prop := w.cell? ⟨g, k * 5, none⟩ = some v0 ∧ w.cell? ⟨g, k * 5 + 1, none⟩ = some v1 ∧ w.cell? ⟨g, k * 5 + 2, none⟩ = some v2 ∧ w.cell? ⟨g, k * 5 + 3, none⟩ = some v3 ∧ w.cell? ⟨g, k * 5 + 4, none⟩ = some v4
theorem Cells5.below {w W : World} {g k : Nat} {v0 v1 v2 v3 v4 : Value} (h : Cells5 w g k v0 v1 v2 v3 v4) (hb : Below w.heap.size w W) : Cells5 W g k v0 v1 v2 v3 v4 := by
  obtain ⟨h0, h1, h2, h3, h4⟩ := h
  exact ⟨(hb.cell (World.block_lt_of_cell? _ _ h0)).trans h0, (hb.cell (World.block_lt_of_cell? _ _ h1)).trans h1, (hb.cell (World.block_lt_of_cell? _ _ h2)).trans h2, (hb.cell (World.block_lt_of_cell? _ _ h3)).trans h3, (hb.cell (World.block_lt_of_cell? _ _ h4)).trans h4⟩
theorem few_sizes {xs : List ByteArray} (h : fewL xs = true) : ∀ s ∈ xs, s.size ≤ maxLen := by
  intro s hs
  unfold fewL at h
  rw [Bool.and_eq_true, List.all_eq_true] at h
  have := of_decide_eq_true (h.2 s hs)
  unfold maxLen
  omega
theorem len_ok {n m r : Nat} (h : LenOk n m r) : (n ≤ 40 ∧ m ≤ 40 ∧ r ≤ 40) ∨ ∃ k, Over3 n m r k := by
  rcases h with h | h | ⟨h1, h2⟩ | ⟨h1, h2, h3⟩
  · exact .inl h
  · exact .inr ⟨0, .inl (.inl ⟨rfl, h⟩)⟩
  · exact .inr ⟨1, .inl (.inr ⟨rfl, by omega, h1⟩)⟩
  · exact .inr ⟨1, .inr ⟨by omega, by omega, .inr ⟨rfl, by omega, h1⟩⟩⟩

set_option maxRecDepth 100000 in
set_option maxHeartbeats 8000000 in
theorem mergeChunks_walk (w : World) (v u t : Value) (xs ys zs : List ByteArray) (h : Strs w v xs) (g : Strs w u ys) (l : Strs w t zs) (hE : ErrType w) :
    Calls Tryd.prog 7 #[v, u, t] w (YesB w) := by
  obtain ⟨A, n, c, rfl⟩ := h.form
  obtain ⟨B, m, d, rfl⟩ := g.form
  obtain ⟨D, r, f, rfl⟩ := l.form
  obtain rfl := h.len.1
  obtain rfl := g.len.1
  obtain rfl := l.len.1
  have KN := Lib.hid (known_yes w)
  have H0 := Lib.hid h
  have G0 := Lib.hid g
  have L0 := Lib.hid l
  have E0 := Lib.hid hE
  clear h g l hE
  go_enter Tryd.func7, Tryd.ntmps7
  go_wp2_with fail
  refine KN.out.mono ?_
  rintro e w1 ⟨rfl, b1⟩
  have B1 := Lib.hid b1
  have TH := Lib.hid (three_any w1 A B D c d f xs ys zs (H0.out.below b1) (G0.out.below b1) (L0.out.below b1))
  clear b1 KN
  go_wp2_with fail
  refine TH.out.mono ?_
  rintro e w2 ⟨b, rfl, hb, b2⟩
  have B2 := Lib.hid (B1.out.trans (b2.mono B1.out.size))
  clear TH b2 B1
  cases b with
  | false =>
    go_wp2
    go_ret
    exact ⟨rfl, B2.out⟩
  | true =>
    obtain ⟨gx, gy, gz, hlen⟩ := hb rfl
    have hxs := Lib.hid (few_sizes gx)
    have hys := Lib.hid (few_sizes gy)
    have hzs := Lib.hid (few_sizes gz)
    clear hb gx gy gz
    have RF := Lib.hid fun W h1 h2 h3 => refChunks_any W (.slice A xs.length c) (.slice B ys.length d) (.slice D zs.length f) xs ys zs h1 h2 h3
    rcases len_ok hlen with ⟨lx, ly, lz⟩ | ⟨k, hk⟩
    · have CL := Lib.hid (chunks_any w2 _ _ _ xs ys zs (H0.out.below B2.out) (G0.out.below B2.out) (L0.out.below B2.out) hxs.out hys.out hzs.out (by omega) (by omega) (by omega))
      have hL : (allC xs ys zs).length ≤ 600 := by have := chunks_len (pls (ed xs ys) 0) (pls (ed xs zs) 0) xs ys zs (xs.length + 1) 0 0 0; unfold allC; omega
      have HAR : Hid (allR xs ys zs = allC xs ys zs) := Lib.hid rfl
      clear hlen
      go_wp2_with fail
      refine CL.out.mono ?_
      rintro e w3 ⟨v5, rfl, o5, b3⟩
      have B3 := Lib.hid (B2.out.trans (b3.mono B2.out.size))
      obtain ⟨A5, c5, rfl⟩ := o5.form
      have O5 := Lib.hid o5
      clear o5 b3 CL B2
      go_wp2_with fail
      refine (RF.out w3 (H0.out.below B3.out) (G0.out.below B3.out) (L0.out.below B3.out)).mono ?_
      rintro e w4 (⟨_, _, _, v7, vals7, rfl, o7, k7, b4⟩ | ⟨k, g, hk, _⟩)
      case inr => unfold Over at hk; omega
      rw [HAR.out] at o7 k7
      have B4 := Lib.hid (B3.out.trans (b4.mono B3.out.size))
      have O5a := Lib.hid (O5.out.below b4)
      obtain ⟨A7, c7, rfl⟩ := own_formk o7
      have b5 := (Below.refl w4.heap.size w4).alloc (Nat.le_refl _) (.cells #[.slice none 0 0, .int .i64 0] 33)
      have B5 := Lib.hid (B4.out.trans (b5.mono B4.out.size))
      have O5b := Lib.hid (O5a.out.below b5)
      have O7 := Lib.hid (own2_keep o7 b5)
      have K7 := Lib.hid (k7.below b5)
      have KE := Lib.hid (Blk.new w4 33 #[.slice none 0 0, .int .i64 0])
      clear o7 k7 b4 b5 O5 O5a RF B3 B4
      generalize allC xs ys zs = cs at *
      go_wp2_with fail
      generalize hW5 : w4.alloc (.cells #[.slice none 0 0, .int .i64 0] 33) = W5 at *
      clear hW5
      generalize w4.heap.size = E at *
      have c0 := KE.out.cell 0
      have c1 := KE.out.cell 1
      go_wp2_with fail
      refine (tells_none W5).mono ?_
      rintro e w6 ⟨rfl, b6⟩
      have B6 := Lib.hid (B5.out.trans (b6.mono B5.out.size))
      have O5c := Lib.hid (O5b.out.below b6)
      have O7c := Lib.hid (own2_keep O7.out b6)
      have K7c := Lib.hid (K7.out.below b6)
      clear b6 c0 c1 KE B5 O5b O7 K7
      go_wp2_with fail
      go_loopw [11] (fun s11 wr => ∃ k : Nat, k ≤ cs.length ∧ s11 = .int .i64 k ∧ Below w6.heap.size w6 wr) (fun s11 _ => cs.length - (intOf s11).toNat)
      case atStart => exact ⟨0, Nat.zero_le _, rfl, Below.refl _ _⟩
      case round =>
        obtain ⟨k, hk, rfl, hb⟩ := hrel
        have k0 : (0 : Int) ≤ (k : Int) := Int.natCast_nonneg _
        by_cases hlt : k < cs.length
        · have k1 : (k : Int) < (cs.length : Int) := by omega
          obtain ⟨cc, hc⟩ : ∃ cc, cs[k]? = some cc := ⟨_, List.getElem?_eq_getElem hlt⟩
          obtain ⟨g, A1, A2, A3, A4, c1, c2, c3, c4, rfl, x0, x1, x2, x3, x4, t1, t2, t3, t4⟩ := O5c.out.at hc
          obtain ⟨a0, a1, a2, a4, y0, y1, y2, y3, y4, s1, s2, s3, s4⟩ := K7c.out.at hc
          obtain ⟨g2, rfl⟩ : ∃ g, A7 = some ⟨g, 0, none⟩ := by
            rcases O7c.out.2 with ⟨_, e2⟩ | ⟨g, cap, cur, e, _⟩
            · omega
            · cases e; exact ⟨_, rfl⟩
          have z0 := own5_at O7c.out y0
          have z1 := own5_at O7c.out y1
          have z2 := own5_at O7c.out y2
          have z3 := own5_at O7c.out y3
          have z4 := own5_at O7c.out y4
          have R1 := Lib.hid (eq_yes w6 _ _ cc.base t1 s1)
          have R2 := Lib.hid (eq_yes w6 _ _ cc.ours t2 s2)
          have R3 := Lib.hid (eq_yes w6 _ _ cc.theirs t3 s3)
          have R4 := Lib.hid (eq_yes w6 _ _ cc.out t4 s4)
          have XX : Hid (Cells5 w6 g k _ _ _ _ _) := Lib.hid ⟨x0, x1, x2, x3, x4⟩
          have ZZ : Hid (Cells5 w6 g2 k _ _ _ _ _) := Lib.hid ⟨z0, z1, z2, z3, z4⟩
          clear x0 x1 x2 x3 x4 z0 z1 z2 z3 z4 y0 y1 y2 y3 y4 t1 t2 t3 t4 s1 s2 s3 s4 hc
          generalize cc.clash = cl at *
          obtain ⟨x0, x1, x2, x3, x4⟩ := XX.out.below hb
          obtain ⟨z0, z1, z2, z3, z4⟩ := ZZ.out.below hb
          have S1 := Lib.hid fun q => R1.out (wr.drewN q) (below_drewN hb q)
          have S2 := Lib.hid fun q => R2.out (wr.drewN q) (below_drewN hb q)
          have S3 := Lib.hid fun q => R3.out (wr.drewN q) (below_drewN hb q)
          have S4 := Lib.hid fun q => R4.out (wr.drewN q) (below_drewN hb q)
          have HB := Lib.hid hb
          clear R1 R2 R3 R4 XX ZZ hb
          go_wp2_with fail
          dsimp only [List.append]
          refine wp_region_quiet_lit (by kernel_rfl) (by kernel_rfl) ?_
          iterate 22 (go_big_quiet_step (fail))
          go_big_quiet_step ((go_at_call 30; exact flag_quiet (S1.out _)))
          iterate 13 (go_big_quiet_step (fail))
          go_big_quiet_step ((go_at_call 30; exact flag_quiet (S2.out _)))
          iterate 13 (go_big_quiet_step (fail))
          go_big_quiet_step ((go_at_call 30; exact flag_quiet (S3.out _)))
          iterate 13 (go_big_quiet_step (fail))
          go_big_quiet_step ((go_at_call 30; exact flag_quiet (S4.out _)))
          repeat (go_big_quiet_step (fail))
          refine wpQuiet_nil ?_
          intro _ hw'
          obtain ⟨nq, hw''⟩ := hw'
          subst hw''
          go_wp2_with fail
          go_roundw
          case rel => exact ⟨k + 1, by omega, by go_num, below_drewN HB.out _⟩
          case measure => simp [intOf]; omega
        · obtain rfl : k = cs.length := by omega
          go_wp2
          go_ret
          exact ⟨rfl, B6.out.trans (hb.mono B6.out.size)⟩
    · have CL := Lib.hid (chunks_bad w2 A B D c d f k xs ys zs (H0.out.below B2.out) (G0.out.below B2.out) hxs.out hys.out hk)
      have HK := Lib.hid hk
      clear hk hlen
      go_wp2_with fail
      refine CL.out.mono ?_
      rintro e w3 ⟨F1, rfl, f1, b3⟩
      have B3 := Lib.hid (B2.out.trans (b3.mono B2.out.size))
      have F1a := Lib.hid f1
      clear f1 b3 CL
      go_wp2_with fail
      refine (RF.out w3 (H0.out.below B3.out) (G0.out.below B3.out) (L0.out.below B3.out)).mono ?_
      rintro e w4 (⟨hx, hy, hz, _⟩ | ⟨k', g, hk', rfl, hg, b4⟩)
      case inl => have := HK.out; unfold Over3 Over at this; omega
      obtain rfl := over3_same HK.out hk'
      clear hk'
      have B4 := Lib.hid (B3.out.trans (b4.mono B3.out.size))
      have F1b := Lib.hid (F1a.out.below b4 F1a.out.lt)
      have b5 := (Below.refl w4.heap.size w4).alloc (Nat.le_refl _) (.cells #[.slice (some ⟨g, 0, none⟩) 1 1, .int .i64 4] 33)
      have B5 := Lib.hid (B4.out.trans (b5.mono B4.out.size))
      have F1c := Lib.hid (F1b.out.below b5 F1b.out.lt)
      have PG := Lib.hid (Blk.below hg b5 hg.lt)
      have KE := Lib.hid (Blk.new w4 33 #[.slice (some ⟨g, 0, none⟩) 1 1, .int .i64 4])
      clear hg b4 b5 F1a F1b RF
      go_wp2_with fail
      generalize hW5 : w4.alloc (.cells #[.slice (some ⟨g, 0, none⟩) 1 1, .int .i64 4] 33) = W5 at *
      clear hW5
      generalize w4.heap.size = E at *
      have c0 := KE.out.cell 0
      have c1 := KE.out.cell 1
      go_wp2_with fail
      refine (tells_over W5 F1 g k (over3_01 HK.out) F1c.out PG.out (E0.out.below B5.out)).mono ?_
      rintro e w6 ⟨rfl, b6⟩
      have B6 := Lib.hid (B5.out.trans (b6.mono B5.out.size))
      clear b6 c0 c1 KE
      go_wp2_with fail
      go_loopw [11] (fun s11 wr => s11 = .int .i64 0 ∧ wr = w6) (fun _ _ => 0)
      case atStart => exact ⟨rfl, rfl⟩
      case round =>
        obtain ⟨rfl, rfl⟩ := hrel
        go_wp2
        go_ret
        exact ⟨rfl, B6.out⟩
end Go.Proofs.YtdpoeagmeiedcaaDoor
