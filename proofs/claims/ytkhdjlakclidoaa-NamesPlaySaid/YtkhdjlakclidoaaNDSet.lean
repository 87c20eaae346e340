/-
  The document's setting of a name: the walk.
-/
import Derived.Test.YtkhdjlakclidoaaNDSetP
import Derived.Laws.OwnMore
import Derived.WalkLawsBesides
import Derived.Deep.Draws
namespace Go.Proofs.Ytkhdjlakclidoaa
open Go Go.RowKit

theorem two_new (w : World) (x y : Value) (t : TypeId) : ∀ j u, [x, y][j]? = some u → (w.alloc (.cells #[x, y] t)).cell? ((⟨w.heap.size, 0, none⟩ : Addr).add j) = some u := by
  intro j u hj
  match j, hj with
  | 0, hj => simp at hj; subst hj; simp [Addr.add]
  | 1, hj => simp at hj; subst hj; simp [Addr.add]
  | (j + 2), hj => simp at hj

/-- The cells that a round reads, in whatever world keeps what was there. -/
theorem doc_reads {w : World} {B T g cap : Nat} {l : List Rf} {br : ByteArray} {d : Int} {k : Nat} {n : ByteArray} {m : Int} (h : Doc w B T (.slice (some ⟨g, 0, none⟩) l.length cap) l br d) (hk : l[k]? = some (n, m)) (W : World) (hb : Below w.heap.size w W) :
    W.cell? ⟨T, 0, none⟩ = some (.slice (some ⟨g, 0, none⟩) l.length cap) ∧ W.cell? ⟨g, k * 2, none⟩ = some (.string n) ∧ W.cell? ⟨g, k * 2 + 1, none⟩ = some (.int .i64 m) := by
  have h' := h.below hb
  obtain ⟨c0, _⟩ := h'.cells
  obtain ⟨g', cap', hv, x0, x1, _⟩ := Own.at_ h'.own hk
  injection hv with a b c
  injection a with a
  injection a with a
  subst a
  exact ⟨c0, x0, x1⟩

def SetS (w : World) (B T : Nat) (v : Value) (l' : List Rf) (br : ByteArray) (d : Int) (e : Ending) (w' : World) : Prop :=
  e = .returned (.tuple #[]) ∧ ∃ v', w'.ownsRow w.heap.size 43 2 v' l'.length (ce l') ∧ Blk w' T 29 #[v', .string br, .int .i64 d] ∧ Two w w' T v.ownBlock ∧ B ≤ T

set_option maxRecDepth 100000 in
set_option maxHeartbeats 4000000 in
theorem dset_any (w : World) (B T : Nat) (v : Value) (l : List Rf) (br s : ByteArray) (d c : Int) (h : Doc w B T v l br d) :
    Calls Try.prog 28 #[.pointer (some ⟨T, 0, none⟩), .string s, .int .i64 c] w (SetS w B T v (dsetL l s c) br d) := by
  obtain ⟨i0, hi, hz0, hz1, hz2⟩ := info_parts refInfo
  obtain ⟨A, cap, rfl⟩ := own_form h.own
  have HD := Lib.hid h
  have hfew := h.few
  obtain ⟨c0, _, _, f0, _, _⟩ := h.cells
  have hT := h.blk.lt
  clear h
  have hz : ((c == 0) = decide (c = 0)) := by rw [Bool.eq_iff_iff]; simp
  go_enter Try.func28, Try.ntmps28
  go_wp2_with fail
  go_loopw [6, 7, 8] (fun o p i wr => ∃ (k : Nat) (out : List Rf) (pt : Bool), p = .bool pt ∧ i = .int .i64 k ∧ k ≤ l.length ∧ Hid (dgo s c (l.take k) = (out, pt)) ∧ wr.ownsRow w.heap.size 43 2 o out.length (ce out) ∧ Below w.heap.size w wr) (fun _ _ i _ => l.length - (intOf i).toNat)
  case atStart => exact ⟨0, [], _, rfl, rfl, Nat.zero_le _, Lib.hid (by rw [List.take_zero]; rfl), World.ownsRow_nil _ _ _ _, Below.refl _ _⟩
  case round =>
    obtain ⟨k, out, pt, rfl, rfl, hk, hgo, hown, hb⟩ := hrel
    have hol : out.length ≤ k + 1 := by
      have := dgo_len s c (l.take k)
      rw [hgo.out, List.length_take] at this
      cases pt <;> simp at this <;> omega
    by_cases hlt : k < l.length
    · obtain ⟨⟨n, m⟩, hx⟩ : ∃ r, l[k]? = some r := ⟨_, List.getElem?_eq_getElem hlt⟩
      obtain ⟨g, cap', hv, _⟩ := Own.at_ HD.out.own hx
      have hv := Lib.hid hv
      obtain ⟨rfl, rfl⟩ : A = some ⟨g, 0, none⟩ ∧ cap = cap' := by have := hv.out; injection this with a b c; exact ⟨a, c⟩
      have R := Lib.hid (doc_reads HD.out hx)
      have HS : Hid (dgo s c (l.take (k + 1)) = dstep s c (out, pt) (n, m)) := Lib.hid (by rw [dgo_snoc s c l k _ hx, hgo.out])
      clear hx hv hgo c0
      have k0 : (0 : Int) ≤ (k : Int) := Int.natCast_nonneg _
      have k1 : (k : Int) < (l.length : Int) := by omega
      obtain ⟨x0, x1, x2⟩ := R.out wr hb
      have hcl : Op.bytesLess n.toList s.toList = decide (cb n s < 0) := by rw [less_cmp, ByteArray.toList_eq, ByteArray.toList_eq]; rfl
      cases pt with
      | true =>
        by_cases hs : n = s
        · subst hs
          have HN : Hid (dgo n c (l.take (k + 1)) = (out, true)) := Lib.hid (by rw [HS.out]; simp [dstep])
          clear HS hcl
          go_wp2
          go_roundw
          case rel => exact ⟨k + 1, out, true, rfl, by go_num, hlt, HN, hown, hb⟩
          case measure => simp [intOf]; omega
        · have q : (n.toList == s.toList) = false := by rw [beq_eq_false_iff_ne]; exact fun e => hs (bytes_eq e)
          have q2 : ¬ n.toList = s.toList := fun e => hs (bytes_eq e)
          have HN : Hid (dgo s c (l.take (k + 1)) = (out ++ [(n, m)], true)) := Lib.hid (by rw [HS.out]; simp [dstep, hs])
          clear HS hcl hs
          go_wp2_with (at_builtin; refine wpList_append_own _ rfl _ _ 27 rfl w.heap.size 43 i0 (.agg #[.string ⟨#[]⟩, .int .i64 0]) 2 24 Try.underlying27 hi hz0 hz1 hz2 rfl (by decide) _ _ _ rfl (hown.alloc _) ⟨wr.heap.size, 0, none⟩ 1 1 [.string n, .int .i64 m] rfl ?a11 ?a12 ?a13 ?a14 ?a15 ?a16 ?_)
          try case a11 => rfl
          try case a12 => exact two_new _ _ _ _
          case a13 => first | exact ⟨rfl, rfl⟩ | (intro u hu; simp at hu; rcases hu with rfl | rfl <;> rfl)
          case a14 => unfold maxLen; omega
          case a15 => omega
          case a16 => have := hb.size; simp; omega
          intro v1' w1' hown1 hg1 _
          have hb1 := (hb.alloc hb.size _).grown hg1 (by have := hb.size; simp; omega) fun z hz => (hown.lt z hz).1
          clear hg1 hown
          go_wp2
          go_roundw
          case rel => exact ⟨k + 1, out ++ [(n, m)], true, rfl, by go_num, hlt, HN, by simpa [ce_app, ce] using hown1, hb1⟩
          case measure => simp [intOf]; omega
      | false =>
        by_cases hl : cb n s < 0
        · have hs : ¬ n = s := fun e => by rw [e, cb_self] at hl; omega
          rw [decide_eq_true hl] at hcl
          have q : (n.toList == s.toList) = false := by rw [beq_eq_false_iff_ne]; exact fun e => hs (bytes_eq e)
          have q2 : ¬ n.toList = s.toList := fun e => hs (bytes_eq e)
          have HN : Hid (dgo s c (l.take (k + 1)) = (out ++ [(n, m)], false)) := Lib.hid (by rw [HS.out]; simp [dstep, hs, hl])
          clear HS hs hl
          go_wp2_with (at_builtin; refine wpList_append_own _ rfl _ _ 27 rfl w.heap.size 43 i0 (.agg #[.string ⟨#[]⟩, .int .i64 0]) 2 24 Try.underlying27 hi hz0 hz1 hz2 rfl (by decide) _ _ _ rfl (hown.alloc _) ⟨wr.heap.size, 0, none⟩ 1 1 [.string n, .int .i64 m] rfl ?a21 ?a22 ?a23 ?a24 ?a25 ?a26 ?_)
          try case a21 => rfl
          try case a22 => exact two_new _ _ _ _
          case a23 => first | exact ⟨rfl, rfl⟩ | (intro u hu; simp at hu; rcases hu with rfl | rfl <;> rfl)
          case a24 => unfold maxLen; omega
          case a25 => omega
          case a26 => have := hb.size; simp; omega
          intro v2' w2' hown2 hg2 _
          have hb2 := (hb.alloc hb.size _).grown hg2 (by have := hb.size; simp; omega) fun z hz => (hown.lt z hz).1
          clear hg2 hown
          go_wp2
          go_roundw
          case rel => exact ⟨k + 1, out ++ [(n, m)], false, rfl, by go_num, hlt, HN, by simpa [ce_app, ce] using hown2, hb2⟩
          case measure => simp [intOf]; omega
        · rw [decide_eq_false hl] at hcl
          by_cases hs : n = s
          · subst hs
            have HN : Hid (dgo n c (l.take (k + 1)) = (out ++ [(n, c)], true)) := Lib.hid (by rw [HS.out]; simp [dstep, cb_self])
            clear HS hl
            go_wp2_with (at_builtin; refine wpList_append_own _ rfl _ _ 27 rfl w.heap.size 43 i0 (.agg #[.string ⟨#[]⟩, .int .i64 0]) 2 24 Try.underlying27 hi hz0 hz1 hz2 rfl (by decide) _ _ _ rfl (hown.alloc _) ⟨wr.heap.size, 0, none⟩ 1 1 [.string n, .int .i64 c] rfl ?a31 ?a32 ?a33 ?a34 ?a35 ?a36 ?_)
            try case a31 => rfl
            try case a32 => exact two_new _ _ _ _
            case a33 => first | exact ⟨rfl, rfl⟩ | (intro u hu; simp at hu; rcases hu with rfl | rfl <;> rfl)
            case a34 => unfold maxLen; omega
            case a35 => omega
            case a36 => have := hb.size; simp; omega
            intro v3' w3' hown3 hg3 _
            have hb3 := (hb.alloc hb.size _).grown hg3 (by have := hb.size; simp; omega) fun z hz => (hown.lt z hz).1
            clear hg3 hown
            obtain ⟨y0, y1, y2⟩ := R.out w3' hb3
            go_wp2
            go_roundw
            case rel => exact ⟨k + 1, out ++ [(n, c)], true, rfl, by go_num, hlt, HN, by simpa [ce_app, ce] using hown3, hb3⟩
            case measure => simp [intOf]; omega
          · have q : (n.toList == s.toList) = false := by rw [beq_eq_false_iff_ne]; exact fun e => hs (bytes_eq e)
            have q2 : ¬ n.toList = s.toList := fun e => hs (bytes_eq e)
            have HN : Hid (dgo s c (l.take (k + 1)) = (out ++ [(s, c)] ++ [(n, m)], true)) := Lib.hid (by rw [HS.out]; simp [dstep, hs, hl])
            clear HS hl hs
            go_wp2_with (at_builtin; refine wpList_append_own _ rfl _ _ 27 rfl w.heap.size 43 i0 (.agg #[.string ⟨#[]⟩, .int .i64 0]) 2 24 Try.underlying27 hi hz0 hz1 hz2 rfl (by decide) _ _ _ rfl (hown.alloc _) ⟨wr.heap.size, 0, none⟩ 1 1 [.string s, .int .i64 c] rfl ?a41 ?a42 ?a43 ?a44 ?a45 ?a46 ?_)
            try case a41 => rfl
            try case a42 => exact two_new _ _ _ _
            case a43 => first | exact ⟨rfl, rfl⟩ | (intro u hu; simp at hu; rcases hu with rfl | rfl <;> rfl)
            case a44 => unfold maxLen; omega
            case a45 => omega
            case a46 => have := hb.size; simp; omega
            intro v4' w4' hown4 hg4 _
            have hb4 := (hb.alloc hb.size _).grown hg4 (by have := hb.size; simp; omega) fun z hz => (hown.lt z hz).1
            clear hg4 hown
            obtain ⟨y0, y1, y2⟩ := R.out w4' hb4
            go_wp2_with (at_builtin; refine wpList_append_own _ rfl _ _ 27 rfl w.heap.size 43 i0 (.agg #[.string ⟨#[]⟩, .int .i64 0]) 2 24 Try.underlying27 hi hz0 hz1 hz2 rfl (by decide) _ _ _ rfl (hown4.alloc _) ⟨w4'.heap.size, 0, none⟩ 1 1 [.string n, .int .i64 m] rfl ?a51 ?a52 ?a53 ?a54 ?a55 ?a56 ?_)
            try case a51 => rfl
            try case a52 => exact two_new _ _ _ _
            case a53 => first | exact ⟨rfl, rfl⟩ | (intro u hu; simp at hu; rcases hu with rfl | rfl <;> rfl)
            case a54 => unfold maxLen; omega
            case a55 => omega
            case a56 => have := hb4.size; simp; omega
            intro v5' w5' hown5 hg5 _
            have hb5 := (hb4.alloc hb4.size _).grown hg5 (by have := hb4.size; simp; omega) fun z hz => (hown4.lt z hz).1
            clear hg5 hown4
            go_wp2
            go_roundw
            case rel => exact ⟨k + 1, out ++ [(s, c)] ++ [(n, m)], true, rfl, by go_num, hlt, HN, by simpa [ce_app, ce] using hown5, hb5⟩
            case measure => simp [intOf]; omega
    · obtain rfl : k = l.length := by omega
      have HE : Hid (dsetL l s c = dend s c (out, pt)) := Lib.hid (by unfold dsetL; rw [← hgo.out, List.take_length])
      clear hgo
      cases pt with
      | true =>
        have HE : Hid (dsetL l s c = out) := Lib.hid (by rw [HE.out]; rfl)
        have b3 := (HD.out.blk).below hb hT
        have HBB := Lib.hid hb
        have B3 := Lib.hid b3
        have HO := Lib.hid hown
        obtain ⟨A3, cap3, rfl⟩ := own_form hown
        have d0 := b3.cell 0
        have e0 := b3.frozen 0
        clear b3 hown
        go_wp2_with fail
        go_end0
        rw [HE.out]
        exact ⟨rfl, _, HO.out.kept (grown_cell _ T 0 _) (.inr (own_blk_ne HO.out B3.out (by decide))), by simpa using B3.out.set_ 0 _, (Two.of_below HBB.out T _).trans (Two.set _ T 0 _ _) (.inl rfl), HD.out.lo⟩
      | false =>
        have HE : Hid (dsetL l s c = out ++ [(s, c)]) := Lib.hid (by rw [HE.out]; rfl)
        have d1 := ((HD.out.blk).below hb hT).cell 0
        go_wp2_with (at_builtin; refine wpList_append_own _ rfl _ _ 27 rfl w.heap.size 43 i0 (.agg #[.string ⟨#[]⟩, .int .i64 0]) 2 24 Try.underlying27 hi hz0 hz1 hz2 rfl (by decide) _ _ _ rfl (hown.alloc _) ⟨wr.heap.size, 0, none⟩ 1 1 [.string s, .int .i64 c] rfl ?a61 ?a62 ?a63 ?a64 ?a65 ?a66 ?_)
        try case a61 => rfl
        try case a62 => exact two_new _ _ _ _
        case a63 => first | exact ⟨rfl, rfl⟩ | (intro u hu; simp at hu; rcases hu with rfl | rfl <;> rfl)
        case a64 => unfold maxLen; omega
        case a65 => omega
        case a66 => have := hb.size; simp; omega
        intro v6' w6' hown6 hg6 _
        have hb6 := (hb.alloc hb.size _).grown hg6 (by have := hb.size; simp; omega) fun z hz => (hown.lt z hz).1
        clear hg6 hown
        have hown6 : w6'.ownsRow w.heap.size 43 2 v6' (out ++ [(s, c)]).length (ce (out ++ [(s, c)])) := by simpa [ce_app, ce] using hown6
        have b3 := (HD.out.blk).below hb6 hT
        have HBB := Lib.hid hb6
        have B3 := Lib.hid b3
        have HO := Lib.hid hown6
        obtain ⟨A3, cap3, rfl⟩ := own_form hown6
        have d0 := b3.cell 0
        have e0 := b3.frozen 0
        clear b3 hown6
        go_wp2_with fail
        go_end0
        rw [HE.out]
        exact ⟨rfl, _, HO.out.kept (grown_cell _ T 0 _) (.inr (own_blk_ne HO.out B3.out (by decide))), by simpa using B3.out.set_ 0 _, (Two.of_below HBB.out T _).trans (Two.set _ T 0 _ _) (.inl rfl), HD.out.lo⟩
#print axioms dset_any
end Go.Proofs.Ytkhdjlakclidoaa
