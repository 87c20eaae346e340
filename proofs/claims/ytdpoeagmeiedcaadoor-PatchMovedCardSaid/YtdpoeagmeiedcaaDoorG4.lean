/-
  Chunks: the three texts, piece by piece.
  Text, the plain part: what the pieces are as one text.
  The contract of Text.
  few: are lines few enough?
  The contract of Marked, and of few.
  The closed play 'known' of the merge answers true.
  Words for memory: a block that is known whole; bytes in a row of their own; a call that touches two blocks alone.
  rectoref11.common: the document's own table of the longest common rows.
  rectoref11.common: its contract.
  rectoref11.common: the walk.
  A Fault's own words, its number from 1 to 10.
  A Fault's Error.
-/
import Derived.Test.YtdpoeagmeiedcaaDoorG3
import Derived.Deep.LoopGhost
import Derived.Outline
import Derived.Deep.RegionHeld3
import Derived.Shelf.Strings.BuilderK
import Derived.Test.YtdpoeagmeiedcaaDoorG2
import Derived.Test.YtdpoeagmeiedcaaDoorG1
import Derived.WalkKit
import Derived.WalkSpells
import Derived.WalkSmall
import Derived.Lib.SliceRun
import Derived.Laws.OwnMore
import Derived.Laws.Rows
import Derived.Laws.IdiomCopy
import Derived.Maps.AppendAt
import Derived.Lib.Hide
import Derived.Laws.BitsAllLaws
import Derived.Deep.Draws
import Derived.Deep.AppendLies
import Derived.Deep.RegionLaw
import Derived.Deep.QuietTactic
import Derived.BigQuiet
import Derived.IntWalk
import Derived.OpenShut
import Derived.LoopTactic
import Derived.WalkLawsBesides
import Derived.Deep.RegionWith
import Derived.StillTailTactics
import Derived.BigRegion
import Derived.Deep.OwnRows
import Derived.ShutString
namespace Go.Proofs.YtdpoeagmeiedcaaDoor
open Go.RowKit

theorem places_ed {α : Type} [DecidableEq α] (xs ys : List α) : Places (pls (ed xs ys) 0) xs ys := by
  have ho := ed_ops xs ys
  obtain ⟨h1, h2, _⟩ := ed_all xs ys
  refine ⟨by rw [pls_len _ ho, h1], fun i j hij => ?_, fun i j i' j' a b c => pls_mono _ ho _ _ _ _ _ a b c⟩
  obtain ⟨_, x, e1, e2⟩ := pls_at _ ho _ _ _ hij
  rw [h1] at e1
  rw [h2, Nat.sub_zero] at e2
  exact ⟨x, e1, e2⟩

/-- All pieces of three texts. -/
def allC (xs ys zs : List ByteArray) : List (Ck ByteArray) := chunks (pls (ed xs ys) 0) (pls (ed xs zs) 0) xs ys zs (xs.length + 1) 0 0 0

/-- The pieces come back in rows of the call's own. -/
def Chunked (w : World) (cs : List (Ck ByteArray)) (e : Ending) (w' : World) : Prop := ∃ v, e = .returned (.tuple #[v, .nilIface]) ∧ OutR w' w.heap.size v cs ∧ Below w.heap.size w w'

theorem OutR.form {w : World} {B : Nat} {v : Value} {cs : List (Ck ByteArray)} (h : OutR w B v cs) : ∃ A c, v = .slice A cs.length c := by
  obtain ⟨vals, h1, _⟩ := h
  rcases h1.2 with ⟨rfl, h0⟩ | ⟨g, cap, cur, rfl, _⟩
  · exact ⟨none, 0, by rw [h0]⟩
  · exact ⟨_, _, rfl⟩

theorem Cs.drewN {w0 w : World} {C : Nat} {v0 v1 v2 vp vq : Value} {xs ys zs : List ByteArray} {p q : List (Option Nat)} {i j k : Nat} {cs : List (Ck ByteArray)} (h : Cs w0 w C v0 v1 v2 vp vq xs ys zs p q i j k cs) (n : Nat) : Cs w0 (w.drewN n) C v0 v1 v2 vp vq xs ys zs p q i j k cs := h.below (below_drewN (Below.refl _ w) n)

theorem cs_start {w w1 : World} {v0 v1 v2 vp vq : Value} {xs ys zs : List ByteArray} {p q : List (Option Nat)} (hb : Below w.heap.size w w1) (h0 : Strs w v0 xs) (h1 : Strs w v1 ys) (h2 : Strs w v2 zs) (hp : Pl w1 vp p) (hq : Pl w1 vq q) :
    Cs w (w1.alloc (.cells #[v0, v1, v2, vp, vq, .int .i64 0, .int .i64 0, .int .i64 0, .slice none 0 0] 135)) w1.heap.size v0 v1 v2 vp vq xs ys zs p q 0 0 0 [] := by
  have hB := (Below.refl w1.heap.size w1).alloc (Nat.le_refl _) (.cells #[v0, v1, v2, vp, vq, .int .i64 0, .int .i64 0, .int .i64 0, .slice none 0 0] 135)
  have hh := heap_alloc_new w1 (.cells #[v0, v1, v2, vp, vq, .int .i64 0, .int .i64 0, .int .i64 0, .slice none 0 0] 135)
  have cc := fun k => cell_of_row _ w1.heap.size k _ 135 (0, 0) hh
  exact ⟨⟨.slice none 0 0, ⟨cc 0, cc 1, cc 2, cc 3, cc 4, cc 5, cc 6, cc 7, cc 8, fun k => by unfold World.frozen?; rw [hh]; rfl, ⟨_, hh⟩⟩, ⟨[], World.ownsRow_nil _ _ _ _, rfl⟩⟩, h0, h1, h2, hp.below hB, hq.below hB, hb.trans (hB.mono hb.size), hb.size⟩

set_option maxRecDepth 100000 in
set_option maxHeartbeats 4000000 in
theorem chunks_any (w : World) (v0 v1 v2 : Value) (xs ys zs : List ByteArray) (h0 : Strs w v0 xs) (h1 : Strs w v1 ys) (h2 : Strs w v2 zs) (hx : ∀ s ∈ xs, s.size ≤ maxLen) (hy : ∀ s ∈ ys, s.size ≤ maxLen) (hz : ∀ s ∈ zs, s.size ≤ maxLen)
    (lx : xs.length ≤ 256) (ly : ys.length ≤ 256) (lz : zs.length ≤ 256) : Calls Tryd.prog 35 #[v0, v1, v2] w (Chunked w (allC xs ys zs)) := by
  obtain ⟨A, n, c, rfl⟩ := h0.form
  obtain ⟨B, m, d, rfl⟩ := h1.form
  obtain ⟨D, r, f, rfl⟩ := h2.form
  obtain rfl := h0.len.1
  obtain rfl := h1.len.1
  obtain rfl := h2.len.1
  have L1 := Lib.hid (lines_good w _ _ xs ys h0 h1 hx hy lx ly)
  have L2 := Lib.hid fun w1 (hb : Below w.heap.size w w1) => lines_good w1 _ _ xs zs (h0.below hb) (h2.below hb) hx hz lx lz
  have le1 := ed_len xs ys
  have le2 := ed_len xs zs
  have HO1 := Lib.hid (ed_ops xs ys)
  have HO2 := Lib.hid (ed_ops xs zs)
  have PP := Lib.hid (places_ed xs ys)
  have QQ := Lib.hid (places_ed xs zs)
  have H0 := Lib.hid h0
  have H1 := Lib.hid h1
  have H2 := Lib.hid h2
  have HA : Hid (allC xs ys zs = chunks (pls (ed xs ys) 0) (pls (ed xs zs) 0) xs ys zs (xs.length + 1) 0 0 0) := Lib.hid rfl
  clear h0 h1 h2 hx hy hz
  generalize ed xs ys = e1 at *
  generalize ed xs zs = e2 at *
  go_enter Tryd.func35, Tryd.ntmps35
  go_wp2_with fail
  refine L1.out.mono ?_
  rintro e w1 ⟨vE, rfl, o1, b1⟩
  clear L1
  go_wp2_with fail
  refine (L2.out w1 b1).mono ?_
  rintro e w2 ⟨vF, rfl, o2, d2⟩
  have b2 := b1.trans (d2.mono b1.size)
  have o1' := own2_keep o1 d2
  clear L2 o1 d2 b1
  have P1 := Lib.hid (places_any w2 _ vE e1 o1' (by omega) HO1.out)
  clear o1'
  go_wp2_with fail
  refine P1.out.mono ?_
  rintro e w3 ⟨vp, rfl, o3, d3⟩
  obtain ⟨Ap, np, cp, rfl⟩ := own_form o3
  have b3 := b2.trans (d3.mono b2.size)
  have P2 := Lib.hid (places_any w3 _ vF e2 (own2_keep o2 d3) (by omega) HO2.out)
  clear P1 o2 d3 b2
  go_wp2_with fail
  refine P2.out.mono ?_
  rintro e w4 ⟨vq, rfl, o4, d4⟩
  obtain ⟨Aq, nq, cq, rfl⟩ := own_form o4
  have b4 := b3.trans (d4.mono b3.size)
  have S0 := Lib.hid (cs_start b4 H0.out H1.out H2.out (own_le (own_keep o3 d4) (Nat.zero_le _) : Pl w4 (.slice Ap np cp) (pls e1 0)) (own_le o4 (Nat.zero_le _) : Pl w4 (.slice Aq nq cq) (pls e2 0)))
  clear P2 o3 d4 b3 o4 b4
  go_wp2_with fail
  generalize hC : w4.heap.size = C at *
  generalize (w4.alloc (.cells #[.slice A xs.length c, .slice B ys.length d, .slice D zs.length f, .slice Ap np cp, .slice Aq nq cq, .int .i64 0, .int .i64 0, .int .i64 0, .slice none 0 0] 135)) = W at *
  clear hC
  generalize Value.slice Ap np cp = vp at *
  generalize Value.slice Aq nq cq = vq at *
  generalize pls e1 0 = p at *
  generalize pls e2 0 = q at *
  have lp := Lib.hid PP.out.len
  have lq := Lib.hid QQ.out.len
  go_loopg [38] (xs.length + 1) (fun g _ wr => ∃ (i j k : Nat) (cs : List (Ck ByteArray)), Cs w wr C (.slice A xs.length c) (.slice B ys.length d) (.slice D zs.length f) vp vq xs ys zs p q i j k cs ∧ i ≤ xs.length ∧ Beh p ys i j ∧ Beh q zs i k ∧ Hid (xs.length < g + i ∨ (i = xs.length ∧ j = ys.length ∧ k = zs.length)) ∧ cs.length + 2 * g ≤ 2 * (xs.length + 1) ∧ Hid (allC xs ys zs = cs ++ chunks p q xs ys zs g i j k))
  case atStart => exact ⟨0, 0, 0, [], S0.out, Nat.zero_le _, Beh.zero _ _, Beh.zero _ _, Lib.hid (.inl (by omega)), by simp, Lib.hid (by rw [HA.out]; rfl)⟩
  case round =>
    clear S0 HA
    obtain ⟨i, j, k, cs, hw, hi, hp, hq, hf, hcs, hA⟩ := hrel
    obtain ⟨v8, hc, ho⟩ := hw.c
    have E := Lib.hid (ended_any wr C _ _ _ _ _ _ i j k _ _ _ _ _ v8 hc)
    by_cases he : i = xs.length ∧ j = ys.length ∧ k = zs.length
    · rw [decide_eq_true he] at E
      have HE := Lib.hid (chunks_end p q xs ys zs gk i j k he)
      have HW := Lib.hid hw
      obtain ⟨A8, c8, rfl⟩ := ho.form
      have HO := Lib.hid ho
      have t8 := hc.c8
      clear hw hc ho hp hq hf he
      go_wp2_with fail
      refine E.out.mono ?_
      rintro e w5 ⟨nq, rfl, rfl⟩
      go_wp2_with fail
      go_ret2
      exact ⟨_, rfl, by rw [hA.out, HE.out, List.append_nil]; exact HO.out.below (below_drewN (Below.refl _ wr) nq), below_drewN HW.out.g nq⟩
    · rw [decide_eq_false he] at E
      obtain ⟨n, j1, k1, m, s, hn, hj1, hk1, hm⟩ := step_any p q xs ys zs lp.out lq.out i j k hi
      have hg1 : 1 ≤ gk := by
        rcases hf.out with h | h
        · omega
        · exact absurd h he
      obtain ⟨g, rfl⟩ : ∃ g, gk = g + 1 := ⟨gk - 1, by omega⟩
      have HS := Lib.hid (chunks_step p q xs ys zs g i j k n j1 k1 m hn hj1 hk1 hm he)
      obtain ⟨p1, p2, hp'⟩ := hp.step PP.out s
      obtain ⟨q1, q2, hq'⟩ := hq.step QQ.out s.turn
      have hnn : n ≤ xs.length := s.nb
      have hf' : Hid (xs.length < g + (n + m) ∨ (n + m = xs.length ∧ j1 + m = ys.length ∧ k1 + m = zs.length)) := Lib.hid (by
        by_cases hlt : n < xs.length
        · have := s.pos hlt
          have := s.le
          rcases hf.out with h | h
          · left; omega
          · exact absurd h he
        · obtain ⟨a1, a2, a3⟩ := s.fin (by omega)
          right; omega)
      have NK := Lib.hid fun nq => nextKept_any (wr.drewN nq) C xs.length c i A _ _ vp vq _ _ v8 p q (hc.below (below_drewN (Below.refl _ wr) nq)) (hw.drewN nq).p1 (hw.drewN nq).p2 lp.out lq.out (by omega) hi
      rw [← hn] at NK
      have BT := Lib.hid fun nq => between_any w (wr.drewN nq) C xs.length c ys.length d zs.length f i j k n j1 k1 A B D vp vq xs ys zs p q cs (hw.drewN nq) lp.out lq.out lx ly lz s.le p1 q1 hnn (by omega) (by omega) s.yes (fun h => ⟨(s.fin h).1, (s.fin h).2.1⟩) (by omega)
      have hfl : (firstC xs ys zs i j k n j1 k1).length ≤ 1 := by unfold firstC; split <;> simp
      have hkl : (keptC xs ys zs n j1 k1 m).length ≤ 1 := by unfold keptC; split <;> simp
      have KT := Lib.hid fun w6 h => kept_any w w6 C xs.length c ys.length d zs.length f n j1 k1 A B D vp vq xs ys zs p q (cs ++ firstC xs ys zs i j k n j1 k1) m h lp.out lq.out lx ly lz hnn (by omega) (by omega) hm s.nm p2 q2 (by rw [List.length_append]; omega)
      have hnm := s.nm
      have hA' : Hid (allC xs ys zs = ((cs ++ firstC xs ys zs i j k n j1 k1) ++ keptC xs ys zs n j1 k1 m) ++ chunks p q xs ys zs g (n + m) (j1 + m) (k1 + m)) := Lib.hid (by rw [hA.out, HS.out, List.append_assoc, List.append_assoc])
      have hl' : ((cs ++ firstC xs ys zs i j k n j1 k1) ++ keptC xs ys zs n j1 k1 m).length + 2 * g ≤ 2 * (xs.length + 1) := by rw [List.length_append, List.length_append]; omega
      have HP' := Lib.hid hp'
      have HQ' := Lib.hid hq'
      clear hw hc ho hp hq hf he hA HS s hn hj1 hk1 hm hfl hkl hp' hq' p1 p2 q1 q2 hcs hi
      generalize cs ++ firstC xs ys zs i j k n j1 k1 = cs1 at *
      generalize keptC xs ys zs n j1 k1 m = cs2 at *
      go_wp2_with fail
      refine E.out.mono ?_
      rintro e w5 ⟨nq, rfl, rfl⟩
      go_wp2_with fail
      refine (NK.out nq).mono ?_
      rintro e w6 ⟨rfl, rfl⟩
      go_wp2_with fail
      refine (BT.out nq).mono ?_
      rintro e w6 ⟨rfl, h6⟩
      have K6 := Lib.hid (KT.out w6 h6)
      clear h6 KT
      go_wp2_with fail
      refine K6.out.mono ?_
      rintro e w7 ⟨rfl, h7⟩
      go_wp2_with fail
      go_roundg g
      case measure => omega
      case rel => exact ⟨n + m, j1 + m, k1 + m, cs1 ++ cs2, h7, hnm, HP'.out, HQ'.out, hf', hl', hA'⟩

end Go.Proofs.YtdpoeagmeiedcaaDoor
namespace Go.Proofs.YtdpoeagmeiedcaaDoor
open Go.RowKit

abbrev oursB : ByteArray := { data := #[60, 60, 60, 60, 60, 60, 60, 32] }
abbrev midB : ByteArray := { data := #[61, 61, 61, 61, 61, 61, 61, 10] }
abbrev theirsB : ByteArray := { data := #[62, 62, 62, 62, 62, 62, 62, 32] }
abbrev nlB : ByteArray := { data := #[10] }

/-- What clashes, as it stands in the text. -/
abbrev markB (sa sn so st : ByteArray) : ByteArray := oursB ++ sa ++ nlB ++ so ++ midB ++ st ++ theirsB ++ sn ++ nlB
def markL (a n so st : List UInt8) : List UInt8 := oursB.data.toList ++ a ++ [10] ++ so ++ midB.data.toList ++ st ++ theirsB.data.toList ++ n ++ [10]
theorem append_data (a b : ByteArray) : (a ++ b).data.toList = a.data.toList ++ b.data.toList := by simp
theorem markB_data (sa sn so st : ByteArray) : (markB sa sn so st).data.toList = markL sa.data.toList sn.data.toList so.data.toList st.data.toList := by
  unfold markB markL
  simp only [append_data]

def txtC (a n : List UInt8) (c : Ck ByteArray) : List UInt8 := if c.clash = true then markL a n (endL (cat c.ours)) (endL (cat c.theirs)) else cat c.out
def txtAll (a n : List UInt8) (cs : List (Ck ByteArray)) : List UInt8 := cs.flatMap (txtC a n)
def clashes (cs : List (Ck ByteArray)) : Nat := (cs.filter (·.clash)).length

theorem txtAll_take {a n : List UInt8} {cs : List (Ck ByteArray)} {k : Nat} {c : Ck ByteArray} (h : cs[k]? = some c) : txtAll a n (cs.take (k + 1)) = txtAll a n (cs.take k) ++ txtC a n c := by
  unfold txtAll
  rw [List.take_add_one, h, List.flatMap_append]
  simp
theorem clashes_take {cs : List (Ck ByteArray)} {k : Nat} {c : Ck ByteArray} (h : cs[k]? = some c) : clashes (cs.take (k + 1)) = clashes (cs.take k) + if c.clash = true then 1 else 0 := by
  unfold clashes
  rw [List.take_add_one, h, List.filter_append, List.length_append]
  cases hc : c.clash <;> simp [hc]
theorem clashes_le (cs : List (Ck ByteArray)) : clashes cs ≤ cs.length := List.length_filter_le _ _

theorem flatMap_le {α β : Type} {f : α → List β} {M : Nat} : ∀ {l : List α}, (∀ x ∈ l, (f x).length ≤ M) → (l.flatMap f).length ≤ l.length * M
  | [], _ => by simp
  | x :: l, h => by
    have h1 := h x (List.mem_cons_self ..)
    have h2 := flatMap_le (f := f) (M := M) (l := l) (fun y hy => h y (List.mem_cons_of_mem _ hy))
    rw [List.flatMap_cons, List.length_append, List.length_cons, Nat.add_mul]
    omega
theorem mem_flatMap_le {α β : Type} {f : α → List β} : ∀ {l : List α} {x : α}, x ∈ l → (f x).length ≤ (l.flatMap f).length
  | [], _, h => by cases h
  | y :: l, x, h => by
    rw [List.flatMap_cons, List.length_append]
    rcases List.mem_cons.1 h with rfl | h
    · omega
    · have := mem_flatMap_le (f := f) h; omega

theorem cat_append (a b : List ByteArray) : cat (a ++ b) = cat a ++ cat b := by simp [cat]
theorem cat_flatMap {α : Type} (f : α → List ByteArray) : ∀ l : List α, cat (l.flatMap f) = l.flatMap fun x => cat (f x)
  | [] => rfl
  | x :: l => by rw [List.flatMap_cons, cat_append, cat_flatMap f l, List.flatMap_cons]
theorem cat_map_mk (ls : List (List UInt8)) : cat (ls.map mk) = ls.flatten := by
  unfold cat
  rw [List.map_map]
  congr 1
  rw [show ((fun x : ByteArray => x.data.toList) ∘ mk) = id from by funext l; simp [mk]]
  simp
theorem cat_lines (l : List UInt8) : cat ((cutL l).map mk) = l := by rw [cat_map_mk, cutL_flat]
theorem mem_cat {xs : List ByteArray} {s : ByteArray} (h : s ∈ xs) : s.size ≤ (cat xs).length := by
  have := mem_flatMap_le (f := fun x : ByteArray => x.data.toList) h
  have e : xs.flatMap (fun x : ByteArray => x.data.toList) = cat xs := by simp [cat, List.flatMap_def]
  rw [e, size_data] at this
  exact this

theorem out_of (xs ys zs : List ByteArray) : ∀ c ∈ allC xs ys zs, c.out = [] ∨ c.out = c.base ∨ c.out = c.ours ∨ c.out = c.theirs := by
  refine chunks_all (places_ed xs ys) (places_ed xs zs) _ ?_ ?_
  · intro i j k n j1 k1 m _ _ _ _ _
    unfold decideC
    split
    · simp
    · split
      · simp
      · simp
  · intro x _
    simp

/-- Each piece is no longer than the texts. -/
theorem piece_le (xs ys zs : List ByteArray) {M : Nat} (h1 : (cat xs).length ≤ M) (h2 : (cat ys).length ≤ M) (h3 : (cat zs).length ≤ M) {c : Ck ByteArray} (hc : c ∈ allC xs ys zs) :
    (cat c.base).length ≤ M ∧ (cat c.ours).length ≤ M ∧ (cat c.theirs).length ≤ M ∧ (cat c.out).length ≤ M := by
  obtain ⟨p1, p2, p3⟩ := chunks_parts (places_ed xs ys) (places_ed xs zs) (xs.length + 1) 0 0 0 (.inl (by omega)) (Nat.zero_le _) (Beh.zero _ _) (Beh.zero _ _)
  rw [List.drop_zero] at p1 p2 p3
  have q1 := mem_flatMap_le (f := fun c : Ck ByteArray => cat c.base) hc
  have q2 := mem_flatMap_le (f := fun c : Ck ByteArray => cat c.ours) hc
  have q3 := mem_flatMap_le (f := fun c : Ck ByteArray => cat c.theirs) hc
  rw [← cat_flatMap] at q1 q2 q3
  unfold allC at q1 q2 q3
  rw [p1] at q1
  rw [p2] at q2
  rw [p3] at q3
  refine ⟨by omega, by omega, by omega, ?_⟩
  rcases out_of xs ys zs c hc with e | e | e | e <;> rw [e]
  · simp [cat]
  all_goals omega
theorem piece_len (xs ys zs : List ByteArray) {M : Nat} (h1 : xs.length ≤ M) (h2 : ys.length ≤ M) (h3 : zs.length ≤ M) {c : Ck ByteArray} (hc : c ∈ allC xs ys zs) :
    c.base.length ≤ M ∧ c.ours.length ≤ M ∧ c.theirs.length ≤ M ∧ c.out.length ≤ M := by
  obtain ⟨p1, p2, p3⟩ := chunks_parts (places_ed xs ys) (places_ed xs zs) (xs.length + 1) 0 0 0 (.inl (by omega)) (Nat.zero_le _) (Beh.zero _ _) (Beh.zero _ _)
  rw [List.drop_zero] at p1 p2 p3
  have q1 := mem_flatMap_le (f := fun c : Ck ByteArray => c.base) hc
  have q2 := mem_flatMap_le (f := fun c : Ck ByteArray => c.ours) hc
  have q3 := mem_flatMap_le (f := fun c : Ck ByteArray => c.theirs) hc
  unfold allC at q1 q2 q3
  rw [p1] at q1
  rw [p2] at q2
  rw [p3] at q3
  refine ⟨by omega, by omega, by omega, ?_⟩
  rcases out_of xs ys zs c hc with e | e | e | e <;> rw [e]
  · simp
  all_goals omega

theorem chunks_len (p q : List (Option Nat)) (b o t : List ByteArray) : ∀ f i j k, (chunks p q b o t f i j k).length ≤ 2 * f
  | 0, _, _, _ => by simp [chunks]
  | f + 1, i, j, k => by
    rw [chunks]
    split
    · simp
    · rw [List.length_append, List.length_append]
      have := chunks_len p q b o t f
      have h1 : ∀ i j k n j1 k1, (firstC b o t i j k n j1 k1).length ≤ 1 := fun i j k n j1 k1 => by unfold firstC; split <;> simp
      have h2 : ∀ i j k m, (keptC b o t i j k m).length ≤ 1 := fun i j k m => by unfold keptC; split <;> simp
      have a1 := h1 i j k (nx (isK p q) (b.length - i) i) (atD p (nx (isK p q) (b.length - i) i) o.length) (atD q (nx (isK p q) (b.length - i) i) t.length)
      have a2 := h2 (nx (isK p q) (b.length - i) i) (atD p (nx (isK p q) (b.length - i) i) o.length) (atD q (nx (isK p q) (b.length - i) i) t.length) (rn (isRun p q (nx (isK p q) (b.length - i) i) (atD p (nx (isK p q) (b.length - i) i) o.length) (atD q (nx (isK p q) (b.length - i) i) t.length)) (b.length - nx (isK p q) (b.length - i) i) 0)
      have a3 := this (nx (isK p q) (b.length - i) i + rn (isRun p q (nx (isK p q) (b.length - i) i) (atD p (nx (isK p q) (b.length - i) i) o.length) (atD q (nx (isK p q) (b.length - i) i) t.length)) (b.length - nx (isK p q) (b.length - i) i) 0)
        (atD p (nx (isK p q) (b.length - i) i) o.length + rn (isRun p q (nx (isK p q) (b.length - i) i) (atD p (nx (isK p q) (b.length - i) i) o.length) (atD q (nx (isK p q) (b.length - i) i) t.length)) (b.length - nx (isK p q) (b.length - i) i) 0)
        (atD q (nx (isK p q) (b.length - i) i) t.length + rn (isRun p q (nx (isK p q) (b.length - i) i) (atD p (nx (isK p q) (b.length - i) i) o.length) (atD q (nx (isK p q) (b.length - i) i) t.length)) (b.length - nx (isK p q) (b.length - i) i) 0)
      omega

theorem endL_le (l : List UInt8) : (endL l).length ≤ l.length + 1 := by unfold endL; split <;> simp
theorem txtC_le {a n : List UInt8} {c : Ck ByteArray} (ha : a.length ≤ 1000) (hn : n.length ≤ 1000) (h2 : (cat c.ours).length ≤ 20000) (h3 : (cat c.theirs).length ≤ 20000) (h4 : (cat c.out).length ≤ 20000) : (txtC a n c).length ≤ 50000 := by
  unfold txtC
  split
  · have := endL_le (cat c.ours)
    have := endL_le (cat c.theirs)
    unfold markL
    simp only [List.length_append, List.length_cons, List.length_nil]
    omega
  · omega

/-! ### A builder -/
theorem isb_below {T e : TypeId} {B b : Nat} {bs : List Value} {w w' : World} (h : Lib.IsBuilder T e B b bs w) (hb : Below w.heap.size w w') : Lib.IsBuilder T e B b bs w' := by
  have key : ∀ p, Lib.BuilderAt T e B b p bs w → Lib.BuilderAt T e B b p bs w' := by
    rintro p ⟨h1, v, h2, h3, h4⟩
    have hlt := (Array.getElem?_eq_some_iff.1 h2).1
    exact ⟨h1, v, (hb.block b hlt).trans h2, own_keep h3 hb, h4⟩
  rcases h with h | h
  · exact .inl (key _ h)
  · exact .inr (key _ h)

theorem own5_at {w : World} {base g cap n : Nat} {e : TypeId} {xs : List Value} (h : w.ownsRow base e 5 (.slice (some ⟨g, 0, none⟩) n cap) n xs) {i : Nat} {x : Value} (hi : xs[i]? = some x) : w.cell? ⟨g, i, none⟩ = some x := by
  rw [h.cellAt i (by rw [← h.1]; exact (List.getElem?_eq_some_iff.1 hi).1)]
  exact hi

theorem tx_form {w : World} {B : Nat} {v : Value} {ss : List ByteArray} (h : Tx w B v ss) : ∃ A c, v = .slice A ss.length c := by
  rcases h.2 with ⟨rfl, h0⟩ | ⟨g, cap, cur, rfl, _⟩
  · exact ⟨none, 0, by rw [h0]⟩
  · exact ⟨_, _, rfl⟩

/-- One chunk out of the row. -/
theorem OutR.at {w : World} {B : Nat} {A : Option Addr} {m cap : Nat} {cs : List (Ck ByteArray)} (h : OutR w B (.slice A m cap) cs) {k : Nat} {c : Ck ByteArray} (hc : cs[k]? = some c) :
    ∃ (g : Nat) (A1 A2 A3 A4 : Option Addr) (c1 c2 c3 c4 : Nat), A = some ⟨g, 0, none⟩ ∧ w.cell? ⟨g, k * 5, none⟩ = some (.slice A1 c.base.length c1) ∧ w.cell? ⟨g, k * 5 + 1, none⟩ = some (.slice A2 c.ours.length c2) ∧ w.cell? ⟨g, k * 5 + 2, none⟩ = some (.slice A3 c.theirs.length c3) ∧
      w.cell? ⟨g, k * 5 + 3, none⟩ = some (.bool c.clash) ∧ w.cell? ⟨g, k * 5 + 4, none⟩ = some (.slice A4 c.out.length c4) ∧ Strs w (.slice A1 c.base.length c1) c.base ∧ Strs w (.slice A2 c.ours.length c2) c.ours ∧ Strs w (.slice A3 c.theirs.length c3) c.theirs ∧ Strs w (.slice A4 c.out.length c4) c.out := by
  obtain ⟨vals, h1, h2⟩ := h
  have hlt := (List.getElem?_eq_some_iff.1 hc).1
  obtain ⟨a, b, d, e, k0, k1, k2, k3, k4, t1, t2, t3, t4⟩ := h2.at hc
  obtain ⟨A1, c1, rfl⟩ := tx_form t1
  obtain ⟨A2, c2, rfl⟩ := tx_form t2
  obtain ⟨A3, c3, rfl⟩ := tx_form t3
  obtain ⟨A4, c4, rfl⟩ := tx_form t4
  obtain ⟨g, cap', hv, _, _⟩ := World.ownsRow.form h1 (by omega)
  injection hv with e1 e2 e3
  subst e1; subst e2; subst e3
  exact ⟨g, A1, A2, A3, A4, c1, c2, c3, c4, rfl, own5_at h1 k0, own5_at h1 k1, own5_at h1 k2, own5_at h1 k3, own5_at h1 k4, Strs.of_own t1 rfl, Strs.of_own t2 rfl, Strs.of_own t3 rfl, Strs.of_own t4 rfl⟩

end Go.Proofs.YtdpoeagmeiedcaaDoor
namespace Go.Proofs.YtdpoeagmeiedcaaDoor
open Go.RowKit

def Texted (w : World) (l : List UInt8) (n : Nat) (e : Ending) (w' : World) : Prop := e = .returned (.tuple #[.string (mk l), .int .i64 (n : Int), .nilIface]) ∧ Below w.heap.size w w'

/-- The lines of a text, as strings. -/
abbrev lns (s : ByteArray) : List ByteArray := (cutL s.data.toList).map mk
theorem lns_cat (s : ByteArray) : cat (lns s) = s.data.toList := cat_lines _

theorem below_trans {a b c : World} (h : Below a.heap.size a b) (g : Below b.heap.size b c) : Below a.heap.size a c := h.trans (g.mono h.size)

open Go.Shelf in
theorem writeK (B b : Nat) (bs : List Value) (s : ByteArray) (w : World) (h : Lib.IsBuilderF 119 5 B b bs w) (hlen : bs.length + s.size ≤ 140737488355328) (hBw : B ≤ w.heap.size) :
    Calls Tryd.prog 49 #[.pointer (some ⟨b, 0, none⟩), .string s] w fun e w' => e = .returned (.tuple #[.int .i64 s.size, .nilIface]) ∧ (Lib.BuilderAtF 119 5 B b (.pointer (some ⟨b, 0, none⟩)) (bs ++ Lib.strCells s) w' ∧ Below B w w' ∧ Lib.OthersKept 5 (some b) w w') := Any.Builder_WriteString_k Tryd.lays166 Tryd.Builder_Extra_156 B b bs s w h hlen hBw
open Go.Shelf in
theorem stringF (B b : Nat) (l : List UInt8) (w : World) (h : Lib.IsBuilderF 119 5 B b (Lib.byteCells l) w) (hBw : B ≤ w.heap.size) :
    Calls Tryd.prog 53 #[.pointer (some ⟨b, 0, none⟩)] w fun e w' => e = .returned (.string ⟨l.toArray⟩) ∧ (Lib.IsBuilderF 119 5 B b (Lib.byteCells l) w' ∧ Below B w w') := Any.Builder_String_any_f Tryd.lays169 Tryd.Builder_Extra_169 B b l w h hBw

theorem isf_below {T e : TypeId} {B b : Nat} {bs : List Value} {w w' : World} (h : Lib.IsBuilderF T e B b bs w) (hb : Below w.heap.size w w') : Lib.IsBuilderF T e B b bs w' := by
  have key : ∀ p, Lib.BuilderAtF T e B b p bs w → Lib.BuilderAtF T e B b p bs w' := by
    rintro p ⟨h1, v, h2, h3, h4⟩
    have hlt := (Array.getElem?_eq_some_iff.1 h2).1
    refine ⟨h1, v, (hb.block b hlt).trans h2, ⟨h3.1, ?_⟩, h4⟩
    rcases h3.2 with hn | ⟨g, cap, cur, fz, hv, hbg, hg, rest⟩
    · exact .inl hn
    · exact .inr ⟨g, cap, cur, fz, hv, hbg, (hb.block g (Array.getElem?_eq_some_iff.1 hg).1).trans hg, rest⟩
  rcases h with h | h
  · exact .inl (key _ h)
  · exact .inr (key _ h)

/-- The row of a chunk, and the two cells that are read of it. -/
def Rw (X : Nat) (a1 a2 a3 a4 a5 : Value) (w : World) : Prop := w.heap[X]? = some (.cells #[a1, a2, a3, a4, a5] 79 (0, 0))
theorem Rw.two {X : Nat} {a1 a2 a3 a4 a5 : Value} {w : World} (h : Rw X a1 a2 a3 a4 a5 w) : w.cell? ⟨X, 1, none⟩ = some a2 ∧ w.cell? ⟨X, 2, none⟩ = some a3 := ⟨cell_of_row w X 1 _ 79 (0, 0) h, cell_of_row w X 2 _ 79 (0, 0) h⟩
theorem Rw.below {X : Nat} {a1 a2 a3 a4 a5 : Value} {w w' : World} (h : Rw X a1 a2 a3 a4 a5 w) (hb : Below w.heap.size w w') : Rw X a1 a2 a3 a4 a5 w' := (hb.block X (Array.getElem?_eq_some_iff.1 h).1).trans h
theorem Rw.kept {X b : Nat} {a1 a2 a3 a4 a5 : Value} {w w' : World} (h : Rw X a1 a2 a3 a4 a5 w) (hb : Lib.OthersKept 5 (some b) w w') (hne : X ≠ b) : Rw X a1 a2 a3 a4 a5 w' := hb X _ h (fun e => hne (Option.some.inj e)) (fun c fz e => by cases e)

/-- A sum of strings, its outcome by name. -/
theorem sum_namedM (a b : ByteArray) (h : a.size + b.size ≤ 9223372036854775807) : ∃ s, s = a ++ b ∧ s.size = a.size + b.size ∧ ∀ w, (Op.stringOp .add a b).run Tryd.prog w = .ok (.string s) w := ⟨_, rfl, ByteArray.size_append, fun w => run_string_add_sum w a b h⟩

attribute [-go_sem] run_string_add_if
set_option maxRecDepth 100000 in
set_option maxHeartbeats 8000000 in
theorem text_any (w : World) (sb so st sa sn : ByteArray) (h1 : sb.size ≤ 20000) (h2 : so.size ≤ 20000) (h3 : st.size ≤ 20000) (h4 : sa.size ≤ 1000) (h5 : sn.size ≤ 1000)
    (l1 : (lns sb).length ≤ 256) (l2 : (lns so).length ≤ 256) (l3 : (lns st).length ≤ 256) :
    Calls Tryd.prog 61 #[.string sb, .string so, .string st, .string sa, .string sn] w (Texted w (txtAll sa.data.toList sn.data.toList (allC (lns sb) (lns so) (lns st))) (clashes (allC (lns sb) (lns so) (lns st)))) := by
  have z1 : ∀ s ∈ lns sb, s.size ≤ maxLen := fun s hs => by have := mem_cat hs; rw [lns_cat, size_data] at this; unfold maxLen; omega
  have z2 : ∀ s ∈ lns so, s.size ≤ maxLen := fun s hs => by have := mem_cat hs; rw [lns_cat, size_data] at this; unfold maxLen; omega
  have z3 : ∀ s ∈ lns st, s.size ≤ maxLen := fun s hs => by have := mem_cat hs; rw [lns_cat, size_data] at this; unfold maxLen; omega
  have hG : Hid (∀ c ∈ allC (lns sb) (lns so) (lns st), (cat c.ours).length ≤ 20000 ∧ (cat c.theirs).length ≤ 20000 ∧ (cat c.out).length ≤ 20000 ∧ c.ours.length ≤ 256 ∧ c.theirs.length ≤ 256 ∧ c.out.length ≤ 256 ∧ (txtC sa.data.toList sn.data.toList c).length ≤ 50000) := Lib.hid fun c hc => by
    obtain ⟨_, a2, a3, a4⟩ := piece_le (lns sb) (lns so) (lns st) (M := 20000) (by rw [lns_cat, size_data]; exact h1) (by rw [lns_cat, size_data]; exact h2) (by rw [lns_cat, size_data]; exact h3) hc
    obtain ⟨_, b2, b3, b4⟩ := piece_len (lns sb) (lns so) (lns st) l1 l2 l3 hc
    exact ⟨a2, a3, a4, b2, b3, b4, txtC_le (by rw [size_data]; exact h4) (by rw [size_data]; exact h5) a2 a3 a4⟩
  have hL : (allC (lns sb) (lns so) (lns st)).length ≤ 600 := by have := chunks_len (pls (ed (lns sb) (lns so)) 0) (pls (ed (lns sb) (lns st)) 0) (lns sb) (lns so) (lns st) ((lns sb).length + 1) 0 0 0; unfold allC; omega
  have S1 := Lib.hid (split_any w sb (by omega))
  have S2 := Lib.hid fun w1 => split_any w1 so (by omega)
  have S3 := Lib.hid fun w1 => split_any w1 st (by omega)
  have CH := Lib.hid fun w1 v0 v1 v2 g0 g1 g2 => chunks_any w1 v0 v1 v2 (lns sb) (lns so) (lns st) g0 g1 g2 z1 z2 z3 l1 l2 l3
  have q1 : (cutL sb.data.toList).length = (lns sb).length := by simp
  have q2 : (cutL so.data.toList).length = (lns so).length := by simp
  have q3 : (cutL st.data.toList).length = (lns st).length := by simp
  have Q1 := Lib.hid q1
  have Q2 := Lib.hid q2
  have Q3 := Lib.hid q3
  clear z1 z2 z3 l1 l2 l3 h1 h2 h3 q1 q2 q3
  generalize allC (lns sb) (lns so) (lns st) = cs at *
  go_enter Tryd.func61, Tryd.ntmps61
  go_wp2_with fail
  refine S1.out.mono ?_
  rintro e w1 ⟨v1, rfl, o1, b1⟩
  have t1 := Strs.of_own o1 Q1.out
  go_wp2_with fail
  refine (S2.out w1).mono ?_
  rintro e w2 ⟨v2, rfl, o2, d2⟩
  have t2 := Strs.of_own o2 Q2.out
  have b2 := below_trans b1 d2
  have t1' := t1.below d2
  clear o1 o2 b1 S1 S2 t1 Q1 Q2
  go_wp2_with fail
  refine (S3.out w2).mono ?_
  rintro e w3 ⟨v3, rfl, o3, d3⟩
  have t3 := Strs.of_own o3 Q3.out
  have b3 := below_trans b2 d3
  have C3 := Lib.hid (CH.out w3 v1 v2 v3 (t1'.below d3) (t2.below d3) t3)
  clear o3 b2 S3 t1' t2 t3 d2 d3 CH Q3
  go_wp2_with fail
  refine C3.out.mono ?_
  rintro e w5 ⟨vC, rfl, o5, d5⟩
  have b5 := below_trans b3 d5
  obtain ⟨AC, cC, rfl⟩ := o5.form
  clear C3 b3 d5
  have IB := Lib.hid (Lib.IsBuilderF.of (Lib.fresh_isBuilder 119 5 w5))
  have d6 := (Below.refl w5.heap.size w5).alloc (Nat.le_refl _) (.cells #[.pointer none, .slice none 0 0] 119)
  have HO := Lib.hid o5
  have B5 := Lib.hid b5
  clear o5 b5
  go_wp2_with fail
  obtain ⟨b, hb⟩ : ∃ b, b = w5.heap.size := ⟨_, rfl⟩
  rw [← hb] at IB d6 ⊢
  have Hb := Lib.hid hb
  clear hb
  go_loopw [16, 34] (fun s16 s34 wr => ∃ k : Nat, k ≤ cs.length ∧ s34 = .int .i64 k ∧ s16 = .int .i64 (clashes (cs.take k) : Nat) ∧ Lib.IsBuilderF 119 5 b b (Lib.byteCells (txtAll sa.data.toList sn.data.toList (cs.take k))) wr ∧ Below b w5 wr) (fun _ s34 _ => cs.length - (intOf s34).toNat)
  case atStart => exact ⟨0, Nat.zero_le _, rfl, rfl, IB.out, d6⟩
  case round =>
    clear IB d6
    obtain ⟨k, hk, rfl, rfl, hI, hB⟩ := hrel
    have k0 : (0 : Int) ≤ (k : Int) := Int.natCast_nonneg _
    have hbl : b ≤ wr.heap.size := by have := Hb.out; rw [this]; rw [this] at hB; exact hB.size
    have hB5 : Below w5.heap.size w5 wr := by have := Hb.out; rw [this] at hB; exact hB
    by_cases hlt : k < cs.length
    · have k1 : (k : Int) < (cs.length : Int) := by omega
      obtain ⟨c, hc⟩ : ∃ c, cs[k]? = some c := ⟨_, List.getElem?_eq_getElem hlt⟩
      obtain ⟨g, A1, A2, A3, A4, c1, c2, c3, c4, rfl, x0, x1, x2, x3, x4, t1, t2, t3, t4⟩ := (HO.out.below hB5).at hc
      obtain ⟨m1, m2, m3, m4, m5, m6, m7⟩ := hG.out c (List.mem_of_getElem? hc)
      have HT := Lib.hid (txtAll_take (a := sa.data.toList) (n := sn.data.toList) hc)
      have HC := Lib.hid (clashes_take hc)
      have hcl := clashes_le (cs.take k)
      rw [List.length_take] at hcl
      have htl : (txtAll sa.data.toList sn.data.toList (cs.take k)).length ≤ 600 * 50000 := by
        have := flatMap_le (f := txtC sa.data.toList sn.data.toList) (M := 50000) (l := cs.take k) (fun x hx => (hG.out x (List.mem_of_mem_take hx)).2.2.2.2.2.2)
        rw [List.length_take] at this
        unfold txtAll
        have h6 : min k cs.length ≤ 600 := by omega
        exact Nat.le_trans this (Nat.mul_le_mul_right _ h6)
      have hD := (Below.refl wr.heap.size wr).alloc (Nat.le_refl _) (.cells #[.slice A1 c.base.length c1, .slice A2 c.ours.length c2, .slice A3 c.theirs.length c3, .bool c.clash, .slice A4 c.out.length c4] 79)
      cases hcc : c.clash with
      | false =>
        have HE : Hid (txtC sa.data.toList sn.data.toList c = cat c.out) := Lib.hid (by unfold txtC; rw [hcc]; rfl)
        rw [hcc] at x3 hD HC
        have J := Lib.hid (join_any _ _ c.out (t4.below hD) (by omega) (by omega))
        have HD := Lib.hid hD
        have HI := Lib.hid hI
        have HBl := Lib.hid hB
        clear hc t1 t2 t3 t4 hcc hD hI hB hB5
        generalize clashes (cs.take k) = n at *
        generalize txtAll sa.data.toList sn.data.toList (cs.take k) = T at *
        go_wp2_with fail
        refine J.out.mono ?_
        rintro e w6 ⟨rfl, d6⟩
        have hsz6 : b ≤ w6.heap.size := by have := HD.out.size; have := d6.size; omega
        have W := Lib.hid (writeK b b _ (mk (cat c.out)) w6 (isf_below (isf_below HI.out HD.out) d6) (by rw [Lib.byteCells_length, mk_size]; omega) hsz6)
        clear J
        go_wp2_with fail
        refine W.out.mono ?_
        rintro e w7 ⟨rfl, h7, d7, -⟩
        have HB7 := Lib.hid (((HBl.out.trans (HD.out.mono hbl)).trans (d6.mono (by have := HD.out.size; omega))).trans d7)
        have H7 := Lib.hid h7
        clear W d6 d7 h7
        go_wp2_with fail
        go_roundw
        case rel => exact ⟨k + 1, by omega, by go_num, by rw [HC.out]; rfl, by rw [HT.out, HE.out, Lib.byteCells_append]; exact .inr (by have := H7.out; rw [Lib.strCells_eq] at this; simpa [mk] using this), HB7.out⟩
        case measure => simp [intOf]; omega
      | true =>
        have HE : Hid (txtC sa.data.toList sn.data.toList c = markL sa.data.toList sn.data.toList (endL (cat c.ours)) (endL (cat c.theirs))) := Lib.hid (by unfold txtC; rw [hcc]; rfl)
        rw [hcc] at x3 hD HC
        have HW := Lib.hid fun w7 v h => wholeText_any w7 v c.ours h (by omega) (by omega)
        have HX := Lib.hid fun w7 v h => wholeText_any w7 v c.theirs h (by omega) (by omega)
        have hlE1 := endL_le (cat c.ours)
        have hlE2 := endL_le (cat c.theirs)
        have HD := Lib.hid hD
        have HI := Lib.hid hI
        have HBl := Lib.hid hB
        have T2 := Lib.hid (t2.below (hD.trans ((Below.refl _ _).drew.mono hD.size)))
        have T3 := Lib.hid (t3.below (hD.trans ((Below.refl _ _).drew.mono hD.size)))
        clear hc t1 t2 t3 t4 hcc hD hI hB hB5
        generalize clashes (cs.take k) = n at *
        generalize txtAll sa.data.toList sn.data.toList (cs.take k) = T at *
        generalize endL (cat c.ours) = E1 at *
        generalize endL (cat c.theirs) = E2 at *
        go_wp2_with fail
        have y1 : (mk E1).size ≤ 20001 := by rw [mk_size]; omega
        have y2 : (mk E2).size ≤ 20001 := by rw [mk_size]; omega
        have l1 : (ByteArray.mk #[60, 60, 60, 60, 60, 60, 60, 32]).size = 8 := rfl
        have l2 : (ByteArray.mk #[10]).size = 1 := rfl
        have l3 : (ByteArray.mk #[61, 61, 61, 61, 61, 61, 61, 10]).size = 8 := rfl
        have l4 : (ByteArray.mk #[62, 62, 62, 62, 62, 62, 62, 32]).size = 8 := rfl
        obtain ⟨s1, e1, n1, p1⟩ := sum_namedM ⟨#[60, 60, 60, 60, 60, 60, 60, 32]⟩ sa (by omega)
        obtain ⟨s2, e2, n2, p2⟩ := sum_namedM s1 ⟨#[10]⟩ (by omega)
        obtain ⟨s3, e3, n3, p3⟩ := sum_namedM s2 (mk E1) (by omega)
        obtain ⟨s4, e4, n4, p4⟩ := sum_namedM s3 ⟨#[61, 61, 61, 61, 61, 61, 61, 10]⟩ (by omega)
        obtain ⟨s5, e5, n5, p5⟩ := sum_namedM s4 (mk E2) (by omega)
        obtain ⟨s6, e6, n6, p6⟩ := sum_namedM s5 ⟨#[62, 62, 62, 62, 62, 62, 62, 32]⟩ (by omega)
        obtain ⟨s7, e7, n7, p7⟩ := sum_namedM s6 sn (by omega)
        obtain ⟨s8, e8, n8, p8⟩ := sum_namedM s7 ⟨#[10]⟩ (by omega)
        have eM : Hid (s8 = markB sa sn (mk E1) (mk E2)) := Lib.hid (by rw [e8, e7, e6, e5, e4, e3, e2, e1])
        clear l1 l2 l3 l4 e1 e2 e3 e4 e5 e6 e7 e8 n1 n2 n3 n4 n5 n6 n7 n8
        have R0 : Rw wr.heap.size (.slice A1 c.base.length c1) (.slice A2 c.ours.length c2) (.slice A3 c.theirs.length c3) (.bool true) (.slice A4 c.out.length c4) (wr.alloc (.cells #[.slice A1 c.base.length c1, .slice A2 c.ours.length c2, .slice A3 c.theirs.length c3, .bool true, .slice A4 c.out.length c4] 79)).drew := heap_alloc_new wr _
        have q0 := R0.two
        have hne : wr.heap.size ≠ b := by have h9 : b < wr.heap.size := HI.out.elim (·.lt) (·.lt); omega
        have W1 := Lib.hid (HW.out _ _ T2.out)
        have hbs : b ≤ (wr.alloc (.cells #[.slice A1 c.base.length c1, .slice A2 c.ours.length c2, .slice A3 c.theirs.length c3, .bool true, .slice A4 c.out.length c4] 79)).drew.heap.size := by have := HD.out.size; simp at this ⊢; omega
        have hXs : wr.heap.size < (wr.alloc (.cells #[.slice A1 c.base.length c1, .slice A2 c.ours.length c2, .slice A3 c.theirs.length c3, .bool true, .slice A4 c.out.length c4] 79)).drew.heap.size := by simp
        have HXs := Lib.hid hXs
        have hsz : (markB sa sn (mk E1) (mk E2)).size ≤ 50000 := by
          rw [← size_data, markB_data]
          unfold markL
          simp only [List.length_append, List.length_cons, List.length_nil, size_data]
          rw [mk_size, mk_size]
          omega
        have HSZ : Hid (s8.size ≤ 50000) := Lib.hid (by rw [eM.out]; exact hsz)
        clear hXs hsz
        go_region_held3 (fun w' => w'.cell? ⟨wr.heap.size, 1, none⟩ = some (.slice A2 c.ours.length c2) ∧ w'.cell? ⟨wr.heap.size, 2, none⟩ = some (.slice A3 c.theirs.length c3)) (first | exact q9 | exact q8 | exact q7 | exact q0) (first
          | (go_at_call 49; (with_reducible refine (writeK b b _ s8 w8 I8.out (by rw [Lib.byteCells_length]; have := HSZ.out; omega) hs8).mono ?_); rintro e w9 ⟨rfl, h9, d9, k9⟩; have q9 := (R8.kept k9 hne).two)
          | (go_at_call 85; (with_reducible refine (HX.out w7 _ (T3.out.below d7)).mono ?_); rintro e w8 ⟨rfl, d8⟩; have I8 := Lib.hid (isf_below I7.out d8); have hs8 := Nat.le_trans hs7 d8.size; have R8 := R7.below d8; have q8 := R8.two)
          | (go_at_call 85; (with_reducible refine W1.out.mono ?_); rintro e w7 ⟨rfl, d7⟩; have I7 := Lib.hid (isf_below (isf_below HI.out (HD.out.trans ((Below.refl _ _).drew.mono HD.out.size))) d7); have hs7 := Nat.le_trans hbs d7.size; have R7 := R0.below d7; have q7 := R7.two))
        all_goals
          have HB9 := Lib.hid ((((HBl.out.trans ((HD.out.trans ((Below.refl _ _).drew.mono HD.out.size)).mono hbl)).trans (d7.mono hbs)).trans (d8.mono hs7)).trans d9)
          have H9 := Lib.hid h9
          clear d7 d8 d9 h9 W1 I7 I8 R0 R7 R8 q0 q7 q8 q9 k9
          go_wp2_with fail
          go_roundw
          case rel => exact ⟨k + 1, by omega, by go_num, by rw [HC.out]; go_num, by rw [HT.out, HE.out, Lib.byteCells_append]; exact .inr (by have := H9.out; rw [Lib.strCells_eq, eM.out, markB_data] at this; simpa [mk] using this), HB9.out⟩
          case measure => simp [intOf]; omega
    · obtain rfl : k = cs.length := by omega
      rw [List.take_length] at hI
      have P := Lib.hid (stringF b b _ wr hI hbl)
      rw [List.take_length]
      clear hI
      go_wp2_with fail
      refine P.out.mono ?_
      rintro e w6 ⟨rfl, -, d6⟩
      go_wp2_with fail
      go_ret3
      exact ⟨rfl, B5.out.trans (((hB5.trans (by rw [← Hb.out]; exact d6)).mono B5.out.size))⟩

end Go.Proofs.YtdpoeagmeiedcaaDoor
namespace Go.Proofs.YtdpoeagmeiedcaaDoor
open Go.RowKit

/-- Are lines few enough? -/
def fewL (xs : List ByteArray) : Bool := decide (xs.length ≤ 300) && xs.all fun x => decide (x.size ≤ 200)

set_option maxRecDepth 100000 in
set_option maxHeartbeats 4000000 in
theorem few13_any (w : World) (A : Option Addr) (n c : Nat) (xs : List ByteArray) (h : Strs w (.slice A n c) xs) (hn : n = xs.length) :
    Calls Tryd.prog 63 #[.slice A n c] w fun e w' => e = .returned (.bool (fewL xs)) ∧ Below w.heap.size w w' := by
  by_cases h300 : n ≤ 300
  · have hi : (n : Int) ≤ 300 := by omega
    have HT := Lib.hid h
    have HF := Lib.hid (show fewL xs = xs.all fun x => decide (x.size ≤ 200) by unfold fewL; rw [decide_eq_true (by omega)]; rfl)
    clear h
    go_enter Tryd.func63, Tryd.ntmps63
    go_wp2_with fail
    go_loopw [3] (fun s3 wr => ∃ k : Nat, k ≤ n ∧ s3 = .int .i64 k ∧ ((xs.take k).all fun x => decide (x.size ≤ 200)) = true ∧ Below w.heap.size w wr) (fun s3 _ => n - (intOf s3).toNat)
    case atStart => exact ⟨0, Nat.zero_le _, rfl, rfl, Below.refl _ _⟩
    case round =>
      obtain ⟨k, hk, rfl, hm, hb⟩ := hrel
      have k0 : (0 : Int) ≤ (k : Int) := Int.natCast_nonneg _
      by_cases hlt : k < n
      · have k1 : (k : Int) < (n : Int) := by omega
        obtain ⟨ad, x, rfl, hx, c0⟩ := (HT.out.below hb).cell hlt
        have HX := Lib.hid hx
        have HM := Lib.hid hm
        clear hx hm
        by_cases h2 : x.size ≤ 200
        · have h2i : (x.size : Int) ≤ 200 := by omega
          go_wp2_with fail
          go_roundw
          case rel => exact ⟨k + 1, by omega, by go_num, by rw [List.take_add_one, HX.out, List.all_append, HM.out]; simp [h2], hb⟩
          case measure => simp [intOf]; omega
        · have h2i : ¬ (x.size : Int) ≤ 200 := by omega
          go_wp2_with fail
          go_ret
          refine ⟨?_, hb⟩
          rw [HF.out]
          have : (xs.all fun x => decide (x.size ≤ 200)) = false := by
            rw [List.all_eq_false]
            exact ⟨x, List.mem_of_getElem? HX.out, by simp; omega⟩
          rw [this]
          rfl
      · obtain rfl : k = n := by omega
        rw [hn, List.take_length] at hm
        have HM := Lib.hid hm
        clear hm
        go_wp2_with fail
        go_ret
        exact ⟨by rw [HF.out, HM.out]; rfl, hb⟩
  · have hi : ¬ (n : Int) ≤ 300 := by omega
    have HF := Lib.hid (show fewL xs = false by unfold fewL; rw [decide_eq_false (by omega)]; rfl)
    clear h
    rw [HF.out]
    go_enter Tryd.func63, Tryd.ntmps63
    go_wp2_with fail
    go_ret
    exact ⟨rfl, Below.refl _ _⟩


end Go.Proofs.YtdpoeagmeiedcaaDoor
namespace Go.Proofs.YtdpoeagmeiedcaaDoor
open Go.RowKit

abbrev theirs8 : ByteArray := ⟨#[62, 62, 62, 62, 62, 62, 62, 32]⟩
abbrev ours8 : ByteArray := ⟨#[60, 60, 60, 60, 60, 60, 60, 32]⟩

/-- May a clash still stand in these lines? -/
def mkd : Bool → List (List UInt8) → Bool
  | _, [] => false
  | b, x :: r => (b && Lib.hasPrefix x theirs8.data.toList) || mkd (b || Lib.hasPrefix x ours8.data.toList) r

theorem mkd_at {b : Bool} {l : List (List UInt8)} {k : Nat} {x : List UInt8} (h : l[k]? = some x) : mkd b (l.drop k) = ((b && Lib.hasPrefix x theirs8.data.toList) || mkd (b || Lib.hasPrefix x ours8.data.toList) (l.drop (k + 1))) := by
  obtain ⟨hk, rfl⟩ := List.getElem?_eq_some_iff.1 h
  rw [List.drop_eq_getElem_cons hk, mkd]

theorem len_flat {α : Type} : ∀ {L : List (List α)}, (∀ x ∈ L, x ≠ []) → L.length ≤ L.flatten.length
  | [], _ => Nat.zero_le _
  | x :: L, h => by
    have h1 := len_flat (L := L) fun y hy => h y (List.mem_cons_of_mem _ hy)
    have h2 : x.length ≠ 0 := fun e => h x List.mem_cons_self (List.eq_nil_of_length_eq_zero e)
    simp only [List.length_cons, List.flatten_cons, List.length_append]
    omega
theorem cutL_le (l : List UInt8) : (cutL l).length ≤ l.length := by
  have := len_flat (L := cutL l) fun x hx => by
    obtain ⟨i, hi⟩ := List.getElem?_of_mem hx
    exact (cutL_at l i x hi).1
  rwa [cutL_flat] at this

set_option maxRecDepth 100000 in
set_option maxHeartbeats 4000000 in
theorem marked_any (w : World) (s : ByteArray) (hs : s.size ≤ 1000000) :
    Calls Tryd.prog 62 #[.string s] w fun e w' => e = .returned (.bool (mkd false (cutL s.data.toList))) ∧ Below w.heap.size w w' := by
  have S1 := Lib.hid (split_any w s hs)
  have Q1 := Lib.hid (show (cutL s.data.toList).length = (lns s).length by simp)
  go_enter Tryd.func62, Tryd.ntmps62
  go_wp2_with fail
  refine S1.out.mono ?_
  rintro e w1 ⟨v1, rfl, o1, b1⟩
  have t1 := Strs.of_own o1 Q1.out
  obtain ⟨A, n, c, rfl⟩ := t1.form
  have hn : n = (cutL s.data.toList).length := by obtain ⟨A', c', hv, _⟩ := t1; injection hv with _ e2 _; rw [e2]; simp
  have hn6 : n ≤ 1000000 := by rw [hn]; have := cutL_le s.data.toList; rw [size_data] at this; omega
  have HT := Lib.hid t1
  have HN := Lib.hid hn
  have HB := Lib.hid b1
  clear S1 o1 t1 hn b1
  go_wp2_with fail
  go_loopw [3, 9] (fun s3 s9 wr => ∃ (k : Nat) (b : Bool), k ≤ n ∧ s9 = .int .i64 k ∧ s3 = .bool b ∧ mkd b ((cutL s.data.toList).drop k) = mkd false (cutL s.data.toList) ∧ Below w1.heap.size w1 wr) (fun _ s9 _ => n - (intOf s9).toNat)
  case atStart => exact ⟨0, false, Nat.zero_le _, rfl, rfl, rfl, Below.refl _ _⟩
  case round =>
    obtain ⟨k, b, hk, rfl, rfl, hm, hb⟩ := hrel
    have k0 : (0 : Int) ≤ (k : Int) := Int.natCast_nonneg _
    by_cases hlt : k < n
    · have k1 : (k : Int) < (n : Int) := by omega
      obtain ⟨ad, x, rfl, hx, c0⟩ := (HT.out.below hb).cell hlt
      have hx2 : (cutL s.data.toList)[k]? = some x.data.toList := by
        rw [List.getElem?_map] at hx
        cases hc : (cutL s.data.toList)[k]? with
        | none => rw [hc] at hx; cases hx
        | some y => rw [hc] at hx; simp only [Option.map_some, Option.some.injEq] at hx; rw [← hx]; simp [mk]
      have HM := Lib.hid (hm.symm.trans (mkd_at hx2))
      have P1 := Lib.hid fun w2 => Tryd.strings_HasPrefix x theirs8 w2
      have P2 := Lib.hid fun w2 => Tryd.strings_HasPrefix x ours8 w2
      have HBl := Lib.hid hb
      clear hx hx2 hm hb
      generalize hp1 : Lib.hasPrefix x.data.toList theirs8.data.toList = a1 at *
      generalize hp2 : Lib.hasPrefix x.data.toList ours8.data.toList = a2 at *
      clear hp1 hp2
      cases b with
      | false =>
        go_wp2_with (go_at_call 86; (with_reducible refine (P2.out _).mono ?_); rintro e w2 ⟨rfl, rfl⟩)
        go_roundw
        case rel => exact ⟨k + 1, a2, by omega, by go_num, rfl, by rw [HM.out]; simp, HBl.out⟩
        case measure => simp [intOf]; omega
      | true =>
        cases a1 with
        | true =>
          go_wp2_with (go_at_call 86; (with_reducible refine (P1.out _).mono ?_); rintro e w2 ⟨rfl, rfl⟩)
          go_ret
          exact ⟨by rw [HM.out]; simp, below_trans HB.out HBl.out⟩
        | false =>
          go_wp2_with (go_at_call 86; (with_reducible refine (P1.out _).mono ?_); rintro e w2 ⟨rfl, rfl⟩)
          go_roundw
          case rel => exact ⟨k + 1, true, by omega, by go_num, rfl, by rw [HM.out]; simp, HBl.out⟩
          case measure => simp [intOf]; omega
    · obtain rfl : k = n := by omega
      have HM := Lib.hid hm
      clear hm
      go_wp2_with fail
      go_ret
      exact ⟨by rw [← HM.out, HN.out, List.drop_length]; rfl, below_trans HB.out hb⟩

end Go.Proofs.YtdpoeagmeiedcaaDoor
namespace Go.Proofs.YtdpoeagmeiedcaaDoor
open Go.RowKit

theorem Strs.one (w : World) (x : ByteArray) : Strs (w.alloc (.cells #[.string x] 9)) (.slice (some ⟨w.heap.size, 0, none⟩) 1 1) [x] := by
  refine ⟨some ⟨w.heap.size, 0, none⟩, 1, rfl, Nat.le_refl _, by unfold maxLen; omega, (fun h => by cases h), ?_⟩
  intro ad ha i s hs
  obtain rfl := Option.some.inj ha
  have hi := (List.getElem?_eq_some_iff.1 hs).1
  obtain rfl : i = 0 := by simp at hi; omega
  obtain rfl : x = s := by simpa using hs
  exact cell_of_row _ w.heap.size 0 _ 9 (0, 0) (heap_alloc_new w _)

theorem known_three (w : World) (x y z : ByteArray) :
    Strs (((w.alloc (.cells #[.string x] 9)).alloc (.cells #[.string y] 9)).alloc (.cells #[.string z] 9)) (.slice (some ⟨w.heap.size, 0, none⟩) 1 1) [x] ∧
    Strs (((w.alloc (.cells #[.string x] 9)).alloc (.cells #[.string y] 9)).alloc (.cells #[.string z] 9)) (.slice (some ⟨w.heap.size + 1, 0, none⟩) 1 1) [y] ∧
    Strs (((w.alloc (.cells #[.string x] 9)).alloc (.cells #[.string y] 9)).alloc (.cells #[.string z] 9)) (.slice (some ⟨w.heap.size + 1 + 1, 0, none⟩) 1 1) [z] := by
  refine ⟨((Strs.one w x).alloc _).alloc _, ?_, ?_⟩
  · have := Strs.one (w.alloc (.cells #[.string x] 9)) y
    rw [show (w.alloc (.cells #[.string x] 9)).heap.size = w.heap.size + 1 from by simp] at this
    exact this.alloc _
  · have := Strs.one ((w.alloc (.cells #[.string x] 9)).alloc (.cells #[.string y] 9)) z
    rw [show ((w.alloc (.cells #[.string x] 9)).alloc (.cells #[.string y] 9)).heap.size = w.heap.size + 1 + 1 from by simp] at this
    exact this

abbrev KaM : ByteArray := ⟨#[97]⟩
abbrev KbM : ByteArray := ⟨#[98]⟩
abbrev KS : ByteArray := ⟨#[65, 10, 98, 10, 67, 10]⟩
abbrev KT : ByteArray := ⟨#[60, 60, 60, 60, 60, 60, 60, 32, 120, 10, 98, 10, 61, 61, 61, 61, 61, 61, 61, 10, 99, 10, 62, 62, 62, 62, 62, 62, 62, 32, 121, 10]⟩

theorem kr1 : txtAll [120] [121] (allC (lns ⟨#[97, 10, 98, 10, 99, 10]⟩) (lns ⟨#[65, 10, 98, 10, 99, 10]⟩) (lns ⟨#[97, 10, 98, 10, 67, 10]⟩)) = KS.data.toList ∧ clashes (allC (lns ⟨#[97, 10, 98, 10, 99, 10]⟩) (lns ⟨#[65, 10, 98, 10, 99, 10]⟩) (lns ⟨#[97, 10, 98, 10, 67, 10]⟩)) = 0 := by decide +kernel
theorem kr2 : txtAll [120] [121] (allC (lns ⟨#[97, 10]⟩) (lns ⟨#[98, 10]⟩) (lns ⟨#[99]⟩)) = KT.data.toList ∧ clashes (allC (lns ⟨#[97, 10]⟩) (lns ⟨#[98, 10]⟩) (lns ⟨#[99]⟩)) = 1 := by decide +kernel
theorem kr3 : allC [KaM] [KaM] [KbM] = [⟨[KaM], [KaM], [KbM], false, [KbM]⟩] := by kernel_rfl
theorem kr4 : mkd false (cutL KT.data.toList) = true ∧ mkd false (cutL KS.data.toList) = false := by decide +kernel
theorem kl : (lns ⟨#[97, 10, 98, 10, 99, 10]⟩).length ≤ 256 ∧ (lns ⟨#[65, 10, 98, 10, 99, 10]⟩).length ≤ 256 ∧ (lns ⟨#[97, 10, 98, 10, 67, 10]⟩).length ≤ 256 ∧ (lns ⟨#[97, 10]⟩).length ≤ 256 ∧ (lns ⟨#[98, 10]⟩).length ≤ 256 ∧ (lns ⟨#[99]⟩).length ≤ 256 := by decide +kernel

theorem k_text1 (W : World) : Calls Tryd.prog 61 #[.string ⟨#[97, 10, 98, 10, 99, 10]⟩, .string ⟨#[65, 10, 98, 10, 99, 10]⟩, .string ⟨#[97, 10, 98, 10, 67, 10]⟩, .string ⟨#[120]⟩, .string ⟨#[121]⟩] W
    fun e w' => e = .returned (.tuple #[.string KS, .int .i64 0, .nilIface]) ∧ Below W.heap.size W w' := by
  obtain ⟨l1, l2, l3, _⟩ := kl
  have h := text_any W ⟨#[97, 10, 98, 10, 99, 10]⟩ ⟨#[65, 10, 98, 10, 99, 10]⟩ ⟨#[97, 10, 98, 10, 67, 10]⟩ ⟨#[120]⟩ ⟨#[121]⟩ (by decide) (by decide) (by decide) (by decide) (by decide) l1 l2 l3
  rw [show (ByteArray.mk #[120]).data.toList = [120] from rfl, show (ByteArray.mk #[121]).data.toList = [121] from rfl, kr1.1, kr1.2] at h
  exact h.mono fun e w' ⟨a, b⟩ => ⟨a, b⟩
theorem k_text2 (W : World) : Calls Tryd.prog 61 #[.string ⟨#[97, 10]⟩, .string ⟨#[98, 10]⟩, .string ⟨#[99]⟩, .string ⟨#[120]⟩, .string ⟨#[121]⟩] W
    fun e w' => e = .returned (.tuple #[.string KT, .int .i64 1, .nilIface]) ∧ Below W.heap.size W w' := by
  obtain ⟨_, _, _, l1, l2, l3⟩ := kl
  have h := text_any W ⟨#[97, 10]⟩ ⟨#[98, 10]⟩ ⟨#[99]⟩ ⟨#[120]⟩ ⟨#[121]⟩ (by decide) (by decide) (by decide) (by decide) (by decide) l1 l2 l3
  rw [show (ByteArray.mk #[120]).data.toList = [120] from rfl, show (ByteArray.mk #[121]).data.toList = [121] from rfl, kr2.1, kr2.2] at h
  exact h.mono fun e w' ⟨a, b⟩ => ⟨a, b⟩
theorem k_mark1 (W : World) : Calls Tryd.prog 62 #[.string KT] W fun e w' => e = .returned (.bool true) ∧ Below W.heap.size W w' := by
  have h := marked_any W KT (by decide)
  rwa [kr4.1] at h
theorem k_mark2 (W : World) : Calls Tryd.prog 62 #[.string KS] W fun e w' => e = .returned (.bool false) ∧ Below W.heap.size W w' := by
  have h := marked_any W KS (by decide)
  rwa [kr4.2] at h

set_option maxRecDepth 100000 in
set_option maxHeartbeats 4000000 in
theorem known_yes (w : World) : Calls Tryd.prog 33 #[] w (YesB w) := by
  have CH := Lib.hid fun (W : World) => chunks_any _ _ _ _ [KaM] [KaM] [KbM] (known_three W KaM KaM KbM).1 (known_three W KaM KaM KbM).2.1 (known_three W KaM KaM KbM).2.2 (by decide) (by decide) (by decide) (by decide) (by decide) (by decide)
  rw [kr3] at CH
  have E0 := Lib.hid fun (W : World) => (((Below.refl W.heap.size W).alloc (Nat.le_refl _) (.cells #[.string KaM] 9)).alloc (by simp) (.cells #[.string KaM] 9)).alloc (by simp; omega) (.cells #[.string KbM] 9)
  go_enter Tryd.func33, Tryd.ntmps33
  go_wp2_with fail
  refine (k_text1 w).mono ?_
  rintro e w1 ⟨rfl, b1⟩
  go_wp2_with fail
  refine (k_text2 w1).mono ?_
  rintro e w2 ⟨rfl, d2⟩
  have b2 := below_trans b1 d2
  clear b1 d2
  go_wp2_with fail
  refine (CH.out w2).mono ?_
  rintro e w3 ⟨v, rfl, o3, d3⟩
  have b3 := below_trans b2 (below_trans (E0.out w2) d3)
  obtain ⟨A, cp, rfl⟩ := o3.form
  obtain ⟨g, A1, A2, A3, A4, c1, c2, c3, c4, rfl, x0, x1, x2, x3, x4, _, _, _, _⟩ := o3.at (k := 0) rfl
  have HB3 := Lib.hid b3
  clear o3 d3 b2 CH E0 b3 x0 x1 x2
  simp at x3 x4
  go_wp2_with (first
    | (go_at_call 62; (with_reducible refine (k_mark2 _).mono ?_); rintro e w5 ⟨rfl, d5⟩)
    | (go_at_call 62; (with_reducible refine (k_mark1 _).mono ?_); rintro e w4 ⟨rfl, d4⟩))
  go_ret
  exact ⟨rfl, below_trans HB3.out (below_trans d4 d5)⟩

end Go.Proofs.YtdpoeagmeiedcaaDoor
namespace Go.Proofs.YtdpoeagmeiedcaaDoor
open Go Go.RowKit

def Blk (w : World) (g : Nat) (t : TypeId) (cs : Array Value) : Prop := w.heap[g]? = some (.cells cs t (0, 0))
section
variable {w w' : World} {g : Nat} {t : TypeId} {cs : Array Value}
theorem Blk.lt (h : Blk w g t cs) : g < w.heap.size := by
  rcases Nat.lt_or_ge g w.heap.size with hlt | hge
  · exact hlt
  · unfold Blk at h; rw [Array.getElem?_eq_none hge] at h; cases h
theorem Blk.cell (h : Blk w g t cs) (i : Nat) : w.cell? ⟨g, i, none⟩ = cs[i]? := cell_of_row w g i cs t (0, 0) h
theorem Blk.frozen (h : Blk w g t cs) (i : Nat) : w.frozen? ⟨g, i, none⟩ = false := by
  unfold Blk at h
  simp [World.frozen?, h]
theorem Blk.new (w : World) (t : TypeId) (cs : Array Value) : Blk (w.alloc (.cells cs t)) w.heap.size t cs := heap_alloc_new w _
theorem Blk.drewN (h : Blk w g t cs) (n : Nat) : Blk (w.drewN n) g t cs := h
theorem Blk.alloc (h : Blk w g t cs) (o : Obj) : Blk (w.alloc o) g t cs := (Below.heap_alloc w o g h.lt).trans h
theorem Blk.set_ (h : Blk w g t cs) (i : Nat) (u : Value) : Blk (w.setCell ⟨g, i, none⟩ u) g t (cs.setIfInBounds i u) := by
  unfold Blk at h ⊢
  simp [World.setCell, Array.getElem?_modify, h]
theorem Blk.far (h : Blk w g t cs) {p : Addr} (hp : g ≠ p.block) (u : Value) : Blk (w.setCell p u) g t cs := (Below.heap_setCell w p u g hp).trans h
theorem Blk.below {B : Nat} (h : Blk w g t cs) (hb : Below B w w') (hg : g < B) : Blk w' g t cs := (hb.block g hg).trans h
theorem Blk.grown {row : Option Nat} (h : Blk w g t cs) (hb : w.grownBy w' row) (hg : some g ≠ row) : Blk w' g t cs := (hb.block g h.lt hg).trans h
theorem Blk.ne_ {g' : Nat} {t' : TypeId} {cs' : Array Value} (h : Blk w g t cs) (h' : Blk w g' t' cs') (hne : t ≠ t') : g ≠ g' := by
  rintro rfl
  unfold Blk at h h'
  rw [h] at h'
  injection h' with h'
  injection h' with _ ht
  exact hne ht
theorem own_blk_ne {base : Nat} {e : TypeId} {size n : Nat} {v : Value} {xs : List Value} (h : w.ownsRow base e size v n xs) (hg : Blk w g t cs) (hne : e ≠ t) : v.ownBlock ≠ some g := by
  rcases h.2 with ⟨rfl, _⟩ | ⟨g', cap, cur, rfl, _, hh, _⟩
  · simp [Value.ownBlock]
  · intro he
    have : g' = g := by simpa [Value.ownBlock] using he
    subst this
    exact Blk.ne_ (t := e) hh hg hne rfl
/-- Cells laid from o on. -/
theorem Blk.setCells : ∀ (vs : List Value) (o : Nat) {w : World} {cs : Array Value}, Blk w g t cs → o + vs.length ≤ cs.size →
    ∃ cs' : Array Value, Blk (w.setCells g o vs) g t cs' ∧ cs'.size = cs.size ∧ ∀ j, cs'[j]? = if o ≤ j ∧ j < o + vs.length then vs[j - o]? else cs[j]?
  | [], o, w, cs, h, _ => ⟨cs, h, rfl, fun j => by rw [if_neg (by simp only [List.length_nil]; omega)]⟩
  | v :: vs, o, w, cs, h, hl => by
    rw [List.length_cons] at hl
    obtain ⟨cs', h1, h2, h3⟩ := Blk.setCells vs (o + 1) (h.set_ o v) (by rw [Array.size_setIfInBounds]; omega)
    refine ⟨cs', h1, by rw [h2, Array.size_setIfInBounds], fun j => ?_⟩
    rw [h3 j, List.length_cons]
    by_cases e1 : o + 1 ≤ j ∧ j < o + 1 + vs.length
    · rw [if_pos e1, if_pos (by omega)]
      obtain ⟨k, hk⟩ : ∃ k, j - o = k + 1 := ⟨j - o - 1, by omega⟩
      rw [hk, List.getElem?_cons_succ, show j - (o + 1) = k by omega]
    · rw [if_neg e1]
      by_cases e2 : j = o
      · subst e2
        rw [if_pos (by omega), Nat.sub_self, Array.getElem?_setIfInBounds_self]
        rw [if_pos (by omega)]; rfl
      · rw [if_neg (by omega), Array.getElem?_setIfInBounds_ne (by omega)]
end

theorem own_keepK {w w' : World} {base : Nat} {e : TypeId} {size : Nat} {v : Value} {n : Nat} {xs : List Value} (h : w.ownsRow base e size v n xs) (hb : Below w.heap.size w w') : w'.ownsRow base e size v n xs :=
  h.kept (row := none) ⟨hb.os, hb.tape, hb.output, hb.size, fun k hk _ => hb.block k hk⟩ (by
    cases h' : v.ownBlock with
    | none => exact .inl rfl
    | some k => exact .inr (by simp))
/-- The bytes of a row of the call's own. -/
abbrev bc (l : List UInt8) : List Value := Lib.byteCells l
abbrev BOwn (w : World) (B : Nat) (v : Value) (l : List UInt8) : Prop := w.ownsRow B 5 1 v l.length (bc l)
theorem byteInfo : (Tryd.prog.info? 5).map (fun i => (i.zero, i.size, i.bytes)) = some (some (.int .u8 0), 1, 1) := by kernel_rfl
theorem bc_one (l : List UInt8) : ∀ u ∈ bc l, u.oneCell' = true := by
  intro u hu
  obtain ⟨b, _, rfl⟩ := List.mem_map.1 hu
  rfl
theorem bc_at {l : List UInt8} {i : Nat} {b : UInt8} (h : l[i]? = some b) : (bc l)[i]? = some (.int .u8 b.toNat) := by
  show (l.map _)[i]? = _
  rw [List.getElem?_map, h]; rfl

/-- What a call changes: block E, and the row r; what was below stands. -/
structure Touch (w w' : World) (E : Nat) (r : Option Nat) : Prop where
  os : w'.os = w.os
  tape : w'.tape = w.tape
  output : w'.output = w.output
  size : w.heap.size ≤ w'.heap.size
  block : ∀ k, k < w.heap.size → k ≠ E → some k ≠ r → w'.heap[k]? = w.heap[k]?
/-- The row is the old one or a new one. -/
def Same1 (w : World) (r r' : Option Nat) : Prop := r' = r ∨ ∃ g, r' = some g ∧ w.heap.size ≤ g
theorem Touch.refl (w : World) (E : Nat) (r : Option Nat) : Touch w w E r := ⟨rfl, rfl, rfl, Nat.le_refl _, fun _ _ _ _ => rfl⟩
theorem Touch.trans {w w1 w2 : World} {E : Nat} {r r1 : Option Nat} (h : Touch w w1 E r) (hr : Same1 w r r1) (h' : Touch w1 w2 E r1) : Touch w w2 E r :=
  ⟨h'.os.trans h.os, h'.tape.trans h.tape, h'.output.trans h.output, Nat.le_trans h.size h'.size, fun k hk hE hn =>
    (h'.block k (Nat.lt_of_lt_of_le hk h.size) hE (by rcases hr with rfl | ⟨g, rfl, hg⟩; · exact hn
                                                      · intro e; injection e with e; omega)).trans (h.block k hk hE hn)⟩
theorem Same1.trans {w w1 : World} {r r1 r2 : Option Nat} (h : Same1 w r r1) (hs : w.heap.size ≤ w1.heap.size) (h' : Same1 w1 r1 r2) : Same1 w r r2 := by
  rcases h' with rfl | ⟨g, rfl, hg⟩
  · exact h
  · exact .inr ⟨g, rfl, Nat.le_trans hs hg⟩
theorem Touch.of_below {w w' : World} {E : Nat} {r : Option Nat} (h : Below w.heap.size w w') : Touch w w' E r := ⟨h.os, h.tape, h.output, h.size, fun k hk _ _ => h.block k hk⟩
theorem Touch.below {w w' : World} {B E : Nat} {r : Option Nat} (h : Touch w w' E r) (hB : B ≤ w.heap.size) (hE : B ≤ E) (hr : ∀ g, r = some g → B ≤ g) : Below B w w' :=
  ⟨h.os, h.tape, h.output, h.size, fun k hk => h.block k (by omega) (by omega) (fun e => by have := hr k e.symm; omega)⟩
theorem Touch.blk {w w' : World} {E g : Nat} {r : Option Nat} {t : TypeId} {cs : Array Value} (h : Touch w w' E r) (hb : Blk w g t cs) (hE : g ≠ E) (hr : some g ≠ r) : Blk w' g t cs := (h.block g hb.lt hE hr).trans hb
theorem Touch.own {w w' : World} {E B size n : Nat} {e : TypeId} {r : Option Nat} {v : Value} {xs : List Value} (h : Touch w w' E r) (ho : w.ownsRow B e size v n xs) (hE : v.ownBlock ≠ some E) (hr : v.ownBlock = none ∨ v.ownBlock ≠ r) : w'.ownsRow B e size v n xs := by
  obtain ⟨hl, hb⟩ := ho
  refine ⟨hl, hb.imp id ?_⟩
  rintro ⟨g, cap, cur, rfl, hg, hh, rest⟩
  refine ⟨g, cap, cur, rfl, hg, (h.block g (Array.getElem?_eq_some_iff.1 hh).1 (fun e => hE (by rw [e]; rfl)) ?_).trans hh, rest⟩
  rcases hr with hr | hr
  · cases hr
  · exact hr
theorem Touch.of_grown {w w' : World} {E : Nat} {r : Option Nat} (h : w.grownBy w' r) : Touch w w' E r := ⟨h.os, h.tape, h.output, h.size, fun k hk _ hn => h.block k hk hn⟩

end Go.Proofs.YtdpoeagmeiedcaaDoor
namespace Go.Proofs.YtdpoeagmeiedcaaDoor
open Go Go.RowKit

/-- What the table has at a place. -/
def cT (xs ys : List ByteArray) (i j : Nat) : Nat := lc (xs.drop i) (ys.drop j)
theorem cT_end_a (xs ys : List ByteArray) (j : Nat) : cT xs ys xs.length j = 0 := by unfold cT; rw [List.drop_length]; rfl
theorem cT_end_b (xs ys : List ByteArray) (i : Nat) : cT xs ys i ys.length = 0 := by unfold cT; rw [List.drop_length, lc_nil_right]
theorem cT_le (xs ys : List ByteArray) (i j : Nat) : cT xs ys i j ≤ ys.length := by
  unfold cT
  refine Nat.le_trans (lc_le_right _ _) ?_
  rw [List.length_drop]; omega
theorem lc_near {α : Type} [DecidableEq α] : ∀ (n : Nat) (xs ys : List α), xs.length + ys.length ≤ n → (∀ y, lc xs ys ≤ lc xs (y :: ys)) ∧ (∀ x, lc (x :: xs) ys ≤ lc xs ys + 1) := by
  intro n
  induction n with
  | zero =>
    intro xs ys h
    have h1 : xs = [] := List.eq_nil_of_length_eq_zero (by omega)
    have h2 : ys = [] := List.eq_nil_of_length_eq_zero (by omega)
    subst h1; subst h2
    exact ⟨fun y => Nat.zero_le _, fun x => by rw [lc_nil_right]; omega⟩
  | succ n ih =>
    intro xs ys h
    constructor
    · intro y
      cases xs with
      | nil => exact Nat.zero_le _
      | cons z xs =>
        rw [lc_cons]
        split
        · exact (ih xs ys (by simp only [List.length_cons] at h; omega)).2 z
        · exact Nat.le_max_right _ _
    · intro x
      cases ys with
      | nil => rw [lc_nil_right]; omega
      | cons y ys =>
        have hi := ih xs ys (by simp only [List.length_cons] at h; omega)
        have h1 := hi.1 y
        have h2 := hi.2 x
        rw [lc_cons]
        split
        · omega
        · exact Nat.max_le.2 ⟨by omega, by omega⟩
/-- What the table's rule makes of its neighbours. -/
theorem cT_step {xs ys : List ByteArray} {i j : Nat} {x y : ByteArray} (hx : xs[i]? = some x) (hy : ys[j]? = some y) :
    cT xs ys i j = if x = y ∧ max (cT xs ys (i + 1) j) (cT xs ys i (j + 1)) < cT xs ys (i + 1) (j + 1) + 1 then cT xs ys (i + 1) (j + 1) + 1 else max (cT xs ys (i + 1) j) (cT xs ys i (j + 1)) := by
  have hs := lc_step hx hy
  obtain ⟨hi, rfl⟩ := List.getElem?_eq_some_iff.1 hx
  obtain ⟨hj, rfl⟩ := List.getElem?_eq_some_iff.1 hy
  have n1 := (lc_near _ (xs.drop (i + 1)) (ys.drop (j + 1)) (Nat.le_refl _)).2 xs[i]
  have n2 := (lc_near _ (ys.drop (j + 1)) (xs.drop (i + 1)) (Nat.le_refl _)).2 ys[j]
  rw [← List.drop_eq_getElem_cons hi] at n1
  rw [← List.drop_eq_getElem_cons hj, lc_symm, lc_symm (ys.drop (j + 1))] at n2
  unfold cT
  rw [hs]
  by_cases e : xs[i] = ys[j]
  · rw [if_pos e]
    by_cases h : max (lc (xs.drop (i + 1)) (ys.drop j)) (lc (xs.drop i) (ys.drop (j + 1))) < lc (xs.drop (i + 1)) (ys.drop (j + 1)) + 1
    · rw [if_pos ⟨e, h⟩]
    · rw [if_neg (fun c => h c.2)]
      have := Nat.max_le.2 ⟨n2, n1⟩
      omega
  · rw [if_neg e, if_neg (fun c => e c.1)]

/-- A row of the table, told by a function. -/
def RowF (w : World) (g M : Nat) (F : Nat → Nat) : Prop := ∃ cs : Array Value, Blk w g 3 cs ∧ cs.size = M ∧ ∀ t, t < M → cs[t]? = some (.int .i64 (F t : Int))
theorem RowF.below {w w' : World} {g M : Nat} {F : Nat → Nat} (h : RowF w g M F) (hb : Below w.heap.size w w') : RowF w' g M F := by
  obtain ⟨cs, hc, h1, h2⟩ := h
  exact ⟨cs, hc.below hb hc.lt, h1, h2⟩
theorem RowF.cell {w : World} {g M : Nat} {F : Nat → Nat} (h : RowF w g M F) {t : Nat} (ht : t < M) : w.cell? ⟨g, t, none⟩ = some (.int .i64 (F t : Int)) := by
  obtain ⟨cs, hc, _, h2⟩ := h
  rw [hc.cell]; exact h2 t ht
/-- All but block g stands. -/
structure But (wi w : World) (g : Nat) : Prop where
  os : w.os = wi.os
  tape : w.tape = wi.tape
  output : w.output = wi.output
  size : w.heap.size = wi.heap.size
  oth : ∀ k, k ≠ g → w.heap[k]? = wi.heap[k]?
theorem But.refl (w : World) (g : Nat) : But w w g := ⟨rfl, rfl, rfl, rfl, fun _ _ => rfl⟩
theorem But.drewN {wi w : World} {g : Nat} (h : But wi w g) (n : Nat) : But wi (w.drewN n) g := ⟨h.os, h.tape, h.output, h.size, h.oth⟩
theorem But.drew {wi w : World} {g : Nat} (h : But wi w g) : But wi w.drew g := ⟨h.os, h.tape, h.output, h.size, h.oth⟩
theorem But.set_ {wi w : World} {g : Nat} (h : But wi w g) (i : Nat) (v : Value) : But wi (w.setCell ⟨g, i, none⟩ v) g :=
  ⟨h.os, h.tape, h.output, by rw [← h.size]; simp, fun k hk => (Below.heap_setCell w _ v k hk).trans (h.oth k hk)⟩
theorem But.cell {wi w : World} {g : Nat} (h : But wi w g) {p : Addr} (hp : p.block ≠ g) : w.cell? p = wi.cell? p := by
  simp only [World.cell?]
  rw [h.oth _ hp]
theorem But.blk {wi w : World} {g k : Nat} {t : TypeId} {cs : Array Value} (h : But wi w g) (hb : Blk wi k t cs) (hk : k ≠ g) : Blk w k t cs := (h.oth k hk).trans hb
theorem But.below {wi w : World} {g B : Nat} (h : But wi w g) (hB : B ≤ g) : Below B wi w := ⟨h.os, h.tape, h.output, by rw [h.size]; exact Nat.le_refl _, fun k hk => h.oth k (by omega)⟩
end Go.Proofs.YtdpoeagmeiedcaaDoor
namespace Go.Proofs.YtdpoeagmeiedcaaDoor
open Go Go.RowKit

theorem rowsInfo : (Tryd.prog.info? 82).map (fun i => (i.zero, i.size, i.bytes)) = some (some (.slice none 0 0), 1, 24) := by kernel_rfl
theorem intInfoC : (Tryd.prog.info? 3).map (fun i => (i.zero, i.size, i.bytes)) = some (some (.int .i64 0), 1, 8) := by kernel_rfl

/-- The table's rows, from k on. -/
def topV (G n m k : Nat) : Nat → Value := fun t => if k ≤ t then .slice (some ⟨G + 1 + (n - t), 0, none⟩) (m + 1) (m + 1) else .slice none 0 0
/-- The table, its rows from k on filled. -/
structure OutT (w wr : World) (G : Nat) (xs ys : List ByteArray) (k : Nat) : Prop where
  since : w.Since G wr
  size : wr.heap.size = G + 1 + (xs.length + 1 - k)
  top : wr.rowIs G 82 (xs.length + 1) (topV G xs.length ys.length k)
  done : ∀ t, k ≤ t → t ≤ xs.length → wr.rowIs (G + 1 + (xs.length - t)) 3 (ys.length + 1) (fun j => .int .i64 (cT xs ys t j))
/-- .. and row p made, filled behind q, v at q. -/
structure InnT (w wi : World) (G : Nat) (xs ys : List ByteArray) (p q : Nat) (v : Nat) : Prop where
  since : w.Since G wi
  size : wi.heap.size = G + 1 + (xs.length + 1 - p)
  top : wi.rowIs G 82 (xs.length + 1) (topV G xs.length ys.length p)
  done : ∀ t, p + 1 ≤ t → t ≤ xs.length → wi.rowIs (G + 1 + (xs.length - t)) 3 (ys.length + 1) (fun j => .int .i64 (cT xs ys t j))
  cur : wi.rowIs (G + 1 + (xs.length - p)) 3 (ys.length + 1) (fun j => .int .i64 ((if q + 1 ≤ j then cT xs ys p j else if j = q then v else 0 : Nat) : Int))
theorem OutT.start (w : World) (xs ys : List ByteArray) : OutT w (w.alloc (.cells (madeCells #[.slice none 0 0] (xs.length + 1)) 82)) w.heap.size xs ys (xs.length + 1) :=
  ⟨(World.Since.refl _ _).alloc (Nat.le_refl _) _, by simp, (World.rowIs_made w _ (xs.length + 1) 82).congr (fun j hj => by simp only [topV]; rw [if_neg (by omega)]), fun t h1 h2 => by omega⟩
theorem OutT.drewN {w wr : World} {G : Nat} {xs ys : List ByteArray} {k : Nat} (h : OutT w wr G xs ys k) (n : Nat) : OutT w (wr.drewN n) G xs ys k :=
  ⟨⟨h.since.os, h.since.tape, h.since.output, h.since.size, h.since.block⟩, h.size, h.top, h.done⟩
theorem InnT.drewN {w wr : World} {G : Nat} {xs ys : List ByteArray} {p q v : Nat} (h : InnT w wr G xs ys p q v) (n : Nat) : InnT w (wr.drewN n) G xs ys p q v :=
  ⟨⟨h.since.os, h.since.tape, h.since.output, h.since.size, h.since.block⟩, h.size, h.top, h.done, h.cur⟩
theorem InnT.drew {w wr : World} {G : Nat} {xs ys : List ByteArray} {p q v : Nat} (h : InnT w wr G xs ys p q v) : InnT w wr.drew G xs ys p q v :=
  ⟨h.since.drew, h.size, h.top, h.done, h.cur⟩
theorem InnT.start {w wr : World} {G : Nat} {xs ys : List ByteArray} {p : Nat} (h : OutT w wr G xs ys (p + 1)) (hp : p ≤ xs.length) :
    InnT w ((wr.alloc (.cells (madeCells #[.int .i64 0] (ys.length + 1)) 3)).setCell ⟨G, p, none⟩ (.slice (some ⟨wr.heap.size, 0, none⟩) (ys.length + 1) (ys.length + 1))) G xs ys p ys.length 0 := by
  have hnew := World.rowIs_made wr (.int .i64 0) (ys.length + 1) 3
  have hsz : wr.heap.size = G + 1 + (xs.length - p) := by rw [h.size]; omega
  rw [hsz] at hnew ⊢
  refine ⟨(h.since.alloc (by rw [h.size]; omega) _).setCell (Nat.le_refl _) _, by simp [h.size]; omega, ((h.top.alloc _).set p _).congr (fun t ht => ?_), fun t h1 h2 => ((h.done t h1 h2).alloc _).setOther (by show G + 1 + (xs.length - t) ≠ G; omega) _,
    (hnew.setOther (by show G + 1 + (xs.length - p) ≠ G; omega) _).congr (fun j hj => ?_)⟩
  · simp only [topV]
    by_cases e : t = p
    · subst e; simp
    · rw [if_neg e]
      by_cases hlt : p + 1 ≤ t
      · rw [if_pos hlt, if_pos (by omega)]
      · rw [if_neg hlt, if_neg (by omega)]
  · rw [if_neg (by omega)]
    simp
theorem InnT.store {w wi : World} {G : Nat} {xs ys : List ByteArray} {p q v : Nat} (h : InnT w wi G xs ys p q v) (hp : p ≤ xs.length) (u : Nat) :
    InnT w (wi.setCell ⟨G + 1 + (xs.length - p), q, none⟩ (.int .i64 (u : Int))) G xs ys p q u :=
  ⟨h.since.setCell (by show G ≤ G + 1 + (xs.length - p); omega) _, by simp [h.size], h.top.setOther (by show G ≠ G + 1 + (xs.length - p); omega) _,
    fun t h1 h2 => (h.done t h1 h2).setOther (by show G + 1 + (xs.length - t) ≠ G + 1 + (xs.length - p); omega) _,
    (h.cur.set q _).congr (fun j hj => by
      by_cases e : j = q
      · subst e; rw [if_pos rfl, if_neg (by omega), if_pos rfl]
      · rw [if_neg e, if_neg e, if_neg e])⟩
theorem InnT.next {w wi : World} {G : Nat} {xs ys : List ByteArray} {p q v : Nat} (h : InnT w wi G xs ys p (q + 1) v) (hv : v = cT xs ys p (q + 1)) : InnT w wi G xs ys p q 0 :=
  ⟨h.since, h.size, h.top, h.done, h.cur.congr (fun j hj => by
    by_cases e : j = q + 1
    · subst e; subst hv; rw [if_neg (by omega), if_pos rfl, if_pos (by omega)]
    · by_cases e2 : q + 1 + 1 ≤ j
      · rw [if_pos e2, if_pos (by omega)]
      · rw [if_neg e2, if_neg e, if_neg (by omega)]; simp)⟩
theorem InnT.done_ {w wi : World} {G : Nat} {xs ys : List ByteArray} {p v : Nat} (h : InnT w wi G xs ys p 0 v) (hv : v = cT xs ys p 0) : OutT w wi G xs ys p :=
  ⟨h.since, h.size, h.top, fun t h1 h2 => by
    by_cases e : t = p
    · subst e
      exact h.cur.congr (fun j hj => by
        by_cases e : j = 0
        · subst e; subst hv; rw [if_neg (by omega), if_pos rfl]
        · rw [if_pos (by omega)])
    · exact h.done t (by omega) h2⟩
theorem InnT.last {w wi : World} {G : Nat} {xs ys : List ByteArray} {q v : Nat} (h : InnT w wi G xs ys xs.length q v) (hv : v = cT xs ys xs.length q) : OutT w wi G xs ys xs.length :=
  ⟨h.since, h.size, h.top, fun t h1 h2 => by
    obtain rfl : t = xs.length := by omega
    exact h.cur.congr (fun j hj => by
      simp only [cT_end_a] at hv ⊢
      subst hv
      split
      · rfl
      · split <;> rfl)⟩
/-- What stands in the cells at (p, q). -/
theorem InnT.rowP {w wi : World} {G : Nat} {xs ys : List ByteArray} {p q v : Nat} (h : InnT w wi G xs ys p q v) (hp : p ≤ xs.length) : wi.cell? ⟨G, p, none⟩ = some (.slice (some ⟨G + 1 + (xs.length - p), 0, none⟩) (ys.length + 1) (ys.length + 1)) := by
  rw [h.top.cell (by omega)]; simp only [topV]; rw [if_pos (Nat.le_refl _)]
theorem InnT.rowS {w wi : World} {G : Nat} {xs ys : List ByteArray} {p q v : Nat} (h : InnT w wi G xs ys p q v) (hp : p < xs.length) : wi.cell? ⟨G, p + 1, none⟩ = some (.slice (some ⟨G + 1 + (xs.length - (p + 1)), 0, none⟩) (ys.length + 1) (ys.length + 1)) := by
  rw [h.top.cell (by omega)]; simp only [topV]; rw [if_pos (by omega)]
theorem InnT.at_ {w wi : World} {G : Nat} {xs ys : List ByteArray} {p q v : Nat} (h : InnT w wi G xs ys p q v) (hq : q ≤ ys.length) : wi.cell? ⟨G + 1 + (xs.length - p), q, none⟩ = some (.int .i64 (v : Int)) := by
  rw [h.cur.cell (by omega), if_neg (by omega), if_pos rfl]
theorem InnT.right {w wi : World} {G : Nat} {xs ys : List ByteArray} {p q v : Nat} (h : InnT w wi G xs ys p q v) (hq : q < ys.length) : wi.cell? ⟨G + 1 + (xs.length - p), q + 1, none⟩ = some (.int .i64 (cT xs ys p (q + 1) : Int)) := by
  rw [h.cur.cell (by omega), if_pos (by omega)]
theorem InnT.under {w wi : World} {G : Nat} {xs ys : List ByteArray} {p q v : Nat} (h : InnT w wi G xs ys p q v) (hp : p < xs.length) {j : Nat} (hj : j ≤ ys.length) : wi.cell? ⟨G + 1 + (xs.length - (p + 1)), j, none⟩ = some (.int .i64 (cT xs ys (p + 1) j : Int)) :=
  (h.done (p + 1) (Nat.le_refl _) (by omega)).cell (by omega)

/-- The whole table. -/
def Tabled (w : World) (xs ys : List ByteArray) (e : Ending) (w' : World) : Prop :=
  ∃ G, e = .returned (.slice (some ⟨G, 0, none⟩) (xs.length + 1) (xs.length + 1)) ∧ w.heap.size ≤ G ∧ OutT w w' G xs ys 0 ∧ Below w.heap.size w w'
end Go.Proofs.YtdpoeagmeiedcaaDoor
namespace Go.Proofs.YtdpoeagmeiedcaaDoor
open Go Go.RowKit Go.Maps Go.WideMaps

set_option maxRecDepth 100000 in
set_option maxHeartbeats 2000000 in
theorem refCommon_tab (w : World) (v u : Value) (xs ys : List ByteArray) (h : Strs w v xs) (g : Strs w u ys) (hxl : xs.length ≤ 256) (hyl : ys.length ≤ 256) :
    Calls Tryd.prog 41 #[v, u] w (Tabled w xs ys) := by
  obtain ⟨A, n0, c, rfl⟩ := h.form
  obtain ⟨B, m0, d, rfl⟩ := g.form
  obtain rfl := h.len.1
  obtain rfl := g.len.1
  obtain ⟨N, hN⟩ : ∃ N, N = xs.length + 1 := ⟨_, rfl⟩
  obtain ⟨M, hM⟩ : ∃ M, M = ys.length + 1 := ⟨_, rfl⟩
  have e1 : IntKind.i64.wrap ((xs.length : Int) + 1) = (N : Int) := by rw [hN]; exact IntWalk.i64_in _ (by omega)
  have e2 : IntKind.i64.wrap ((ys.length : Int) + 1) = (M : Int) := by rw [hM]; exact IntWalk.i64_in _ (by omega)
  have mk1 := fun W => run_make_row' (P := Tryd.prog) 89 82 (.slice none 0 0) 24 Tryd.underlying89 rowsInfo rfl .i64 .i64 N (by omega) (by omega) W
  have S0 := Lib.hid (OutT.start w xs ys)
  rw [← hN] at S0
  have HN := Lib.hid hN
  have HM := Lib.hid hM
  have H0 := Lib.hid h
  have G0 := Lib.hid g
  clear h g hN hM
  go_enter Tryd.func41, Tryd.ntmps41
  go_wp2_with fail
  obtain ⟨G, hG⟩ : ∃ G, G = w.heap.size := ⟨_, rfl⟩
  rw [← hG] at S0 ⊢
  have HG := Lib.hid hG
  clear hG mk1
  go_loopw [6, 7] (fun s6 _ wr => ∃ (k : Nat) (z : Int), k ≤ xs.length + 1 ∧ s6 = .int .i64 z ∧ Hid (z = (k : Int) - 1) ∧ Hid (OutT w wr G xs ys k)) (fun s6 _ _ => (intOf s6 + 1).toNat)
  case atStart => exact ⟨xs.length + 1, _, Nat.le_refl _, rfl, (by show (_ : Int) = _; omega), by rw [← HN.out]; exact S0⟩
  case round =>
    clear S0
    obtain ⟨k, z, hk, rfl, hz, hO⟩ := hrel
    by_cases hk0 : k = 0
    · subst hk0
      obtain rfl : z = -1 := by have := hz.out; omega
      go_wp2
      go_ret
      have hO1 := hO.out
      exact ⟨G, by rw [HN.out]; rfl, by rw [HG.out]; exact Nat.le_refl _, hO1, by rw [← HG.out]; exact ⟨hO1.since.os, hO1.since.tape, hO1.since.output, hO1.since.size, hO1.since.block⟩⟩
    · obtain ⟨p, rfl⟩ : ∃ p, k = p + 1 := ⟨k - 1, by omega⟩
      obtain rfl : z = (p : Int) := by have := hz.out; omega
      have hp : p ≤ xs.length := by omega
      have hp0 : (0 : Int) ≤ (p : Int) := Int.natCast_nonneg _
      have hpN : (p : Int) < (N : Int) := by have := HN.out; omega
      have mk2 := run_make_row' (P := Tryd.prog) 82 3 (.int .i64 0) 8 Tryd.underlying82 intInfoC rfl .i64 .i64 M (by have := HM.out; omega) (by have := HM.out; omega) wr
      have st1 : (wr.alloc (.cells (madeCells #[.int .i64 0] M) 3)).cell? ⟨G, p, none⟩ = some (topV G xs.length ys.length (p + 1) p) := (hO.out.top.alloc _).cell (by omega)
      have st2 : (wr.alloc (.cells (madeCells #[.int .i64 0] M) 3)).frozen? ⟨G, p, none⟩ = false := (hO.out.top.alloc _).frozen p
      have S1 := Lib.hid (InnT.start hO.out hp)
      rw [← HM.out] at S1
      clear hO
      go_wp2_with fail
      clear mk2 st1 st2
      generalize (wr.alloc (.cells (madeCells #[.int .i64 0] M) 3)).setCell ⟨G, p, none⟩ (.slice (some ⟨wr.heap.size, 0, none⟩) M M) = wi0 at S1 ⊢
      go_loopw [7] (fun s7 wi => ∃ (q : Nat) (z : Int), q ≤ ys.length ∧ s7 = .int .i64 z ∧ Hid (z = (q : Int) - 1) ∧ Hid (InnT w wi G xs ys p q (cT xs ys p q))) (fun s7 _ => (intOf s7 + 1).toNat)
      case atStart => exact ⟨ys.length, _, Nat.le_refl _, rfl, rfl, by rw [cT_end_b]; exact S1⟩
      case round =>
        clear S1
        obtain ⟨wi, hwi⟩ : ∃ wi : World, wi = wr := ⟨_, rfl⟩
        rw [← hwi] at hrel ⊢
        clear hwi
        obtain ⟨q, z, hq, rfl, hz2, hI⟩ := hrel
        by_cases hq0 : q = 0
        · subst hq0
          obtain rfl : z = -1 := by have := hz2.out; omega
          have hO := InnT.done_ hI.out rfl
          go_wp2
          go_roundw
          case rel => exact ⟨p, _, by omega, rfl, rfl, hO⟩
          case measure => simp [intOf]
        · obtain ⟨j, rfl⟩ : ∃ j, q = j + 1 := ⟨q - 1, by omega⟩
          obtain rfl : z = (j : Int) := by have := hz2.out; omega
          have hj0 : (0 : Int) ≤ (j : Int) := Int.natCast_nonneg _
          have hjM : (j : Int) < (M : Int) := by have := HM.out; omega
          by_cases hpl : p < xs.length
          · have hpl1 : (p : Int) < (xs.length : Int) := by omega
            have hpN1 : (p : Int) + 1 < (N : Int) := by have := HN.out; omega
            have hjM1 : (j : Int) + 1 < (M : Int) := by have := HM.out; omega
            have hsp : IntKind.i64.wrap ((p : Int) + 1) = (p : Int) + 1 := IntWalk.i64_in _ (by omega)
            have hsj : IntKind.i64.wrap ((j : Int) + 1) = (j : Int) + 1 := IntWalk.i64_in _ (by omega)
            obtain ⟨s, hs⟩ : ∃ s, xs[p]? = some s := ⟨_, List.getElem?_eq_getElem (by omega)⟩
            obtain ⟨t, ht⟩ : ∃ t, ys[j]? = some t := ⟨_, List.getElem?_eq_getElem (by omega)⟩
            have hstep := Lib.hid (cT_step hs ht)
            have HS := Lib.hid hs
            have HT := Lib.hid ht
            have b12 := cT_le xs ys (p + 1) (j + 1)
            have b1 := cT_le xs ys (p + 1) j
            have b2 := cT_le xs ys p (j + 1)
            have I0 := Lib.hid (InnT.next hI.out rfl)
            have P0 := I0.out.rowP hp
            have P1 := I0.out.rowS hpl
            have P2 := I0.out.under hpl (show j ≤ ys.length by omega)
            have P3 : wi.cell? ⟨G + 1 + (xs.length - p), j, none⟩ = some (.int .i64 0) := I0.out.at_ (show j ≤ ys.length by omega)
            have P4 := I0.out.cur.frozen j
            have HI := Lib.hid I0
            clear hs ht hI
            rw [← HM.out] at P0 P1
            obtain ⟨c1, hc1⟩ : ∃ c, c = cT xs ys (p + 1) j := ⟨_, rfl⟩
            obtain ⟨c2, hc2⟩ : ∃ c, c = cT xs ys p (j + 1) := ⟨_, rfl⟩
            obtain ⟨c12, hc12⟩ : ∃ c, c = cT xs ys (p + 1) (j + 1) := ⟨_, rfl⟩
            rw [← hc1] at P2 b1
            rw [← hc2] at b2
            rw [← hc12] at b12
            rw [← hc1, ← hc2, ← hc12] at hstep
            have HC1 := Lib.hid hc1
            have HC2 := Lib.hid hc2
            have HC12 := Lib.hid hc12
            clear hc1 hc2 hc12
            have I1 := Lib.hid ((InnT.store I0.out hp c1).drew)
            have hsc : IntKind.i64.wrap ((c12 : Int) + 1) = (c12 : Int) + 1 := IntWalk.i64_in _ (by omega)
            have hss : (s.toList == t.toList) = decide (s = t) := by
              rw [ByteArray.toList_eq, ByteArray.toList_eq]
              by_cases e : s = t
              · simp [e]
              · simp [e]
                intro h
                exact e (ByteArray.ext h)
            have HSS := Lib.hid hss
            clear hss I0 HI
            go_wp2_with fail
            go_region
            go_wp2_with fail
            generalize (wi.setCell ⟨G + 1 + (xs.length - p), j, none⟩ (.int .i64 (c1 : Int))).drew = w1 at I1 ⊢
            clear P0 P1 P2 P3 P4
            have Q0 := I1.out.rowP hp
            have Q2 := I1.out.right (show j < ys.length by omega)
            have Q3 := I1.out.at_ (show j ≤ ys.length by omega)
            have Q4 := I1.out.cur.frozen j
            rw [← HC2.out] at Q2
            rw [← HM.out] at Q0
            by_cases hcc : c1 < c2
            case' pos =>
              have hci : (c1 : Int) < (c2 : Int) := by omega
              go_quiet (fail)
              go_wp2_with fail
              have I2 := Lib.hid ((I1.out.drewN (nq + 1)).store hp c2)
              go_region
              go_wp2_with fail
              generalize (w1.drewN (nq + 1)).setCell ⟨G + 1 + (xs.length - p), j, none⟩ (.int .i64 (c2 : Int)) = w2 at I2 ⊢
              obtain ⟨cm, hcm⟩ : ∃ cm, cm = c2 := ⟨_, rfl⟩
              have HCM := Lib.hid (show cm = max c1 c2 by omega)
              rw [← hcm] at I2
              clear hcm
            case' neg =>
              have hci : (decide ((c1 : Int) < (c2 : Int))) = false := decide_eq_false (by omega)
              go_quiet (fail)
              go_wp2_with fail
              have I2 := Lib.hid (I1.out.drewN nq)
              obtain ⟨cm, hcm⟩ : ∃ cm, cm = c1 := ⟨_, rfl⟩
              have HCM := Lib.hid (show cm = max c1 c2 by omega)
              rw [← hcm] at I2
              clear hcm
              generalize w1.drewN nq = w2 at I2 ⊢
            all_goals
              have hcmle : cm ≤ ys.length := by have := HCM.out; omega
              clear hci hcc I1 Q0 Q2 Q3 Q4
              have R0 := I2.out.rowP hp
              have R1 := I2.out.rowS hpl
              have R2 := I2.out.under hpl (show j + 1 ≤ ys.length by omega)
              have R3 := I2.out.at_ (show j ≤ ys.length by omega)
              have R4 := I2.out.cur.frozen j
              rw [← HM.out] at R0 R1
              rw [← HC12.out] at R2
              obtain ⟨a1, s1, rfl, hs1, cs1⟩ := (H0.out).cell (k := p) (by omega)
              obtain ⟨a2, s2, rfl, hs2, cs2⟩ := (G0.out).cell (k := j) (by omega)
              obtain rfl : s1 = s := Option.some.inj (hs1.symm.trans HS.out)
              obtain rfl : s2 = t := Option.some.inj (hs2.symm.trans HT.out)
              have d1 : w2.cell? (a1.add p) = some (.string s1) := (I2.out.since.cell (a := a1.add p) (by rw [HG.out]; exact World.block_lt_of_cell? _ _ cs1)).trans cs1
              have d2 : w2.cell? (a2.add j) = some (.string s2) := (I2.out.since.cell (a := a2.add j) (by rw [HG.out]; exact World.block_lt_of_cell? _ _ cs2)).trans cs2
              have hjl : (j : Int) < (ys.length : Int) := by omega
              clear hs1 hs2 cs1 cs2
              by_cases hst : s1 = s2
              case pos =>
                subst hst
                by_cases hgt : cm < c12 + 1
                case pos =>
                  have hgi : (cm : Int) < (c12 : Int) + 1 := by omega
                  have hv : c12 + 1 = cT xs ys p j := by rw [hstep.out, if_pos ⟨rfl, by have := HCM.out; omega⟩]
                  have HV := Lib.hid hv
                  clear hv
                  go_quiet (fail)
                  go_wp2_with fail
                  have I3 := Lib.hid ((I2.out.drewN (nq + 1)).store hp (c12 + 1))
                  rw [HV.out] at I3
                  rw [show ((cT xs ys p j : Nat) : Int) = (c12 : Int) + 1 from by rw [← HV.out]; omega] at I3
                  go_region
                  go_wp2
                  go_roundw
                  case rel => exact ⟨j, _, by omega, rfl, rfl, I3⟩
                  case measure => simp [intOf]
                case neg =>
                  have hgi : (decide ((cm : Int) < (c12 : Int) + 1)) = false := decide_eq_false (by omega)
                  have hv : cm = cT xs ys p j := by rw [hstep.out, if_neg (by have := HCM.out; omega)]; exact HCM.out
                  have I3 := Lib.hid ((I2.out.drewN 0))
                  rw [hv] at I3
                  clear hv
                  go_quiet (fail)
                  go_wp2
                  go_roundw
                  case rel => exact ⟨j, _, by omega, rfl, rfl, I3.out.drewN nq⟩
                  case measure => simp [intOf]
              case neg =>
                have hse := HSS.out
                rw [decide_eq_false hst] at hse
                have hv : cm = cT xs ys p j := by rw [hstep.out, if_neg (fun e => hst e.1)]; exact HCM.out
                have I3 := Lib.hid (I2.out.drewN 0)
                rw [hv] at I3
                clear hv
                go_quiet (fail)
                go_wp2
                go_roundw
                case rel => exact ⟨j, _, by omega, rfl, rfl, I3.out.drewN nq⟩
                case measure => simp [intOf]
          · obtain rfl : p = xs.length := by omega
            have hO := InnT.last hI.out rfl
            go_wp2
            go_roundw
            case rel => exact ⟨xs.length, _, by omega, rfl, rfl, hO⟩
            case measure => simp [intOf]
end Go.Proofs.YtdpoeagmeiedcaaDoor
namespace Go.Proofs.YtdpoeagmeiedcaaDoor
open Go Go.RowKit

/-- A number below 100 in digits. -/
def dg (n : Nat) : ByteArray := if n < 10 then ⟨#[UInt8.ofNat (48 + n)]⟩ else ⟨#[UInt8.ofNat (48 + n / 10), UInt8.ofNat (48 + n % 10)]⟩
def To10 (n : Nat) : Prop := n = 1 ∨ n = 2 ∨ n = 3 ∨ n = 4 ∨ n = 5 ∨ n = 6 ∨ n = 7 ∨ n = 8 ∨ n = 9 ∨ n = 10
theorem to10 {n : Nat} (h1 : 1 ≤ n) (h2 : n ≤ 10) : To10 n := by unfold To10; omega
def To10I (n : Int) : Prop := n = 1 ∨ n = 2 ∨ n = 3 ∨ n = 4 ∨ n = 5 ∨ n = 6 ∨ n = 7 ∨ n = 8 ∨ n = 9 ∨ n = 10
theorem To10.int {n : Nat} (h : To10 n) : To10I (n : Int) := by unfold To10 at h; unfold To10I; omega
theorem sum_named (a b : ByteArray) (h : a.size + b.size ≤ 9223372036854775807) : ∃ s, s = a ++ b ∧ s.size = a.size + b.size ∧ ∀ w, (Op.stringOp .add a b).run Tryd.prog w = .ok (.string s) w := ⟨_, rfl, ByteArray.size_append, fun w => run_string_add_sum w a b h⟩

set_option maxRecDepth 100000 in
set_option maxHeartbeats 4000000 in
theorem itoa_int (n : Int) (h : To10I n) (w : World) : Calls Tryd.prog 81 #[.int .i64 n] w fun e w' => e = .returned (.string (dg n.toNat)) ∧ w' = w := by
  rcases h with rfl | rfl | rfl | rfl | rfl | rfl | rfl | rfl | rfl | rfl
  all_goals
    go_enter Tryd.func81, Tryd.ntmps81
    go_wp2
    go_ret
    exact ⟨rfl, rfl⟩
theorem itoa_any {n : Nat} (h : To10 n) (w : World) : Calls Tryd.prog 81 #[.int .i64 n] w fun e w' => e = .returned (.string (dg n)) ∧ w' = w := itoa_int n h.int w

set_option maxRecDepth 100000 in
set_option maxHeartbeats 4000000 in
theorem short_word (w : World) : Calls Tryd.prog 133 #[.int .i64 3] w fun e w' => e = .returned (.string ⟨#[115, 104, 111, 114, 116]⟩) ∧ w' = w := by
  go_enter Tryd.func133, Tryd.ntmps133
  go_wp2
  go_ret
  exact ⟨rfl, rfl⟩
set_option maxRecDepth 100000 in
set_option maxHeartbeats 4000000 in
theorem refWord_short (w : World) : Calls Tryd.prog 73 #[.int .i64 3] w fun e w' => e = .returned (.string ⟨#[115, 104, 111, 114, 116]⟩) ∧ Below w.heap.size w w' := by
  go_enter Tryd.func73, Tryd.ntmps73
  go_wp2
  go_ret
  exact ⟨rfl, (Below.refl _ _).alloc (Nat.le_refl _) _⟩
theorem one_digit (W : World) (g : Nat) (x : Int) (h1 : 48 ≤ x) (h2 : x ≤ 57) (hc : W.cell? ⟨g, 0, none⟩ = some (.int .u8 x)) : (convert 117 9 (.slice (some ⟨g, 0, none⟩) 1 1)).run Tryd.prog W = .ok (.string ⟨#[UInt8.ofNat x.toNat]⟩) W := by
  have := run_convert_bytes_back (P := Tryd.prog) W 117 9 5 ⟨g, 0, none⟩ 1 [UInt8.ofNat x.toNat] Tryd.underlying117 Tryd.underlying5 Tryd.underlying9 (fun j hj => by
    obtain rfl : j = 0 := by simpa using hj
    simp [Addr.add, hc]
    omega)
  exact this
set_option maxRecDepth 100000 in
set_option maxHeartbeats 4000000 in
theorem refDecimal_int (n : Int) (h : To10I n) (w : World) : Calls Tryd.prog 54 #[.int .i64 n] w fun e w' => e = .returned (.string (dg n.toNat)) ∧ Below w.heap.size w w' := by
  rcases h with rfl | rfl | rfl | rfl | rfl | rfl | rfl | rfl | rfl | rfl
  all_goals
    have cv : ∀ (W : World) (x : Int), 48 ≤ x → x ≤ 57 → (convert 117 9 (.slice (some ⟨W.heap.size, 0, none⟩) 1 1)).run Tryd.prog (W.alloc (.cells #[.int .u8 x] 5)) = .ok (.string ⟨#[UInt8.ofNat x.toNat]⟩) (W.alloc (.cells #[.int .u8 x] 5)) := fun W x h1 h2 => one_digit _ _ _ h1 h2 (by simp)
    have cw : ∀ (W : World) (o : Obj) (x : Int), 48 ≤ x → x ≤ 57 → (convert 117 9 (.slice (some ⟨W.heap.size + 1, 0, none⟩) 1 1)).run Tryd.prog ((W.alloc o).alloc (.cells #[.int .u8 x] 5)) = .ok (.string ⟨#[UInt8.ofNat x.toNat]⟩) ((W.alloc o).alloc (.cells #[.int .u8 x] 5)) := fun W o x h1 h2 => one_digit _ _ _ h1 h2 (by simp)
    go_enter Tryd.func54, Tryd.ntmps54
    go_wp2
    refine wp_loop_rounds 2 ?_
    rw [rounds_succ]
    go_wp2
    try (rw [rounds_succ]; go_wp2)
    go_ret
    trace_state
    refine ⟨rfl, ?_⟩
    first
      | exact (Below.refl _ _).alloc (Nat.le_refl _) _
      | exact ((Below.refl _ _).alloc (Nat.le_refl _) _).alloc (by simp) _
theorem refDecimal_any {n : Nat} (h : To10 n) (w : World) : Calls Tryd.prog 54 #[.int .i64 n] w fun e w' => e = .returned (.string (dg n)) ∧ Below w.heap.size w w' := refDecimal_int n h.int w
end Go.Proofs.YtdpoeagmeiedcaaDoor
namespace Go.Proofs.YtdpoeagmeiedcaaDoor
open Go Go.RowKit

abbrev bByte : ByteArray := ⟨#[98, 121, 116, 101]⟩
abbrev bShort : ByteArray := ⟨#[115, 104, 111, 114, 116]⟩
/-- 'byte N: short'. -/
def fw (n : Nat) : ByteArray := (((bByte ++ ⟨#[32]⟩) ++ dg n) ++ ⟨#[58, 32]⟩) ++ bShort
theorem dg_size (n : Nat) : (dg n).size ≤ 2 := by unfold dg; split <;> simp [ByteArray.size]
theorem invokeErrno (v : Value) (w : World) : (Go.method 328 97 v "Error").run Tryd.prog w = .ok (133, v) w := by kernel_rfl
theorem invokeFault (v : Value) (w : World) : (Go.method 328 98 v "Error").run Tryd.prog w = .ok (134, v) w := by kernel_rfl
theorem nilErrno (c : Int) (w : World) : (binOp .eql 27 (.iface 97 (.int .i64 c)) .nilIface).run Tryd.prog w = .ok (.bool false) w := by kernel_rfl

attribute [-go_sem] run_string_add_if
set_option maxRecDepth 100000 in
set_option maxHeartbeats 4000000 in
theorem fault_error (w : World) (F n : Nat) (hF : Blk w F 102 #[.string bByte, .int .i64 n, .iface 97 (.int .i64 3)]) (hn : To10 n) :
    Calls Tryd.prog 134 #[.pointer (some ⟨F, 0, none⟩)] w fun e w' => e = .returned (.string (fw n)) ∧ ∃ k, w' = w.drewN k := by
  have c0 := hF.cell 0
  have c1 := hF.cell 1
  have c2 := hF.cell 2
  have hFl := hF.lt
  have mE := invokeErrno
  have nE := nilErrno
  have IT := Lib.hid fun W => itoa_any hn W
  have SH := Lib.hid fun W => short_word W
  have hd := dg_size n
  obtain ⟨s1, hs1, hz1, hr1⟩ := sum_named bByte ⟨#[32]⟩ (by decide)
  have hz1' : s1.size = 5 := by rw [hz1]; rfl
  obtain ⟨s2, hs2, hz2, hr2⟩ := sum_named s1 (dg n) (by omega)
  obtain ⟨s3, hs3, hz3, hr3⟩ := sum_named s2 ⟨#[58, 32]⟩ (by rw [hz2, hz1']; show 5 + (dg n).size + 2 ≤ _; omega)
  obtain ⟨s4, hs4, hz4, hr4⟩ := sum_named s3 bShort (by rw [hz3, hz2, hz1']; show 5 + (dg n).size + 2 + 5 ≤ _; omega)
  have HS : Hid (s4 = fw n) := Lib.hid (by rw [hs4, hs3, hs2, hs1]; rfl)
  clear hF hs1 hs2 hs3 hs4 hz1 hz2 hz3 hz4 hz1'
  obtain ⟨D, hD⟩ : ∃ D, D = dg n := ⟨_, rfl⟩
  rw [← hD] at IT hr2 hd
  clear hD
  go_enter Tryd.func134, Tryd.ntmps134
  go_wp2_with fail
  go_quiet ((first | (go_at_call 81; exact Calls.quiet_of_same (IT.out _)) | (go_at_call 133; exact Calls.quiet_of_same (SH.out _))))
  go_wp2_with fail
  go_ret
  exact ⟨by rw [HS.out]; rfl, nq, rfl⟩
end Go.Proofs.YtdpoeagmeiedcaaDoor
