/-
  Chunks: the three texts, piece by piece.
-/
import Derived.Test.YtiefenfogjlnoaaBetween
import Derived.Test.YtiefenfogjlnoaaKept
import Derived.Deep.LoopGhost
import Derived.Outline
namespace Go.Proofs.Ytiefenfogjlnoaa
open Go.RowKit

theorem ed_ops {α : Type} [DecidableEq α] (xs : List α) : ∀ (ys : List α), ∀ e ∈ ed xs ys, e.1 = 1 ∨ e.1 = 2 ∨ e.1 = 3 := by
  induction xs with
  | nil =>
    intro ys
    induction ys with
    | nil => intro e he; simp [ed] at he
    | cons y ys ih =>
      intro e he
      rw [ed_nil_cons, List.mem_cons] at he
      rcases he with rfl | he
      · exact .inr (.inr rfl)
      · exact ih e he
  | cons x xs ih =>
    intro ys
    induction ys with
    | nil =>
      intro e he
      rw [ed_cons_nil, List.mem_cons] at he
      rcases he with rfl | he
      · exact .inr (.inl rfl)
      · exact ih [] e he
    | cons y ys ih2 =>
      intro e he
      rw [ed_cons] at he
      split at he
      · rw [List.mem_cons] at he
        rcases he with rfl | he
        · exact .inl rfl
        · exact ih ys e he
      · split at he
        · rw [List.mem_cons] at he
          rcases he with rfl | he
          · exact .inr (.inl rfl)
          · exact ih (y :: ys) e he
        · rw [List.mem_cons] at he
          rcases he with rfl | he
          · exact .inr (.inr rfl)
          · exact ih2 e he

theorem places_ed {α : Type} [DecidableEq α] (xs ys : List α) : Places (pls (ed xs ys) 0) xs ys := by
  have ho := ed_ops xs ys
  obtain ⟨h1, h2, _⟩ := ed_all xs ys
  refine ⟨by rw [pls_len _ ho, h1], fun i j hij => ?_, fun i j i' j' a b c => pls_mono _ ho _ _ _ _ _ a b c⟩
  obtain ⟨_, x, e1, e2⟩ := pls_at _ ho _ _ _ hij
  rw [h1] at e1
  rw [h2, Nat.sub_zero] at e2
  exact ⟨x, e1, e2⟩

/-- All pieces of three texts. -/
def allC (xs ys zs : List ByteArray) : List (Ck ByteArray) := chunks (pls (ed xs ys) 0) (pls (ed xs zs) 0) xs ys zs (xs.length + 1) 0 0 0

/-- The pieces come back in rows of the call's own. -/
def Chunked (w : World) (cs : List (Ck ByteArray)) (e : Ending) (w' : World) : Prop := ∃ v, e = .returned (.tuple #[v, .nilIface]) ∧ OutR w' w.heap.size v cs ∧ Below w.heap.size w w'

theorem OutR.form {w : World} {B : Nat} {v : Value} {cs : List (Ck ByteArray)} (h : OutR w B v cs) : ∃ A c, v = .slice A cs.length c := by
  obtain ⟨vals, h1, _⟩ := h
  rcases h1.2 with ⟨rfl, h0⟩ | ⟨g, cap, cur, rfl, _⟩
  · exact ⟨none, 0, by rw [h0]⟩
  · exact ⟨_, _, rfl⟩

theorem Cs.drewN {w0 w : World} {C : Nat} {v0 v1 v2 vp vq : Value} {xs ys zs : List ByteArray} {p q : List (Option Nat)} {i j k : Nat} {cs : List (Ck ByteArray)} (h : Cs w0 w C v0 v1 v2 vp vq xs ys zs p q i j k cs) (n : Nat) : Cs w0 (w.drewN n) C v0 v1 v2 vp vq xs ys zs p q i j k cs := h.below (below_drewN (Below.refl _ w) n)

theorem cs_start {w w1 : World} {v0 v1 v2 vp vq : Value} {xs ys zs : List ByteArray} {p q : List (Option Nat)} (hb : Below w.heap.size w w1) (h0 : Strs w v0 xs) (h1 : Strs w v1 ys) (h2 : Strs w v2 zs) (hp : Pl w1 vp p) (hq : Pl w1 vq q) :
    Cs w (w1.alloc (.cells #[v0, v1, v2, vp, vq, .int .i64 0, .int .i64 0, .int .i64 0, .slice none 0 0] 54)) w1.heap.size v0 v1 v2 vp vq xs ys zs p q 0 0 0 [] := by
  have hB := (Below.refl w1.heap.size w1).alloc (Nat.le_refl _) (.cells #[v0, v1, v2, vp, vq, .int .i64 0, .int .i64 0, .int .i64 0, .slice none 0 0] 54)
  have hh := heap_alloc_new w1 (.cells #[v0, v1, v2, vp, vq, .int .i64 0, .int .i64 0, .int .i64 0, .slice none 0 0] 54)
  have cc := fun k => cell_of_row _ w1.heap.size k _ 54 (0, 0) hh
  exact ⟨⟨.slice none 0 0, ⟨cc 0, cc 1, cc 2, cc 3, cc 4, cc 5, cc 6, cc 7, cc 8, fun k => by unfold World.frozen?; rw [hh]; rfl, ⟨_, hh⟩⟩, ⟨[], World.ownsRow_nil _ _ _ _, rfl⟩⟩, h0, h1, h2, hp.below hB, hq.below hB, hb.trans (hB.mono hb.size), hb.size⟩

set_option maxRecDepth 100000 in
set_option maxHeartbeats 4000000 in
theorem chunks_any (w : World) (v0 v1 v2 : Value) (xs ys zs : List ByteArray) (h0 : Strs w v0 xs) (h1 : Strs w v1 ys) (h2 : Strs w v2 zs) (hx : ∀ s ∈ xs, s.size ≤ maxLen) (hy : ∀ s ∈ ys, s.size ≤ maxLen) (hz : ∀ s ∈ zs, s.size ≤ maxLen)
    (lx : xs.length ≤ 256) (ly : ys.length ≤ 256) (lz : zs.length ≤ 256) : Calls Try.prog 11 #[v0, v1, v2] w (Chunked w (allC xs ys zs)) := by
  obtain ⟨A, n, c, rfl⟩ := h0.form
  obtain ⟨B, m, d, rfl⟩ := h1.form
  obtain ⟨D, r, f, rfl⟩ := h2.form
  obtain rfl := h0.len.1
  obtain rfl := h1.len.1
  obtain rfl := h2.len.1
  have L1 := Lib.hid (lines_good w _ _ xs ys h0 h1 hx hy lx ly)
  have L2 := Lib.hid fun w1 (hb : Below w.heap.size w w1) => lines_good w1 _ _ xs zs (h0.below hb) (h2.below hb) hx hz lx lz
  have le1 := ed_len xs ys
  have le2 := ed_len xs zs
  have HO1 := Lib.hid (ed_ops xs ys)
  have HO2 := Lib.hid (ed_ops xs zs)
  have PP := Lib.hid (places_ed xs ys)
  have QQ := Lib.hid (places_ed xs zs)
  have H0 := Lib.hid h0
  have H1 := Lib.hid h1
  have H2 := Lib.hid h2
  have HA : Hid (allC xs ys zs = chunks (pls (ed xs ys) 0) (pls (ed xs zs) 0) xs ys zs (xs.length + 1) 0 0 0) := Lib.hid rfl
  clear h0 h1 h2 hx hy hz
  generalize ed xs ys = e1 at *
  generalize ed xs zs = e2 at *
  go_enter Try.func11, Try.ntmps11
  go_wp2_with fail
  refine L1.out.mono ?_
  rintro e w1 ⟨vE, rfl, o1, b1⟩
  clear L1
  go_wp2_with fail
  refine (L2.out w1 b1).mono ?_
  rintro e w2 ⟨vF, rfl, o2, d2⟩
  have b2 := b1.trans (d2.mono b1.size)
  have o1' := own2_keep o1 d2
  clear L2 o1 d2 b1
  have P1 := Lib.hid (places_any w2 _ vE e1 o1' (by omega) HO1.out)
  clear o1'
  go_wp2_with fail
  refine P1.out.mono ?_
  rintro e w3 ⟨vp, rfl, o3, d3⟩
  obtain ⟨Ap, np, cp, rfl⟩ := own_form o3
  have b3 := b2.trans (d3.mono b2.size)
  have P2 := Lib.hid (places_any w3 _ vF e2 (own2_keep o2 d3) (by omega) HO2.out)
  clear P1 o2 d3 b2
  go_wp2_with fail
  refine P2.out.mono ?_
  rintro e w4 ⟨vq, rfl, o4, d4⟩
  obtain ⟨Aq, nq, cq, rfl⟩ := own_form o4
  have b4 := b3.trans (d4.mono b3.size)
  have S0 := Lib.hid (cs_start b4 H0.out H1.out H2.out (own_le (own_keep o3 d4) (Nat.zero_le _) : Pl w4 (.slice Ap np cp) (pls e1 0)) (own_le o4 (Nat.zero_le _) : Pl w4 (.slice Aq nq cq) (pls e2 0)))
  clear P2 o3 d4 b3 o4 b4
  go_wp2_with fail
  generalize hC : w4.heap.size = C at *
  generalize (w4.alloc (.cells #[.slice A xs.length c, .slice B ys.length d, .slice D zs.length f, .slice Ap np cp, .slice Aq nq cq, .int .i64 0, .int .i64 0, .int .i64 0, .slice none 0 0] 54)) = W at *
  clear hC
  generalize Value.slice Ap np cp = vp at *
  generalize Value.slice Aq nq cq = vq at *
  generalize pls e1 0 = p at *
  generalize pls e2 0 = q at *
  have lp := Lib.hid PP.out.len
  have lq := Lib.hid QQ.out.len
  go_loopg [38] (xs.length + 1) (fun g _ wr => ∃ (i j k : Nat) (cs : List (Ck ByteArray)), Cs w wr C (.slice A xs.length c) (.slice B ys.length d) (.slice D zs.length f) vp vq xs ys zs p q i j k cs ∧ i ≤ xs.length ∧ Beh p ys i j ∧ Beh q zs i k ∧ Hid (xs.length < g + i ∨ (i = xs.length ∧ j = ys.length ∧ k = zs.length)) ∧ cs.length + 2 * g ≤ 2 * (xs.length + 1) ∧ Hid (allC xs ys zs = cs ++ chunks p q xs ys zs g i j k))
  case atStart => exact ⟨0, 0, 0, [], S0.out, Nat.zero_le _, Beh.zero _ _, Beh.zero _ _, Lib.hid (.inl (by omega)), by simp, Lib.hid (by rw [HA.out]; rfl)⟩
  case round =>
    clear S0 HA
    obtain ⟨i, j, k, cs, hw, hi, hp, hq, hf, hcs, hA⟩ := hrel
    obtain ⟨v8, hc, ho⟩ := hw.c
    have E := Lib.hid (ended_any wr C _ _ _ _ _ _ i j k _ _ _ _ _ v8 hc)
    by_cases he : i = xs.length ∧ j = ys.length ∧ k = zs.length
    · rw [decide_eq_true he] at E
      have HE := Lib.hid (chunks_end p q xs ys zs gk i j k he)
      have HW := Lib.hid hw
      obtain ⟨A8, c8, rfl⟩ := ho.form
      have HO := Lib.hid ho
      have t8 := hc.c8
      clear hw hc ho hp hq hf he
      go_wp2_with fail
      refine E.out.mono ?_
      rintro e w5 ⟨nq, rfl, rfl⟩
      go_wp2_with fail
      go_ret2
      exact ⟨_, rfl, by rw [hA.out, HE.out, List.append_nil]; exact HO.out.below (below_drewN (Below.refl _ wr) nq), below_drewN HW.out.g nq⟩
    · rw [decide_eq_false he] at E
      obtain ⟨n, j1, k1, m, s, hn, hj1, hk1, hm⟩ := step_any p q xs ys zs lp.out lq.out i j k hi
      have hg1 : 1 ≤ gk := by
        rcases hf.out with h | h
        · omega
        · exact absurd h he
      obtain ⟨g, rfl⟩ : ∃ g, gk = g + 1 := ⟨gk - 1, by omega⟩
      have HS := Lib.hid (chunks_step p q xs ys zs g i j k n j1 k1 m hn hj1 hk1 hm he)
      obtain ⟨p1, p2, hp'⟩ := hp.step PP.out s
      obtain ⟨q1, q2, hq'⟩ := hq.step QQ.out s.turn
      have hnn : n ≤ xs.length := s.nb
      have hf' : Hid (xs.length < g + (n + m) ∨ (n + m = xs.length ∧ j1 + m = ys.length ∧ k1 + m = zs.length)) := Lib.hid (by
        by_cases hlt : n < xs.length
        · have := s.pos hlt
          have := s.le
          rcases hf.out with h | h
          · left; omega
          · exact absurd h he
        · obtain ⟨a1, a2, a3⟩ := s.fin (by omega)
          right; omega)
      have NK := Lib.hid fun nq => nextKept_any (wr.drewN nq) C xs.length c i A _ _ vp vq _ _ v8 p q (hc.below (below_drewN (Below.refl _ wr) nq)) (hw.drewN nq).p1 (hw.drewN nq).p2 lp.out lq.out (by omega) hi
      rw [← hn] at NK
      have BT := Lib.hid fun nq => between_any w (wr.drewN nq) C xs.length c ys.length d zs.length f i j k n j1 k1 A B D vp vq xs ys zs p q cs (hw.drewN nq) lp.out lq.out lx ly lz s.le p1 q1 hnn (by omega) (by omega) s.yes (fun h => ⟨(s.fin h).1, (s.fin h).2.1⟩) (by omega)
      have hfl : (firstC xs ys zs i j k n j1 k1).length ≤ 1 := by unfold firstC; split <;> simp
      have hkl : (keptC xs ys zs n j1 k1 m).length ≤ 1 := by unfold keptC; split <;> simp
      have KT := Lib.hid fun w6 h => kept_any w w6 C xs.length c ys.length d zs.length f n j1 k1 A B D vp vq xs ys zs p q (cs ++ firstC xs ys zs i j k n j1 k1) m h lp.out lq.out lx ly lz hnn (by omega) (by omega) hm s.nm p2 q2 (by rw [List.length_append]; omega)
      have hnm := s.nm
      have hA' : Hid (allC xs ys zs = ((cs ++ firstC xs ys zs i j k n j1 k1) ++ keptC xs ys zs n j1 k1 m) ++ chunks p q xs ys zs g (n + m) (j1 + m) (k1 + m)) := Lib.hid (by rw [hA.out, HS.out, List.append_assoc, List.append_assoc])
      have hl' : ((cs ++ firstC xs ys zs i j k n j1 k1) ++ keptC xs ys zs n j1 k1 m).length + 2 * g ≤ 2 * (xs.length + 1) := by rw [List.length_append, List.length_append]; omega
      have HP' := Lib.hid hp'
      have HQ' := Lib.hid hq'
      clear hw hc ho hp hq hf he hA HS s hn hj1 hk1 hm hfl hkl hp' hq' p1 p2 q1 q2 hcs hi
      generalize cs ++ firstC xs ys zs i j k n j1 k1 = cs1 at *
      generalize keptC xs ys zs n j1 k1 m = cs2 at *
      go_wp2_with fail
      refine E.out.mono ?_
      rintro e w5 ⟨nq, rfl, rfl⟩
      go_wp2_with fail
      refine (NK.out nq).mono ?_
      rintro e w6 ⟨rfl, rfl⟩
      go_wp2_with fail
      refine (BT.out nq).mono ?_
      rintro e w6 ⟨rfl, h6⟩
      have K6 := Lib.hid (KT.out w6 h6)
      clear h6 KT
      go_wp2_with fail
      refine K6.out.mono ?_
      rintro e w7 ⟨rfl, h7⟩
      go_wp2_with fail
      go_roundg g
      case measure => omega
      case rel => exact ⟨n + m, j1 + m, k1 + m, cs1 ++ cs2, h7, hnm, HP'.out, HQ'.out, hf', hl', hA'⟩

end Go.Proofs.Ytiefenfogjlnoaa
