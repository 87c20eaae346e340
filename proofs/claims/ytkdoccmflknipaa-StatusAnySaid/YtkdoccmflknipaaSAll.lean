/-
  status.allPaths: the paths of head, index and folder.
-/
import Derived.Test.YtkdoccmflknipaaSTrack
namespace Go.Proofs.Ytkdoccmflknipaa
open Go.RowKit

theorem own_base {w : World} {B B' : Nat} {ty : TypeId} {k n : Nat} {v : Value} {xs : List Value} (h : w.ownsRow B ty k v n xs) (hb : B' ≤ B) : w.ownsRow B' ty k v n xs := ⟨h.1, by
  rcases h.2 with h | ⟨g, cap, cur, hv, hg, r⟩
  · exact .inl h
  · exact .inr ⟨g, cap, cur, hv, by omega, r⟩⟩

set_option maxHeartbeats 2000000 in
theorem all_any (w : World) (v u z : Value) (l : List Fl) (ix : List En) (wk : List Fl) (h : Reads 3 cF w v l) (g : Reads 6 cE w u ix) (hz : Reads 3 cF w z wk) (hl : l.length ≤ 10000) (hx : ix.length ≤ 10000) (hw : wk.length ≤ 10000) :
    Calls Try.prog 29 #[v, u, z] w (TextsTo (allP l ix wk) w) := by
  have T := Lib.hid (tracked_any w v u l ix h g hl hx)
  obtain ⟨A1, c1, rfl⟩ := hz.form
  have HZ := Lib.hid hz
  have P := Lib.hid fun W (hW : Below w.heap.size w W) => paths_one W _ wk (hz.below hW) (by omega)
  have HA := Lib.hid (show allP l ix wk = nrm (trackP l ix ++ nrm (wk.map fun x => x.1)) from rfl)
  have L1 : (trackP l ix).length ≤ 20000 := by
    refine Nat.le_trans (nrm_len _) ?_
    rw [List.length_append, List.length_map]
    have := nrm_len (l.map fun x => x.1)
    rw [List.length_map] at this
    omega
  have L2 : (nrm (wk.map fun x => x.1)).length ≤ 10000 := Nat.le_trans (nrm_len _) (by rw [List.length_map]; exact hw)
  obtain ⟨ps, hps⟩ : ∃ ps, ps = trackP l ix := ⟨_, rfl⟩
  obtain ⟨qs, hqs⟩ : ∃ qs, qs = nrm (wk.map fun x => x.1) := ⟨_, rfl⟩
  rw [← hps] at L1 HA T
  rw [← hqs] at L2 HA P
  clear h g hz hps hqs
  go_enter Try.func29, Try.ntmps29
  go_wp2_with fail
  refine T.out.mono ?_
  rintro e w1 ⟨v1, rfl, ho1, hb1⟩
  obtain ⟨A0, c0, rfl⟩ := own_form ho1
  have HO1 := Lib.hid ho1
  clear ho1
  go_wp2_with fail
  refine (P.out w1 hb1).mono ?_
  rintro e w2 ⟨v2, rfl, ho2, hb2⟩
  have b1s := hb1.size
  have hb12 : Below w1.heap.size w1 w2 := ((Below.refl _ _).alloc (Nat.le_refl _) _).trans (hb2.mono (by simp))
  have O1 := own_keep HO1.out hb12
  have B2 : Below w.heap.size w w2 := hb1.trans (hb12.mono b1s)
  obtain ⟨A2, c2, rfl⟩ := own_form ho2
  have S2 : Strs w2 (.slice A2 qs.length c2) qs := Strs.of_own ho2 rfl
  have HS2 := Lib.hid S2
  have b2s := B2.size
  clear ho2 hb2 S2
  go_wp2_with (at_builtin; refine wpList_append_strs _ rfl _ _ rfl w.heap.size ps.length _ ps qs rfl O1 _ _ _ rfl HS2.out (by omega) b2s ?_; intro A' m' c' w3 ho3 hb3 hg3)
  have B3 : Below w.heap.size w w3 := B2.trans hb3
  have hown3 : w3.ownsRow w.heap.size 9 1 (.slice A' m' c') (ps ++ qs).length ((ps ++ qs).map Value.string) := by rw [List.length_append]; exact ho3
  clear ho3 O1 hg3
  go_wp2_with fail
  refine (sort_own w3 _ _ _ hown3 (by rw [List.length_append]; omega)).mono ?_
  rintro e w4 ⟨rfl, ho4, hb4⟩
  go_wp2_with fail
  refine (compact_own w4 _ _ _ _ ho4 (by rw [List.length_append]; omega)).mono ?_
  rintro e w5 ⟨u, rfl, ho5, hb5⟩
  go_wp2
  go_ret
  exact ⟨_, rfl, by rw [HA.out]; exact ho5, (B3.trans hb4).trans hb5⟩
end Go.Proofs.Ytkdoccmflknipaa
