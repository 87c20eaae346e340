/-
  Trees: what is there behind a put, a delete; simfs.Sync.
-/
import Derived.Test.YtcnmlgmlijgmhaaDoorSfZ
namespace Go.Proofs.YtcnmlgmlijgmhaaDoor
open Go Go.RowKit Go.Shelf Go.Maps

theorem getT_del (T : Tr) (p q : ByteArray) : getT (delT T p) q = if q = p then none else getT T q := by
  unfold getT delT
  rw [List.find?_filter]
  by_cases h : q = p
  · rw [if_pos h, show (List.find? (fun a => decide ((!decide (a.1 = p)) = true ∧ decide (a.1 = q) = true)) T) = none from List.find?_eq_none.2 fun x _ => by subst h; simp]
    rfl
  · rw [if_neg h]
    congr 1
    congr 1
    funext x
    by_cases hx : x.1 = q
    · subst hx; simp [h]
    · simp [hx]
theorem getT_ins (p : ByteArray) (f : FV) (q : ByteArray) : ∀ {T : Tr}, getT T p = none → getT (insT (p, f) T) q = if q = p then some f else getT T q
  | [], _ => by
    unfold insT getT
    by_cases h : q = p
    · subst h; simp
    · simp [h, Ne.symm h]
  | y :: T, h0 => by
    have hy : y.1 ≠ p := fun e => by unfold getT at h0; simp [e] at h0
    have h1 : getT T p = none := by
      unfold getT at h0 ⊢
      simpa [hy] using h0
    unfold insT
    split
    · unfold getT
      by_cases h : q = p
      · subst h; simp
      · simp [h, Ne.symm h]
    · have ih := getT_ins p f q h1
      unfold getT at ih ⊢
      rw [List.find?_cons, List.find?_cons]
      by_cases h : y.1 = q
      · rw [decide_eq_true h, if_neg (fun e => hy (h.trans e))]
      · rw [decide_eq_false h]; exact ih
theorem getT_put (T : Tr) (p : ByteArray) (f : FV) (q : ByteArray) : getT (putT T p f) q = if q = p then some f else getT T q := by
  unfold putT
  rw [getT_ins p f q (by rw [getT_del, if_pos rfl]), getT_del]
  by_cases h : q = p
  · rw [if_pos h, if_pos h]
  · rw [if_neg h, if_neg h, if_neg h]
theorem getT_mem {T : Tr} {p : ByteArray} {f : FV} (h : getT T p = some f) : (p, f) ∈ T := by
  unfold getT at h
  obtain ⟨y, hy, hyc⟩ := Option.map_eq_some_iff.1 h
  have h3 := List.find?_some hy
  have h4 := List.mem_of_find?_eq_some hy
  simp at h3
  obtain ⟨y1, y2⟩ := y
  simp only at h3 hyc
  subst h3; subst hyc
  exact h4
theorem getT_isSome {T : Tr} {p : ByteArray} : (getT T p).isSome = true ↔ p ∈ T.map (·.1) := by
  constructor
  · intro h
    obtain ⟨f, hf⟩ := Option.isSome_iff_exists.1 h
    exact List.mem_map.2 ⟨_, getT_mem hf, rfl⟩
  · intro h
    obtain ⟨x, hx, rfl⟩ := List.mem_map.1 h
    unfold getT
    cases hh : T.find? fun y => decide (y.1 = x.1) with
    | none => exact absurd (List.find?_eq_none.1 hh x hx) (by simp)
    | some y => rfl
theorem namesV_len (T : Tr) : (namesV T).length = T.length := by unfold namesV; rw [List.length_map, srt_len, List.length_map]
theorem cutN_append (S : Tr) (ps qs : List Ov) (ks : List Bool) : ∀ i, i ≤ ps.length → cutN S (ps ++ qs) ks i = cutN S ps ks i
  | 0, _ => rfl
  | i + 1, h => by
    have ih := cutN_append S ps qs ks i (by omega)
    unfold cutN
    rw [ih, List.getElem?_append_left (by omega)]

set_option maxRecDepth 100000 in
set_option maxHeartbeats 2000000 in
theorem settle_d {w : World} {B N : Nat} {L : Loc} {D : DK} (h : DiskIs w B L N D) (hB : B ≤ w.heap.size) :
    Calls Tryd.prog 57 #[.pointer (some ⟨L.F, 0, none⟩)] w fun e w' => ∃ L', e = .returned (.tuple #[]) ∧ DiskIs w' B L' N { D with S := D.T, ps := [] } ∧ Next w L w' L' := by
  obtain ⟨F, bf, bs, vp, vk⟩ := L
  obtain ⟨T, S, ps, q, now, ino, ops, off, armed, ks⟩ := D
  have fs := h.fs
  dsimp only at fs ⊢
  have c2 := fs.x.cell 2
  have f2 := fs.x.frozen 2
  have X1 := Lib.hid (show Blk (w.setCell ⟨F, 2, none⟩ (.slice none 0 0)) F 74 #[.map (some bf), .map (some bs), .slice none 0 0, .int .i64 q, .int .i64 now, .int .i64 ino, .int .i64 ops, .bool off, .int .i64 armed, vk] from by simpa using fs.x.set_ 2 (.slice none 0 0))
  have T1 := Lib.hid (fs.f.setCell (a := ⟨F, 2, none⟩) (Ne.symm (blk_tree_ne fs.x fs.f)) (.slice none 0 0))
  have K1 := Lib.hid (show (w.setCell ⟨F, 2, none⟩ (.slice none 0 0)).ownsRow B 4 1 vk ks.length (ks.flatMap cB) from h.ks.kept (grown_cellF w F 2 _) (Or.inr (own_blk_ne h.ks fs.x (by decide))))
  have HF := Lib.hid fs.x.lt
  have c0' := X1.out.cell 0
  have CL := Lib.hid (AnyW.maps_Clone_owns Tryd.cloneT 9 fileR bf N (mapD T) _ T1.out)
  have HS := Lib.hid fs.f.lt
  have H := Lib.hid h
  have HB0 := Lib.hid hB
  clear h fs hB
  go_enter Tryd.func57, Tryd.ntmps57
  go_wp2_with fail
  refine CL.out.mono ?_
  rintro e w2 ⟨rfl, h1, h2, hb⟩
  have X2 := Lib.hid (X1.out.below hb (by simpa using HF.out))
  have K2 := Lib.hid (own_keep K1.out hb)
  have HN := Lib.hid h1
  have HO := Lib.hid h2
  have HB := Lib.hid hb
  have x1 := X2.out.cell 1
  have y1 := X2.out.frozen 1
  clear h1 h2 hb c2 c0' f2 CL
  go_wp2
  have hT : TreeIs w2 w.heap.size N T := by have := HN.out; unfold TreeIs; simpa using this
  refine ⟨rfl, _, (by first | rfl | kernel_rfl), ⟨F, bf, w.heap.size, .slice none 0 0, vk⟩, rfl, ⟨⟨?_, ?_, ?_, ?_⟩, ⟨by simp, .inl ⟨rfl, rfl⟩⟩, ?_, ⟨H.out.lo.1, H.out.lo.2.1, HB0.out⟩, H.out.sT, H.out.sT, fun o ho => absurd ho (by simp)⟩, rfl, ?_, ?_⟩
  · simpa using X2.out.set_ 1 (.map (some w.heap.size))
  · exact World.ownsMap.setCell HO.out (a := ⟨F, 1, none⟩) (Ne.symm (blk_tree_ne X2.out (show TreeIs w2 bf N T from HO.out))) _
  · exact hT.setCell (a := ⟨F, 1, none⟩) (Ne.symm (blk_tree_ne X2.out hT)) _
  · have := HS.out; dsimp only; omega
  · exact K2.out.kept (grown_cellF w2 F 1 _) (Or.inr (own_blk_ne K2.out X2.out (by decide)))
  · intro k hk
    rcases hk with rfl | rfl | rfl | e
    · exact .inl (.inl rfl)
    · exact .inl (.inr (.inl rfl))
    · exact .inr (Nat.le_refl _)
    · simp [Value.ownBlock] at e
  · have g1 := grown_cellF w F 2 (.slice none 0 0)
    have g2 : (w.setCell ⟨F, 2, none⟩ (.slice none 0 0)).grownBy w2 (some F) := ⟨HB.out.os, HB.out.tape, HB.out.output, HB.out.size, fun k hk _ => HB.out.block k hk⟩
    exact Turns.of_grown ((g1.andThen g2 (row := some F) (fun j hj => .inr hj)).andThen (grown_cellF w2 F 1 _) (row := some F) (fun j hj => .inr hj)) (.inl rfl)
set_option maxRecDepth 100000 in
set_option maxHeartbeats 2000000 in
theorem sync_on {w : World} {B N : Nat} {L : Loc} {D : DK} (h : DiskIs w B L N D) (hoff : D.off = false) (hB : B ≤ w.heap.size) :
    Calls Tryd.prog 17 #[.pointer (some ⟨L.F, 0, none⟩)] w fun e w' => ∃ L', e = .returned (.int .i64 0) ∧ DiskIs w' B L' N { D with S := D.T, ps := [] } ∧ Next w L w' L' := by
  have c7 := h.fs.x.cell 7
  rw [hoff] at c7
  have ST := Lib.hid (settle_d h hB)
  clear h hoff hB
  go_enter Tryd.func17, Tryd.ntmps17
  go_wp2_with (go_at_call 57; refine ST.out.mono ?_; rintro e w' ⟨L', rfl, hd, hn⟩; have HD := Lib.hid hd; have HN := Lib.hid hn; clear hd hn)
  go_ret
  exact ⟨L', rfl, HD.out, HN.out⟩
end Go.Proofs.YtcnmlgmlijgmhaaDoor
