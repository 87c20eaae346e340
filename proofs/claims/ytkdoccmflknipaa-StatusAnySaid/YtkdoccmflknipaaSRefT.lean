/-
  rectoref14.Conflicts, rectoref14.Tracked.
-/
import Derived.Test.YtkdoccmflknipaaSRefQ
import Derived.Test.YtkdoccmflknipaaSRefB
import Derived.Test.YtkdoccmflknipaaSTrack
import Derived.Test.YtkdoccmflknipaaSIdx
namespace Go.Proofs.Ytkdoccmflknipaa
open Go.RowKit

theorem nrm_congr {a b : List ByteArray} (h : ∀ s, s ∈ a ↔ s ∈ b) : nrm a = nrm b := nrm_of (nrm_rise b) fun s => by rw [nrm_mem]; exact h s
theorem stage_mem {l : List En} {n : Int} {s : ByteArray} : s ∈ (stageE l n).map (·.1) ↔ ∃ e ∈ l, e.2.1 = n ∧ e.1 = s := by
  unfold stageE
  simp only [List.mem_map, List.mem_filter, decide_eq_true_eq]
  constructor
  · rintro ⟨f, ⟨e, ⟨he, hn⟩, rfl⟩, rfl⟩
    exact ⟨e, he, hn, rfl⟩
  · rintro ⟨e, he, hn, rfl⟩
    exact ⟨_, ⟨e, ⟨he, hn⟩, rfl⟩, rfl⟩
theorem confE_mem {l : List En} {s : ByteArray} : s ∈ confE l ↔ ∃ e ∈ l, e.2.1 ≠ 0 ∧ e.1 = s := by
  unfold confE
  simp only [List.mem_map, List.mem_filter, decide_eq_true_eq]
  constructor
  · rintro ⟨e, ⟨he, hn⟩, rfl⟩
    exact ⟨e, he, hn, rfl⟩
  · rintro ⟨e, he, hn, rfl⟩
    exact ⟨e, ⟨he, hn⟩, rfl⟩
/-- Each entry has a stage that may be. -/
def StagesOk (l : List En) : Prop := ∀ e ∈ l, e.2.1 = 0 ∨ e.2.1 = 1 ∨ e.2.1 = 2 ∨ e.2.1 = 3
theorem stages_ok {l : List En} (h : ∀ i, i < l.length → okAt l i) : StagesOk l := fun e he => by
  obtain ⟨i, hi, rfl⟩ := List.getElem_of_mem he
  obtain ⟨h1, h2, _⟩ := h i hi _ (List.getElem?_eq_getElem hi)
  omega
theorem conf_stages {l : List En} (h : StagesOk l) (v1 v2 v3 : Value) : nrm (pathsR [(v1, stageE l 1), (v2, stageE l 2), (v3, stageE l 3)]) = nrm (confE l) := nrm_congr fun s => by
  simp only [pathsR, List.flatMap_cons, List.flatMap_nil, List.append_nil, List.mem_append, stage_mem, confE_mem]
  constructor
  · rintro (⟨e, he, hn, hs⟩ | ⟨e, he, hn, hs⟩ | ⟨e, he, hn, hs⟩) <;> exact ⟨e, he, by omega, hs⟩
  · rintro ⟨e, he, hn, hs⟩
    rcases h e he with h | h | h | h
    · exact absurd h hn
    · exact .inl ⟨e, he, h, hs⟩
    · exact .inr (.inl ⟨e, he, h, hs⟩)
    · exact .inr (.inr ⟨e, he, h, hs⟩)
theorem track_stages {l : List En} (h : StagesOk l) (f : List Fl) (v v0 v1 v2 v3 : Value) : nrm (pathsR [(v, f), (v0, stageE l 0), (v1, stageE l 1), (v2, stageE l 2), (v3, stageE l 3)]) = trackP f l := nrm_congr fun s => by
  simp only [pathsR, List.flatMap_cons, List.flatMap_nil, List.append_nil, List.mem_append, stage_mem, nrm_mem]
  constructor
  · rintro (hs | ⟨e, he, hn, hs⟩ | ⟨e, he, hn, hs⟩ | ⟨e, he, hn, hs⟩ | ⟨e, he, hn, hs⟩)
    · exact .inl hs
    all_goals exact .inr (List.mem_map.2 ⟨e, he, hs⟩)
  · rintro (hs | hs)
    · exact .inl hs
    · obtain ⟨e, he, hs⟩ := List.mem_map.1 hs
      rcases h e he with h | h | h | h
      · exact .inr (.inl ⟨e, he, h, hs⟩)
      · exact .inr (.inr (.inl ⟨e, he, h, hs⟩))
      · exact .inr (.inr (.inr (.inl ⟨e, he, h, hs⟩)))
      · exact .inr (.inr (.inr (.inr ⟨e, he, h, hs⟩)))

/-- Trees in a block. -/
theorem trees_block {W : World} {g : Nat} {cs : Array Value} {t : TypeId} (h : W.heap[g]? = some (.cells cs t (0, 0))) {rs : List (Value × List Fl)} (hc : cs.toList = rs.map (·.1)) (hr : ∀ r ∈ rs, Reads 3 cF W r.1 r.2) : Trees W ⟨g, 0, none⟩ rs := fun i r hi => by
  refine ⟨World.news_of_block h i r.1 ?_, hr r (List.mem_of_getElem? hi)⟩
  rw [hc, List.getElem?_map, hi]
  rfl
theorem own_reads {w w' : World} {ty : TypeId} {v : Value} {l : List Fl} (o : w.ownsRow w'.heap.size ty 3 v l.length (l.flatMap cF)) : Reads 3 cF w v l := Reads.of_own cF_len o

set_option maxRecDepth 100000 in
set_option maxHeartbeats 2000000 in
theorem refConf_any (w : World) (v : Value) (l : List En) (h : Reads 6 cE w v l) (hl : l.length ≤ 10000) (hk : StagesOk l) :
    Calls Try.prog 34 #[v] w (TextsTo (nrm (confE l)) w) := by
  have ST := Lib.hid fun W (hW : Below w.heap.size w W) n => refStage_any W v l n (h.below hW) (by omega)
  have L1 := Nat.le_trans (stageE_len l 1) hl
  have L2 := Nat.le_trans (stageE_len l 2) hl
  have L3 := Nat.le_trans (stageE_len l 3) hl
  have HE := Lib.hid (conf_stages hk)
  obtain ⟨s1, h1⟩ : ∃ s, s = stageE l 1 := ⟨_, rfl⟩
  obtain ⟨s2, h2⟩ : ∃ s, s = stageE l 2 := ⟨_, rfl⟩
  obtain ⟨s3, h3⟩ : ∃ s, s = stageE l 3 := ⟨_, rfl⟩
  rw [← h1, ← h2, ← h3] at HE
  rw [← h1] at L1
  rw [← h2] at L2
  rw [← h3] at L3
  have S1 := Lib.hid fun W (hW : Below w.heap.size w W) => ST.out W hW 1
  have S2 := Lib.hid fun W (hW : Below w.heap.size w W) => ST.out W hW 2
  have S3 := Lib.hid fun W (hW : Below w.heap.size w W) => ST.out W hW 3
  rw [← h1] at S1
  rw [← h2] at S2
  rw [← h3] at S3
  clear h ST hk h1 h2 h3
  go_enter Try.func34, Try.ntmps34
  go_wp2_with fail
  refine (S1.out w (Below.refl _ _)).mono ?_
  rintro e w1 ⟨v1, rfl, o1, b1⟩
  have R1 := Lib.hid (own_reads o1)
  obtain ⟨A1, c1, rfl⟩ := own_form o1
  clear o1
  go_wp2_with fail
  refine (S2.out w1 b1).mono ?_
  rintro e w2 ⟨v2, rfl, o2, b2⟩
  have R12 := Lib.hid (R1.out.below b2)
  have R2 := Lib.hid (own_reads o2)
  have B2 := b1.trans (b2.mono b1.size)
  obtain ⟨A2, c2, rfl⟩ := own_form o2
  clear o2 b2 R1
  go_wp2_with fail
  refine (S3.out w2 B2).mono ?_
  rintro e w3 ⟨v3, rfl, o3, b3⟩
  have R13 := Lib.hid (R12.out.below b3)
  have R23 := Lib.hid (R2.out.below b3)
  have R3 := Lib.hid (own_reads o3)
  have B3 := B2.trans (b3.mono B2.size)
  obtain ⟨A3, c3, rfl⟩ := own_form o3
  clear o3 b3 R12 R2 b1 B2 S1 S2 S3
  have TT := Lib.hid (refPaths_any (w3.alloc (.cells #[.slice A1 s1.length c1, .slice A2 s2.length c2, .slice A3 s3.length c3] 38)) ⟨w3.heap.size, 0, none⟩ 3 [(.slice A1 s1.length c1, s1), (.slice A2 s2.length c2, s2), (.slice A3 s3.length c3, s3)]
    (trees_block (heap_alloc_new w3 _) rfl (by
      intro r hr
      simp only [List.mem_cons, List.not_mem_nil, or_false] at hr
      rcases hr with rfl | rfl | rfl
      · exact R13.out.alloc _
      · exact R23.out.alloc _
      · exact R3.out.alloc _)) (by simp) (by simp [pathsR]; omega))
  rw [HE.out] at TT
  have s3' := B3.size
  have B4 := B3.alloc s3' (.cells #[.slice A1 s1.length c1, .slice A2 s2.length c2, .slice A3 s3.length c3] 38)
  have HB4 := Lib.hid B4
  clear R13 R23 R3 B4
  go_wp2_with fail
  refine TT.out.mono ?_
  rintro e w5 ⟨v5, rfl, o5, b5⟩
  have o6 := Lib.hid (own_base o5 HB4.out.size)
  have b6 := Lib.hid (HB4.out.trans (b5.mono HB4.out.size))
  clear o5 b5 TT
  go_wp2
  go_ret
  exact ⟨_, rfl, o6.out, b6.out⟩

set_option maxRecDepth 100000 in
set_option maxHeartbeats 2000000 in
theorem refTrack_any (w : World) (v u : Value) (f : List Fl) (l : List En) (g : Reads 3 cF w v f) (h : Reads 6 cE w u l) (hf : f.length ≤ 10000) (hl : l.length ≤ 10000) (hk : StagesOk l) :
    Calls Try.prog 18 #[v, u] w (TextsTo (trackP f l) w) := by
  have ST := Lib.hid fun W (hW : Below w.heap.size w W) n => refStage_any W u l n (h.below hW) (by omega)
  have L0 := Nat.le_trans (stageE_len l 0) hl
  have L1 := Nat.le_trans (stageE_len l 1) hl
  have L2 := Nat.le_trans (stageE_len l 2) hl
  have L3 := Nat.le_trans (stageE_len l 3) hl
  have HE := Lib.hid (track_stages hk f)
  obtain ⟨s0, h0⟩ : ∃ s, s = stageE l 0 := ⟨_, rfl⟩
  obtain ⟨s1, h1⟩ : ∃ s, s = stageE l 1 := ⟨_, rfl⟩
  obtain ⟨s2, h2⟩ : ∃ s, s = stageE l 2 := ⟨_, rfl⟩
  obtain ⟨s3, h3⟩ : ∃ s, s = stageE l 3 := ⟨_, rfl⟩
  rw [← h0, ← h1, ← h2, ← h3] at HE
  rw [← h0] at L0
  rw [← h1] at L1
  rw [← h2] at L2
  rw [← h3] at L3
  have S0 := Lib.hid fun W (hW : Below w.heap.size w W) => ST.out W hW 0
  have S1 := Lib.hid fun W (hW : Below w.heap.size w W) => ST.out W hW 1
  have S2 := Lib.hid fun W (hW : Below w.heap.size w W) => ST.out W hW 2
  have S3 := Lib.hid fun W (hW : Below w.heap.size w W) => ST.out W hW 3
  rw [← h0] at S0
  rw [← h1] at S1
  rw [← h2] at S2
  rw [← h3] at S3
  obtain ⟨A, c, rfl⟩ := g.form
  have RR := Lib.hid g
  clear h ST hk h0 h1 h2 h3 g
  go_enter Try.func18, Try.ntmps18
  go_wp2_with fail
  refine (S0.out w (Below.refl _ _)).mono ?_
  rintro e w0 ⟨v0, rfl, o0, b0⟩
  have R0 := Lib.hid (own_reads o0)
  obtain ⟨A0, c0, rfl⟩ := own_form o0
  clear o0
  go_wp2_with fail
  refine (S1.out w0 b0).mono ?_
  rintro e w1 ⟨v1, rfl, o1, b1⟩
  have R01 := Lib.hid (R0.out.below b1)
  have R1 := Lib.hid (own_reads o1)
  have B1 := b0.trans (b1.mono b0.size)
  obtain ⟨A1, c1, rfl⟩ := own_form o1
  clear o1 b1 R0 b0
  go_wp2_with fail
  refine (S2.out w1 B1).mono ?_
  rintro e w2 ⟨v2, rfl, o2, b2⟩
  have R02 := Lib.hid (R01.out.below b2)
  have R12 := Lib.hid (R1.out.below b2)
  have R2 := Lib.hid (own_reads o2)
  have B2 := B1.trans (b2.mono B1.size)
  obtain ⟨A2, c2, rfl⟩ := own_form o2
  clear o2 b2 R1 R01 B1
  go_wp2_with fail
  refine (S3.out w2 B2).mono ?_
  rintro e w3 ⟨v3, rfl, o3, b3⟩
  have R03 := Lib.hid (R02.out.below b3)
  have R13 := Lib.hid (R12.out.below b3)
  have R23 := Lib.hid (R2.out.below b3)
  have R3 := Lib.hid (own_reads o3)
  have B3 := B2.trans (b3.mono B2.size)
  have RF := Lib.hid (RR.out.below B3)
  obtain ⟨A3, c3, rfl⟩ := own_form o3
  clear o3 b3 R12 R2 R02 B2 S0 S1 S2 S3
  have TT := Lib.hid (refPaths_any (w3.alloc (.cells #[.slice A f.length c, .slice A0 s0.length c0, .slice A1 s1.length c1, .slice A2 s2.length c2, .slice A3 s3.length c3] 38)) ⟨w3.heap.size, 0, none⟩ 5 [(.slice A f.length c, f), (.slice A0 s0.length c0, s0), (.slice A1 s1.length c1, s1), (.slice A2 s2.length c2, s2), (.slice A3 s3.length c3, s3)]
    (trees_block (heap_alloc_new w3 _) rfl (by
      intro r hr
      simp only [List.mem_cons, List.not_mem_nil, or_false] at hr
      rcases hr with rfl | rfl | rfl | rfl | rfl
      · exact RF.out.alloc _
      · exact R03.out.alloc _
      · exact R13.out.alloc _
      · exact R23.out.alloc _
      · exact R3.out.alloc _)) (by simp) (by simp [pathsR]; omega))
  rw [HE.out] at TT
  have s3' := B3.size
  have B4 := B3.alloc s3' (.cells #[.slice A f.length c, .slice A0 s0.length c0, .slice A1 s1.length c1, .slice A2 s2.length c2, .slice A3 s3.length c3] 38)
  have HB4 := Lib.hid B4
  clear RF R03 R13 R23 R3 B4
  go_wp2_with fail
  refine TT.out.mono ?_
  rintro e w5 ⟨v5, rfl, o5, b5⟩
  have o6 := Lib.hid (own_base o5 HB4.out.size)
  have b6 := Lib.hid (HB4.out.trans (b5.mono HB4.out.size))
  clear o5 b5 TT
  go_wp2
  go_ret
  exact ⟨_, rfl, o6.out, b6.out⟩
end Go.Proofs.Ytkdoccmflknipaa
