/-
  rectolaw14.Of, rectoref14.Stage: a tree as the document's; the files of a stage.
  rectolaw1.Texts: whether rows of texts are the same.
  rectoref14.Get: the first file at a path, looked for in order.
  rectoref14.Like, rectoref14.What: whether a path is alike in two trees, and what became of it.
  rectoref14.Stage: the files of a stage.
  How long plan's folder can be.
  rectolaw20.PlanKeeps: what was changed in the folder, and what is not known to the index, is there behind whatever is applied.
-/
import Derived.Test.YtdmmjfmjohliiaaGreatDoorG1
import Derived.Deep.RegionHeld3
import Derived.Test.YtdmmjfmjohliiaaGreatDoorG2
import Derived.Test.YtdmmjfmjohliiaaGreatDoorG5
import Derived.Test.YtdmmjfmjohliiaaGreatDoorH2
namespace Go.Proofs.YtdmmjfmjohliiaaGreatDoor
open Go.RowKit

theorem refFileInfo : (Tryz.prog.info? 73).map (fun i => (i.zero, i.size, i.bytes)) = some (some (.agg #[.string ⟨#[]⟩, .int .i64 0, .string ⟨#[]⟩]), 3, 40) := by kernel_rfl
def FilCells (ad : Addr) (i : Nat) (p : ByteArray) (m : Int) (d : ByteArray) (W : World) : Prop :=
  W.cell? (ad.add (i * 3)) = some (.string p) ∧ W.cell? ⟨(ad.add (i * 3)).block, (ad.add (i * 3)).off + 1, none⟩ = some (.int .i64 m) ∧ W.cell? ⟨(ad.add (i * 3)).block, (ad.add (i * 3)).off + 2, none⟩ = some (.string d)

set_option maxHeartbeats 2000000 in
theorem lawOf_any (w : World) (v : Value) (l : List Fl) (h : Reads 3 cF w v l) (hl : l.length ≤ 100000) :
    Calls Tryz.prog 9 #[v] w (OwnTo 73 3 cF l w) := by
  obtain ⟨A, c, rfl⟩ := h.form
  have hn := h.len
  have hnm : l.length ≤ 9223372036854775807 := by omega
  have HO := Lib.hid h
  obtain ⟨i0, hi, hz0, hz1, hz2⟩ := info_parts refFileInfo
  clear h hn
  go_enter Tryz.func9, Tryz.ntmps9
  go_wp2
  go_loopw [3, 4] (fun s3 s4 wr => ∃ i : Nat, i ≤ l.length ∧ s4 = .int .i64 i ∧ Hid (wr.ownsRow w.heap.size 73 3 s3 i ((l.take i).flatMap cF)) ∧ Below w.heap.size w wr) (fun _ s4 _ => l.length - (intOf s4).toNat)
  case atStart => exact ⟨0, Nat.zero_le _, rfl, Lib.hid (World.ownsRow_nil _ _ _ _), Below.refl _ _⟩
  case round =>
    obtain ⟨i, hil, rfl, hown, hb⟩ := hrel
    by_cases hlt : i < l.length
    · obtain ⟨f, hf⟩ : ∃ f, l[i]? = some f := ⟨_, List.getElem?_eq_getElem hlt⟩
      obtain ⟨ad, rfl, c0, c1, c2⟩ := Fils.at_ HO.out hf
      obtain ⟨p, m, d⟩ := f
      have HF := Lib.hid hf
      have ZZ := Lib.hid fun W (hW : Below w.heap.size w W) => (⟨(hW.cell (World.block_lt_of_cell? _ _ c0)).trans c0, (hW.cell (World.block_lt_of_cell? _ _ c1)).trans c1, (hW.cell (World.block_lt_of_cell? _ _ c2)).trans c2⟩ : FilCells ad i p m d W)
      unfold FilCells at ZZ
      have z0 := ZZ.out _ hb.drew
      have i0' : (0 : Int) ≤ (i : Int) := Int.natCast_nonneg _
      have hi1 : (i : Int) < (l.length : Int) := by omega
      have hsz := hb.size
      clear hf c0 c1 c2
      go_wp2
      go_region_held3 (fun w' => w'.cell? (ad.add (i * 3)) = some (.string p) ∧ w'.cell? ⟨(ad.add (i * 3)).block, (ad.add (i * 3)).off + 1, none⟩ = some (.int .i64 m) ∧ w'.cell? ⟨(ad.add (i * 3)).block, (ad.add (i * 3)).off + 2, none⟩ = some (.string d))
        (first | exact z0 | exact ZZ.out _ (hb.drew.alloc hsz _) | exact z5)
        ((refine step_append_lies _ (by rfl) _ _ 30 (by rfl) w.heap.size 73 i0 (.agg #[.string ⟨#[]⟩, .int .i64 0, .string ⟨#[]⟩]) 3 40 Tryz.underlying30 hi hz0 hz1 hz2 rfl (by omega) _ i _ (by rfl) (hown.out.drew.alloc _)
            ⟨wr.heap.size, 0, none⟩ 1 1 [.string p, .int .i64 m, .string d] (by rfl) (by rfl) (World.news_of_block (cs := #[.string p, .int .i64 m, .string d]) (t := 73) (fr := (0, 0)) (heap_alloc_new wr.drew _)) (by simp [Value.oneCell'])
            (by omega) (by unfold maxLen; omega) (by omega) (by simp; omega) (wr.heap.size + 1) (by simp) ?_; intro gg cap w5 hown5 hg5 hat hlt5; have hb5 := (hb.drew.alloc hsz (.cells #[.string p, .int .i64 m, .string d] 73)).grown hg5 (by simp; omega) (fun k hk => (hown.out.lt k hk).1); have z5 := ZZ.out _ hb5))
      go_wp2
      go_roundw
      case rel => exact ⟨i + 1, by omega, by go_num, Lib.hid (by rw [take_snoc HF.out, flat_snoc]; exact hown5), hb5⟩
      case measure => simp [intOf]; omega
    · obtain rfl : i = l.length := by omega
      have HL : Hid ((l.take l.length).flatMap cF = l.flatMap cF) := Lib.hid (by rw [List.take_length])
      go_wp2
      go_ret
      exact ⟨_, rfl, by rw [← HL.out]; exact hown.out, hb⟩
end Go.Proofs.YtdmmjfmjohliiaaGreatDoor
namespace Go.Proofs.YtdmmjfmjohliiaaGreatDoor
open Go.RowKit

set_option maxHeartbeats 2000000 in
theorem textsS_any (w : World) (v u : Value) (a b : List ByteArray) (h : Strs w v a) (g : Strs w u b) :
    Calls Tryz.prog 49 #[v, u] w (BoolTo (decide (a = b)) w) := by
  obtain ⟨A, c, rfl⟩ := strs_form h
  obtain ⟨B, d, rfl⟩ := strs_form g
  have hm1 : a.length ≤ 9223372036854775807 := by obtain ⟨_, _, hv, h1, h2, _⟩ := h; unfold maxLen at h2; omega
  have hm2 : b.length ≤ 9223372036854775807 := by obtain ⟨_, _, hv, h1, h2, _⟩ := g; unfold maxLen at h2; omega
  have HA := Lib.hid h
  have HB := Lib.hid g
  clear h g
  by_cases hnm : a.length = b.length
  · have hi0 : ((a.length : Int) != (b.length : Int)) = false := by simp [hnm]
    have HN := Lib.hid hnm
    clear hnm
    go_enter Tryz.func49, Tryz.ntmps49
    go_wp2
    go_loopw [5] (fun s5 wr => ∃ k q : Nat, k ≤ a.length ∧ s5 = .int .i64 k ∧ Hid (∀ i, i < k → a[i]? = b[i]?) ∧ wr = w.drewN q) (fun s5 _ => a.length - (intOf s5).toNat)
    case atStart => exact ⟨0, 0, Nat.zero_le _, rfl, Lib.hid (fun i hi => absurd hi (Nat.not_lt_zero _)), rfl⟩
    case round =>
      obtain ⟨k, q, hk, rfl, hp, rfl⟩ := hrel
      by_cases hlt : k < a.length
      · obtain ⟨ad, x, rfl, hx, c0⟩ := strs_at HA.out hlt
        obtain ⟨ad2, y, rfl, hy, d0⟩ := strs_at HB.out (show k < b.length by rw [← HN.out]; exact hlt)
        have HX := Lib.hid hx
        have HY := Lib.hid hy
        have k0 : (0 : Int) ≤ (k : Int) := Int.natCast_nonneg _
        have k1 : (k : Int) < (a.length : Int) := by omega
        have k2 : (k : Int) < (b.length : Int) := by have := HN.out; omega
        have HNE := Lib.hid (show x ≠ y → decide (a = b) = false from fun hne => decide_eq_false fun e => by
          rw [e, hy] at hx
          exact hne (Option.some.inj hx).symm)
        clear hx hy
        by_cases hxy : x = y
        · subst hxy
          go_wp2_with fail
          go_quiet (fail)
          go_wp2
          go_roundw
          case rel => exact ⟨k + 1, _, by omega, by go_num, Lib.hid (fun i hi => by
            rcases Nat.lt_or_ge i k with h1 | h1
            · exact hp.out i h1
            · obtain rfl : i = k := by omega
              rw [HX.out, HY.out]), rfl⟩
          case measure => simp [intOf]; omega
        · have HC := Lib.hid (HNE.out hxy)
          have e1 : ¬ x.toList = y.toList := fun e => hxy (tl_eq e)
          have e1' : (x.toList == y.toList) = false := by simpa using e1
          clear hxy
          go_wp2_with fail
          go_quiet (fail)
          go_wp2
          go_ret
          exact ⟨by rw [HC.out]; rfl, _, drewN_two _ _ _⟩
      · obtain rfl : k = a.length := by omega
        have HC : Hid (decide (a = b) = true) := Lib.hid (decide_eq_true (prefix_all hp.out rfl HN.out.symm))
        go_wp2
        go_ret
        exact ⟨by rw [HC.out]; rfl, _, rfl⟩
  · have hi0 : ((a.length : Int) != (b.length : Int)) = true := by simp; omega
    have HC : Hid (decide (a = b) = false) := Lib.hid (decide_eq_false fun e => hnm (by rw [e]))
    clear hnm
    go_enter Tryz.func49, Tryz.ntmps49
    go_wp2
    go_ret
    exact ⟨by rw [HC.out]; rfl, 0, rfl⟩
theorem texts_any (w : World) (v u : Value) (a b : List ByteArray) (h : Strs w v a) (g : Strs w u b) :
    Calls Tryz.prog 14 #[v, u] w (BoolTo (decide (a = b)) w) := by
  have E := Lib.hid (textsS_any w v u a b h g)
  clear h g
  go_enter Tryz.func14, Tryz.ntmps14
  go_wp2_with fail
  refine E.out.mono ?_
  rintro e w' ⟨rfl, q, rfl⟩
  go_wp2
  go_ret
  exact ⟨rfl, q, rfl⟩
end Go.Proofs.YtdmmjfmjohliiaaGreatDoor
namespace Go.Proofs.YtdmmjfmjohliiaaGreatDoor
open Go.RowKit

theorem refFileSize : (Tryz.prog.info? 73).map (·.size) = some 3 := by kernel_rfl
theorem getF_first {l : List Fl} {s : ByteArray} {k : Nat} {f : Fl} (h : l[k]? = some f) (hs : f.1 = s) (hp : ∀ x ∈ l.take k, x.1 ≠ s) : getF l s = some f := by
  obtain ⟨hk, e⟩ := List.getElem?_eq_some_iff.1 h
  unfold getF
  rw [List.find?_eq_some_iff_getElem]
  refine ⟨by simpa using hs, k, hk, e, fun t ht => ?_⟩
  have := hp (l[t]'(by omega)) (by rw [List.mem_take_iff_getElem]; exact ⟨t, by omega, rfl⟩)
  simpa using this
theorem getF_no {l : List Fl} {s : ByteArray} (hp : ∀ x ∈ l, x.1 ≠ s) : getF l s = none := by
  unfold getF
  rw [List.find?_eq_none]
  intro x hx
  simpa using hp x hx

set_option maxHeartbeats 2000000 in
theorem refGet_any (w : World) (v : Value) (l : List Fl) (s : ByteArray) (h : Reads 3 cF w v l) (hl : l.length ≤ 100000) :
    Calls Tryz.prog 43 #[v, .string s] w (Got (getF l s) w) := by
  obtain ⟨W1, hW1⟩ : ∃ W1, W1 = w.alloc (.cells #[.string ⟨#[]⟩, .int .i64 0, .string ⟨#[]⟩] 73) := ⟨_, rfl⟩
  have B1 : Below w.heap.size w W1 := by rw [hW1]; exact (Below.refl _ _).alloc (Nat.le_refl _) _
  obtain ⟨A, c, rfl⟩ := h.form
  have HO := Lib.hid (h.below B1)
  obtain ⟨g, hg⟩ : ∃ g, g = w.heap.size := ⟨_, rfl⟩
  have K1 : W1.heap[g]? = some (.cells #[.string ⟨#[]⟩, .int .i64 0, .string ⟨#[]⟩] 73 (0, 0)) := by rw [hW1, hg]; exact heap_alloc_new w _
  have d0 := cell_of_row W1 g 0 _ 73 (0, 0) K1
  have d1 := cell_of_row W1 g 1 _ 73 (0, 0) K1
  have d2 := cell_of_row W1 g 2 _ 73 (0, 0) K1
  have e0 : W1.frozen? ⟨g, 0, none⟩ = false := by simp [World.frozen?, K1]
  have e1 : W1.frozen? ⟨g, 1, none⟩ = false := by simp [World.frozen?, K1]
  have e2 : W1.frozen? ⟨g, 2, none⟩ = false := by simp [World.frozen?, K1]
  have HK := Lib.hid K1
  have HB := Lib.hid (show ∀ x y z, Below w.heap.size w (((W1.setCell ⟨g, 0, none⟩ x).setCell ⟨g, 1, none⟩ y).setCell ⟨g, 2, none⟩ z) from fun x y z => by
    have hle : w.heap.size ≤ g := by rw [hg]; exact Nat.le_refl _
    exact ((B1.setCell (p := ⟨g, 0, none⟩) hle _).setCell (p := ⟨g, 1, none⟩) hle _).setCell (p := ⟨g, 2, none⟩) hle _)
  clear h K1 B1
  go_enter Tryz.func43, Tryz.ntmps43
  go_wp2_with fail
  rw [← hW1, ← hg]
  clear hW1 hg
  go_loopw [5, 6] (fun s5 s6 wr => ∃ k : Nat, k ≤ l.length ∧ s5 = .bool false ∧ s6 = .int .i64 k ∧ Hid (∀ x ∈ l.take k, x.1 ≠ s) ∧ SameW wr W1) (fun _ s6 _ => l.length - (intOf s6).toNat)
  case atStart => exact ⟨0, Nat.zero_le _, rfl, rfl, Lib.hid (by simp), rfl⟩
  case round =>
    obtain ⟨k, hk, rfl, rfl, hp, hw⟩ := hrel
    unfold SameW at hw
    subst hw
    by_cases hlt : k < l.length
    · obtain ⟨f, hf⟩ : ∃ f, l[k]? = some f := ⟨_, List.getElem?_eq_getElem hlt⟩
      obtain ⟨ad, rfl, c0, c1, c2⟩ := Fils.at_ HO.out hf
      have HF := Lib.hid hf
      have k0 : (0 : Int) ≤ (k : Int) := Int.natCast_nonneg _
      have k1 : (k : Int) < (l.length : Int) := by omega
      clear hf
      by_cases hps : f.1 = s
      · have HG := Lib.hid (getF_first HF.out hps hp.out)
        have e1 : f.1.toList = s.toList := by rw [hps]
        have e1' : (f.1.toList == s.toList) = true := by simp [e1]
        clear hps
        go_wp2
        refine bodyPost_ret (results_row_tmp (fn := Tryz.f43) rfl _ _ g 73 #[.string f.1, .int .i64 f.2.1, .string f.2.2] (0, 0) _ rfl (by first | exact set_row _ _ _ _ _ _ _ (set_row _ _ _ _ _ _ _ (set_row _ _ _ _ _ _ _ HK.out)) | simpa using set_row _ _ _ _ _ _ _ (set_row _ _ _ _ _ _ _ (set_row _ _ _ _ _ _ _ HK.out))) Tryz.underlying73 rfl refFileSize) rfl ⟨by rw [HG.out]; rfl, HB.out _ _ _⟩
      · have HN := Lib.hid hps
        have e1 : ¬ f.1.toList = s.toList := fun e => hps (tl_eq e)
        have e1' : (f.1.toList == s.toList) = false := by simpa using e1
        clear hps
        go_wp2
        go_roundw
        case rel => exact ⟨k + 1, by omega, rfl, by go_num, Lib.hid (by
          rw [take_snoc HF.out]
          intro x hm
          rcases List.mem_append.1 hm with hm | hm
          · exact hp.out x hm
          · rw [List.mem_singleton.1 hm]; exact HN.out), rfl⟩
        case measure => simp [intOf]; omega
    · obtain rfl : k = l.length := by omega
      have HG := Lib.hid (getF_no (show ∀ x ∈ l, x.1 ≠ s by have := hp.out; rw [List.take_length] at this; exact this))
      go_wp2
      refine bodyPost_ret (results_row_tmp (fn := Tryz.f43) rfl _ _ g 73 #[.string ⟨#[]⟩, .int .i64 0, .string ⟨#[]⟩] (0, 0) _ rfl (by first | exact set_row _ _ _ _ _ _ _ (set_row _ _ _ _ _ _ _ (set_row _ _ _ _ _ _ _ HK.out)) | simpa using set_row _ _ _ _ _ _ _ (set_row _ _ _ _ _ _ _ (set_row _ _ _ _ _ _ _ HK.out))) Tryz.underlying73 rfl refFileSize) rfl ⟨by rw [HG.out]; rfl, HB.out _ _ _⟩
end Go.Proofs.YtdmmjfmjohliiaaGreatDoor
namespace Go.Proofs.YtdmmjfmjohliiaaGreatDoor
open Go.RowKit

def likeB (x y : Fl) (p q : Bool) : Bool := (p == q) && decide (x = y)
section
variable {x1 y1 x3 y3 : ByteArray} {x2 y2 : Int} (p : Bool)
theorem likeB_yes (h1 : x1.toList = y1.toList) (h2 : x2 = y2) (h3 : x3.toList = y3.toList) : likeB (x1, x2, x3) (y1, y2, y3) p p = true := by
  rw [tl_eq h1, h2, tl_eq h3]
  simp [likeB]
theorem likeB_no {x y : Fl} (h : x ≠ y) : likeB x y p p = false := by simp [likeB, h]
theorem likeB_no1 (h1 : ¬ x1.toList = y1.toList) : likeB (x1, x2, x3) (y1, y2, y3) p p = false := likeB_no p fun e => h1 (by rw [show x1 = y1 from congrArg Prod.fst e])
theorem likeB_no2 (h1 : ¬ x2 = y2) : likeB (x1, x2, x3) (y1, y2, y3) p p = false := likeB_no p fun e => h1 (show x2 = y2 from congrArg (fun z => z.2.1) e)
theorem likeB_no3 (h1 : ¬ x3.toList = y3.toList) : likeB (x1, x2, x3) (y1, y2, y3) p p = false := likeB_no p fun e => h1 (by rw [show x3 = y3 from congrArg (fun z => z.2.2) e])
end

set_option maxHeartbeats 4000000 in
theorem like_core (w : World) (v u : Value) (s : ByteArray) (x y : Fl) (p q : Bool) (G1 : Hid (Calls Tryz.prog 43 #[v, .string s] w (GotB x p w))) (G2 : Hid (∀ W, Below w.heap.size w W → Calls Tryz.prog 43 #[u, .string s] W (GotB y q W))) :
    Calls Tryz.prog 22 #[v, u, .string s] w (FlagTo (likeB x y p q) w) := by
  obtain ⟨x1, x2, x3⟩ := x
  obtain ⟨y1, y2, y3⟩ := y
  go_enter Tryz.func22, Tryz.ntmps22
  go_wp2_with fail
  refine G1.out.mono ?_
  rintro e w1 ⟨rfl, b1⟩
  have b1' := b1.alloc b1.size (.cells #[.string x1, .int .i64 x2, .string x3] 73)
  go_wp2_with fail
  refine (G2.out _ b1').mono ?_
  rintro e w2 ⟨rfl, b2⟩
  have K1 := (b2.block w1.heap.size (by simp)).trans (heap_alloc_new w1 (.cells #[.string x1, .int .i64 x2, .string x3] 73))
  have hlt : w1.heap.size + 1 ≤ w2.heap.size := by simpa using b2.size
  have d0 : w2.cell? ⟨w1.heap.size, 0, none⟩ = some (.string x1) := cell_of_row w2 w1.heap.size 0 _ 73 (0, 0) K1
  have d1 : w2.cell? ⟨w1.heap.size, 1, none⟩ = some (.int .i64 x2) := cell_of_row w2 w1.heap.size 1 _ 73 (0, 0) K1
  have d2 : w2.cell? ⟨w1.heap.size, 2, none⟩ = some (.string x3) := cell_of_row w2 w1.heap.size 2 _ 73 (0, 0) K1
  have hb : Below w.heap.size w w2 := b1'.trans (b2.mono (by have := b1.size; simp; omega))
  have hb' := hb.alloc hb.size (.cells #[.string y1, .int .i64 y2, .string y3] 73)
  obtain ⟨g, hg⟩ : ∃ g, g = w1.heap.size := ⟨_, rfl⟩
  rw [← hg] at d0 d1 d2 hlt ⊢
  have HB := Lib.hid hb'
  have hcl : g < w2.heap.size := by omega
  clear K1 G1 G2 b1 b1' b2 hb hb' hg
  cases p with
  | false =>
    cases q with
    | true =>
      go_wp2
      go_ret
      exact ⟨rfl, HB.out⟩
    | false =>
      go_wp2
      all_goals go_ret
      all_goals first
        | exact ⟨by rw [likeB_yes _ (by assumption) (by assumption) (by assumption)]; rfl, HB.out⟩
        | exact ⟨by rw [likeB_no1 _ (by assumption)]; rfl, HB.out⟩
        | exact ⟨by rw [likeB_no2 _ (by assumption)]; rfl, HB.out⟩
        | exact ⟨by rw [likeB_no3 _ (by assumption)]; rfl, HB.out⟩
  | true =>
    cases q with
    | false =>
      go_wp2
      go_ret
      exact ⟨rfl, HB.out⟩
    | true =>
      go_wp2
      all_goals go_ret
      all_goals first
        | exact ⟨by rw [likeB_yes _ (by assumption) (by assumption) (by assumption)]; rfl, HB.out⟩
        | exact ⟨by rw [likeB_no1 _ (by assumption)]; rfl, HB.out⟩
        | exact ⟨by rw [likeB_no2 _ (by assumption)]; rfl, HB.out⟩
        | exact ⟨by rw [likeB_no3 _ (by assumption)]; rfl, HB.out⟩

theorem likeB_eq (a b : Option Fl) : likeB (flZ a) (flZ b) a.isSome b.isSome = decide (a = b) := by
  cases a with
  | none => cases b <;> simp [likeB, flZ]
  | some f => cases b with
    | none => simp [likeB]
    | some g => by_cases h : f = g <;> simp [likeB, flZ, h]
theorem like_any (w : World) (v u : Value) (a b : List Fl) (s : ByteArray) (h : Reads 3 cF w v a) (g : Reads 3 cF w u b) (hal : a.length ≤ 100000) (hbl : b.length ≤ 100000) :
    Calls Tryz.prog 22 #[v, u, .string s] w (FlagTo (decide (getF a s = getF b s)) w) := by
  rw [← likeB_eq]
  exact like_core w v u s _ _ _ _ (Lib.hid ((refGet_any w v a s h hal).mono fun e w' ⟨he, hb⟩ => ⟨by rw [he, gotV_flZ], hb⟩))
    (Lib.hid fun W hW => (refGet_any W u b s (g.below hW) hbl).mono fun e w' ⟨he, hb⟩ => ⟨by rw [he, gotV_flZ], hb⟩)
end Go.Proofs.YtdmmjfmjohliiaaGreatDoor
namespace Go.Proofs.YtdmmjfmjohliiaaGreatDoor
open Go.RowKit

def EntCells (ad : Addr) (i : Nat) (p : ByteArray) (st m : Int) (d : ByteArray) (W : World) : Prop :=
  W.cell? (ad.add (i * 6)) = some (.string p) ∧ W.cell? ⟨(ad.add (i * 6)).block, (ad.add (i * 6)).off + 1, none⟩ = some (.int .i64 st) ∧ W.cell? ⟨(ad.add (i * 6)).block, (ad.add (i * 6)).off + 2, none⟩ = some (.int .i64 m) ∧ W.cell? ⟨(ad.add (i * 6)).block, (ad.add (i * 6)).off + 3, none⟩ = some (.string d)

set_option maxHeartbeats 2000000 in
theorem refStage_any (w : World) (v : Value) (l : List En) (n : Int) (h : Reads 6 cE w v l) (hl : l.length ≤ 100000) :
    Calls Tryz.prog 21 #[v, .int .i64 n] w (OwnTo 73 3 cF (stageE l n) w) := by
  obtain ⟨A, c, rfl⟩ := h.form
  have hn := h.len
  have hnm : l.length ≤ 9223372036854775807 := by omega
  have HO := Lib.hid h
  obtain ⟨i0, hi, hz0, hz1, hz2⟩ := info_parts refFileInfo
  clear h hn
  go_enter Tryz.func21, Tryz.ntmps21
  go_wp2
  go_loopw [5, 6] (fun s5 s6 wr => ∃ i : Nat, i ≤ l.length ∧ s6 = .int .i64 i ∧ Hid (wr.ownsRow w.heap.size 73 3 s5 (stageE (l.take i) n).length ((stageE (l.take i) n).flatMap cF)) ∧ Below w.heap.size w wr) (fun _ s6 _ => l.length - (intOf s6).toNat)
  case atStart => exact ⟨0, Nat.zero_le _, rfl, Lib.hid (World.ownsRow_nil _ _ _ _), Below.refl _ _⟩
  case round =>
    obtain ⟨i, hil, rfl, hown, hb⟩ := hrel
    by_cases hlt : i < l.length
    · obtain ⟨e, he⟩ : ∃ e, l[i]? = some e := ⟨_, List.getElem?_eq_getElem hlt⟩
      obtain ⟨ad, rfl, c0, c1, c2, c3, c4, c5⟩ := Ents.at_ HO.out he
      have HT := Lib.hid (show stageE (l.take (i + 1)) n = stageE (l.take i) n ++ (if e.2.1 = n then [toF e] else []) by rw [take_snoc he, stageE_snoc])
      have hsl := Nat.le_trans (stageE_len (l.take i) n) (by rw [List.length_take]; omega : (l.take i).length ≤ 100000)
      obtain ⟨p, st, m, d, tm, sz⟩ := e
      have ZZ := Lib.hid fun W (hW : Below w.heap.size w W) => (⟨(hW.cell (World.block_lt_of_cell? _ _ c0)).trans c0, (hW.cell (World.block_lt_of_cell? _ _ c1)).trans c1, (hW.cell (World.block_lt_of_cell? _ _ c2)).trans c2, (hW.cell (World.block_lt_of_cell? _ _ c3)).trans c3⟩ : EntCells ad i p st m d W)
      unfold EntCells at ZZ
      have y1 := (ZZ.out _ hb).2.1
      have z0 := ZZ.out _ hb.drew
      have i0' : (0 : Int) ≤ (i : Int) := Int.natCast_nonneg _
      have hi1 : (i : Int) < (l.length : Int) := by omega
      have hsz := hb.size
      obtain ⟨acc, hacc⟩ : ∃ acc, acc = stageE (l.take i) n := ⟨_, rfl⟩
      rw [← hacc] at hown HT hsl
      clear he c0 c1 c2 c3 c4 c5 hacc
      by_cases hst : st = n
      · subst hst
        have hst : Hid ((if st = st then [toF (p, st, m, d, tm, sz)] else []) = [(p, m, d)]) := Lib.hid (by rw [if_pos rfl]; rfl)
        go_wp2
        clear y1
        go_region_held3 (fun w' => w'.cell? (ad.add (i * 6)) = some (.string p) ∧ w'.cell? ⟨(ad.add (i * 6)).block, (ad.add (i * 6)).off + 1, none⟩ = some (.int .i64 st) ∧ w'.cell? ⟨(ad.add (i * 6)).block, (ad.add (i * 6)).off + 2, none⟩ = some (.int .i64 m) ∧ w'.cell? ⟨(ad.add (i * 6)).block, (ad.add (i * 6)).off + 3, none⟩ = some (.string d))
          (first | exact z0 | exact ZZ.out _ (hb.drew.alloc hsz _) | exact z5)
          ((refine step_append_lies _ (by rfl) _ _ 30 (by rfl) w.heap.size 73 i0 (.agg #[.string ⟨#[]⟩, .int .i64 0, .string ⟨#[]⟩]) 3 40 Tryz.underlying30 hi hz0 hz1 hz2 rfl (by omega) _ acc.length _ (by rfl) (hown.out.drew.alloc _)
              ⟨wr.heap.size, 0, none⟩ 1 1 [.string p, .int .i64 m, .string d] (by rfl) (by rfl) (World.news_of_block (cs := #[.string p, .int .i64 m, .string d]) (t := 73) (fr := (0, 0)) (heap_alloc_new wr.drew _)) (by simp [Value.oneCell'])
              (by omega) (by unfold maxLen; omega) (by omega) (by simp; omega) (wr.heap.size + 1) (by simp) ?_; intro gg cap w5 hown5 hg5 hat hlt5; have hb5 := (hb.drew.alloc hsz (.cells #[.string p, .int .i64 m, .string d] 73)).grown hg5 (by simp; omega) (fun k hk => (hown.out.lt k hk).1); have z5 := ZZ.out _ hb5))
        go_wp2
        go_roundw
        case rel => exact ⟨i + 1, by omega, by go_num, Lib.hid (by rw [HT.out, hst.out, List.length_append, flat_snoc]; exact hown5), hb5⟩
        case measure => simp [intOf]; omega
      · have hst' : Hid ((if st = n then [toF (p, st, m, d, tm, sz)] else []) = ([] : List Fl)) := Lib.hid (if_neg hst)
        have hbe : (st == n) = false := by simpa using hst
        go_wp2
        go_roundw
        case rel => exact ⟨i + 1, by omega, by go_num, Lib.hid (by rw [HT.out, hst'.out, List.append_nil]; exact hown.out), hb⟩
        case measure => simp [intOf]; omega
    · obtain rfl : i = l.length := by omega
      have HL : Hid (stageE (l.take l.length) n = stageE l n) := Lib.hid (by rw [List.take_length])
      go_wp2
      go_ret
      exact ⟨_, rfl, by rw [← HL.out]; exact hown.out, hb⟩
end Go.Proofs.YtdmmjfmjohliiaaGreatDoor
namespace Go.Proofs.YtdmmjfmjohliiaaGreatDoor
open Go Go.RowKit

theorem cutV_len (t : List Fl) : ∀ (ps : List ByteArray) (w : List Fl), (cutV t ps w).length ≤ w.length
  | [], _ => Nat.le_refl _
  | p :: ps, w => by
    rw [cutV_cons]
    refine Nat.le_trans (cutV_len t ps _) ?_
    split
    · exact Nat.le_refl _
    · exact cut_len w p
theorem putV_len (t : List Fl) : ∀ (ps : List ByteArray) (w : List Fl), (putV t ps w).length ≤ w.length + ps.length
  | [], _ => by simp [putV]
  | p :: ps, w => by
    cases hp : getF t p with
    | none =>
      rw [putV_none ps w hp]
      have := putV_len t ps w
      simp only [List.length_cons]; omega
    | some f =>
      rw [putV_some ps w hp]
      have := putV_len t ps (putF w f)
      have := put_len w f
      simp only [List.length_cons]; omega
end Go.Proofs.YtdmmjfmjohliiaaGreatDoor
namespace Go.Proofs.YtdmmjfmjohliiaaGreatDoor
open Go Go.RowKit

theorem conf_sized {en : List En} (h : SmallE en) : SizedS (nrm (confE en)) := fun p hp => by
  rw [nrm_mem] at hp
  unfold confE at hp
  obtain ⟨e, he, rfl⟩ := List.mem_map.1 hp
  have := (h.2 e (List.mem_filter.1 he).1).1
  omega

set_option maxRecDepth 100000 in
set_option maxHeartbeats 8000000 in
theorem keeps_walk (w : World) (v t E c ixv wv : Value) (h tl wk : List Fl) (cf : List ByteArray) (en ix : List En)
    (hv : Reads 3 cF w v h) (tv : Reads 3 cF w t tl) (ev : Reads 6 cE w E en) (cv : Strs w c cf) (iv : Reads 6 cE w ixv ix) (kv : Reads 3 cF w wv wk) :
    Calls Tryz.prog 4 #[v, .agg #[t, E, c], ixv, wv] w (YesTo w) := by
  obtain ⟨W1, hW1⟩ : ∃ W1, W1 = w.alloc (.cells #[t, E, c] 27) := ⟨_, rfl⟩
  have B1 : Below w.heap.size w W1 := by rw [hW1]; exact (Below.refl _ _).alloc (Nat.le_refl _) _
  obtain ⟨G, hG⟩ : ∃ G, G = w.heap.size := ⟨_, rfl⟩
  have K1 : W1.heap[G]? = some (.cells #[t, E, c] 27 (0, 0)) := by rw [hW1, hG]; exact heap_alloc_new w _
  have hGl : G < W1.heap.size := (Array.getElem?_eq_some_iff.1 K1).1
  have ZZ := Lib.hid fun W (hW : Below W1.heap.size W1 W) => (show W.cell? ⟨G, 0, none⟩ = some t ∧ W.cell? ⟨G, 1, none⟩ = some E ∧ W.cell? ⟨G, 2, none⟩ = some c from
    ⟨cell_of_row W G 0 _ 27 (0, 0) ((hW.block G hGl).trans K1), cell_of_row W G 1 _ 27 (0, 0) ((hW.block G hGl).trans K1), cell_of_row W G 2 _ 27 (0, 0) ((hW.block G hGl).trans K1)⟩)
  have KN := Lib.hid (known20_yes W1)
  have HV := Lib.hid (hv.below B1)
  have TV := Lib.hid (tv.below B1)
  have EV := Lib.hid (ev.below B1)
  have CV := Lib.hid (cv.below B1)
  have IV := Lib.hid (iv.below B1)
  have KV := Lib.hid (kv.below B1)
  have HB1 := Lib.hid B1
  have hGW := Lib.hid hGl
  obtain ⟨Ai, ci, rfl⟩ := iv.form
  obtain ⟨Ak, ck, rfl⟩ := kv.form
  obtain ⟨Ah, ch, rfl⟩ := hv.form
  have hnk := kv.len
  have hkm : wk.length ≤ 9223372036854775807 := by have := hnk.2; unfold maxLen at this; omega
  have q1 := fileNeq
  have q2 := nilNeq
  clear hv tv ev cv iv kv K1 B1 hnk hGl
  go_enter Tryz.func4, Tryz.ntmps4
  go_wp2_with fail
  rw [← hW1, ← hG]
  clear hW1 hG
  refine KN.out.mono ?_
  rintro e w1 ⟨rfl, b1⟩
  have B1 := Lib.hid b1
  have FW := Lib.hid (few20_any w1 _ t E c _ _ h tl wk cf en ix (HV.out.below b1) (TV.out.below b1) (EV.out.below b1) (CV.out.below b1) (IV.out.below b1) (KV.out.below b1))
  obtain ⟨z0, z1, z2⟩ := ZZ.out w1 b1
  have hG1 : G < w1.heap.size := by have := hGW.out; have := b1.size; omega
  clear b1 KN
  go_wp2_with fail
  refine FW.out.mono ?_
  rintro e w2 ⟨b, rfl, hb, b2⟩
  have HB := Lib.hid hb
  have B2 := Lib.hid (B1.out.trans (b2.mono B1.out.size))
  clear hb b2 FW z0 z1 z2 hG1
  cases b with
  | false =>
    go_wp2_with fail
    go_ret
    exact ⟨rfl, HB1.out.trans (B2.out.mono HB1.out.size)⟩
  | true =>
  have H := Lib.hid (HB.out rfl)
  clear HB B1
  obtain ⟨s1, s2, s3, hcf, s4, s5, k1, k2, k3, k4, k5, hcc⟩ := H.out
  have SC : SizedS cf := by rw [← hcc]; exact conf_sized s3
  have AP := Lib.hid (apply_any w2 _ t E c _ _ h tl wk cf en ix (HV.out.below B2.out) (TV.out.below B2.out) (EV.out.below B2.out) (CV.out.below B2.out) (IV.out.below B2.out) (KV.out.below B2.out) (chkF_rise k1) (chkF_rise k2) (chkE_rise k3) (chkF_rise k4) s1.1 s2.1 hcf s3.1 s4.1 s5.1 (touched_sized SC s1.sized s2.sized) s5.sized s2.sized s3.sized s4.sized)
  have RK := Lib.hid (chkF_rise k4)
  have RT := Lib.hid (chkF_rise k2)
  have lk80 : wk.length ≤ 80 := s5.1
  have li80 : ix.length ≤ 80 := s4.1
  have lt80 : tl.length ≤ 80 := s2.1
  have lps : (touchedV cf h tl).length ≤ 200 := by have := touched_len cf h tl; have := s1.1; omega
  clear s1 s2 s3 hcf s4 s5 k1 k2 k3 k4 k5 hcc SC H
  obtain ⟨z0, z1, z2⟩ := ZZ.out w2 B2.out
  have hG2 : G < w2.heap.size := by have := hGW.out; have := B2.out.size; omega
  go_wp2_with fail
  refine AP.out.mono ?_
  rintro e w3 h3
  rcases h3 with ⟨hne, u1, u2, Fp, rfl, r1, r2, b3⟩ | ⟨hlo, u1, u2, rfl, r1, r2, b3⟩
  · have B3 := Lib.hid (B2.out.trans (b3.mono B2.out.size))
    have SM := Lib.hid (sameF_any w3 u2 _ wk wk r2 (KV.out.below B3.out))
    rw [decide_eq_true (rfl : wk = wk)] at SM
    obtain ⟨X1, y1, rfl⟩ := r1.form
    obtain ⟨X2, y2, rfl⟩ := r2.form
    clear hne r1 r2 b3 AP z0 z1 z2 hG2
    go_wp2_with fail
    refine SM.out.mono ?_
    rintro e w4 ⟨rfl, q, rfl⟩
    go_wp2_with fail
    go_ret
    exact ⟨rfl, HB1.out.trans (Below.mono (below_drewN B3.out q) HB1.out.size)⟩
  · have B3 := Lib.hid (B2.out.trans (b3.mono B2.out.size))
    have HLO := Lib.hid hlo
    obtain ⟨U, hU⟩ : ∃ U, U = putV tl (touchedV cf h tl) (cutV tl (touchedV cf h tl) wk) := ⟨_, rfl⟩
    rw [← hU] at r2
    have RU := Lib.hid (show RiseF U by rw [hU]; exact (putV_get tl RT.out _ _ (cutV_get tl _ wk RK.out).1).1)
    have KG := Lib.hid (show ∀ f ∈ wk, getF (stageE ix 0) f.1 ≠ getF wk f.1 → getF U f.1 = some f from fun f hf hne => by rw [hU]; exact keeps_get RK.out RT.out HLO.out hf hne)
    have hUl : U.length ≤ 1000 := by
      rw [hU]
      exact Nat.le_trans (putV_len tl _ _) (by have := cutV_len tl (touchedV cf h tl) wk; omega)
    have R2 := Lib.hid r2
    have OE := Lib.hid (ofE_any w3 _ ix (IV.out.below B3.out) (by omega))
    obtain ⟨X1, y1, hx1⟩ := r1.form
    subst hx1
    obtain ⟨X2, y2, rfl⟩ := r2.form
    clear hlo r1 r2 b3 AP z0 z1 z2 hG2 hU lps
    obtain ⟨nX, hnX⟩ : ∃ n, n = (putG tl cf en (touchedV cf h tl) (dropI (touchedV cf h tl) ix)).length := ⟨_, rfl⟩
    rw [← hnX]
    clear hnX
    go_wp2_with fail
    refine OE.out.mono ?_
    rintro e w4 ⟨v4, rfl, o4, b4⟩
    have B4 := Lib.hid (B3.out.trans (b4.mono B3.out.size))
    have R4 := Lib.hid (R2.out.below b4)
    have SG := Lib.hid (refStage_any w4 v4 ix 0 (Reads.of_own cE_len o4) (by omega))
    obtain ⟨A4, c4, rfl⟩ := own_form o4
    clear o4 b4 OE R2
    go_wp2_with fail
    refine SG.out.mono ?_
    rintro e w5 ⟨v5, rfl, o5, b5⟩
    have B5 := Lib.hid (B4.out.trans (b5.mono B4.out.size))
    have R5 := Lib.hid (R4.out.below b5)
    have Z5 := Lib.hid (Reads.of_own cF_len o5)
    have hzl := Nat.le_trans (stageE_len ix 0) li80
    obtain ⟨zr, hzr⟩ : ∃ z, z = stageE ix 0 := ⟨_, rfl⟩
    rw [← hzr] at Z5 hzl o5
    rw [← hzr] at KG
    obtain ⟨A5, c5, rfl⟩ := own_form o5
    clear o5 b5 SG R4 hzr
    go_wp2_with fail
    go_loopw [13, 14, 15] (fun s13 _ _ wr => ∃ i : Nat, i ≤ wk.length ∧ s13 = .int .i64 i ∧ Below w5.heap.size w5 wr) (fun s13 _ _ _ => wk.length - (intOf s13).toNat)
    case atStart => exact ⟨0, Nat.zero_le _, rfl, Below.refl _ _⟩
    case round =>
      obtain ⟨i, hil, rfl, hb⟩ := hrel
      by_cases hlt : i < wk.length
      · obtain ⟨f, hf⟩ : ∃ f, wk[i]? = some f := ⟨_, List.getElem?_eq_getElem hlt⟩
        have BR := Lib.hid (B5.out.trans (hb.mono B5.out.size))
        obtain ⟨ad, rfl, c0, c1, c2⟩ := Fils.at_ (KV.out.below BR.out) hf
        have KGf := Lib.hid (KG.out f (List.mem_of_getElem? hf))
        obtain ⟨x1, x2, x3⟩ := f
        simp only at c0 c1 c2 KGf
        have OW := Lib.hid fun W (hW : Below wr.heap.size wr W) => lawOf_any W _ wk (KV.out.below (BR.out.trans (hW.mono BR.out.size))) (by omega)
        have LK := Lib.hid fun W (hW : Below wr.heap.size wr W) u (hu : Reads 3 cF W u wk) => like_any W _ u zr wk x1 ((Z5.out.below hb).below hW) hu (by omega) (by omega)
        have GT := Lib.hid fun W (hW : Below wr.heap.size wr W) => get_any W _ U x1 ((R5.out.below hb).below hW) RU.out (by omega)
        have C3 := Lib.hid (show ∀ W, Below wr.heap.size wr W → (W.cell? (ad.add (i * 3)) = some (.string x1) ∧ W.cell? ⟨(ad.add (i * 3)).block, (ad.add (i * 3)).off + 1, none⟩ = some (.int .i64 x2) ∧ W.cell? ⟨(ad.add (i * 3)).block, (ad.add (i * 3)).off + 2, none⟩ = some (.string x3)) from fun W hW =>
          ⟨(hW.cell (World.block_lt_of_cell? _ _ c0)).trans c0, (hW.cell (World.block_lt_of_cell? _ _ c1)).trans c1, (hW.cell (World.block_lt_of_cell? _ _ c2)).trans c2⟩)
        have SX := Lib.hid (show ∀ W, Below wr.heap.size wr W → (fun w' => w'.cell? (ad.add (i * 3)) = some (.string x1)) W from fun W hW => (C3.out W hW).1)
        have k0 : (0 : Int) ≤ (i : Int) := Int.natCast_nonneg _
        have k1 : (i : Int) < (wk.length : Int) := by omega
        have hcl := World.block_lt_of_cell? _ _ c0
        have HB := Lib.hid hb
        obtain ⟨lk, hlk⟩ : ∃ b, b = decide (getF zr x1 = getF wk x1) := ⟨_, rfl⟩
        rw [← hlk] at LK
        have HLK := Lib.hid hlk
        clear hf c0 c1 c2 hb hlk
        go_upto_region 12 with fail
        refine wp_region_held_drew (S := fun w' => w'.cell? (ad.add (i * 3)) = some (.string x1)) (by kernel_rfl) (SX.out _ (by first | exact Below.refl _ _ | exact (Below.refl _ _).drew | exact below_drewN (Below.refl _ _) _)) (fun hHeld => ?_)
        refine wpAnyH_take (i := 0) (oi := { dst := some 47, op := Op.move (Operand.tmp 12), type := 30, pos := "law.go:68", after := #[], guard := none }) (v := ?vk0) rfl (by kernel_rfl) (by kernel_rfl) (by kernel_rfl) (fun _ _ _ h => h) (Or.inl ⟨by rfl, ?yk0⟩) (by assumption) ?rk0
        case yk0 => (intro w' hSw; (try dsimp only at hSw); go_simp; try with_reducible rfl)
        try simp only [Act.put, List.setIfInBounds_toArray, List.set_cons_zero, List.set_cons_succ]
        refine wpAnyH_take (i := 1) (oi := { dst := some 48, op := Op.move (Operand.tmp 3), type := 23, pos := "law.go:68", after := #[], guard := none }) (v := ?vk1) rfl (by kernel_rfl) (by kernel_rfl) (by kernel_rfl) (fun _ _ _ h => h) (Or.inl ⟨by rfl, ?yk1⟩) (by assumption) ?rk1
        case yk1 => (intro w' hSw; (try dsimp only at hSw); go_simp; try with_reducible rfl)
        try simp only [Act.put, List.setIfInBounds_toArray, List.set_cons_zero, List.set_cons_succ]
        refine wpAnyH_take (i := 3) (oi := { dst := some 50, op := Op.move (Operand.tmp 3), type := 23, pos := "law.go:68", after := #[], guard := none }) (v := ?vk3) rfl (by kernel_rfl) (by kernel_rfl) (by kernel_rfl) (fun _ _ _ h => h) (Or.inl ⟨by rfl, ?yk3⟩) (by assumption) ?rk3
        case yk3 => (intro w' hSw; (try dsimp only at hSw); go_simp; try with_reducible rfl)
        try simp only [Act.put, List.setIfInBounds_toArray, List.set_cons_zero, List.set_cons_succ]
        refine wpAnyH_take (i := 4) (oi := { dst := some 51, op := Op.move (Operand.tmp 13), type := 3, pos := "law.go:68", after := #[], guard := none }) (v := ?vk4) rfl (by kernel_rfl) (by kernel_rfl) (by kernel_rfl) (fun _ _ _ h => h) (Or.inl ⟨by rfl, ?yk4⟩) (by assumption) ?rk4
        case yk4 => (intro w' hSw; (try dsimp only at hSw); go_simp; try with_reducible rfl)
        try simp only [Act.put, List.setIfInBounds_toArray, List.set_cons_zero, List.set_cons_succ]
        refine wpAnyH_take (i := 5) (oi := { dst := some 52, op := Op.indexAddr 23 (Operand.tmp 50) (Operand.tmp 51), type := 0, pos := "law.go:68", after := #[{ on := 3, ground := Ground.data }, { on := 4, ground := Ground.data }], guard := none }) (v := ?vk5) rfl (by kernel_rfl) (by kernel_rfl) (by kernel_rfl) (fun _ _ _ h => h) (Or.inl ⟨by rfl, ?yk5⟩) (by assumption) ?rk5
        case yk5 => (intro w' hSw; (try dsimp only at hSw); go_simp; try with_reducible rfl)
        try simp only [Act.put, List.setIfInBounds_toArray, List.set_cons_zero, List.set_cons_succ]
        refine wpAnyH_take (i := 6) (oi := { dst := some 53, op := Op.fieldAddr 56 (Operand.tmp 52) 0, type := 0, pos := "law.go:68", after := #[{ on := 5, ground := Ground.data }], guard := none }) (v := ?vk6) rfl (by kernel_rfl) (by kernel_rfl) (by kernel_rfl) (fun _ _ _ h => h) (Or.inl ⟨by rfl, ?yk6⟩) (by assumption) ?rk6
        case yk6 => (intro w' hSw; (try dsimp only at hSw); go_simp; try with_reducible rfl)
        try simp only [Act.put, List.setIfInBounds_toArray, List.set_cons_zero, List.set_cons_succ]
        refine wpAnyH_take (i := 7) (oi := { dst := some 54, op := Op.load 9 (Operand.tmp 53), type := 9, pos := "law.go:68", after := #[{ on := 6, ground := Ground.data }], guard := none }) (v := ?vk7) rfl (by kernel_rfl) (by kernel_rfl) (by kernel_rfl) (fun _ _ _ h => h) (Or.inl ⟨by rfl, ?yk7⟩) (by assumption) ?rk7
        case yk7 => (intro w' hSw; (try dsimp only at hSw); go_simp; try with_reducible rfl)
        try simp only [Act.put, List.setIfInBounds_toArray, List.set_cons_zero, List.set_cons_succ]
        refine wpAnyH_ready (rs := [2]) (by kernel_rfl) (by simp) ?_
        refine AllReadyH.cons (o := { dst := some 49, op := Op.call { callee := Callee.value (Operand.func 9), args := #[Operand.tmp 48], argTypes := #[23] }, type := 30, pos := "law.go:68", after := #[{ on := 1, ground := Ground.data }], guard := none }) rfl (fun K hK => ?_) AllReadyH.nil
        go_simp
        go_at_call 9
        refine (OW.out _ (by first | exact Below.refl _ _ | exact (Below.refl _ _).drew | exact below_drewN (Below.refl _ _) _)).mono ?_
        rintro e xa ⟨ua, rfl, oa, ba⟩
        have HBa : Hid (Below wr.heap.size wr xa) := Lib.hid (Below.trans (by first | exact Below.refl _ _ | exact (Below.refl _ _).drew | exact below_drewN (Below.refl _ _) _) ba)
        have RAa := Lib.hid (Reads.of_own cF_len oa)
        clear oa ba
        go_wp2_with fail
        refine hK.out _ _ (SX.out _ HBa.out) (fun hHeldk2 => ?_)
        clear hK K hHeld
        try simp only [Act.put, List.setIfInBounds_toArray, List.set_cons_zero, List.set_cons_succ]
        refine wpAnyH_ready (rs := [8]) (by kernel_rfl) (by simp) ?_
        refine AllReadyH.cons (o := { dst := some 55, op := Op.call { callee := Callee.value (Operand.func 22), args := #[Operand.tmp 47, Operand.tmp 49, Operand.tmp 54], argTypes := #[30, 30, 9] }, type := 4, pos := "law.go:68", after := #[{ on := 0, ground := Ground.data }, { on := 2, ground := Ground.data }, { on := 7, ground := Ground.data }, { on := 2, ground := Ground.chain }], guard := none }) rfl (fun K hK => ?_) AllReadyH.nil
        go_simp
        go_at_call 22
        refine (LK.out _ (by first | exact HBa.out | exact HBa.out.drew | exact below_drewN HBa.out _) ua (by first | exact RAa.out | exact RAa.out.drewN _)).mono ?_
        rintro e xb ⟨rfl, bb⟩
        have HBb : Hid (Below wr.heap.size wr xb) := Lib.hid (Below.trans (by first | exact HBa.out | exact HBa.out.drew | exact below_drewN HBa.out _) (Below.mono bb (by first | exact HBa.out.size)))
        clear bb
        go_wp2_with fail
        refine hK.out _ _ (SX.out _ HBb.out) (fun hHeldk8 => ?_)
        clear hK K hHeldk2
        try simp only [Act.put, List.setIfInBounds_toArray, List.set_cons_zero, List.set_cons_succ]
        refine wpAnyH_done (by kernel_rfl) ?_ _
        have HBB := Lib.hid (HB.out.trans (HBb.out.mono HB.out.size))
        cases lk with
        | true =>
          go_wp2_with fail
          go_roundw
          case rel => exact ⟨i + 1, by omega, by go_num, by first | exact HBB.out | exact HBB.out.drew | exact below_drewN HBB.out _⟩
          case measure => simp [intOf]; omega
        | false =>
          have HG := Lib.hid (KGf.out (of_decide_eq_false HLK.out.symm))
          have G9 := Lib.hid fun W (hW : Below wr.heap.size wr W) => GT.out W hW
          rw [HG.out] at G9
          go_wp2_with fail
          refine (G9.out _ (by first | exact HBb.out | exact HBb.out.drew | exact below_drewN HBb.out _)).mono ?_
          rintro e w9 ⟨rfl, b9⟩
          have B9 : Hid (Below wr.heap.size wr w9) := Lib.hid (Below.trans (by first | exact HBb.out | exact HBb.out.drew | exact below_drewN HBb.out _) (Below.mono b9 HBb.out.size))
          obtain ⟨W9, hW9⟩ : ∃ W9, W9 = w9.alloc (.cells #[.string x1, .int .i64 x2, .string x3] 56) := ⟨_, rfl⟩
          obtain ⟨g7, hg7⟩ : ∃ g, g = w9.heap.size := ⟨_, rfl⟩
          have k7 : W9.heap[g7]? = some (.cells #[.string x1, .int .i64 x2, .string x3] 56 (0, 0)) := by rw [hW9, hg7]; exact heap_alloc_new w9 _
          have bW9 : Below wr.heap.size wr W9 := by rw [hW9]; exact B9.out.alloc B9.out.size _
          have lg7 : g7 < W9.heap.size := (Array.getElem?_eq_some_iff.1 k7).1
          have SY := Lib.hid (show ∀ W, Below W9.heap.size W9 W → (fun w' => (w'.cell? ⟨g7, 0, none⟩ = some (.string x1) ∧ w'.cell? ⟨g7, 1, none⟩ = some (.int .i64 x2) ∧ w'.cell? ⟨g7, 2, none⟩ = some (.string x3)) ∧ w'.cell? (ad.add (i * 3)) = some (.string x1) ∧ w'.cell? ⟨(ad.add (i * 3)).block, (ad.add (i * 3)).off + 1, none⟩ = some (.int .i64 x2) ∧ w'.cell? ⟨(ad.add (i * 3)).block, (ad.add (i * 3)).off + 2, none⟩ = some (.string x3)) W from fun W hW =>
            ⟨⟨cell_of_row W g7 0 _ 56 (0, 0) ((hW.block g7 lg7).trans k7), cell_of_row W g7 1 _ 56 (0, 0) ((hW.block g7 lg7).trans k7), cell_of_row W g7 2 _ 56 (0, 0) ((hW.block g7 lg7).trans k7)⟩, C3.out W (bW9.trans (hW.mono bW9.size))⟩)
          have BW9 := Lib.hid (HB.out.trans (bW9.mono HB.out.size))
          rw [show gotV (some (x1, x2, x3)) = .tuple #[.agg #[.string x1, .int .i64 x2, .string x3], .bool true] from rfl]
          clear b9 G9 GT k7 bW9 OW LK
          go_upto_region 14 with fail
          rw [← hW9, ← hg7]
          clear hW9 hg7
          refine wp_region_held_drew (S := fun w' => (w'.cell? ⟨g7, 0, none⟩ = some (.string x1) ∧ w'.cell? ⟨g7, 1, none⟩ = some (.int .i64 x2) ∧ w'.cell? ⟨g7, 2, none⟩ = some (.string x3)) ∧ w'.cell? (ad.add (i * 3)) = some (.string x1) ∧ w'.cell? ⟨(ad.add (i * 3)).block, (ad.add (i * 3)).off + 1, none⟩ = some (.int .i64 x2) ∧ w'.cell? ⟨(ad.add (i * 3)).block, (ad.add (i * 3)).off + 2, none⟩ = some (.string x3)) (by kernel_rfl) (SY.out _ (by first | exact Below.refl _ _ | exact (Below.refl _ _).drew | exact below_drewN (Below.refl _ _) _)) (fun hHeld => ?_)
          refine wpAnyH_take (i := 0) (oi := { dst := some 66, op := Op.move (Operand.tmp 15), type := 4, pos := "law.go:72", after := #[], guard := none }) (v := ?vm0) rfl (by kernel_rfl) (by kernel_rfl) (by kernel_rfl) (fun _ _ _ h => h) (Or.inl ⟨by rfl, ?ym0⟩) (by assumption) ?rm0
          case ym0 => (intro w' hSw; (try dsimp only at hSw); go_simp; try with_reducible rfl)
          try simp only [Act.put, List.setIfInBounds_toArray, List.set_cons_zero, List.set_cons_succ]
          refine wpAnyH_take (i := 1) (oi := { dst := some 67, op := Op.unOp UnOp.not 4 (Operand.tmp 66), type := 4, pos := "law.go:72", after := #[{ on := 0, ground := Ground.data }], guard := none }) (v := ?vm1) rfl (by kernel_rfl) (by kernel_rfl) (by kernel_rfl) (fun _ _ _ h => h) (Or.inl ⟨by rfl, ?ym1⟩) (by assumption) ?rm1
          case ym1 => (intro w' hSw; (try dsimp only at hSw); go_simp; try with_reducible rfl)
          try simp only [Act.put, List.setIfInBounds_toArray, List.set_cons_zero, List.set_cons_succ]
          refine wpAnyH_take (i := 2) (oi := { dst := some 68, op := Op.move (Operand.tmp 67), type := 4, pos := "law.go:72", after := #[{ on := 1, ground := Ground.data }], guard := none }) (v := ?vm2) rfl (by kernel_rfl) (by kernel_rfl) (by kernel_rfl) (fun _ _ _ h => h) (Or.inl ⟨by rfl, ?ym2⟩) (by assumption) ?rm2
          case ym2 => (intro w' hSw; (try dsimp only at hSw); go_simp; try with_reducible rfl)
          try simp only [Act.put, List.setIfInBounds_toArray, List.set_cons_zero, List.set_cons_succ]
          refine wpAnyH_take (i := 3) (oi := { dst := some 69, op := Op.load 56 (Operand.tmp 14), type := 56, pos := "law.go:72", after := #[{ on := 2, ground := Ground.guard }], guard := some (2, false) }) (v := ?vm3) rfl (by kernel_rfl) (by kernel_rfl) (by kernel_rfl) (fun _ _ _ h => h) (Or.inl ⟨by rfl, ?ym3⟩) (by assumption) ?rm3
          case ym3 => (intro w' hSw; (try dsimp only at hSw); go_simp; try with_reducible rfl)
          try simp only [Act.put, List.setIfInBounds_toArray, List.set_cons_zero, List.set_cons_succ]
          refine wpAnyH_take (i := 4) (oi := { dst := some 70, op := Op.move (Operand.tmp 3), type := 23, pos := "law.go:72", after := #[{ on := 2, ground := Ground.guard }], guard := some (2, false) }) (v := ?vm4) rfl (by kernel_rfl) (by kernel_rfl) (by kernel_rfl) (fun _ _ _ h => h) (Or.inl ⟨by rfl, ?ym4⟩) (by assumption) ?rm4
          case ym4 => (intro w' hSw; (try dsimp only at hSw); go_simp; try with_reducible rfl)
          try simp only [Act.put, List.setIfInBounds_toArray, List.set_cons_zero, List.set_cons_succ]
          refine wpAnyH_take (i := 5) (oi := { dst := some 71, op := Op.move (Operand.tmp 13), type := 3, pos := "law.go:72", after := #[{ on := 2, ground := Ground.guard }], guard := some (2, false) }) (v := ?vm5) rfl (by kernel_rfl) (by kernel_rfl) (by kernel_rfl) (fun _ _ _ h => h) (Or.inl ⟨by rfl, ?ym5⟩) (by assumption) ?rm5
          case ym5 => (intro w' hSw; (try dsimp only at hSw); go_simp; try with_reducible rfl)
          try simp only [Act.put, List.setIfInBounds_toArray, List.set_cons_zero, List.set_cons_succ]
          refine wpAnyH_take (i := 6) (oi := { dst := some 72, op := Op.indexAddr 23 (Operand.tmp 70) (Operand.tmp 71), type := 0, pos := "law.go:72", after := #[{ on := 4, ground := Ground.data }, { on := 5, ground := Ground.data }, { on := 2, ground := Ground.guard }], guard := some (2, false) }) (v := ?vm6) rfl (by kernel_rfl) (by kernel_rfl) (by kernel_rfl) (fun _ _ _ h => h) (Or.inl ⟨by rfl, ?ym6⟩) (by assumption) ?rm6
          case ym6 => (intro w' hSw; (try dsimp only at hSw); go_simp; try with_reducible rfl)
          try simp only [Act.put, List.setIfInBounds_toArray, List.set_cons_zero, List.set_cons_succ]
          refine wpAnyH_take (i := 7) (oi := { dst := some 73, op := Op.load 56 (Operand.tmp 72), type := 56, pos := "law.go:72", after := #[{ on := 6, ground := Ground.data }, { on := 2, ground := Ground.guard }], guard := some (2, false) }) (v := ?vm7) rfl (by kernel_rfl) (by kernel_rfl) (by kernel_rfl) (fun _ _ _ h => h) (Or.inl ⟨by rfl, ?ym7⟩) (by assumption) ?rm7
          case ym7 => (intro w' hSw; (try dsimp only at hSw); go_simp; try with_reducible rfl)
          try simp only [Act.put, List.setIfInBounds_toArray, List.set_cons_zero, List.set_cons_succ]
          refine wpAnyH_take (i := 8) (oi := { dst := some 74, op := Op.binOp BinOp.neq 56 (Operand.tmp 69) (Operand.tmp 73) 56, type := 4, pos := "law.go:72", after := #[{ on := 3, ground := Ground.data }, { on := 7, ground := Ground.data }, { on := 2, ground := Ground.guard }], guard := some (2, false) }) (v := ?vm8) rfl (by kernel_rfl) (by kernel_rfl) (by kernel_rfl) (fun _ _ _ h => h) (Or.inl ⟨by rfl, ?ym8⟩) (by assumption) ?rm8
          case ym8 => (intro w' hSw; (try dsimp only at hSw); go_simp; try with_reducible rfl)
          try simp only [Act.put, List.setIfInBounds_toArray, List.set_cons_zero, List.set_cons_succ]
          refine wpAnyH_take (i := 9) (oi := { dst := some 75, op := Op.pick (Operand.tmp 68) (Operand.const (Value.bool true)) (Operand.tmp 74), type := 4, pos := "law.go:72", after := #[{ on := 2, ground := Ground.data }, { on := 8, ground := Ground.data }], guard := none }) (v := ?vm9) rfl (by kernel_rfl) (by kernel_rfl) (by kernel_rfl) (fun _ _ _ h => h) (Or.inl ⟨by rfl, ?ym9⟩) (by assumption) ?rm9
          case ym9 => (intro w' hSw; (try dsimp only at hSw); go_simp; try with_reducible rfl)
          try simp only [Act.put, List.setIfInBounds_toArray, List.set_cons_zero, List.set_cons_succ]
          refine wpAnyH_done (by kernel_rfl) ?_ _
          go_wp2_with fail
          go_roundw
          case rel => exact ⟨i + 1, by omega, by go_num, by first | exact BW9.out | exact BW9.out.drew | exact below_drewN BW9.out _⟩
          case measure => simp [intOf]; omega
      · obtain rfl : i = wk.length := by omega
        have BZ := Lib.hid (HB1.out.trans ((B5.out.trans (hb.mono B5.out.size)).mono HB1.out.size))
        clear hb
        go_wp2_with fail
        go_ret
        exact ⟨rfl, BZ.out⟩
theorem keeps_card (w : World) (v t E c ixv wv : Value) (h tl : List Fl) (en : List En) (cf : List ByteArray) (ix : List En) (wk : List Fl)
    (hv : Reads 3 cF w v h) (tv : Reads 3 cF w t tl) (ev : Reads 6 cE w E en) (cv : Strs w c cf) (iv : Reads 6 cE w ixv ix) (kv : Reads 3 cF w wv wk) :
    Calls Tryz.prog 4 #[v, .agg #[t, E, c], ixv, wv] w (YesTo w) := keeps_walk w v t E c ixv wv h tl wk cf en ix hv tv ev cv iv kv
end Go.Proofs.YtdmmjfmjohliiaaGreatDoor
