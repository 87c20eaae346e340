/-
  rectolaw1.Texts: whether rows of texts are the same.
  rectolaw14.Of, rectoref14.Stage: a tree as the document's; the files of a stage.
  rectoref14.Get: the first file at a path, looked for in order.
  rectoref14.Like, rectoref14.What: whether a path is alike in two trees, and what became of it.
  merge.Text at any three texts, as tmerge wants it; Merge of three trees, one of which may not be.
  rectoref14.both: what two sides make where all three differ.
  rectoref14.One: what three trees make at a path.
  rectoref11.Text as rectoref14 wants it.
  rectolaw16.short: a yes or a no.
-/
import Derived.Test.YtapcnmnnichamaaGreatDoorFSame
import Derived.Test.YtapcnmnnichamaaGreatDoorSStage
import Derived.Deep.RegionHeld3
import Derived.Test.YtapcnmnnichamaaGreatDoorUC
import Derived.Test.YtapcnmnnichamaaGreatDoorUW
import Derived.Test.YtapcnmnnichamaaGreatDoorTA
import Derived.Test.YtapcnmnnichamaaGreatDoorUE

namespace Go.Proofs.YtapcnmnnichamaaGreatDoor
open Go.RowKit

theorem strs_form {w : World} {v : Value} {ss : List ByteArray} (h : Strs w v ss) : ∃ A c, v = .slice A ss.length c := by
  obtain ⟨A, c, hv, _⟩ := h
  exact ⟨_, _, hv⟩
set_option maxHeartbeats 2000000 in
theorem textsS_any (w : World) (v u : Value) (a b : List ByteArray) (h : Strs w v a) (g : Strs w u b) :
    Calls Tryz.prog 59 #[v, u] w (BoolTo (decide (a = b)) w) := by
  obtain ⟨A, c, rfl⟩ := strs_form h
  obtain ⟨B, d, rfl⟩ := strs_form g
  have hm1 : a.length ≤ 9223372036854775807 := by obtain ⟨_, _, hv, h1, h2, _⟩ := h; unfold maxLen at h2; omega
  have hm2 : b.length ≤ 9223372036854775807 := by obtain ⟨_, _, hv, h1, h2, _⟩ := g; unfold maxLen at h2; omega
  have HA := Lib.hid h
  have HB := Lib.hid g
  clear h g
  by_cases hnm : a.length = b.length
  · have hi0 : ((a.length : Int) != (b.length : Int)) = false := by simp [hnm]
    have HN := Lib.hid hnm
    clear hnm
    go_enter Tryz.func59, Tryz.ntmps59
    go_wp2
    go_loopw [5] (fun s5 wr => ∃ k q : Nat, k ≤ a.length ∧ s5 = .int .i64 k ∧ Hid (∀ i, i < k → a[i]? = b[i]?) ∧ wr = w.drewN q) (fun s5 _ => a.length - (intOf s5).toNat)
    case atStart => exact ⟨0, 0, Nat.zero_le _, rfl, Lib.hid (fun i hi => absurd hi (Nat.not_lt_zero _)), rfl⟩
    case round =>
      obtain ⟨k, q, hk, rfl, hp, rfl⟩ := hrel
      by_cases hlt : k < a.length
      · obtain ⟨ad, x, rfl, hx, c0⟩ := strs_at HA.out hlt
        obtain ⟨ad2, y, rfl, hy, d0⟩ := strs_at HB.out (show k < b.length by rw [← HN.out]; exact hlt)
        have HX := Lib.hid hx
        have HY := Lib.hid hy
        have k0 : (0 : Int) ≤ (k : Int) := Int.natCast_nonneg _
        have k1 : (k : Int) < (a.length : Int) := by omega
        have k2 : (k : Int) < (b.length : Int) := by have := HN.out; omega
        have HNE := Lib.hid (show x ≠ y → decide (a = b) = false from fun hne => decide_eq_false fun e => by
          rw [e, hy] at hx
          exact hne (Option.some.inj hx).symm)
        clear hx hy
        by_cases hxy : x = y
        · subst hxy
          go_wp2_with fail
          go_quiet (fail)
          go_wp2
          go_roundw
          case rel => exact ⟨k + 1, _, by omega, by go_num, Lib.hid (fun i hi => by
            rcases Nat.lt_or_ge i k with h1 | h1
            · exact hp.out i h1
            · obtain rfl : i = k := by omega
              rw [HX.out, HY.out]), rfl⟩
          case measure => simp [intOf]; omega
        · have HC := Lib.hid (HNE.out hxy)
          have e1 : ¬ x.toList = y.toList := fun e => hxy (tl_eq e)
          have e1' : (x.toList == y.toList) = false := by simpa using e1
          clear hxy
          go_wp2_with fail
          go_quiet (fail)
          go_wp2
          go_ret
          exact ⟨by rw [HC.out]; rfl, _, drewN_two _ _ _⟩
      · obtain rfl : k = a.length := by omega
        have HC : Hid (decide (a = b) = true) := Lib.hid (decide_eq_true (prefix_all hp.out rfl HN.out.symm))
        go_wp2
        go_ret
        exact ⟨by rw [HC.out]; rfl, _, rfl⟩
  · have hi0 : ((a.length : Int) != (b.length : Int)) = true := by simp; omega
    have HC : Hid (decide (a = b) = false) := Lib.hid (decide_eq_false fun e => hnm (by rw [e]))
    clear hnm
    go_enter Tryz.func59, Tryz.ntmps59
    go_wp2
    go_ret
    exact ⟨by rw [HC.out]; rfl, 0, rfl⟩
theorem texts_any (w : World) (v u : Value) (a b : List ByteArray) (h : Strs w v a) (g : Strs w u b) :
    Calls Tryz.prog 33 #[v, u] w (BoolTo (decide (a = b)) w) := by
  have E := Lib.hid (textsS_any w v u a b h g)
  clear h g
  go_enter Tryz.func33, Tryz.ntmps33
  go_wp2_with fail
  refine E.out.mono ?_
  rintro e w' ⟨rfl, q, rfl⟩
  go_wp2
  go_ret
  exact ⟨rfl, q, rfl⟩
end Go.Proofs.YtapcnmnnichamaaGreatDoor

namespace Go.Proofs.YtapcnmnnichamaaGreatDoor
open Go.RowKit

theorem refFileInfo : (Tryz.prog.info? 52).map (fun i => (i.zero, i.size, i.bytes)) = some (some (.agg #[.string ⟨#[]⟩, .int .i64 0, .string ⟨#[]⟩]), 3, 40) := by kernel_rfl
def FilCells (ad : Addr) (i : Nat) (p : ByteArray) (m : Int) (d : ByteArray) (W : World) : Prop :=
  W.cell? (ad.add (i * 3)) = some (.string p) ∧ W.cell? ⟨(ad.add (i * 3)).block, (ad.add (i * 3)).off + 1, none⟩ = some (.int .i64 m) ∧ W.cell? ⟨(ad.add (i * 3)).block, (ad.add (i * 3)).off + 2, none⟩ = some (.string d)

set_option maxHeartbeats 2000000 in
theorem lawOf_any (w : World) (v : Value) (l : List Fl) (h : Reads 3 cF w v l) (hl : l.length ≤ 100000) :
    Calls Tryz.prog 12 #[v] w (OwnTo 52 3 cF l w) := by
  obtain ⟨A, c, rfl⟩ := h.form
  have hn := h.len
  have hnm : l.length ≤ 9223372036854775807 := by omega
  have HO := Lib.hid h
  obtain ⟨i0, hi, hz0, hz1, hz2⟩ := info_parts refFileInfo
  clear h hn
  go_enter Tryz.func12, Tryz.ntmps12
  go_wp2
  go_loopw [3, 4] (fun s3 s4 wr => ∃ i : Nat, i ≤ l.length ∧ s4 = .int .i64 i ∧ Hid (wr.ownsRow w.heap.size 52 3 s3 i ((l.take i).flatMap cF)) ∧ Below w.heap.size w wr) (fun _ s4 _ => l.length - (intOf s4).toNat)
  case atStart => exact ⟨0, Nat.zero_le _, rfl, Lib.hid (World.ownsRow_nil _ _ _ _), Below.refl _ _⟩
  case round =>
    obtain ⟨i, hil, rfl, hown, hb⟩ := hrel
    by_cases hlt : i < l.length
    · obtain ⟨f, hf⟩ : ∃ f, l[i]? = some f := ⟨_, List.getElem?_eq_getElem hlt⟩
      obtain ⟨ad, rfl, c0, c1, c2⟩ := Fils.at_ HO.out hf
      obtain ⟨p, m, d⟩ := f
      have HF := Lib.hid hf
      have ZZ := Lib.hid fun W (hW : Below w.heap.size w W) => (⟨(hW.cell (World.block_lt_of_cell? _ _ c0)).trans c0, (hW.cell (World.block_lt_of_cell? _ _ c1)).trans c1, (hW.cell (World.block_lt_of_cell? _ _ c2)).trans c2⟩ : FilCells ad i p m d W)
      unfold FilCells at ZZ
      have z0 := ZZ.out _ hb.drew
      have i0' : (0 : Int) ≤ (i : Int) := Int.natCast_nonneg _
      have hi1 : (i : Int) < (l.length : Int) := by omega
      have hsz := hb.size
      clear hf c0 c1 c2
      go_wp2
      go_region_held3 (fun w' => w'.cell? (ad.add (i * 3)) = some (.string p) ∧ w'.cell? ⟨(ad.add (i * 3)).block, (ad.add (i * 3)).off + 1, none⟩ = some (.int .i64 m) ∧ w'.cell? ⟨(ad.add (i * 3)).block, (ad.add (i * 3)).off + 2, none⟩ = some (.string d))
        (first | exact z0 | exact ZZ.out _ (hb.drew.alloc hsz _) | exact z5)
        ((refine step_append_lies _ (by rfl) _ _ 34 (by rfl) w.heap.size 52 i0 (.agg #[.string ⟨#[]⟩, .int .i64 0, .string ⟨#[]⟩]) 3 40 Tryz.underlying34 hi hz0 hz1 hz2 rfl (by omega) _ i _ (by rfl) (hown.out.drew.alloc _)
            ⟨wr.heap.size, 0, none⟩ 1 1 [.string p, .int .i64 m, .string d] (by rfl) (by rfl) (World.news_of_block (cs := #[.string p, .int .i64 m, .string d]) (t := 52) (fr := (0, 0)) (heap_alloc_new wr.drew _)) (by simp [Value.oneCell'])
            (by omega) (by unfold maxLen; omega) (by omega) (by simp; omega) (wr.heap.size + 1) (by simp) ?_; intro gg cap w5 hown5 hg5 hat hlt5; have hb5 := (hb.drew.alloc hsz (.cells #[.string p, .int .i64 m, .string d] 52)).grown hg5 (by simp; omega) (fun k hk => (hown.out.lt k hk).1); have z5 := ZZ.out _ hb5))
      go_wp2
      go_roundw
      case rel => exact ⟨i + 1, by omega, by go_num, Lib.hid (by rw [take_snoc HF.out, flat_snoc]; exact hown5), hb5⟩
      case measure => simp [intOf]; omega
    · obtain rfl : i = l.length := by omega
      have HL : Hid ((l.take l.length).flatMap cF = l.flatMap cF) := Lib.hid (by rw [List.take_length])
      go_wp2
      go_ret
      exact ⟨_, rfl, by rw [← HL.out]; exact hown.out, hb⟩
end Go.Proofs.YtapcnmnnichamaaGreatDoor

namespace Go.Proofs.YtapcnmnnichamaaGreatDoor
open Go.RowKit

theorem refFileSize : (Tryz.prog.info? 52).map (·.size) = some 3 := by kernel_rfl
theorem getF_first {l : List Fl} {s : ByteArray} {k : Nat} {f : Fl} (h : l[k]? = some f) (hs : f.1 = s) (hp : ∀ x ∈ l.take k, x.1 ≠ s) : getF l s = some f := by
  obtain ⟨hk, e⟩ := List.getElem?_eq_some_iff.1 h
  unfold getF
  rw [List.find?_eq_some_iff_getElem]
  refine ⟨by simpa using hs, k, hk, e, fun t ht => ?_⟩
  have := hp (l[t]'(by omega)) (by rw [List.mem_take_iff_getElem]; exact ⟨t, by omega, rfl⟩)
  simpa using this
theorem getF_no {l : List Fl} {s : ByteArray} (hp : ∀ x ∈ l, x.1 ≠ s) : getF l s = none := by
  unfold getF
  rw [List.find?_eq_none]
  intro x hx
  simpa using hp x hx

set_option maxHeartbeats 2000000 in
theorem refGet_any (w : World) (v : Value) (l : List Fl) (s : ByteArray) (h : Reads 3 cF w v l) (hl : l.length ≤ 100000) :
    Calls Tryz.prog 25 #[v, .string s] w (Got (getF l s) w) := by
  obtain ⟨W1, hW1⟩ : ∃ W1, W1 = w.alloc (.cells #[.string ⟨#[]⟩, .int .i64 0, .string ⟨#[]⟩] 52) := ⟨_, rfl⟩
  have B1 : Below w.heap.size w W1 := by rw [hW1]; exact (Below.refl _ _).alloc (Nat.le_refl _) _
  obtain ⟨A, c, rfl⟩ := h.form
  have HO := Lib.hid (h.below B1)
  obtain ⟨g, hg⟩ : ∃ g, g = w.heap.size := ⟨_, rfl⟩
  have K1 : W1.heap[g]? = some (.cells #[.string ⟨#[]⟩, .int .i64 0, .string ⟨#[]⟩] 52 (0, 0)) := by rw [hW1, hg]; exact heap_alloc_new w _
  have d0 := cell_of_row W1 g 0 _ 52 (0, 0) K1
  have d1 := cell_of_row W1 g 1 _ 52 (0, 0) K1
  have d2 := cell_of_row W1 g 2 _ 52 (0, 0) K1
  have e0 : W1.frozen? ⟨g, 0, none⟩ = false := by simp [World.frozen?, K1]
  have e1 : W1.frozen? ⟨g, 1, none⟩ = false := by simp [World.frozen?, K1]
  have e2 : W1.frozen? ⟨g, 2, none⟩ = false := by simp [World.frozen?, K1]
  have HK := Lib.hid K1
  have HB := Lib.hid (show ∀ x y z, Below w.heap.size w (((W1.setCell ⟨g, 0, none⟩ x).setCell ⟨g, 1, none⟩ y).setCell ⟨g, 2, none⟩ z) from fun x y z => by
    have hle : w.heap.size ≤ g := by rw [hg]; exact Nat.le_refl _
    exact ((B1.setCell (p := ⟨g, 0, none⟩) hle _).setCell (p := ⟨g, 1, none⟩) hle _).setCell (p := ⟨g, 2, none⟩) hle _)
  clear h K1 B1
  go_enter Tryz.func25, Tryz.ntmps25
  go_wp2_with fail
  rw [← hW1, ← hg]
  clear hW1 hg
  go_loopw [5, 6] (fun s5 s6 wr => ∃ k : Nat, k ≤ l.length ∧ s5 = .bool false ∧ s6 = .int .i64 k ∧ Hid (∀ x ∈ l.take k, x.1 ≠ s) ∧ SameW wr W1) (fun _ s6 _ => l.length - (intOf s6).toNat)
  case atStart => exact ⟨0, Nat.zero_le _, rfl, rfl, Lib.hid (by simp), rfl⟩
  case round =>
    obtain ⟨k, hk, rfl, rfl, hp, hw⟩ := hrel
    unfold SameW at hw
    subst hw
    by_cases hlt : k < l.length
    · obtain ⟨f, hf⟩ : ∃ f, l[k]? = some f := ⟨_, List.getElem?_eq_getElem hlt⟩
      obtain ⟨ad, rfl, c0, c1, c2⟩ := Fils.at_ HO.out hf
      have HF := Lib.hid hf
      have k0 : (0 : Int) ≤ (k : Int) := Int.natCast_nonneg _
      have k1 : (k : Int) < (l.length : Int) := by omega
      clear hf
      by_cases hps : f.1 = s
      · have HG := Lib.hid (getF_first HF.out hps hp.out)
        have e1 : f.1.toList = s.toList := by rw [hps]
        have e1' : (f.1.toList == s.toList) = true := by simp [e1]
        clear hps
        go_wp2
        refine bodyPost_ret (results_row_tmp (fn := Tryz.f25) rfl _ _ g 52 #[.string f.1, .int .i64 f.2.1, .string f.2.2] (0, 0) _ rfl (by first | exact set_row _ _ _ _ _ _ _ (set_row _ _ _ _ _ _ _ (set_row _ _ _ _ _ _ _ HK.out)) | simpa using set_row _ _ _ _ _ _ _ (set_row _ _ _ _ _ _ _ (set_row _ _ _ _ _ _ _ HK.out))) Tryz.underlying52 rfl refFileSize) rfl ⟨by rw [HG.out]; rfl, HB.out _ _ _⟩
      · have HN := Lib.hid hps
        have e1 : ¬ f.1.toList = s.toList := fun e => hps (tl_eq e)
        have e1' : (f.1.toList == s.toList) = false := by simpa using e1
        clear hps
        go_wp2
        go_roundw
        case rel => exact ⟨k + 1, by omega, rfl, by go_num, Lib.hid (by
          rw [take_snoc HF.out]
          intro x hm
          rcases List.mem_append.1 hm with hm | hm
          · exact hp.out x hm
          · rw [List.mem_singleton.1 hm]; exact HN.out), rfl⟩
        case measure => simp [intOf]; omega
    · obtain rfl : k = l.length := by omega
      have HG := Lib.hid (getF_no (show ∀ x ∈ l, x.1 ≠ s by have := hp.out; rw [List.take_length] at this; exact this))
      go_wp2
      refine bodyPost_ret (results_row_tmp (fn := Tryz.f25) rfl _ _ g 52 #[.string ⟨#[]⟩, .int .i64 0, .string ⟨#[]⟩] (0, 0) _ rfl (by first | exact set_row _ _ _ _ _ _ _ (set_row _ _ _ _ _ _ _ (set_row _ _ _ _ _ _ _ HK.out)) | simpa using set_row _ _ _ _ _ _ _ (set_row _ _ _ _ _ _ _ (set_row _ _ _ _ _ _ _ HK.out))) Tryz.underlying52 rfl refFileSize) rfl ⟨by rw [HG.out]; rfl, HB.out _ _ _⟩
end Go.Proofs.YtapcnmnnichamaaGreatDoor

namespace Go.Proofs.YtapcnmnnichamaaGreatDoor
open Go.RowKit

def likeB (x y : Fl) (p q : Bool) : Bool := (p == q) && decide (x = y)
section
variable {x1 y1 x3 y3 : ByteArray} {x2 y2 : Int} (p : Bool)
theorem likeB_yes (h1 : x1.toList = y1.toList) (h2 : x2 = y2) (h3 : x3.toList = y3.toList) : likeB (x1, x2, x3) (y1, y2, y3) p p = true := by
  rw [tl_eq h1, h2, tl_eq h3]
  simp [likeB]
theorem likeB_no {x y : Fl} (h : x ≠ y) : likeB x y p p = false := by simp [likeB, h]
theorem likeB_no1 (h1 : ¬ x1.toList = y1.toList) : likeB (x1, x2, x3) (y1, y2, y3) p p = false := likeB_no p fun e => h1 (by rw [show x1 = y1 from congrArg Prod.fst e])
theorem likeB_no2 (h1 : ¬ x2 = y2) : likeB (x1, x2, x3) (y1, y2, y3) p p = false := likeB_no p fun e => h1 (show x2 = y2 from congrArg (fun z => z.2.1) e)
theorem likeB_no3 (h1 : ¬ x3.toList = y3.toList) : likeB (x1, x2, x3) (y1, y2, y3) p p = false := likeB_no p fun e => h1 (by rw [show x3 = y3 from congrArg (fun z => z.2.2) e])
end

set_option maxHeartbeats 4000000 in
theorem like_core (w : World) (v u : Value) (s : ByteArray) (x y : Fl) (p q : Bool) (G1 : Hid (Calls Tryz.prog 25 #[v, .string s] w (GotB x p w))) (G2 : Hid (∀ W, Below w.heap.size w W → Calls Tryz.prog 25 #[u, .string s] W (GotB y q W))) :
    Calls Tryz.prog 20 #[v, u, .string s] w (FlagTo (likeB x y p q) w) := by
  obtain ⟨x1, x2, x3⟩ := x
  obtain ⟨y1, y2, y3⟩ := y
  go_enter Tryz.func20, Tryz.ntmps20
  go_wp2_with fail
  refine G1.out.mono ?_
  rintro e w1 ⟨rfl, b1⟩
  have b1' := b1.alloc b1.size (.cells #[.string x1, .int .i64 x2, .string x3] 52)
  go_wp2_with fail
  refine (G2.out _ b1').mono ?_
  rintro e w2 ⟨rfl, b2⟩
  have K1 := (b2.block w1.heap.size (by simp)).trans (heap_alloc_new w1 (.cells #[.string x1, .int .i64 x2, .string x3] 52))
  have hlt : w1.heap.size + 1 ≤ w2.heap.size := by simpa using b2.size
  have d0 : w2.cell? ⟨w1.heap.size, 0, none⟩ = some (.string x1) := cell_of_row w2 w1.heap.size 0 _ 52 (0, 0) K1
  have d1 : w2.cell? ⟨w1.heap.size, 1, none⟩ = some (.int .i64 x2) := cell_of_row w2 w1.heap.size 1 _ 52 (0, 0) K1
  have d2 : w2.cell? ⟨w1.heap.size, 2, none⟩ = some (.string x3) := cell_of_row w2 w1.heap.size 2 _ 52 (0, 0) K1
  have hb : Below w.heap.size w w2 := b1'.trans (b2.mono (by have := b1.size; simp; omega))
  have hb' := hb.alloc hb.size (.cells #[.string y1, .int .i64 y2, .string y3] 52)
  obtain ⟨g, hg⟩ : ∃ g, g = w1.heap.size := ⟨_, rfl⟩
  rw [← hg] at d0 d1 d2 hlt ⊢
  have HB := Lib.hid hb'
  have hcl : g < w2.heap.size := by omega
  clear K1 G1 G2 b1 b1' b2 hb hb' hg
  cases p with
  | false =>
    cases q with
    | true =>
      go_wp2
      go_ret
      exact ⟨rfl, HB.out⟩
    | false =>
      go_wp2
      all_goals go_ret
      all_goals first
        | exact ⟨by rw [likeB_yes _ (by assumption) (by assumption) (by assumption)]; rfl, HB.out⟩
        | exact ⟨by rw [likeB_no1 _ (by assumption)]; rfl, HB.out⟩
        | exact ⟨by rw [likeB_no2 _ (by assumption)]; rfl, HB.out⟩
        | exact ⟨by rw [likeB_no3 _ (by assumption)]; rfl, HB.out⟩
  | true =>
    cases q with
    | false =>
      go_wp2
      go_ret
      exact ⟨rfl, HB.out⟩
    | true =>
      go_wp2
      all_goals go_ret
      all_goals first
        | exact ⟨by rw [likeB_yes _ (by assumption) (by assumption) (by assumption)]; rfl, HB.out⟩
        | exact ⟨by rw [likeB_no1 _ (by assumption)]; rfl, HB.out⟩
        | exact ⟨by rw [likeB_no2 _ (by assumption)]; rfl, HB.out⟩
        | exact ⟨by rw [likeB_no3 _ (by assumption)]; rfl, HB.out⟩

theorem likeB_eq (a b : Option Fl) : likeB (flZ a) (flZ b) a.isSome b.isSome = decide (a = b) := by
  cases a with
  | none => cases b <;> simp [likeB, flZ]
  | some f => cases b with
    | none => simp [likeB]
    | some g => by_cases h : f = g <;> simp [likeB, flZ, h]
theorem like_any (w : World) (v u : Value) (a b : List Fl) (s : ByteArray) (h : Reads 3 cF w v a) (g : Reads 3 cF w u b) (hal : a.length ≤ 100000) (hbl : b.length ≤ 100000) :
    Calls Tryz.prog 20 #[v, u, .string s] w (FlagTo (decide (getF a s = getF b s)) w) := by
  rw [← likeB_eq]
  exact like_core w v u s _ _ _ _ (Lib.hid ((refGet_any w v a s h hal).mono fun e w' ⟨he, hb⟩ => ⟨by rw [he, gotV_flZ], hb⟩))
    (Lib.hid fun W hW => (refGet_any W u b s (g.below hW) hbl).mono fun e w' ⟨he, hb⟩ => ⟨by rw [he, gotV_flZ], hb⟩)
end Go.Proofs.YtapcnmnnichamaaGreatDoor

namespace Go.Proofs.YtapcnmnnichamaaGreatDoor
open Go Go.RowKit

/-- What merge.Text makes of three texts: nothing, where one has too many lines. -/
def txV (b y z a n : ByteArray) : TxO := if (Mg.lns b).length ≤ 256 ∧ (Mg.lns y).length ≤ 256 ∧ (Mg.lns z).length ≤ 256 then some (txG b y z a n) else none
theorem text_says (b y z a n : ByteArray) (h1 : b.size ≤ 20000) (h2 : y.size ≤ 20000) (h3 : z.size ≤ 20000) (h4 : a.size ≤ 1000) (h5 : n.size ≤ 1000) (W : World) : TextSays (txV b y z a n) b y z a n W := by
  unfold txV
  by_cases h : (Mg.lns b).length ≤ 256 ∧ (Mg.lns y).length ≤ 256 ∧ (Mg.lns z).length ≤ 256
  · rw [if_pos h]
    exact text_good b y z a n h1 h2 h3 h4 h5 h.1 h.2.1 h.2.2 W
  · rw [if_neg h]
    obtain ⟨k, hk⟩ := Mg.over3_of h
    exact (Mg.text_bad W b y z a n h1 h2 h3 k hk).mono fun e w' ⟨⟨F, he⟩, hb⟩ => ⟨⟨_, he⟩, hb⟩
theorem txV_bound (b y z a n : ByteArray) (h1 : b.size ≤ 20000) (h2 : y.size ≤ 20000) (h3 : z.size ≤ 20000) (h4 : a.size ≤ 1000) (h5 : n.size ≤ 1000) (s : ByteArray) (k : Nat) (h : txV b y z a n = some (s, k)) : k ≤ 1000000 ∧ s.size ≤ 1000000000 := by
  unfold txV at h
  split at h
  · rename_i hl
    obtain e := Option.some.inj h
    have hk : (txG b y z a n).2 ≤ 600 := by
      have h1 := Mg.clashes_le (Mg.allC (Mg.lns b) (Mg.lns y) (Mg.lns z))
      have h2 := Mg.chunks_len (Mg.pls (Mg.ed (Mg.lns b) (Mg.lns y)) 0) (Mg.pls (Mg.ed (Mg.lns b) (Mg.lns z)) 0) (Mg.lns b) (Mg.lns y) (Mg.lns z) ((Mg.lns b).length + 1) 0 0 0
      show Mg.clashes _ ≤ 600
      unfold Mg.allC at h1 ⊢
      omega
    have hs : (txG b y z a n).1.size ≤ 30000000 := by
      show (Mg.mk _).size ≤ _
      have e1 : (Mg.mk (Mg.txtAll a.data.toList n.data.toList (Mg.allC (Mg.lns b) (Mg.lns y) (Mg.lns z)))).size = (Mg.txtAll a.data.toList n.data.toList (Mg.allC (Mg.lns b) (Mg.lns y) (Mg.lns z))).length := by
        unfold Mg.mk ByteArray.size
        simp
      rw [e1]
      have hc : ∀ c ∈ Mg.allC (Mg.lns b) (Mg.lns y) (Mg.lns z), (Mg.txtC a.data.toList n.data.toList c).length ≤ 50000 := fun c hc => by
        obtain ⟨_, a2, a3, a4⟩ := Mg.piece_le (Mg.lns b) (Mg.lns y) (Mg.lns z) (M := 20000) (by rw [Mg.lns_cat, Mg.size_data]; exact h1) (by rw [Mg.lns_cat, Mg.size_data]; exact h2) (by rw [Mg.lns_cat, Mg.size_data]; exact h3) hc
        exact Mg.txtC_le (by rw [Mg.size_data]; exact h4) (by rw [Mg.size_data]; exact h5) a2 a3 a4
      have hl2 := Mg.flatMap_le hc
      have h2 := Mg.chunks_len (Mg.pls (Mg.ed (Mg.lns b) (Mg.lns y)) 0) (Mg.pls (Mg.ed (Mg.lns b) (Mg.lns z)) 0) (Mg.lns b) (Mg.lns y) (Mg.lns z) ((Mg.lns b).length + 1) 0 0 0
      have h3 : (Mg.allC (Mg.lns b) (Mg.lns y) (Mg.lns z)).length ≤ 600 := by unfold Mg.allC; omega
      show ((Mg.allC (Mg.lns b) (Mg.lns y) (Mg.lns z)).flatMap (Mg.txtC a.data.toList n.data.toList)).length ≤ _
      exact Nat.le_trans hl2 (Nat.le_trans (Nat.mul_le_mul_right 50000 h3) (Nat.le_of_eq rfl))
    rw [e] at hk hs
    dsimp only at hk hs
    exact ⟨by omega, by omega⟩
  · cases h
end Go.Proofs.YtapcnmnnichamaaGreatDoor

namespace Go.Proofs.YtapcnmnnichamaaGreatDoor
open Go Go.RowKit

/-- What the document's Text answers. -/
def RefSays (o : TxO) (b y z a n : ByteArray) (w : World) : Prop :=
  Calls Tryz.prog 63 #[.string b, .string y, .string z, .string a, .string n] w fun e w' => (match o with
    | some (s, k) => e = .returned (.tuple #[.string s, .int .i64 (k : Nat), Mg.wrong0])
    | none => ∃ g, e = .returned (.tuple #[.string ⟨#[]⟩, .int .i64 0, Mg.wrongG g 4])) ∧ Below w.heap.size w w'
/-- The file of both, and whether it clashes. -/
def bothV (o : TxO) (x y z : Option Fl) : (ByteArray × Int × ByteArray) × Bool := ((sP y, if x.isSome = true ∧ sM x = sM y then sM z else sM y, (mdV o x (sD y) (sD z)).1), (mdV o x (sD y) (sD z)).2)
def BothTold (r : (ByteArray × Int × ByteArray) × Bool) (w : World) (e : Ending) (w' : World) : Prop := e = .returned (.tuple #[.agg #[.string r.1.1, .int .i64 r.1.2.1, .string r.1.2.2], .bool r.2]) ∧ Below w.heap.size w w'
theorem fSize52 : (Tryz.prog.info? 52).map (·.size) = some 3 := by kernel_rfl
abbrev w5B (w : World) (A B C R F : Array Value) : World := ((((w.alloc (.cells A 52)).alloc (.cells B 52)).alloc (.cells C 52)).alloc (.cells R 52)).alloc (.cells F 52)
theorem both_row (w : World) (A B C R F : Array Value) : Blk (((((w.alloc (.cells A 52)).alloc (.cells B 52)).alloc (.cells C 52)).alloc (.cells R 52)).alloc (.cells F 52)) (w.heap.size + 1 + 1 + 1) 52 R := by
  have h := (Blk.new (((w.alloc (.cells A 52)).alloc (.cells B 52)).alloc (.cells C 52)) 52 R).alloc (.cells F 52)
  simp only [World.size_alloc] at h
  exact h
theorem both_row2 (w : World) (A B C R F : Array Value) : Blk (((((w.alloc (.cells A 52)).alloc (.cells B 52)).alloc (.cells C 52)).alloc (.cells R 52)).alloc (.cells F 52)) (w.heap.size + 1 + 1 + 1 + 1) 52 F := by
  have h := Blk.new ((((w.alloc (.cells A 52)).alloc (.cells B 52)).alloc (.cells C 52)).alloc (.cells R 52)) 52 F
  simp only [World.size_alloc] at h
  exact h
theorem both_below (w : World) (A B C R F : Array Value) : Below w.heap.size w (((((w.alloc (.cells A 52)).alloc (.cells B 52)).alloc (.cells C 52)).alloc (.cells R 52)).alloc (.cells F 52)) :=
  (((((Below.refl w.heap.size w).alloc (Nat.le_refl _) _).alloc (by simp) _).alloc (by simp; omega) _).alloc (by simp; omega) _).alloc (by simp; omega) _
/-- A result row of three cells, set anew. -/
theorem row52 {w : World} {g : Nat} {cs : Array Value} (h : Blk w g 52 cs) (hs : cs.size = 3) (a : ByteArray) (m : Int) (d : ByteArray) : Blk (((w.setCell ⟨g, 0, none⟩ (.string a)).setCell ⟨g, 1, none⟩ (.int .i64 m)).setCell ⟨g, 2, none⟩ (.string d)) g 52 #[.string a, .int .i64 m, .string d] := by
  have := ((h.set_ 0 (.string a)).set_ 1 (.int .i64 m)).set_ 2 (.string d)
  match cs, hs with
  | ⟨[x, y, z]⟩, _ => simpa using this
set_option maxRecDepth 100000 in
set_option maxHeartbeats 4000000 in
theorem both_11 (w : World) (x y z : Option Fl) (a n : ByteArray) (o : TxO) (hx : x.isSome = true) (hm : sM x = sM y) (h1 : sD y = sD z) :
    Calls Tryz.prog 38 #[.agg (fileA x), .bool x.isSome, .agg (fileA y), .agg (fileA z), .string a, .string n] w (BothTold (bothV o x y z) w) := by
  have hd : mdV o x (sD y) (sD z) = (sD y, false) := by
    unfold mdV
    rw [if_pos h1]
  have hv : bothV o x y z = ((sP y, sM z, sD y), false) := by
    unfold bothV
    rw [hd, if_pos ⟨hx, hm⟩]
  rw [hv]
  clear hd hv
  have e1 := ba_eqT h1
  have em : (sM x == sM y) = true := by simpa using hm
  unfold BothTold
  clear h1 hm
  go_enter Tryz.func38, Tryz.ntmps38
  go_wp2_with fail
  refine bodyPost_ret (results_row_tmp (fn := Tryz.f38) rfl _ _ (w.heap.size + 1 + 1 + 1) 52 #[.string (sP y), .int .i64 (sM z), .string (sD y)] (0, 0) _ rfl (both_row w _ _ _ _ _) Tryz.underlying52 rfl fSize52) rfl ⟨rfl, both_below w _ _ _ _ _⟩
set_option maxRecDepth 100000 in
set_option maxHeartbeats 4000000 in
theorem both_12 (w : World) (x y z : Option Fl) (a n : ByteArray) (o : TxO) (hx : x.isSome = true) (hm : sM x = sM y) (h1 : ¬ sD y = sD z) (h2 : sD x = sD y) :
    Calls Tryz.prog 38 #[.agg (fileA x), .bool x.isSome, .agg (fileA y), .agg (fileA z), .string a, .string n] w (BothTold (bothV o x y z) w) := by
  have hd : mdV o x (sD y) (sD z) = (sD z, false) := by
    unfold mdV
    rw [if_neg h1, if_pos ⟨hx, h2⟩]
  have hv : bothV o x y z = ((sP y, sM z, sD z), false) := by
    unfold bothV
    rw [hd, if_pos ⟨hx, hm⟩]
  rw [hv]
  clear hd hv
  have e1 := ba_neF h1
  have e2 := ba_eqT h2.symm
  have em : (sM x == sM y) = true := by simpa using hm
  unfold BothTold
  clear h1 hm h2
  go_enter Tryz.func38, Tryz.ntmps38
  go_wp2_with fail
  refine bodyPost_ret (results_row_tmp (fn := Tryz.f38) rfl _ _ (w.heap.size + 1 + 1 + 1) 52 #[.string (sP y), .int .i64 (sM z), .string (sD z)] (0, 0) _ rfl (both_row w _ _ _ _ _) Tryz.underlying52 rfl fSize52) rfl ⟨rfl, both_below w _ _ _ _ _⟩
set_option maxRecDepth 100000 in
set_option maxHeartbeats 4000000 in
theorem both_13 (w : World) (x y z : Option Fl) (a n : ByteArray) (o : TxO) (hx : x.isSome = true) (hm : sM x = sM y) (h1 : ¬ sD y = sD z) (h2 : ¬ sD x = sD y) (h3 : sD x = sD z) :
    Calls Tryz.prog 38 #[.agg (fileA x), .bool x.isSome, .agg (fileA y), .agg (fileA z), .string a, .string n] w (BothTold (bothV o x y z) w) := by
  have hd : mdV o x (sD y) (sD z) = (sD y, false) := by
    unfold mdV
    rw [if_neg h1, if_neg (fun h => h2 h.2), if_pos ⟨hx, h3⟩]
  have hv : bothV o x y z = ((sP y, sM z, sD y), false) := by
    unfold bothV
    rw [hd, if_pos ⟨hx, hm⟩]
  rw [hv]
  clear hd hv
  have e1 := ba_neF h1
  have e2 := ba_neF (fun e => h2 e.symm)
  have e3 := ba_eqT h3.symm
  have em : (sM x == sM y) = true := by simpa using hm
  unfold BothTold
  clear h1 hm h2 h3
  go_enter Tryz.func38, Tryz.ntmps38
  go_wp2_with fail
  refine bodyPost_ret (results_row_tmp (fn := Tryz.f38) rfl _ _ (w.heap.size + 1 + 1 + 1) 52 #[.string (sP y), .int .i64 (sM z), .string (sD y)] (0, 0) _ rfl (both_row w _ _ _ _ _) Tryz.underlying52 rfl fSize52) rfl ⟨rfl, both_below w _ _ _ _ _⟩
set_option maxRecDepth 100000 in
set_option maxHeartbeats 4000000 in
theorem both_14 (w : World) (x y z : Option Fl) (a n : ByteArray)  (hx : x.isSome = true) (hm : sM x = sM y) (h1 : ¬ sD y = sD z) (h2 : ¬ sD x = sD y) (h3 : ¬ sD x = sD z) (hT : ∀ W, RefSays none (sD x) (sD y) (sD z) a n W) :
    Calls Tryz.prog 38 #[.agg (fileA x), .bool x.isSome, .agg (fileA y), .agg (fileA z), .string a, .string n] w (BothTold (bothV none x y z) w) := by
  have hd : mdV none x (sD y) (sD z) = (sD y, true) := by
    unfold mdV
    rw [if_neg h1, if_neg (fun h => h2 h.2), if_neg (fun h => h3 h.2)]
  have hv : bothV none x y z = ((sP y, sM z, sD y), true) := by
    unfold bothV
    rw [hd, if_pos ⟨hx, hm⟩]
  rw [hv]
  clear hd hv
  have e1 := ba_neF h1
  have e2 := ba_neF (fun e => h2 e.symm)
  have e3 := ba_neF (fun e => h3 e.symm)
  have em : (sM x == sM y) = true := by simpa using hm
  unfold BothTold
  have HT := Lib.hid hT
  unfold RefSays at HT
  clear hT h1 hm h2 h3
  have KR := Lib.hid (both_row w (fileA x) (fileA y) (fileA z) #[.string ⟨#[]⟩, .int .i64 0, .string ⟨#[]⟩] #[.string (sP y), .int .i64 (sM z), .string (sD y)])
  have KF := Lib.hid (both_row2 w (fileA x) (fileA y) (fileA z) #[.string ⟨#[]⟩, .int .i64 0, .string ⟨#[]⟩] #[.string (sP y), .int .i64 (sM z), .string (sD y)])
  have B5 := Lib.hid (both_below w (fileA x) (fileA y) (fileA z) #[.string ⟨#[]⟩, .int .i64 0, .string ⟨#[]⟩] #[.string (sP y), .int .i64 (sM z), .string (sD y)])
  go_enter Tryz.func38, Tryz.ntmps38
  go_wp2_with fail
  generalize hW5 : ((((w.alloc (.cells (fileA x) 52)).alloc (.cells (fileA y) 52)).alloc (.cells (fileA z) 52)).alloc (.cells #[.string ⟨#[]⟩, .int .i64 0, .string ⟨#[]⟩] 52)).alloc (.cells #[.string (sP y), .int .i64 (sM z), .string (sD y)] 52) = W5 at *
  clear hW5
  obtain ⟨g, hg⟩ : ∃ g, g = w.heap.size + 1 + 1 + 1 := ⟨_, rfl⟩
  rw [← hg] at KR KF ⊢
  have HG := Lib.hid (show w.heap.size ≤ g by omega)
  clear hg
  refine (HT.out W5).mono ?_
  rintro e w2 ⟨⟨q, rfl⟩, b2⟩
  have KR2 := Lib.hid ((KR.out.below b2 KR.out.lt).alloc (.cells #[.slice (some ⟨q, 0, none⟩) 1 1, .int .i64 4] 40))
  have KF2 := Lib.hid ((KF.out.below b2 KF.out.lt).alloc (.cells #[.slice (some ⟨q, 0, none⟩) 1 1, .int .i64 4] 40))
  have B6 := Lib.hid ((B5.out.trans (b2.mono B5.out.size)).alloc (by have := B5.out.size; have := b2.size; omega) (.cells #[.slice (some ⟨q, 0, none⟩) 1 1, .int .i64 4] 40))
  have X1 := (Blk.new w2 40 #[.slice (some ⟨q, 0, none⟩) 1 1, .int .i64 4]).cell 1
  have hlt : g + 1 < w2.heap.size := (KF.out.below b2 KF.out.lt).lt
  have hne : g + 1 ≠ w2.heap.size := by omega
  have hne2 : g ≠ w2.heap.size := by omega
  have r0 := KR2.out.cell 0
  have f0 := KF2.out.cell 0
  have zr0 := KR2.out.frozen 0
  have zf0 := KF2.out.frozen 0
  have r1 := KR2.out.cell 1
  have f1 := KF2.out.cell 1
  have zr1 := KR2.out.frozen 1
  have zf1 := KF2.out.frozen 1
  have r2 := KR2.out.cell 2
  have f2 := KF2.out.cell 2
  have zr2 := KR2.out.frozen 2
  have zf2 := KF2.out.frozen 2
  clear KR KF B5 HT b2
  go_wp2_with fail
  refine bodyPost_ret (results_row_tmp (fn := Tryz.f38) rfl _ _ g 52 #[.string (sP y), .int .i64 (sM z), .string (sD y)] (0, 0) _ rfl (row52 KR2.out rfl _ _ _) Tryz.underlying52 rfl fSize52) rfl ⟨rfl, ?_⟩
  exact ((B6.out.setCell (p := ⟨g, 0, none⟩) HG.out _).setCell (p := ⟨g, 1, none⟩) HG.out _).setCell (p := ⟨g, 2, none⟩) HG.out _
set_option maxRecDepth 100000 in
set_option maxHeartbeats 4000000 in
theorem both_15 (w : World) (x y z : Option Fl) (a n : ByteArray) (s : ByteArray) (k : Nat) (h4 : 4096 < s.size) (hb : s.size ≤ 1000000000) (hx : x.isSome = true) (hm : sM x = sM y) (h1 : ¬ sD y = sD z) (h2 : ¬ sD x = sD y) (h3 : ¬ sD x = sD z) (hT : ∀ W, RefSays (some (s, k)) (sD x) (sD y) (sD z) a n W) :
    Calls Tryz.prog 38 #[.agg (fileA x), .bool x.isSome, .agg (fileA y), .agg (fileA z), .string a, .string n] w (BothTold (bothV (some (s, k)) x y z) w) := by
  have hd : mdV (some (s, k)) x (sD y) (sD z) = (sD y, true) := by
    unfold mdV
    rw [if_neg h1, if_neg (fun h => h2 h.2), if_neg (fun h => h3 h.2)]
    exact if_pos h4
  have hv : bothV (some (s, k)) x y z = ((sP y, sM z, sD y), true) := by
    unfold bothV
    rw [hd, if_pos ⟨hx, hm⟩]
  rw [hv]
  clear hd hv
  have e1 := ba_neF h1
  have e2 := ba_neF (fun e => h2 e.symm)
  have e3 := ba_neF (fun e => h3 e.symm)
  have em : (sM x == sM y) = true := by simpa using hm
  have d4 : decide ((4096 : Int) < (s.size : Int)) = true := decide_eq_true (by omega)
  have hs : (s.size : Int) ≤ 1000000000 := by omega
  unfold BothTold
  have HT := Lib.hid hT
  unfold RefSays at HT
  clear hT h1 hm h2 h3 h4 hb
  have KR := Lib.hid (both_row w (fileA x) (fileA y) (fileA z) #[.string ⟨#[]⟩, .int .i64 0, .string ⟨#[]⟩] #[.string (sP y), .int .i64 (sM z), .string (sD y)])
  have KF := Lib.hid (both_row2 w (fileA x) (fileA y) (fileA z) #[.string ⟨#[]⟩, .int .i64 0, .string ⟨#[]⟩] #[.string (sP y), .int .i64 (sM z), .string (sD y)])
  have B5 := Lib.hid (both_below w (fileA x) (fileA y) (fileA z) #[.string ⟨#[]⟩, .int .i64 0, .string ⟨#[]⟩] #[.string (sP y), .int .i64 (sM z), .string (sD y)])
  go_enter Tryz.func38, Tryz.ntmps38
  go_wp2_with fail
  generalize hW5 : ((((w.alloc (.cells (fileA x) 52)).alloc (.cells (fileA y) 52)).alloc (.cells (fileA z) 52)).alloc (.cells #[.string ⟨#[]⟩, .int .i64 0, .string ⟨#[]⟩] 52)).alloc (.cells #[.string (sP y), .int .i64 (sM z), .string (sD y)] 52) = W5 at *
  clear hW5
  obtain ⟨g, hg⟩ : ∃ g, g = w.heap.size + 1 + 1 + 1 := ⟨_, rfl⟩
  rw [← hg] at KR KF ⊢
  have HG := Lib.hid (show w.heap.size ≤ g by omega)
  clear hg
  refine (HT.out W5).mono ?_
  rintro e w2 ⟨rfl, b2⟩
  have KR2 := Lib.hid ((KR.out.below b2 KR.out.lt).alloc (.cells #[.slice none 0 0, .int .i64 0] 40))
  have KF2 := Lib.hid ((KF.out.below b2 KF.out.lt).alloc (.cells #[.slice none 0 0, .int .i64 0] 40))
  have B6 := Lib.hid ((B5.out.trans (b2.mono B5.out.size)).alloc (by have := B5.out.size; have := b2.size; omega) (.cells #[.slice none 0 0, .int .i64 0] 40))
  have X1 := (Blk.new w2 40 #[.slice none 0 0, .int .i64 0]).cell 1
  have hlt : g + 1 < w2.heap.size := (KF.out.below b2 KF.out.lt).lt
  have hne : g + 1 ≠ w2.heap.size := by omega
  have hne2 : g ≠ w2.heap.size := by omega
  have r0 := KR2.out.cell 0
  have f0 := KF2.out.cell 0
  have zr0 := KR2.out.frozen 0
  have zf0 := KF2.out.frozen 0
  have r1 := KR2.out.cell 1
  have f1 := KF2.out.cell 1
  have zr1 := KR2.out.frozen 1
  have zf1 := KF2.out.frozen 1
  have r2 := KR2.out.cell 2
  have f2 := KF2.out.cell 2
  have zr2 := KR2.out.frozen 2
  have zf2 := KF2.out.frozen 2
  clear KR KF B5 HT b2
  go_wp2_with fail
  refine bodyPost_ret (results_row_tmp (fn := Tryz.f38) rfl _ _ g 52 #[.string (sP y), .int .i64 (sM z), .string (sD y)] (0, 0) _ rfl (row52 KR2.out rfl _ _ _) Tryz.underlying52 rfl fSize52) rfl ⟨rfl, ?_⟩
  exact ((B6.out.setCell (p := ⟨g, 0, none⟩) HG.out _).setCell (p := ⟨g, 1, none⟩) HG.out _).setCell (p := ⟨g, 2, none⟩) HG.out _
set_option maxRecDepth 100000 in
set_option maxHeartbeats 4000000 in
theorem both_16 (w : World) (x y z : Option Fl) (a n : ByteArray) (s : ByteArray) (k : Nat) (h4 : ¬ 4096 < s.size) (hx : x.isSome = true) (hm : sM x = sM y) (h1 : ¬ sD y = sD z) (h2 : ¬ sD x = sD y) (h3 : ¬ sD x = sD z) (hT : ∀ W, RefSays (some (s, k)) (sD x) (sD y) (sD z) a n W) :
    Calls Tryz.prog 38 #[.agg (fileA x), .bool x.isSome, .agg (fileA y), .agg (fileA z), .string a, .string n] w (BothTold (bothV (some (s, k)) x y z) w) := by
  have hd : mdV (some (s, k)) x (sD y) (sD z) = (s, decide (0 < k)) := by
    unfold mdV
    rw [if_neg h1, if_neg (fun h => h2 h.2), if_neg (fun h => h3 h.2)]
    exact if_neg h4
  have hv : bothV (some (s, k)) x y z = ((sP y, sM z, s), decide (0 < k)) := by
    unfold bothV
    rw [hd, if_pos ⟨hx, hm⟩]
  rw [hv]
  clear hd hv
  have e1 := ba_neF h1
  have e2 := ba_neF (fun e => h2 e.symm)
  have e3 := ba_neF (fun e => h3 e.symm)
  have em : (sM x == sM y) = true := by simpa using hm
  have d4 : decide ((4096 : Int) < (s.size : Int)) = false := decide_eq_false (by omega)
  have dk : decide ((0 : Int) < (k : Int)) = decide (0 < k) := by by_cases hk : 0 < k <;> simp [hk]
  have hs : (s.size : Int) ≤ 1000000000 := by omega
  unfold BothTold
  have HT := Lib.hid hT
  unfold RefSays at HT
  clear hT h1 hm h2 h3 h4
  have KR := Lib.hid (both_row w (fileA x) (fileA y) (fileA z) #[.string ⟨#[]⟩, .int .i64 0, .string ⟨#[]⟩] #[.string (sP y), .int .i64 (sM z), .string (sD y)])
  have KF := Lib.hid (both_row2 w (fileA x) (fileA y) (fileA z) #[.string ⟨#[]⟩, .int .i64 0, .string ⟨#[]⟩] #[.string (sP y), .int .i64 (sM z), .string (sD y)])
  have B5 := Lib.hid (both_below w (fileA x) (fileA y) (fileA z) #[.string ⟨#[]⟩, .int .i64 0, .string ⟨#[]⟩] #[.string (sP y), .int .i64 (sM z), .string (sD y)])
  go_enter Tryz.func38, Tryz.ntmps38
  go_wp2_with fail
  generalize hW5 : ((((w.alloc (.cells (fileA x) 52)).alloc (.cells (fileA y) 52)).alloc (.cells (fileA z) 52)).alloc (.cells #[.string ⟨#[]⟩, .int .i64 0, .string ⟨#[]⟩] 52)).alloc (.cells #[.string (sP y), .int .i64 (sM z), .string (sD y)] 52) = W5 at *
  clear hW5
  obtain ⟨g, hg⟩ : ∃ g, g = w.heap.size + 1 + 1 + 1 := ⟨_, rfl⟩
  rw [← hg] at KR KF ⊢
  have HG := Lib.hid (show w.heap.size ≤ g by omega)
  clear hg
  refine (HT.out W5).mono ?_
  rintro e w2 ⟨rfl, b2⟩
  have KR2 := Lib.hid ((KR.out.below b2 KR.out.lt).alloc (.cells #[.slice none 0 0, .int .i64 0] 40))
  have KF2 := Lib.hid ((KF.out.below b2 KF.out.lt).alloc (.cells #[.slice none 0 0, .int .i64 0] 40))
  have B6 := Lib.hid ((B5.out.trans (b2.mono B5.out.size)).alloc (by have := B5.out.size; have := b2.size; omega) (.cells #[.slice none 0 0, .int .i64 0] 40))
  have X1 := (Blk.new w2 40 #[.slice none 0 0, .int .i64 0]).cell 1
  have hlt : g + 1 < w2.heap.size := (KF.out.below b2 KF.out.lt).lt
  have hne : g + 1 ≠ w2.heap.size := by omega
  have hne2 : g ≠ w2.heap.size := by omega
  have r0 := KR2.out.cell 0
  have f0 := KF2.out.cell 0
  have zr0 := KR2.out.frozen 0
  have zf0 := KF2.out.frozen 0
  have r1 := KR2.out.cell 1
  have f1 := KF2.out.cell 1
  have zr1 := KR2.out.frozen 1
  have zf1 := KF2.out.frozen 1
  have r2 := KR2.out.cell 2
  have f2 := KF2.out.cell 2
  have zr2 := KR2.out.frozen 2
  have zf2 := KF2.out.frozen 2
  have KRw := Lib.hid ((KR.out.below b2 KR.out.lt).far (p := ⟨g + 1, 2, none⟩) (show g ≠ g + 1 by omega) (.string s))
  have KR3 := Lib.hid (KRw.out.alloc (.cells #[.slice none 0 0, .int .i64 0] 40))
  have KF3 : Hid (Blk ((w2.setCell ⟨g + 1, 2, none⟩ (.string s)).alloc (.cells #[.slice none 0 0, .int .i64 0] 40)) (g + 1) 52 #[.string (sP y), .int .i64 (sM z), .string s]) := Lib.hid (by simpa using ((KF.out.below b2 KF.out.lt).set_ 2 (.string s)).alloc (.cells #[.slice none 0 0, .int .i64 0] 40))
  have Bw := Lib.hid ((B5.out.trans (b2.mono B5.out.size)).setCell (p := ⟨g + 1, 2, none⟩) (show w.heap.size ≤ g + 1 by have := HG.out; omega) (.string s))
  have hsz : (w2.setCell ⟨g + 1, 2, none⟩ (.string s)).heap.size = w2.heap.size := by simp
  have r0' := KR3.out.cell 0
  have f0' := KF3.out.cell 0
  have zr0' := KR3.out.frozen 0
  have zf0' := KF3.out.frozen 0
  have r1' := KR3.out.cell 1
  have f1' := KF3.out.cell 1
  have zr1' := KR3.out.frozen 1
  have zf1' := KF3.out.frozen 1
  have r2' := KR3.out.cell 2
  have f2' := KF3.out.cell 2
  have zr2' := KR3.out.frozen 2
  have zf2' := KF3.out.frozen 2
  clear KR KF B5 HT b2
  go_wp2_with fail
  refine bodyPost_ret (results_row_tmp (fn := Tryz.f38) rfl _ _ g 52 #[.string (sP y), .int .i64 (sM z), .string (s)] (0, 0) _ rfl (by first | exact row52 KR3.out rfl _ _ _ | exact (row52 KRw.out rfl _ _ _).alloc _) Tryz.underlying52 rfl fSize52) rfl ⟨by first | rfl | (simp; done) | simp [dk], ?_⟩
  first | exact (((Bw.out.alloc Bw.out.size _).setCell (p := ⟨g, 0, none⟩) HG.out _).setCell (p := ⟨g, 1, none⟩) HG.out _).setCell (p := ⟨g, 2, none⟩) HG.out _ | exact (((Bw.out.setCell (p := ⟨g, 0, none⟩) HG.out _).setCell (p := ⟨g, 1, none⟩) HG.out _).setCell (p := ⟨g, 2, none⟩) HG.out _).alloc (by simp; have := Bw.out.size; simp at this; omega) _
set_option maxRecDepth 100000 in
set_option maxHeartbeats 4000000 in
theorem both_21 (w : World) (x y z : Option Fl) (a n : ByteArray) (o : TxO) (hx : x.isSome = true) (hm : ¬ sM x = sM y) (h1 : sD y = sD z) :
    Calls Tryz.prog 38 #[.agg (fileA x), .bool x.isSome, .agg (fileA y), .agg (fileA z), .string a, .string n] w (BothTold (bothV o x y z) w) := by
  have hd : mdV o x (sD y) (sD z) = (sD y, false) := by
    unfold mdV
    rw [if_pos h1]
  have hv : bothV o x y z = ((sP y, sM y, sD y), false) := by
    unfold bothV
    rw [hd, if_neg (fun h => hm h.2)]
  rw [hv]
  clear hd hv
  have e1 := ba_eqT h1
  have em : (sM x == sM y) = false := by simpa using hm
  unfold BothTold
  clear h1 hm
  go_enter Tryz.func38, Tryz.ntmps38
  go_wp2_with fail
  refine bodyPost_ret (results_row_tmp (fn := Tryz.f38) rfl _ _ (w.heap.size + 1 + 1 + 1) 52 #[.string (sP y), .int .i64 (sM y), .string (sD y)] (0, 0) _ rfl (both_row w _ _ _ _ _) Tryz.underlying52 rfl fSize52) rfl ⟨rfl, both_below w _ _ _ _ _⟩
set_option maxRecDepth 100000 in
set_option maxHeartbeats 4000000 in
theorem both_22 (w : World) (x y z : Option Fl) (a n : ByteArray) (o : TxO) (hx : x.isSome = true) (hm : ¬ sM x = sM y) (h1 : ¬ sD y = sD z) (h2 : sD x = sD y) :
    Calls Tryz.prog 38 #[.agg (fileA x), .bool x.isSome, .agg (fileA y), .agg (fileA z), .string a, .string n] w (BothTold (bothV o x y z) w) := by
  have hd : mdV o x (sD y) (sD z) = (sD z, false) := by
    unfold mdV
    rw [if_neg h1, if_pos ⟨hx, h2⟩]
  have hv : bothV o x y z = ((sP y, sM y, sD z), false) := by
    unfold bothV
    rw [hd, if_neg (fun h => hm h.2)]
  rw [hv]
  clear hd hv
  have e1 := ba_neF h1
  have e2 := ba_eqT h2.symm
  have em : (sM x == sM y) = false := by simpa using hm
  unfold BothTold
  clear h1 hm h2
  go_enter Tryz.func38, Tryz.ntmps38
  go_wp2_with fail
  refine bodyPost_ret (results_row_tmp (fn := Tryz.f38) rfl _ _ (w.heap.size + 1 + 1 + 1) 52 #[.string (sP y), .int .i64 (sM y), .string (sD z)] (0, 0) _ rfl (both_row w _ _ _ _ _) Tryz.underlying52 rfl fSize52) rfl ⟨rfl, both_below w _ _ _ _ _⟩
set_option maxRecDepth 100000 in
set_option maxHeartbeats 4000000 in
theorem both_23 (w : World) (x y z : Option Fl) (a n : ByteArray) (o : TxO) (hx : x.isSome = true) (hm : ¬ sM x = sM y) (h1 : ¬ sD y = sD z) (h2 : ¬ sD x = sD y) (h3 : sD x = sD z) :
    Calls Tryz.prog 38 #[.agg (fileA x), .bool x.isSome, .agg (fileA y), .agg (fileA z), .string a, .string n] w (BothTold (bothV o x y z) w) := by
  have hd : mdV o x (sD y) (sD z) = (sD y, false) := by
    unfold mdV
    rw [if_neg h1, if_neg (fun h => h2 h.2), if_pos ⟨hx, h3⟩]
  have hv : bothV o x y z = ((sP y, sM y, sD y), false) := by
    unfold bothV
    rw [hd, if_neg (fun h => hm h.2)]
  rw [hv]
  clear hd hv
  have e1 := ba_neF h1
  have e2 := ba_neF (fun e => h2 e.symm)
  have e3 := ba_eqT h3.symm
  have em : (sM x == sM y) = false := by simpa using hm
  unfold BothTold
  clear h1 hm h2 h3
  go_enter Tryz.func38, Tryz.ntmps38
  go_wp2_with fail
  refine bodyPost_ret (results_row_tmp (fn := Tryz.f38) rfl _ _ (w.heap.size + 1 + 1 + 1) 52 #[.string (sP y), .int .i64 (sM y), .string (sD y)] (0, 0) _ rfl (both_row w _ _ _ _ _) Tryz.underlying52 rfl fSize52) rfl ⟨rfl, both_below w _ _ _ _ _⟩
set_option maxRecDepth 100000 in
set_option maxHeartbeats 4000000 in
theorem both_24 (w : World) (x y z : Option Fl) (a n : ByteArray)  (hx : x.isSome = true) (hm : ¬ sM x = sM y) (h1 : ¬ sD y = sD z) (h2 : ¬ sD x = sD y) (h3 : ¬ sD x = sD z) (hT : ∀ W, RefSays none (sD x) (sD y) (sD z) a n W) :
    Calls Tryz.prog 38 #[.agg (fileA x), .bool x.isSome, .agg (fileA y), .agg (fileA z), .string a, .string n] w (BothTold (bothV none x y z) w) := by
  have hd : mdV none x (sD y) (sD z) = (sD y, true) := by
    unfold mdV
    rw [if_neg h1, if_neg (fun h => h2 h.2), if_neg (fun h => h3 h.2)]
  have hv : bothV none x y z = ((sP y, sM y, sD y), true) := by
    unfold bothV
    rw [hd, if_neg (fun h => hm h.2)]
  rw [hv]
  clear hd hv
  have e1 := ba_neF h1
  have e2 := ba_neF (fun e => h2 e.symm)
  have e3 := ba_neF (fun e => h3 e.symm)
  have em : (sM x == sM y) = false := by simpa using hm
  unfold BothTold
  have HT := Lib.hid hT
  unfold RefSays at HT
  clear hT h1 hm h2 h3
  have KR := Lib.hid (both_row w (fileA x) (fileA y) (fileA z) #[.string ⟨#[]⟩, .int .i64 0, .string ⟨#[]⟩] #[.string (sP y), .int .i64 (sM y), .string (sD y)])
  have KF := Lib.hid (both_row2 w (fileA x) (fileA y) (fileA z) #[.string ⟨#[]⟩, .int .i64 0, .string ⟨#[]⟩] #[.string (sP y), .int .i64 (sM y), .string (sD y)])
  have B5 := Lib.hid (both_below w (fileA x) (fileA y) (fileA z) #[.string ⟨#[]⟩, .int .i64 0, .string ⟨#[]⟩] #[.string (sP y), .int .i64 (sM y), .string (sD y)])
  go_enter Tryz.func38, Tryz.ntmps38
  go_wp2_with fail
  generalize hW5 : ((((w.alloc (.cells (fileA x) 52)).alloc (.cells (fileA y) 52)).alloc (.cells (fileA z) 52)).alloc (.cells #[.string ⟨#[]⟩, .int .i64 0, .string ⟨#[]⟩] 52)).alloc (.cells #[.string (sP y), .int .i64 (sM y), .string (sD y)] 52) = W5 at *
  clear hW5
  obtain ⟨g, hg⟩ : ∃ g, g = w.heap.size + 1 + 1 + 1 := ⟨_, rfl⟩
  rw [← hg] at KR KF ⊢
  have HG := Lib.hid (show w.heap.size ≤ g by omega)
  clear hg
  refine (HT.out W5).mono ?_
  rintro e w2 ⟨⟨q, rfl⟩, b2⟩
  have KR2 := Lib.hid ((KR.out.below b2 KR.out.lt).alloc (.cells #[.slice (some ⟨q, 0, none⟩) 1 1, .int .i64 4] 40))
  have KF2 := Lib.hid ((KF.out.below b2 KF.out.lt).alloc (.cells #[.slice (some ⟨q, 0, none⟩) 1 1, .int .i64 4] 40))
  have B6 := Lib.hid ((B5.out.trans (b2.mono B5.out.size)).alloc (by have := B5.out.size; have := b2.size; omega) (.cells #[.slice (some ⟨q, 0, none⟩) 1 1, .int .i64 4] 40))
  have X1 := (Blk.new w2 40 #[.slice (some ⟨q, 0, none⟩) 1 1, .int .i64 4]).cell 1
  have hlt : g + 1 < w2.heap.size := (KF.out.below b2 KF.out.lt).lt
  have hne : g + 1 ≠ w2.heap.size := by omega
  have hne2 : g ≠ w2.heap.size := by omega
  have r0 := KR2.out.cell 0
  have f0 := KF2.out.cell 0
  have zr0 := KR2.out.frozen 0
  have zf0 := KF2.out.frozen 0
  have r1 := KR2.out.cell 1
  have f1 := KF2.out.cell 1
  have zr1 := KR2.out.frozen 1
  have zf1 := KF2.out.frozen 1
  have r2 := KR2.out.cell 2
  have f2 := KF2.out.cell 2
  have zr2 := KR2.out.frozen 2
  have zf2 := KF2.out.frozen 2
  clear KR KF B5 HT b2
  go_wp2_with fail
  refine bodyPost_ret (results_row_tmp (fn := Tryz.f38) rfl _ _ g 52 #[.string (sP y), .int .i64 (sM y), .string (sD y)] (0, 0) _ rfl (row52 KR2.out rfl _ _ _) Tryz.underlying52 rfl fSize52) rfl ⟨rfl, ?_⟩
  exact ((B6.out.setCell (p := ⟨g, 0, none⟩) HG.out _).setCell (p := ⟨g, 1, none⟩) HG.out _).setCell (p := ⟨g, 2, none⟩) HG.out _
set_option maxRecDepth 100000 in
set_option maxHeartbeats 4000000 in
theorem both_25 (w : World) (x y z : Option Fl) (a n : ByteArray) (s : ByteArray) (k : Nat) (h4 : 4096 < s.size) (hb : s.size ≤ 1000000000) (hx : x.isSome = true) (hm : ¬ sM x = sM y) (h1 : ¬ sD y = sD z) (h2 : ¬ sD x = sD y) (h3 : ¬ sD x = sD z) (hT : ∀ W, RefSays (some (s, k)) (sD x) (sD y) (sD z) a n W) :
    Calls Tryz.prog 38 #[.agg (fileA x), .bool x.isSome, .agg (fileA y), .agg (fileA z), .string a, .string n] w (BothTold (bothV (some (s, k)) x y z) w) := by
  have hd : mdV (some (s, k)) x (sD y) (sD z) = (sD y, true) := by
    unfold mdV
    rw [if_neg h1, if_neg (fun h => h2 h.2), if_neg (fun h => h3 h.2)]
    exact if_pos h4
  have hv : bothV (some (s, k)) x y z = ((sP y, sM y, sD y), true) := by
    unfold bothV
    rw [hd, if_neg (fun h => hm h.2)]
  rw [hv]
  clear hd hv
  have e1 := ba_neF h1
  have e2 := ba_neF (fun e => h2 e.symm)
  have e3 := ba_neF (fun e => h3 e.symm)
  have em : (sM x == sM y) = false := by simpa using hm
  have d4 : decide ((4096 : Int) < (s.size : Int)) = true := decide_eq_true (by omega)
  have hs : (s.size : Int) ≤ 1000000000 := by omega
  unfold BothTold
  have HT := Lib.hid hT
  unfold RefSays at HT
  clear hT h1 hm h2 h3 h4 hb
  have KR := Lib.hid (both_row w (fileA x) (fileA y) (fileA z) #[.string ⟨#[]⟩, .int .i64 0, .string ⟨#[]⟩] #[.string (sP y), .int .i64 (sM y), .string (sD y)])
  have KF := Lib.hid (both_row2 w (fileA x) (fileA y) (fileA z) #[.string ⟨#[]⟩, .int .i64 0, .string ⟨#[]⟩] #[.string (sP y), .int .i64 (sM y), .string (sD y)])
  have B5 := Lib.hid (both_below w (fileA x) (fileA y) (fileA z) #[.string ⟨#[]⟩, .int .i64 0, .string ⟨#[]⟩] #[.string (sP y), .int .i64 (sM y), .string (sD y)])
  go_enter Tryz.func38, Tryz.ntmps38
  go_wp2_with fail
  generalize hW5 : ((((w.alloc (.cells (fileA x) 52)).alloc (.cells (fileA y) 52)).alloc (.cells (fileA z) 52)).alloc (.cells #[.string ⟨#[]⟩, .int .i64 0, .string ⟨#[]⟩] 52)).alloc (.cells #[.string (sP y), .int .i64 (sM y), .string (sD y)] 52) = W5 at *
  clear hW5
  obtain ⟨g, hg⟩ : ∃ g, g = w.heap.size + 1 + 1 + 1 := ⟨_, rfl⟩
  rw [← hg] at KR KF ⊢
  have HG := Lib.hid (show w.heap.size ≤ g by omega)
  clear hg
  refine (HT.out W5).mono ?_
  rintro e w2 ⟨rfl, b2⟩
  have KR2 := Lib.hid ((KR.out.below b2 KR.out.lt).alloc (.cells #[.slice none 0 0, .int .i64 0] 40))
  have KF2 := Lib.hid ((KF.out.below b2 KF.out.lt).alloc (.cells #[.slice none 0 0, .int .i64 0] 40))
  have B6 := Lib.hid ((B5.out.trans (b2.mono B5.out.size)).alloc (by have := B5.out.size; have := b2.size; omega) (.cells #[.slice none 0 0, .int .i64 0] 40))
  have X1 := (Blk.new w2 40 #[.slice none 0 0, .int .i64 0]).cell 1
  have hlt : g + 1 < w2.heap.size := (KF.out.below b2 KF.out.lt).lt
  have hne : g + 1 ≠ w2.heap.size := by omega
  have hne2 : g ≠ w2.heap.size := by omega
  have r0 := KR2.out.cell 0
  have f0 := KF2.out.cell 0
  have zr0 := KR2.out.frozen 0
  have zf0 := KF2.out.frozen 0
  have r1 := KR2.out.cell 1
  have f1 := KF2.out.cell 1
  have zr1 := KR2.out.frozen 1
  have zf1 := KF2.out.frozen 1
  have r2 := KR2.out.cell 2
  have f2 := KF2.out.cell 2
  have zr2 := KR2.out.frozen 2
  have zf2 := KF2.out.frozen 2
  clear KR KF B5 HT b2
  go_wp2_with fail
  refine bodyPost_ret (results_row_tmp (fn := Tryz.f38) rfl _ _ g 52 #[.string (sP y), .int .i64 (sM y), .string (sD y)] (0, 0) _ rfl (row52 KR2.out rfl _ _ _) Tryz.underlying52 rfl fSize52) rfl ⟨rfl, ?_⟩
  exact ((B6.out.setCell (p := ⟨g, 0, none⟩) HG.out _).setCell (p := ⟨g, 1, none⟩) HG.out _).setCell (p := ⟨g, 2, none⟩) HG.out _
set_option maxRecDepth 100000 in
set_option maxHeartbeats 4000000 in
theorem both_26 (w : World) (x y z : Option Fl) (a n : ByteArray) (s : ByteArray) (k : Nat) (h4 : ¬ 4096 < s.size) (hx : x.isSome = true) (hm : ¬ sM x = sM y) (h1 : ¬ sD y = sD z) (h2 : ¬ sD x = sD y) (h3 : ¬ sD x = sD z) (hT : ∀ W, RefSays (some (s, k)) (sD x) (sD y) (sD z) a n W) :
    Calls Tryz.prog 38 #[.agg (fileA x), .bool x.isSome, .agg (fileA y), .agg (fileA z), .string a, .string n] w (BothTold (bothV (some (s, k)) x y z) w) := by
  have hd : mdV (some (s, k)) x (sD y) (sD z) = (s, decide (0 < k)) := by
    unfold mdV
    rw [if_neg h1, if_neg (fun h => h2 h.2), if_neg (fun h => h3 h.2)]
    exact if_neg h4
  have hv : bothV (some (s, k)) x y z = ((sP y, sM y, s), decide (0 < k)) := by
    unfold bothV
    rw [hd, if_neg (fun h => hm h.2)]
  rw [hv]
  clear hd hv
  have e1 := ba_neF h1
  have e2 := ba_neF (fun e => h2 e.symm)
  have e3 := ba_neF (fun e => h3 e.symm)
  have em : (sM x == sM y) = false := by simpa using hm
  have d4 : decide ((4096 : Int) < (s.size : Int)) = false := decide_eq_false (by omega)
  have dk : decide ((0 : Int) < (k : Int)) = decide (0 < k) := by by_cases hk : 0 < k <;> simp [hk]
  have hs : (s.size : Int) ≤ 1000000000 := by omega
  unfold BothTold
  have HT := Lib.hid hT
  unfold RefSays at HT
  clear hT h1 hm h2 h3 h4
  have KR := Lib.hid (both_row w (fileA x) (fileA y) (fileA z) #[.string ⟨#[]⟩, .int .i64 0, .string ⟨#[]⟩] #[.string (sP y), .int .i64 (sM y), .string (sD y)])
  have KF := Lib.hid (both_row2 w (fileA x) (fileA y) (fileA z) #[.string ⟨#[]⟩, .int .i64 0, .string ⟨#[]⟩] #[.string (sP y), .int .i64 (sM y), .string (sD y)])
  have B5 := Lib.hid (both_below w (fileA x) (fileA y) (fileA z) #[.string ⟨#[]⟩, .int .i64 0, .string ⟨#[]⟩] #[.string (sP y), .int .i64 (sM y), .string (sD y)])
  go_enter Tryz.func38, Tryz.ntmps38
  go_wp2_with fail
  generalize hW5 : ((((w.alloc (.cells (fileA x) 52)).alloc (.cells (fileA y) 52)).alloc (.cells (fileA z) 52)).alloc (.cells #[.string ⟨#[]⟩, .int .i64 0, .string ⟨#[]⟩] 52)).alloc (.cells #[.string (sP y), .int .i64 (sM y), .string (sD y)] 52) = W5 at *
  clear hW5
  obtain ⟨g, hg⟩ : ∃ g, g = w.heap.size + 1 + 1 + 1 := ⟨_, rfl⟩
  rw [← hg] at KR KF ⊢
  have HG := Lib.hid (show w.heap.size ≤ g by omega)
  clear hg
  refine (HT.out W5).mono ?_
  rintro e w2 ⟨rfl, b2⟩
  have KR2 := Lib.hid ((KR.out.below b2 KR.out.lt).alloc (.cells #[.slice none 0 0, .int .i64 0] 40))
  have KF2 := Lib.hid ((KF.out.below b2 KF.out.lt).alloc (.cells #[.slice none 0 0, .int .i64 0] 40))
  have B6 := Lib.hid ((B5.out.trans (b2.mono B5.out.size)).alloc (by have := B5.out.size; have := b2.size; omega) (.cells #[.slice none 0 0, .int .i64 0] 40))
  have X1 := (Blk.new w2 40 #[.slice none 0 0, .int .i64 0]).cell 1
  have hlt : g + 1 < w2.heap.size := (KF.out.below b2 KF.out.lt).lt
  have hne : g + 1 ≠ w2.heap.size := by omega
  have hne2 : g ≠ w2.heap.size := by omega
  have r0 := KR2.out.cell 0
  have f0 := KF2.out.cell 0
  have zr0 := KR2.out.frozen 0
  have zf0 := KF2.out.frozen 0
  have r1 := KR2.out.cell 1
  have f1 := KF2.out.cell 1
  have zr1 := KR2.out.frozen 1
  have zf1 := KF2.out.frozen 1
  have r2 := KR2.out.cell 2
  have f2 := KF2.out.cell 2
  have zr2 := KR2.out.frozen 2
  have zf2 := KF2.out.frozen 2
  have KRw := Lib.hid ((KR.out.below b2 KR.out.lt).far (p := ⟨g + 1, 2, none⟩) (show g ≠ g + 1 by omega) (.string s))
  have KR3 := Lib.hid (KRw.out.alloc (.cells #[.slice none 0 0, .int .i64 0] 40))
  have KF3 : Hid (Blk ((w2.setCell ⟨g + 1, 2, none⟩ (.string s)).alloc (.cells #[.slice none 0 0, .int .i64 0] 40)) (g + 1) 52 #[.string (sP y), .int .i64 (sM y), .string s]) := Lib.hid (by simpa using ((KF.out.below b2 KF.out.lt).set_ 2 (.string s)).alloc (.cells #[.slice none 0 0, .int .i64 0] 40))
  have Bw := Lib.hid ((B5.out.trans (b2.mono B5.out.size)).setCell (p := ⟨g + 1, 2, none⟩) (show w.heap.size ≤ g + 1 by have := HG.out; omega) (.string s))
  have hsz : (w2.setCell ⟨g + 1, 2, none⟩ (.string s)).heap.size = w2.heap.size := by simp
  have r0' := KR3.out.cell 0
  have f0' := KF3.out.cell 0
  have zr0' := KR3.out.frozen 0
  have zf0' := KF3.out.frozen 0
  have r1' := KR3.out.cell 1
  have f1' := KF3.out.cell 1
  have zr1' := KR3.out.frozen 1
  have zf1' := KF3.out.frozen 1
  have r2' := KR3.out.cell 2
  have f2' := KF3.out.cell 2
  have zr2' := KR3.out.frozen 2
  have zf2' := KF3.out.frozen 2
  clear KR KF B5 HT b2
  go_wp2_with fail
  refine bodyPost_ret (results_row_tmp (fn := Tryz.f38) rfl _ _ g 52 #[.string (sP y), .int .i64 (sM y), .string (s)] (0, 0) _ rfl (by first | exact row52 KR3.out rfl _ _ _ | exact (row52 KRw.out rfl _ _ _).alloc _) Tryz.underlying52 rfl fSize52) rfl ⟨by first | rfl | (simp; done) | simp [dk], ?_⟩
  first | exact (((Bw.out.alloc Bw.out.size _).setCell (p := ⟨g, 0, none⟩) HG.out _).setCell (p := ⟨g, 1, none⟩) HG.out _).setCell (p := ⟨g, 2, none⟩) HG.out _ | exact (((Bw.out.setCell (p := ⟨g, 0, none⟩) HG.out _).setCell (p := ⟨g, 1, none⟩) HG.out _).setCell (p := ⟨g, 2, none⟩) HG.out _).alloc (by simp; have := Bw.out.size; simp at this; omega) _
set_option maxRecDepth 100000 in
set_option maxHeartbeats 4000000 in
theorem both_31 (w : World) (x y z : Option Fl) (a n : ByteArray) (o : TxO) (hx : x.isSome = false) (h1 : sD y = sD z) :
    Calls Tryz.prog 38 #[.agg (fileA x), .bool x.isSome, .agg (fileA y), .agg (fileA z), .string a, .string n] w (BothTold (bothV o x y z) w) := by
  have hd : mdV o x (sD y) (sD z) = (sD y, false) := by
    unfold mdV
    rw [if_pos h1]
  have hv : bothV o x y z = ((sP y, sM y, sD y), false) := by
    unfold bothV
    rw [hd, if_neg (fun h => by rw [hx] at h; cases h.1)]
  rw [hv]
  clear hd hv
  have e1 := ba_eqT h1
  unfold BothTold
  clear h1
  go_enter Tryz.func38, Tryz.ntmps38
  go_wp2_with fail
  refine bodyPost_ret (results_row_tmp (fn := Tryz.f38) rfl _ _ (w.heap.size + 1 + 1 + 1) 52 #[.string (sP y), .int .i64 (sM y), .string (sD y)] (0, 0) _ rfl (both_row w _ _ _ _ _) Tryz.underlying52 rfl fSize52) rfl ⟨rfl, both_below w _ _ _ _ _⟩
set_option maxRecDepth 100000 in
set_option maxHeartbeats 4000000 in
theorem both_34 (w : World) (x y z : Option Fl) (a n : ByteArray)  (hx : x.isSome = false) (h1 : ¬ sD y = sD z) (hT : ∀ W, RefSays none (sD x) (sD y) (sD z) a n W) :
    Calls Tryz.prog 38 #[.agg (fileA x), .bool x.isSome, .agg (fileA y), .agg (fileA z), .string a, .string n] w (BothTold (bothV none x y z) w) := by
  have hd : mdV none x (sD y) (sD z) = (sD y, true) := by
    unfold mdV
    rw [if_neg h1, if_neg (fun h => by rw [hx] at h; cases h.1), if_neg (fun h => by rw [hx] at h; cases h.1)]
  have hv : bothV none x y z = ((sP y, sM y, sD y), true) := by
    unfold bothV
    rw [hd, if_neg (fun h => by rw [hx] at h; cases h.1)]
  rw [hv]
  clear hd hv
  have e1 := ba_neF h1
  unfold BothTold
  have HT := Lib.hid hT
  unfold RefSays at HT
  clear hT h1
  have KR := Lib.hid (both_row w (fileA x) (fileA y) (fileA z) #[.string ⟨#[]⟩, .int .i64 0, .string ⟨#[]⟩] #[.string (sP y), .int .i64 (sM y), .string (sD y)])
  have KF := Lib.hid (both_row2 w (fileA x) (fileA y) (fileA z) #[.string ⟨#[]⟩, .int .i64 0, .string ⟨#[]⟩] #[.string (sP y), .int .i64 (sM y), .string (sD y)])
  have B5 := Lib.hid (both_below w (fileA x) (fileA y) (fileA z) #[.string ⟨#[]⟩, .int .i64 0, .string ⟨#[]⟩] #[.string (sP y), .int .i64 (sM y), .string (sD y)])
  go_enter Tryz.func38, Tryz.ntmps38
  go_wp2_with fail
  generalize hW5 : ((((w.alloc (.cells (fileA x) 52)).alloc (.cells (fileA y) 52)).alloc (.cells (fileA z) 52)).alloc (.cells #[.string ⟨#[]⟩, .int .i64 0, .string ⟨#[]⟩] 52)).alloc (.cells #[.string (sP y), .int .i64 (sM y), .string (sD y)] 52) = W5 at *
  clear hW5
  obtain ⟨g, hg⟩ : ∃ g, g = w.heap.size + 1 + 1 + 1 := ⟨_, rfl⟩
  rw [← hg] at KR KF ⊢
  have HG := Lib.hid (show w.heap.size ≤ g by omega)
  clear hg
  refine (HT.out W5).mono ?_
  rintro e w2 ⟨⟨q, rfl⟩, b2⟩
  have KR2 := Lib.hid ((KR.out.below b2 KR.out.lt).alloc (.cells #[.slice (some ⟨q, 0, none⟩) 1 1, .int .i64 4] 40))
  have KF2 := Lib.hid ((KF.out.below b2 KF.out.lt).alloc (.cells #[.slice (some ⟨q, 0, none⟩) 1 1, .int .i64 4] 40))
  have B6 := Lib.hid ((B5.out.trans (b2.mono B5.out.size)).alloc (by have := B5.out.size; have := b2.size; omega) (.cells #[.slice (some ⟨q, 0, none⟩) 1 1, .int .i64 4] 40))
  have X1 := (Blk.new w2 40 #[.slice (some ⟨q, 0, none⟩) 1 1, .int .i64 4]).cell 1
  have hlt : g + 1 < w2.heap.size := (KF.out.below b2 KF.out.lt).lt
  have hne : g + 1 ≠ w2.heap.size := by omega
  have hne2 : g ≠ w2.heap.size := by omega
  have r0 := KR2.out.cell 0
  have f0 := KF2.out.cell 0
  have zr0 := KR2.out.frozen 0
  have zf0 := KF2.out.frozen 0
  have r1 := KR2.out.cell 1
  have f1 := KF2.out.cell 1
  have zr1 := KR2.out.frozen 1
  have zf1 := KF2.out.frozen 1
  have r2 := KR2.out.cell 2
  have f2 := KF2.out.cell 2
  have zr2 := KR2.out.frozen 2
  have zf2 := KF2.out.frozen 2
  clear KR KF B5 HT b2
  go_wp2_with fail
  refine bodyPost_ret (results_row_tmp (fn := Tryz.f38) rfl _ _ g 52 #[.string (sP y), .int .i64 (sM y), .string (sD y)] (0, 0) _ rfl (row52 KR2.out rfl _ _ _) Tryz.underlying52 rfl fSize52) rfl ⟨rfl, ?_⟩
  exact ((B6.out.setCell (p := ⟨g, 0, none⟩) HG.out _).setCell (p := ⟨g, 1, none⟩) HG.out _).setCell (p := ⟨g, 2, none⟩) HG.out _
set_option maxRecDepth 100000 in
set_option maxHeartbeats 4000000 in
theorem both_35 (w : World) (x y z : Option Fl) (a n : ByteArray) (s : ByteArray) (k : Nat) (h4 : 4096 < s.size) (hb : s.size ≤ 1000000000) (hx : x.isSome = false) (h1 : ¬ sD y = sD z) (hT : ∀ W, RefSays (some (s, k)) (sD x) (sD y) (sD z) a n W) :
    Calls Tryz.prog 38 #[.agg (fileA x), .bool x.isSome, .agg (fileA y), .agg (fileA z), .string a, .string n] w (BothTold (bothV (some (s, k)) x y z) w) := by
  have hd : mdV (some (s, k)) x (sD y) (sD z) = (sD y, true) := by
    unfold mdV
    rw [if_neg h1, if_neg (fun h => by rw [hx] at h; cases h.1), if_neg (fun h => by rw [hx] at h; cases h.1)]
    exact if_pos h4
  have hv : bothV (some (s, k)) x y z = ((sP y, sM y, sD y), true) := by
    unfold bothV
    rw [hd, if_neg (fun h => by rw [hx] at h; cases h.1)]
  rw [hv]
  clear hd hv
  have e1 := ba_neF h1
  have d4 : decide ((4096 : Int) < (s.size : Int)) = true := decide_eq_true (by omega)
  have hs : (s.size : Int) ≤ 1000000000 := by omega
  unfold BothTold
  have HT := Lib.hid hT
  unfold RefSays at HT
  clear hT h1 h4 hb
  have KR := Lib.hid (both_row w (fileA x) (fileA y) (fileA z) #[.string ⟨#[]⟩, .int .i64 0, .string ⟨#[]⟩] #[.string (sP y), .int .i64 (sM y), .string (sD y)])
  have KF := Lib.hid (both_row2 w (fileA x) (fileA y) (fileA z) #[.string ⟨#[]⟩, .int .i64 0, .string ⟨#[]⟩] #[.string (sP y), .int .i64 (sM y), .string (sD y)])
  have B5 := Lib.hid (both_below w (fileA x) (fileA y) (fileA z) #[.string ⟨#[]⟩, .int .i64 0, .string ⟨#[]⟩] #[.string (sP y), .int .i64 (sM y), .string (sD y)])
  go_enter Tryz.func38, Tryz.ntmps38
  go_wp2_with fail
  generalize hW5 : ((((w.alloc (.cells (fileA x) 52)).alloc (.cells (fileA y) 52)).alloc (.cells (fileA z) 52)).alloc (.cells #[.string ⟨#[]⟩, .int .i64 0, .string ⟨#[]⟩] 52)).alloc (.cells #[.string (sP y), .int .i64 (sM y), .string (sD y)] 52) = W5 at *
  clear hW5
  obtain ⟨g, hg⟩ : ∃ g, g = w.heap.size + 1 + 1 + 1 := ⟨_, rfl⟩
  rw [← hg] at KR KF ⊢
  have HG := Lib.hid (show w.heap.size ≤ g by omega)
  clear hg
  refine (HT.out W5).mono ?_
  rintro e w2 ⟨rfl, b2⟩
  have KR2 := Lib.hid ((KR.out.below b2 KR.out.lt).alloc (.cells #[.slice none 0 0, .int .i64 0] 40))
  have KF2 := Lib.hid ((KF.out.below b2 KF.out.lt).alloc (.cells #[.slice none 0 0, .int .i64 0] 40))
  have B6 := Lib.hid ((B5.out.trans (b2.mono B5.out.size)).alloc (by have := B5.out.size; have := b2.size; omega) (.cells #[.slice none 0 0, .int .i64 0] 40))
  have X1 := (Blk.new w2 40 #[.slice none 0 0, .int .i64 0]).cell 1
  have hlt : g + 1 < w2.heap.size := (KF.out.below b2 KF.out.lt).lt
  have hne : g + 1 ≠ w2.heap.size := by omega
  have hne2 : g ≠ w2.heap.size := by omega
  have r0 := KR2.out.cell 0
  have f0 := KF2.out.cell 0
  have zr0 := KR2.out.frozen 0
  have zf0 := KF2.out.frozen 0
  have r1 := KR2.out.cell 1
  have f1 := KF2.out.cell 1
  have zr1 := KR2.out.frozen 1
  have zf1 := KF2.out.frozen 1
  have r2 := KR2.out.cell 2
  have f2 := KF2.out.cell 2
  have zr2 := KR2.out.frozen 2
  have zf2 := KF2.out.frozen 2
  clear KR KF B5 HT b2
  go_wp2_with fail
  refine bodyPost_ret (results_row_tmp (fn := Tryz.f38) rfl _ _ g 52 #[.string (sP y), .int .i64 (sM y), .string (sD y)] (0, 0) _ rfl (row52 KR2.out rfl _ _ _) Tryz.underlying52 rfl fSize52) rfl ⟨rfl, ?_⟩
  exact ((B6.out.setCell (p := ⟨g, 0, none⟩) HG.out _).setCell (p := ⟨g, 1, none⟩) HG.out _).setCell (p := ⟨g, 2, none⟩) HG.out _
set_option maxRecDepth 100000 in
set_option maxHeartbeats 4000000 in
theorem both_36 (w : World) (x y z : Option Fl) (a n : ByteArray) (s : ByteArray) (k : Nat) (h4 : ¬ 4096 < s.size) (hx : x.isSome = false) (h1 : ¬ sD y = sD z) (hT : ∀ W, RefSays (some (s, k)) (sD x) (sD y) (sD z) a n W) :
    Calls Tryz.prog 38 #[.agg (fileA x), .bool x.isSome, .agg (fileA y), .agg (fileA z), .string a, .string n] w (BothTold (bothV (some (s, k)) x y z) w) := by
  have hd : mdV (some (s, k)) x (sD y) (sD z) = (s, decide (0 < k)) := by
    unfold mdV
    rw [if_neg h1, if_neg (fun h => by rw [hx] at h; cases h.1), if_neg (fun h => by rw [hx] at h; cases h.1)]
    exact if_neg h4
  have hv : bothV (some (s, k)) x y z = ((sP y, sM y, s), decide (0 < k)) := by
    unfold bothV
    rw [hd, if_neg (fun h => by rw [hx] at h; cases h.1)]
  rw [hv]
  clear hd hv
  have e1 := ba_neF h1
  have d4 : decide ((4096 : Int) < (s.size : Int)) = false := decide_eq_false (by omega)
  have dk : decide ((0 : Int) < (k : Int)) = decide (0 < k) := by by_cases hk : 0 < k <;> simp [hk]
  have hs : (s.size : Int) ≤ 1000000000 := by omega
  unfold BothTold
  have HT := Lib.hid hT
  unfold RefSays at HT
  clear hT h1 h4
  have KR := Lib.hid (both_row w (fileA x) (fileA y) (fileA z) #[.string ⟨#[]⟩, .int .i64 0, .string ⟨#[]⟩] #[.string (sP y), .int .i64 (sM y), .string (sD y)])
  have KF := Lib.hid (both_row2 w (fileA x) (fileA y) (fileA z) #[.string ⟨#[]⟩, .int .i64 0, .string ⟨#[]⟩] #[.string (sP y), .int .i64 (sM y), .string (sD y)])
  have B5 := Lib.hid (both_below w (fileA x) (fileA y) (fileA z) #[.string ⟨#[]⟩, .int .i64 0, .string ⟨#[]⟩] #[.string (sP y), .int .i64 (sM y), .string (sD y)])
  go_enter Tryz.func38, Tryz.ntmps38
  go_wp2_with fail
  generalize hW5 : ((((w.alloc (.cells (fileA x) 52)).alloc (.cells (fileA y) 52)).alloc (.cells (fileA z) 52)).alloc (.cells #[.string ⟨#[]⟩, .int .i64 0, .string ⟨#[]⟩] 52)).alloc (.cells #[.string (sP y), .int .i64 (sM y), .string (sD y)] 52) = W5 at *
  clear hW5
  obtain ⟨g, hg⟩ : ∃ g, g = w.heap.size + 1 + 1 + 1 := ⟨_, rfl⟩
  rw [← hg] at KR KF ⊢
  have HG := Lib.hid (show w.heap.size ≤ g by omega)
  clear hg
  refine (HT.out W5).mono ?_
  rintro e w2 ⟨rfl, b2⟩
  have KR2 := Lib.hid ((KR.out.below b2 KR.out.lt).alloc (.cells #[.slice none 0 0, .int .i64 0] 40))
  have KF2 := Lib.hid ((KF.out.below b2 KF.out.lt).alloc (.cells #[.slice none 0 0, .int .i64 0] 40))
  have B6 := Lib.hid ((B5.out.trans (b2.mono B5.out.size)).alloc (by have := B5.out.size; have := b2.size; omega) (.cells #[.slice none 0 0, .int .i64 0] 40))
  have X1 := (Blk.new w2 40 #[.slice none 0 0, .int .i64 0]).cell 1
  have hlt : g + 1 < w2.heap.size := (KF.out.below b2 KF.out.lt).lt
  have hne : g + 1 ≠ w2.heap.size := by omega
  have hne2 : g ≠ w2.heap.size := by omega
  have r0 := KR2.out.cell 0
  have f0 := KF2.out.cell 0
  have zr0 := KR2.out.frozen 0
  have zf0 := KF2.out.frozen 0
  have r1 := KR2.out.cell 1
  have f1 := KF2.out.cell 1
  have zr1 := KR2.out.frozen 1
  have zf1 := KF2.out.frozen 1
  have r2 := KR2.out.cell 2
  have f2 := KF2.out.cell 2
  have zr2 := KR2.out.frozen 2
  have zf2 := KF2.out.frozen 2
  have KRw := Lib.hid ((KR.out.below b2 KR.out.lt).far (p := ⟨g + 1, 2, none⟩) (show g ≠ g + 1 by omega) (.string s))
  have KR3 := Lib.hid (KRw.out.alloc (.cells #[.slice none 0 0, .int .i64 0] 40))
  have KF3 : Hid (Blk ((w2.setCell ⟨g + 1, 2, none⟩ (.string s)).alloc (.cells #[.slice none 0 0, .int .i64 0] 40)) (g + 1) 52 #[.string (sP y), .int .i64 (sM y), .string s]) := Lib.hid (by simpa using ((KF.out.below b2 KF.out.lt).set_ 2 (.string s)).alloc (.cells #[.slice none 0 0, .int .i64 0] 40))
  have Bw := Lib.hid ((B5.out.trans (b2.mono B5.out.size)).setCell (p := ⟨g + 1, 2, none⟩) (show w.heap.size ≤ g + 1 by have := HG.out; omega) (.string s))
  have hsz : (w2.setCell ⟨g + 1, 2, none⟩ (.string s)).heap.size = w2.heap.size := by simp
  have r0' := KR3.out.cell 0
  have f0' := KF3.out.cell 0
  have zr0' := KR3.out.frozen 0
  have zf0' := KF3.out.frozen 0
  have r1' := KR3.out.cell 1
  have f1' := KF3.out.cell 1
  have zr1' := KR3.out.frozen 1
  have zf1' := KF3.out.frozen 1
  have r2' := KR3.out.cell 2
  have f2' := KF3.out.cell 2
  have zr2' := KR3.out.frozen 2
  have zf2' := KF3.out.frozen 2
  clear KR KF B5 HT b2
  go_wp2_with fail
  refine bodyPost_ret (results_row_tmp (fn := Tryz.f38) rfl _ _ g 52 #[.string (sP y), .int .i64 (sM y), .string (s)] (0, 0) _ rfl (by first | exact row52 KR3.out rfl _ _ _ | exact (row52 KRw.out rfl _ _ _).alloc _) Tryz.underlying52 rfl fSize52) rfl ⟨by first | rfl | (simp; done) | simp [dk], ?_⟩
  first | exact (((Bw.out.alloc Bw.out.size _).setCell (p := ⟨g, 0, none⟩) HG.out _).setCell (p := ⟨g, 1, none⟩) HG.out _).setCell (p := ⟨g, 2, none⟩) HG.out _ | exact (((Bw.out.setCell (p := ⟨g, 0, none⟩) HG.out _).setCell (p := ⟨g, 1, none⟩) HG.out _).setCell (p := ⟨g, 2, none⟩) HG.out _).alloc (by simp; have := Bw.out.size; simp at this; omega) _
theorem both_any (w : World) (x y z : Option Fl) (a n : ByteArray) (o : TxO) (hT : ¬ sD y = sD z → ∀ W, RefSays o (sD x) (sD y) (sD z) a n W) (ho : ∀ s k, o = some (s, k) → k ≤ 1000000 ∧ s.size ≤ 1000000000) :
    Calls Tryz.prog 38 #[.agg (fileA x), .bool x.isSome, .agg (fileA y), .agg (fileA z), .string a, .string n] w (BothTold (bothV o x y z) w) := by
  cases hx : x.isSome with
  | true =>
    rw [← hx]
    by_cases hm : sM x = sM y
    · by_cases h1 : sD y = sD z
      · exact both_11 w x y z a n o hx hm h1
      by_cases h2 : sD x = sD y
      · exact both_12 w x y z a n o hx hm h1 h2
      by_cases h3 : sD x = sD z
      · exact both_13 w x y z a n o hx hm h1 h2 h3
      match o, hT h1, ho with
      | none, hT, _ => exact both_14 w x y z a n hx hm h1 h2 h3 hT
      | some (s, k), hT, ho =>
        by_cases h4 : 4096 < s.size
        · exact both_15 w x y z a n s k h4 (ho s k rfl).2 hx hm h1 h2 h3 hT
        · exact both_16 w x y z a n s k h4 hx hm h1 h2 h3 hT
    · by_cases h1 : sD y = sD z
      · exact both_21 w x y z a n o hx hm h1
      by_cases h2 : sD x = sD y
      · exact both_22 w x y z a n o hx hm h1 h2
      by_cases h3 : sD x = sD z
      · exact both_23 w x y z a n o hx hm h1 h2 h3
      match o, hT h1, ho with
      | none, hT, _ => exact both_24 w x y z a n hx hm h1 h2 h3 hT
      | some (s, k), hT, ho =>
        by_cases h4 : 4096 < s.size
        · exact both_25 w x y z a n s k h4 (ho s k rfl).2 hx hm h1 h2 h3 hT
        · exact both_26 w x y z a n s k h4 hx hm h1 h2 h3 hT
  | false =>
    rw [← hx]
    by_cases h1 : sD y = sD z
    · exact both_31 w x y z a n o hx h1
    match o, hT h1, ho with
    | none, hT, _ => exact both_34 w x y z a n hx h1 hT
    | some (s, k), hT, ho =>
      by_cases h4 : 4096 < s.size
      · exact both_35 w x y z a n s k h4 (ho s k rfl).2 hx h1 hT
      · exact both_36 w x y z a n s k h4 hx h1 hT
end Go.Proofs.YtapcnmnnichamaaGreatDoor

namespace Go.Proofs.YtapcnmnnichamaaGreatDoor
open Go Go.RowKit

/-- The blocks of One's own. -/
structure Sx (w : World) (gr g1 g2 g3 : Nat) (X Y Z : Option Fl) (W : World) : Prop where
  b : Below w.heap.size w W
  r : Blk W gr 52 #[.string ⟨#[]⟩, .int .i64 0, .string ⟨#[]⟩]
  x : Blk W g1 52 (fileA X)
  y : Blk W g2 52 (fileA Y)
  z : Blk W g3 52 (fileA Z)
theorem Sx.below {w : World} {gr g1 g2 g3 : Nat} {X Y Z : Option Fl} {W W' : World} (h : Sx w gr g1 g2 g3 X Y Z W) (hb : Below W.heap.size W W') : Sx w gr g1 g2 g3 X Y Z W' :=
  ⟨h.b.trans (hb.mono h.b.size), h.r.below hb h.r.lt, h.x.below hb h.x.lt, h.y.below hb h.y.lt, h.z.below hb h.z.lt⟩
def GetsX (p : ByteArray) (v : Value) (X : Option Fl) (w : World) : Prop := ∀ W, Below w.heap.size w W → Calls Tryz.prog 25 #[v, .string p] W fun e w' => e = .returned (.tuple #[.agg (fileA X), .bool X.isSome]) ∧ Below W.heap.size W w'
def LikeX (p : ByteArray) (v u : Value) (b : Bool) (w : World) : Prop := ∀ W, Below w.heap.size w W → Calls Tryz.prog 20 #[v, u, .string p] W (FlagTo b W)
set_option maxRecDepth 100000 in
set_option maxHeartbeats 4000000 in
theorem refOne_1 (w : World) (p : ByteArray) (vb vo vt : Value) (a n : ByteArray) (X Y Z : Option Fl) (GX : GetsX p vb X w) (GY : GetsX p vo Y w) (GZ : GetsX p vt Z w) (L1 : LikeX p vo vt true w) :
    Calls Tryz.prog 17 #[.string p, vb, vo, vt, .string a, .string n] w (OneTold (Y, false) w) := by
  have HX := Lib.hid GX
  unfold GetsX at HX
  have HY := Lib.hid GY
  unfold GetsX at HY
  have HZ := Lib.hid GZ
  unfold GetsX at HZ
  have H1 := Lib.hid L1
  unfold LikeX FlagTo at H1
  clear GX GY GZ L1
  unfold OneTold
  have B1 := Lib.hid ((Below.refl w.heap.size w).alloc (Nat.le_refl _) (.cells #[.string ⟨#[]⟩, .int .i64 0, .string ⟨#[]⟩] 52))
  have R1 := Lib.hid (Blk.new w 52 #[.string ⟨#[]⟩, .int .i64 0, .string ⟨#[]⟩])
  go_enter Tryz.func17, Tryz.ntmps17
  go_wp2_with fail
  refine (HX.out _ B1.out).mono ?_
  rintro e w2 ⟨rfl, b2⟩
  have B2 := Lib.hid ((B1.out.trans (b2.mono B1.out.size)).alloc (by have := B1.out.size; have := b2.size; omega) (.cells (fileA X) 52))
  have R2 := Lib.hid ((R1.out.below b2 R1.out.lt).alloc (.cells (fileA X) 52))
  have X2 := Lib.hid (Blk.new w2 52 (fileA X))
  have o2 := (R1.out.below b2 R1.out.lt).lt
  have O2 := Lib.hid o2
  clear b2 o2 B1 R1 HX
  go_wp2_with fail
  refine (HY.out _ B2.out).mono ?_
  rintro e w3 ⟨rfl, b3⟩
  have B3 := Lib.hid ((B2.out.trans (b3.mono B2.out.size)).alloc (by have := B2.out.size; have := b3.size; omega) (.cells (fileA Y) 52))
  have R3 := Lib.hid ((R2.out.below b3 R2.out.lt).alloc (.cells (fileA Y) 52))
  have X3 := Lib.hid ((X2.out.below b3 X2.out.lt).alloc (.cells (fileA Y) 52))
  have Y3 := Lib.hid (Blk.new w3 52 (fileA Y))
  have O3 := Lib.hid (X2.out.below b3 X2.out.lt).lt
  clear b3 B2 R2 X2 HY
  go_wp2_with fail
  refine (HZ.out _ B3.out).mono ?_
  rintro e w4 ⟨rfl, b4⟩
  have S0 : Hid (Sx w w.heap.size w2.heap.size w3.heap.size w4.heap.size X Y Z (w4.alloc (.cells (fileA Z) 52))) := Lib.hid ⟨(B3.out.trans (b4.mono B3.out.size)).alloc (by have := B3.out.size; have := b4.size; omega) (.cells (fileA Z) 52), (R3.out.below b4 R3.out.lt).alloc _, (X3.out.below b4 X3.out.lt).alloc _, (Y3.out.below b4 Y3.out.lt).alloc _, Blk.new w4 52 (fileA Z)⟩
  have O4 := Lib.hid (Y3.out.below b4 Y3.out.lt).lt
  clear b4 B3 R3 X3 Y3 HZ
  go_wp2_with fail
  obtain ⟨gr, hgr⟩ : ∃ g, g = w.heap.size := ⟨_, rfl⟩
  rw [← hgr] at O2 S0 ⊢
  have HG := Lib.hid (show w.heap.size ≤ gr by rw [hgr]; exact Nat.le_refl _)
  clear hgr
  generalize hW : w4.alloc (.cells (fileA Z) 52) = W at *
  clear hW
  generalize w2.heap.size = g1 at *
  generalize w3.heap.size = g2 at *
  generalize w4.heap.size = g3 at *
  refine (H1.out _ S0.out.b).mono ?_
  rintro e u1 ⟨rfl, c1⟩
  have S1 := Lib.hid (S0.out.below c1)
  clear c1 S0 H1
  have qr0 := S1.out.r.cell 0
  have qf0 := S1.out.r.frozen 0
  have qr1 := S1.out.r.cell 1
  have qf1 := S1.out.r.frozen 1
  have qr2 := S1.out.r.cell 2
  have qf2 := S1.out.r.frozen 2
  have qy0 := S1.out.y.cell 0
  have qy1 := S1.out.y.cell 1
  have qy2 := S1.out.y.cell 2
  go_wp2_with fail
  exact bodyPost_ret (results_row_tmp2 (fn := Tryz.f17) rfl _ _ gr 52 (fileA Y) (0, 0) _ rfl (row52 S1.out.r rfl _ _ _) Tryz.underlying52 rfl fSize52) rfl ⟨by first | rfl | simp_all, ((S1.out.b.setCell (p := ⟨gr, 0, none⟩) HG.out _).setCell (p := ⟨gr, 1, none⟩) HG.out _).setCell (p := ⟨gr, 2, none⟩) HG.out _⟩
set_option maxRecDepth 100000 in
set_option maxHeartbeats 4000000 in
theorem refOne_2 (w : World) (p : ByteArray) (vb vo vt : Value) (a n : ByteArray) (X Y Z : Option Fl) (GX : GetsX p vb X w) (GY : GetsX p vo Y w) (GZ : GetsX p vt Z w) (L1 : LikeX p vo vt false w) (L2 : LikeX p vb vt true w) :
    Calls Tryz.prog 17 #[.string p, vb, vo, vt, .string a, .string n] w (OneTold (Y, false) w) := by
  have HX := Lib.hid GX
  unfold GetsX at HX
  have HY := Lib.hid GY
  unfold GetsX at HY
  have HZ := Lib.hid GZ
  unfold GetsX at HZ
  have H1 := Lib.hid L1
  unfold LikeX FlagTo at H1
  have H2 := Lib.hid L2
  unfold LikeX FlagTo at H2
  clear GX GY GZ L1 L2
  unfold OneTold
  have B1 := Lib.hid ((Below.refl w.heap.size w).alloc (Nat.le_refl _) (.cells #[.string ⟨#[]⟩, .int .i64 0, .string ⟨#[]⟩] 52))
  have R1 := Lib.hid (Blk.new w 52 #[.string ⟨#[]⟩, .int .i64 0, .string ⟨#[]⟩])
  go_enter Tryz.func17, Tryz.ntmps17
  go_wp2_with fail
  refine (HX.out _ B1.out).mono ?_
  rintro e w2 ⟨rfl, b2⟩
  have B2 := Lib.hid ((B1.out.trans (b2.mono B1.out.size)).alloc (by have := B1.out.size; have := b2.size; omega) (.cells (fileA X) 52))
  have R2 := Lib.hid ((R1.out.below b2 R1.out.lt).alloc (.cells (fileA X) 52))
  have X2 := Lib.hid (Blk.new w2 52 (fileA X))
  have o2 := (R1.out.below b2 R1.out.lt).lt
  have O2 := Lib.hid o2
  clear b2 o2 B1 R1 HX
  go_wp2_with fail
  refine (HY.out _ B2.out).mono ?_
  rintro e w3 ⟨rfl, b3⟩
  have B3 := Lib.hid ((B2.out.trans (b3.mono B2.out.size)).alloc (by have := B2.out.size; have := b3.size; omega) (.cells (fileA Y) 52))
  have R3 := Lib.hid ((R2.out.below b3 R2.out.lt).alloc (.cells (fileA Y) 52))
  have X3 := Lib.hid ((X2.out.below b3 X2.out.lt).alloc (.cells (fileA Y) 52))
  have Y3 := Lib.hid (Blk.new w3 52 (fileA Y))
  have O3 := Lib.hid (X2.out.below b3 X2.out.lt).lt
  clear b3 B2 R2 X2 HY
  go_wp2_with fail
  refine (HZ.out _ B3.out).mono ?_
  rintro e w4 ⟨rfl, b4⟩
  have S0 : Hid (Sx w w.heap.size w2.heap.size w3.heap.size w4.heap.size X Y Z (w4.alloc (.cells (fileA Z) 52))) := Lib.hid ⟨(B3.out.trans (b4.mono B3.out.size)).alloc (by have := B3.out.size; have := b4.size; omega) (.cells (fileA Z) 52), (R3.out.below b4 R3.out.lt).alloc _, (X3.out.below b4 X3.out.lt).alloc _, (Y3.out.below b4 Y3.out.lt).alloc _, Blk.new w4 52 (fileA Z)⟩
  have O4 := Lib.hid (Y3.out.below b4 Y3.out.lt).lt
  clear b4 B3 R3 X3 Y3 HZ
  go_wp2_with fail
  obtain ⟨gr, hgr⟩ : ∃ g, g = w.heap.size := ⟨_, rfl⟩
  rw [← hgr] at O2 S0 ⊢
  have HG := Lib.hid (show w.heap.size ≤ gr by rw [hgr]; exact Nat.le_refl _)
  clear hgr
  generalize hW : w4.alloc (.cells (fileA Z) 52) = W at *
  clear hW
  generalize w2.heap.size = g1 at *
  generalize w3.heap.size = g2 at *
  generalize w4.heap.size = g3 at *
  refine (H1.out _ S0.out.b).mono ?_
  rintro e u1 ⟨rfl, c1⟩
  have S1 := Lib.hid (S0.out.below c1)
  clear c1 S0 H1
  go_wp2_with fail
  refine (H2.out _ S1.out.b).mono ?_
  rintro e u2 ⟨rfl, c2⟩
  have S2 := Lib.hid (S1.out.below c2)
  clear c2 S1 H2
  have qr0 := S2.out.r.cell 0
  have qf0 := S2.out.r.frozen 0
  have qr1 := S2.out.r.cell 1
  have qf1 := S2.out.r.frozen 1
  have qr2 := S2.out.r.cell 2
  have qf2 := S2.out.r.frozen 2
  have qy0 := S2.out.y.cell 0
  have qy1 := S2.out.y.cell 1
  have qy2 := S2.out.y.cell 2
  go_wp2_with fail
  exact bodyPost_ret (results_row_tmp2 (fn := Tryz.f17) rfl _ _ gr 52 (fileA Y) (0, 0) _ rfl (row52 S2.out.r rfl _ _ _) Tryz.underlying52 rfl fSize52) rfl ⟨by first | rfl | simp_all, ((S2.out.b.setCell (p := ⟨gr, 0, none⟩) HG.out _).setCell (p := ⟨gr, 1, none⟩) HG.out _).setCell (p := ⟨gr, 2, none⟩) HG.out _⟩
set_option maxRecDepth 100000 in
set_option maxHeartbeats 4000000 in
theorem refOne_3 (w : World) (p : ByteArray) (vb vo vt : Value) (a n : ByteArray) (X Y Z : Option Fl) (GX : GetsX p vb X w) (GY : GetsX p vo Y w) (GZ : GetsX p vt Z w) (L1 : LikeX p vo vt false w) (L2 : LikeX p vb vt false w) (L3 : LikeX p vb vo true w) :
    Calls Tryz.prog 17 #[.string p, vb, vo, vt, .string a, .string n] w (OneTold (Z, false) w) := by
  have HX := Lib.hid GX
  unfold GetsX at HX
  have HY := Lib.hid GY
  unfold GetsX at HY
  have HZ := Lib.hid GZ
  unfold GetsX at HZ
  have H1 := Lib.hid L1
  unfold LikeX FlagTo at H1
  have H2 := Lib.hid L2
  unfold LikeX FlagTo at H2
  have H3 := Lib.hid L3
  unfold LikeX FlagTo at H3
  clear GX GY GZ L1 L2 L3
  unfold OneTold
  have B1 := Lib.hid ((Below.refl w.heap.size w).alloc (Nat.le_refl _) (.cells #[.string ⟨#[]⟩, .int .i64 0, .string ⟨#[]⟩] 52))
  have R1 := Lib.hid (Blk.new w 52 #[.string ⟨#[]⟩, .int .i64 0, .string ⟨#[]⟩])
  go_enter Tryz.func17, Tryz.ntmps17
  go_wp2_with fail
  refine (HX.out _ B1.out).mono ?_
  rintro e w2 ⟨rfl, b2⟩
  have B2 := Lib.hid ((B1.out.trans (b2.mono B1.out.size)).alloc (by have := B1.out.size; have := b2.size; omega) (.cells (fileA X) 52))
  have R2 := Lib.hid ((R1.out.below b2 R1.out.lt).alloc (.cells (fileA X) 52))
  have X2 := Lib.hid (Blk.new w2 52 (fileA X))
  have o2 := (R1.out.below b2 R1.out.lt).lt
  have O2 := Lib.hid o2
  clear b2 o2 B1 R1 HX
  go_wp2_with fail
  refine (HY.out _ B2.out).mono ?_
  rintro e w3 ⟨rfl, b3⟩
  have B3 := Lib.hid ((B2.out.trans (b3.mono B2.out.size)).alloc (by have := B2.out.size; have := b3.size; omega) (.cells (fileA Y) 52))
  have R3 := Lib.hid ((R2.out.below b3 R2.out.lt).alloc (.cells (fileA Y) 52))
  have X3 := Lib.hid ((X2.out.below b3 X2.out.lt).alloc (.cells (fileA Y) 52))
  have Y3 := Lib.hid (Blk.new w3 52 (fileA Y))
  have O3 := Lib.hid (X2.out.below b3 X2.out.lt).lt
  clear b3 B2 R2 X2 HY
  go_wp2_with fail
  refine (HZ.out _ B3.out).mono ?_
  rintro e w4 ⟨rfl, b4⟩
  have S0 : Hid (Sx w w.heap.size w2.heap.size w3.heap.size w4.heap.size X Y Z (w4.alloc (.cells (fileA Z) 52))) := Lib.hid ⟨(B3.out.trans (b4.mono B3.out.size)).alloc (by have := B3.out.size; have := b4.size; omega) (.cells (fileA Z) 52), (R3.out.below b4 R3.out.lt).alloc _, (X3.out.below b4 X3.out.lt).alloc _, (Y3.out.below b4 Y3.out.lt).alloc _, Blk.new w4 52 (fileA Z)⟩
  have O4 := Lib.hid (Y3.out.below b4 Y3.out.lt).lt
  clear b4 B3 R3 X3 Y3 HZ
  go_wp2_with fail
  obtain ⟨gr, hgr⟩ : ∃ g, g = w.heap.size := ⟨_, rfl⟩
  rw [← hgr] at O2 S0 ⊢
  have HG := Lib.hid (show w.heap.size ≤ gr by rw [hgr]; exact Nat.le_refl _)
  clear hgr
  generalize hW : w4.alloc (.cells (fileA Z) 52) = W at *
  clear hW
  generalize w2.heap.size = g1 at *
  generalize w3.heap.size = g2 at *
  generalize w4.heap.size = g3 at *
  refine (H1.out _ S0.out.b).mono ?_
  rintro e u1 ⟨rfl, c1⟩
  have S1 := Lib.hid (S0.out.below c1)
  clear c1 S0 H1
  go_wp2_with fail
  refine (H2.out _ S1.out.b).mono ?_
  rintro e u2 ⟨rfl, c2⟩
  have S2 := Lib.hid (S1.out.below c2)
  clear c2 S1 H2
  go_wp2_with fail
  refine (H3.out _ S2.out.b).mono ?_
  rintro e u3 ⟨rfl, c3⟩
  have S3 := Lib.hid (S2.out.below c3)
  clear c3 S2 H3
  have qr0 := S3.out.r.cell 0
  have qf0 := S3.out.r.frozen 0
  have qr1 := S3.out.r.cell 1
  have qf1 := S3.out.r.frozen 1
  have qr2 := S3.out.r.cell 2
  have qf2 := S3.out.r.frozen 2
  have qz0 := S3.out.z.cell 0
  have qz1 := S3.out.z.cell 1
  have qz2 := S3.out.z.cell 2
  go_wp2_with fail
  exact bodyPost_ret (results_row_tmp2 (fn := Tryz.f17) rfl _ _ gr 52 (fileA Z) (0, 0) _ rfl (row52 S3.out.r rfl _ _ _) Tryz.underlying52 rfl fSize52) rfl ⟨by first | rfl | simp_all, ((S3.out.b.setCell (p := ⟨gr, 0, none⟩) HG.out _).setCell (p := ⟨gr, 1, none⟩) HG.out _).setCell (p := ⟨gr, 2, none⟩) HG.out _⟩
set_option maxRecDepth 100000 in
set_option maxHeartbeats 4000000 in
theorem refOne_4 (w : World) (p : ByteArray) (vb vo vt : Value) (a n : ByteArray) (X Y Z : Option Fl) (GX : GetsX p vb X w) (GY : GetsX p vo Y w) (GZ : GetsX p vt Z w) (L1 : LikeX p vo vt false w) (L2 : LikeX p vb vt false w) (L3 : LikeX p vb vo false w) (hy : Y.isSome = true) (hz : Z.isSome = true) (r : (ByteArray × Int × ByteArray) × Bool) (BT : ∀ W, Calls Tryz.prog 38 #[.agg (fileA X), .bool X.isSome, .agg (fileA Y), .agg (fileA Z), .string a, .string n] W (BothTold r W)) :
    Calls Tryz.prog 17 #[.string p, vb, vo, vt, .string a, .string n] w (OneTold (some r.1, r.2) w) := by
  have HX := Lib.hid GX
  unfold GetsX at HX
  have HY := Lib.hid GY
  unfold GetsX at HY
  have HZ := Lib.hid GZ
  unfold GetsX at HZ
  have H1 := Lib.hid L1
  unfold LikeX FlagTo at H1
  have H2 := Lib.hid L2
  unfold LikeX FlagTo at H2
  have H3 := Lib.hid L3
  unfold LikeX FlagTo at H3
  have HB := Lib.hid BT
  unfold BothTold at HB
  clear BT
  clear GX GY GZ L1 L2 L3
  unfold OneTold
  have B1 := Lib.hid ((Below.refl w.heap.size w).alloc (Nat.le_refl _) (.cells #[.string ⟨#[]⟩, .int .i64 0, .string ⟨#[]⟩] 52))
  have R1 := Lib.hid (Blk.new w 52 #[.string ⟨#[]⟩, .int .i64 0, .string ⟨#[]⟩])
  go_enter Tryz.func17, Tryz.ntmps17
  go_wp2_with fail
  refine (HX.out _ B1.out).mono ?_
  rintro e w2 ⟨rfl, b2⟩
  have B2 := Lib.hid ((B1.out.trans (b2.mono B1.out.size)).alloc (by have := B1.out.size; have := b2.size; omega) (.cells (fileA X) 52))
  have R2 := Lib.hid ((R1.out.below b2 R1.out.lt).alloc (.cells (fileA X) 52))
  have X2 := Lib.hid (Blk.new w2 52 (fileA X))
  have o2 := (R1.out.below b2 R1.out.lt).lt
  have O2 := Lib.hid o2
  clear b2 o2 B1 R1 HX
  go_wp2_with fail
  refine (HY.out _ B2.out).mono ?_
  rintro e w3 ⟨rfl, b3⟩
  have B3 := Lib.hid ((B2.out.trans (b3.mono B2.out.size)).alloc (by have := B2.out.size; have := b3.size; omega) (.cells (fileA Y) 52))
  have R3 := Lib.hid ((R2.out.below b3 R2.out.lt).alloc (.cells (fileA Y) 52))
  have X3 := Lib.hid ((X2.out.below b3 X2.out.lt).alloc (.cells (fileA Y) 52))
  have Y3 := Lib.hid (Blk.new w3 52 (fileA Y))
  have O3 := Lib.hid (X2.out.below b3 X2.out.lt).lt
  clear b3 B2 R2 X2 HY
  go_wp2_with fail
  refine (HZ.out _ B3.out).mono ?_
  rintro e w4 ⟨rfl, b4⟩
  have S0 : Hid (Sx w w.heap.size w2.heap.size w3.heap.size w4.heap.size X Y Z (w4.alloc (.cells (fileA Z) 52))) := Lib.hid ⟨(B3.out.trans (b4.mono B3.out.size)).alloc (by have := B3.out.size; have := b4.size; omega) (.cells (fileA Z) 52), (R3.out.below b4 R3.out.lt).alloc _, (X3.out.below b4 X3.out.lt).alloc _, (Y3.out.below b4 Y3.out.lt).alloc _, Blk.new w4 52 (fileA Z)⟩
  have O4 := Lib.hid (Y3.out.below b4 Y3.out.lt).lt
  clear b4 B3 R3 X3 Y3 HZ
  go_wp2_with fail
  obtain ⟨gr, hgr⟩ : ∃ g, g = w.heap.size := ⟨_, rfl⟩
  rw [← hgr] at O2 S0 ⊢
  have HG := Lib.hid (show w.heap.size ≤ gr by rw [hgr]; exact Nat.le_refl _)
  clear hgr
  generalize hW : w4.alloc (.cells (fileA Z) 52) = W at *
  clear hW
  generalize w2.heap.size = g1 at *
  generalize w3.heap.size = g2 at *
  generalize w4.heap.size = g3 at *
  refine (H1.out _ S0.out.b).mono ?_
  rintro e u1 ⟨rfl, c1⟩
  have S1 := Lib.hid (S0.out.below c1)
  clear c1 S0 H1
  go_wp2_with fail
  refine (H2.out _ S1.out.b).mono ?_
  rintro e u2 ⟨rfl, c2⟩
  have S2 := Lib.hid (S1.out.below c2)
  clear c2 S1 H2
  go_wp2_with fail
  refine (H3.out _ S2.out.b).mono ?_
  rintro e u3 ⟨rfl, c3⟩
  have S3 := Lib.hid (S2.out.below c3)
  clear c3 S2 H3
  have qx0 := S3.out.x.cell 0
  have qx1 := S3.out.x.cell 1
  have qx2 := S3.out.x.cell 2
  have qy0 := S3.out.y.cell 0
  have qy1 := S3.out.y.cell 1
  have qy2 := S3.out.y.cell 2
  have qz0 := S3.out.z.cell 0
  have qz1 := S3.out.z.cell 1
  have qz2 := S3.out.z.cell 2
  go_wp2_with fail
  refine (HB.out _).mono ?_
  rintro e u4 ⟨rfl, c4⟩
  have S4 := Lib.hid ((S3.out.below c4).below ((Below.refl _ _).alloc (Nat.le_refl _) (.cells #[.string r.1.1, .int .i64 r.1.2.1, .string r.1.2.2] 52)))
  have F5 := Lib.hid (Blk.new u4 52 #[.string r.1.1, .int .i64 r.1.2.1, .string r.1.2.2])
  have o5 := (S3.out.below c4).r.lt
  have NE := Lib.hid (show gr ≠ u4.heap.size by omega)
  clear o5 c4 S3 qx0 qx1 qx2 qy0 qy1 qy2 qz0 qz1 qz2 HB
  go_upto_region 10 with fail
  generalize hW5 : u4.alloc (.cells #[.string r.1.1, .int .i64 r.1.2.1, .string r.1.2.2] 52) = W5 at *
  clear hW5
  generalize u4.heap.size = g5 at *
  have ne5 := NE.out
  have y0 := F5.out.cell 0
  have y1 := F5.out.cell 1
  have y2 := F5.out.cell 2
  have sr0 := S4.out.r.cell 0
  have sf0 := S4.out.r.frozen 0
  have sr1 := S4.out.r.cell 1
  have sf1 := S4.out.r.frozen 1
  have sr2 := S4.out.r.cell 2
  have sf2 := S4.out.r.frozen 2
  go_wp2_with fail
  exact bodyPost_ret (results_row_tmp2 (fn := Tryz.f17) rfl _ _ gr 52 (#[.string r.1.1, .int .i64 r.1.2.1, .string r.1.2.2]) (0, 0) _ rfl (row52 S4.out.r rfl _ _ _) Tryz.underlying52 rfl fSize52) rfl ⟨by first | rfl | simp_all, ((S4.out.b.setCell (p := ⟨gr, 0, none⟩) HG.out _).setCell (p := ⟨gr, 1, none⟩) HG.out _).setCell (p := ⟨gr, 2, none⟩) HG.out _⟩
set_option maxRecDepth 100000 in
set_option maxHeartbeats 4000000 in
theorem refOne_5 (w : World) (p : ByteArray) (vb vo vt : Value) (a n : ByteArray) (X Y Z : Option Fl) (GX : GetsX p vb X w) (GY : GetsX p vo Y w) (GZ : GetsX p vt Z w) (L1 : LikeX p vo vt false w) (L2 : LikeX p vb vt false w) (L3 : LikeX p vb vo false w) (hy : Y.isSome = true) (hz : Z.isSome = false) :
    Calls Tryz.prog 17 #[.string p, vb, vo, vt, .string a, .string n] w (OneTold (Y, true) w) := by
  have HX := Lib.hid GX
  unfold GetsX at HX
  have HY := Lib.hid GY
  unfold GetsX at HY
  have HZ := Lib.hid GZ
  unfold GetsX at HZ
  have H1 := Lib.hid L1
  unfold LikeX FlagTo at H1
  have H2 := Lib.hid L2
  unfold LikeX FlagTo at H2
  have H3 := Lib.hid L3
  unfold LikeX FlagTo at H3
  clear GX GY GZ L1 L2 L3
  unfold OneTold
  have B1 := Lib.hid ((Below.refl w.heap.size w).alloc (Nat.le_refl _) (.cells #[.string ⟨#[]⟩, .int .i64 0, .string ⟨#[]⟩] 52))
  have R1 := Lib.hid (Blk.new w 52 #[.string ⟨#[]⟩, .int .i64 0, .string ⟨#[]⟩])
  go_enter Tryz.func17, Tryz.ntmps17
  go_wp2_with fail
  refine (HX.out _ B1.out).mono ?_
  rintro e w2 ⟨rfl, b2⟩
  have B2 := Lib.hid ((B1.out.trans (b2.mono B1.out.size)).alloc (by have := B1.out.size; have := b2.size; omega) (.cells (fileA X) 52))
  have R2 := Lib.hid ((R1.out.below b2 R1.out.lt).alloc (.cells (fileA X) 52))
  have X2 := Lib.hid (Blk.new w2 52 (fileA X))
  have o2 := (R1.out.below b2 R1.out.lt).lt
  have O2 := Lib.hid o2
  clear b2 o2 B1 R1 HX
  go_wp2_with fail
  refine (HY.out _ B2.out).mono ?_
  rintro e w3 ⟨rfl, b3⟩
  have B3 := Lib.hid ((B2.out.trans (b3.mono B2.out.size)).alloc (by have := B2.out.size; have := b3.size; omega) (.cells (fileA Y) 52))
  have R3 := Lib.hid ((R2.out.below b3 R2.out.lt).alloc (.cells (fileA Y) 52))
  have X3 := Lib.hid ((X2.out.below b3 X2.out.lt).alloc (.cells (fileA Y) 52))
  have Y3 := Lib.hid (Blk.new w3 52 (fileA Y))
  have O3 := Lib.hid (X2.out.below b3 X2.out.lt).lt
  clear b3 B2 R2 X2 HY
  go_wp2_with fail
  refine (HZ.out _ B3.out).mono ?_
  rintro e w4 ⟨rfl, b4⟩
  have S0 : Hid (Sx w w.heap.size w2.heap.size w3.heap.size w4.heap.size X Y Z (w4.alloc (.cells (fileA Z) 52))) := Lib.hid ⟨(B3.out.trans (b4.mono B3.out.size)).alloc (by have := B3.out.size; have := b4.size; omega) (.cells (fileA Z) 52), (R3.out.below b4 R3.out.lt).alloc _, (X3.out.below b4 X3.out.lt).alloc _, (Y3.out.below b4 Y3.out.lt).alloc _, Blk.new w4 52 (fileA Z)⟩
  have O4 := Lib.hid (Y3.out.below b4 Y3.out.lt).lt
  clear b4 B3 R3 X3 Y3 HZ
  go_wp2_with fail
  obtain ⟨gr, hgr⟩ : ∃ g, g = w.heap.size := ⟨_, rfl⟩
  rw [← hgr] at O2 S0 ⊢
  have HG := Lib.hid (show w.heap.size ≤ gr by rw [hgr]; exact Nat.le_refl _)
  clear hgr
  generalize hW : w4.alloc (.cells (fileA Z) 52) = W at *
  clear hW
  generalize w2.heap.size = g1 at *
  generalize w3.heap.size = g2 at *
  generalize w4.heap.size = g3 at *
  refine (H1.out _ S0.out.b).mono ?_
  rintro e u1 ⟨rfl, c1⟩
  have S1 := Lib.hid (S0.out.below c1)
  clear c1 S0 H1
  go_wp2_with fail
  refine (H2.out _ S1.out.b).mono ?_
  rintro e u2 ⟨rfl, c2⟩
  have S2 := Lib.hid (S1.out.below c2)
  clear c2 S1 H2
  go_wp2_with fail
  refine (H3.out _ S2.out.b).mono ?_
  rintro e u3 ⟨rfl, c3⟩
  have S3 := Lib.hid (S2.out.below c3)
  clear c3 S2 H3
  have qr0 := S3.out.r.cell 0
  have qf0 := S3.out.r.frozen 0
  have qr1 := S3.out.r.cell 1
  have qf1 := S3.out.r.frozen 1
  have qr2 := S3.out.r.cell 2
  have qf2 := S3.out.r.frozen 2
  have qy0 := S3.out.y.cell 0
  have qy1 := S3.out.y.cell 1
  have qy2 := S3.out.y.cell 2
  go_wp2_with fail
  exact bodyPost_ret (results_row_tmp2 (fn := Tryz.f17) rfl _ _ gr 52 (fileA Y) (0, 0) _ rfl (row52 S3.out.r rfl _ _ _) Tryz.underlying52 rfl fSize52) rfl ⟨by first | rfl | simp_all, ((S3.out.b.setCell (p := ⟨gr, 0, none⟩) HG.out _).setCell (p := ⟨gr, 1, none⟩) HG.out _).setCell (p := ⟨gr, 2, none⟩) HG.out _⟩
set_option maxRecDepth 100000 in
set_option maxHeartbeats 4000000 in
theorem refOne_6 (w : World) (p : ByteArray) (vb vo vt : Value) (a n : ByteArray) (X Y Z : Option Fl) (GX : GetsX p vb X w) (GY : GetsX p vo Y w) (GZ : GetsX p vt Z w) (L1 : LikeX p vo vt false w) (L2 : LikeX p vb vt false w) (L3 : LikeX p vb vo false w) (hy : Y.isSome = false) :
    Calls Tryz.prog 17 #[.string p, vb, vo, vt, .string a, .string n] w (OneTold (Z, true) w) := by
  have HX := Lib.hid GX
  unfold GetsX at HX
  have HY := Lib.hid GY
  unfold GetsX at HY
  have HZ := Lib.hid GZ
  unfold GetsX at HZ
  have H1 := Lib.hid L1
  unfold LikeX FlagTo at H1
  have H2 := Lib.hid L2
  unfold LikeX FlagTo at H2
  have H3 := Lib.hid L3
  unfold LikeX FlagTo at H3
  clear GX GY GZ L1 L2 L3
  unfold OneTold
  have B1 := Lib.hid ((Below.refl w.heap.size w).alloc (Nat.le_refl _) (.cells #[.string ⟨#[]⟩, .int .i64 0, .string ⟨#[]⟩] 52))
  have R1 := Lib.hid (Blk.new w 52 #[.string ⟨#[]⟩, .int .i64 0, .string ⟨#[]⟩])
  go_enter Tryz.func17, Tryz.ntmps17
  go_wp2_with fail
  refine (HX.out _ B1.out).mono ?_
  rintro e w2 ⟨rfl, b2⟩
  have B2 := Lib.hid ((B1.out.trans (b2.mono B1.out.size)).alloc (by have := B1.out.size; have := b2.size; omega) (.cells (fileA X) 52))
  have R2 := Lib.hid ((R1.out.below b2 R1.out.lt).alloc (.cells (fileA X) 52))
  have X2 := Lib.hid (Blk.new w2 52 (fileA X))
  have o2 := (R1.out.below b2 R1.out.lt).lt
  have O2 := Lib.hid o2
  clear b2 o2 B1 R1 HX
  go_wp2_with fail
  refine (HY.out _ B2.out).mono ?_
  rintro e w3 ⟨rfl, b3⟩
  have B3 := Lib.hid ((B2.out.trans (b3.mono B2.out.size)).alloc (by have := B2.out.size; have := b3.size; omega) (.cells (fileA Y) 52))
  have R3 := Lib.hid ((R2.out.below b3 R2.out.lt).alloc (.cells (fileA Y) 52))
  have X3 := Lib.hid ((X2.out.below b3 X2.out.lt).alloc (.cells (fileA Y) 52))
  have Y3 := Lib.hid (Blk.new w3 52 (fileA Y))
  have O3 := Lib.hid (X2.out.below b3 X2.out.lt).lt
  clear b3 B2 R2 X2 HY
  go_wp2_with fail
  refine (HZ.out _ B3.out).mono ?_
  rintro e w4 ⟨rfl, b4⟩
  have S0 : Hid (Sx w w.heap.size w2.heap.size w3.heap.size w4.heap.size X Y Z (w4.alloc (.cells (fileA Z) 52))) := Lib.hid ⟨(B3.out.trans (b4.mono B3.out.size)).alloc (by have := B3.out.size; have := b4.size; omega) (.cells (fileA Z) 52), (R3.out.below b4 R3.out.lt).alloc _, (X3.out.below b4 X3.out.lt).alloc _, (Y3.out.below b4 Y3.out.lt).alloc _, Blk.new w4 52 (fileA Z)⟩
  have O4 := Lib.hid (Y3.out.below b4 Y3.out.lt).lt
  clear b4 B3 R3 X3 Y3 HZ
  go_wp2_with fail
  obtain ⟨gr, hgr⟩ : ∃ g, g = w.heap.size := ⟨_, rfl⟩
  rw [← hgr] at O2 S0 ⊢
  have HG := Lib.hid (show w.heap.size ≤ gr by rw [hgr]; exact Nat.le_refl _)
  clear hgr
  generalize hW : w4.alloc (.cells (fileA Z) 52) = W at *
  clear hW
  generalize w2.heap.size = g1 at *
  generalize w3.heap.size = g2 at *
  generalize w4.heap.size = g3 at *
  refine (H1.out _ S0.out.b).mono ?_
  rintro e u1 ⟨rfl, c1⟩
  have S1 := Lib.hid (S0.out.below c1)
  clear c1 S0 H1
  go_wp2_with fail
  refine (H2.out _ S1.out.b).mono ?_
  rintro e u2 ⟨rfl, c2⟩
  have S2 := Lib.hid (S1.out.below c2)
  clear c2 S1 H2
  go_wp2_with fail
  refine (H3.out _ S2.out.b).mono ?_
  rintro e u3 ⟨rfl, c3⟩
  have S3 := Lib.hid (S2.out.below c3)
  clear c3 S2 H3
  have qr0 := S3.out.r.cell 0
  have qf0 := S3.out.r.frozen 0
  have qr1 := S3.out.r.cell 1
  have qf1 := S3.out.r.frozen 1
  have qr2 := S3.out.r.cell 2
  have qf2 := S3.out.r.frozen 2
  have qz0 := S3.out.z.cell 0
  have qz1 := S3.out.z.cell 1
  have qz2 := S3.out.z.cell 2
  go_wp2_with fail
  exact bodyPost_ret (results_row_tmp2 (fn := Tryz.f17) rfl _ _ gr 52 (fileA Z) (0, 0) _ rfl (row52 S3.out.r rfl _ _ _) Tryz.underlying52 rfl fSize52) rfl ⟨by first | rfl | simp_all, ((S3.out.b.setCell (p := ⟨gr, 0, none⟩) HG.out _).setCell (p := ⟨gr, 1, none⟩) HG.out _).setCell (p := ⟨gr, 2, none⟩) HG.out _⟩
theorem refOne_any (w : World) (p : ByteArray) (vb vo vt : Value) (b o t : List Fl) (a n : ByteArray) (hb : Reads 3 cF w vb b) (ho : Reads 3 cF w vo o) (ht : Reads 3 cF w vt t) (lb : b.length ≤ 100000) (lo : o.length ≤ 100000) (lt : t.length ≤ 100000)
    (x : TxO) (hT : getF o p ≠ getF t p → getF b p ≠ getF t p → getF b p ≠ getF o p → ¬ sD (getF o p) = sD (getF t p) → ∀ W, RefSays x (sD (getF b p)) (sD (getF o p)) (sD (getF t p)) a n W) (hx : ∀ s k, x = some (s, k) → k ≤ 1000000 ∧ s.size ≤ 1000000000) :
    Calls Tryz.prog 17 #[.string p, vb, vo, vt, .string a, .string n] w (OneTold (oneV x p (getF b p) (getF o p) (getF t p)) w) := by
  have gets : ∀ (v : Value) (l : List Fl), Reads 3 cF w v l → l.length ≤ 100000 → GetsX p v (getF l p) w := fun v l h hl W hW => by
    have := refGet_any W v l p (h.below hW) hl
    unfold Got at this
    rw [gotV_eq] at this
    exact this
  have likes : ∀ (v u : Value) (l m : List Fl) (q : Bool), Reads 3 cF w v l → Reads 3 cF w u m → l.length ≤ 100000 → m.length ≤ 100000 → decide (getF l p = getF m p) = q → LikeX p v u q w := fun v u l m q h g hl hm hq W hW => by
    rw [← hq]
    exact like_any W v u l m p (h.below hW) (g.below hW) hl hm
  have GX := gets vb b hb lb
  have GY := gets vo o ho lo
  have GZ := gets vt t ht lt
  by_cases h1 : getF o p = getF t p
  · rw [show oneV x p (getF b p) (getF o p) (getF t p) = (getF o p, false) by unfold oneV; rw [if_pos (.inl h1)]]
    exact refOne_1 w p vb vo vt a n _ _ _ GX GY GZ (likes vo vt o t true ho ht lo lt (decide_eq_true h1))
  have L1 := likes vo vt o t false ho ht lo lt (decide_eq_false h1)
  by_cases h2 : getF b p = getF t p
  · rw [show oneV x p (getF b p) (getF o p) (getF t p) = (getF o p, false) by unfold oneV; rw [if_pos (.inr h2)]]
    exact refOne_2 w p vb vo vt a n _ _ _ GX GY GZ L1 (likes vb vt b t true hb ht lb lt (decide_eq_true h2))
  have L2 := likes vb vt b t false hb ht lb lt (decide_eq_false h2)
  have n1 : ¬ (getF o p = getF t p ∨ getF b p = getF t p) := fun h => h.elim h1 h2
  by_cases h3 : getF b p = getF o p
  · rw [show oneV x p (getF b p) (getF o p) (getF t p) = (getF t p, false) by unfold oneV; rw [if_neg n1, if_pos h3]]
    exact refOne_3 w p vb vo vt a n _ _ _ GX GY GZ L1 L2 (likes vb vo b o true hb ho lb lo (decide_eq_true h3))
  have L3 := likes vb vo b o false hb ho lb lo (decide_eq_false h3)
  cases hy : (getF o p).isSome with
  | false =>
    rw [show oneV x p (getF b p) (getF o p) (getF t p) = (getF t p, true) by unfold oneV; rw [if_neg n1, if_neg h3, if_neg (fun h => by rw [hy] at h; cases h.1), if_neg (fun h => by rw [hy] at h; cases h)]]
    exact refOne_6 w p vb vo vt a n _ _ _ GX GY GZ L1 L2 L3 hy
  | true =>
    cases hz : (getF t p).isSome with
    | false =>
      rw [show oneV x p (getF b p) (getF o p) (getF t p) = (getF o p, true) by unfold oneV; rw [if_neg n1, if_neg h3, if_neg (fun h => by rw [hz] at h; cases h.2), if_pos hy]]
      exact refOne_5 w p vb vo vt a n _ _ _ GX GY GZ L1 L2 L3 hy hz
    | true =>
      have hp : sP (getF o p) = p := by
        cases h : getF o p with
        | none => rw [h] at hy; cases hy
        | some f => exact getF_path h
      have e : oneV x p (getF b p) (getF o p) (getF t p) = (some (bothV x (getF b p) (getF o p) (getF t p)).1, (bothV x (getF b p) (getF o p) (getF t p)).2) := by
        unfold oneV bothV
        rw [if_neg n1, if_neg h3, if_pos ⟨hy, hz⟩, hp]
      rw [e]
      exact refOne_4 w p vb vo vt a n _ _ _ GX GY GZ L1 L2 L3 hy hz _ fun W => both_any W _ _ _ a n x (hT h1 h2 h3) hx
end Go.Proofs.YtapcnmnnichamaaGreatDoor

namespace Go.Proofs.YtapcnmnnichamaaGreatDoor
open Go Go.RowKit

theorem ref_says (b y z a n : ByteArray) (h1 : b.size ≤ 20000) (h2 : y.size ≤ 20000) (h3 : z.size ≤ 20000) (h4 : a.size ≤ 1000) (h5 : n.size ≤ 1000) (W : World) : RefSays (txV b y z a n) b y z a n W := by
  unfold txV
  by_cases h : (Mg.lns b).length ≤ 256 ∧ (Mg.lns y).length ≤ 256 ∧ (Mg.lns z).length ≤ 256
  · rw [if_pos h]
    exact (Mg.refText_good W b y z a n h1 h2 h3 h4 h5 h.1 h.2.1 h.2.2).mono fun _ _ ⟨he, hb⟩ => ⟨he, hb⟩
  · rw [if_neg h]
    exact (Mg.refText_bad W b y z a n h1 h2 h3 h).mono fun _ _ ⟨⟨g, he⟩, hb⟩ => ⟨⟨g, he⟩, hb⟩
end Go.Proofs.YtapcnmnnichamaaGreatDoor

namespace Go.Proofs.YtapcnmnnichamaaGreatDoor
open Go Go.RowKit

def YesNo (w : World) (e : Ending) (w' : World) : Prop := ∃ b : Bool, e = .returned (.bool b) ∧ w' = w
set_option maxHeartbeats 4000000 in
theorem short_any (w : World) (v : Value) (l : List Fl) (h : Reads 3 cF w v l) : Calls Tryz.prog 9 #[v] w (YesNo w) := by
  obtain ⟨A, c, rfl⟩ := h.form
  have hn := h.len
  have hnm : l.length ≤ 9223372036854775807 := by have := hn.2; unfold maxLen at this; omega
  have HO := Lib.hid h
  clear h hn
  by_cases hbig : 20 < l.length
  · have hb : (20 : Int) < (l.length : Int) := by omega
    by_cases h1 : (64 : Int) < (l.length : Int)
    · go_enter Tryz.func9, Tryz.ntmps9
      go_wp2
      go_ret
      exact ⟨_, rfl, rfl⟩
    · go_enter Tryz.func9, Tryz.ntmps9
      go_wp2
      go_ret
      exact ⟨_, rfl, rfl⟩
  · have hb : ¬ (20 : Int) < (l.length : Int) := by omega
    go_enter Tryz.func9, Tryz.ntmps9
    go_wp2
    go_loopw [3, 4] (fun s3 s4 wr => ∃ (k : Nat) (m : Int), k ≤ l.length ∧ s4 = .int .i64 k ∧ s3 = .int .i64 m ∧ SameW wr w) (fun _ s4 _ => l.length - (intOf s4).toNat)
    case atStart => exact ⟨0, 0, Nat.zero_le _, rfl, rfl, rfl⟩
    case round =>
      obtain ⟨k, m, hk, rfl, rfl, hw⟩ := hrel
      unfold SameW at hw
      subst hw
      by_cases hlt : k < l.length
      · obtain ⟨x, hx⟩ : ∃ x, l[k]? = some x := ⟨_, List.getElem?_eq_getElem hlt⟩
        obtain ⟨ad, rfl, c0, c1, c2⟩ := Fils.at_ HO.out hx
        obtain ⟨p, mo, d⟩ := x
        have k0 : (0 : Int) ≤ (k : Int) := Int.natCast_nonneg _
        have k1 : (k : Int) < (l.length : Int) := by omega
        clear hx
        by_cases h1 : (300 : Int) < (d.size : Int)
        · by_cases h2 : (d.size : Int) ≤ 4096
          · go_wp2
            go_ret
            exact ⟨_, rfl, rfl⟩
          · go_wp2
            go_roundw
            case rel => exact ⟨k + 1, _, by omega, by go_num, rfl, rfl⟩
            case measure => simp [intOf]; omega
        · go_wp2
          go_roundw
          case rel => exact ⟨k + 1, _, by omega, by go_num, rfl, rfl⟩
          case measure => simp [intOf]; omega
      · obtain rfl : k = l.length := by omega
        by_cases h1 : m ≤ 3000
        · go_wp2
          go_ret
          exact ⟨_, rfl, rfl⟩
        · go_wp2
          go_ret
          exact ⟨_, rfl, rfl⟩
end Go.Proofs.YtapcnmnnichamaaGreatDoor
