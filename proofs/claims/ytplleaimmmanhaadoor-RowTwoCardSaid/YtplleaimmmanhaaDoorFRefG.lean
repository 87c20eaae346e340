/-
  rectoref14.Get: the first file at a path, looked for in order.
-/
import Derived.Test.YtplleaimmmanhaaDoorSRefA
import Derived.Test.YtplleaimmmanhaaDoorFRefC
namespace Go.Proofs.YtplleaimmmanhaaDoor
open Go.RowKit

theorem refFileSize : (Tryd.prog.info? 47).map (·.size) = some 3 := by kernel_rfl
theorem getF_first {l : List Fl} {s : ByteArray} {k : Nat} {f : Fl} (h : l[k]? = some f) (hs : f.1 = s) (hp : ∀ x ∈ l.take k, x.1 ≠ s) : getF l s = some f := by
  obtain ⟨hk, e⟩ := List.getElem?_eq_some_iff.1 h
  unfold getF
  rw [List.find?_eq_some_iff_getElem]
  refine ⟨by simpa using hs, k, hk, e, fun t ht => ?_⟩
  have := hp (l[t]'(by omega)) (by rw [List.mem_take_iff_getElem]; exact ⟨t, by omega, rfl⟩)
  simpa using this
theorem getF_no {l : List Fl} {s : ByteArray} (hp : ∀ x ∈ l, x.1 ≠ s) : getF l s = none := by
  unfold getF
  rw [List.find?_eq_none]
  intro x hx
  simpa using hp x hx

set_option maxHeartbeats 2000000 in
theorem refGet_any (w : World) (v : Value) (l : List Fl) (s : ByteArray) (h : Reads 3 cF w v l) (hl : l.length ≤ 100000) :
    Calls Tryd.prog 31 #[v, .string s] w (Got (getF l s) w) := by
  obtain ⟨W1, hW1⟩ : ∃ W1, W1 = w.alloc (.cells #[.string ⟨#[]⟩, .int .i64 0, .string ⟨#[]⟩] 47) := ⟨_, rfl⟩
  have B1 : Below w.heap.size w W1 := by rw [hW1]; exact (Below.refl _ _).alloc (Nat.le_refl _) _
  obtain ⟨A, c, rfl⟩ := h.form
  have HO := Lib.hid (h.below B1)
  obtain ⟨g, hg⟩ : ∃ g, g = w.heap.size := ⟨_, rfl⟩
  have K1 : W1.heap[g]? = some (.cells #[.string ⟨#[]⟩, .int .i64 0, .string ⟨#[]⟩] 47 (0, 0)) := by rw [hW1, hg]; exact heap_alloc_new w _
  have d0 := cell_of_row W1 g 0 _ 47 (0, 0) K1
  have d1 := cell_of_row W1 g 1 _ 47 (0, 0) K1
  have d2 := cell_of_row W1 g 2 _ 47 (0, 0) K1
  have e0 : W1.frozen? ⟨g, 0, none⟩ = false := by simp [World.frozen?, K1]
  have e1 : W1.frozen? ⟨g, 1, none⟩ = false := by simp [World.frozen?, K1]
  have e2 : W1.frozen? ⟨g, 2, none⟩ = false := by simp [World.frozen?, K1]
  have HK := Lib.hid K1
  have HB := Lib.hid (show ∀ x y z, Below w.heap.size w (((W1.setCell ⟨g, 0, none⟩ x).setCell ⟨g, 1, none⟩ y).setCell ⟨g, 2, none⟩ z) from fun x y z => by
    have hle : w.heap.size ≤ g := by rw [hg]; exact Nat.le_refl _
    exact ((B1.setCell (p := ⟨g, 0, none⟩) hle _).setCell (p := ⟨g, 1, none⟩) hle _).setCell (p := ⟨g, 2, none⟩) hle _)
  clear h K1 B1
  go_enter Tryd.func31, Tryd.ntmps31
  go_wp2_with fail
  rw [← hW1, ← hg]
  clear hW1 hg
  go_loopw [5, 6] (fun s5 s6 wr => ∃ k : Nat, k ≤ l.length ∧ s5 = .bool false ∧ s6 = .int .i64 k ∧ Hid (∀ x ∈ l.take k, x.1 ≠ s) ∧ SameW wr W1) (fun _ s6 _ => l.length - (intOf s6).toNat)
  case atStart => exact ⟨0, Nat.zero_le _, rfl, rfl, Lib.hid (by simp), rfl⟩
  case round =>
    obtain ⟨k, hk, rfl, rfl, hp, hw⟩ := hrel
    unfold SameW at hw
    subst hw
    by_cases hlt : k < l.length
    · obtain ⟨f, hf⟩ : ∃ f, l[k]? = some f := ⟨_, List.getElem?_eq_getElem hlt⟩
      obtain ⟨ad, rfl, c0, c1, c2⟩ := Fils.at_ HO.out hf
      have HF := Lib.hid hf
      have k0 : (0 : Int) ≤ (k : Int) := Int.natCast_nonneg _
      have k1 : (k : Int) < (l.length : Int) := by omega
      clear hf
      by_cases hps : f.1 = s
      · have HG := Lib.hid (getF_first HF.out hps hp.out)
        have e1 : f.1.toList = s.toList := by rw [hps]
        have e1' : (f.1.toList == s.toList) = true := by simp [e1]
        clear hps
        go_wp2
        refine bodyPost_ret (results_row_tmp (fn := Tryd.f31) rfl _ _ g 47 #[.string f.1, .int .i64 f.2.1, .string f.2.2] (0, 0) _ rfl (by first | exact set_row _ _ _ _ _ _ _ (set_row _ _ _ _ _ _ _ (set_row _ _ _ _ _ _ _ HK.out)) | simpa using set_row _ _ _ _ _ _ _ (set_row _ _ _ _ _ _ _ (set_row _ _ _ _ _ _ _ HK.out))) Tryd.underlying47 rfl refFileSize) rfl ⟨by rw [HG.out]; rfl, HB.out _ _ _⟩
      · have HN := Lib.hid hps
        have e1 : ¬ f.1.toList = s.toList := fun e => hps (tl_eq e)
        have e1' : (f.1.toList == s.toList) = false := by simpa using e1
        clear hps
        go_wp2
        go_roundw
        case rel => exact ⟨k + 1, by omega, rfl, by go_num, Lib.hid (by
          rw [take_snoc HF.out]
          intro x hm
          rcases List.mem_append.1 hm with hm | hm
          · exact hp.out x hm
          · rw [List.mem_singleton.1 hm]; exact HN.out), rfl⟩
        case measure => simp [intOf]; omega
    · obtain rfl : k = l.length := by omega
      have HG := Lib.hid (getF_no (show ∀ x ∈ l, x.1 ≠ s by have := hp.out; rw [List.take_length] at this; exact this))
      go_wp2
      refine bodyPost_ret (results_row_tmp (fn := Tryd.f31) rfl _ _ g 47 #[.string ⟨#[]⟩, .int .i64 0, .string ⟨#[]⟩] (0, 0) _ rfl (by first | exact set_row _ _ _ _ _ _ _ (set_row _ _ _ _ _ _ _ (set_row _ _ _ _ _ _ _ HK.out)) | simpa using set_row _ _ _ _ _ _ _ (set_row _ _ _ _ _ _ _ (set_row _ _ _ _ _ _ _ HK.out))) Tryd.underlying47 rfl refFileSize) rfl ⟨by rw [HG.out]; rfl, HB.out _ _ _⟩
end Go.Proofs.YtplleaimmmanhaaDoor
