/-
  (Row).Check: the first file of a row that may not be, and why.
-/
import Derived.Test.YtapcnmnnichamaaGreatDoorFRef
import Derived.Test.YtapcnmnnichamaaGreatDoorFPut
namespace Go.Proofs.YtapcnmnnichamaaGreatDoor
open Go Go.RowKit

def bFile : ByteArray := ⟨#[102, 105, 108, 101]⟩
def FaultOf (F : Nat) (p : ByteArray) (n e : Int) (w : World) : Prop := w.heap[F]? = some (.cells #[.string p, .int .i64 n, .iface 75 (.int .i64 e)] 80 (0, 0))
/-- What a check answers: nothing, or a Fault of its own. -/
def FaultTo (p : ByteArray) (o : Option (Nat × Int)) (w : World) (e : Ending) (w' : World) : Prop :=
  (o = none ∧ e = .returned .nilIface ∧ Below w.heap.size w w') ∨ ∃ (i : Nat) (k : Int) (F : Nat), o = some (i, k) ∧ e = .returned (.iface 76 (.pointer (some ⟨F, 0, none⟩))) ∧ w.heap.size ≤ F ∧ FaultOf F p i k w' ∧ Below w.heap.size w w'
def SizedD (l : List Fl) : Prop := ∀ x ∈ l, x.1.size ≤ 1000000 ∧ x.2.2.size ≤ 1000000
theorem SizedD.paths {l : List Fl} (h : SizedD l) : Sized l := fun x hx => (h x hx).1
theorem SizedD.at_ {l : List Fl} (h : SizedD l) {i : Nat} {x : Fl} (hx : l[i]? = some x) : x.1.size ≤ 1000000 ∧ x.2.2.size ≤ 1000000 := h x (List.mem_of_getElem? hx)
theorem SizedD.take {l : List Fl} (h : SizedD l) (k : Nat) : SizedD (l.take k) := fun x hx => h x (List.mem_of_mem_take hx)

set_option maxRecDepth 100000 in
set_option maxHeartbeats 4000000 in
theorem checkF_any (w : World) (v : Value) (l : List Fl) (h : Reads 3 cF w v l) (hs : SizedD l) (hl : l.length ≤ 100000) :
    Calls Tryz.prog 15 #[v] w (FaultTo bFile (chkF l) w) := by
  obtain ⟨A, c, rfl⟩ := h.form
  have hlen := h.len
  have HO := Lib.hid h
  have HS := Lib.hid hs
  have hcm : c ≤ 9223372036854775807 := by have := hlen.2.2; unfold maxLen at this; omega
  have hlc : l.length ≤ c := hlen.2.1
  clear h hs hlen
  by_cases hlong : 64 < l.length
  · have HV := Lib.hid (chkF_long hlong)
    have hli : (64 : Int) < (l.length : Int) := by omega
    clear hlong
    go_enter Tryz.func15, Tryz.ntmps15
    go_wp2_with fail
    go_ret
    exact .inr ⟨64, 4, w.heap.size, HV.out, rfl, Nat.le_refl _, heap_alloc_new w _, (Below.refl _ _).alloc (Nat.le_refl _) _⟩
  · have hli : ¬ (64 : Int) < (l.length : Int) := by omega
    have HL := Lib.hid hlong
    clear hlong
    go_enter Tryz.func15, Tryz.ntmps15
    go_wp2_with fail
    go_loopw [3, 4, 5, 15] (fun _ _ _ s15 wr => ∃ k : Nat, k ≤ l.length ∧ s15 = .int .i64 k ∧ Below w.heap.size w wr ∧ Hid (∀ j g, j < k → l[j]? = some g → refF (l.take j) g = 0)) (fun _ _ _ s15 _ => l.length - (intOf s15).toNat)
    case atStart => exact ⟨0, Nat.zero_le _, rfl, Below.refl _ _, Lib.hid (fun j _ hj => absurd hj (Nat.not_lt_zero _))⟩
    case round =>
      obtain ⟨k, hk, rfl, hb1, I⟩ := hrel
      by_cases hlt : k < l.length
      · obtain ⟨x, hx⟩ : ∃ x, l[k]? = some x := ⟨_, List.getElem?_eq_getElem hlt⟩
        obtain ⟨ad, rfl, c0, c1, c2⟩ := Fils.at_ (HO.out.below hb1) hx
        obtain ⟨W2, hW2⟩ : ∃ W2, W2 = wr.alloc (.cells #[.string x.1, .int .i64 x.2.1, .string x.2.2] 49) := ⟨_, rfl⟩
        have b2 : Below wr.heap.size wr W2 := by rw [hW2]; exact (Below.refl _ _).alloc (Nat.le_refl _) _
        have BW2 : Below w.heap.size w W2 := hb1.trans (b2.mono hb1.size)
        obtain ⟨q, hQ⟩ : ∃ q, q = wr.heap.size := ⟨_, rfl⟩
        have k2 : W2.heap[q]? = some (.cells #[.string x.1, .int .i64 x.2.1, .string x.2.2] 49 (0, 0)) := by rw [hW2, hQ]; exact heap_alloc_new wr _
        have z0 : W2.drew.cell? ⟨q, 0, none⟩ = some (.string x.1) ∧ W2.drew.cell? ⟨q, 1, none⟩ = some (.int .i64 x.2.1) ∧ W2.drew.cell? ⟨q, 2, none⟩ = some (.string x.2.2) :=
          ⟨cell_of_row W2 q 0 _ 49 (0, 0) k2, cell_of_row W2 q 1 _ 49 (0, 0) k2, cell_of_row W2 q 2 _ 49 (0, 0) k2⟩
        have hq2 : q < W2.heap.size := by rw [hW2, hQ]; simp
        have ZZ := Lib.hid fun W (hW : Below W2.heap.size W2 W) => (show W.cell? ⟨q, 0, none⟩ = some (.string x.1) ∧ W.cell? ⟨q, 1, none⟩ = some (.int .i64 x.2.1) ∧ W.cell? ⟨q, 2, none⟩ = some (.string x.2.2) from
          ⟨cell_of_row W q 0 _ 49 (0, 0) ((hW.block q hq2).trans k2), cell_of_row W q 1 _ 49 (0, 0) ((hW.block q hq2).trans k2), cell_of_row W q 2 _ 49 (0, 0) ((hW.block q hq2).trans k2)⟩)
        have RF := Lib.hid fun W (hW : Below W2.heap.size W2 W) => refuses_any W (.slice (some ad) k c) (l.take k) x ((HO.out.front (i := k) (by omega)).below (BW2.trans (hW.mono BW2.size))) (HS.out.take k).paths (HS.out.at_ hx).1 (HS.out.at_ hx).2 (by rw [List.length_take]; omega)
        have HX := Lib.hid hx
        have HBW2 := Lib.hid BW2
        have hkc : (k : Int) ≤ (c : Int) := by omega
        have hkc2 : k ≤ c := by omega
        have hk0 : (0 : Int) ≤ (k : Int) := Int.natCast_nonneg _
        have hkl : (k : Int) < (l.length : Int) := by omega
        obtain ⟨r, hr⟩ : ∃ r, r = refF (l.take k) x := ⟨_, rfl⟩
        rw [← hr] at RF
        have HRR := Lib.hid hr
        clear hx hb1 hr
        go_wp2_with fail
        rw [← hW2, ← hQ]
        clear hW2 hQ b2 BW2 k2 c0 c1 c2
        by_cases hr0 : r = 0
        · subst hr0
          have HI : Hid (∀ j g, j < k + 1 → l[j]? = some g → refF (l.take j) g = 0) := Lib.hid fun j g hj hg => by
            rcases Nat.lt_or_ge j k with h1 | h1
            · exact I.out j g h1 hg
            · obtain rfl : j = k := by omega
              rw [HX.out] at hg
              cases hg
              exact HRR.out.symm
          go_region_held3 (fun w' => w'.cell? ⟨q, 0, none⟩ = some (.string x.1) ∧ w'.cell? ⟨q, 1, none⟩ = some (.int .i64 x.2.1) ∧ w'.cell? ⟨q, 2, none⟩ = some (.string x.2.2)) (first | exact z0 | exact z5)
            ((go_at_call 34; refine (RF.out (World.drew _) ((Below.refl _ _).drew)).mono ?_; rintro e w5 ⟨rfl, b5⟩; have b6 := Below.trans ((Below.refl W2.heap.size W2).drew) (b5.mono (by simp)); have z5 := ZZ.out _ b6))
          have B6 := Lib.hid (HBW2.out.trans (b6.mono HBW2.out.size))
          clear b5 b6 z0 z5 RF
          go_wp2_with fail
          go_roundw
          case rel => exact ⟨k + 1, by omega, by go_num, B6.out, HI⟩
          case measure => simp [intOf]; omega
        · have hne : (r == 0) = false := by simpa using hr0
          have hne2 : (r != 0) = true := by simpa using hr0
          have HV : Hid (chkF l = some (k, r)) := Lib.hid (by have := chkF_bad HL.out I.out HX.out (by rw [← HRR.out]; exact hr0); rw [this, ← HRR.out])
          clear hr0
          go_region_held3 (fun w' => w'.cell? ⟨q, 0, none⟩ = some (.string x.1) ∧ w'.cell? ⟨q, 1, none⟩ = some (.int .i64 x.2.1) ∧ w'.cell? ⟨q, 2, none⟩ = some (.string x.2.2)) (first | exact z0 | exact z5)
            ((go_at_call 34; refine (RF.out (World.drew _) ((Below.refl _ _).drew)).mono ?_; rintro e w5 ⟨rfl, b5⟩; have b6 := Below.trans ((Below.refl W2.heap.size W2).drew) (b5.mono (by simp)); have z5 := ZZ.out _ b6))
          have B6 := Lib.hid (HBW2.out.trans (b6.mono HBW2.out.size))
          clear b5 b6 z0 z5 RF
          go_wp2_with fail
          go_ret
          exact .inr ⟨k, r, w5.heap.size, HV.out, rfl, B6.out.size, heap_alloc_new w5 _, B6.out.alloc B6.out.size _⟩
      · obtain rfl : k = l.length := by omega
        have HV : Hid (chkF l = none) := Lib.hid (chkF_good HL.out fun i f hf => I.out i f (List.getElem?_eq_some_iff.1 hf).1 hf)
        go_wp2_with fail
        go_ret
        exact .inl ⟨HV.out, rfl, hb1⟩
end Go.Proofs.YtapcnmnnichamaaGreatDoor
