/-
  slices.Concat of trees.
  (Row).Put: a file put into a tree that rises.
  (Row).Check: the first file of a row that may not be, and why.
  index.Check: the first entry of a row that may not be, and why.
  Words for memory: a block that is known whole; bytes in a row of their own; a call that touches two blocks alone.
  slices.Insert at entries in a row of the call's own: where there is no room, where there is; at the end: all ways in one contract.
  slices.BinarySearchFunc at entries that rise, by index.compare.
  index.Put.
  Entries that rise: what Check finds good rises; what Put leaves rises.
  (Entry).still.
  index.Same's closure.
  index.Same.
-/
import Derived.Test.YtdmmjfmjohliiaaGreatDoorG2
import Derived.Test.YtdmmjfmjohliiaaGreatDoorG1
import Derived.Deep.RegionHeld3
import Derived.Test.YtdmmjfmjohliiaaGreatDoorG3
import Derived.WalkKit
import Derived.WalkSpells
import Derived.WalkSmall
import Derived.Lib.SliceRun
import Derived.Laws.OwnMore
import Derived.Laws.Rows
import Derived.Laws.IdiomCopy
import Derived.Maps.AppendAt
import Derived.Lib.Hide
import Derived.Laws.BitsAllLaws
import Derived.Deep.Draws
import Derived.Deep.AppendLies
import Derived.Deep.RegionLaw
import Derived.Deep.QuietTactic
import Derived.BigQuiet
import Derived.IntWalk
import Derived.OpenShut
import Derived.LoopTactic
import Derived.WalkLawsBesides
import Derived.Deep.RegionWith
import Derived.Lib.AppendZerosOnto
import Derived.Laws.AppendOwnNone
import Derived.Shelf.Spec.SlicesInsertGrow
namespace Go.Proofs.YtdmmjfmjohliiaaGreatDoor
open Go.RowKit

/-- The files of trees, one after the other. -/
def catR (rs : List (Value × List Fl)) : List Fl := rs.flatMap (·.2)
theorem catR_snoc (rs : List (Value × List Fl)) (r : Value × List Fl) : catR (rs ++ [r]) = catR rs ++ r.2 := by simp [catR]
theorem catR_take (rs : List (Value × List Fl)) (i : Nat) : (catR (rs.take i)).length ≤ (catR rs).length := by
  conv => rhs; rw [← List.take_append_drop i rs]
  unfold catR
  rw [List.flatMap_append, List.length_append]
  omega

set_option maxRecDepth 100000 in
set_option maxHeartbeats 4000000 in
theorem concat_any (w : World) (ad : Addr) (c : Nat) (rs : List (Value × List Fl)) (h : Trees w ad rs) (hl : rs.length ≤ 1000) (hp : (catR rs).length ≤ 100000) :
    Calls Tryz.prog 84 #[.slice (some ad) rs.length c] w (OwnTo 56 3 cF (catR rs) w) := by
  have hnm : rs.length ≤ 9223372036854775807 := by omega
  have HO := Lib.hid h
  have HP := Lib.hid hp
  clear h hp
  go_enter Tryz.func84, Tryz.ntmps84
  go_wp2
  go_loopw [3, 11] (fun s3 s11 wr => ∃ (i m : Nat), i ≤ rs.length ∧ s11 = .int .i64 i ∧ s3 = .int .i64 m ∧ Hid (m = (catR (rs.take i)).length) ∧ SameG wr w) (fun _ s11 _ => rs.length - (intOf s11).toNat)
  case atStart => exact ⟨0, 0, Nat.zero_le _, rfl, rfl, Lib.hid rfl, rfl⟩
  case round =>
    obtain ⟨i, m, hil, rfl, rfl, hm, hw⟩ := hrel
    unfold SameG at hw
    subst hw
    by_cases hlt : i < rs.length
    · obtain ⟨r, hr⟩ : ∃ r, rs[i]? = some r := ⟨_, List.getElem?_eq_getElem hlt⟩
      have HT := Lib.hid (show (catR (rs.take (i + 1))).length = (catR (rs.take i)).length + r.2.length by rw [take_snoc hr, catR_snoc, List.length_append])
      have hle := catR_take rs (i + 1)
      rw [HT.out, ← hm.out] at hle
      have c0 := (HO.out i r hr).1
      have hrd := (HO.out i r hr).2
      obtain ⟨rv, l⟩ := r
      obtain ⟨B, d, hrv⟩ := hrd.form
      simp only at hrv hle
      subst hrv
      have HPm := HP.out
      have i0' : (0 : Int) ≤ (i : Int) := Int.natCast_nonneg _
      have hi1 : (i : Int) < (rs.length : Int) := by omega
      have hm0 : ¬ ((m : Int) + (l.length : Int) < 0) := by omega
      have hlm : l.length ≤ 9223372036854775807 := by omega
      have hwr : IntKind.i64.wrap ((m : Int) + (l.length : Int)) = (m : Int) + (l.length : Int) := by rw [IntKind.wrap_i64] <;> omega
      clear hr hrd hle HPm
      go_wp2
      go_roundw
      case rel => exact ⟨i + 1, m + l.length, by omega, by go_num, by rw [Int.natCast_add], Lib.hid (by rw [HT.out, hm.out]), rfl⟩
      case measure => simp [intOf]; omega
    · obtain rfl : i = rs.length := by omega
      have hmn : m ≤ 100000 := by rw [hm.out, List.take_length]; exact HP.out
      have GR := Lib.hid (grow_any wr m (by omega))
      clear hm
      go_wp2_with fail
      refine GR.out.mono ?_
      rintro e w1 ⟨A1, c1, rfl, o1, b1⟩
      have O1 := Lib.hid o1
      have B1 := b1
      obtain ⟨wo, hwo⟩ : ∃ wo, wo = wr := ⟨_, rfl⟩
      subst hwo
      clear o1 b1 GR hmn
      go_wp2_with fail
      go_loopw [6, 27] (fun s6 s27 wq => ∃ (k : Nat) (acc : List Fl), k ≤ rs.length ∧ s27 = .int .i64 k ∧ Hid (acc = catR (rs.take k)) ∧ Hid (wq.ownsRow wo.heap.size 56 3 s6 acc.length (acc.flatMap cF)) ∧ Below wo.heap.size wo wq) (fun _ s27 _ => rs.length - (intOf s27).toNat)
      case atStart => exact ⟨0, [], Nat.zero_le _, rfl, Lib.hid rfl, Lib.hid O1.out, B1⟩
      case round =>
        obtain ⟨k, acc, hk, rfl, hacc, hown, hb⟩ := hrel
        by_cases hkt : k < rs.length
        · obtain ⟨r, hr⟩ : ∃ r, rs[k]? = some r := ⟨_, List.getElem?_eq_getElem hkt⟩
          have HT := Lib.hid (show catR (rs.take (k + 1)) = acc ++ r.2 by rw [take_snoc hr, catR_snoc, hacc.out])
          have hle := catR_take rs (k + 1)
          rw [HT.out, List.length_append] at hle
          have c0 := ((HO.out.below hb) k r hr).1
          have hrd := ((HO.out.below hb) k r hr).2
          obtain ⟨rv, l⟩ := r
          obtain ⟨B, d, hrv⟩ := hrd.form
          simp only at hrv hle HT
          subst hrv
          have HR := Lib.hid hrd
          have HPm := HP.out
          have k0' : (0 : Int) ≤ (k : Int) := Int.natCast_nonneg _
          have hk1 : (k : Int) < (rs.length : Int) := by omega
          have hsz := hb.size
          have hle2 : acc.length + l.length ≤ 1000000 := by omega
          clear hr hrd hle HPm
          go_wp2_with (at_builtin; refine wpList_append_files _ rfl _ _ rfl wo.heap.size _ acc l rfl hown.out _ _ _ rfl HR.out hle2 hsz ?_; intro A' c' w5 own5 b5 hg5)
          have HB5 := hb.trans b5
          rw [List.length_append] at own5
          clear b5 hg5
          go_roundw
          case rel => exact ⟨k + 1, acc ++ l, by omega, by go_num, Lib.hid HT.out.symm, Lib.hid (by rw [List.length_append]; exact own5), HB5⟩
          case measure => simp [intOf]; omega
        · obtain rfl : k = rs.length := by omega
          rw [List.take_length] at hacc
          go_wp2
          go_ret
          exact ⟨_, rfl, by rw [← hacc.out]; exact hown.out, hb⟩
end Go.Proofs.YtdmmjfmjohliiaaGreatDoor
namespace Go.Proofs.YtdmmjfmjohliiaaGreatDoor
open Go.RowKit

section
variable {α : Type} {k : Nat} {enc : α → List Value} {w : World} {A : Option Addr} {n c : Nat} {l : List α}
theorem Reads.front (h : Reads k enc w (.slice A n c) l) {i : Nat} (hi : i ≤ n) : Reads k enc w (.slice A i c) (l.take i) := by
  obtain ⟨hn, hnc, hcm⟩ := h.len
  obtain ⟨A', c', hv, h1, h2, h3, h4⟩ := h
  injection hv with e1 e2 e3
  subst e1; subst e3
  refine ⟨A, c, by rw [List.length_take, Nat.min_eq_left (by omega)], by rw [List.length_take]; omega, hcm, h3, fun ad ha j x hx => h4 ad ha j x ?_⟩
  rw [List.getElem?_take] at hx
  split at hx
  · exact hx
  · cases hx
theorem Reads.cut (h : Reads k enc w (.slice A n c) l) {i : Nat} (hi : i ≤ n) : Reads k enc w (.slice (if c = i then A else A.map (·.add (i * k))) (n - i) (c - i)) (l.drop i) := by
  obtain ⟨hn, hnc, hcm⟩ := h.len
  obtain ⟨A', c', hv, h1, h2, h3, h4⟩ := h
  injection hv with e1 e2 e3
  subst e1; subst e3
  refine ⟨_, c - i, by rw [List.length_drop, hn], by rw [List.length_drop]; omega, by omega, ?_, ?_⟩
  · intro hA
    by_cases hc : c = i
    · omega
    · rw [if_neg hc] at hA
      have : A = none := by cases A with | none => rfl | some a => simp at hA
      have := h3 this
      omega
  · intro ad ha j x hx u v hv
    rw [List.getElem?_drop] at hx
    have hj := (List.getElem?_eq_some_iff.1 hx).1
    by_cases hc : c = i
    · omega
    · rw [if_neg hc] at ha
      cases A with
      | none => simp at ha
      | some a =>
        simp at ha
        subst ha
        have := h4 a rfl (i + j) x hx u v hv
        rw [adr_flat] at this ⊢
        have e : (a.add (i * k)).add (j * k + u) = a.add ((i + j) * k + u) := by
          rw [Nat.add_mul, Nat.add_assoc]
          generalize i * k = p
          generalize j * k + u = q
          unfold Addr.add
          by_cases hp : p = 0
          · subst hp; simp
          · by_cases hq : q = 0
            · subst hq; simp [hp]
            · simp [hp, hq, Nat.add_assoc]
        rw [e]
        exact this
end

set_option maxRecDepth 100000 in
set_option maxHeartbeats 4000000 in
theorem put_core (w2 : World) (A : Option Addr) (c : Nat) (l : List Fl) (p d : ByteArray) (m : Int) (i j : Nat) (R : Reads 3 cF w2 (.slice A l.length c) l) (hij : i ≤ j) (hj : j ≤ l.length) (hl : l.length ≤ 10000) :
    ∀ W, (∀ a, W.cell? a = ((w2.alloc (.cells #[.string p, .int .i64 m, .string d] 56)).alloc (.cells #[.slice A i c, .slice (some ⟨w2.heap.size, 0, none⟩) 1 1, .slice (if c = j then A else A.map (·.add (j * 3))) (l.length - j) (c - j)] 23)).cell? a) →
      Calls Tryz.prog 84 #[.slice (some ⟨w2.heap.size + 1, 0, none⟩) 3 3] W (OwnTo 56 3 cF (l.take i ++ (p, m, d) :: l.drop j) W) := fun W hW => by
  obtain ⟨hn, hnc, hcm⟩ := R.len
  have k2 := heap_alloc2_new w2 (.cells #[.string p, .int .i64 m, .string d] 56) (.cells #[.slice A i c, .slice (some ⟨w2.heap.size, 0, none⟩) 1 1, .slice (if c = j then A else A.map (·.add (j * 3))) (l.length - j) (c - j)] 23)
  have k1 := heap_alloc2_old w2 (.cells #[.string p, .int .i64 m, .string d] 56) (.cells #[.slice A i c, .slice (some ⟨w2.heap.size, 0, none⟩) 1 1, .slice (if c = j then A else A.map (·.add (j * 3))) (l.length - j) (c - j)] 23)
  have keep : ∀ {l' : List Fl} {v : Value}, Reads 3 cF w2 v l' → Reads 3 cF W v l' := fun h => ((h.alloc _).alloc _).keep fun q _ => hW q
  have hone : Reads 3 cF W (.slice (some ⟨w2.heap.size, 0, none⟩) 1 1) [(p, m, d)] := by
    refine Reads.keep (w := (w2.alloc _).alloc _) ?_ fun q _ => hW q
    refine ⟨some ⟨w2.heap.size, 0, none⟩, 1, rfl, Nat.le_refl _, by unfold maxLen; omega, (fun h => by cases h), fun ad ha t x hx u v hv => ?_⟩
    obtain rfl := Option.some.inj ha
    have ht : t = 0 := by have := (List.getElem?_eq_some_iff.1 hx).1; simp at this; omega
    subst ht
    obtain rfl := Option.some.inj hx
    rw [adr_flat, add_zero_addr, cell_of_row _ _ _ _ _ _ k1]
    simpa [cF] using hv
  have T : Trees W ⟨w2.heap.size + 1, 0, none⟩ [(.slice A i c, l.take i), (.slice (some ⟨w2.heap.size, 0, none⟩) 1 1, [(p, m, d)]), (.slice (if c = j then A else A.map (·.add (j * 3))) (l.length - j) (c - j), l.drop j)] := fun t r hr => by
    match t, hr with
    | 0, hr => obtain rfl := Option.some.inj hr; exact ⟨by rw [hW, add_zero_addr, cell_of_row _ _ _ _ _ _ k2]; rfl, keep (R.front (by omega))⟩
    | 1, hr => obtain rfl := Option.some.inj hr; exact ⟨by rw [hW, add_zero_addr, cell_of_row _ _ _ _ _ _ k2]; rfl, hone⟩
    | 2, hr => obtain rfl := Option.some.inj hr; exact ⟨by rw [hW, add_zero_addr, cell_of_row _ _ _ _ _ _ k2]; rfl, keep (R.cut hj)⟩
    | t + 3, hr => simp at hr
  have := concat_any W ⟨w2.heap.size + 1, 0, none⟩ 3 _ T (by simp) (by simp [catR]; omega)
  simpa [catR] using this
end Go.Proofs.YtdmmjfmjohliiaaGreatDoor
namespace Go.Proofs.YtdmmjfmjohliiaaGreatDoor
open Go Go.RowKit

def bFile : ByteArray := ⟨#[102, 105, 108, 101]⟩
def FaultOf (F : Nat) (p : ByteArray) (n e : Int) (w : World) : Prop := w.heap[F]? = some (.cells #[.string p, .int .i64 n, .iface 78 (.int .i64 e)] 80 (0, 0))
/-- What a check answers: nothing, or a Fault of its own. -/
def FaultTo (p : ByteArray) (o : Option (Nat × Int)) (w : World) (e : Ending) (w' : World) : Prop :=
  (o = none ∧ e = .returned .nilIface ∧ Below w.heap.size w w') ∨ ∃ (i : Nat) (k : Int) (F : Nat), o = some (i, k) ∧ e = .returned (.iface 77 (.pointer (some ⟨F, 0, none⟩))) ∧ w.heap.size ≤ F ∧ FaultOf F p i k w' ∧ Below w.heap.size w w'
def SizedD (l : List Fl) : Prop := ∀ x ∈ l, x.1.size ≤ 1000000 ∧ x.2.2.size ≤ 1000000
theorem SizedD.paths {l : List Fl} (h : SizedD l) : Sized l := fun x hx => (h x hx).1
theorem SizedD.at_ {l : List Fl} (h : SizedD l) {i : Nat} {x : Fl} (hx : l[i]? = some x) : x.1.size ≤ 1000000 ∧ x.2.2.size ≤ 1000000 := h x (List.mem_of_getElem? hx)
theorem SizedD.take {l : List Fl} (h : SizedD l) (k : Nat) : SizedD (l.take k) := fun x hx => h x (List.mem_of_mem_take hx)

set_option maxRecDepth 100000 in
set_option maxHeartbeats 4000000 in
theorem checkF_any (w : World) (v : Value) (l : List Fl) (h : Reads 3 cF w v l) (hs : SizedD l) (hl : l.length ≤ 100000) :
    Calls Tryz.prog 29 #[v] w (FaultTo bFile (chkF l) w) := by
  obtain ⟨A, c, rfl⟩ := h.form
  have hlen := h.len
  have HO := Lib.hid h
  have HS := Lib.hid hs
  have hcm : c ≤ 9223372036854775807 := by have := hlen.2.2; unfold maxLen at this; omega
  have hlc : l.length ≤ c := hlen.2.1
  clear h hs hlen
  by_cases hlong : 64 < l.length
  · have HV := Lib.hid (chkF_long hlong)
    have hli : (64 : Int) < (l.length : Int) := by omega
    clear hlong
    go_enter Tryz.func29, Tryz.ntmps29
    go_wp2_with fail
    go_ret
    exact .inr ⟨64, 4, w.heap.size, HV.out, rfl, Nat.le_refl _, heap_alloc_new w _, (Below.refl _ _).alloc (Nat.le_refl _) _⟩
  · have hli : ¬ (64 : Int) < (l.length : Int) := by omega
    have HL := Lib.hid hlong
    clear hlong
    go_enter Tryz.func29, Tryz.ntmps29
    go_wp2_with fail
    go_loopw [3, 4, 5, 15] (fun _ _ _ s15 wr => ∃ k : Nat, k ≤ l.length ∧ s15 = .int .i64 k ∧ Below w.heap.size w wr ∧ Hid (∀ j g, j < k → l[j]? = some g → refF (l.take j) g = 0)) (fun _ _ _ s15 _ => l.length - (intOf s15).toNat)
    case atStart => exact ⟨0, Nat.zero_le _, rfl, Below.refl _ _, Lib.hid (fun j _ hj => absurd hj (Nat.not_lt_zero _))⟩
    case round =>
      obtain ⟨k, hk, rfl, hb1, I⟩ := hrel
      by_cases hlt : k < l.length
      · obtain ⟨x, hx⟩ : ∃ x, l[k]? = some x := ⟨_, List.getElem?_eq_getElem hlt⟩
        obtain ⟨ad, rfl, c0, c1, c2⟩ := Fils.at_ (HO.out.below hb1) hx
        obtain ⟨W2, hW2⟩ : ∃ W2, W2 = wr.alloc (.cells #[.string x.1, .int .i64 x.2.1, .string x.2.2] 56) := ⟨_, rfl⟩
        have b2 : Below wr.heap.size wr W2 := by rw [hW2]; exact (Below.refl _ _).alloc (Nat.le_refl _) _
        have BW2 : Below w.heap.size w W2 := hb1.trans (b2.mono hb1.size)
        obtain ⟨q, hQ⟩ : ∃ q, q = wr.heap.size := ⟨_, rfl⟩
        have k2 : W2.heap[q]? = some (.cells #[.string x.1, .int .i64 x.2.1, .string x.2.2] 56 (0, 0)) := by rw [hW2, hQ]; exact heap_alloc_new wr _
        have z0 : W2.drew.cell? ⟨q, 0, none⟩ = some (.string x.1) ∧ W2.drew.cell? ⟨q, 1, none⟩ = some (.int .i64 x.2.1) ∧ W2.drew.cell? ⟨q, 2, none⟩ = some (.string x.2.2) :=
          ⟨cell_of_row W2 q 0 _ 56 (0, 0) k2, cell_of_row W2 q 1 _ 56 (0, 0) k2, cell_of_row W2 q 2 _ 56 (0, 0) k2⟩
        have hq2 : q < W2.heap.size := by rw [hW2, hQ]; simp
        have ZZ := Lib.hid fun W (hW : Below W2.heap.size W2 W) => (show W.cell? ⟨q, 0, none⟩ = some (.string x.1) ∧ W.cell? ⟨q, 1, none⟩ = some (.int .i64 x.2.1) ∧ W.cell? ⟨q, 2, none⟩ = some (.string x.2.2) from
          ⟨cell_of_row W q 0 _ 56 (0, 0) ((hW.block q hq2).trans k2), cell_of_row W q 1 _ 56 (0, 0) ((hW.block q hq2).trans k2), cell_of_row W q 2 _ 56 (0, 0) ((hW.block q hq2).trans k2)⟩)
        have RF := Lib.hid fun W (hW : Below W2.heap.size W2 W) => refuses_any W (.slice (some ad) k c) (l.take k) x ((HO.out.front (i := k) (by omega)).below (BW2.trans (hW.mono BW2.size))) (HS.out.take k).paths (HS.out.at_ hx).1 (HS.out.at_ hx).2 (by rw [List.length_take]; omega)
        have HX := Lib.hid hx
        have HBW2 := Lib.hid BW2
        have hkc : (k : Int) ≤ (c : Int) := by omega
        have hkc2 : k ≤ c := by omega
        have hk0 : (0 : Int) ≤ (k : Int) := Int.natCast_nonneg _
        have hkl : (k : Int) < (l.length : Int) := by omega
        obtain ⟨r, hr⟩ : ∃ r, r = refF (l.take k) x := ⟨_, rfl⟩
        rw [← hr] at RF
        have HRR := Lib.hid hr
        clear hx hb1 hr
        go_wp2_with fail
        rw [← hW2, ← hQ]
        clear hW2 hQ b2 BW2 k2 c0 c1 c2
        by_cases hr0 : r = 0
        · subst hr0
          have HI : Hid (∀ j g, j < k + 1 → l[j]? = some g → refF (l.take j) g = 0) := Lib.hid fun j g hj hg => by
            rcases Nat.lt_or_ge j k with h1 | h1
            · exact I.out j g h1 hg
            · obtain rfl : j = k := by omega
              rw [HX.out] at hg
              cases hg
              exact HRR.out.symm
          go_region_held3 (fun w' => w'.cell? ⟨q, 0, none⟩ = some (.string x.1) ∧ w'.cell? ⟨q, 1, none⟩ = some (.int .i64 x.2.1) ∧ w'.cell? ⟨q, 2, none⟩ = some (.string x.2.2)) (first | exact z0 | exact z5)
            ((go_at_call 73; refine (RF.out (World.drew _) ((Below.refl _ _).drew)).mono ?_; rintro e w5 ⟨rfl, b5⟩; have b6 := Below.trans ((Below.refl W2.heap.size W2).drew) (b5.mono (by simp)); have z5 := ZZ.out _ b6))
          have B6 := Lib.hid (HBW2.out.trans (b6.mono HBW2.out.size))
          clear b5 b6 z0 z5 RF
          go_wp2_with fail
          go_roundw
          case rel => exact ⟨k + 1, by omega, by go_num, B6.out, HI⟩
          case measure => simp [intOf]; omega
        · have hne : (r == 0) = false := by simpa using hr0
          have hne2 : (r != 0) = true := by simpa using hr0
          have HV : Hid (chkF l = some (k, r)) := Lib.hid (by have := chkF_bad HL.out I.out HX.out (by rw [← HRR.out]; exact hr0); rw [this, ← HRR.out])
          clear hr0
          go_region_held3 (fun w' => w'.cell? ⟨q, 0, none⟩ = some (.string x.1) ∧ w'.cell? ⟨q, 1, none⟩ = some (.int .i64 x.2.1) ∧ w'.cell? ⟨q, 2, none⟩ = some (.string x.2.2)) (first | exact z0 | exact z5)
            ((go_at_call 73; refine (RF.out (World.drew _) ((Below.refl _ _).drew)).mono ?_; rintro e w5 ⟨rfl, b5⟩; have b6 := Below.trans ((Below.refl W2.heap.size W2).drew) (b5.mono (by simp)); have z5 := ZZ.out _ b6))
          have B6 := Lib.hid (HBW2.out.trans (b6.mono HBW2.out.size))
          clear b5 b6 z0 z5 RF
          go_wp2_with fail
          go_ret
          exact .inr ⟨k, r, w5.heap.size, HV.out, rfl, B6.out.size, heap_alloc_new w5 _, B6.out.alloc B6.out.size _⟩
      · obtain rfl : k = l.length := by omega
        have HV : Hid (chkF l = none) := Lib.hid (chkF_good HL.out fun i f hf => I.out i f (List.getElem?_eq_some_iff.1 hf).1 hf)
        go_wp2_with fail
        go_ret
        exact .inl ⟨HV.out, rfl, hb1⟩
end Go.Proofs.YtdmmjfmjohliiaaGreatDoor
namespace Go.Proofs.YtdmmjfmjohliiaaGreatDoor
open Go Go.RowKit

theorem wrong_any (w : World) (v : Value) (l : List En) (s : En) (h : Reads 6 cE w v l) (hs : s.1.size ≤ 1000000) (hd : s.2.2.2.1.size ≤ 1000000) (hz : SizedE l) (hl : l.length ≤ 100000) :
    Calls Tryz.prog 74 #[eV s, v] w (NumTo (wrE l s) w) := by
  by_cases h0 : ownE s = 0
  · exact wrong_rest w v l s h hs hz hl h0
  · exact wrong_own w v l s h hs hd h0

def bEntry : ByteArray := ⟨#[101, 110, 116, 114, 121]⟩
def SizedDE (l : List En) : Prop := ∀ x ∈ l, x.1.size ≤ 1000000 ∧ x.2.2.2.1.size ≤ 1000000
theorem SizedDE.paths {l : List En} (h : SizedDE l) : SizedE l := fun x hx => (h x hx).1
theorem SizedDE.at_ {l : List En} (h : SizedDE l) {i : Nat} {x : En} (hx : l[i]? = some x) : x.1.size ≤ 1000000 ∧ x.2.2.2.1.size ≤ 1000000 := h x (List.mem_of_getElem? hx)
theorem SizedDE.take {l : List En} (h : SizedDE l) (k : Nat) : SizedDE (l.take k) := fun x hx => h x (List.mem_of_mem_take hx)

def wrongsE : List En → List En → Option (Nat × Int)
  | _, [] => none
  | a, f :: r => if wrE a f ≠ 0 then some (a.length, wrE a f) else wrongsE (a ++ [f]) r
/-- What Check says. -/
def chkE (l : List En) : Option (Nat × Int) := if 256 < l.length then some (256, 4) else wrongsE [] l

theorem wrongsE_step : ∀ (a r : List En), (∀ i f, r[i]? = some f → wrE (a ++ r.take i) f = 0) → wrongsE a r = none
  | _, [], _ => rfl
  | a, f :: r, h => by
    have h0 := h 0 f rfl
    simp only [List.take_zero, List.append_nil] at h0
    unfold wrongsE
    rw [if_neg (by rw [h0]; simp)]
    refine wrongsE_step (a ++ [f]) r fun i g hg => ?_
    have := h (i + 1) g (by simpa using hg)
    rw [List.take_succ_cons] at this
    rw [List.append_assoc]
    exact this
theorem wrongsE_at : ∀ (a r : List En) (i : Nat) (f : En), (∀ j g, j < i → r[j]? = some g → wrE (a ++ r.take j) g = 0) → r[i]? = some f → wrE (a ++ r.take i) f ≠ 0 → wrongsE a r = some (a.length + i, wrE (a ++ r.take i) f)
  | _, [], _, _, _, h, _ => by simp at h
  | a, f :: r, 0, g, _, h, hr => by
    simp at h
    subst h
    simp only [List.take_zero, List.append_nil] at hr ⊢
    unfold wrongsE
    rw [if_pos hr]
    simp
  | a, f :: r, i + 1, g, hb, h, hr => by
    have h0 := hb 0 f (by omega) rfl
    simp only [List.take_zero, List.append_nil] at h0
    unfold wrongsE
    rw [if_neg (by rw [h0]; simp)]
    rw [List.take_succ_cons] at hr ⊢
    have := wrongsE_at (a ++ [f]) r i g (fun j x hj hx => by
      have := hb (j + 1) x (by omega) (by simpa using hx)
      rw [List.take_succ_cons] at this
      rw [List.append_assoc]
      exact this) (by simpa using h) (by rw [List.append_assoc]; exact hr)
    rw [this, List.append_assoc]
    simp
    omega
theorem wrongsE_good : ∀ (a r : List En), wrongsE a r = none → ∀ i f, r[i]? = some f → wrE (a ++ r.take i) f = 0
  | _, [], _, i, f, h => by simp at h
  | a, f :: r, h, i, g, hg => by
    unfold wrongsE at h
    by_cases hr : wrE a f = 0
    · rw [if_neg (by rw [hr]; simp)] at h
      cases i with
      | zero => simp at hg; subst hg; simpa using hr
      | succ i =>
        have := wrongsE_good (a ++ [f]) r h i g (by simpa using hg)
        rw [List.append_assoc] at this
        rw [List.take_succ_cons]
        exact this
    · rw [if_pos hr] at h; cases h
theorem chkE_long {l : List En} (h : 256 < l.length) : chkE l = some (256, 4) := if_pos h
theorem chkE_good {l : List En} (h : ¬ 256 < l.length) (hg : ∀ i f, l[i]? = some f → wrE (l.take i) f = 0) : chkE l = none := by
  unfold chkE
  rw [if_neg h]
  exact wrongsE_step [] l fun i f hf => by simpa using hg i f hf
theorem chkE_bad {l : List En} {i : Nat} {f : En} (h : ¬ 256 < l.length) (hg : ∀ j g, j < i → l[j]? = some g → wrE (l.take j) g = 0) (hi : l[i]? = some f) (hb : wrE (l.take i) f ≠ 0) : chkE l = some (i, wrE (l.take i) f) := by
  unfold chkE
  rw [if_neg h]
  have := wrongsE_at [] l i f (fun j g hj hx => by simpa using hg j g hj hx) hi (by simpa using hb)
  simpa using this
theorem chkE_at {l : List En} (h : chkE l = none) {i : Nat} {f : En} (hi : l[i]? = some f) : wrE (l.take i) f = 0 := by
  unfold chkE at h
  by_cases hl : 256 < l.length
  · rw [if_pos hl] at h; cases h
  · rw [if_neg hl] at h
    simpa using wrongsE_good [] l h i f hi
theorem chkE_len {l : List En} (h : chkE l = none) : l.length ≤ 256 := by
  unfold chkE at h
  by_cases hl : 256 < l.length
  · rw [if_pos hl] at h; cases h
  · omega
set_option maxRecDepth 100000 in
set_option maxHeartbeats 4000000 in
theorem checkE_any (w : World) (v : Value) (l : List En) (h : Reads 6 cE w v l) (hs : SizedDE l) (hl : l.length ≤ 100000) :
    Calls Tryz.prog 31 #[v] w (FaultTo bEntry (chkE l) w) := by
  obtain ⟨A, c, rfl⟩ := h.form
  have hlen := h.len
  have HO := Lib.hid h
  have HS := Lib.hid hs
  have hcm : c ≤ 9223372036854775807 := by have := hlen.2.2; unfold maxLen at this; omega
  have hlc : l.length ≤ c := hlen.2.1
  clear h hs hlen
  by_cases hlong : 256 < l.length
  · have HV := Lib.hid (chkE_long hlong)
    have hli : (256 : Int) < (l.length : Int) := by omega
    clear hlong
    go_enter Tryz.func31, Tryz.ntmps31
    go_wp2_with fail
    go_ret
    exact .inr ⟨256, 4, w.heap.size, HV.out, rfl, Nat.le_refl _, heap_alloc_new w _, (Below.refl _ _).alloc (Nat.le_refl _) _⟩
  · have hli : ¬ (256 : Int) < (l.length : Int) := by omega
    have HL := Lib.hid hlong
    clear hlong
    go_enter Tryz.func31, Tryz.ntmps31
    go_wp2_with fail
    go_loopw [3, 4, 5, 15] (fun _ _ _ s15 wr => ∃ k : Nat, k ≤ l.length ∧ s15 = .int .i64 k ∧ Below w.heap.size w wr ∧ Hid (∀ j g, j < k → l[j]? = some g → wrE (l.take j) g = 0)) (fun _ _ _ s15 _ => l.length - (intOf s15).toNat)
    case atStart => exact ⟨0, Nat.zero_le _, rfl, Below.refl _ _, Lib.hid (fun j _ hj => absurd hj (Nat.not_lt_zero _))⟩
    case round =>
      obtain ⟨k, hk, rfl, hb1, I⟩ := hrel
      by_cases hlt : k < l.length
      · obtain ⟨x, hx⟩ : ∃ x, l[k]? = some x := ⟨_, List.getElem?_eq_getElem hlt⟩
        obtain ⟨ad, rfl, c0, c1, c2, c3, c4, c5⟩ := Ents.at_ (HO.out.below hb1) hx
        obtain ⟨W2, hW2⟩ : ∃ W2, W2 = wr.alloc (.cells #[.string x.1, .int .i64 x.2.1, .int .i64 x.2.2.1, .string x.2.2.2.1, .int .i64 x.2.2.2.2.1, .int .i64 x.2.2.2.2.2] 69) := ⟨_, rfl⟩
        have b2 : Below wr.heap.size wr W2 := by rw [hW2]; exact (Below.refl _ _).alloc (Nat.le_refl _) _
        have BW2 : Below w.heap.size w W2 := hb1.trans (b2.mono hb1.size)
        obtain ⟨q, hQ⟩ : ∃ q, q = wr.heap.size := ⟨_, rfl⟩
        have k2 : W2.heap[q]? = some (.cells #[.string x.1, .int .i64 x.2.1, .int .i64 x.2.2.1, .string x.2.2.2.1, .int .i64 x.2.2.2.2.1, .int .i64 x.2.2.2.2.2] 69 (0, 0)) := by rw [hW2, hQ]; exact heap_alloc_new wr _
        have z0 : W2.drew.cell? ⟨q, 0, none⟩ = some (.string x.1) ∧ W2.drew.cell? ⟨q, 1, none⟩ = some (.int .i64 x.2.1) ∧ W2.drew.cell? ⟨q, 2, none⟩ = some (.int .i64 x.2.2.1) ∧ W2.drew.cell? ⟨q, 3, none⟩ = some (.string x.2.2.2.1) ∧ W2.drew.cell? ⟨q, 4, none⟩ = some (.int .i64 x.2.2.2.2.1) ∧ W2.drew.cell? ⟨q, 5, none⟩ = some (.int .i64 x.2.2.2.2.2) :=
          ⟨cell_of_row W2 q 0 _ 69 (0, 0) k2, cell_of_row W2 q 1 _ 69 (0, 0) k2, cell_of_row W2 q 2 _ 69 (0, 0) k2, cell_of_row W2 q 3 _ 69 (0, 0) k2, cell_of_row W2 q 4 _ 69 (0, 0) k2, cell_of_row W2 q 5 _ 69 (0, 0) k2⟩
        have hq2 : q < W2.heap.size := by rw [hW2, hQ]; simp
        have ZZ := Lib.hid fun W (hW : Below W2.heap.size W2 W) => (show W.cell? ⟨q, 0, none⟩ = some (.string x.1) ∧ W.cell? ⟨q, 1, none⟩ = some (.int .i64 x.2.1) ∧ W.cell? ⟨q, 2, none⟩ = some (.int .i64 x.2.2.1) ∧ W.cell? ⟨q, 3, none⟩ = some (.string x.2.2.2.1) ∧ W.cell? ⟨q, 4, none⟩ = some (.int .i64 x.2.2.2.2.1) ∧ W.cell? ⟨q, 5, none⟩ = some (.int .i64 x.2.2.2.2.2) from
          ⟨cell_of_row W q 0 _ 69 (0, 0) ((hW.block q hq2).trans k2), cell_of_row W q 1 _ 69 (0, 0) ((hW.block q hq2).trans k2), cell_of_row W q 2 _ 69 (0, 0) ((hW.block q hq2).trans k2), cell_of_row W q 3 _ 69 (0, 0) ((hW.block q hq2).trans k2), cell_of_row W q 4 _ 69 (0, 0) ((hW.block q hq2).trans k2), cell_of_row W q 5 _ 69 (0, 0) ((hW.block q hq2).trans k2)⟩)
        have RF := Lib.hid fun W (hW : Below W2.heap.size W2 W) => wrong_any W (.slice (some ad) k c) (l.take k) x ((HO.out.front (i := k) (by omega)).below (BW2.trans (hW.mono BW2.size))) (HS.out.at_ hx).1 (HS.out.at_ hx).2 (HS.out.take k).paths (by rw [List.length_take]; omega)
        have HX := Lib.hid hx
        have HBW2 := Lib.hid BW2
        have hkc : (k : Int) ≤ (c : Int) := by omega
        have hkc2 : k ≤ c := by omega
        have hk0 : (0 : Int) ≤ (k : Int) := Int.natCast_nonneg _
        have hkl : (k : Int) < (l.length : Int) := by omega
        obtain ⟨r, hr⟩ : ∃ r, r = wrE (l.take k) x := ⟨_, rfl⟩
        rw [← hr] at RF
        have HRR := Lib.hid hr
        clear hx hb1 hr
        go_wp2_with fail
        rw [← hW2, ← hQ]
        clear hW2 hQ b2 BW2 k2 c0 c1 c2 c3 c4 c5
        by_cases hr0 : r = 0
        · subst hr0
          have HI : Hid (∀ j g, j < k + 1 → l[j]? = some g → wrE (l.take j) g = 0) := Lib.hid fun j g hj hg => by
            rcases Nat.lt_or_ge j k with h1 | h1
            · exact I.out j g h1 hg
            · obtain rfl : j = k := by omega
              rw [HX.out] at hg
              cases hg
              exact HRR.out.symm
          go_region_held3 (fun w' => w'.cell? ⟨q, 0, none⟩ = some (.string x.1) ∧ w'.cell? ⟨q, 1, none⟩ = some (.int .i64 x.2.1) ∧ w'.cell? ⟨q, 2, none⟩ = some (.int .i64 x.2.2.1) ∧ w'.cell? ⟨q, 3, none⟩ = some (.string x.2.2.2.1) ∧ w'.cell? ⟨q, 4, none⟩ = some (.int .i64 x.2.2.2.2.1) ∧ w'.cell? ⟨q, 5, none⟩ = some (.int .i64 x.2.2.2.2.2)) (first | exact z0 | exact z5)
            ((go_at_call 74; refine (RF.out (World.drew _) ((Below.refl _ _).drew)).mono ?_; rintro e w5 ⟨rfl, b5⟩; have b6 := Below.trans ((Below.refl W2.heap.size W2).drew) (b5.mono (by simp)); have z5 := ZZ.out _ b6))
          have B6 := Lib.hid (HBW2.out.trans (b6.mono HBW2.out.size))
          clear b5 b6 z0 z5 RF
          go_wp2_with fail
          go_roundw
          case rel => exact ⟨k + 1, by omega, by go_num, B6.out, HI⟩
          case measure => simp [intOf]; omega
        · have hne : (r == 0) = false := by simpa using hr0
          have hne2 : (r != 0) = true := by simpa using hr0
          have HV : Hid (chkE l = some (k, r)) := Lib.hid (by have := chkE_bad HL.out I.out HX.out (by rw [← HRR.out]; exact hr0); rw [this, ← HRR.out])
          clear hr0
          go_region_held3 (fun w' => w'.cell? ⟨q, 0, none⟩ = some (.string x.1) ∧ w'.cell? ⟨q, 1, none⟩ = some (.int .i64 x.2.1) ∧ w'.cell? ⟨q, 2, none⟩ = some (.int .i64 x.2.2.1) ∧ w'.cell? ⟨q, 3, none⟩ = some (.string x.2.2.2.1) ∧ w'.cell? ⟨q, 4, none⟩ = some (.int .i64 x.2.2.2.2.1) ∧ w'.cell? ⟨q, 5, none⟩ = some (.int .i64 x.2.2.2.2.2)) (first | exact z0 | exact z5)
            ((go_at_call 74; refine (RF.out (World.drew _) ((Below.refl _ _).drew)).mono ?_; rintro e w5 ⟨rfl, b5⟩; have b6 := Below.trans ((Below.refl W2.heap.size W2).drew) (b5.mono (by simp)); have z5 := ZZ.out _ b6))
          have B6 := Lib.hid (HBW2.out.trans (b6.mono HBW2.out.size))
          clear b5 b6 z0 z5 RF
          go_wp2_with fail
          go_ret
          exact .inr ⟨k, r, w5.heap.size, HV.out, rfl, B6.out.size, heap_alloc_new w5 _, B6.out.alloc B6.out.size _⟩
      · obtain rfl : k = l.length := by omega
        have HV : Hid (chkE l = none) := Lib.hid (chkE_good HL.out fun i f hf => I.out i f (List.getElem?_eq_some_iff.1 hf).1 hf)
        go_wp2_with fail
        go_ret
        exact .inl ⟨HV.out, rfl, hb1⟩
end Go.Proofs.YtdmmjfmjohliiaaGreatDoor
namespace Go.Proofs.YtdmmjfmjohliiaaGreatDoor
open Go Go.RowKit

def Blk (w : World) (g : Nat) (t : TypeId) (cs : Array Value) : Prop := w.heap[g]? = some (.cells cs t (0, 0))
section
variable {w w' : World} {g : Nat} {t : TypeId} {cs : Array Value}
theorem Blk.lt (h : Blk w g t cs) : g < w.heap.size := by
  rcases Nat.lt_or_ge g w.heap.size with hlt | hge
  · exact hlt
  · unfold Blk at h; rw [Array.getElem?_eq_none hge] at h; cases h
theorem Blk.cell (h : Blk w g t cs) (i : Nat) : w.cell? ⟨g, i, none⟩ = cs[i]? := cell_of_row w g i cs t (0, 0) h
theorem Blk.frozen (h : Blk w g t cs) (i : Nat) : w.frozen? ⟨g, i, none⟩ = false := by
  unfold Blk at h
  simp [World.frozen?, h]
theorem Blk.new (w : World) (t : TypeId) (cs : Array Value) : Blk (w.alloc (.cells cs t)) w.heap.size t cs := heap_alloc_new w _
theorem Blk.drewN (h : Blk w g t cs) (n : Nat) : Blk (w.drewN n) g t cs := h
theorem Blk.alloc (h : Blk w g t cs) (o : Obj) : Blk (w.alloc o) g t cs := (Below.heap_alloc w o g h.lt).trans h
theorem Blk.set_ (h : Blk w g t cs) (i : Nat) (u : Value) : Blk (w.setCell ⟨g, i, none⟩ u) g t (cs.setIfInBounds i u) := by
  unfold Blk at h ⊢
  simp [World.setCell, Array.getElem?_modify, h]
theorem Blk.far (h : Blk w g t cs) {p : Addr} (hp : g ≠ p.block) (u : Value) : Blk (w.setCell p u) g t cs := (Below.heap_setCell w p u g hp).trans h
theorem Blk.below {B : Nat} (h : Blk w g t cs) (hb : Below B w w') (hg : g < B) : Blk w' g t cs := (hb.block g hg).trans h
theorem Blk.grown {row : Option Nat} (h : Blk w g t cs) (hb : w.grownBy w' row) (hg : some g ≠ row) : Blk w' g t cs := (hb.block g h.lt hg).trans h
theorem Blk.ne_ {g' : Nat} {t' : TypeId} {cs' : Array Value} (h : Blk w g t cs) (h' : Blk w g' t' cs') (hne : t ≠ t') : g ≠ g' := by
  rintro rfl
  unfold Blk at h h'
  rw [h] at h'
  injection h' with h'
  injection h' with _ ht
  exact hne ht
theorem own_blk_ne {base : Nat} {e : TypeId} {size n : Nat} {v : Value} {xs : List Value} (h : w.ownsRow base e size v n xs) (hg : Blk w g t cs) (hne : e ≠ t) : v.ownBlock ≠ some g := by
  rcases h.2 with ⟨rfl, _⟩ | ⟨g', cap, cur, rfl, _, hh, _⟩
  · simp [Value.ownBlock]
  · intro he
    have : g' = g := by simpa [Value.ownBlock] using he
    subst this
    exact Blk.ne_ (t := e) hh hg hne rfl
/-- Cells laid from o on. -/
theorem Blk.setCells : ∀ (vs : List Value) (o : Nat) {w : World} {cs : Array Value}, Blk w g t cs → o + vs.length ≤ cs.size →
    ∃ cs' : Array Value, Blk (w.setCells g o vs) g t cs' ∧ cs'.size = cs.size ∧ ∀ j, cs'[j]? = if o ≤ j ∧ j < o + vs.length then vs[j - o]? else cs[j]?
  | [], o, w, cs, h, _ => ⟨cs, h, rfl, fun j => by rw [if_neg (by simp only [List.length_nil]; omega)]⟩
  | v :: vs, o, w, cs, h, hl => by
    rw [List.length_cons] at hl
    obtain ⟨cs', h1, h2, h3⟩ := Blk.setCells vs (o + 1) (h.set_ o v) (by rw [Array.size_setIfInBounds]; omega)
    refine ⟨cs', h1, by rw [h2, Array.size_setIfInBounds], fun j => ?_⟩
    rw [h3 j, List.length_cons]
    by_cases e1 : o + 1 ≤ j ∧ j < o + 1 + vs.length
    · rw [if_pos e1, if_pos (by omega)]
      obtain ⟨k, hk⟩ : ∃ k, j - o = k + 1 := ⟨j - o - 1, by omega⟩
      rw [hk, List.getElem?_cons_succ, show j - (o + 1) = k by omega]
    · rw [if_neg e1]
      by_cases e2 : j = o
      · subst e2
        rw [if_pos (by omega), Nat.sub_self, Array.getElem?_setIfInBounds_self]
        rw [if_pos (by omega)]; rfl
      · rw [if_neg (by omega), Array.getElem?_setIfInBounds_ne (by omega)]
end

/-- The bytes of a row of the call's own. -/
abbrev bc (l : List UInt8) : List Value := Lib.byteCells l
abbrev BOwn (w : World) (B : Nat) (v : Value) (l : List UInt8) : Prop := w.ownsRow B 5 1 v l.length (bc l)
theorem byteInfo : (Tryz.prog.info? 5).map (fun i => (i.zero, i.size, i.bytes)) = some (some (.int .u8 0), 1, 1) := by kernel_rfl
theorem bc_one (l : List UInt8) : ∀ u ∈ bc l, u.oneCell' = true := by
  intro u hu
  obtain ⟨b, _, rfl⟩ := List.mem_map.1 hu
  rfl
theorem bc_at {l : List UInt8} {i : Nat} {b : UInt8} (h : l[i]? = some b) : (bc l)[i]? = some (.int .u8 b.toNat) := by
  show (l.map _)[i]? = _
  rw [List.getElem?_map, h]; rfl

/-- What a call changes: block E, and the row r; what was below stands. -/
structure Touch (w w' : World) (E : Nat) (r : Option Nat) : Prop where
  os : w'.os = w.os
  tape : w'.tape = w.tape
  output : w'.output = w.output
  size : w.heap.size ≤ w'.heap.size
  block : ∀ k, k < w.heap.size → k ≠ E → some k ≠ r → w'.heap[k]? = w.heap[k]?
/-- The row is the old one or a new one. -/
def Same1 (w : World) (r r' : Option Nat) : Prop := r' = r ∨ ∃ g, r' = some g ∧ w.heap.size ≤ g
theorem Touch.refl (w : World) (E : Nat) (r : Option Nat) : Touch w w E r := ⟨rfl, rfl, rfl, Nat.le_refl _, fun _ _ _ _ => rfl⟩
theorem Touch.trans {w w1 w2 : World} {E : Nat} {r r1 : Option Nat} (h : Touch w w1 E r) (hr : Same1 w r r1) (h' : Touch w1 w2 E r1) : Touch w w2 E r :=
  ⟨h'.os.trans h.os, h'.tape.trans h.tape, h'.output.trans h.output, Nat.le_trans h.size h'.size, fun k hk hE hn =>
    (h'.block k (Nat.lt_of_lt_of_le hk h.size) hE (by rcases hr with rfl | ⟨g, rfl, hg⟩; · exact hn
                                                      · intro e; injection e with e; omega)).trans (h.block k hk hE hn)⟩
theorem Same1.trans {w w1 : World} {r r1 r2 : Option Nat} (h : Same1 w r r1) (hs : w.heap.size ≤ w1.heap.size) (h' : Same1 w1 r1 r2) : Same1 w r r2 := by
  rcases h' with rfl | ⟨g, rfl, hg⟩
  · exact h
  · exact .inr ⟨g, rfl, Nat.le_trans hs hg⟩
theorem Touch.of_below {w w' : World} {E : Nat} {r : Option Nat} (h : Below w.heap.size w w') : Touch w w' E r := ⟨h.os, h.tape, h.output, h.size, fun k hk _ _ => h.block k hk⟩
theorem Touch.below {w w' : World} {B E : Nat} {r : Option Nat} (h : Touch w w' E r) (hB : B ≤ w.heap.size) (hE : B ≤ E) (hr : ∀ g, r = some g → B ≤ g) : Below B w w' :=
  ⟨h.os, h.tape, h.output, h.size, fun k hk => h.block k (by omega) (by omega) (fun e => by have := hr k e.symm; omega)⟩
theorem Touch.blk {w w' : World} {E g : Nat} {r : Option Nat} {t : TypeId} {cs : Array Value} (h : Touch w w' E r) (hb : Blk w g t cs) (hE : g ≠ E) (hr : some g ≠ r) : Blk w' g t cs := (h.block g hb.lt hE hr).trans hb
theorem Touch.own {w w' : World} {E B size n : Nat} {e : TypeId} {r : Option Nat} {v : Value} {xs : List Value} (h : Touch w w' E r) (ho : w.ownsRow B e size v n xs) (hE : v.ownBlock ≠ some E) (hr : v.ownBlock = none ∨ v.ownBlock ≠ r) : w'.ownsRow B e size v n xs := by
  obtain ⟨hl, hb⟩ := ho
  refine ⟨hl, hb.imp id ?_⟩
  rintro ⟨g, cap, cur, rfl, hg, hh, rest⟩
  refine ⟨g, cap, cur, rfl, hg, (h.block g (Array.getElem?_eq_some_iff.1 hh).1 (fun e => hE (by rw [e]; rfl)) ?_).trans hh, rest⟩
  rcases hr with hr | hr
  · cases hr
  · exact hr
theorem Touch.of_grown {w w' : World} {E : Nat} {r : Option Nat} (h : w.grownBy w' r) : Touch w w' E r := ⟨h.os, h.tape, h.output, h.size, fun k hk _ hn => h.block k hk hn⟩

end Go.Proofs.YtdmmjfmjohliiaaGreatDoor
namespace Go.Proofs.YtdmmjfmjohliiaaGreatDoor
open Go Go.RowKit

def ece (l : List En) : List Value := l.flatMap cE
theorem ece_cons (r : En) (l : List En) : ece (r :: l) = cE r ++ ece l := rfl
theorem ece_app (a b : List En) : ece (a ++ b) = ece a ++ ece b := by simp [ece]
theorem ece_len (l : List En) : (ece l).length = l.length * 6 := flat_len cE_len l
theorem ece_take : ∀ (l : List En) (k : Nat), ece (l.take k) = (ece l).take (k * 6)
  | [], k => by simp [ece]
  | r :: l, 0 => by simp [ece]
  | r :: l, k + 1 => by
    have hr : (cE r).length = 6 := rfl
    rw [List.take_succ_cons, ece_cons, ece_cons, ece_take l k, List.take_append, hr, show (k + 1) * 6 - 6 = k * 6 by omega, show (cE r).take ((k + 1) * 6) = cE r from List.take_of_length_le (by rw [hr]; omega)]
theorem ece_drop : ∀ (l : List En) (k : Nat), ece (l.drop k) = (ece l).drop (k * 6)
  | [], k => by simp [ece]
  | r :: l, 0 => by simp
  | r :: l, k + 1 => by
    have hr : (cE r).length = 6 := rfl
    rw [List.drop_succ_cons, ece_cons, ece_drop l k, List.drop_append, hr, show (k + 1) * 6 - 6 = k * 6 by omega, show (cE r).drop ((k + 1) * 6) = [] from List.drop_eq_nil_of_le (by rw [hr]; omega), List.nil_append]
theorem cE_row (r : En) : ∀ u ∈ cE r, u.oneCell' = true := fun u hu => by
  simp [cE] at hu
  rcases hu with rfl | rfl | rfl | rfl | rfl | rfl <;> rfl
/-- The value v is a row of its own with the shelves l. -/
abbrev EOwn (w : World) (B : Nat) (v : Value) (l : List En) : Prop := w.ownsRow B 69 6 v l.length (ece l)
theorem EOwn.mk_ {w : World} {B g cap : Nat} {cur : Array Value} {l : List En} (hB : B ≤ g) (hb : Blk w g 69 cur) (hs : cur.size = cap * 6) (hm : cap ≤ maxLen) (hl : l.length ≤ cap) (hc : ∀ j, j < l.length * 6 → cur[j]? = (ece l)[j]?) :
    EOwn w B (.slice (some ⟨g, 0, none⟩) l.length cap) l := by
  refine ⟨ece_len l, .inr ⟨g, cap, cur, rfl, hB, hb, hl, hm, hs, ?_⟩⟩
  apply List.ext_getElem?
  intro j
  rw [List.getElem?_take]
  by_cases hj : j < l.length * 6
  · rw [if_pos hj, Array.getElem?_toList, hc j hj]
  · rw [if_neg hj, List.getElem?_eq_none (by rw [ece_len]; omega)]
theorem EOwn.open_ {w : World} {B : Nat} {v : Value} {l : List En} (h : EOwn w B v l) :
    (v = .slice none 0 0 ∧ l = []) ∨ ∃ g cap cur, v = .slice (some ⟨g, 0, none⟩) l.length cap ∧ B ≤ g ∧ Blk w g 69 cur ∧ l.length ≤ cap ∧ cap ≤ maxLen ∧ cur.size = cap * 6 ∧ ∀ j, j < l.length * 6 → cur[j]? = (ece l)[j]? := by
  rcases h.2 with ⟨h1, h2⟩ | ⟨g, cap, cur, hv, hg, hb, hn, hm, hs, ht⟩
  · exact .inl ⟨h1, List.eq_nil_of_length_eq_zero h2⟩
  · refine .inr ⟨g, cap, cur, hv, hg, hb, hn, hm, hs, fun j hj => ?_⟩
    rw [← ht, List.getElem?_take, if_pos hj, Array.getElem?_toList]
theorem run_copy_six {P : Program} (w : World) (dT sT ty elem : TypeId) (b o dLen dCap : Nat) (a : Addr) (sLen sCap : Nat) (cs : List Value) (k : Nat)
    (hu : P.underlying dT = some (.slice elem)) (hs : (P.info? elem).map (·.size) = some 6) (hm : Nat.min sLen dLen = k) (hn : cs.length = k * 6)
    (hsrc : ∀ j v, cs[j]? = some v → w.cell? (a.add j) = some v) (hc : ∀ j, j < cs.length → (w.cell? ⟨b, o + j, none⟩).isSome = true) (hf : ∀ j, j < cs.length → w.frozen? ⟨b, o + j, none⟩ = false) (h1 : ∀ v ∈ cs, v.oneCell' = true) :
    (Builtin.copy_ #[dT, sT] ty #[.slice (some ⟨b, o, none⟩) dLen dCap, .slice (some a) sLen sCap]).run P w = .ok (goInt k) (w.setCells b o cs) := by
  have hl := run_loadCells_list (P := P) w a cs hsrc
  have hst := run_storeCells_cells (P := P) b o cs 0 w (by simpa using hc) (by simpa using hf) h1
  cases hq : P.info? elem with
  | none => simp [hq] at hs
  | some i =>
    have hi : i.size = 6 := by simpa [hq] using hs
    have hm' : min sLen dLen = k := hm
    simp [Builtin.copy_, run_underlying hu, Builtin.lenOf, Builtin.firstCells, sizeOf, typeInfo, hq, hi, hm', ← hn, hl, hst]

theorem sizeEn : (Tryz.prog.info? 69).map (·.size) = some 6 := by
  obtain ⟨i0, hi0, _, h1, _⟩ := info_parts entryInfo
  rw [hi0]; simp [h1]

theorem setCells_drew (g : Nat) : ∀ (vs : List Value) (o : Nat) (w : World), w.drew.setCells g o vs = (w.setCells g o vs).drew
  | [], _, _ => rfl
  | v :: r, o, w => setCells_drew g r (o + 1) (w.setCell ⟨g, o, none⟩ v)
theorem cell_drew (w : World) (x : Addr) : w.drew.cell? x = w.cell? x := rfl
theorem frozen_drew (w : World) (x : Addr) : w.drew.frozen? x = w.frozen? x := rfl

set_option maxHeartbeats 4000000 in
set_option maxRecDepth 100000 in
theorem insertE_shift (w : World) (B g cap i vb : Nat) (l : List En) (r : En) (hO : EOwn w B (.slice (some ⟨g, 0, none⟩) l.length cap) l) (hi : i < l.length) (hroom : l.length + 1 ≤ cap) (h1 : ∀ u ∈ ece l, u.oneCell' = true) (hvb : Blk w vb 69 (cE r).toArray) (hne : vb ≠ g) :
    Calls Tryz.prog 91 #[.slice (some ⟨g, 0, none⟩) l.length cap, .int .i64 i, .slice (some ⟨vb, 0, none⟩) 1 1] w fun e w' =>
      e = .returned (.slice (some ⟨g, 0, none⟩) (l.length + 1) cap) ∧ w' = (w.drew.setCells g ((i + 1) * 6) (ece (l.drop i))).setCells g (i * 6) (cE r) := by
  rcases hO.open_ with ⟨h, _⟩ | ⟨g', cap', cur, hv, hB, hb, hn, hmx, hs, hcs⟩
  · cases h
  injection hv with e1 e2 e3
  injection e1 with e1
  injection e1 with e1
  subst e1; subst e3
  unfold maxLen at hmx
  have hov : ∀ lb cb, (callFunc 122 #[.slice (some ⟨vb, 0, none⟩) 1 1, .slice (some ⟨g, (i + 1) * 6, none⟩) lb cb]).run Tryz.prog w = .ok (.value (.bool false)) w := fun lb cb => by
    rw [run_callFunc_extern Tryz.func122 (by kernel_rfl) (by kernel_rfl) (by kernel_rfl) (e := Extern.SlicesOverlaps.overlaps #[24, 24] #[4]) (by kernel_rfl),
      Lib.run_overlaps_apart w 24 4 69 Tryz.underlying24 6 Tryz.sizeOf69 ⟨vb, 0, none⟩ ⟨g, (i + 1) * 6, none⟩ 1 1 lb cb hne 69 69 6 cur.size (by unfold Blk at hvb; simp [World.shape?, hvb, cE]) (by unfold Blk at hb; simp [World.shape?, hb]) (by omega) (hvb.frozen _) (hvb.frozen _)]
    rfl
  have hdl : (ece (l.drop i)).length = (l.length - i) * 6 := by rw [ece_len, List.length_drop]
  have hw1 : IntKind.i64.wrap ((i : Int) + 1) = (i : Int) + 1 := by rw [IntKind.wrap_i64]; omega
  have hw2 : IntKind.i64.wrap ((l.length : Int) + 1) = (l.length : Int) + 1 := by rw [IntKind.wrap_i64]; omega
  have hb1 : (0 : Int) ≤ (i : Int) + 1 := by omega
  have htn : ((i : Int) + 1).toNat = i + 1 := by omega
  have hn1 : ¬ ((i : Int) = (l.length : Int)) := by omega
  have hsp : ∀ j, j < (l.length + 1) * 6 → (w.cell? ⟨g, j, none⟩).isSome = true := fun j hj => by rw [hb.cell, Array.getElem?_eq_getElem (by omega)]; rfl
  have hcell : ∀ j v, (ece l)[j]? = some v → w.cell? ⟨g, j, none⟩ = some v := fun j v hj => by
    have := (List.getElem?_eq_some_iff.1 hj).1
    rw [ece_len] at this
    rw [hb.cell, hcs j this]; exact hj
  have hcp1 : ∀ ty dc sc, (Builtin.copy_ #[24, 24] ty #[.slice (some ⟨g, (i + 1) * 6, none⟩) (l.length - i) dc, .slice (some ⟨g, i * 6, none⟩) (l.length + 1 - i) sc]).run Tryz.prog w.drew = .ok (goInt (l.length - i : Nat)) (w.drew.setCells g ((i + 1) * 6) (ece (l.drop i))) := fun ty dc sc =>
    run_copy_six w.drew _ _ ty 69 g ((i + 1) * 6) _ dc ⟨g, i * 6, none⟩ _ sc (ece (l.drop i)) (l.length - i) Tryz.underlying24 sizeEn (by simp only [Nat.min_def]; split <;> omega) hdl
      (fun j v hj => by rw [Addr.add_lit]; exact hcell (i * 6 + j) v (by rw [ece_drop, List.getElem?_drop] at hj; exact hj))
      (fun j hj => hsp _ (by omega)) (fun j _ => hb.frozen _) (fun v hv => h1 v (by rw [ece_drop] at hv; exact List.mem_of_mem_drop hv))
  obtain ⟨W1, hW1⟩ : ∃ W1, W1 = w.drew.setCells g ((i + 1) * 6) (ece (l.drop i)) := ⟨_, rfl⟩
  have hsp1 : ∀ k, k < (l.length + 1) * 6 → (W1.cell? ⟨g, k, none⟩).isSome = true := fun k hk => by
    rw [hW1]
    exact isSome_setCells g (ece (l.drop i)) ((i + 1) * 6) w.drew (fun j hj => hsp _ (by rw [hdl] at hj; omega)) _ (hsp k hk)
  have hcp2 : ∀ ty dc, (Builtin.copy_ #[24, 24] ty #[.slice (some ⟨g, i * 6, none⟩) (l.length + 1 - i) dc, .slice (some ⟨vb, 0, none⟩) 1 1]).run Tryz.prog W1 = .ok (goInt 1) (W1.setCells g (i * 6) (cE r)) := fun ty dc =>
    run_copy_six W1 _ _ ty 69 g (i * 6) _ dc ⟨vb, 0, none⟩ 1 1 (cE r) 1 Tryz.underlying24 sizeEn (by simp only [Nat.min_def]; split <;> omega) rfl
      (fun j v hj => by
        rw [Addr.add_lit, hW1, World.cell?_setCells_out g _ _ _ _ (fun h _ => absurd h hne)]
        have := hvb.cell (0 + j)
        rw [show w.drew.cell? ⟨vb, 0 + j, none⟩ = w.cell? ⟨vb, 0 + j, none⟩ from rfl, this, Nat.zero_add]
        simpa using hj)
      (fun j hj => hsp1 _ (by rw [show (cE r).length = 6 from rfl] at hj; omega)) (fun j _ => by rw [hW1, World.frozen?_setCells]; exact hb.frozen _) (cE_row r)
  rw [← hW1] at hcp1 ⊢
  have HW := Lib.hid hW1
  clear hW1 hsp hsp1 hcell hcs hs hdl hO
  have hlt : i + 1 ≤ l.length + 1 := by omega
  have hle : i ≤ l.length := by omega
  have hle1 : i ≤ l.length + 1 := by omega
  have hle2 : (i : Int) ≤ (l.length : Int) + 1 := by omega
  have hq1 : ¬ (cap = i + 1) := by omega
  have hq2 : ¬ (cap = i) := by omega
  go_enter Tryz.func91, Tryz.ntmps91
  go_wp2_with (simp only [hov])
  go_region_law (refine step_copy_runI rfl _ _ 24 24 rfl _ _ (by simp [Act.eval, Act.put]) (by simp [Act.eval, Act.put]) (hcp1 _ _ _) ?_)
  go_wp2_with (at_builtin; refine wpList_copy_runI _ rfl _ _ 24 24 rfl _ _ rfl rfl (hcp2 _ _) ?_)
  go_ret
  exact ⟨rfl, rfl⟩

set_option maxHeartbeats 4000000 in
set_option maxRecDepth 100000 in
theorem insertE_grow (w : World) (B g cap i vb : Nat) (l : List En) (r : En) (hO : EOwn w B (.slice (some ⟨g, 0, none⟩) l.length cap) l) (hi : i < l.length) (hroom : cap < l.length + 1) (hfew : l.length ≤ 20000) (h1 : ∀ u ∈ ece l, u.oneCell' = true) (hvb : Blk w vb 69 (cE r).toArray) :
    Calls Tryz.prog 91 #[.slice (some ⟨g, 0, none⟩) l.length cap, .int .i64 i, .slice (some ⟨vb, 0, none⟩) 1 1] w fun e w' => ∃ (G : Nat) (ROW : Array Value),
      e = .returned (.slice (some ⟨w.heap.size, 0, none⟩) (l.length + 1) G) ∧ l.length + 1 ≤ G ∧ G ≤ maxLen ∧ ROW.size = G * 6 ∧ (∀ j, j < i * 6 → ROW[j]? = (ece l)[j]?) ∧
      w' = (((w.alloc (.cells ROW 69)).drew.setCells w.heap.size (i * 6) (cE r)).drew).setCells w.heap.size ((i + 1) * 6) (ece (l.drop i)) := by
  rcases hO.open_ with ⟨h, _⟩ | ⟨g', cap', cur, hv, hB, hb, hn, hmx, hs, hcs⟩
  · cases h
  injection hv with e1 e2 e3
  injection e1 with e1
  injection e1 with e1
  subst e1; subst e3
  unfold maxLen at hmx
  obtain ⟨i0, hi0, hz0, hzs, hzb⟩ := info_parts entryInfo
  have hdl : (ece (l.drop i)).length = (l.length - i) * 6 := by rw [ece_len, List.length_drop]
  have hbw := hb.lt
  have hvw := hvb.lt
  have hcell : ∀ j v, (ece l)[j]? = some v → w.cell? ⟨g, j, none⟩ = some v := fun j v hj => by
    have := (List.getElem?_eq_some_iff.1 hj).1
    rw [ece_len] at this
    rw [hb.cell, hcs j this]; exact hj
  have hkk : (l.length : Int) + 1 - (i : Int) = ((l.length + 1 - i : Nat) : Int) := by omega
  have hik : i + (l.length + 1 - i) = l.length + 1 := by omega
  have hold : (Builtin.firstCells i0.size i (.slice (some ⟨g, 0, none⟩) i cap)).run Tryz.prog w.drew = .ok (ece (l.take i)).toArray w.drew := by
    rw [hzs]
    exact run_firstCells_some w.drew 6 i ⟨g, 0, none⟩ i cap (ece (l.take i)) (by rw [ece_len, List.length_take]; omega) (fun j v hj => by
      rw [Addr.add_lit, Nat.zero_add]
      rw [ece_take, List.getElem?_take] at hj
      split at hj
      · exact hcell j v hj
      · cases hj)
  obtain ⟨G, hG⟩ : ∃ G, G = grownCap w (l.length + 1) cap 69 := ⟨_, rfl⟩
  obtain ⟨ROW, hROW⟩ : ∃ ROW : Array Value, ROW = (ece (l.take i)).toArray ++ Builtin.zeroCells (Value.agg #[.string ⟨#[]⟩, .int .i64 0, .int .i64 0, .string ⟨#[]⟩, .int .i64 0, .int .i64 0]).cells (l.length + 1 - i) ++ Builtin.zeroCells (Value.agg #[.string ⟨#[]⟩, .int .i64 0, .int .i64 0, .string ⟨#[]⟩, .int .i64 0, .int .i64 0]).cells (G - (l.length + 1)) := ⟨_, rfl⟩
  have hrz : ∀ ty, (Builtin.append_ #[24, 3] ty #[.slice (some ⟨g, 0, none⟩) i cap, .int .i64 ((l.length : Int) + 1 - (i : Int))]).run Tryz.prog w =
      .ok (.slice (some ⟨w.heap.size, 0, none⟩) (l.length + 1) G) (w.drew.alloc (.cells ROW 69)) := fun ty => by
    have h := Lib.run_append_grow_zeros w 24 3 ty 69 i0 _ .i64 .i64 Tryz.underlying24 Tryz.underlying3 hi0 hz0 (some ⟨g, 0, none⟩) i cap (ece (l.take i)) hold (l.length + 1 - i) (by omega) (by omega) (by omega) (by omega) (by rw [hzb]; omega) (by rw [hzb, hik]; exact growslice_fits hroom (by omega))
    rw [hik] at h
    rw [hkk, hROW, hG]
    exact h
  have hGn : l.length + 1 ≤ G := by rw [hG]; exact grownCap_ge w _ _ _
  have hGm : G ≤ maxLen := by
    have := grownCap_le_maxLen w (l.length + 1) cap 69 (by unfold maxLen; omega)
    rw [← hG] at this
    exact this
  have hzl : ∀ k, (Builtin.zeroCells (Value.agg #[.string ⟨#[]⟩, .int .i64 0, .int .i64 0, .string ⟨#[]⟩, .int .i64 0, .int .i64 0]).cells k).size = k * 6 := fun k => by rw [size_zeroCells]; rfl
  have hcl : (ece (l.take i)).length = i * 6 := by rw [ece_len, List.length_take]; omega
  have hRs : ROW.size = G * 6 := by
    rw [hROW, Array.size_append, Array.size_append, hzl, hzl, List.size_toArray, hcl]
    omega
  have hRc : ∀ j, j < i * 6 → ROW[j]? = (ece l)[j]? := fun j hj => by
    rw [hROW, Array.append_assoc, Array.getElem?_append_left (by rw [List.size_toArray, hcl]; exact hj), List.getElem?_toArray, ece_take, List.getElem?_take, if_pos hj]
  clear hROW hG hold hcl hzl
  obtain ⟨W1, hW1⟩ : ∃ W1, W1 = w.drew.alloc (.cells ROW 69) := ⟨_, rfl⟩
  have hN : ∀ j, j < (l.length + 1) * 6 → (W1.cell? ⟨w.heap.size, j, none⟩).isSome = true := fun j hj => by
    rw [hW1, World.cell?_alloc_at (w := w.drew) ROW _ w.heap.size j rfl, Array.getElem?_eq_getElem (by omega)]; rfl
  have hNf : ∀ j, W1.frozen? ⟨w.heap.size, j, none⟩ = false := fun j => by rw [hW1]; exact World.frozen?_alloc_at (w := w.drew) ROW _ w.heap.size j rfl
  have hOb : ∀ j v, w.cell? ⟨g, j, none⟩ = some v → W1.cell? ⟨g, j, none⟩ = some v := fun j v h => by rw [hW1, World.cell?_alloc_past (w := w.drew) _ g j hbw]; exact h
  have hOv : ∀ j v, w.cell? ⟨vb, j, none⟩ = some v → W1.cell? ⟨vb, j, none⟩ = some v := fun j v h => by rw [hW1, World.cell?_alloc_past (w := w.drew) _ vb j hvw]; exact h
  have hcpA : ∀ (W : World), (∀ x, W.cell? x = W1.cell? x) → (∀ x, W.frozen? x = W1.frozen? x) → ∀ ty dc, (Builtin.copy_ #[24, 24] ty #[.slice (some ⟨w.heap.size, i * 6, none⟩) (l.length + 1 - i) dc, .slice (some ⟨vb, 0, none⟩) 1 1]).run Tryz.prog W = .ok (goInt 1) (W.setCells w.heap.size (i * 6) (cE r)) := fun W hWc hWf ty dc =>
    run_copy_six W _ _ ty 69 w.heap.size (i * 6) _ dc ⟨vb, 0, none⟩ 1 1 (cE r) 1 Tryz.underlying24 sizeEn (by simp only [Nat.min_def]; split <;> omega) rfl
      (fun j v hj => by
        rw [Addr.add_lit, hWc, Nat.zero_add]
        exact hOv _ v (by rw [hvb.cell]; simpa using hj))
      (fun j hj => by rw [hWc]; exact hN _ (by rw [show (cE r).length = 6 from rfl] at hj; omega)) (fun j hj => by rw [hWf]; exact hNf _) (cE_row r)
  have hbN : g ≠ w.heap.size := by omega
  have hcpB : ∀ (W : World), (∀ x, W.cell? x = (W1.setCells w.heap.size (i * 6) (cE r)).cell? x) → (∀ x, W.frozen? x = (W1.setCells w.heap.size (i * 6) (cE r)).frozen? x) → ∀ ty dc sc, (Builtin.copy_ #[24, 24] ty #[.slice (some ⟨w.heap.size, (i + 1) * 6, none⟩) (l.length - i) dc, .slice (some ⟨g, i * 6, none⟩) (l.length - i) sc]).run Tryz.prog W = .ok (goInt (l.length - i : Nat)) (W.setCells w.heap.size ((i + 1) * 6) (ece (l.drop i))) := fun W hWc hWf ty dc sc =>
    run_copy_six W _ _ ty 69 w.heap.size ((i + 1) * 6) _ dc ⟨g, i * 6, none⟩ _ sc (ece (l.drop i)) (l.length - i) Tryz.underlying24 sizeEn (by simp only [Nat.min_def]; split <;> omega) hdl
      (fun j v hj => by
        rw [Addr.add_lit, hWc, World.cell?_setCells_out _ _ _ _ _ (fun h _ => absurd h hbN)]
        exact hOb _ v (hcell (i * 6 + j) v (by rw [ece_drop, List.getElem?_drop] at hj; exact hj)))
      (fun j hj => by rw [hWc]; exact isSome_setCells _ (cE r) (i * 6) W1 (fun t ht => hN _ (by rw [show (cE r).length = 6 from rfl] at ht; omega)) _ (hN _ (by rw [hdl] at hj; omega)))
      (fun j hj => by rw [hWf, World.frozen?_setCells]; exact hNf _) (fun v hv => h1 v (by rw [ece_drop] at hv; exact List.mem_of_mem_drop hv))
  rw [← hW1] at hrz
  subst hW1
  have hE1 : ∀ x, ((w.alloc (.cells ROW 69)).drew).cell? x = (w.drew.alloc (.cells ROW 69)).cell? x := fun x => rfl
  have hE2 : ∀ x, ((w.alloc (.cells ROW 69)).drew).frozen? x = (w.drew.alloc (.cells ROW 69)).frozen? x := fun x => rfl
  have hF1 : ∀ x, (((w.alloc (.cells ROW 69)).drew.setCells w.heap.size (i * 6) (cE r)).drew).cell? x = ((w.drew.alloc (.cells ROW 69)).setCells w.heap.size (i * 6) (cE r)).cell? x := fun x => by
    rw [show w.drew.alloc (.cells ROW 69) = (w.alloc (.cells ROW 69)).drew from rfl]
    exact cell_drew _ x
  have hF2 : ∀ x, (((w.alloc (.cells ROW 69)).drew.setCells w.heap.size (i * 6) (cE r)).drew).frozen? x = ((w.drew.alloc (.cells ROW 69)).setCells w.heap.size (i * 6) (cE r)).frozen? x := fun x => by
    rw [show w.drew.alloc (.cells ROW 69) = (w.alloc (.cells ROW 69)).drew from rfl]
    exact frozen_drew _ x
  have HR := Lib.hid hRc
  have HS := Lib.hid hRs
  have HM := Lib.hid hGm
  unfold maxLen at hGm
  have hw1 : IntKind.i64.wrap ((i : Int) + 1) = (i : Int) + 1 := by rw [IntKind.wrap_i64]; omega
  have hb1 : (0 : Int) ≤ (i : Int) + 1 := by omega
  have htn : ((i : Int) + 1).toNat = i + 1 := by omega
  have hn1 : ¬ ((i : Int) = (l.length : Int)) := by omega
  have hroomi : (cap : Int) < (l.length : Int) + 1 := by omega
  have hle : i ≤ l.length := by omega
  have hlei : (i : Int) ≤ (l.length : Int) := by omega
  have hle1 : i ≤ l.length + 1 := by omega
  have hle2 : (i : Int) ≤ (l.length : Int) + 1 := by omega
  have hq1 : ¬ (cap = i) := by omega
  have hq2 : ¬ (G = i) := by omega
  have hq3 : ¬ (G = i + 1) := by omega
  clear hkk hik hRc hRs hN hNf hOb hOv hdl hcs hs hcell hO hi0 hz0 hzs hzb
  go_enter Tryz.func91, Tryz.ntmps91
  go_wp2_with (first
    | (at_builtin; refine Lib.wpList_append_run _ rfl _ _ _ _ rfl _ _ rfl rfl _ _ (hrz _) ?_)
    | (at_builtin; refine wpList_copy_runI _ rfl _ _ 24 24 rfl _ _ rfl rfl (hcpA _ hE1 hE2 _ _) ?_))
  go_region_law (refine step_copy_runI rfl _ _ 24 24 rfl (.slice (some ⟨w.heap.size, (i + 1) * 6, none⟩) (l.length - i) (G - (i + 1))) (.slice (some ⟨g, i * 6, none⟩) (l.length - i) (cap - i)) (by simp [Act.eval, Act.put]) (by simp [Act.eval, Act.put]) (hcpB _ hF1 hF2 3 (G - (i + 1)) (cap - i)) ?_)
  go_wp2
  go_ret
  exact ⟨G, ROW, rfl, hGn, HM.out, HS.out, HR.out, rfl⟩

/-- A row came of a row: its own block, or a new one. -/
def ECame (w : World) (v v' : Value) : Prop := v'.ownBlock = v.ownBlock ∨ ∃ g, v'.ownBlock = some g ∧ w.heap.size ≤ g
/-- The row has the shelves l; nothing but the old row's block was touched. -/
def ERowed (w : World) (B : Nat) (v : Value) (l : List En) (e : Ending) (w' : World) : Prop := ∃ v', e = .returned v' ∧ EOwn w' B v' l ∧ w.grownBy w' v.ownBlock ∧ ECame w v v'

theorem grown_cell (w : World) (g p : Nat) (u : Value) : w.grownBy (w.setCell ⟨g, p, none⟩ u) (some g) :=
  ⟨rfl, rfl, rfl, by simp, fun k _ hk => Below.heap_setCell _ _ _ _ (fun e => hk (by rw [e]))⟩
theorem grown_setCells (g : Nat) : ∀ (vs : List Value) (o : Nat) (w : World), w.grownBy (w.setCells g o vs) (some g)
  | [], _, w => World.grownBy.refl w _
  | v :: r, o, w => World.grownBy.trans (grown_cell w g o v) (grown_setCells g r (o + 1) (w.setCell ⟨g, o, none⟩ v))
theorem below_setCellsB {B : Nat} {a : World} (b : Nat) (hb : B ≤ b) : ∀ (vs : List Value) (o : Nat) {w : World}, Below B a w → Below B a (w.setCells b o vs)
  | [], _, _, h => h
  | v :: r, o, _, h => below_setCellsB b hb r (o + 1) (h.setCell (p := ⟨b, o, none⟩) hb v)

/-- s with r put at i. -/
def insE (l : List En) (i : Nat) (r : En) : List En := l.take i ++ r :: l.drop i
theorem insE_length (l : List En) (i : Nat) (r : En) (h : i ≤ l.length) : (insE l i r).length = l.length + 1 := by
  unfold insE; simp; omega
theorem ece_ins (l : List En) (i : Nat) (r : En) (h : i ≤ l.length) (j : Nat) : (ece (insE l i r))[j]? = if j < i * 6 then (ece l)[j]? else if j < (i + 1) * 6 then (cE r)[j - i * 6]? else (ece l)[j - 6]? := by
  have hl : (ece (l.take i)).length = i * 6 := by rw [ece_len, List.length_take]; omega
  have hr : (cE r).length = 6 := rfl
  unfold insE
  rw [ece_app, ece_cons, List.getElem?_append, hl]
  by_cases h1 : j < i * 6
  · rw [if_pos h1, if_pos h1, ece_take, List.getElem?_take, if_pos h1]
  · rw [if_neg h1, if_neg h1, List.getElem?_append, hr]
    by_cases h2 : j < (i + 1) * 6
    · rw [if_pos h2, if_pos (by omega)]
    · rw [if_neg h2, if_neg (by omega), ece_drop, List.getElem?_drop]
      congr 1
      omega

set_option maxRecDepth 100000 in
set_option maxHeartbeats 4000000 in
theorem insertE_any (w : World) (B : Nat) (v : Value) (l : List En) (r : En) (i vb : Nat) (hO : EOwn w B v l) (hi : i ≤ l.length) (hfew : l.length ≤ 20000) (h1 : ∀ u ∈ ece l, u.oneCell' = true) (hvb : Blk w vb 69 (cE r).toArray) (hne : v.ownBlock ≠ some vb) (hBw : B ≤ w.heap.size) :
    Calls Tryz.prog 91 #[v, .int .i64 i, .slice (some ⟨vb, 0, none⟩) 1 1] w (ERowed w B v (insE l i r)) := by
  obtain ⟨i0, hi0, hz0, hz1, hz2⟩ := info_parts entryInfo
  rcases Nat.eq_or_lt_of_le hi with he | hlt
  · -- at the end
    subst he
    have hins : insE l l.length r = l ++ [r] := by simp [insE]
    obtain ⟨A, c, rfl⟩ := own_form hO
    have HO := Lib.hid hO
    have HI := Lib.hid hins
    have HV := Lib.hid hvb
    have hcap : l.length ≤ c ∧ c ≤ 9223372036854775807 := by
      rcases hO.open_ with ⟨h, h2⟩ | ⟨g', cap', cur, hv, hB, hb, hn, hmx, hs, hcs⟩
      · injection h with _ _ h3
        rw [h2, h3]; simp
      · injection hv with _ _ h3
        subst h3
        unfold maxLen at hmx
        omega
    clear hO hins hvb
    obtain ⟨v2, w2, hrun0, hown', hg', _, hat⟩ := run_append_own_at (P := Tryz.prog) w B 24 0 69 i0 _ 6 64 Tryz.underlying24 hi0 hz0 hz1 hz2 rfl (by decide) (.slice A l.length c) l.length (ece l) HO.out ⟨vb, 0, none⟩ 1 1 (cE r) rfl (World.news_of_block HV.out) (cE_row r) (by unfold maxLen; omega) (by omega) hBw
    have hrun : ∀ ty : TypeId, (Builtin.append_ #[24, 24] ty #[.slice A l.length c, .slice (some ⟨vb, 0, none⟩) 1 1]).run Tryz.prog w = .ok v2 w2 := fun _ => hrun0
    clear hrun0
    by_cases hcl : c = l.length
    · subst hcl
      go_enter Tryz.func91, Tryz.ntmps91
      go_wp2_with (at_builtin; refine Lib.wpList_append_run _ rfl _ _ 24 24 rfl _ _ rfl rfl _ _ (hrun _) ?_)
      go_ret
      refine ⟨v2, rfl, ?_, hg', ?_⟩
      · rw [HI.out]
        show w2.ownsRow B 69 6 v2 _ _
        rw [List.length_append, ece_app]
        exact hown'
      · rcases hat with h | h
        · exact .inl h
        · exact .inr ⟨_, h, Nat.le_refl _⟩
    · go_enter Tryz.func91, Tryz.ntmps91
      go_wp2_with (at_builtin; refine Lib.wpList_append_run _ rfl _ _ 24 24 rfl _ _ rfl rfl _ _ (hrun _) ?_)
      go_ret
      refine ⟨v2, rfl, ?_, hg', ?_⟩
      · rw [HI.out]
        show w2.ownsRow B 69 6 v2 _ _
        rw [List.length_append, ece_app]
        exact hown'
      · rcases hat with h | h
        · exact .inl h
        · exact .inr ⟨_, h, Nat.le_refl _⟩
  · rcases hO.open_ with ⟨_, h0⟩ | ⟨g, cap, cur, hv, hB, hb, hn, hmx, hs, hcs⟩
    · subst h0; simp at hlt
    subst hv
    have hil := insE_length l i r hi
    have hdl : (ece (l.drop i)).length = (l.length - i) * 6 := by rw [ece_len, List.length_drop]
    rcases Nat.lt_or_ge cap (l.length + 1) with hr | hr
    · refine (insertE_grow w B g cap i vb l r hO hlt hr hfew h1 hvb).mono ?_
      rintro e w' ⟨G, ROW, rfl, k1, k2, k3, k4, rfl⟩
      have b0 := Blk.new w 69 ROW
      obtain ⟨c1, b1, s1, x1⟩ := Blk.setCells (cE r) (i * 6) (show Blk (w.alloc (.cells ROW 69)).drew w.heap.size 69 ROW from b0.drewN 1) (by rw [show (cE r).length = 6 from rfl]; omega)
      obtain ⟨c2, b2, s2, x2⟩ := Blk.setCells (ece (l.drop i)) ((i + 1) * 6) (show Blk ((w.alloc (.cells ROW 69)).drew.setCells w.heap.size (i * 6) (cE r)).drew w.heap.size 69 c1 from b1.drewN 1) (by rw [hdl]; omega)
      have hbl : Below w.heap.size w ((((w.alloc (.cells ROW 69)).drew.setCells w.heap.size (i * 6) (cE r)).drew).setCells w.heap.size ((i + 1) * 6) (ece (l.drop i))) :=
        below_setCellsB _ (Nat.le_refl _) _ _ ((below_setCellsB _ (Nat.le_refl _) _ _ (((Below.refl _ _).alloc (Nat.le_refl _) _).drew)).drew)
      refine ⟨_, rfl, ?_, ⟨hbl.os, hbl.tape, hbl.output, hbl.size, fun k hk _ => hbl.block k hk⟩, .inr ⟨_, rfl, Nat.le_refl _⟩⟩
      have := EOwn.mk_ (l := insE l i r) hBw b2 (by rw [s2, s1, k3]) k2 (by rw [hil]; exact k1) (fun j hj => by
        rw [hil] at hj
        rw [x2, x1, ece_ins l i r hi, hdl]
        by_cases q1 : j < i * 6
        · rw [if_neg (by omega), if_neg (by omega), if_pos q1, k4 j q1]
        · by_cases q2 : j < (i + 1) * 6
          · rw [if_neg (by omega), if_pos (by rw [show (cE r).length = 6 from rfl]; omega), if_neg q1, if_pos q2]
          · rw [if_pos (by omega), if_neg q1, if_neg q2, ece_drop, List.getElem?_drop, show i * 6 + (j - (i + 1) * 6) = j - 6 by omega])
      rw [hil] at this
      exact this
    · have hvg : vb ≠ g := fun e => hne (by rw [e]; rfl)
      refine (insertE_shift w B g cap i vb l r hO hlt hr h1 hvb hvg).mono ?_
      rintro e w' ⟨rfl, rfl⟩
      obtain ⟨c1, b1, s1, x1⟩ := Blk.setCells (ece (l.drop i)) ((i + 1) * 6) (show Blk w.drew g 69 cur from hb.drewN 1) (by rw [hdl]; omega)
      obtain ⟨c2, b2, s2, x2⟩ := Blk.setCells (cE r) (i * 6) b1 (by rw [show (cE r).length = 6 from rfl]; omega)
      refine ⟨_, rfl, ?_, ?_, .inl rfl⟩
      · have := EOwn.mk_ (l := insE l i r) hB b2 (by rw [s2, s1, hs]) hmx (by rw [hil]; exact hr) (fun j hj => by
          rw [hil] at hj
          rw [x2, x1, ece_ins l i r hi, hdl]
          by_cases q1 : j < i * 6
          · rw [if_neg (by omega), if_neg (by omega), if_pos q1, hcs j (by omega)]
          · by_cases q2 : j < (i + 1) * 6
            · rw [if_pos (by rw [show (cE r).length = 6 from rfl]; omega), if_neg q1, if_pos q2]
            · rw [if_neg (by rw [show (cE r).length = 6 from rfl]; omega), if_pos (by omega), if_neg q1, if_neg q2, ece_drop, List.getElem?_drop, show i * 6 + (j - (i + 1) * 6) = j - 6 by omega])
        rw [hil] at this
        exact this
      · have k1 := grown_setCells g (ece (l.drop i)) ((i + 1) * 6) w.drew
        have k2 := grown_setCells g (cE r) (i * 6) (w.drew.setCells g ((i + 1) * 6) (ece (l.drop i)))
        have k := World.grownBy.trans k1 k2
        exact ⟨k.os, k.tape, k.output, k.size, k.block⟩
end Go.Proofs.YtdmmjfmjohliiaaGreatDoor
namespace Go.Proofs.YtdmmjfmjohliiaaGreatDoor
open Go Go.RowKit

theorem ci_neg {a b : Int} : ci a b < 0 ↔ a < b := by unfold ci; repeat' split <;> omega
theorem ci_zero {a b : Int} : ci a b = 0 ↔ a = b := by unfold ci; repeat' split <;> omega
theorem ec_neg {x y : En} : ec x y < 0 ↔ cb x.1 y.1 < 0 ∨ (x.1 = y.1 ∧ x.2.1 < y.2.1) := by
  unfold ec
  by_cases h : cb x.1 y.1 = 0
  · rw [if_neg (by simpa using h), ci_neg]
    have := cb_zero h
    constructor
    · intro g; exact .inr ⟨this, g⟩
    · rintro (g | g)
      · omega
      · exact g.2
  · rw [if_pos h]
    constructor
    · intro g; exact .inl g
    · rintro (g | g)
      · exact g
      · rw [g.1, cb_self] at h; exact absurd rfl h
theorem ec_trans {x y z : En} (h : ec x y < 0) (g : ec y z < 0) : ec x z < 0 := by
  rw [ec_neg] at h g ⊢
  rcases h with h | ⟨h, h'⟩ <;> rcases g with g | ⟨g, g'⟩
  · exact .inl (cb_trans h g)
  · rw [← g]; exact .inl h
  · rw [h]; exact .inl g
  · exact .inr ⟨h.trans g, by omega⟩
/-- The entries rise. -/
def RiseE (l : List En) : Prop := l.Pairwise fun x y => ec x y < 0
/-- All entries ahead of i come ahead of s. -/
def SplitE (l : List En) (s : En) (i : Nat) : Prop := (∀ (t : Nat) (x : En), t < i → l[t]? = some x → ec x s < 0) ∧ (∀ (t : Nat) (x : En), i ≤ t → l[t]? = some x → 0 ≤ ec x s)
/-- Where s stands. -/
def FoundE (l : List En) (s : En) (w : World) (e : Ending) (w' : World) : Prop :=
  ∃ (i : Nat) (b : Bool), e = .returned (.tuple #[.int .i64 i, .bool b]) ∧ Below w.heap.size w w' ∧ i ≤ l.length ∧ SplitE l s i

set_option maxRecDepth 100000 in
set_option maxHeartbeats 4000000 in
theorem searchE_any (w : World) (v : Value) (l : List En) (s : En) (h : Reads 6 cE w v l) (hr : RiseE l) (hl : l.length ≤ 100000) :
    Calls Tryz.prog 89 #[v, eV s, .func (.func 90) #[] #[]] w (FoundE l s w) := by
  obtain ⟨A, c, rfl⟩ := h.form
  have hn := h.len
  obtain ⟨W0, hW0⟩ : ∃ W0, W0 = w.alloc (.cells #[.string s.1, .int .i64 s.2.1, .int .i64 s.2.2.1, .string s.2.2.2.1, .int .i64 s.2.2.2.2.1, .int .i64 s.2.2.2.2.2] 69) := ⟨_, rfl⟩
  have b0 : Below w.heap.size w W0 := by rw [hW0]; exact (Below.refl _ _).alloc (Nat.le_refl _) _
  obtain ⟨q, hq⟩ : ∃ q, q = w.heap.size := ⟨_, rfl⟩
  have k0 : W0.heap[q]? = some (.cells #[.string s.1, .int .i64 s.2.1, .int .i64 s.2.2.1, .string s.2.2.2.1, .int .i64 s.2.2.2.2.1, .int .i64 s.2.2.2.2.2] 69 (0, 0)) := by rw [hW0, hq]; exact heap_alloc_new w _
  have lq : q < W0.heap.size := by rw [hq, hW0]; simp
  have SS := Lib.hid fun V (hV : Below W0.heap.size W0 V) => (show V.cell? ⟨q, 0, none⟩ = some (.string s.1) ∧ V.cell? ⟨q, 1, none⟩ = some (.int .i64 s.2.1) ∧ V.cell? ⟨q, 2, none⟩ = some (.int .i64 s.2.2.1) ∧ V.cell? ⟨q, 3, none⟩ = some (.string s.2.2.2.1) ∧ V.cell? ⟨q, 4, none⟩ = some (.int .i64 s.2.2.2.2.1) ∧ V.cell? ⟨q, 5, none⟩ = some (.int .i64 s.2.2.2.2.2) from
    have kV := (hV.block q lq).trans k0
    ⟨cell_of_row V q 0 _ _ (0, 0) kV, cell_of_row V q 1 _ _ (0, 0) kV, cell_of_row V q 2 _ _ (0, 0) kV, cell_of_row V q 3 _ _ (0, 0) kV, cell_of_row V q 4 _ _ (0, 0) kV, cell_of_row V q 5 _ _ (0, 0) kV⟩)
  have HO := Lib.hid (h.below b0)
  have hrise : Hid (∀ (i j : Nat) (x y : En), i < j → l[i]? = some x → l[j]? = some y → ec x y < 0) := Lib.hid fun i j x y hij hx hy => by
    obtain ⟨hi, rfl⟩ := List.getElem?_eq_some_iff.1 hx
    obtain ⟨hj, rfl⟩ := List.getElem?_eq_some_iff.1 hy
    exact List.pairwise_iff_getElem.1 hr i j hi hj hij
  have HB0 := Lib.hid b0
  have CP := Lib.hid fun x W => ecmp_any x s W
  have hsz := b0.size
  clear h hr hn k0 lq b0
  go_enter Tryz.func89, Tryz.ntmps89
  go_wp2_with fail
  rw [← hW0, ← hq]
  clear hW0 hq
  go_loopw [9, 10] (fun s9 s10 wr => ∃ lo hi : Nat, s9 = .int .i64 lo ∧ s10 = .int .i64 hi ∧ lo ≤ hi ∧ hi ≤ l.length ∧ Below W0.heap.size W0 wr ∧
    Hid ((∀ (t : Nat) (x : En), t < lo → l[t]? = some x → ec x s < 0) ∧ (∀ (t : Nat) (x : En), hi ≤ t → l[t]? = some x → 0 ≤ ec x s))) (fun s9 s10 _ => (intOf s10).toNat - (intOf s9).toNat)
  case atStart => exact ⟨0, l.length, rfl, rfl, Nat.zero_le _, Nat.le_refl _, Below.refl _ _, ⟨fun t x ht => absurd ht (Nat.not_lt_zero _), fun t x ht hx => by have := (List.getElem?_eq_some_iff.1 hx).1; omega⟩⟩
  case round =>
    obtain ⟨lo, hi, rfl, rfl, hlh, hin, hb, I⟩ := hrel
    obtain ⟨z0, z1, z2, z3, z4, z5⟩ := SS.out _ hb
    by_cases hlt : lo < hi
    · obtain ⟨md, hmd⟩ : ∃ md, md = (lo + hi) / 2 := ⟨_, rfl⟩
      have hmi : ((lo : Int) + (hi : Int)) / 2 = (md : Int) := by omega
      have hm1 : lo ≤ md := by omega
      have hm2 : md < hi := by omega
      have hml : md < l.length := by omega
      clear hmd
      obtain ⟨x, hx⟩ : ∃ x, l[md]? = some x := ⟨_, List.getElem?_eq_getElem (by omega)⟩
      obtain ⟨ad, rfl, c0, c1, c2, c3, c4, c5⟩ := Ents.at_ (HO.out.below hb) hx
      have HX := Lib.hid hx
      clear hx
      have SX := Lib.hid fun V (hV : Below wr.heap.size wr V) => (show (fun w' => (w'.cell? ⟨q, 0, none⟩ = some (.string s.1) ∧ w'.cell? ⟨q, 1, none⟩ = some (.int .i64 s.2.1) ∧ w'.cell? ⟨q, 2, none⟩ = some (.int .i64 s.2.2.1) ∧ w'.cell? ⟨q, 3, none⟩ = some (.string s.2.2.2.1) ∧ w'.cell? ⟨q, 4, none⟩ = some (.int .i64 s.2.2.2.2.1) ∧ w'.cell? ⟨q, 5, none⟩ = some (.int .i64 s.2.2.2.2.2)) ∧ (w'.cell? (ad.add (md * 6)) = some (.string x.1) ∧ w'.cell? ⟨(ad.add (md * 6)).block, (ad.add (md * 6)).off + 1, none⟩ = some (.int .i64 x.2.1) ∧ w'.cell? ⟨(ad.add (md * 6)).block, (ad.add (md * 6)).off + 2, none⟩ = some (.int .i64 x.2.2.1) ∧ w'.cell? ⟨(ad.add (md * 6)).block, (ad.add (md * 6)).off + 3, none⟩ = some (.string x.2.2.2.1) ∧ w'.cell? ⟨(ad.add (md * 6)).block, (ad.add (md * 6)).off + 4, none⟩ = some (.int .i64 x.2.2.2.2.1) ∧ w'.cell? ⟨(ad.add (md * 6)).block, (ad.add (md * 6)).off + 5, none⟩ = some (.int .i64 x.2.2.2.2.2))) V from ⟨SS.out V (hb.trans (hV.mono hb.size)), by
        obtain ⟨ad', e, k⟩ := Ents.at_ (HO.out.below (hb.trans (hV.mono hb.size))) HX.out
        obtain rfl := Option.some.inj e
        exact k⟩)
      by_cases hyx : ec x s < 0
      · go_wp2_with fail
        refine wp_region_held_drew (S := fun w' => (w'.cell? ⟨q, 0, none⟩ = some (.string s.1) ∧ w'.cell? ⟨q, 1, none⟩ = some (.int .i64 s.2.1) ∧ w'.cell? ⟨q, 2, none⟩ = some (.int .i64 s.2.2.1) ∧ w'.cell? ⟨q, 3, none⟩ = some (.string s.2.2.2.1) ∧ w'.cell? ⟨q, 4, none⟩ = some (.int .i64 s.2.2.2.2.1) ∧ w'.cell? ⟨q, 5, none⟩ = some (.int .i64 s.2.2.2.2.2)) ∧ (w'.cell? (ad.add (md * 6)) = some (.string x.1) ∧ w'.cell? ⟨(ad.add (md * 6)).block, (ad.add (md * 6)).off + 1, none⟩ = some (.int .i64 x.2.1) ∧ w'.cell? ⟨(ad.add (md * 6)).block, (ad.add (md * 6)).off + 2, none⟩ = some (.int .i64 x.2.2.1) ∧ w'.cell? ⟨(ad.add (md * 6)).block, (ad.add (md * 6)).off + 3, none⟩ = some (.string x.2.2.2.1) ∧ w'.cell? ⟨(ad.add (md * 6)).block, (ad.add (md * 6)).off + 4, none⟩ = some (.int .i64 x.2.2.2.2.1) ∧ w'.cell? ⟨(ad.add (md * 6)).block, (ad.add (md * 6)).off + 5, none⟩ = some (.int .i64 x.2.2.2.2.2))) (by kernel_rfl) (SX.out _ (Below.refl _ _).drew) (fun hHeld => ?_)
        refine wpAnyH_take (i := 0) (oi := { dst := some 24, op := Op.move (Operand.tmp 2), type := 134, pos := "sort.go:160", after := #[], guard := none }) (v := ?va0) rfl (by kernel_rfl) (by kernel_rfl) (by kernel_rfl) (fun _ _ _ h => h) (Or.inl ⟨by rfl, ?ya0⟩) (by assumption) ?ra0
        case ya0 => (intro w' hSw; (try dsimp only at hSw); go_simp; try with_reducible rfl)
        try simp only [Act.put, List.setIfInBounds_toArray, List.set_cons_zero, List.set_cons_succ]
        refine wpAnyH_take (i := 1) (oi := { dst := some 25, op := Op.move (Operand.tmp 0), type := 24, pos := "sort.go:160", after := #[], guard := none }) (v := ?va1) rfl (by kernel_rfl) (by kernel_rfl) (by kernel_rfl) (fun _ _ _ h => h) (Or.inl ⟨by rfl, ?ya1⟩) (by assumption) ?ra1
        case ya1 => (intro w' hSw; (try dsimp only at hSw); go_simp; try with_reducible rfl)
        try simp only [Act.put, List.setIfInBounds_toArray, List.set_cons_zero, List.set_cons_succ]
        refine wpAnyH_take (i := 2) (oi := { dst := some 26, op := Op.move (Operand.tmp 11), type := 3, pos := "sort.go:160", after := #[], guard := none }) (v := ?va2) rfl (by kernel_rfl) (by kernel_rfl) (by kernel_rfl) (fun _ _ _ h => h) (Or.inl ⟨by rfl, ?ya2⟩) (by assumption) ?ra2
        case ya2 => (intro w' hSw; (try dsimp only at hSw); go_simp; try with_reducible rfl)
        try simp only [Act.put, List.setIfInBounds_toArray, List.set_cons_zero, List.set_cons_succ]
        refine wpAnyH_take (i := 3) (oi := { dst := some 27, op := Op.indexAddr 24 (Operand.tmp 25) (Operand.tmp 26), type := 0, pos := "sort.go:160", after := #[{ on := 1, ground := Ground.data }, { on := 2, ground := Ground.data }], guard := none }) (v := ?va3) rfl (by kernel_rfl) (by kernel_rfl) (by kernel_rfl) (fun _ _ _ h => h) (Or.inl ⟨by rfl, ?ya3⟩) (by assumption) ?ra3
        case ya3 => (intro w' hSw; (try dsimp only at hSw); go_simp; try with_reducible rfl)
        try simp only [Act.put, List.setIfInBounds_toArray, List.set_cons_zero, List.set_cons_succ]
        refine wpAnyH_take (i := 4) (oi := { dst := some 28, op := Op.load 69 (Operand.tmp 27), type := 69, pos := "sort.go:160", after := #[{ on := 3, ground := Ground.data }], guard := none }) (v := ?va4) rfl (by kernel_rfl) (by kernel_rfl) (by kernel_rfl) (fun _ _ _ h => h) (Or.inl ⟨by rfl, ?ya4⟩) (by assumption) ?ra4
        case ya4 => (intro w' hSw; (try dsimp only at hSw); go_simp; try with_reducible rfl)
        try simp only [Act.put, List.setIfInBounds_toArray, List.set_cons_zero, List.set_cons_succ]
        refine wpAnyH_take (i := 5) (oi := { dst := some 29, op := Op.load 69 (Operand.tmp 4), type := 69, pos := "sort.go:160", after := #[], guard := none }) (v := ?va5) rfl (by kernel_rfl) (by kernel_rfl) (by kernel_rfl) (fun _ _ _ h => h) (Or.inl ⟨by rfl, ?ya5⟩) (by assumption) ?ra5
        case ya5 => (intro w' hSw; (try dsimp only at hSw); go_simp; try with_reducible rfl)
        try simp only [Act.put, List.setIfInBounds_toArray, List.set_cons_zero, List.set_cons_succ]
        refine wpAnyH_ready (rs := [6]) (by kernel_rfl) (by simp) ?_
        refine AllReadyH.cons (o := { dst := some 30, op := Op.call { callee := Callee.value (Operand.tmp 24), args := #[Operand.tmp 28, Operand.tmp 29], argTypes := #[69, 69] }, type := 3, pos := "sort.go:160", after := #[{ on := 0, ground := Ground.data }, { on := 4, ground := Ground.data }, { on := 5, ground := Ground.data }], guard := none }) rfl (fun K hK => ?_) AllReadyH.nil
        go_simp
        refine (CP.out x _).mono ?_
        rintro e w' ⟨rfl, hb2⟩
        have hb' : Below wr.heap.size wr w' := ((Below.refl _ _).drew).trans hb2
        go_wp2_with fail
        refine hK.out _ _ (SX.out _ hb') (fun hHelda6 => ?_)
        clear hK K hHeld
        try simp only [Act.put, List.setIfInBounds_toArray, List.set_cons_zero, List.set_cons_succ]
        refine wpAnyH_take (i := 7) (oi := { dst := some 31, op := Op.binOp BinOp.lss 3 (Operand.tmp 30) (Operand.const (Value.int IntKind.i64 0)) 3, type := 4, pos := "sort.go:160", after := #[{ on := 6, ground := Ground.data }], guard := none }) (v := ?va7) rfl (by kernel_rfl) (by kernel_rfl) (by kernel_rfl) (fun _ _ _ h => h) (Or.inl ⟨by rfl, ?ya7⟩) (by assumption) ?ra7
        case ya7 => (intro w' hSw; (try dsimp only at hSw); go_simp; try with_reducible rfl)
        try simp only [Act.put, List.setIfInBounds_toArray, List.set_cons_zero, List.set_cons_succ]
        refine wpAnyH_done (by kernel_rfl) ?_ _
        go_wp2_with fail
        go_roundw
        case rel => exact ⟨md + 1, hi, by go_num, rfl, by omega, hin, hb.trans (hb'.mono hb.size), ⟨fun t y ht hy => by
          rcases Nat.lt_or_ge t md with h1 | h1
          · have := hrise.out t md y x h1 hy HX.out
            exact ec_trans this hyx
          · obtain rfl : t = md := by omega
            rw [HX.out] at hy
            obtain rfl := Option.some.inj hy
            exact hyx, I.out.2⟩⟩
        case measure => simp [intOf]; omega
      · go_wp2_with fail
        refine wp_region_held_drew (S := fun w' => (w'.cell? ⟨q, 0, none⟩ = some (.string s.1) ∧ w'.cell? ⟨q, 1, none⟩ = some (.int .i64 s.2.1) ∧ w'.cell? ⟨q, 2, none⟩ = some (.int .i64 s.2.2.1) ∧ w'.cell? ⟨q, 3, none⟩ = some (.string s.2.2.2.1) ∧ w'.cell? ⟨q, 4, none⟩ = some (.int .i64 s.2.2.2.2.1) ∧ w'.cell? ⟨q, 5, none⟩ = some (.int .i64 s.2.2.2.2.2)) ∧ (w'.cell? (ad.add (md * 6)) = some (.string x.1) ∧ w'.cell? ⟨(ad.add (md * 6)).block, (ad.add (md * 6)).off + 1, none⟩ = some (.int .i64 x.2.1) ∧ w'.cell? ⟨(ad.add (md * 6)).block, (ad.add (md * 6)).off + 2, none⟩ = some (.int .i64 x.2.2.1) ∧ w'.cell? ⟨(ad.add (md * 6)).block, (ad.add (md * 6)).off + 3, none⟩ = some (.string x.2.2.2.1) ∧ w'.cell? ⟨(ad.add (md * 6)).block, (ad.add (md * 6)).off + 4, none⟩ = some (.int .i64 x.2.2.2.2.1) ∧ w'.cell? ⟨(ad.add (md * 6)).block, (ad.add (md * 6)).off + 5, none⟩ = some (.int .i64 x.2.2.2.2.2))) (by kernel_rfl) (SX.out _ (Below.refl _ _).drew) (fun hHeld => ?_)
        refine wpAnyH_take (i := 0) (oi := { dst := some 24, op := Op.move (Operand.tmp 2), type := 134, pos := "sort.go:160", after := #[], guard := none }) (v := ?vb0) rfl (by kernel_rfl) (by kernel_rfl) (by kernel_rfl) (fun _ _ _ h => h) (Or.inl ⟨by rfl, ?yb0⟩) (by assumption) ?rb0
        case yb0 => (intro w' hSw; (try dsimp only at hSw); go_simp; try with_reducible rfl)
        try simp only [Act.put, List.setIfInBounds_toArray, List.set_cons_zero, List.set_cons_succ]
        refine wpAnyH_take (i := 1) (oi := { dst := some 25, op := Op.move (Operand.tmp 0), type := 24, pos := "sort.go:160", after := #[], guard := none }) (v := ?vb1) rfl (by kernel_rfl) (by kernel_rfl) (by kernel_rfl) (fun _ _ _ h => h) (Or.inl ⟨by rfl, ?yb1⟩) (by assumption) ?rb1
        case yb1 => (intro w' hSw; (try dsimp only at hSw); go_simp; try with_reducible rfl)
        try simp only [Act.put, List.setIfInBounds_toArray, List.set_cons_zero, List.set_cons_succ]
        refine wpAnyH_take (i := 2) (oi := { dst := some 26, op := Op.move (Operand.tmp 11), type := 3, pos := "sort.go:160", after := #[], guard := none }) (v := ?vb2) rfl (by kernel_rfl) (by kernel_rfl) (by kernel_rfl) (fun _ _ _ h => h) (Or.inl ⟨by rfl, ?yb2⟩) (by assumption) ?rb2
        case yb2 => (intro w' hSw; (try dsimp only at hSw); go_simp; try with_reducible rfl)
        try simp only [Act.put, List.setIfInBounds_toArray, List.set_cons_zero, List.set_cons_succ]
        refine wpAnyH_take (i := 3) (oi := { dst := some 27, op := Op.indexAddr 24 (Operand.tmp 25) (Operand.tmp 26), type := 0, pos := "sort.go:160", after := #[{ on := 1, ground := Ground.data }, { on := 2, ground := Ground.data }], guard := none }) (v := ?vb3) rfl (by kernel_rfl) (by kernel_rfl) (by kernel_rfl) (fun _ _ _ h => h) (Or.inl ⟨by rfl, ?yb3⟩) (by assumption) ?rb3
        case yb3 => (intro w' hSw; (try dsimp only at hSw); go_simp; try with_reducible rfl)
        try simp only [Act.put, List.setIfInBounds_toArray, List.set_cons_zero, List.set_cons_succ]
        refine wpAnyH_take (i := 4) (oi := { dst := some 28, op := Op.load 69 (Operand.tmp 27), type := 69, pos := "sort.go:160", after := #[{ on := 3, ground := Ground.data }], guard := none }) (v := ?vb4) rfl (by kernel_rfl) (by kernel_rfl) (by kernel_rfl) (fun _ _ _ h => h) (Or.inl ⟨by rfl, ?yb4⟩) (by assumption) ?rb4
        case yb4 => (intro w' hSw; (try dsimp only at hSw); go_simp; try with_reducible rfl)
        try simp only [Act.put, List.setIfInBounds_toArray, List.set_cons_zero, List.set_cons_succ]
        refine wpAnyH_take (i := 5) (oi := { dst := some 29, op := Op.load 69 (Operand.tmp 4), type := 69, pos := "sort.go:160", after := #[], guard := none }) (v := ?vb5) rfl (by kernel_rfl) (by kernel_rfl) (by kernel_rfl) (fun _ _ _ h => h) (Or.inl ⟨by rfl, ?yb5⟩) (by assumption) ?rb5
        case yb5 => (intro w' hSw; (try dsimp only at hSw); go_simp; try with_reducible rfl)
        try simp only [Act.put, List.setIfInBounds_toArray, List.set_cons_zero, List.set_cons_succ]
        refine wpAnyH_ready (rs := [6]) (by kernel_rfl) (by simp) ?_
        refine AllReadyH.cons (o := { dst := some 30, op := Op.call { callee := Callee.value (Operand.tmp 24), args := #[Operand.tmp 28, Operand.tmp 29], argTypes := #[69, 69] }, type := 3, pos := "sort.go:160", after := #[{ on := 0, ground := Ground.data }, { on := 4, ground := Ground.data }, { on := 5, ground := Ground.data }], guard := none }) rfl (fun K hK => ?_) AllReadyH.nil
        go_simp
        refine (CP.out x _).mono ?_
        rintro e w' ⟨rfl, hb2⟩
        have hb' : Below wr.heap.size wr w' := ((Below.refl _ _).drew).trans hb2
        go_wp2_with fail
        refine hK.out _ _ (SX.out _ hb') (fun hHeldb6 => ?_)
        clear hK K hHeld
        try simp only [Act.put, List.setIfInBounds_toArray, List.set_cons_zero, List.set_cons_succ]
        refine wpAnyH_take (i := 7) (oi := { dst := some 31, op := Op.binOp BinOp.lss 3 (Operand.tmp 30) (Operand.const (Value.int IntKind.i64 0)) 3, type := 4, pos := "sort.go:160", after := #[{ on := 6, ground := Ground.data }], guard := none }) (v := ?vb7) rfl (by kernel_rfl) (by kernel_rfl) (by kernel_rfl) (fun _ _ _ h => h) (Or.inl ⟨by rfl, ?yb7⟩) (by assumption) ?rb7
        case yb7 => (intro w' hSw; (try dsimp only at hSw); go_simp; try with_reducible rfl)
        try simp only [Act.put, List.setIfInBounds_toArray, List.set_cons_zero, List.set_cons_succ]
        refine wpAnyH_done (by kernel_rfl) ?_ _
        go_wp2_with fail
        go_roundw
        case rel => exact ⟨lo, md, rfl, by go_num, by omega, by omega, hb.trans (hb'.mono hb.size), ⟨I.out.1, fun t y ht hy => by
          rcases Nat.eq_or_lt_of_le ht with h1 | h1
          · rw [← h1, HX.out] at hy
            obtain rfl := Option.some.inj hy
            omega
          · have := hrise.out md t x y h1 HX.out hy
            rcases Int.lt_or_le (ec y s) 0 with h2 | h2
            · exact absurd (ec_trans this h2) (by omega)
            · exact h2⟩⟩
        case measure => simp [intOf]; omega
    · obtain rfl : hi = lo := by omega
      have HE := Lib.hid (HB0.out.trans (hb.mono hsz))
      by_cases hlen : hi < l.length
      · obtain ⟨x, hx⟩ : ∃ x, l[hi]? = some x := ⟨_, List.getElem?_eq_getElem hlen⟩
        obtain ⟨ad, rfl, c0, c1, c2, c3, c4, c5⟩ := Ents.at_ (HO.out.below hb) hx
        have HX := Lib.hid hx
        clear hx
        have SX := Lib.hid fun V (hV : Below wr.heap.size wr V) => (show (fun w' => (w'.cell? ⟨q, 0, none⟩ = some (.string s.1) ∧ w'.cell? ⟨q, 1, none⟩ = some (.int .i64 s.2.1) ∧ w'.cell? ⟨q, 2, none⟩ = some (.int .i64 s.2.2.1) ∧ w'.cell? ⟨q, 3, none⟩ = some (.string s.2.2.2.1) ∧ w'.cell? ⟨q, 4, none⟩ = some (.int .i64 s.2.2.2.2.1) ∧ w'.cell? ⟨q, 5, none⟩ = some (.int .i64 s.2.2.2.2.2)) ∧ (w'.cell? (ad.add (hi * 6)) = some (.string x.1) ∧ w'.cell? ⟨(ad.add (hi * 6)).block, (ad.add (hi * 6)).off + 1, none⟩ = some (.int .i64 x.2.1) ∧ w'.cell? ⟨(ad.add (hi * 6)).block, (ad.add (hi * 6)).off + 2, none⟩ = some (.int .i64 x.2.2.1) ∧ w'.cell? ⟨(ad.add (hi * 6)).block, (ad.add (hi * 6)).off + 3, none⟩ = some (.string x.2.2.2.1) ∧ w'.cell? ⟨(ad.add (hi * 6)).block, (ad.add (hi * 6)).off + 4, none⟩ = some (.int .i64 x.2.2.2.2.1) ∧ w'.cell? ⟨(ad.add (hi * 6)).block, (ad.add (hi * 6)).off + 5, none⟩ = some (.int .i64 x.2.2.2.2.2))) V from ⟨SS.out V (hb.trans (hV.mono hb.size)), by
          obtain ⟨ad', e, k⟩ := Ents.at_ (HO.out.below (hb.trans (hV.mono hb.size))) HX.out
          obtain rfl := Option.some.inj e
          exact k⟩)
        go_wp2_with fail
        refine wp_region_held_drew (S := fun w' => (w'.cell? ⟨q, 0, none⟩ = some (.string s.1) ∧ w'.cell? ⟨q, 1, none⟩ = some (.int .i64 s.2.1) ∧ w'.cell? ⟨q, 2, none⟩ = some (.int .i64 s.2.2.1) ∧ w'.cell? ⟨q, 3, none⟩ = some (.string s.2.2.2.1) ∧ w'.cell? ⟨q, 4, none⟩ = some (.int .i64 s.2.2.2.2.1) ∧ w'.cell? ⟨q, 5, none⟩ = some (.int .i64 s.2.2.2.2.2)) ∧ (w'.cell? (ad.add (hi * 6)) = some (.string x.1) ∧ w'.cell? ⟨(ad.add (hi * 6)).block, (ad.add (hi * 6)).off + 1, none⟩ = some (.int .i64 x.2.1) ∧ w'.cell? ⟨(ad.add (hi * 6)).block, (ad.add (hi * 6)).off + 2, none⟩ = some (.int .i64 x.2.2.1) ∧ w'.cell? ⟨(ad.add (hi * 6)).block, (ad.add (hi * 6)).off + 3, none⟩ = some (.string x.2.2.2.1) ∧ w'.cell? ⟨(ad.add (hi * 6)).block, (ad.add (hi * 6)).off + 4, none⟩ = some (.int .i64 x.2.2.2.2.1) ∧ w'.cell? ⟨(ad.add (hi * 6)).block, (ad.add (hi * 6)).off + 5, none⟩ = some (.int .i64 x.2.2.2.2.2))) (by kernel_rfl) (SX.out _ (Below.refl _ _).drew) (fun hHeld => ?_)
        refine wpAnyH_take (i := 0) (oi := { dst := some 35, op := Op.move (Operand.tmp 9), type := 3, pos := "sort.go:167", after := #[], guard := none }) (v := ?vc0) rfl (by kernel_rfl) (by kernel_rfl) (by kernel_rfl) (fun _ _ _ h => h) (Or.inl ⟨by rfl, ?yc0⟩) (by assumption) ?rc0
        case yc0 => (intro w' hSw; (try dsimp only at hSw); go_simp; try with_reducible rfl)
        try simp only [Act.put, List.setIfInBounds_toArray, List.set_cons_zero, List.set_cons_succ]
        refine wpAnyH_take (i := 1) (oi := { dst := some 36, op := Op.move (Operand.tmp 9), type := 3, pos := "sort.go:167", after := #[], guard := none }) (v := ?vc1) rfl (by kernel_rfl) (by kernel_rfl) (by kernel_rfl) (fun _ _ _ h => h) (Or.inl ⟨by rfl, ?yc1⟩) (by assumption) ?rc1
        case yc1 => (intro w' hSw; (try dsimp only at hSw); go_simp; try with_reducible rfl)
        try simp only [Act.put, List.setIfInBounds_toArray, List.set_cons_zero, List.set_cons_succ]
        refine wpAnyH_take (i := 2) (oi := { dst := some 37, op := Op.move (Operand.tmp 8), type := 3, pos := "sort.go:167", after := #[], guard := none }) (v := ?vc2) rfl (by kernel_rfl) (by kernel_rfl) (by kernel_rfl) (fun _ _ _ h => h) (Or.inl ⟨by rfl, ?yc2⟩) (by assumption) ?rc2
        case yc2 => (intro w' hSw; (try dsimp only at hSw); go_simp; try with_reducible rfl)
        try simp only [Act.put, List.setIfInBounds_toArray, List.set_cons_zero, List.set_cons_succ]
        refine wpAnyH_take (i := 3) (oi := { dst := some 38, op := Op.binOp BinOp.lss 3 (Operand.tmp 36) (Operand.tmp 37) 3, type := 4, pos := "sort.go:167", after := #[{ on := 1, ground := Ground.data }, { on := 2, ground := Ground.data }], guard := none }) (v := ?vc3) rfl (by kernel_rfl) (by kernel_rfl) (by kernel_rfl) (fun _ _ _ h => h) (Or.inl ⟨by rfl, ?yc3⟩) (by assumption) ?rc3
        case yc3 => (intro w' hSw; (try dsimp only at hSw); go_simp; try with_reducible rfl)
        try simp only [Act.put, List.setIfInBounds_toArray, List.set_cons_zero, List.set_cons_succ]
        refine wpAnyH_take (i := 4) (oi := { dst := some 39, op := Op.move (Operand.tmp 38), type := 4, pos := "sort.go:167", after := #[{ on := 3, ground := Ground.data }], guard := none }) (v := ?vc4) rfl (by kernel_rfl) (by kernel_rfl) (by kernel_rfl) (fun _ _ _ h => h) (Or.inl ⟨by rfl, ?yc4⟩) (by assumption) ?rc4
        case yc4 => (intro w' hSw; (try dsimp only at hSw); go_simp; try with_reducible rfl)
        try simp only [Act.put, List.setIfInBounds_toArray, List.set_cons_zero, List.set_cons_succ]
        refine wpAnyH_take (i := 5) (oi := { dst := some 40, op := Op.move (Operand.tmp 2), type := 134, pos := "sort.go:167", after := #[{ on := 4, ground := Ground.guard }], guard := some (4, true) }) (v := ?vc5) rfl (by kernel_rfl) (by kernel_rfl) (by kernel_rfl) (fun _ _ _ h => h) (Or.inl ⟨by rfl, ?yc5⟩) (by assumption) ?rc5
        case yc5 => (intro w' hSw; (try dsimp only at hSw); go_simp; try with_reducible rfl)
        try simp only [Act.put, List.setIfInBounds_toArray, List.set_cons_zero, List.set_cons_succ]
        refine wpAnyH_take (i := 6) (oi := { dst := some 41, op := Op.move (Operand.tmp 0), type := 24, pos := "sort.go:167", after := #[{ on := 4, ground := Ground.guard }], guard := some (4, true) }) (v := ?vc6) rfl (by kernel_rfl) (by kernel_rfl) (by kernel_rfl) (fun _ _ _ h => h) (Or.inl ⟨by rfl, ?yc6⟩) (by assumption) ?rc6
        case yc6 => (intro w' hSw; (try dsimp only at hSw); go_simp; try with_reducible rfl)
        try simp only [Act.put, List.setIfInBounds_toArray, List.set_cons_zero, List.set_cons_succ]
        refine wpAnyH_take (i := 7) (oi := { dst := some 42, op := Op.move (Operand.tmp 9), type := 3, pos := "sort.go:167", after := #[{ on := 4, ground := Ground.guard }], guard := some (4, true) }) (v := ?vc7) rfl (by kernel_rfl) (by kernel_rfl) (by kernel_rfl) (fun _ _ _ h => h) (Or.inl ⟨by rfl, ?yc7⟩) (by assumption) ?rc7
        case yc7 => (intro w' hSw; (try dsimp only at hSw); go_simp; try with_reducible rfl)
        try simp only [Act.put, List.setIfInBounds_toArray, List.set_cons_zero, List.set_cons_succ]
        refine wpAnyH_take (i := 8) (oi := { dst := some 43, op := Op.indexAddr 24 (Operand.tmp 41) (Operand.tmp 42), type := 0, pos := "sort.go:167", after := #[{ on := 6, ground := Ground.data }, { on := 7, ground := Ground.data }, { on := 4, ground := Ground.guard }], guard := some (4, true) }) (v := ?vc8) rfl (by kernel_rfl) (by kernel_rfl) (by kernel_rfl) (fun _ _ _ h => h) (Or.inl ⟨by rfl, ?yc8⟩) (by assumption) ?rc8
        case yc8 => (intro w' hSw; (try dsimp only at hSw); go_simp; try with_reducible rfl)
        try simp only [Act.put, List.setIfInBounds_toArray, List.set_cons_zero, List.set_cons_succ]
        refine wpAnyH_take (i := 9) (oi := { dst := some 44, op := Op.load 69 (Operand.tmp 43), type := 69, pos := "sort.go:167", after := #[{ on := 8, ground := Ground.data }, { on := 4, ground := Ground.guard }], guard := some (4, true) }) (v := ?vc9) rfl (by kernel_rfl) (by kernel_rfl) (by kernel_rfl) (fun _ _ _ h => h) (Or.inl ⟨by rfl, ?yc9⟩) (by assumption) ?rc9
        case yc9 => (intro w' hSw; (try dsimp only at hSw); go_simp; try with_reducible rfl)
        try simp only [Act.put, List.setIfInBounds_toArray, List.set_cons_zero, List.set_cons_succ]
        refine wpAnyH_take (i := 10) (oi := { dst := some 45, op := Op.load 69 (Operand.tmp 4), type := 69, pos := "sort.go:167", after := #[{ on := 4, ground := Ground.guard }], guard := some (4, true) }) (v := ?vc10) rfl (by kernel_rfl) (by kernel_rfl) (by kernel_rfl) (fun _ _ _ h => h) (Or.inl ⟨by rfl, ?yc10⟩) (by assumption) ?rc10
        case yc10 => (intro w' hSw; (try dsimp only at hSw); go_simp; try with_reducible rfl)
        try simp only [Act.put, List.setIfInBounds_toArray, List.set_cons_zero, List.set_cons_succ]
        refine wpAnyH_ready (rs := [11]) (by kernel_rfl) (by simp) ?_
        refine AllReadyH.cons (o := { dst := some 46, op := Op.call { callee := Callee.value (Operand.tmp 40), args := #[Operand.tmp 44, Operand.tmp 45], argTypes := #[69, 69] }, type := 3, pos := "sort.go:167", after := #[{ on := 5, ground := Ground.data }, { on := 9, ground := Ground.data }, { on := 10, ground := Ground.data }, { on := 4, ground := Ground.chain }, { on := 4, ground := Ground.guard }], guard := some (4, true) }) rfl (fun K hK => ?_) AllReadyH.nil
        go_simp
        refine (CP.out x _).mono ?_
        rintro e w' ⟨rfl, hb2⟩
        have hb' : Below wr.heap.size wr w' := ((Below.refl _ _).drew).trans hb2
        go_wp2_with fail
        refine hK.out _ _ (SX.out _ hb') (fun hHeldc11 => ?_)
        clear hK K hHeld
        try simp only [Act.put, List.setIfInBounds_toArray, List.set_cons_zero, List.set_cons_succ]
        refine wpAnyH_take (i := 12) (oi := { dst := some 47, op := Op.binOp BinOp.eql 3 (Operand.tmp 46) (Operand.const (Value.int IntKind.i64 0)) 3, type := 4, pos := "sort.go:167", after := #[{ on := 11, ground := Ground.data }, { on := 4, ground := Ground.guard }, { on := 14, ground := Ground.gcOnly Departure.lateStores }], guard := some (4, true) }) (v := ?vc12) rfl (by kernel_rfl) (by kernel_rfl) (by kernel_rfl) (fun _ _ _ h => h) (Or.inl ⟨by rfl, ?yc12⟩) (by assumption) ?rc12
        case yc12 => (intro w' hSw; (try dsimp only at hSw); go_simp; try with_reducible rfl)
        try simp only [Act.put, List.setIfInBounds_toArray, List.set_cons_zero, List.set_cons_succ]
        refine wpAnyH_take (i := 13) (oi := { dst := some 48, op := Op.pick (Operand.tmp 39) (Operand.tmp 47) (Operand.const (Value.bool false)), type := 4, pos := "sort.go:167", after := #[{ on := 4, ground := Ground.data }, { on := 12, ground := Ground.data }, { on := 14, ground := Ground.gcOnly Departure.lateStores }], guard := none }) (v := ?vc13) rfl (by kernel_rfl) (by kernel_rfl) (by kernel_rfl) (fun _ _ _ h => h) (Or.inl ⟨by rfl, ?yc13⟩) (by assumption) ?rc13
        case yc13 => (intro w' hSw; (try dsimp only at hSw); go_simp; try with_reducible rfl)
        try simp only [Act.put, List.setIfInBounds_toArray, List.set_cons_zero, List.set_cons_succ]
        refine wpAnyH_take (i := 14) (oi := { dst := some 6, op := Op.assign (Operand.tmp 35), type := 3, pos := "sort.go:167", after := #[{ on := 0, ground := Ground.data }, { on := 11, ground := Ground.chain }, { on := 0, ground := Ground.phase }, { on := 1, ground := Ground.textOnly Departure.lateStores }, { on := 2, ground := Ground.textOnly Departure.lateStores }, { on := 3, ground := Ground.textOnly Departure.lateStores }, { on := 4, ground := Ground.textOnly Departure.lateStores }, { on := 5, ground := Ground.textOnly Departure.lateStores }, { on := 6, ground := Ground.textOnly Departure.lateStores }, { on := 7, ground := Ground.textOnly Departure.lateStores }, { on := 8, ground := Ground.textOnly Departure.lateStores }, { on := 9, ground := Ground.textOnly Departure.lateStores }, { on := 10, ground := Ground.textOnly Departure.lateStores }, { on := 11, ground := Ground.textOnly Departure.lateStoresUnsure }, { on := 12, ground := Ground.textOnly Departure.lateStores }, { on := 13, ground := Ground.textOnly Departure.lateStores }], guard := none }) (v := ?vc14) rfl (by kernel_rfl) (by kernel_rfl) (by kernel_rfl) (fun _ _ _ h => h) (Or.inl ⟨by rfl, ?yc14⟩) (by assumption) ?rc14
        case yc14 => (intro w' hSw; (try dsimp only at hSw); go_simp; try with_reducible rfl)
        try simp only [Act.put, List.setIfInBounds_toArray, List.set_cons_zero, List.set_cons_succ]
        refine wpAnyH_take (i := 15) (oi := { dst := some 7, op := Op.assign (Operand.tmp 48), type := 4, pos := "sort.go:167", after := #[{ on := 13, ground := Ground.data }, { on := 14, ground := Ground.chain }, { on := 0, ground := Ground.phase }, { on := 1, ground := Ground.phase }, { on := 2, ground := Ground.phase }, { on := 3, ground := Ground.phase }, { on := 4, ground := Ground.phase }, { on := 5, ground := Ground.phase }, { on := 6, ground := Ground.phase }, { on := 7, ground := Ground.phase }, { on := 8, ground := Ground.phase }, { on := 9, ground := Ground.phase }, { on := 10, ground := Ground.phase }, { on := 11, ground := Ground.phase }, { on := 12, ground := Ground.phase }, { on := 13, ground := Ground.phase }, { on := 14, ground := Ground.phase }], guard := none }) (v := ?vc15) rfl (by kernel_rfl) (by kernel_rfl) (by kernel_rfl) (fun _ _ _ h => h) (Or.inl ⟨by rfl, ?yc15⟩) (by assumption) ?rc15
        case yc15 => (intro w' hSw; (try dsimp only at hSw); go_simp; try with_reducible rfl)
        try simp only [Act.put, List.setIfInBounds_toArray, List.set_cons_zero, List.set_cons_succ]
        refine wpAnyH_done (by kernel_rfl) ?_ _
        go_wp2_with fail
        go_ret2
        exact ⟨hi, _, rfl, HE.out.trans (hb'.mono HE.out.size), hin, I.out⟩
      · go_wp2_with fail
        refine wp_region_held_drew (S := fun _ => True) (by kernel_rfl) (trivial) (fun hHeld => ?_)
        refine wpAnyH_take (i := 0) (oi := { dst := some 35, op := Op.move (Operand.tmp 9), type := 3, pos := "sort.go:167", after := #[], guard := none }) (v := ?vd0) rfl (by kernel_rfl) (by kernel_rfl) (by kernel_rfl) (fun _ _ _ h => h) (Or.inl ⟨by rfl, ?yd0⟩) (by assumption) ?rd0
        case yd0 => (intro w' hSw; (try dsimp only at hSw); go_simp; try with_reducible rfl)
        try simp only [Act.put, List.setIfInBounds_toArray, List.set_cons_zero, List.set_cons_succ]
        refine wpAnyH_take (i := 1) (oi := { dst := some 36, op := Op.move (Operand.tmp 9), type := 3, pos := "sort.go:167", after := #[], guard := none }) (v := ?vd1) rfl (by kernel_rfl) (by kernel_rfl) (by kernel_rfl) (fun _ _ _ h => h) (Or.inl ⟨by rfl, ?yd1⟩) (by assumption) ?rd1
        case yd1 => (intro w' hSw; (try dsimp only at hSw); go_simp; try with_reducible rfl)
        try simp only [Act.put, List.setIfInBounds_toArray, List.set_cons_zero, List.set_cons_succ]
        refine wpAnyH_take (i := 2) (oi := { dst := some 37, op := Op.move (Operand.tmp 8), type := 3, pos := "sort.go:167", after := #[], guard := none }) (v := ?vd2) rfl (by kernel_rfl) (by kernel_rfl) (by kernel_rfl) (fun _ _ _ h => h) (Or.inl ⟨by rfl, ?yd2⟩) (by assumption) ?rd2
        case yd2 => (intro w' hSw; (try dsimp only at hSw); go_simp; try with_reducible rfl)
        try simp only [Act.put, List.setIfInBounds_toArray, List.set_cons_zero, List.set_cons_succ]
        refine wpAnyH_take (i := 3) (oi := { dst := some 38, op := Op.binOp BinOp.lss 3 (Operand.tmp 36) (Operand.tmp 37) 3, type := 4, pos := "sort.go:167", after := #[{ on := 1, ground := Ground.data }, { on := 2, ground := Ground.data }], guard := none }) (v := ?vd3) rfl (by kernel_rfl) (by kernel_rfl) (by kernel_rfl) (fun _ _ _ h => h) (Or.inl ⟨by rfl, ?yd3⟩) (by assumption) ?rd3
        case yd3 => (intro w' hSw; (try dsimp only at hSw); go_simp; try with_reducible rfl)
        try simp only [Act.put, List.setIfInBounds_toArray, List.set_cons_zero, List.set_cons_succ]
        refine wpAnyH_take (i := 4) (oi := { dst := some 39, op := Op.move (Operand.tmp 38), type := 4, pos := "sort.go:167", after := #[{ on := 3, ground := Ground.data }], guard := none }) (v := ?vd4) rfl (by kernel_rfl) (by kernel_rfl) (by kernel_rfl) (fun _ _ _ h => h) (Or.inl ⟨by rfl, ?yd4⟩) (by assumption) ?rd4
        case yd4 => (intro w' hSw; (try dsimp only at hSw); go_simp; try with_reducible rfl)
        try simp only [Act.put, List.setIfInBounds_toArray, List.set_cons_zero, List.set_cons_succ]
        refine wpAnyH_take (i := 5) (oi := { dst := some 40, op := Op.move (Operand.tmp 2), type := 134, pos := "sort.go:167", after := #[{ on := 4, ground := Ground.guard }], guard := some (4, true) }) (v := undef) rfl (by kernel_rfl) (by kernel_rfl) (by kernel_rfl) (fun _ _ _ h => h) (Or.inr ⟨by rfl, rfl⟩) (by assumption) ?_
        try simp only [Act.put, List.setIfInBounds_toArray, List.set_cons_zero, List.set_cons_succ]
        refine wpAnyH_take (i := 6) (oi := { dst := some 41, op := Op.move (Operand.tmp 0), type := 24, pos := "sort.go:167", after := #[{ on := 4, ground := Ground.guard }], guard := some (4, true) }) (v := undef) rfl (by kernel_rfl) (by kernel_rfl) (by kernel_rfl) (fun _ _ _ h => h) (Or.inr ⟨by rfl, rfl⟩) (by assumption) ?_
        try simp only [Act.put, List.setIfInBounds_toArray, List.set_cons_zero, List.set_cons_succ]
        refine wpAnyH_take (i := 7) (oi := { dst := some 42, op := Op.move (Operand.tmp 9), type := 3, pos := "sort.go:167", after := #[{ on := 4, ground := Ground.guard }], guard := some (4, true) }) (v := undef) rfl (by kernel_rfl) (by kernel_rfl) (by kernel_rfl) (fun _ _ _ h => h) (Or.inr ⟨by rfl, rfl⟩) (by assumption) ?_
        try simp only [Act.put, List.setIfInBounds_toArray, List.set_cons_zero, List.set_cons_succ]
        refine wpAnyH_take (i := 8) (oi := { dst := some 43, op := Op.indexAddr 24 (Operand.tmp 41) (Operand.tmp 42), type := 0, pos := "sort.go:167", after := #[{ on := 6, ground := Ground.data }, { on := 7, ground := Ground.data }, { on := 4, ground := Ground.guard }], guard := some (4, true) }) (v := undef) rfl (by kernel_rfl) (by kernel_rfl) (by kernel_rfl) (fun _ _ _ h => h) (Or.inr ⟨by rfl, rfl⟩) (by assumption) ?_
        try simp only [Act.put, List.setIfInBounds_toArray, List.set_cons_zero, List.set_cons_succ]
        refine wpAnyH_take (i := 9) (oi := { dst := some 44, op := Op.load 69 (Operand.tmp 43), type := 69, pos := "sort.go:167", after := #[{ on := 8, ground := Ground.data }, { on := 4, ground := Ground.guard }], guard := some (4, true) }) (v := undef) rfl (by kernel_rfl) (by kernel_rfl) (by kernel_rfl) (fun _ _ _ h => h) (Or.inr ⟨by rfl, rfl⟩) (by assumption) ?_
        try simp only [Act.put, List.setIfInBounds_toArray, List.set_cons_zero, List.set_cons_succ]
        refine wpAnyH_take (i := 10) (oi := { dst := some 45, op := Op.load 69 (Operand.tmp 4), type := 69, pos := "sort.go:167", after := #[{ on := 4, ground := Ground.guard }], guard := some (4, true) }) (v := undef) rfl (by kernel_rfl) (by kernel_rfl) (by kernel_rfl) (fun _ _ _ h => h) (Or.inr ⟨by rfl, rfl⟩) (by assumption) ?_
        try simp only [Act.put, List.setIfInBounds_toArray, List.set_cons_zero, List.set_cons_succ]
        refine wpAnyH_take (i := 11) (oi := { dst := some 46, op := Op.call { callee := Callee.value (Operand.tmp 40), args := #[Operand.tmp 44, Operand.tmp 45], argTypes := #[69, 69] }, type := 3, pos := "sort.go:167", after := #[{ on := 5, ground := Ground.data }, { on := 9, ground := Ground.data }, { on := 10, ground := Ground.data }, { on := 4, ground := Ground.chain }, { on := 4, ground := Ground.guard }], guard := some (4, true) }) (v := undef) rfl (by kernel_rfl) (by kernel_rfl) (by kernel_rfl) (fun _ _ _ h => h) (Or.inr ⟨by rfl, rfl⟩) (by assumption) ?_
        try simp only [Act.put, List.setIfInBounds_toArray, List.set_cons_zero, List.set_cons_succ]
        refine wpAnyH_take (i := 12) (oi := { dst := some 47, op := Op.binOp BinOp.eql 3 (Operand.tmp 46) (Operand.const (Value.int IntKind.i64 0)) 3, type := 4, pos := "sort.go:167", after := #[{ on := 11, ground := Ground.data }, { on := 4, ground := Ground.guard }, { on := 14, ground := Ground.gcOnly Departure.lateStores }], guard := some (4, true) }) (v := undef) rfl (by kernel_rfl) (by kernel_rfl) (by kernel_rfl) (fun _ _ _ h => h) (Or.inr ⟨by rfl, rfl⟩) (by assumption) ?_
        try simp only [Act.put, List.setIfInBounds_toArray, List.set_cons_zero, List.set_cons_succ]
        refine wpAnyH_take (i := 13) (oi := { dst := some 48, op := Op.pick (Operand.tmp 39) (Operand.tmp 47) (Operand.const (Value.bool false)), type := 4, pos := "sort.go:167", after := #[{ on := 4, ground := Ground.data }, { on := 12, ground := Ground.data }, { on := 14, ground := Ground.gcOnly Departure.lateStores }], guard := none }) (v := ?vd13) rfl (by kernel_rfl) (by kernel_rfl) (by kernel_rfl) (fun _ _ _ h => h) (Or.inl ⟨by rfl, ?yd13⟩) (by assumption) ?rd13
        case yd13 => (intro w' hSw; (try dsimp only at hSw); go_simp; try with_reducible rfl)
        try simp only [Act.put, List.setIfInBounds_toArray, List.set_cons_zero, List.set_cons_succ]
        refine wpAnyH_take (i := 14) (oi := { dst := some 6, op := Op.assign (Operand.tmp 35), type := 3, pos := "sort.go:167", after := #[{ on := 0, ground := Ground.data }, { on := 11, ground := Ground.chain }, { on := 0, ground := Ground.phase }, { on := 1, ground := Ground.textOnly Departure.lateStores }, { on := 2, ground := Ground.textOnly Departure.lateStores }, { on := 3, ground := Ground.textOnly Departure.lateStores }, { on := 4, ground := Ground.textOnly Departure.lateStores }, { on := 5, ground := Ground.textOnly Departure.lateStores }, { on := 6, ground := Ground.textOnly Departure.lateStores }, { on := 7, ground := Ground.textOnly Departure.lateStores }, { on := 8, ground := Ground.textOnly Departure.lateStores }, { on := 9, ground := Ground.textOnly Departure.lateStores }, { on := 10, ground := Ground.textOnly Departure.lateStores }, { on := 11, ground := Ground.textOnly Departure.lateStoresUnsure }, { on := 12, ground := Ground.textOnly Departure.lateStores }, { on := 13, ground := Ground.textOnly Departure.lateStores }], guard := none }) (v := ?vd14) rfl (by kernel_rfl) (by kernel_rfl) (by kernel_rfl) (fun _ _ _ h => h) (Or.inl ⟨by rfl, ?yd14⟩) (by assumption) ?rd14
        case yd14 => (intro w' hSw; (try dsimp only at hSw); go_simp; try with_reducible rfl)
        try simp only [Act.put, List.setIfInBounds_toArray, List.set_cons_zero, List.set_cons_succ]
        refine wpAnyH_take (i := 15) (oi := { dst := some 7, op := Op.assign (Operand.tmp 48), type := 4, pos := "sort.go:167", after := #[{ on := 13, ground := Ground.data }, { on := 14, ground := Ground.chain }, { on := 0, ground := Ground.phase }, { on := 1, ground := Ground.phase }, { on := 2, ground := Ground.phase }, { on := 3, ground := Ground.phase }, { on := 4, ground := Ground.phase }, { on := 5, ground := Ground.phase }, { on := 6, ground := Ground.phase }, { on := 7, ground := Ground.phase }, { on := 8, ground := Ground.phase }, { on := 9, ground := Ground.phase }, { on := 10, ground := Ground.phase }, { on := 11, ground := Ground.phase }, { on := 12, ground := Ground.phase }, { on := 13, ground := Ground.phase }, { on := 14, ground := Ground.phase }], guard := none }) (v := ?vd15) rfl (by kernel_rfl) (by kernel_rfl) (by kernel_rfl) (fun _ _ _ h => h) (Or.inl ⟨by rfl, ?yd15⟩) (by assumption) ?rd15
        case yd15 => (intro w' hSw; (try dsimp only at hSw); go_simp; try with_reducible rfl)
        try simp only [Act.put, List.setIfInBounds_toArray, List.set_cons_zero, List.set_cons_succ]
        refine wpAnyH_done (by kernel_rfl) ?_ _
        go_wp2_with fail
        go_ret2
        exact ⟨hi, false, rfl, HE.out.drew, hin, I.out⟩
end Go.Proofs.YtdmmjfmjohliiaaGreatDoor
namespace Go.Proofs.YtdmmjfmjohliiaaGreatDoor
open Go Go.RowKit

/-- What may stay beside e. -/
def keepE (l : List En) (e : En) : List En := l.filter fun x => !goneB e x
theorem keepE_rise {l : List En} (e : En) (h : RiseE l) : RiseE (keepE l e) := List.Pairwise.filter _ h
theorem keepE_len (l : List En) (e : En) : (keepE l e).length ≤ l.length := List.length_filter_le _ _
def PutToE (l : List En) (e : En) (w : World) (r : Ending) (w' : World) : Prop :=
  ∃ (v : Value) (i : Nat), r = .returned v ∧ i ≤ (keepE l e).length ∧ SplitE (keepE l e) e i ∧ Reads 6 cE w' v (insE (keepE l e) i e) ∧ Below w.heap.size w w' ∧
    w'.ownsRow w.heap.size 69 6 v (insE (keepE l e) i e).length ((insE (keepE l e) i e).flatMap cE)
theorem below_grown {B n : Nat} {w w' : World} {v : Value} {xs : List Value} (ho : w.ownsRow B 69 6 v n xs) (hg : w.grownBy w' v.ownBlock) (hB : B ≤ w.heap.size) : Below B w w' :=
  ⟨hg.os, hg.tape, hg.output, hg.size, fun k hk => hg.block k (Nat.lt_of_lt_of_le hk hB) (fun e => by have := (ho.lt k e.symm).1; omega)⟩

set_option maxRecDepth 100000 in
set_option maxHeartbeats 4000000 in
theorem putE_any (w : World) (v : Value) (l : List En) (s : En) (h : Reads 6 cE w v l) (hr : RiseE l) (hz : SizedE l) (hs : s.1.size ≤ 1000000) (hl : l.length ≤ 20000) :
    Calls Tryz.prog 40 #[v, eV s] w (PutToE l s w) := by
  obtain ⟨A, c, rfl⟩ := h.form
  obtain ⟨W0, hW0⟩ : ∃ W0, W0 = w.alloc (.cells #[.string s.1, .int .i64 s.2.1, .int .i64 s.2.2.1, .string s.2.2.2.1, .int .i64 s.2.2.2.2.1, .int .i64 s.2.2.2.2.2] 69) := ⟨_, rfl⟩
  have b0 : Below w.heap.size w W0 := by rw [hW0]; exact (Below.refl _ _).alloc (Nat.le_refl _) _
  obtain ⟨q, hq⟩ : ∃ q, q = w.heap.size := ⟨_, rfl⟩
  have k0 : W0.heap[q]? = some (.cells #[.string s.1, .int .i64 s.2.1, .int .i64 s.2.2.1, .string s.2.2.2.1, .int .i64 s.2.2.2.2.1, .int .i64 s.2.2.2.2.2] 69 (0, 0)) := by rw [hW0, hq]; exact heap_alloc_new w _
  have lq : q < W0.heap.size := by rw [hq, hW0]; simp
  have SS := Lib.hid fun V (hV : Below W0.heap.size W0 V) => (show V.cell? ⟨q, 0, none⟩ = some (.string s.1) ∧ V.cell? ⟨q, 1, none⟩ = some (.int .i64 s.2.1) ∧ V.cell? ⟨q, 2, none⟩ = some (.int .i64 s.2.2.1) ∧ V.cell? ⟨q, 3, none⟩ = some (.string s.2.2.2.1) ∧ V.cell? ⟨q, 4, none⟩ = some (.int .i64 s.2.2.2.2.1) ∧ V.cell? ⟨q, 5, none⟩ = some (.int .i64 s.2.2.2.2.2) from
    have kV := (hV.block q lq).trans k0
    ⟨cell_of_row V q 0 _ _ (0, 0) kV, cell_of_row V q 1 _ _ (0, 0) kV, cell_of_row V q 2 _ _ (0, 0) kV, cell_of_row V q 3 _ _ (0, 0) kV, cell_of_row V q 4 _ _ (0, 0) kV, cell_of_row V q 5 _ _ (0, 0) kV⟩)
  have WO := Lib.hid (withoutE_any W0 W0 W0.heap.size (Below.refl _ _) (Nat.le_refl _) (.slice A l.length c) l 87 (.pointer (some ⟨q, 0, none⟩)) (goneB s) (h.below b0) hz (by omega) enters_put (put_pred W0 _ q s hs k0 lq (Nat.le_refl _)))
  have HRI := Lib.hid (keepE_rise s hr)
  have hkl := keepE_len l s
  have HB0 := Lib.hid b0
  have hsz := b0.size
  clear h hr hz k0 lq b0
  go_enter Tryz.func40, Tryz.ntmps40
  go_wp2_with fail
  rw [← hW0, ← hq]
  clear hW0 hq
  refine WO.out.mono ?_
  rintro e w2 ⟨v2, rfl, hr2, hb2, ho2⟩
  obtain ⟨z0, z1, z2, z3, z4, z5⟩ := SS.out _ hb2
  have SE := Lib.hid (searchE_any w2 v2 (keepE l s) s hr2 HRI.out (by omega))
  have HB2 := Lib.hid hb2
  have HO2 := Lib.hid ho2
  have hs2 := hb2.size
  clear hr2 hb2 ho2 WO
  go_wp2_with fail
  refine SE.out.mono ?_
  rintro e w3 ⟨i, b, rfl, hb3, hi, hsp⟩
  have HSP := Lib.hid hsp
  have HB3 := Lib.hid (HB2.out.trans (hb3.mono hs2))
  have HO3 := Lib.hid (own_keep HO2.out hb3)
  obtain ⟨z0, z1, z2, z3, z4, z5⟩ := SS.out _ HB3.out
  have hs3 := hb3.size
  clear hsp hb3 SE HO2 HB2
  obtain ⟨W4, hW4⟩ : ∃ W4, W4 = w3.alloc (.cells #[.string s.1, .int .i64 s.2.1, .int .i64 s.2.2.1, .string s.2.2.2.1, .int .i64 s.2.2.2.2.1, .int .i64 s.2.2.2.2.2] 69) := ⟨_, rfl⟩
  have b4 : Below w3.heap.size w3 W4 := by rw [hW4]; exact (Below.refl _ _).alloc (Nat.le_refl _) _
  obtain ⟨u, hu⟩ : ∃ u, u = w3.heap.size := ⟨_, rfl⟩
  have k4 : Blk W4 u 69 (cE s).toArray := by rw [hW4, hu]; exact heap_alloc_new w3 _
  have o4 := own_keep HO3.out b4
  have h4 : W0.heap.size ≤ W4.heap.size := by have := b4.size; omega
  have INS := Lib.hid (insertE_any W4 W0.heap.size v2 (keepE l s) s i u o4 hi (by omega) (cE_one _) k4 (fun e => by have := (HO3.out.lt u e).2; omega) h4)
  have HO4 := Lib.hid o4
  have HB4 := Lib.hid (HB3.out.trans (b4.mono (by omega)))
  clear b4 k4 o4 HB3 HO3
  go_wp2_with fail
  rw [← hW4, ← hu]
  clear hW4 hu z0 z1 z2 z3 z4 z5
  refine INS.out.mono ?_
  rintro e w5 ⟨v5, rfl, ho5, hg5, _⟩
  have HO5 := Lib.hid ho5
  have HB5 := Lib.hid (HB4.out.trans (below_grown HO4.out hg5 h4))
  clear ho5 hg5 INS
  go_wp2_with fail
  go_ret
  have o5 : w5.ownsRow W0.heap.size 69 6 v5 (insE (keepE l s) i s).length ((insE (keepE l s) i s).flatMap cE) := HO5.out
  exact ⟨v5, i, rfl, hi, HSP.out, Reads.of_own cE_len o5, HB0.out.trans (HB5.out.mono hsz), own_base o5 hsz⟩
end Go.Proofs.YtdmmjfmjohliiaaGreatDoor
namespace Go.Proofs.YtdmmjfmjohliiaaGreatDoor
open Go Go.RowKit

theorem ec_zero {x y : En} : ec x y = 0 ↔ x.1 = y.1 ∧ x.2.1 = y.2.1 := by
  unfold ec
  by_cases h : cb x.1 y.1 = 0
  · rw [if_neg (by simpa using h), ci_zero]
    exact ⟨fun g => ⟨cb_zero h, g⟩, fun g => g.2⟩
  · rw [if_pos h]
    exact ⟨fun g => absurd g h, fun g => by rw [g.1, cb_self] at h; exact absurd rfl h⟩
theorem ec_flip {x y : En} (h : 0 ≤ ec x y) (hne : ec x y ≠ 0) : ec y x < 0 := by
  rw [ec_neg]
  have hn : ¬ ec x y < 0 := by omega
  rw [ec_neg] at hn
  have hs := cb_swap x.1 y.1
  by_cases h0 : cb x.1 y.1 = 0
  · have he := cb_zero h0
    refine .inr ⟨he.symm, ?_⟩
    rcases Int.lt_trichotomy x.2.1 y.2.1 with g | g | g
    · exact absurd (.inr ⟨he, g⟩) hn
    · exact absurd (ec_zero.2 ⟨he, g⟩) hne
    · exact g
  · refine .inl ?_
    have : ¬ cb x.1 y.1 < 0 := fun g => hn (.inl g)
    omega
theorem riseE_adj : ∀ (l : List En), (∀ (t : Nat) (x y : En), l[t]? = some x → l[t + 1]? = some y → ec x y < 0) → RiseE l
  | [], _ => List.Pairwise.nil
  | [x], _ => List.pairwise_singleton _ _
  | x :: y :: l, h => by
    have ih := riseE_adj (y :: l) fun t a b ha hb => h (t + 1) a b (by simpa using ha) (by simpa using hb)
    have hxy : ec x y < 0 := h 0 x y rfl rfl
    refine List.pairwise_cons.2 ⟨fun z hz => ?_, ih⟩
    rcases List.mem_cons.1 hz with rfl | hz
    · exact hxy
    · exact ec_trans hxy ((List.pairwise_cons.1 ih).1 z hz)
theorem wrE_late {a : List En} {e : En} (h : wrE a e = 0) : lateE a e = false := by
  unfold wrE at h
  by_cases h0 : ownE e = 0
  · rw [if_neg (by simpa using h0)] at h
    cases hl : lateE a e with
    | false => rfl
    | true => rw [hl] at h; simp at h
  · rw [if_pos h0] at h; exact absurd h h0
theorem chkE_rise {l : List En} (h : chkE l = none) : RiseE l := by
  refine riseE_adj l fun t x y hx hy => ?_
  have := wrE_late (chkE_at h hy)
  unfold lateE at this
  rw [List.getLast?_take, if_neg (by omega)] at this
  have e : (l[t + 1 - 1]?).or l.getLast? = some x := by rw [Nat.add_sub_cancel, hx]; rfl
  rw [e] at this
  have := of_decide_eq_false this
  omega
theorem keepE_ne {l : List En} {e x : En} (h : x ∈ keepE l e) : ec x e ≠ 0 := fun h0 => by
  have hg := (List.mem_filter.1 h).2
  have := ec_zero.1 h0
  unfold goneB exB at hg
  simp [this.1, this.2] at hg
theorem putE_rise {l : List En} {e : En} {i : Nat} (hr : RiseE l) (hs : SplitE (keepE l e) e i) : RiseE (insE (keepE l e) i e) := by
  have hk := keepE_rise e hr
  have H1 : ∀ x ∈ (keepE l e).take i, ec x e < 0 := fun x hx => by
    obtain ⟨t, ht⟩ := List.getElem?_of_mem hx
    rw [List.getElem?_take] at ht
    split at ht
    · exact hs.1 t x (by assumption) ht
    · cases ht
  have H2 : ∀ x ∈ (keepE l e).drop i, ec e x < 0 := fun x hx => by
    obtain ⟨t, ht⟩ := List.getElem?_of_mem hx
    rw [List.getElem?_drop] at ht
    exact ec_flip (hs.2 (i + t) x (by omega) ht) (keepE_ne (List.mem_of_getElem? ht))
  unfold RiseE insE at *
  rw [List.pairwise_append]
  refine ⟨hk.sublist (List.take_sublist _ _), List.pairwise_cons.2 ⟨H2, hk.sublist (List.drop_sublist _ _)⟩, fun a ha b hb => ?_⟩
  rcases List.mem_cons.1 hb with rfl | hb
  · exact H1 a ha
  · exact ec_trans (H1 a ha) (H2 b hb)
theorem putE_len {l : List En} {e : En} {i : Nat} (hi : i ≤ (keepE l e).length) : (insE (keepE l e) i e).length ≤ l.length + 1 := by
  rw [insE_length _ _ _ hi]
  have := keepE_len l e
  omega
theorem putE_sized {l : List En} {e : En} {i : Nat} (hl : SizedDE l) (he : e.1.size ≤ 1000000 ∧ e.2.2.2.1.size ≤ 1000000) : SizedDE (insE (keepE l e) i e) := fun x hx => by
  unfold insE at hx
  rcases List.mem_append.1 hx with h | h
  · exact hl x (List.mem_filter.1 (List.mem_of_mem_take h)).1
  · rcases List.mem_cons.1 h with rfl | h
    · exact he
    · exact hl x (List.mem_filter.1 (List.mem_of_mem_drop h)).1
end Go.Proofs.YtdmmjfmjohliiaaGreatDoor
namespace Go.Proofs.YtdmmjfmjohliiaaGreatDoor
open Go Go.RowKit

def stillE (e : En) : En := (e.1, e.2.1, e.2.2.1, e.2.2.2.1, 0, 0)
set_option maxHeartbeats 1000000 in
theorem still_any (e : En) (w : World) : Calls Tryz.prog 72 #[eV e] w fun r w' => r = .returned (eV (stillE e)) ∧ Below w.heap.size w w' := by
  obtain ⟨p, st, m, d, t, z⟩ := e
  go_enter Tryz.func72, Tryz.ntmps72
  go_wp2
  exact bodyPost_ret (results_cell_row (fn := Tryz.f72) rfl _ _ (w.heap.size + 1) 69 #[.string p, .int .i64 st, .int .i64 m, .string d, .int .i64 0, .int .i64 0] (0, 0) _ rfl (heap_alloc2_new w _ _) Tryz.underlying69 rfl (by simpa using sizeEn)) rfl ⟨rfl, ((Below.refl _ _).alloc (Nat.le_refl _) _).alloc (by simp) _⟩
end Go.Proofs.YtdmmjfmjohliiaaGreatDoor
namespace Go.Proofs.YtdmmjfmjohliiaaGreatDoor
open Go Go.RowKit

theorem tl_iff (p q : ByteArray) : (p.toList = q.toList) = (p = q) := propext ⟨tl_eq, fun h => by rw [h]⟩
theorem same_val (p : ByteArray) (st m : Int) (d : ByteArray) (t z : Int) (p' : ByteArray) (st' m' : Int) (d' : ByteArray) (t' z' : Int) (w' : World) :
    (if (stillE (p, st, m, d, t, z)).fst.toList = (stillE (p', st', m', d', t', z')).fst.toList then (if (stillE (p, st, m, d, t, z)).snd.fst = (stillE (p', st', m', d', t', z')).snd.fst then (if (stillE (p, st, m, d, t, z)).snd.snd.fst = (stillE (p', st', m', d', t', z')).snd.snd.fst then (if (stillE (p, st, m, d, t, z)).snd.snd.snd.fst.toList = (stillE (p', st', m', d', t', z')).snd.snd.snd.fst.toList then (if (stillE (p, st, m, d, t, z)).snd.snd.snd.snd.fst = (stillE (p', st', m', d', t', z')).snd.snd.snd.snd.fst then (if (stillE (p, st, m, d, t, z)).snd.snd.snd.snd.snd = (stillE (p', st', m', d', t', z')).snd.snd.snd.snd.snd then Result.ok (Next.value (Value.bool true)) w' else Result.ok (Next.value (Value.bool false)) w') else Result.ok (Next.value (Value.bool false)) w') else Result.ok (Next.value (Value.bool false)) w') else Result.ok (Next.value (Value.bool false)) w') else Result.ok (Next.value (Value.bool false)) w') else Result.ok (Next.value (Value.bool false)) w') = Result.ok (Next.value (Value.bool (decide (stillE (p, st, m, d, t, z) = stillE (p', st', m', d', t', z'))))) w' := by
  simp only [stillE, tl_iff, Prod.mk.injEq]
  repeat' split
  all_goals simp_all

set_option maxRecDepth 100000 in
set_option maxHeartbeats 4000000 in
theorem same1_any (x y : En) (w : World) : Calls Tryz.prog 71 #[eV x, eV y] w (FlagE (decide (stillE x = stillE y)) w) := by
  obtain ⟨p, st, m, d, t, z⟩ := x
  obtain ⟨p', st', m', d', t', z'⟩ := y
  obtain ⟨W2, hW2⟩ : ∃ W2, W2 = (w.alloc (.cells #[.string p, .int .i64 st, .int .i64 m, .string d, .int .i64 t, .int .i64 z] 69)).alloc (.cells #[.string p', .int .i64 st', .int .i64 m', .string d', .int .i64 t', .int .i64 z'] 69) := ⟨_, rfl⟩
  have B2 := Lib.hid (show Below w.heap.size w W2 by rw [hW2]; exact ((Below.refl _ _).alloc (Nat.le_refl _) _).alloc (by simp) _)
  obtain ⟨A, hA⟩ : ∃ A, A = w.heap.size := ⟨_, rfl⟩
  obtain ⟨B, hB⟩ : ∃ B, B = w.heap.size + 1 := ⟨_, rfl⟩
  have kA : W2.heap[A]? = some (.cells #[.string p, .int .i64 st, .int .i64 m, .string d, .int .i64 t, .int .i64 z] 69 (0, 0)) := by rw [hW2, hA]; exact heap_alloc2_old w _ _
  have kB : W2.heap[B]? = some (.cells #[.string p', .int .i64 st', .int .i64 m', .string d', .int .i64 t', .int .i64 z'] 69 (0, 0)) := by rw [hW2, hB]; exact heap_alloc2_new w _ _
  have lA : A < W2.heap.size := by rw [hW2, hA]; simp; omega
  have lB : B < W2.heap.size := by rw [hW2, hB]; simp
  have HSS : Hid (∀ W, Below W2.heap.size W2 W → (fun w' => (w'.cell? ⟨A, 0, none⟩ = some (.string p) ∧ w'.cell? ⟨A, 1, none⟩ = some (.int .i64 st) ∧ w'.cell? ⟨A, 2, none⟩ = some (.int .i64 m) ∧ w'.cell? ⟨A, 3, none⟩ = some (.string d) ∧ w'.cell? ⟨A, 4, none⟩ = some (.int .i64 t) ∧ w'.cell? ⟨A, 5, none⟩ = some (.int .i64 z)) ∧ (w'.cell? ⟨B, 0, none⟩ = some (.string p') ∧ w'.cell? ⟨B, 1, none⟩ = some (.int .i64 st') ∧ w'.cell? ⟨B, 2, none⟩ = some (.int .i64 m') ∧ w'.cell? ⟨B, 3, none⟩ = some (.string d') ∧ w'.cell? ⟨B, 4, none⟩ = some (.int .i64 t') ∧ w'.cell? ⟨B, 5, none⟩ = some (.int .i64 z'))) W) := Lib.hid fun W hW =>
    have qA := (hW.block A lA).trans kA
    have qB := (hW.block B lB).trans kB
    ⟨⟨cell_of_row W A 0 _ _ (0, 0) qA, cell_of_row W A 1 _ _ (0, 0) qA, cell_of_row W A 2 _ _ (0, 0) qA, cell_of_row W A 3 _ _ (0, 0) qA, cell_of_row W A 4 _ _ (0, 0) qA, cell_of_row W A 5 _ _ (0, 0) qA⟩,
      ⟨cell_of_row W B 0 _ _ (0, 0) qB, cell_of_row W B 1 _ _ (0, 0) qB, cell_of_row W B 2 _ _ (0, 0) qB, cell_of_row W B 3 _ _ (0, 0) qB, cell_of_row W B 4 _ _ (0, 0) qB, cell_of_row W B 5 _ _ (0, 0) qB⟩⟩
  have ST := Lib.hid fun e W => still_any e W
  have b2s := B2.out.size
  clear kA kB
  go_enter Tryz.func71, Tryz.ntmps71
  go_wp2_with fail
  rw [← hW2, ← hB, ← hA]
  clear hW2 hB hA
  refine wp_region_held_drew (S := fun w' => (w'.cell? ⟨A, 0, none⟩ = some (.string p) ∧ w'.cell? ⟨A, 1, none⟩ = some (.int .i64 st) ∧ w'.cell? ⟨A, 2, none⟩ = some (.int .i64 m) ∧ w'.cell? ⟨A, 3, none⟩ = some (.string d) ∧ w'.cell? ⟨A, 4, none⟩ = some (.int .i64 t) ∧ w'.cell? ⟨A, 5, none⟩ = some (.int .i64 z)) ∧ (w'.cell? ⟨B, 0, none⟩ = some (.string p') ∧ w'.cell? ⟨B, 1, none⟩ = some (.int .i64 st') ∧ w'.cell? ⟨B, 2, none⟩ = some (.int .i64 m') ∧ w'.cell? ⟨B, 3, none⟩ = some (.string d') ∧ w'.cell? ⟨B, 4, none⟩ = some (.int .i64 t') ∧ w'.cell? ⟨B, 5, none⟩ = some (.int .i64 z'))) (by kernel_rfl) (HSS.out W2.drew (Below.refl _ _).drew) (fun hHeld => ?_)
  refine wpAnyH_take (i := 0) (oi := { dst := some 5, op := Op.load 69 (Operand.tmp 2), type := 69, pos := "index.go:170", after := #[], guard := none }) (v := ?vp0) rfl (by kernel_rfl) (by kernel_rfl) (by kernel_rfl) (fun _ _ _ h => h) (Or.inl ⟨by rfl, ?yp0⟩) (by assumption) ?rp0
  case yp0 => (intro w' hSw; (try dsimp only at hSw); go_simp; try with_reducible rfl)
  try simp only [Act.put, List.setIfInBounds_toArray, List.set_cons_zero, List.set_cons_succ]
  refine wpAnyH_take (i := 2) (oi := { dst := some 7, op := Op.load 69 (Operand.tmp 3), type := 69, pos := "index.go:170", after := #[], guard := none }) (v := ?vp2) rfl (by kernel_rfl) (by kernel_rfl) (by kernel_rfl) (fun _ _ _ h => h) (Or.inl ⟨by rfl, ?yp2⟩) (by assumption) ?rp2
  case yp2 => (intro w' hSw; (try dsimp only at hSw); go_simp; try with_reducible rfl)
  try simp only [Act.put, List.setIfInBounds_toArray, List.set_cons_zero, List.set_cons_succ]
  refine wpAnyH_ready (rs := [1]) (by kernel_rfl) (by simp) ?_
  refine AllReadyH.cons (o := { dst := some 6, op := Op.call { callee := Callee.value (Operand.func 72), args := #[Operand.tmp 5], argTypes := #[69] }, type := 69, pos := "index.go:170", after := #[{ on := 0, ground := Ground.data }], guard := none }) rfl (fun K hK => ?_) AllReadyH.nil
  go_simp
  refine (ST.out (p, st, m, d, t, z) _).mono ?_
  rintro e w3 ⟨rfl, b3⟩
  have hb3 : Below W2.heap.size W2 w3 := ((Below.refl _ _).drew).trans b3
  go_wp2_with fail
  refine hK.out _ _ (HSS.out _ hb3) (fun hHeldp1 => ?_)
  clear hK K hHeld
  try simp only [Act.put, List.setIfInBounds_toArray, List.set_cons_zero, List.set_cons_succ]
  refine wpAnyH_ready (rs := [3]) (by kernel_rfl) (by simp) ?_
  refine AllReadyH.cons (o := { dst := some 8, op := Op.call { callee := Callee.value (Operand.func 72), args := #[Operand.tmp 7], argTypes := #[69] }, type := 69, pos := "index.go:170", after := #[{ on := 2, ground := Ground.data }, { on := 1, ground := Ground.chain }], guard := none }) rfl (fun K hK => ?_) AllReadyH.nil
  go_simp
  refine (ST.out (p', st', m', d', t', z') _).mono ?_
  rintro e w4 ⟨rfl, b4⟩
  have hb4 : Below W2.heap.size W2 w4 := hb3.trans (b4.mono hb3.size)
  go_wp2_with fail
  refine hK.out _ _ (HSS.out _ hb4) (fun hHeldp3 => ?_)
  clear hK K hHeldp1
  try simp only [Act.put, List.setIfInBounds_toArray, List.set_cons_zero, List.set_cons_succ]
  refine wpAnyH_take (i := 4) (oi := { dst := some 9, op := Op.binOp BinOp.eql 69 (Operand.tmp 6) (Operand.tmp 8) 69, type := 4, pos := "index.go:170", after := #[{ on := 1, ground := Ground.data }, { on := 3, ground := Ground.data }], guard := none }) (v := .bool (decide (stillE (p, st, m, d, t, z) = stillE (p', st', m', d', t', z')))) rfl (by kernel_rfl) (by kernel_rfl) (by kernel_rfl) (fun _ _ _ h => h) (Or.inl ⟨by rfl, ?yp4⟩) (by assumption) ?rp4
  case yp4 => (intro w' hSw; (try dsimp only at hSw); go_simp; exact same_val _ _ _ _ _ _ _ _ _ _ _ _ _)
  try simp only [Act.put, List.setIfInBounds_toArray, List.set_cons_zero, List.set_cons_succ]
  refine wpAnyH_take (i := 5) (oi := { dst := some 4, op := Op.assign (Operand.tmp 9), type := 4, pos := "index.go:170", after := #[{ on := 4, ground := Ground.data }, { on := 3, ground := Ground.chain }, { on := 0, ground := Ground.phase }, { on := 1, ground := Ground.phase }, { on := 2, ground := Ground.phase }, { on := 3, ground := Ground.phase }, { on := 4, ground := Ground.phase }], guard := none }) (v := ?vp5) rfl (by kernel_rfl) (by kernel_rfl) (by kernel_rfl) (fun _ _ _ h => h) (Or.inl ⟨by rfl, ?yp5⟩) (by assumption) ?rp5
  case yp5 => (intro w' hSw; (try dsimp only at hSw); go_simp; try with_reducible rfl)
  try simp only [Act.put, List.setIfInBounds_toArray, List.set_cons_zero, List.set_cons_succ]
  refine wpAnyH_done (by kernel_rfl) ?_ _
  go_wp2_with fail
  go_ret
  refine ⟨ret_b ?_, B2.out.trans (hb4.mono b2s)⟩
  rfl
end Go.Proofs.YtdmmjfmjohliiaaGreatDoor
namespace Go.Proofs.YtdmmjfmjohliiaaGreatDoor
open Go Go.RowKit

def EqTo (a b : List En) (w : World) (e : Ending) (w' : World) : Prop := FlagE (decide (a.map stillE = b.map stillE)) w e w'
set_option maxRecDepth 100000 in
set_option maxHeartbeats 4000000 in
theorem equalE_any (w : World) (v u : Value) (a b : List En) (h : Reads 6 cE w v a) (g : Reads 6 cE w u b) :
    Calls Tryz.prog 70 #[v, u, .func (.func 71) #[] #[]] w (EqTo a b w) := by
  obtain ⟨A, c, rfl⟩ := h.form
  obtain ⟨B, d, rfl⟩ := g.form
  have hn := h.len
  have gn := g.len
  have hm1 : a.length ≤ 9223372036854775807 := by have := hn.2; unfold maxLen at this; omega
  have hm2 : b.length ≤ 9223372036854775807 := by have := gn.2; unfold maxLen at this; omega
  have HA := Lib.hid h
  have HB := Lib.hid g
  have SM := Lib.hid fun x y W => same1_any x y W
  clear h g hn gn
  by_cases hnm : a.length = b.length
  · have hi0 : (a.length : Int) = (b.length : Int) := by omega
    have HN := Lib.hid hnm
    clear hnm
    go_enter Tryz.func70, Tryz.ntmps70
    go_wp2
    go_loopw [7, 8, 9, 17] (fun _ _ _ s17 wr => ∃ k : Nat, k ≤ b.length ∧ s17 = .int .i64 k ∧ Below w.heap.size w wr ∧ Hid (∀ i, i < k → (a.map stillE)[i]? = (b.map stillE)[i]?)) (fun _ _ _ s17 _ => b.length - (intOf s17).toNat)
    case atStart => exact ⟨0, Nat.zero_le _, rfl, Below.refl _ _, Lib.hid (fun i hi => absurd hi (Nat.not_lt_zero _))⟩
    case round =>
      obtain ⟨k, hk, rfl, hb, hp⟩ := hrel
      by_cases hlt : k < b.length
      · obtain ⟨x, hx⟩ : ∃ x, a[k]? = some x := ⟨_, List.getElem?_eq_getElem (by rw [HN.out]; exact hlt)⟩
        obtain ⟨y, hy⟩ : ∃ y, b[k]? = some y := ⟨_, List.getElem?_eq_getElem hlt⟩
        obtain ⟨ad, rfl, c0, c1, c2, c3, c4, c5⟩ := Ents.at_ (HA.out.below hb) hx
        obtain ⟨W1, hW1⟩ : ∃ W1, W1 = wr.alloc (.cells #[.string x.1, .int .i64 x.2.1, .int .i64 x.2.2.1, .string x.2.2.2.1, .int .i64 x.2.2.2.2.1, .int .i64 x.2.2.2.2.2] 69) := ⟨_, rfl⟩
        have b1 : Below wr.heap.size wr W1 := by rw [hW1]; exact (Below.refl _ _).alloc (Nat.le_refl _) _
        obtain ⟨ad2, rfl, d0, d1, d2, d3, d4, d5⟩ := Ents.at_ (HB.out.below (hb.trans (b1.mono hb.size))) hy
        rw [hW1] at d0 d1 d2 d3 d4 d5
        have HB1 := Lib.hid (hb.trans (b1.mono hb.size))
        have HX := Lib.hid hx
        have HY := Lib.hid hy
        have k0 : (0 : Int) ≤ (k : Int) := Int.natCast_nonneg _
        have k1 : (k : Int) < (b.length : Int) := by omega
        have HNE := Lib.hid (show stillE x ≠ stillE y → decide (a.map stillE = b.map stillE) = false from fun hne => decide_eq_false fun e => by
          have h1 : (a.map stillE)[k]? = some (stillE x) := by rw [List.getElem?_map, hx]; rfl
          have h2 : (b.map stillE)[k]? = some (stillE y) := by rw [List.getElem?_map, hy]; rfl
          rw [e, h2] at h1
          exact hne (Option.some.inj h1).symm)
        clear hx hy b1
        go_wp2_with fail
        refine (SM.out x y _).mono ?_
        rintro e w3 ⟨rfl, b3⟩
        have HB3 := Lib.hid (HB1.out.trans ((Below.trans (show Below W1.heap.size W1 (W1.alloc (.cells #[.string y.1, .int .i64 y.2.1, .int .i64 y.2.2.1, .string y.2.2.2.1, .int .i64 y.2.2.2.2.1, .int .i64 y.2.2.2.2.2] 69)) from (Below.refl _ _).alloc (Nat.le_refl _) _) (by rw [hW1]; exact b3.mono (by simp))).mono HB1.out.size))
        clear b3 hb c0 c1 c2 c3 c4 c5 d0 d1 d2 d3 d4 d5
        by_cases hxy : stillE x = stillE y
        · rw [decide_eq_true hxy]
          have HXY := Lib.hid hxy
          clear hxy
          go_wp2_with fail
          go_roundw
          case rel => exact ⟨k + 1, by omega, by go_num, HB3.out, Lib.hid (fun i hi => by
            rcases Nat.lt_or_ge i k with h1 | h1
            · exact hp.out i h1
            · obtain rfl : i = k := by omega
              rw [List.getElem?_map, List.getElem?_map, HX.out, HY.out]
              exact congrArg some HXY.out)⟩
          case measure => simp [intOf]; omega
        · have HC := Lib.hid (HNE.out hxy)
          rw [decide_eq_false hxy]
          clear hxy
          go_wp2_with fail
          go_ret
          exact ⟨ret_b HC.out.symm, HB3.out⟩
      · obtain rfl : k = b.length := by omega
        have HE := Lib.hid (show decide (a.map stillE = b.map stillE) = true from decide_eq_true (prefix_all hp.out (by rw [List.length_map, HN.out]) (by rw [List.length_map])))
        go_wp2_with fail
        go_ret
        exact ⟨ret_b HE.out.symm, hb⟩
  · have hi0 : ¬ (a.length : Int) = (b.length : Int) := by omega
    have HE := Lib.hid (show decide (a.map stillE = b.map stillE) = false from decide_eq_false fun e => hnm (by have := congrArg List.length e; simpa using this))
    go_enter Tryz.func70, Tryz.ntmps70
    go_wp2
    go_ret
    exact ⟨ret_b HE.out.symm, Below.refl _ _⟩

set_option maxHeartbeats 1000000 in
theorem sameE_any (w : World) (v u : Value) (a b : List En) (h : Reads 6 cE w v a) (g : Reads 6 cE w u b) :
    Calls Tryz.prog 26 #[v, u] w (EqTo a b w) := by
  have S := Lib.hid (equalE_any w v u a b h g)
  obtain ⟨A, c, rfl⟩ := h.form
  obtain ⟨B, d, rfl⟩ := g.form
  clear h g
  go_enter Tryz.func26, Tryz.ntmps26
  go_wp2_with fail
  refine S.out.mono ?_
  rintro e w' ⟨rfl, hb⟩
  go_wp2_with fail
  go_ret
  exact ⟨rfl, hb⟩
end Go.Proofs.YtdmmjfmjohliiaaGreatDoor
