/-
  slices.DeleteFunc on a tree of the call's own; (Row).without, Cut, Clear.
-/
import Derived.Test.YtplleaimmmanhaaDoorFIdx
namespace Go.Proofs.YtplleaimmmanhaaDoor
open Go Go.RowKit

theorem flat_set : ∀ (m : List Fl) (i : Nat) (x : Fl), i < m.length → (((m.flatMap cF).set (i * 3) (.string x.1)).set (i * 3 + 1) (.int .i64 x.2.1)).set (i * 3 + 2) (.string x.2.2) = (m.set i x).flatMap cF
  | [], _, _, h => by simp at h
  | y :: r, 0, x, _ => by simp [cF]
  | y :: r, i + 1, x, h => by
    have ih := flat_set r i x (by simpa using h)
    rw [List.set_cons_succ, List.flatMap_cons, List.flatMap_cons, ← ih]
    have hc : (cF y).length = 3 := rfl
    rw [List.set_append_right _ _ (by rw [hc]; omega), List.set_append_right _ _ (by rw [hc]; omega), List.set_append_right _ _ (by rw [hc]; omega), hc]
    congr 1
    rw [show (i + 1) * 3 - 3 = i * 3 by omega, show (i + 1) * 3 + 1 - 3 = i * 3 + 1 by omega, show (i + 1) * 3 + 2 - 3 = i * 3 + 2 by omega]

def RowOwn (B g cap n : Nat) (m : List Fl) (W : World) : Prop := W.ownsRow B 42 3 (.slice (some ⟨g, 0, none⟩) n cap) n (m.flatMap cF)
theorem RowOwn.set {B g cap n : Nat} {m : List Fl} {W : World} (h : RowOwn B g cap n m W) (hm : m.length = n) (i : Nat) (hi : i < n) (x : Fl) :
    RowOwn B g cap n (m.set i x) (((W.setCell ⟨g, i * 3, none⟩ (.string x.1)).setCell ⟨g, i * 3 + 1, none⟩ (.int .i64 x.2.1)).setCell ⟨g, i * 3 + 2, none⟩ (.string x.2.2)) := by
  unfold RowOwn
  rw [← flat_set m i x (by omega)]
  have h1 := (World.ownsRow.stored h (i * 3) (.string x.1)).1
  have h2 := (World.ownsRow.stored h1 (i * 3 + 1) (.int .i64 x.2.1)).1
  exact (World.ownsRow.stored h2 (i * 3 + 2) (.string x.2.2)).1
theorem RowOwn.below {B g cap n : Nat} {m : List Fl} {W W' : World} (h : RowOwn B g cap n m W) (hb : Below W.heap.size W W') : RowOwn B g cap n m W' := own_keep h hb
theorem RowOwn.cellAt {B g cap n : Nat} {m : List Fl} {W : World} (h : RowOwn B g cap n m W) {i : Nat} {x : Fl} (hx : m[i]? = some x) :
    W.cell? ⟨g, i * 3, none⟩ = some (.string x.1) ∧ W.cell? ⟨g, i * 3 + 1, none⟩ = some (.int .i64 x.2.1) ∧ W.cell? ⟨g, i * 3 + 2, none⟩ = some (.string x.2.2) := by
  have key : ∀ j u, (cF x)[j]? = some u → W.cell? ⟨g, i * 3 + j, none⟩ = some u := fun j u hu => by
    have hj : j < 3 := (List.getElem?_eq_some_iff.1 hu).1
    have := World.ownsRow.cells h rfl (i * 3 + j) u (by rw [flat_at cF_len m i j x hx hj]; exact hu)
    rwa [add_zero_addr] at this
  exact ⟨key 0 _ rfl, key 1 _ rfl, key 2 _ rfl⟩
theorem RowOwn.frozenAt {B g cap n : Nat} {m : List Fl} {W : World} (h : RowOwn B g cap n m W) (j : Nat) : W.frozen? ⟨g, j, none⟩ = false := World.ownsRow.frozenAt h j
theorem RowOwn.isCell {B g cap n : Nat} {m : List Fl} {W : World} (h : RowOwn B g cap n m W) (j : Nat) (hj : j < n * 3) : (W.cell? ⟨g, j, none⟩).isSome = true := by
  rw [World.ownsRow.cellAt h j hj, List.getElem?_eq_getElem (by rw [h.1]; exact hj)]; rfl

/-- The cells of n files that are none. -/
def zs (n : Nat) : List Value := (Builtin.zeroCells #[.string ⟨#[]⟩, .int .i64 0, .string ⟨#[]⟩] n).toList
theorem zs_len (n : Nat) : (zs n).length = n * 3 := by simp [zs, Builtin.zeroCells]
theorem zs_one (n : Nat) : ∀ u ∈ zs n, u.oneCell' = true := fun u hu => by
  simp [zs, Builtin.zeroCells] at hu
  obtain ⟨i, _, rfl⟩ := hu
  have : i % 3 = 0 ∨ i % 3 = 1 ∨ i % 3 = 2 := by omega
  rcases this with h | h | h <;> rw [h] <;> rfl
theorem run_clear_files (w : World) (ty : TypeId) (b o n c : Nat) (hn : 0 < n) (hc : ∀ j, j < n * 3 → (w.cell? ⟨b, o + j, none⟩).isSome = true) (hf : ∀ j, j < n * 3 → w.frozen? ⟨b, o + j, none⟩ = false) :
    (Builtin.clear_ #[23] ty #[.slice (some ⟨b, o, none⟩) n c]).run Tryd.prog w = .ok (.tuple #[]) (w.setCells b o (zs n)) := by
  have hst := run_storeCells_cells (P := Tryd.prog) b o (zs n) 0 w (by rw [zs_len]; simpa using hc) (by rw [zs_len]; simpa using hf) (zs_one n)
  simp only [Nat.add_zero] at hst
  obtain ⟨m, rfl⟩ : ∃ m, n = m + 1 := ⟨n - 1, by omega⟩
  unfold zs at hst ⊢
  simp [Builtin.clear_, run_underlying Tryd.underlying23, Tryd.zeroValue42, Value.cells, hst]

/-- The files ahead, where those behind are cleared. -/
theorem reads_front {B g cap n : Nat} {m : List Fl} {W : World} (h : RowOwn B g cap n m W) (hm : m.length = n) (i : Nat) (hi : i ≤ n) (k : Nat) :
    Reads 3 cF (W.setCells g (i * 3) (zs k)) (.slice (some ⟨g, 0, none⟩) i cap) (m.take i) := by
  have hl : (m.take i).length = i := by rw [List.length_take]; omega
  have h2 := own_len h
  refine ⟨some ⟨g, 0, none⟩, cap, by rw [hl], by omega, h2.2.2, (fun e => by cases e), fun ad ha t x hx j u hu => ?_⟩
  obtain rfl := Option.some.inj ha
  have ht : t < i := by have := (List.getElem?_eq_some_iff.1 hx).1; omega
  have hj : j < 3 := (List.getElem?_eq_some_iff.1 hu).1
  have hx' : m[t]? = some x := by rwa [List.getElem?_take, if_pos ht] at hx
  have hc := World.ownsRow.cells h rfl (t * 3 + j) u (by rw [flat_at cF_len m t j x hx' hj]; exact hu)
  rw [add_zero_addr] at hc
  have := (World.cell?_setCells_out g (zs k) (i * 3) W ⟨g, t * 3 + j, none⟩ (fun _ _ => .inl (by show t * 3 + j < i * 3; omega))).trans hc
  cases j with
  | zero => unfold adr; rw [add_zero_addr]; exact this
  | succ j => unfold adr; rw [add_zero_addr]; exact this
theorem below_setCells {N g : Nat} (hg : N ≤ g) {a : World} : ∀ (vs : List Value) (o : Nat) (w : World), Below N a w → Below N a (w.setCells g o vs)
  | [], _, _, h => h
  | v :: r, o, _, h => below_setCells hg r (o + 1) _ (h.setCell (p := ⟨g, o, none⟩) hg v)

def KeptTo (B : Nat) (w0 : World) (l : List Fl) (e : Ending) (w' : World) : Prop := ∃ v, e = .returned v ∧ Reads 3 cF w' v l ∧ Below B w0 w'
theorem keep_snoc {p : Fl → Bool} {l : List Fl} {j : Nat} {x : Fl} (hx : l[j]? = some x) : (l.take (j + 1)).filter (fun x => !p x) = (l.take j).filter (fun x => !p x) ++ (if p x then [] else [x]) := by
  rw [take_snoc hx, List.filter_append]
  cases h : p x <;> simp [h]
theorem any_keep {p : Fl → Bool} {l : List Fl} (h : l.any p = false) : l.filter (fun x => !p x) = l := List.filter_eq_self.2 fun x hx => by
  have : p x = false := by
    rw [Bool.eq_false_iff]
    intro e
    have := List.any_eq_true.2 ⟨x, hx, e⟩
    rw [h] at this; cases this
  simp [this]
theorem take_set_snoc {m : List Fl} {i : Nat} {x : Fl} (hi : i < m.length) : (m.set i x).take (i + 1) = m.take i ++ [x] := by
  have h : (m.set i x)[i]? = some x := by simp [hi]
  rw [take_snoc h, List.take_set_of_le (Nat.le_refl i)]
theorem drop_set {m : List Fl} {i j : Nat} {x : Fl} (hij : i < j) : (m.set i x).drop j = m.drop j := List.drop_set_of_lt hij

set_option maxRecDepth 100000 in
set_option maxHeartbeats 4000000 in
theorem deleteF_any (w0 w : World) (B : Nat) (hb : Below B w0 w) (hB : B ≤ w.heap.size) (v : Value) (l : List Fl) (g : Nat) (c : Value) (p : Fl → Bool) (ho : w.ownsRow B 42 3 v l.length (l.flatMap cF)) (hs : Sized l) (hl : l.length ≤ 100000)
    (eg : ∀ args w, (callFunc g args).run Tryd.prog w = .ok (.enter g args) w) (hp : PB B w0 g c p) :
    Calls Tryd.prog 68 #[v, .func (.func g) #[] #[c]] w (KeptTo B w0 (l.filter fun x => !p x)) := by
  have R := Lib.hid (Reads.of_own cF_len ho)
  have S := Lib.hid (indexF_any w0 w B hb hB v l g c p R.out hs hl eg hp)
  have HP := Lib.hid hp
  have HS := Lib.hid hs
  have HO := Lib.hid ho
  obtain ⟨A, cap, rfl⟩ := own_form ho
  clear ho hp hs
  go_enter Tryd.func68, Tryd.ntmps68
  go_wp2_with fail
  refine S.out.mono ?_
  rintro e w1 ⟨n, rfl, hb1, hn⟩
  have B1 := hb.trans (hb1.mono hB)
  rcases hn with ⟨rfl, hn⟩ | ⟨i0, x0, rfl, hx0, hpx, hno⟩
  · have HN := Lib.hid hn
    clear hn
    go_wp2_with fail
    go_ret
    exact ⟨_, rfl, by rw [any_keep HN.out]; exact R.out.below hb1, B1⟩
  · have hi0 : i0 < l.length := (List.getElem?_eq_some_iff.1 hx0).1
    obtain ⟨gb, rfl, hgB⟩ : ∃ gb, A = some ⟨gb, 0, none⟩ ∧ B ≤ gb := by
      rcases HO.out.2 with ⟨_, h0⟩ | ⟨gb, cap', cur, hv, hgB, _⟩
      · omega
      · injection hv with e1; exact ⟨gb, e1, hgB⟩
    have K0 : Hid ((l.take (i0 + 1)).filter (fun x => !p x) = l.take i0) := Lib.hid (by rw [keep_snoc hx0, any_keep hno, hpx]; simp)
    have O1 : Hid (RowOwn B gb cap l.length l w1) := Lib.hid (own_keep HO.out hb1)
    have hm1 : ((i0 : Int) == -1) = false := by rw [beq_eq_false_iff_ne]; omega
    clear hx0 hpx hno S R HO
    go_wp2_with fail
    go_loopw [5, 6, 7] (fun s5 s6 _ wr => ∃ (i j : Nat) (m : List Fl), s5 = .int .i64 i ∧ s6 = .int .i64 j ∧ i < j ∧ j ≤ l.length ∧ Below B w0 wr ∧ B ≤ wr.heap.size ∧ Hid (m.length = l.length) ∧ Hid (RowOwn B gb cap l.length m wr) ∧ Hid (m.take i = (l.take j).filter (fun x => !p x)) ∧ Hid (m.drop j = l.drop j)) (fun _ s6 _ _ => l.length - (intOf s6).toNat)
    case atStart => exact ⟨i0, i0 + 1, l, rfl, by go_num, by omega, by omega, B1, by have := B1.size; have := hb1.size; omega, Lib.hid rfl, O1, Lib.hid K0.out.symm, Lib.hid rfl⟩
    case round =>
      obtain ⟨i, j, m, rfl, rfl, hij, hj, hbr, hBr, HM, OM, HT, HD⟩ := hrel
      by_cases hlt : j < l.length
      · obtain ⟨x, hx⟩ : ∃ x, l[j]? = some x := ⟨_, List.getElem?_eq_getElem hlt⟩
        have hxm : m[j]? = some x := by
          have h1 : (m.drop j)[0]? = (l.drop j)[0]? := by rw [HD.out]
          rw [List.getElem?_drop, List.getElem?_drop] at h1
          simpa [hx] using h1
        obtain ⟨c0, c1, c2⟩ := OM.out.cellAt hxm
        have HK := Lib.hid (keep_snoc (p := p) hx)
        have hsx := HS.out.at_ hx
        clear hx hxm
        obtain ⟨W2, hW2⟩ : ∃ W2, W2 = wr.alloc (.cells #[.string x.1, .int .i64 x.2.1, .string x.2.2] 42) := ⟨_, rfl⟩
        have b2 : Below wr.heap.size wr W2 := by rw [hW2]; exact (Below.refl _ _).alloc (Nat.le_refl _) _
        have BW2 : Below B w0 W2 := hbr.trans (b2.mono hBr)
        have hcall := HP.out W2 x BW2 hsx
        obtain ⟨q, hQ⟩ : ∃ q, q = wr.heap.size := ⟨_, rfl⟩
        have k2 : W2.heap[q]? = some (.cells #[.string x.1, .int .i64 x.2.1, .string x.2.2] 42 (0, 0)) := by rw [hW2, hQ]; exact heap_alloc_new wr _
        have hq2 : q < W2.heap.size := by rw [hW2, hQ]; simp
        have O2 := Lib.hid (OM.out.below b2)
        have hs2 : B ≤ W2.heap.size := Nat.le_trans hBr b2.size
        have HK2 := Lib.hid k2
        have HBW2 := Lib.hid BW2
        go_wp2_with fail
        rw [← hW2, ← hQ]
        clear hW2 hQ b2 BW2 k2 c0 c1 c2 hbr hBr OM
        cases hpx : p x with
        | true =>
          rw [hpx] at hcall
          have HPX := Lib.hid hpx
          clear hpx
          refine hcall.mono ?_
          rintro e w3 ⟨rfl, b3⟩
          go_wp2_with fail
          go_roundw
          case rel => exact ⟨i, j + 1, m, rfl, by go_num, by omega, by omega, HBW2.out.trans (b3.mono hs2), by have := b3.size; omega, HM, Lib.hid (O2.out.below b3), Lib.hid (by rw [HK.out, HPX.out, HT.out]; simp), Lib.hid (by rw [← List.drop_drop, HD.out, List.drop_drop])⟩
          case measure => simp [intOf]; omega
        | false =>
          rw [hpx] at hcall
          have HPX := Lib.hid hpx
          clear hpx
          refine hcall.mono ?_
          rintro e w3 ⟨rfl, b3⟩
          have k3 : w3.heap[q]? = some (.cells #[.string x.1, .int .i64 x.2.1, .string x.2.2] 42 (0, 0)) := (b3.block q hq2).trans HK2.out
          have y0 := cell_of_row w3 q 0 _ 42 (0, 0) k3
          have y1 := cell_of_row w3 q 1 _ 42 (0, 0) k3
          have y2 := cell_of_row w3 q 2 _ 42 (0, 0) k3
          have O3 := Lib.hid (O2.out.below b3)
          have him : i < m.length := by have := HM.out; omega
          obtain ⟨y, hy⟩ : ∃ y, m[i]? = some y := ⟨_, List.getElem?_eq_getElem him⟩
          obtain ⟨d0, d1, d2⟩ := O3.out.cellAt hy
          have f0 := O3.out.frozenAt (i * 3)
          have f1 := O3.out.frozenAt (i * 3 + 1)
          have f2 := O3.out.frozenAt (i * 3 + 2)
          have O4 := Lib.hid (O3.out.set HM.out i (by have := HM.out; omega) x)
          have hi1 : (i : Int) < (l.length : Int) := by omega
          have B3 := Lib.hid (HBW2.out.trans (b3.mono hs2))
          have hs3 : B ≤ w3.heap.size := by have := b3.size; omega
          have HIM := Lib.hid him
          clear hy k3 b3 hcall him
          go_wp2_with fail
          go_roundw
          case rel => exact ⟨i + 1, j + 1, m.set i x, by go_num, by go_num, by omega, by omega, (((B3.out.setCell (p := ⟨gb, i * 3, none⟩) hgB _).setCell (p := ⟨gb, i * 3 + 1, none⟩) hgB _).setCell (p := ⟨gb, i * 3 + 2, none⟩) hgB _), by simp; omega, Lib.hid (by rw [List.length_set]; exact HM.out), O4, Lib.hid (by rw [take_set_snoc HIM.out, HK.out, HPX.out, HT.out]; simp), Lib.hid (by rw [drop_set (by omega), ← List.drop_drop, HD.out, List.drop_drop])⟩
          case measure => simp [intOf]; omega
      · obtain rfl : j = l.length := by omega
        have hcap : l.length ≤ cap := (own_len OM.out).2.1
        have hcm : cap ≤ 9223372036854775807 := by have := (own_len OM.out).2.2; unfold maxLen at this; omega
        have hci : ¬ cap = i := by omega
        have hic : (i : Int) ≤ (cap : Int) := by omega
        have hi1 : (i : Int) ≤ (l.length : Int) := by omega
        have hlc : (l.length : Int) ≤ (cap : Int) := by omega
        have hcl : ∀ ty c, (Builtin.clear_ #[23] ty #[.slice (some ⟨gb, i * 3, none⟩) (l.length - i) c]).run Tryd.prog wr = .ok (.tuple #[]) (wr.setCells gb (i * 3) (zs (l.length - i))) := fun ty c =>
          run_clear_files wr ty gb (i * 3) (l.length - i) c (by omega) (fun t ht => OM.out.isCell _ (by omega)) (fun t _ => OM.out.frozenAt _)
        have HR := Lib.hid (reads_front OM.out HM.out i (by omega) (l.length - i))
        rw [HT.out, List.take_length] at HR
        have HB2 := Lib.hid (below_setCells hgB (zs (l.length - i)) (i * 3) wr hbr)
        clear hbr
        go_wp2_with fail
        go_ret
        exact ⟨_, rfl, HR.out, HB2.out⟩
end Go.Proofs.YtplleaimmmanhaaDoor
