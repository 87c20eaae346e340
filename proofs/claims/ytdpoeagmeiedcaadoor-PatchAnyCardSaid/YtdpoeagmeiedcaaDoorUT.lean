/-
  patch.Text, of hunks whose numbers have at most two digits.
-/
import Derived.Test.YtdpoeagmeiedcaaDoorUA
import Derived.Test.YtdpoeagmeiedcaaDoorShelf
import Derived.Shelf.Strings.BuilderK

namespace Go.Proofs.YtdpoeagmeiedcaaDoor
open Go Go.RowKit

def pairB (a d : Nat) : ByteArray := ⟨(Lib.decDigits a).toArray⟩ ++ ⟨#[44]⟩ ++ ⟨(Lib.decDigits d).toArray⟩
def markP (o : Int) : ByteArray := if o = 2 then ⟨#[45]⟩ else if o = 3 then ⟨#[43]⟩ else ⟨#[32]⟩
def trimB (s : ByteArray) : ByteArray := ⟨(Lib.trimSuffix s.data.toList [10]).toArray⟩
def headB (a d t f : Nat) : ByteArray := ⟨#[64, 64, 32, 45]⟩ ++ pairB a d ++ ⟨#[32, 43]⟩ ++ pairB t f ++ ⟨#[32, 64, 64, 10]⟩
def lineB (e : EdI) : ByteArray := markP e.1 ++ trimB e.2 ++ ⟨#[10]⟩
def headL (h : Hk) : List UInt8 := (headB h.at_.toNat h.del.toNat h.to_.toNat h.add.toNat).data.toList
def linesL (l : List EdI) : List UInt8 := l.flatMap fun e => (lineB e).data.toList
def textL (hs : List Hk) : List UInt8 := hs.flatMap fun h => headL h ++ linesL h.ls
/-- Hunks whose numbers have two digits at most, of few short lines. -/
structure HkTwo (h : Hk) : Prop where
  a : 0 ≤ h.at_ ∧ h.at_ < 100
  d : 0 ≤ h.del ∧ h.del < 100
  t : 0 ≤ h.to_ ∧ h.to_ < 100
  f : 0 ≤ h.add ∧ h.add < 100
  l : h.ls.length ≤ 1000
  s : ∀ e ∈ h.ls, e.2.size ≤ 1000
theorem sum_namedP (a b : ByteArray) (h : a.size + b.size ≤ 9223372036854775807) : ∃ s, s = a ++ b ∧ s.size = a.size + b.size ∧ ∀ w, (Op.stringOp .add a b).run Tryd.prog w = .ok (.string s) w := ⟨_, rfl, ByteArray.size_append, fun w => run_string_add_sum w a b h⟩
theorem digits_le (i : Nat) (hi : i < 100) : (ByteArray.mk (Lib.decDigits i).toArray).size ≤ 2 := by
  have : ∀ j : Fin 100, (ByteArray.mk (Lib.decDigits j.1).toArray).size ≤ 2 := by decide +kernel
  exact this ⟨i, hi⟩
theorem pairB_le (a d : Nat) (ha : a < 100) (hd : d < 100) : (pairB a d).size ≤ 5 := by
  unfold pairB
  rw [ByteArray.size_append, ByteArray.size_append]
  have := digits_le a ha
  have := digits_le d hd
  have : (ByteArray.mk #[44]).size = 1 := rfl
  omega
theorem trimB_le (s : ByteArray) : (trimB s).size ≤ s.size := by
  have h : (trimB s).size = (Lib.trimSuffix s.data.toList [10]).length := by unfold trimB; simp [ByteArray.size]
  have h2 : s.size = s.data.toList.length := Lib.size_eq s
  rw [h, h2]
  unfold Lib.trimSuffix
  split
  · rw [List.length_take]; omega
  · exact Nat.le_refl _
theorem markP_le (o : Int) : (markP o).size ≤ 1 := by unfold markP; split; exact Nat.le_refl _; split <;> exact Nat.le_refl _
theorem size_dataP (s : ByteArray) : s.data.toList.length = s.size := (Lib.size_eq s).symm
theorem lineB_le (e : EdI) (h : e.2.size ≤ 1000) : (lineB e).size ≤ 1002 := by
  unfold lineB
  rw [ByteArray.size_append, ByteArray.size_append]
  have := markP_le e.1
  have := trimB_le e.2
  have : (ByteArray.mk #[10]).size = 1 := rfl
  omega
theorem headB_le (a d t f : Nat) (ha : a < 100) (hd : d < 100) (ht : t < 100) (hf : f < 100) : (headB a d t f).size ≤ 20 := by
  unfold headB
  rw [ByteArray.size_append, ByteArray.size_append, ByteArray.size_append, ByteArray.size_append]
  have := pairB_le a d ha hd
  have := pairB_le t f ht hf
  have : (ByteArray.mk #[64, 64, 32, 45]).size = 4 := rfl
  have : (ByteArray.mk #[32, 43]).size = 2 := rfl
  have : (ByteArray.mk #[32, 64, 64, 10]).size = 4 := rfl
  omega
theorem flatLe {α β : Type} {f : α → List β} {M : Nat} : ∀ {l : List α}, (∀ x ∈ l, (f x).length ≤ M) → (l.flatMap f).length ≤ l.length * M
  | [], _ => by simp
  | x :: l, h => by
    rw [List.flatMap_cons, List.length_append, List.length_cons, Nat.succ_mul]
    have := h x List.mem_cons_self
    have := flatLe (l := l) fun y hy => h y (List.mem_cons_of_mem _ hy)
    omega
theorem linesL_le {l : List EdI} (h : ∀ e ∈ l, e.2.size ≤ 1000) : (linesL l).length ≤ l.length * 1002 := flatLe fun e he => by rw [size_dataP]; exact lineB_le e (h e he)
theorem textL_le {hs : List Hk} (h : ∀ x ∈ hs, HkTwo x) : (textL hs).length ≤ hs.length * 2000000 := flatLe fun x hx => by
  have hx := h x hx
  rw [List.length_append]
  have h1 : (headL x).length ≤ 20 := by
    unfold headL
    rw [size_dataP]
    have := hx.a; have := hx.d; have := hx.t; have := hx.f
    exact headB_le _ _ _ _ (by omega) (by omega) (by omega) (by omega)
  have h2 := linesL_le hx.s
  have := hx.l
  omega
open Go.Shelf in
theorem writeKP (B b : Nat) (bs : List Value) (s : ByteArray) (w : World) (h : Lib.IsBuilderF 119 5 B b bs w) (hlen : bs.length + s.size ≤ 140737488355328) (hBw : B ≤ w.heap.size) :
    Calls Tryd.prog 49 #[.pointer (some ⟨b, 0, none⟩), .string s] w fun e w' => e = .returned (.tuple #[.int .i64 s.size, .nilIface]) ∧ (Lib.BuilderAtF 119 5 B b (.pointer (some ⟨b, 0, none⟩)) (bs ++ Lib.strCells s) w' ∧ Below B w w' ∧ Lib.OthersKept 5 (some b) w w') := Any.Builder_WriteString_k Tryd.lays166 Tryd.Builder_Extra_156 B b bs s w h hlen hBw
open Go.Shelf in
theorem stringFP (B b : Nat) (l : List UInt8) (w : World) (h : Lib.IsBuilderF 119 5 B b (Lib.byteCells l) w) (hBw : B ≤ w.heap.size) :
    Calls Tryd.prog 53 #[.pointer (some ⟨b, 0, none⟩)] w fun e w' => e = .returned (.string ⟨l.toArray⟩) ∧ (Lib.IsBuilderF 119 5 B b (Lib.byteCells l) w' ∧ Below B w w') := Any.Builder_String_any_f Tryd.lays169 Tryd.Builder_Extra_169 B b l w h hBw
theorem isf_belowP {T e : TypeId} {B b : Nat} {bs : List Value} {w w' : World} (h : Lib.IsBuilderF T e B b bs w) (hb : Below w.heap.size w w') : Lib.IsBuilderF T e B b bs w' := by
  have key : ∀ p, Lib.BuilderAtF T e B b p bs w → Lib.BuilderAtF T e B b p bs w' := by
    rintro p ⟨h1, v, h2, h3, h4⟩
    have hlt := (Array.getElem?_eq_some_iff.1 h2).1
    refine ⟨h1, v, (hb.block b hlt).trans h2, ⟨h3.1, ?_⟩, h4⟩
    rcases h3.2 with hn | ⟨g, cap, cur, fz, hv, hbg, hg, rest⟩
    · exact .inl hn
    · exact .inr ⟨g, cap, cur, fz, hv, hbg, (hb.block g (Array.getElem?_eq_some_iff.1 hg).1).trans hg, rest⟩
  rcases h with h | h
  · exact .inl (key _ h)
  · exact .inr (key _ h)
theorem Blk.others {w w' : World} {g b : Nat} {t : TypeId} {cs : Array Value} (h : Blk w g t cs) (hb : Lib.OthersKept 5 (some b) w w') (hne : g ≠ b) (ht : t ≠ 5) : Blk w' g t cs := hb g _ h (fun e => hne (Option.some.inj e)) (fun c fz e => by injection e with _ e; exact ht e)
attribute [-go_sem] run_string_add_if
set_option maxHeartbeats 1000000 in
theorem pair_any (a d : Nat) (w : World) (ha : a < 100) (hd : d < 100) : Calls Tryd.prog 50 #[.int .i64 (a : Int), .int .i64 (d : Int)] w fun e w' => e = .returned (.string (pairB a d)) ∧ w = w' := by
  have I1 := Lib.hid (Tryd.strconv_Itoa_small a ha)
  have I2 := Lib.hid (Tryd.strconv_Itoa_small d hd)
  have l1 := digits_le a ha
  have l2 := digits_le d hd
  have l3 : (ByteArray.mk #[44]).size = 1 := rfl
  obtain ⟨s1, e1, n1, p1⟩ := sum_namedP ⟨(Lib.decDigits a).toArray⟩ ⟨#[44]⟩ (by omega)
  obtain ⟨s2, e2, n2, p2⟩ := sum_namedP s1 ⟨(Lib.decDigits d).toArray⟩ (by omega)
  have HE : Hid (s2 = pairB a d) := Lib.hid (by rw [e2, e1]; rfl)
  clear l1 l2 l3 e1 e2 n1 n2
  go_enter Tryd.func50, Tryd.ntmps50
  go_wp2_with fail
  refine (I1.out w).mono ?_
  rintro e w' ⟨rfl, rfl⟩
  go_wp2_with fail
  refine (I2.out w').mono ?_
  rintro e w'' ⟨rfl, rfl⟩
  go_wp2_with fail
  go_ret
  exact ⟨by rw [← HE.out]; rfl, rfl⟩
theorem mark_any (o : Int) (w : World) : Calls Tryd.prog 51 #[.int .i64 o] w fun e w' => e = .returned (.string (markP o)) ∧ w = w' := by
  by_cases h2 : o = 2
  · subst h2
    go_enter Tryd.func51, Tryd.ntmps51
    go_wp2
    go_ret
    exact ⟨rfl, rfl⟩
  · by_cases h3 : o = 3
    · subst h3
      go_enter Tryd.func51, Tryd.ntmps51
      go_wp2
      go_ret
      exact ⟨rfl, rfl⟩
    · have m2 : (o == 2) = false := by simpa using h2
      have m3 : (o == 3) = false := by simpa using h3
      have HM : Hid (markP o = ⟨#[32]⟩) := Lib.hid (by unfold markP; rw [if_neg h2, if_neg h3])
      clear h2 h3
      go_enter Tryd.func51, Tryd.ntmps51
      go_wp2
      go_ret
      exact ⟨by rw [HM.out]; rfl, rfl⟩

set_option maxRecDepth 100000 in
set_option maxHeartbeats 8000000 in
theorem ptext_any (w : World) (v : Value) (hs : List Hk) (h : HksIn w v hs) (hl : hs.length ≤ 100) (h2 : ∀ x ∈ hs, HkTwo x) :
    Calls Tryd.prog 25 #[v] w fun e w' => e = .returned (.string ⟨(textL hs).toArray⟩) ∧ Below w.heap.size w w' := by
  obtain ⟨A, c, rfl⟩ := h.form
  have hnm : c ≤ 9223372036854775807 := by have := h.len.2.2; unfold maxLen at this; omega
  have hnc := h.len.2.1
  have HH := Lib.hid h
  have H2 := Lib.hid h2
  have IB := Lib.hid (Lib.IsBuilderF.of (Lib.fresh_isBuilder 119 5 w))
  have d6 := (Below.refl w.heap.size w).alloc (Nat.le_refl _) (.cells #[.pointer none, .slice none 0 0] 119)
  clear h h2
  go_enter Tryd.func25, Tryd.ntmps25
  go_wp2_with fail
  obtain ⟨b, hb⟩ : ∃ b, b = w.heap.size := ⟨_, rfl⟩
  rw [← hb] at IB d6 ⊢
  have Hb := Lib.hid hb
  clear hb
  go_loopw [10] (fun s10 wr => ∃ k : Nat, k ≤ hs.length ∧ s10 = .int .i64 k ∧ Hid (Lib.IsBuilderF 119 5 b b (Lib.byteCells (textL (hs.take k))) wr) ∧ Hid (Below b w wr)) (fun s10 _ => hs.length - (intOf s10).toNat)
  case atStart => exact ⟨0, Nat.zero_le _, rfl, IB, Lib.hid d6⟩
  case round =>
    clear IB d6
    obtain ⟨k, hk, rfl, hI, hB⟩ := hrel
    have k0 : (0 : Int) ≤ (k : Int) := Int.natCast_nonneg _
    obtain ⟨wo, hwo⟩ : ∃ wo : World, wo = wr := ⟨_, rfl⟩
    rw [← hwo] at hI hB ⊢
    clear hwo
    have hbw : Hid (Below w.heap.size w wo) := Lib.hid (by have := Hb.out; rw [this] at hB; exact hB.out)
    have hbl : b ≤ wo.heap.size := by have := Hb.out; rw [this]; exact hbw.out.size
    by_cases hlt : k < hs.length
    · have k1 : (k : Int) < (hs.length : Int) := by omega
      obtain ⟨x, hx⟩ : ∃ x, hs[k]? = some x := ⟨_, List.getElem?_eq_getElem hlt⟩
      obtain ⟨ad, vl, rfl, c0, c1, c2, c3, c4, hrd⟩ := HH.out.at2 hbw.out hx
      have hx2 := H2.out x (List.mem_of_getElem? hx)
      have hTL := textL_le (hs := hs.take k) (fun y hy => H2.out y (List.mem_of_mem_take hy))
      rw [List.length_take] at hTL
      have HTK := Lib.hid (show textL (hs.take (k + 1)) = textL (hs.take k) ++ (headL x ++ linesL x.ls) by rw [take_snocP hx]; unfold textL; rw [List.flatMap_append]; simp)
      have hll := hx2.l
      have hss := Lib.hid hx2.s
      obtain ⟨a1, a2⟩ := hx2.a
      obtain ⟨d1, d2⟩ := hx2.d
      obtain ⟨t1, t2⟩ := hx2.t
      obtain ⟨f1, f2⟩ := hx2.f
      obtain ⟨at_, del, to_, add, ls⟩ := x
      simp only at c0 c1 c2 c3 hrd hll hss a1 a2 d1 d2 t1 t2 f1 f2
      obtain ⟨a, rfl⟩ : ∃ a : Nat, at_ = (a : Int) := ⟨at_.toNat, by omega⟩
      obtain ⟨d, rfl⟩ : ∃ d : Nat, del = (d : Int) := ⟨del.toNat, by omega⟩
      obtain ⟨t, rfl⟩ : ∃ t : Nat, to_ = (t : Int) := ⟨to_.toNat, by omega⟩
      obtain ⟨f, rfl⟩ : ∃ f : Nat, add = (f : Int) := ⟨add.toNat, by omega⟩
      have a3 : a < 100 := by omega
      have d3 : d < 100 := by omega
      have t3 : t < 100 := by omega
      have f3 : f < 100 := by omega
      obtain ⟨Al, cl, rfl⟩ := hrd.form
      have HRD := Lib.hid hrd
      have hlc := hrd.len.2.1
      have hlm : cl ≤ 9223372036854775807 := by have := hrd.len.2.2; unfold maxLen at this; omega
      have hhd : headL ⟨(a : Int), (d : Int), (t : Int), (f : Int), ls⟩ = (headB a d t f).data.toList := by unfold headL; simp
      rw [hhd] at HTK
      simp only at HTK
      have y1 := pairB_le a d a3 d3
      have y2 := pairB_le t f t3 f3
      have z1 : (ByteArray.mk #[64, 64, 32, 45]).size = 4 := rfl
      have z2 : (ByteArray.mk #[32, 43]).size = 2 := rfl
      have z3 : (ByteArray.mk #[32, 64, 64, 10]).size = 4 := rfl
      obtain ⟨s1, e1, n1, p1⟩ := sum_namedP ⟨#[64, 64, 32, 45]⟩ (pairB a d) (by omega)
      obtain ⟨s2, e2, n2, p2⟩ := sum_namedP s1 ⟨#[32, 43]⟩ (by omega)
      obtain ⟨s3, e3, n3, p3⟩ := sum_namedP s2 (pairB t f) (by omega)
      obtain ⟨s4, e4, n4, p4⟩ := sum_namedP s3 ⟨#[32, 64, 64, 10]⟩ (by omega)
      have eM : Hid (s4 = headB a d t f) := Lib.hid (by rw [e4, e3, e2, e1]; rfl)
      have HSZ : Hid (s4.size ≤ 20) := Lib.hid (by rw [eM.out]; exact headB_le a d t f a3 d3 t3 f3)
      have bA := hbw.out.alloc hbw.out.size (.cells #[.int .i64 (a : Int), .int .i64 (d : Int), .int .i64 (t : Int), .int .i64 (f : Int), .slice Al ls.length cl] 64)
      have BA := Lib.hid bA
      have BB := Lib.hid ((hB.out.alloc hbl (.cells #[.int .i64 (a : Int), .int .i64 (d : Int), .int .i64 (t : Int), .int .i64 (f : Int), .slice Al ls.length cl] 64)))
      have KX := Lib.hid (Blk.new wo 64 #[.int .i64 (a : Int), .int .i64 (d : Int), .int .i64 (t : Int), .int .i64 (f : Int), .slice Al ls.length cl])
      have IX := Lib.hid (isf_belowP hI.out ((Below.refl wo.heap.size wo).alloc (Nat.le_refl _) (.cells #[.int .i64 (a : Int), .int .i64 (d : Int), .int .i64 (t : Int), .int .i64 (f : Int), .slice Al ls.length cl] 64)))
      have hneX : wo.heap.size ≠ b := by have h9 : b < wo.heap.size := hI.out.elim (·.lt) (·.lt); omega
      have hTL2 : (textL (hs.take k)).length ≤ 200000000 := by omega
      clear hx hx2 hrd hhd hTL hI hbw bA hB e1 e2 e3 e4 n1 n2 n3 n4 y1 y2 z1 z2 z3 a1 a2 d1 d2 t1 t2 f1 f2
      generalize hT : textL (hs.take k) = T at *
      clear hT
      go_upto_region 5 with fail
      generalize hW : wo.alloc (.cells #[.int .i64 (a : Int), .int .i64 (d : Int), .int .i64 (t : Int), .int .i64 (f : Int), .slice Al ls.length cl] 64) = W at *
      have hbW : b ≤ W.heap.size := by rw [← hW]; simp; omega
      generalize wo.heap.size = X at *
      clear hW c0 c1 c2 c3 c4
      have HBWd := Lib.hid (show b ≤ W.drew.heap.size from hbW)
      have KXd : Hid (Blk W.drew X 64 #[.int .i64 (a : Int), .int .i64 (d : Int), .int .i64 (t : Int), .int .i64 (f : Int), .slice Al ls.length cl]) := Lib.hid KX.out
      have IXd : Hid (Lib.IsBuilderF 119 5 b b (Lib.byteCells T) W.drew) := Lib.hid (isf_belowP IX.out ((Below.refl _ _).drew))
      have q0 : W.drew.cell? ⟨X, 0, none⟩ = some (.int .i64 (a : Int)) ∧ W.drew.cell? ⟨X, 1, none⟩ = some (.int .i64 (d : Int)) ∧ W.drew.cell? ⟨X, 2, none⟩ = some (.int .i64 (t : Int)) ∧ W.drew.cell? ⟨X, 3, none⟩ = some (.int .i64 (f : Int)) := ⟨KX.out.cell 0, KX.out.cell 1, KX.out.cell 2, KX.out.cell 3⟩
      go_region_held3 (fun w' => w'.cell? ⟨X, 0, none⟩ = some (.int .i64 (a : Int)) ∧ w'.cell? ⟨X, 1, none⟩ = some (.int .i64 (d : Int)) ∧ w'.cell? ⟨X, 2, none⟩ = some (.int .i64 (t : Int)) ∧ w'.cell? ⟨X, 3, none⟩ = some (.int .i64 (f : Int))) (first | exact q0 | exact q9) (first
        | (go_at_call 49; (with_reducible refine (writeKP b b _ s4 W.drew IXd.out (by rw [Lib.byteCells_length]; have := HSZ.out; omega) HBWd.out).mono ?_); rintro e w9 ⟨rfl, h9, d9, k9⟩; have K9 := KXd.out.others k9 hneX (by decide); have q9 := (show w9.cell? ⟨X, 0, none⟩ = some (.int .i64 (a : Int)) ∧ w9.cell? ⟨X, 1, none⟩ = some (.int .i64 (d : Int)) ∧ w9.cell? ⟨X, 2, none⟩ = some (.int .i64 (t : Int)) ∧ w9.cell? ⟨X, 3, none⟩ = some (.int .i64 (f : Int)) from ⟨K9.cell 0, K9.cell 1, K9.cell 2, K9.cell 3⟩))
        | (go_at_call 50; (with_reducible refine (pair_any _ _ _ (by assumption) (by assumption)).mono ?_); rintro e w' ⟨rfl, rfl⟩))
      all_goals
        have B9 := Lib.hid ((BB.out.drew).trans d9)
        have I9 : Hid (Lib.IsBuilderF 119 5 b b (Lib.byteCells (T ++ (headB a d t f).data.toList)) w9) := Lib.hid (by rw [Lib.byteCells_append]; exact .inr (by have := h9; rw [Lib.strCells_eq, eM.out] at this; exact this))
        have HN9 := Lib.hid (show ((headB a d t f).data.toList).length ≤ 20 by rw [size_dataP]; exact headB_le a d t f a3 d3 t3 f3)
        have x4 := K9.cell 4
        clear h9 d9 k9 K9 q0 q9 KX KXd IX IXd BB BA p1 p2 p3 p4
        go_wp2_with fail
        go_loopw [32] (fun s32 wr => ∃ j : Nat, j ≤ ls.length ∧ s32 = .int .i64 j ∧ Hid (Lib.IsBuilderF 119 5 b b (Lib.byteCells (T ++ (headB a d t f).data.toList ++ linesL (ls.take j))) wr) ∧ Hid (Below b w wr)) (fun s32 _ => ls.length - (intOf s32).toNat)
        case atStart => exact ⟨0, Nat.zero_le _, rfl, Lib.hid (by have := I9.out; simpa [linesL] using this), B9⟩
        case round =>
          clear x4 I9 B9
          obtain ⟨j, hj, rfl, hI, hB⟩ := hrel
          have j0 : (0 : Int) ≤ (j : Int) := Int.natCast_nonneg _
          have hbw : Hid (Below w.heap.size w wr) := Lib.hid (by have := Hb.out; rw [this] at hB; exact hB.out)
          have hbl2 : b ≤ wr.heap.size := by have := Hb.out; rw [this]; exact hbw.out.size
          by_cases hjl : j < ls.length
          · have j1 : (j : Int) < (ls.length : Int) := by omega
            obtain ⟨x, hx⟩ : ∃ x, ls[j]? = some x := ⟨_, List.getElem?_eq_getElem hjl⟩
            obtain ⟨ad2, rfl, c0, c1⟩ := Eds.at_ (HRD.out.below hbw.out) hx
            have hsx := hss.out x (List.mem_of_getElem? hx)
            have HTJ := Lib.hid (show linesL (ls.take (j + 1)) = linesL (ls.take j) ++ (lineB x).data.toList by rw [take_snocP hx]; unfold linesL; rw [List.flatMap_append]; simp)
            have hLJ := linesL_le (l := ls.take j) (fun y hy => hss.out y (List.mem_of_mem_take hy))
            rw [List.length_take] at hLJ
            obtain ⟨o, s⟩ := x
            simp only at hsx
            have y1 := markP_le o
            have y2 := trimB_le s
            have z1 : (ByteArray.mk #[10]).size = 1 := rfl
            obtain ⟨s1', e1, n1, p1⟩ := sum_namedP (markP o) (trimB s) (by omega)
            obtain ⟨s2', e2, n2, p2⟩ := sum_namedP s1' ⟨#[10]⟩ (by omega)
            have eM2 : Hid (s2' = lineB (o, s)) := Lib.hid (by rw [e2, e1]; rfl)
            have HSZ2 : Hid (s2'.size ≤ 1002) := Lib.hid (by rw [eM2.out]; exact lineB_le (o, s) hsx)
            have BB2 := Lib.hid ((hB.out.alloc hbl2 (.cells #[.int .i64 o, .string s] 66)))
            have KE := Lib.hid (Blk.new wr 66 #[.int .i64 o, .string s])
            have IX2 := Lib.hid (isf_belowP hI.out ((Below.refl wr.heap.size wr).alloc (Nat.le_refl _) (.cells #[.int .i64 o, .string s] 66)))
            have hneE : wr.heap.size ≠ b := by have h9 : b < wr.heap.size := hI.out.elim (·.lt) (·.lt); omega
            have hsm : s.size ≤ 9223372036854775807 := by omega
            have TR := Lib.hid (fun W' => Tryd.strings_TrimSuffix s ⟨#[10]⟩ W' hsm)
            have hTT : (T ++ (headB a d t f).data.toList ++ linesL (ls.take j)).length ≤ 300000000 := by
              rw [List.length_append, List.length_append]
              have := HN9.out
              omega
            clear hx e1 e2 n1 n2 y1 y2 z1 hLJ hI hB hbw
            generalize hT2 : T ++ (headB a d t f).data.toList ++ linesL (ls.take j) = T2 at *
            have HT2 := Lib.hid hT2
            clear hT2
            go_upto_region 9 with fail
            generalize hW2 : wr.alloc (.cells #[.int .i64 o, .string s] 66) = W2 at *
            have hbW2 : b ≤ W2.heap.size := by rw [← hW2]; simp; omega
            generalize wr.heap.size = E at *
            clear hW2 c0 c1
            have HBWd2 := Lib.hid (show b ≤ W2.drew.heap.size from hbW2)
            have KEd : Hid (Blk W2.drew E 66 #[.int .i64 o, .string s]) := Lib.hid KE.out
            have IXd2 : Hid (Lib.IsBuilderF 119 5 b b (Lib.byteCells T2) W2.drew) := Lib.hid (isf_belowP IX2.out ((Below.refl _ _).drew))
            have q0 : W2.drew.cell? ⟨E, 0, none⟩ = some (.int .i64 o) ∧ W2.drew.cell? ⟨E, 1, none⟩ = some (.string s) := ⟨KE.out.cell 0, KE.out.cell 1⟩
            go_region_held3 (fun w' => w'.cell? ⟨E, 0, none⟩ = some (.int .i64 o) ∧ w'.cell? ⟨E, 1, none⟩ = some (.string s)) (first | exact q0 | exact q9) (first
              | (go_at_call 49; (with_reducible refine (writeKP b b _ s2' W2.drew IXd2.out (by rw [Lib.byteCells_length]; have := HSZ2.out; omega) HBWd2.out).mono ?_); rintro e w9 ⟨rfl, h9, d9, k9⟩; have K9 := KEd.out.others k9 hneE (by decide); have q9 := (show w9.cell? ⟨E, 0, none⟩ = some (.int .i64 o) ∧ w9.cell? ⟨E, 1, none⟩ = some (.string s) from ⟨K9.cell 0, K9.cell 1⟩))
              | (go_at_call 51; (with_reducible refine (mark_any _ _).mono ?_); rintro e w' ⟨rfl, rfl⟩)
              | (go_at_call 52; (with_reducible refine (TR.out _).mono ?_); rintro e w' ⟨rfl, hwe⟩; have hwe2 := hwe.symm; subst hwe2; clear hwe; rw [show (ByteArray.mk (Lib.trimSuffix s.data.toList (ByteArray.mk #[10]).data.toList).toArray) = trimB s from rfl]))
            all_goals
              have B10 := Lib.hid ((BB2.out.drew).trans d9)
              have I10 : Hid (Lib.IsBuilderF 119 5 b b (Lib.byteCells (T2 ++ (lineB (o, s)).data.toList)) w9) := Lib.hid (by rw [Lib.byteCells_append]; exact .inr (by have := h9; rw [Lib.strCells_eq, eM2.out] at this; exact this))
              clear h9 d9 k9 K9 q0 q9 KE KEd IX2 IXd2 BB2 p1 p2
              go_wp2_with fail
              go_roundw
              case rel => exact ⟨j + 1, by omega, by go_num, Lib.hid (by rw [HTJ.out, ← List.append_assoc, HT2.out]; exact I10.out), B10⟩
              case measure => simp [intOf]; omega
          · obtain rfl : j = ls.length := by omega
            rw [List.take_length] at hI
            have HIF : Hid (Lib.IsBuilderF 119 5 b b (Lib.byteCells (textL (hs.take (k + 1)))) wr) := Lib.hid (by rw [HTK.out, ← List.append_assoc]; exact hI.out)
            clear hI
            go_wp2
            go_roundw
            case rel => exact ⟨k + 1, by omega, by go_num, HIF, hB⟩
            case measure => simp [intOf]; omega
    · obtain rfl : k = hs.length := by omega
      have P := Lib.hid (stringFP b b _ wo (by have := hI.out; rw [List.take_length] at this; exact this) hbl)
      clear hI
      go_wp2_with fail
      refine P.out.mono ?_
      rintro e w6 ⟨rfl, -, d6⟩
      go_wp2_with fail
      go_ret
      exact ⟨rfl, by have := Hb.out; rw [this] at d6; exact hbw.out.trans d6⟩
end Go.Proofs.YtdpoeagmeiedcaaDoor
