/-
  status.Text: the lines as one reads them.
-/
import Derived.Test.YtkdoccmflknipaaSRows
import Derived.Shelf.Strings.BuilderK
namespace Go.Proofs.Ytkdoccmflknipaa
open Go.RowKit

open Go.Shelf in
theorem writeK (B b : Nat) (bs : List Value) (s : ByteArray) (w : World) (h : Lib.IsBuilderF 84 5 B b bs w) (hlen : bs.length + s.size ≤ 140737488355328) (hBw : B ≤ w.heap.size) :
    Calls Try.prog 44 #[.pointer (some ⟨b, 0, none⟩), .string s] w fun e w' => e = .returned (.tuple #[.int .i64 s.size, .nilIface]) ∧ (Lib.BuilderAtF 84 5 B b (.pointer (some ⟨b, 0, none⟩)) (bs ++ Lib.strCells s) w' ∧ Below B w w' ∧ Lib.OthersKept 5 (some b) w w') := Any.Builder_WriteString_k Try.lays166 Try.Builder_Extra_166 B b bs s w h hlen hBw
open Go.Shelf in
theorem byteK (B b : Nat) (bs : List Value) (c : Int) (w : World) (h : Lib.IsBuilderF 84 5 B b bs w) (hlen : bs.length + 1 ≤ 140737488355328) (hBw : B ≤ w.heap.size) :
    Calls Try.prog 43 #[.pointer (some ⟨b, 0, none⟩), .int .u8 c] w fun e w' => e = .returned .nilIface ∧ (Lib.BuilderAtF 84 5 B b (.pointer (some ⟨b, 0, none⟩)) (bs ++ [.int .u8 c]) w' ∧ Below B w w' ∧ Lib.OthersKept 5 (some b) w w') := Any.Builder_WriteByte_k Try.lays167 Try.Builder_Extra_167 B b bs c w h hlen hBw
theorem isf_below {T e : TypeId} {B b : Nat} {bs : List Value} {w w' : World} (h : Lib.IsBuilderF T e B b bs w) (hb : Below w.heap.size w w') : Lib.IsBuilderF T e B b bs w' := by
  have key : ∀ p, Lib.BuilderAtF T e B b p bs w → Lib.BuilderAtF T e B b p bs w' := by
    rintro p ⟨h1, v, h2, h3, h4⟩
    have hlt := (Array.getElem?_eq_some_iff.1 h2).1
    refine ⟨h1, v, (hb.block b hlt).trans h2, ⟨h3.1, ?_⟩, h4⟩
    rcases h3.2 with hn | ⟨g, cap, cur, fz, hv, hbg, hg, rest⟩
    · exact .inl hn
    · exact .inr ⟨g, cap, cur, fz, hv, hbg, (hb.block g (Array.getElem?_eq_some_iff.1 hg).1).trans hg, rest⟩
  rcases h with h | h
  · exact .inl (key _ h)
  · exact .inr (key _ h)
theorem row_kept {w w' : World} {X b : Nat} {cs : Array Value} {t : TypeId} (h : w.heap[X]? = some (.cells cs t (0, 0))) (hk : Lib.OthersKept 5 (some b) w w') (hne : X ≠ b) (ht : t ≠ 5) : w'.heap[X]? = some (.cells cs t (0, 0)) :=
  hk X _ h (fun e => hne (Option.some.inj e)) (fun c fz e => by injection e with _ e2; exact ht e2)
/-- A sum of strings, its outcome by name. -/
theorem sum_named (a b : ByteArray) (h : a.size + b.size ≤ 9223372036854775807) : ∃ s, s = a ++ b ∧ s.size = a.size + b.size ∧ ∀ w, (Op.stringOp .add a b).run Try.prog w = .ok (.string s) w := ⟨_, rfl, ByteArray.size_append, fun w => run_string_add_sum w a b h⟩

def b8 (n : Int) : UInt8 := UInt8.ofNat n.toNat
/-- A letter. -/
def Let8 (n : Int) : Prop := 0 ≤ n ∧ n < 256
theorem b8_toNat {n : Int} (h : Let8 n) : (((b8 n).toNat : Nat) : Int) = n := by
  unfold b8
  obtain ⟨h0, h1⟩ := h
  rw [UInt8.toNat_ofNat']
  omega
/-- A line as one reads it. -/
def lineB (x : Ln) : List UInt8 := b8 x.2.1 :: b8 x.2.2 :: 32 :: (x.1.data.toList ++ [10])
def linesB (l : List Ln) : List UInt8 := l.flatMap lineB
theorem lineB_len (x : Ln) : (lineB x).length = x.1.size + 4 := by
  unfold lineB
  rw [List.length_cons, List.length_cons, List.length_cons, List.length_append, Array.length_toList]
  rfl
theorem linesB_len : ∀ (l : List Ln), (∀ x ∈ l, x.1.size ≤ 1000) → (linesB l).length ≤ l.length * 1004
  | [], _ => by simp [linesB]
  | x :: l, h => by
    have h1 := lineB_len x
    have h2 := h x (by simp)
    have ih := linesB_len l fun y hy => h y (by simp [hy])
    unfold linesB at ih ⊢
    rw [List.flatMap_cons, List.length_append, List.length_cons, Nat.succ_mul]
    omega
theorem linesB_snoc (l : List Ln) (x : Ln) : linesB (l ++ [x]) = linesB l ++ lineB x := by simp [linesB]

def TextTo (l : List UInt8) (w : World) (e : Ending) (w' : World) : Prop := e = .returned (.string ⟨l.toArray⟩) ∧ Below w.heap.size w w'

attribute [-go_sem] run_string_add_if
set_option maxRecDepth 100000 in
set_option maxHeartbeats 4000000 in
theorem text_any (w : World) (v : Value) (l : List Ln) (h : Reads 3 cL w v l) (hl : l.length ≤ 10000) (hs : ∀ x ∈ l, x.1.size ≤ 1000 ∧ Let8 x.2.1 ∧ Let8 x.2.2) :
    Calls Try.prog 19 #[v] w (TextTo (linesB l) w) := by
  obtain ⟨A, c, rfl⟩ := h.form
  have hn := h.len
  have HO := Lib.hid h
  have HS := Lib.hid hs
  have IB := Lib.hid (Lib.IsBuilderF.of (Lib.fresh_isBuilder 84 5 w))
  have d0 := (Below.refl w.heap.size w).alloc (Nat.le_refl _) (.cells #[.pointer none, .slice none 0 0] 84)
  clear h hn hs
  go_enter Try.func19, Try.ntmps19
  go_wp2_with fail
  obtain ⟨b, hb⟩ : ∃ b, b = w.heap.size := ⟨_, rfl⟩
  have Hb := Lib.hid hb
  rw [← hb] at IB d0 ⊢
  clear hb
  go_loopw [8] (fun s8 wr => ∃ k : Nat, k ≤ l.length ∧ s8 = .int .i64 k ∧ Lib.IsBuilderF 84 5 b b (Lib.byteCells (linesB (l.take k))) wr ∧ Below b w wr) (fun s8 _ => l.length - (intOf s8).toNat)
  case atStart => exact ⟨0, Nat.zero_le _, rfl, IB.out, d0⟩
  case round =>
    clear IB d0
    obtain ⟨k, hk, rfl, hI, hB⟩ := hrel
    have hB0 : Below w.heap.size w wr := by have := Hb.out; rw [this] at hB; exact hB
    have hbl : b ≤ wr.heap.size := by have := Hb.out; rw [this]; exact hB0.size
    by_cases hlt : k < l.length
    · obtain ⟨x, hx⟩ : ∃ x, l[k]? = some x := ⟨_, List.getElem?_eq_getElem hlt⟩
      obtain ⟨ad, rfl, c0, c1, c2⟩ := Lins.at_ (HO.out.below hB0) hx
      obtain ⟨z1, z2, z3⟩ := HS.out x (List.mem_of_getElem? hx)
      have HT := Lib.hid (show linesB (l.take (k + 1)) = linesB (l.take k) ++ lineB x by rw [take_snoc hx, linesB_snoc])
      have hle := linesB_len (l.take k) fun y hy => (HS.out y (List.mem_of_mem_take hy)).1
      rw [List.length_take] at hle
      have hle2 : (linesB (l.take k)).length ≤ 10040000 := by
        have : min k l.length ≤ 10000 := by omega
        exact Nat.le_trans hle (Nat.mul_le_mul_right 1004 this)
      obtain ⟨p, X, Y⟩ := x
      have HL := Lib.hid (show lineB (p, X, Y) = b8 X :: b8 Y :: 32 :: (p.data.toList ++ [10]) from rfl)
      have HX := Lib.hid (b8_toNat z2)
      have HY := Lib.hid (b8_toNat z3)
      simp only at z1
      have k0 : (0 : Int) ≤ (k : Int) := Int.natCast_nonneg _
      have k1 : (k : Int) < (l.length : Int) := by omega
      have hcl := World.block_lt_of_cell? _ _ c0
      have hbw : b < wr.heap.size := hI.elim (·.lt) (·.lt)
      obtain ⟨G, hG⟩ : ∃ G, G = wr.heap.size := ⟨_, rfl⟩
      obtain ⟨w4, hw4⟩ : ∃ w4, w4 = wr.alloc (.cells #[.string p, .int .u8 X, .int .u8 Y] 58) := ⟨_, rfl⟩
      have r4 : w4.heap[G]? = some (.cells #[.string p, .int .u8 X, .int .u8 Y] 58 (0, 0)) := by rw [hw4, hG]; exact heap_alloc_new wr _
      have hne : G ≠ b := by omega
      have b4 : Below wr.heap.size wr w4 := by rw [hw4]; exact (Below.refl _ _).alloc (Nat.le_refl _) _
      have I4 := Lib.hid (isf_below hI b4)
      have B4 := Lib.hid (hB.trans (b4.mono hbl))
      have s4 : b ≤ w4.heap.size := Nat.le_trans hbl b4.size
      obtain ⟨T, hT⟩ : ∃ T, T = linesB (l.take k) := ⟨_, rfl⟩
      rw [← hT] at I4 HT hle2
      have W1 := Lib.hid (byteK b b _ X w4 I4.out (by rw [Lib.byteCells_length]; omega) s4)
      obtain ⟨q1, e1, n1, p1⟩ := sum_named ⟨#[32]⟩ p (by have : (ByteArray.mk #[32]).size = 1 := rfl; omega)
      obtain ⟨q2, e2, n2, p2⟩ := sum_named q1 ⟨#[10]⟩ (by have h1 : (ByteArray.mk #[32]).size = 1 := rfl; have h2 : (ByteArray.mk #[10]).size = 1 := rfl; omega)
      have hq2 : q2.size ≤ 1002 := by have h1 : (ByteArray.mk #[32]).size = 1 := rfl; have h2 : (ByteArray.mk #[10]).size = 1 := rfl; omega
      have HQ := Lib.hid (show q2.data.toList = 32 :: (p.data.toList ++ [10]) by rw [e2, e1]; simp [ByteArray.data_append])
      clear hx hle hT hI hB e1 e2 n1 n2 b4
      go_wp2_with fail
      rw [← hw4, ← hG]
      clear hw4 hG
      have u1 : w4.cell? ⟨G, 1, none⟩ = some (.int .u8 X) := cell_of_row w4 G 1 _ 58 (0, 0) r4
      go_wp2_with fail
      refine W1.out.mono ?_
      rintro e w5 ⟨rfl, h5, d5, k5⟩
      have r5 := row_kept r4 k5 hne (by decide)
      have s5 : b ≤ w5.heap.size := Nat.le_trans s4 d5.size
      have W2 := Lib.hid (byteK b b _ Y w5 (.inr h5) (by rw [List.length_append, Lib.byteCells_length]; simp; omega) s5)
      have u2 : w5.cell? ⟨G, 2, none⟩ = some (.int .u8 Y) := cell_of_row w5 G 2 _ 58 (0, 0) r5
      have B5 := Lib.hid (B4.out.trans d5)
      clear W1 B4 h5 d5 k5 u1 r4
      go_wp2_with fail
      refine W2.out.mono ?_
      rintro e w6 ⟨rfl, h6, d6, k6⟩
      have r6 := row_kept r5 k6 hne (by decide)
      have s6 : b ≤ w6.heap.size := Nat.le_trans s5 d6.size
      have W3 := Lib.hid (writeK b b _ q2 w6 (.inr h6) (by rw [List.length_append, List.length_append, Lib.byteCells_length]; simp; omega) s6)
      have u0 : w6.cell? ⟨G, 0, none⟩ = some (.string p) := cell_of_row w6 G 0 _ 58 (0, 0) r6
      have B6 := Lib.hid (B5.out.trans d6)
      clear W2 B5 h6 d6 k6 u2 r5 r6
      go_wp2_with fail
      refine W3.out.mono ?_
      rintro e w7 ⟨rfl, h7, d7, -⟩
      have B7 := Lib.hid (B6.out.trans d7)
      have H7 := Lib.hid h7
      clear W3 B6 h7 d7 u0
      go_wp2_with fail
      go_roundw
      case rel => exact ⟨k + 1, by omega, by go_num, by
        rw [HT.out, HL.out, Lib.byteCells_append]
        refine .inr ?_
        have := H7.out
        rw [Lib.strCells_eq, HQ.out] at this
        have e : Lib.byteCells (b8 X :: b8 Y :: 32 :: (p.data.toList ++ [10])) = [.int .u8 X] ++ ([.int .u8 Y] ++ Lib.byteCells (32 :: (p.data.toList ++ [10]))) := by
          unfold Lib.byteCells
          rw [List.map_cons, List.map_cons, HX.out, HY.out]
          rfl
        rw [e, ← List.append_assoc, ← List.append_assoc]
        exact this, B7.out⟩
      case measure => simp [intOf]; omega
    · obtain rfl : k = l.length := by omega
      rw [List.take_length] at hI
      have P := Lib.hid (Try.Builder_String_any_k b b _ wr hI hbl)
      clear hI
      go_wp2_with fail
      refine P.out.mono ?_
      rintro e w6 ⟨rfl, d6⟩
      go_wp2_with fail
      go_ret
      exact ⟨rfl, hB0.trans (by rw [← Hb.out]; exact d6.2.1)⟩
end Go.Proofs.Ytkdoccmflknipaa
