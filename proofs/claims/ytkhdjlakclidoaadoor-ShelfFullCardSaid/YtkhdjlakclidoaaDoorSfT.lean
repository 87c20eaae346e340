/-
  Stack.Text on shelves with small numbers.
-/
import Derived.Test.YtkhdjlakclidoaaDoorSfD
import Derived.Test.YtkhdjlakclidoaaDoorSfS
namespace Go.Proofs.YtkhdjlakclidoaaDoor
open Go Go.RowKit

/-- A small number in digits. -/
def dgs (i : Nat) : ByteArray := ⟨(Lib.decDigits i).toArray⟩
theorem dgs_size {i : Nat} (h : i < 100) : (dgs i).size ≤ 2 := by
  have : (dgs i).size = (Lib.decDigits i).length := by unfold dgs; simp [ByteArray.size]
  rw [this]
  by_cases h1 : i < 10
  · rw [Lib.decDigits_one h1]; simp
  · rw [Lib.decDigits_two h1 h]; simp
theorem itoa_any (i : Nat) (hi : i < 100) (w : World) : Calls Tryd.prog 44 #[.int .i64 i] w fun e w' => e = .returned (.string (dgs i)) ∧ w' = w := Tryd.strconv_Itoa_small i hi w
theorem itoa_zero (w : World) : Calls Tryd.prog 44 #[.int .i64 0] w fun e w' => e = .returned (.string (dgs 0)) ∧ w' = w := Tryd.strconv_Itoa_small 0 (by omega) w
theorem sum_named (a b : ByteArray) (h : a.size + b.size ≤ 9223372036854775807) : ∃ s, s = a ++ b ∧ s.size = a.size + b.size ∧ ∀ w, (Op.stringOp .add a b).run Tryd.prog w = .ok (.string s) w := ⟨_, rfl, ByteArray.size_append, fun w => run_string_add_sum w a b h⟩

theorem writeK (B b : Nat) (bs : List Value) (s : ByteArray) (w : World) (h : Lib.IsBuilderF 65 5 B b bs w) (hlen : bs.length + s.size ≤ 140737488355328) (hBw : B ≤ w.heap.size) :
    Calls Tryd.prog 45 #[.pointer (some ⟨b, 0, none⟩), .string s] w fun e w' => e = .returned (.tuple #[.int .i64 s.size, .nilIface]) ∧ (Lib.BuilderAtF 65 5 B b (.pointer (some ⟨b, 0, none⟩)) (bs ++ Lib.strCells s) w' ∧ Below B w w' ∧ Lib.OthersKept 5 (some b) w w') := Tryd.Builder_WriteString_k B b bs s w h hlen hBw

theorem isf_below {T e : TypeId} {B b : Nat} {bs : List Value} {w w' : World} (h : Lib.IsBuilderF T e B b bs w) (hb : Below w.heap.size w w') : Lib.IsBuilderF T e B b bs w' := by
  have key : ∀ p, Lib.BuilderAtF T e B b p bs w → Lib.BuilderAtF T e B b p bs w' := by
    rintro p ⟨h1, v, h2, h3, h4⟩
    have hlt := (Array.getElem?_eq_some_iff.1 h2).1
    refine ⟨h1, v, (hb.block b hlt).trans h2, ⟨h3.1, ?_⟩, h4⟩
    rcases h3.2 with hn | ⟨g, cap, cur, fz, hv, hbg, hg, rest⟩
    · exact .inl hn
    · exact .inr ⟨g, cap, cur, fz, hv, hbg, (hb.block g (Array.getElem?_eq_some_iff.1 hg).1).trans hg, rest⟩
  rcases h with h | h
  · exact .inl (key _ h)
  · exact .inr (key _ h)

/-- One line of the text, the first k lines. -/
def lineB (n b m : Nat) (s : ByteArray) : ByteArray := dgs n ++ ⟨#[58, 32]⟩ ++ s ++ ⟨#[32, 40]⟩ ++ dgs b ++ ⟨#[44, 32]⟩ ++ (dgs 0 ++ ⟨#[47]⟩ ++ dgs m) ++ ⟨#[41, 10]⟩
def lineS (n : Nat) (r : Ky) : List UInt8 := (lineB n r.1.toNat r.2.1 r.2.2).data.toList
def txtTo (K : List Ky) : Nat → List UInt8
  | 0 => []
  | k + 1 => txtTo K k ++ (match K[k]? with | some r => lineS k r | none => [])
theorem lineB_size {n b m : Nat} {s : ByteArray} (h1 : n < 100) (h2 : b < 100) (h3 : m < 100) (h4 : s.size ≤ 10) : (lineB n b m s).size ≤ 50 := by
  have a := dgs_size h1
  have b := dgs_size h2
  have c := dgs_size h3
  have d := dgs_size (i := 0) (by omega)
  unfold lineB
  simp only [ByteArray.size_append]
  have e1 : (ByteArray.mk #[58, 32]).size = 2 := rfl
  have e2 : (ByteArray.mk #[32, 40]).size = 2 := rfl
  have e3 : (ByteArray.mk #[44, 32]).size = 2 := rfl
  have e4 : (ByteArray.mk #[47]).size = 1 := rfl
  have e5 : (ByteArray.mk #[41, 10]).size = 2 := rfl
  omega
def Small (K : List Ky) : Prop := ∀ r ∈ K, (∃ b : Nat, r.1 = b ∧ b < 100) ∧ r.2.1 < 100 ∧ r.2.2.size ≤ 10
theorem txtTo_le {K : List Ky} (h : Small K) : ∀ k, k < 100 → (txtTo K k).length ≤ k * 50
  | 0, _ => by simp [txtTo]
  | k + 1, hk => by
    have ih := txtTo_le h k (by omega)
    unfold txtTo
    rw [List.length_append]
    cases hr : K[k]? with
    | none => simp; omega
    | some r =>
      obtain ⟨⟨b, hb, h2⟩, h3, h4⟩ := h r (List.mem_of_getElem? hr)
      have := lineB_size (n := k) (b := b) (m := r.2.1) (s := r.2.2) (by omega) h2 h3 h4
      have e : (lineS k r).length ≤ 50 := by unfold lineS; rw [hb, Int.toNat_natCast]; rw [Array.length_toList]; exact this
      simp only
      omega
theorem txtTo_succ {K : List Ky} {k b m : Nat} {s : ByteArray} (h : K[k]? = some ((b : Int), m, s)) : txtTo K (k + 1) = txtTo K k ++ (lineB k b m s).data.toList := by
  rw [txtTo, h]
  simp only [lineS, Int.toNat_natCast]

/-- The row of a shelf, and its cells. -/
def Rw4 (X : Nat) (a1 a2 a3 a4 : Value) (w : World) : Prop := w.heap[X]? = some (.cells #[a1, a2, a3, a4] 40 (0, 0))
theorem Rw4.cells {X : Nat} {a1 a2 a3 a4 : Value} {w : World} (h : Rw4 X a1 a2 a3 a4 w) : w.cell? ⟨X, 0, none⟩ = some a1 ∧ w.cell? ⟨X, 1, none⟩ = some a2 ∧ w.cell? ⟨X, 2, none⟩ = some a3 ∧ w.cell? ⟨X, 3, none⟩ = some a4 :=
  ⟨cell_of_row w X 0 _ 40 (0, 0) h, cell_of_row w X 1 _ 40 (0, 0) h, cell_of_row w X 2 _ 40 (0, 0) h, cell_of_row w X 3 _ 40 (0, 0) h⟩
theorem Rw4.two {X : Nat} {a1 a2 a3 a4 : Value} {w : World} (h : Rw4 X a1 a2 a3 a4 w) : w.cell? ⟨X, 0, none⟩ = some a1 ∧ w.cell? ⟨X, 3, none⟩ = some a4 := ⟨h.cells.1, h.cells.2.2.2⟩
theorem Rw4.kept {X b : Nat} {a1 a2 a3 a4 : Value} {w w' : World} (h : Rw4 X a1 a2 a3 a4 w) (hb : Lib.OthersKept 5 (some b) w w') (hne : X ≠ b) : Rw4 X a1 a2 a3 a4 w' := hb X _ h (fun e => hne (Option.some.inj e)) (fun c fz e => by cases e)
#print axioms Rw4.kept
end Go.Proofs.YtkhdjlakclidoaaDoor
