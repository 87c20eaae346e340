/-
  sha: names that are compared; rows of names that are built.
-/
import Derived.Test.YtpkikibcfkdodaaHShare
import Derived.DeepKeys
namespace Go.Proofs.Ytpkikibcfkdodaa
open Go Go.RowKit
theorem part_byte (w : World) (a : List UInt8) (i : Nat) (h : i < a.length) : (part 5 (bc a).toArray i).run Try.prog w = .ok (.int .u8 (byteAt a i : Int)) w := by
  have hb := bc_byteAt h
  have h5 := Try.isAgg5
  simp [part, h5, hb]
theorem eq_byte (w : World) (x y : Nat) : (Op.equalIn 9999 5 (.int .u8 (x : Int)) (.int .u8 (y : Int))).run Try.prog w = .ok (decide (x = y)) w := by
  rw [run_equalIn_int w 9998 5 .u8 .u8 _ _ Try.underlying5]
  congr 1
  by_cases h : x = y <;> simp [h]
  omega
theorem eqItems_bytes (w : World) (a b : List UInt8) : ∀ is : List Nat, (∀ i ∈ is, i < a.length ∧ i < b.length) →
    (Op.eqItems 9999 5 1 (bc a).toArray (bc b).toArray is).run Try.prog w = .ok (is.all fun i => decide (byteAt a i = byteAt b i)) w
  | [], _ => by simp [Op.eqItems]
  | i :: is, h => by
    have h1 := h i (by simp)
    have ih := eqItems_bytes w a b is fun j hj => h j (by simp [hj])
    simp only [Op.eqItems, Sem.run_bind, Nat.mul_one, part_byte w a i h1.1, part_byte w b i h1.2, Result.andThen_ok, eq_byte, List.all_cons]
    by_cases e : byteAt a i = byteAt b i
    · simp [e, ih]
    · simp [e]
theorem all_bytes {a b : List UInt8} (ha : a.length = 32) (hb : b.length = 32) : ((List.range 32).all fun i => decide (byteAt a i = byteAt b i)) = decide (a = b) := by
  rw [Bool.eq_iff_iff]
  simp only [List.all_eq_true, List.mem_range, decide_eq_true_eq]
  constructor
  · intro h
    apply List.ext_getElem (by omega)
    intro i h1 h2
    have := h i (by omega)
    unfold byteAt at this
    rw [List.getElem?_eq_getElem h1, List.getElem?_eq_getElem h2] at this
    exact UInt8.toNat_inj.1 this
  · rintro rfl i _
    rfl
theorem eqArr (t : TypeId) (hu : Try.prog.underlying t = some (.array 32 5)) (w : World) (a b : List UInt8) (ha : a.length = 32) (hb : b.length = 32) : (Op.equalIn 10000 t (.agg (bc a).toArray) (.agg (bc b).toArray)).run Try.prog w = .ok (decide (a = b)) w := by
  obtain ⟨i, hi⟩ := info_of_underlying Try.underlying5
  have hc : Try.prog.cellsOf 5 = 1 := by kernel_rfl
  rw [show (10000 : Nat) = 9999 + 1 from rfl, run_equalIn_array w 9999 _ _ hu hi, hc, eqItems_bytes w a b _ (fun i hi => by rw [List.mem_range] at hi; omega), all_bytes ha hb]
theorem eq25 (w : World) (a b : List UInt8) (ha : a.length = 32) (hb : b.length = 32) : (Op.equalIn 10000 25 (.agg (bc a).toArray) (.agg (bc b).toArray)).run Try.prog w = .ok (decide (a = b)) w := eqArr 25 Try.underlying25 w a b ha hb
theorem eq32 (w : World) (a b : List UInt8) (ha : a.length = 32) (hb : b.length = 32) : (Op.equalIn 10000 32 (.agg (bc a).toArray) (.agg (bc b).toArray)).run Try.prog w = .ok (decide (a = b)) w := eqArr 32 Try.underlying32 w a b ha hb
/-- Where the names of a row stand. -/
structure IDs (w : World) (sp : Option Addr) (l : List (List UInt8)) : Prop where
  len : ∀ m ∈ l, m.length = 32
  at_ : 0 < l.length → ∃ g o, sp = some ⟨g, o, none⟩ ∧ ∀ i m, l[i]? = some m → ∀ j v, (bc m)[j]? = some v → w.cell? ⟨g, o + i * 32 + j, none⟩ = some v
theorem IDs.below {w w' : World} {B : Nat} {sp : Option Addr} {l : List (List UInt8)} (h : IDs w sp l) (hb : Below B w w') (hg : ∀ g o, sp = some ⟨g, o, none⟩ → g < B) : IDs w' sp l :=
  ⟨h.len, fun hl => by
    obtain ⟨g, o, e, hr⟩ := h.at_ hl
    refine ⟨g, o, e, fun i m hi j v hv => ?_⟩
    have h0 := hr i m hi j v hv
    have := hb.block g (hg g o e)
    simp only [World.cell?, this]
    exact h0⟩
theorem ld_mid {w : World} {g o : Nat} {m : List UInt8} (hm : m.length = 32) (h : ∀ j v, (bc m)[j]? = some v → w.cell? ⟨g, o + j, none⟩ = some v) : (loadCells ⟨g, o, none⟩ 32).run Try.prog w = .ok (bc m).toArray w := by
  have h1 := run_loadCells_list (P := Try.prog) w ⟨g, o, none⟩ (bc m) (fun j v hv => by
    have hadd : (⟨g, o, none⟩ : Addr).add j = ⟨g, o + j, none⟩ := by unfold Addr.add; split <;> simp_all
    rw [hadd]; exact h j v hv)
  rw [bc_len, hm] at h1
  exact h1
theorem st25 (W : World) (m : List UInt8) (hm : m.length = 32) : (storeCells ⟨W.heap.size, 0, none⟩ (bc m) 0).run Try.prog (W.alloc (.cells #[.int .u8 0, .int .u8 0, .int .u8 0, .int .u8 0, .int .u8 0, .int .u8 0, .int .u8 0, .int .u8 0, .int .u8 0, .int .u8 0, .int .u8 0, .int .u8 0, .int .u8 0, .int .u8 0, .int .u8 0, .int .u8 0, .int .u8 0, .int .u8 0, .int .u8 0, .int .u8 0, .int .u8 0, .int .u8 0, .int .u8 0, .int .u8 0, .int .u8 0, .int .u8 0, .int .u8 0, .int .u8 0, .int .u8 0, .int .u8 0, .int .u8 0, .int .u8 0] 25)) = .ok () (W.alloc (.cells (bc m).toArray 25)) := by
  have h := run_storeCells_new (P := Try.prog) W 25 (Array.replicate 32 (.int .u8 0)) (bc m).toArray (by rw [List.size_toArray, bc_len, hm]; kernel_rfl) (by simp [Lib.byteCells, hm]) (by rw [List.all_toArray, List.all_eq_true]; exact bc_one _)
  exact h
theorem st32 (W : World) (m : List UInt8) (hm : m.length = 32) : (storeCells ⟨W.heap.size, 0, none⟩ (bc m) 0).run Try.prog (W.alloc (.cells #[.int .u8 0, .int .u8 0, .int .u8 0, .int .u8 0, .int .u8 0, .int .u8 0, .int .u8 0, .int .u8 0, .int .u8 0, .int .u8 0, .int .u8 0, .int .u8 0, .int .u8 0, .int .u8 0, .int .u8 0, .int .u8 0, .int .u8 0, .int .u8 0, .int .u8 0, .int .u8 0, .int .u8 0, .int .u8 0, .int .u8 0, .int .u8 0, .int .u8 0, .int .u8 0, .int .u8 0, .int .u8 0, .int .u8 0, .int .u8 0, .int .u8 0, .int .u8 0] 32)) = .ok () (W.alloc (.cells (bc m).toArray 32)) := by
  have h := run_storeCells_new (P := Try.prog) W 32 (Array.replicate 32 (.int .u8 0)) (bc m).toArray (by rw [List.size_toArray, bc_len, hm]; kernel_rfl) (by simp [Lib.byteCells, hm]) (by rw [List.all_toArray, List.all_eq_true]; exact bc_one _)
  exact h
end Go.Proofs.Ytpkikibcfkdodaa
