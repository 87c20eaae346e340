/-
  rectolaw19.known is true.
-/
import Derived.Test.YtkdoccmflknipaaSKnown
namespace Go.Proofs.Ytkdoccmflknipaa
open Go.RowKit

def YesTo (w : World) (e : Ending) (w' : World) : Prop := e = .returned (.bool true) ∧ Below w.heap.size w w'
/-- A tree laid in a block of its own. -/
theorem reads_block {w : World} {g : Nat} {cs : Array Value} {l : List Fl} {t : TypeId} (h : w.heap[g]? = some (.cells cs t (0, 0))) (hc : cs.toList = l.flatMap cF) (hl : l.length ≤ maxLen) :
    Reads 3 cF w (.slice (some ⟨g, 0, none⟩) l.length l.length) l := by
  refine ⟨some ⟨g, 0, none⟩, l.length, rfl, Nat.le_refl _, hl, (fun h => by cases h), fun ad ha i x hx j u hu => ?_⟩
  obtain rfl := Option.some.inj ha
  have hj : j < 3 := by rw [← cF_len x]; exact (List.getElem?_eq_some_iff.1 hu).1
  have e : cs[i * 3 + j]? = some u := by rw [← Array.getElem?_toList, hc, flat_at cF_len l i j x hx hj]; exact hu
  have := (cell_of_row w g (i * 3 + j) cs t (0, 0) h).trans e
  cases j with
  | zero => unfold adr; rw [add_zero_addr]; exact this
  | succ j => unfold adr; rw [add_zero_addr]; exact this

set_option maxRecDepth 100000 in
set_option maxHeartbeats 4000000 in
theorem known_yes (w : World) : Calls Try.prog 6 #[] w (YesTo w) := by
  obtain ⟨W2, hW2⟩ : ∃ W2, W2 = (w.alloc (.cells #[.string ⟨#[97]⟩, .int .i64 1, .string ⟨#[120]⟩] 56)).alloc (.cells #[.string ⟨#[97]⟩, .int .i64 1, .string ⟨#[121]⟩, .string ⟨#[98]⟩, .int .i64 1, .string ⟨#[]⟩] 56) := ⟨_, rfl⟩
  have B2 : Below w.heap.size w W2 := by rw [hW2]; exact ((Below.refl _ _).alloc (Nat.le_refl _) _).alloc (by simp) _
  have RH : Hid (Reads 3 cF W2 (.slice (some ⟨w.heap.size, 0, none⟩) 1 1) kh) := Lib.hid (by rw [hW2]; exact reads_block (l := kh) (heap_alloc2_old w _ _) rfl (by decide))
  have RW : Hid (Reads 3 cF W2 (.slice (some ⟨w.heap.size + 1, 0, none⟩) 2 2) kw) := Lib.hid (by rw [hW2]; exact reads_block (l := kw) (heap_alloc2_new w _ _) rfl (by decide))
  have O := Lib.hid (of_any W2 _ kh RH.out (by decide))
  have s2 := B2.size
  go_enter Try.func6, Try.ntmps6
  go_wp2_with fail
  rw [← hW2]
  clear hW2
  refine O.out.mono ?_
  rintro e w3 ⟨v3, rfl, ho3, b3⟩
  obtain ⟨A3, c3, rfl⟩ := own_form ho3
  have R3 := Lib.hid (Reads.of_own cE_len ho3)
  have R := Lib.hid (rows_any w3 _ _ _ kh (kh.map toE) kw (RH.out.below b3) R3.out (RW.out.below b3) (by decide) (by decide) (by decide) kh_rise (by rw [stageE_toE]; exact kh_rise) kw_rise)
  rw [known_rows] at R
  have B3 := B2.trans (b3.mono s2)
  have s3 := B3.size
  have RH3 := Lib.hid (RH.out.below b3)
  clear O ho3 R3 RH RW
  go_wp2_with fail
  refine R.out.mono ?_
  rintro e w4 ⟨v4, rfl, ho4, b4⟩
  have T := Lib.hid (tracked_any w4 _ _ kh [] (RH3.out.below b4) (Reads.nil _) (by decide) (by decide))
  rw [known_tracked] at T
  have B4 := B3.trans (b4.mono s3)
  have s4 := B4.size
  rcases ho4.2 with ⟨_, h0⟩ | ⟨g, cap, cur, rfl, hg, hgb, hn, hcm, hcs, ht⟩
  · cases h0
  simp only [List.length_cons, List.length_nil, Nat.zero_add, Nat.reduceAdd] at ho4 hn ⊢
  have R4 := Lib.hid (Reads.of_own (l := [(⟨#[97]⟩, 32, 77), (⟨#[98]⟩, 32, 63)]) cL_len ho4)
  have Q4 := Lib.hid (reads_tail (x := (⟨#[97]⟩, 32, 77)) (l := [(⟨#[98]⟩, 32, 63)]) cL_len (by decide) ho4)
  have HO4 := Lib.hid ho4
  clear R b3 b4 RH3 ho4 hgb hcs ht hg
  go_wp2_with fail
  refine T.out.mono ?_
  rintro e w5 ⟨v5, rfl, ho5, b5⟩
  obtain ⟨A5, c5, rfl⟩ := own_form ho5
  have B5 := B4.trans (b5.mono s4)
  have s5 := B5.size
  have O5 := own_keep HO4.out b5
  have x1 : w5.cell? ⟨g, 1, none⟩ = some (.int .u8 32) := O5.cellAt 1 (by decide)
  have x2 : w5.cell? ⟨g, 2, none⟩ = some (.int .u8 77) := O5.cellAt 2 (by decide)
  have y2 : w5.cell? ⟨g, 5, none⟩ = some (.int .u8 63) := O5.cellAt 5 (by decide)
  have R5 := Lib.hid (R4.out.below b5)
  have Q5 := Lib.hid (Q4.out.below b5)
  have X := Lib.hid (text_any w5 _ [(⟨#[97]⟩, 32, 77), (⟨#[98]⟩, 32, 63)] R5.out (by decide) (fun x hx => by
    simp only [List.mem_cons, List.not_mem_nil, or_false] at hx
    rcases hx with rfl | rfl
    · exact ⟨by decide, ⟨by decide, by decide⟩, ⟨by decide, by decide⟩⟩
    · exact ⟨by decide, ⟨by decide, by decide⟩, ⟨by decide, by decide⟩⟩))
  rw [known_text] at X
  clear b5 O5 R4 Q4 HO4 T ho5
  go_wp2_with fail
  refine X.out.mono ?_
  rintro e w6 ⟨rfl, b6⟩
  have C1 := Lib.hid (clean_any w6 _ [(⟨#[97]⟩, 32, 77), (⟨#[98]⟩, 32, 63)] (R5.out.below b6) (by decide))
  rw [show cleanB [((⟨#[97]⟩ : ByteArray), (32 : Int), (77 : Int)), (⟨#[98]⟩, 32, 63)] = false from rfl] at C1
  have Q6 := Lib.hid (Q5.out.below b6)
  have B6 := B5.trans (b6.mono s5)
  have s6 := B6.size
  clear X b6 Q5 R5 x1 x2 y2
  go_wp2_with fail
  refine C1.out.mono ?_
  rintro e w7 ⟨rfl, b7⟩
  have C2 := Lib.hid (clean_any w7 _ [(⟨#[98]⟩, 32, 63)] (Q6.out.below b7) (by decide))
  rw [show cleanB [((⟨#[98]⟩ : ByteArray), (32 : Int), (63 : Int))] = true from rfl] at C2
  have B7 := B6.trans (b7.mono s6)
  have s7 := B7.size
  have hcap : ¬ cap = 1 := by omega
  clear C1 b7 Q6
  go_wp2_with fail
  refine C2.out.mono ?_
  rintro e w8 ⟨rfl, b8⟩
  have B8 := B7.trans (b8.mono s7)
  go_wp2_with fail
  go_ret
  exact ⟨rfl, B8⟩
end Go.Proofs.Ytkdoccmflknipaa
