/-
  index.Of, index.Stage: a tree as entries, and the entries of a stage as a tree.
-/
import Derived.Test.YtplleaimmmanhaaDoorSApp
namespace Go.Proofs.YtplleaimmmanhaaDoor
open Go.RowKit

/-- A file as an entry that is next. -/
def toE (f : Fl) : En := (f.1, 0, f.2.1, f.2.2, 0, 0)
/-- An entry's file. -/
def toF (e : En) : Fl := (e.1, e.2.2.1, e.2.2.2.1)
def stageE (l : List En) (n : Int) : List Fl := (l.filter fun e => decide (e.2.1 = n)).map toF
theorem flat_snoc {α : Type} (enc : α → List Value) (l : List α) (x : α) : (l ++ [x]).flatMap enc = l.flatMap enc ++ enc x := by simp
/-- A row of the call's own. -/
def OwnTo {α : Type} (ty : TypeId) (k : Nat) (enc : α → List Value) (l : List α) (w : World) (e : Ending) (w' : World) : Prop :=
  ∃ u, e = .returned u ∧ w'.ownsRow w.heap.size ty k u l.length (l.flatMap enc) ∧ Below w.heap.size w w'
theorem take_snoc {α : Type} {l : List α} {i : Nat} {x : α} (h : l[i]? = some x) : l.take (i + 1) = l.take i ++ [x] := by
  obtain ⟨hi, rfl⟩ := List.getElem?_eq_some_iff.1 h
  exact List.take_succ_eq_append_getElem hi

set_option maxHeartbeats 2000000 in
theorem of_any (w : World) (v : Value) (l : List Fl) (h : Reads 3 cF w v l) (hl : l.length ≤ 100000) :
    Calls Tryd.prog 48 #[v] w (OwnTo 57 6 cE (l.map toE) w) := by
  obtain ⟨A, c, rfl⟩ := h.form
  have hn := h.len
  have hnm : l.length ≤ 9223372036854775807 := by omega
  have HO := Lib.hid h
  obtain ⟨i0, hi, hz0, hz1, hz2⟩ := info_parts entryInfo
  clear h hn
  go_enter Tryd.func48, Tryd.ntmps48
  go_wp2
  go_loopw [3, 8] (fun s3 s8 wr => ∃ i : Nat, i ≤ l.length ∧ s8 = .int .i64 i ∧ Hid (wr.ownsRow w.heap.size 57 6 s3 i (((l.take i).map toE).flatMap cE)) ∧ Below w.heap.size w wr) (fun _ s8 _ => l.length - (intOf s8).toNat)
  case atStart => exact ⟨0, Nat.zero_le _, rfl, Lib.hid (World.ownsRow_nil _ _ _ _), Below.refl _ _⟩
  case round =>
    obtain ⟨i, hil, rfl, hown, hb⟩ := hrel
    by_cases hlt : i < l.length
    · obtain ⟨f, hf⟩ : ∃ f, l[i]? = some f := ⟨_, List.getElem?_eq_getElem hlt⟩
      obtain ⟨ad, rfl, c0, c1, c2⟩ := Fils.at_ (HO.out.below hb) hf
      obtain ⟨p, m, d⟩ := f
      have HF := Lib.hid hf
      have i0' : (0 : Int) ≤ (i : Int) := Int.natCast_nonneg _
      have hi1 : (i : Int) < (l.length : Int) := by omega
      have hcl := World.block_lt_of_cell? _ _ c0
      have hsz := hb.size
      have hown4 := ((hown.out.alloc (.cells #[.string p, .int .i64 m, .string d] 42)).alloc (.cells #[.string p, .int .i64 0, .int .i64 m, .string d, .int .i64 0, .int .i64 0] 57))
      have hnews := news_one (wr.alloc (.cells #[.string p, .int .i64 m, .string d] 42)) #[.string p, .int .i64 0, .int .i64 m, .string d, .int .i64 0, .int .i64 0] 57 (wr.heap.size + 1) (by simp)
      clear hf
      go_wp2_with (at_builtin; refine wpList_append_own _ rfl _ _ 54 rfl w.heap.size 57 i0 (.agg #[.string ⟨#[]⟩, .int .i64 0, .int .i64 0, .string ⟨#[]⟩, .int .i64 0, .int .i64 0]) 6 64 Tryd.underlying54 hi hz0 hz1 hz2 rfl (by decide) _ _ _ rfl hown4 ⟨wr.heap.size + 1, 0, none⟩ 1 1 [.string p, .int .i64 0, .int .i64 m, .string d, .int .i64 0, .int .i64 0] rfl rfl hnews (by simp [Value.oneCell']) (by unfold maxLen; omega) (by omega) (by simp; omega) ?_; intro v5 w5 hown5 hg5 _)
      have hb5 : Below w.heap.size w w5 := ((hb.alloc hsz _).alloc (by simp; omega) _).grown hg5 (by simp; omega) (fun k hk => (hown.out.lt k hk).1)
      clear hnews hown4 hg5
      go_roundw
      case rel => exact ⟨i + 1, by omega, by go_num, Lib.hid (by rw [take_snoc HF.out, List.map_append, List.map_cons, List.map_nil, flat_snoc]; exact hown5), hb5⟩
      case measure => simp [intOf]; omega
    · obtain rfl : i = l.length := by omega
      have HL : Hid (((l.take l.length).map toE).flatMap cE = (l.map toE).flatMap cE) := Lib.hid (by rw [List.take_length])
      go_wp2
      go_ret
      exact ⟨_, rfl, by rw [List.length_map, ← HL.out]; exact hown.out, hb⟩
end Go.Proofs.YtplleaimmmanhaaDoor
