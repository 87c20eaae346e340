/-
  index.Conflicts, files.Paths, status.Tracked, status.allPaths: paths sorted, each once.
-/
import Derived.Test.YtapcnmnnichamaaGreatDoorSStage
import Derived.Test.YtapcnmnnichamaaGreatDoorSSort
namespace Go.Proofs.YtapcnmnnichamaaGreatDoor
open Go.RowKit

/-- The paths that are in conflict. -/
def confE (l : List En) : List ByteArray := (l.filter fun e => decide (e.2.1 ≠ 0)).map (·.1)
theorem confE_snoc (l : List En) (e : En) : confE (l ++ [e]) = confE l ++ (if e.2.1 ≠ 0 then [e.1] else []) := by
  unfold confE
  rw [List.filter_append, List.map_append]
  congr 1
  by_cases h : e.2.1 = 0 <;> simp [h]
theorem confE_len (l : List En) : (confE l).length ≤ l.length := by
  unfold confE
  rw [List.length_map]
  exact List.length_filter_le _ _
theorem str_snoc (l : List ByteArray) (s : ByteArray) : (l ++ [s]).map Value.string = l.map Value.string ++ [.string s] := by simp

/-- A row of texts of the call's own. -/
def TextsTo (ss : List ByteArray) (w : World) (e : Ending) (w' : World) : Prop :=
  ∃ u, e = .returned u ∧ w'.ownsRow w.heap.size 9 1 u ss.length (ss.map Value.string) ∧ Below w.heap.size w w'

/-- The paths of trees. -/
def pathsR (rs : List (Value × List Fl)) : List ByteArray := rs.flatMap fun r => r.2.map (·.1)
theorem pathsR_snoc (rs : List (Value × List Fl)) (r : Value × List Fl) : pathsR (rs ++ [r]) = pathsR rs ++ r.2.map (·.1) := by simp [pathsR]
theorem pathsR_take (rs : List (Value × List Fl)) (i : Nat) : (pathsR (rs.take i)).length ≤ (pathsR rs).length := by
  conv => rhs; rw [← List.take_append_drop i rs]
  unfold pathsR
  rw [List.flatMap_append, List.length_append]
  omega
/-- Trees in a row. -/
def Trees (w : World) (ad : Addr) (rs : List (Value × List Fl)) : Prop := ∀ (i : Nat) (r : Value × List Fl), rs[i]? = some r → w.cell? (ad.add i) = some r.1 ∧ Reads 3 cF w r.1 r.2
theorem Trees.below {w w' : World} {ad : Addr} {rs : List (Value × List Fl)} (h : Trees w ad rs) (hb : Below w.heap.size w w') : Trees w' ad rs := fun i r hr =>
  ⟨(hb.cell (World.block_lt_of_cell? _ _ (h i r hr).1)).trans (h i r hr).1, (h i r hr).2.below hb⟩

set_option maxHeartbeats 4000000 in
theorem paths_any (w : World) (ad : Addr) (c : Nat) (rs : List (Value × List Fl)) (h : Trees w ad rs) (hl : rs.length ≤ 1000) (hp : (pathsR rs).length ≤ 100000) :
    Calls Tryz.prog 21 #[.slice (some ad) rs.length c] w (TextsTo (nrm (pathsR rs)) w) := by
  have hnm : rs.length ≤ 9223372036854775807 := by omega
  have HO := Lib.hid h
  obtain ⟨i0, hi, hz0, hz1, hz2⟩ := info_parts strInfo
  clear h
  go_enter Tryz.func21, Tryz.ntmps21
  go_wp2
  go_loopw [3, 10] (fun s3 s10 wr => ∃ i : Nat, i ≤ rs.length ∧ s10 = .int .i64 i ∧ Hid (wr.ownsRow w.heap.size 9 1 s3 (pathsR (rs.take i)).length ((pathsR (rs.take i)).map Value.string)) ∧ Below w.heap.size w wr) (fun _ s10 _ => rs.length - (intOf s10).toNat)
  case atStart => exact ⟨0, Nat.zero_le _, rfl, Lib.hid (World.ownsRow_nil _ _ _ _), Below.refl _ _⟩
  case round =>
    obtain ⟨i, hil, rfl, hown, hb⟩ := hrel
    by_cases hlt : i < rs.length
    · obtain ⟨r, hr⟩ : ∃ r, rs[i]? = some r := ⟨_, List.getElem?_eq_getElem hlt⟩
      have HT := Lib.hid (show pathsR (rs.take (i + 1)) = pathsR (rs.take i) ++ r.2.map (·.1) by rw [take_snoc hr, pathsR_snoc])
      have hle := pathsR_take rs (i + 1)
      rw [HT.out, List.length_append, List.length_map] at hle
      have c0 := ((HO.out.below hb) i r hr).1
      have hrd := (HO.out i r hr).2
      obtain ⟨rv, l⟩ := r
      obtain ⟨B, d, hrv⟩ := hrd.form
      simp only at hrv
      subst hrv
      have hnl := hrd.len
      have HR := Lib.hid hrd
      have i0' : (0 : Int) ≤ (i : Int) := Int.natCast_nonneg _
      have hi1 : (i : Int) < (rs.length : Int) := by omega
      have hcl := World.block_lt_of_cell? _ _ c0
      have hsz := hb.size
      have hlm : l.length ≤ 9223372036854775807 := by simp only at hle; omega
      obtain ⟨acc, hacc⟩ : ∃ acc, acc = pathsR (rs.take i) := ⟨_, rfl⟩
      rw [← hacc] at hown HT hle
      clear hr hrd hnl hacc
      go_wp2
      go_loopw [3, 16] (fun s3 s16 wq => ∃ j : Nat, j ≤ l.length ∧ s16 = .int .i64 j ∧ Hid (wq.ownsRow w.heap.size 9 1 s3 (acc.length + j) ((acc ++ (l.take j).map (·.1)).map Value.string)) ∧ Below w.heap.size w wq) (fun _ s16 _ => l.length - (intOf s16).toNat)
      case atStart => exact ⟨0, Nat.zero_le _, rfl, Lib.hid (by rw [List.take_zero, List.map_nil, List.append_nil]; exact hown.out), hb⟩
      case round =>
        obtain ⟨j, hjl, rfl, hown, hb⟩ := hrel
        by_cases hjt : j < l.length
        · obtain ⟨f, hf⟩ : ∃ f, l[j]? = some f := ⟨_, List.getElem?_eq_getElem hjt⟩
          obtain ⟨ad2, rfl, c0, c1, c2⟩ := Fils.at_ (HR.out.below hb) hf
          obtain ⟨p, m, dd⟩ := f
          have HE := Lib.hid (show acc ++ (l.take (j + 1)).map (fun x => x.1) = (acc ++ (l.take j).map (fun x => x.1)) ++ [p] by rw [take_snoc hf]; simp)
          have j0' : (0 : Int) ≤ (j : Int) := Int.natCast_nonneg _
          have hj1 : (j : Int) < (l.length : Int) := by omega
          have hcl := World.block_lt_of_cell? _ _ c0
          have hsz := hb.size
          have hown4 := ((hown.out.alloc (.cells #[.string p, .int .i64 m, .string dd] 49)).alloc (.cells #[.string p] 9))
          have hnews := news_one (wr.alloc (.cells #[.string p, .int .i64 m, .string dd] 49)) #[.string p] 9 (wr.heap.size + 1) (by simp)
          clear hf
          go_wp2_with (at_builtin; refine wpList_append_own _ rfl _ _ 27 rfl w.heap.size 9 i0 (.string { data := #[] }) 1 16 Tryz.underlying27 hi hz0 hz1 hz2 rfl (by decide) _ _ _ rfl hown4 ⟨wr.heap.size + 1, 0, none⟩ 1 1 [.string p] rfl rfl hnews (by simp [Value.oneCell']) (by unfold maxLen; omega) (by omega) (by simp; omega) ?_; intro v5 w5 hown5 hg5 _)
          have hb5 : Below w.heap.size w w5 := ((hb.alloc hsz _).alloc (by simp; omega) _).grown hg5 (by simp; omega) (fun k hk => (hown.out.lt k hk).1)
          clear hnews hown4 hg5
          go_roundw
          case rel => exact ⟨j + 1, by omega, by go_num, Lib.hid (by rw [HE.out, str_snoc, ← Nat.add_assoc]; exact hown5), hb5⟩
          case measure => simp [intOf]; omega
        · obtain rfl : j = l.length := by omega
          go_wp2
          go_roundw
          case rel => exact ⟨i + 1, by omega, by go_num, Lib.hid (by rw [HT.out, List.length_append, List.length_map]; rw [List.take_length] at hown; exact hown.out), hb⟩
          case measure => simp [intOf]; omega
    · obtain rfl : i = rs.length := by omega
      rw [List.take_length] at hown
      go_wp2_with fail
      refine (sort_own wr _ _ _ hown.out (by omega)).mono ?_
      rintro e w2 ⟨rfl, ho2, hb2⟩
      go_wp2_with fail
      refine (compact_own w2 _ _ _ _ ho2 (by omega)).mono ?_
      rintro e w3 ⟨u, rfl, ho3, hb3⟩
      go_wp2
      go_ret
      exact ⟨_, rfl, ho3, (hb.trans hb2).trans hb3⟩
end Go.Proofs.YtapcnmnnichamaaGreatDoor
