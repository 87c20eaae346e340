/-
  (*Enc).Text, (*Enc).Bytes, bytes.Clone, Of.
-/
import Derived.Test.YtpkikibcfkdodaaDoorKInt
import Derived.Lib.AppendStr
import Derived.Lib.AppendZeros
namespace Go.Proofs.YtpkikibcfkdodaaDoor
open Go Go.RowKit

abbrev strV (ss : List ByteArray) : Array Value := (ss.map Value.string).toArray
theorem strV_at {ss : List ByteArray} {i : Nat} {s : ByteArray} (h : ss[i]? = some s) : (strV ss)[i]? = some (.string s) := by
  show (List.toArray _)[i]? = _
  rw [List.getElem?_toArray, List.getElem?_map, h]; rfl
def encTs (ss : List ByteArray) : List UInt8 := ss.flatMap encT
theorem encTs_take {ss : List ByteArray} {k : Nat} {s : ByteArray} (h : ss[k]? = some s) : encTs (ss.take (k + 1)) = encTs (ss.take k) ++ encT s := by
  have hlt := (List.getElem?_eq_some_iff.1 h).1
  have e := (List.getElem?_eq_some_iff.1 h).2
  unfold encTs
  rw [List.take_succ_eq_append_getElem hlt, e, List.flatMap_append]; simp
def Few300 (ss : List ByteArray) : Prop := ∀ s ∈ ss, s.size ≤ 300
theorem encT_len {s : ByteArray} (h : s.size ≤ 300) : (encT s).length ≤ 310 := by
  unfold encT
  rw [List.length_append]
  have := encI_len (n := (s.size : Int)) ⟨by omega, by omega⟩
  have e : s.data.toList.length = s.size := Array.length_toList
  omega
set_option maxRecDepth 100000 in
theorem encTs_len {ss : List ByteArray} (h : Few300 ss) : ∀ k, (encTs (ss.take k)).length ≤ k * 310
  | 0 => by simp [encTs]
  | k + 1 => by
    have ih := encTs_len h k
    cases e : ss[k]? with
    | none =>
      have : ss.length ≤ k := List.getElem?_eq_none_iff.1 e
      rw [List.take_of_length_le (show ss.length ≤ k + 1 by omega)]
      rw [List.take_of_length_le this] at ih
      omega
    | some n =>
      rw [encTs_take e, List.length_append]
      have := encT_len (h n (List.mem_of_getElem? e))
      omega

theorem str_at {w w' : World} {base n : Nat} {v v' : Value} {xs : List Value} {s : ByteArray} {ty : TypeId} (hown : w.ownsRow base 5 1 v n xs) (h63 : n + s.size ≤ 1000000) (hbase : base ≤ w.heap.size)
    (hr : (Builtin.append_ #[39, 9] ty #[v, .string s]).run Tryd.prog w = .ok v' w') : v'.ownBlock = v.ownBlock ∨ v'.ownBlock = some w.heap.size := by
  obtain ⟨i0, hi0, hz0, hz1, hz2⟩ := info_parts byteInfo
  obtain ⟨v2, w2, hr2, _, _, h3⟩ := Lib.run_append_own_string (P := Tryd.prog) w base 39 9 ty 5 i0 Tryd.underlying39 Tryd.underlying9 hi0 hz0 hz1 hz2 v n xs hown s (by unfold maxLen; omega) (by omega) hbase
  rw [hr] at hr2
  injection hr2 with e1 e2
  subst e1
  have hxl : xs.length = n := by simpa using hown.1
  rcases hown.2 with ⟨rfl, h0⟩ | ⟨g, cap, cur, rfl, hbg, hg, hnc, hcm, hcs, htake⟩
  · by_cases hm : s.size = 0
    · rw [h3.2 ⟨rfl, hm⟩]; exact .inl rfl
    · have hr2 := run_append_nil_string (P := Tryd.prog) w 39 9 ty 5 i0 (.int .u8 0) Tryd.underlying39 Tryd.underlying9 hi0 hz0 s (by omega) (by omega) (by rw [hz2]; omega)
      rw [hr] at hr2
      injection hr2 with e1 e2
      subst e1; exact .inr rfl
  · by_cases hroom : n + s.size ≤ cap
    · have hcs' : cur.size = cap := by simpa using hcs
      have hr2 := Lib.run_append_room_string (P := Tryd.prog) w 39 9 ty 5 i0 Tryd.underlying39 Tryd.underlying9 hi0 hz1 g n cap cur hg s hroom (by omega)
      rw [hr] at hr2
      injection hr2 with e1 e2
      subst e1; exact .inl rfl
    · have holds : ∀ j u, xs[j]? = some u → w.cell? ((⟨g, 0, none⟩ : Addr).add j) = some u := hown.cells (g := g) rfl
      have hr2 := Lib.run_append_grow_string (P := Tryd.prog) w 39 9 ty 5 i0 (.int .u8 0) Tryd.underlying39 Tryd.underlying9 hi0 hz0 ⟨g, 0, none⟩ n cap xs (by rw [hz1]; simpa using hxl) holds s (by omega) (by omega) (by rw [hz2]; exact growslice_fits (by omega) (by omega))
      rw [hr] at hr2
      injection hr2 with e1 e2
      subst e1; exact .inr rfl

/-- A string's bytes behind a row's. -/
theorem append_str (w : World) (B : Nat) (v : Value) (l : List UInt8) (s : ByteArray) (ho : BOwn w B v l) (hl : l.length + s.size ≤ 1000000) (hB : B ≤ w.heap.size) :
    ∃ v' w', (∀ ty, (Builtin.append_ #[39, 9] ty #[v, .string s]).run Tryd.prog w = .ok v' w') ∧ BOwn w' B v' (l ++ s.data.toList) ∧ w.grownBy w' v.ownBlock ∧ Same1 w v.ownBlock v'.ownBlock := by
  obtain ⟨i0, hi0, hz0, hz1, hz2⟩ := info_parts byteInfo
  obtain ⟨v2, w2, hr2, h1, h2, h3⟩ := Lib.run_append_own_string (P := Tryd.prog) w B 39 9 39 5 i0 Tryd.underlying39 Tryd.underlying9 hi0 hz0 hz1 hz2 v _ _ ho s (by unfold maxLen; omega) (by omega) hB
  refine ⟨v2, w2, fun ty => hr2, ?_, h2, (str_at ho hl hB hr2).imp id fun h => ⟨_, h, Nat.le_refl _⟩⟩
  have e : s.data.toList.length = s.size := Array.length_toList
  show w2.ownsRow B 5 1 v2 _ _
  rw [List.length_append, e]
  show w2.ownsRow B 5 1 v2 _ (Lib.byteCells _)
  rw [Lib.byteCells_append]
  exact h1
theorem put_step0 {w wr w3 : World} {B E : Nat} {v v2 v3 : Value} {l2 l3 : List UInt8} (hE : EncAt wr B E v2 l2) (hT : Touch w wr E v.ownBlock) (hS : Same1 w v.ownBlock v2.ownBlock)
    (ho : BOwn w3 B v3 l3) (hg : wr.grownBy w3 v2.ownBlock) (hS3 : Same1 wr v2.ownBlock v3.ownBlock) :
    EncAt (w3.setCell ⟨E, 0, none⟩ v3) B E v3 l3 ∧ Touch w (w3.setCell ⟨E, 0, none⟩ v3) E v.ownBlock ∧ Same1 w v.ownBlock v3.ownBlock := by
  have hb : Blk w3 E 51 #[v2] := hE.blk.grown hg (fun e => hE.ne e.symm)
  have hne : v3.ownBlock ≠ some E := own_blk_ne ho hb (by decide)
  have hT4 : ∀ r, Touch w3 (w3.setCell ⟨E, 0, none⟩ v3) E r := fun r => ⟨rfl, rfl, rfl, by simp, fun k _ hk _ => Below.heap_setCell _ _ _ _ hk⟩
  refine ⟨⟨by have := hb.set_ 0 v3; simpa using this, (hT4 none).own ho hne (by cases h : v3.ownBlock <;> simp), hE.lo⟩, hT.trans hS ((Touch.of_grown hg).trans hS3 (hT4 _)), hS.trans hT.size hS3⟩

set_option maxRecDepth 100000 in
set_option maxHeartbeats 2000000 in
theorem encText_any (w : World) (B E g : Nat) (v : Value) (l : List UInt8) (ss : List ByteArray) (h : EncAt w B E v l) (hg : Blk w g 9 (strV ss)) (hn : Few300 ss) (hl : l.length ≤ 500000) (hnl : ss.length ≤ 1000) (hBw : B ≤ w.heap.size) :
    Calls Tryd.prog 43 #[.pointer (some ⟨E, 0, none⟩), .slice (some ⟨g, 0, none⟩) ss.length ss.length] w fun e w' => e = .returned (.tuple #[]) ∧ Put w B E v (l ++ encTs ss) w' := by
  obtain ⟨i0, hi0, hz0, hz1, hz2⟩ := info_parts byteInfo
  have H0 := Lib.hid h
  have HG := Lib.hid hg
  have HN := Lib.hid hn
  clear h hg hn
  go_enter Tryd.func43, Tryd.ntmps43
  go_wp2_with fail
  go_loopw [8] (fun s8 wr => ∃ (k : Nat) (v2 : Value), s8 = .int .i64 k ∧ k ≤ ss.length ∧ EncAt wr B E v2 (l ++ encTs (ss.take k)) ∧ Touch w wr E v.ownBlock ∧ Same1 w v.ownBlock v2.ownBlock) (fun s8 _ => ss.length - (intOf s8).toNat)
  case atStart => exact ⟨0, v, rfl, Nat.zero_le _, by simpa [encTs] using H0.out, Touch.refl _ _ _, .inl rfl⟩
  case round =>
    obtain ⟨k, v2, rfl, hk, hE, hT, hS⟩ := hrel
    have k0 : (0 : Int) ≤ (k : Int) := Int.natCast_nonneg _
    by_cases hlt : k < ss.length
    · have k1 : (k : Int) < (ss.length : Int) := by omega
      obtain ⟨s, hx⟩ : ∃ s, ss[k]? = some s := ⟨_, List.getElem?_eq_getElem hlt⟩
      have hsz := HN.out s (List.mem_of_getElem? hx)
      have hgr := hT.blk HG.out (HG.out.ne_ H0.out.blk (by decide)) (fun e => own_blk_ne H0.out.own HG.out (by decide) e.symm)
      have x0 : wr.cell? ⟨g, k, none⟩ = some (.string s) := by rw [hgr.cell, strV_at hx]
      have hlen := encTs_len HN.out k
      have HT := Lib.hid hT
      have HE := Lib.hid hE
      have HS := Lib.hid hS
      have hxx := Lib.hid hx
      have D := (Below.refl wr.heap.size wr).alloc (Nat.le_refl _) (.cells (ints [(s.size : Int)]) 3)
      have IN := Lib.hid (encInt_any _ B E wr.heap.size v2 _ [(s.size : Int)] (HE.out.below D) (Blk.new _ _ _) (fun n hn => by rw [List.mem_singleton.1 hn]; omega) (by rw [List.length_append]; omega) (by simp) (by have := HT.out.size; simp; omega))
      have HD := Lib.hid D
      clear hT hE hS hgr hx D
      go_wp2_with fail
      refine IN.out.mono ?_
      rintro e w5 ⟨rfl, v5, hE5, hT5, hS5⟩
      have hE5' : EncAt w5 B E v5 (l ++ encTs (ss.take k) ++ encI s.size) := by simpa [encIs] using hE5
      have hT5' : Touch wr w5 E v2.ownBlock := (Touch.of_below HD.out).trans (.inl rfl) hT5
      have hS5' : Same1 wr v2.ownBlock v5.ownBlock := hS5.imp id fun ⟨g, e, h⟩ => ⟨g, e, Nat.le_trans HD.out.size h⟩
      have hBw5 : B ≤ w5.heap.size := Nat.le_trans hBw (Nat.le_trans HT.out.size hT5'.size)
      have hli := encI_len (n := (s.size : Int)) ⟨by omega, by omega⟩
      obtain ⟨v6, w6, hr6, ho6, hg6, hs6⟩ := append_str w5 B v5 _ s hE5'.own (by rw [List.length_append, List.length_append]; omega) hBw5
      have PS := put_step0 hE5' (HT.out.trans HS.out hT5') (HS.out.trans HT.out.size hS5') ho6 hg6 hs6
      have b6 : Blk w6 E 51 #[v5] := hE5'.blk.grown hg6 (fun e => hE5'.ne e.symm)
      have c5 := hE5'.blk.cell 0
      have c6 := b6.cell 0
      have f6 := b6.frozen 0
      obtain ⟨A5, n5, c5', rfl⟩ : ∃ A n c, v5 = .slice A n c := by obtain ⟨A, c, h⟩ := own_form hE5'.own; exact ⟨A, _, c, h⟩
      obtain ⟨A6, n6, c6', rfl⟩ : ∃ A n c, v6 = .slice A n c := by obtain ⟨A, c, h⟩ := own_form ho6; exact ⟨A, _, c, h⟩
      have HPS := Lib.hid PS
      have HR6 := Lib.hid hr6
      clear hE5 hE5' hT5 hT5' hS5 hS5' ho6 hg6 hs6 b6 PS hr6 IN
      go_wp2_with (at_builtin; refine Lib.wpList_append_run _ rfl _ _ _ _ rfl _ _ rfl rfl _ _ (HR6.out _) ?_)
      have HE7 : Hid (EncAt (w6.setCell ⟨E, 0, none⟩ (.slice A6 n6 c6')) B E (.slice A6 n6 c6') (l ++ encTs (ss.take (k + 1)))) := Lib.hid (by have := HPS.out.1; rw [encTs_take hxx.out]; unfold encT; rw [← List.append_assoc, ← List.append_assoc]; exact this)
      go_roundw
      case rel => exact ⟨k + 1, _, by go_num, hlt, HE7.out, HPS.out.2.1, HPS.out.2.2⟩
      case measure => simp [intOf]; omega
    · obtain rfl : k = ss.length := by omega
      rw [List.take_length] at hE
      go_wp2
      go_end0
      exact ⟨rfl, v2, hE, hT, hS⟩
#print axioms encText_any
end Go.Proofs.YtpkikibcfkdodaaDoor
