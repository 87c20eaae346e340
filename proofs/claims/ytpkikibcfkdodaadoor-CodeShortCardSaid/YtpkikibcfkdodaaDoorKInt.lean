/-
  (*Enc).Int.
-/
import Derived.Test.YtpkikibcfkdodaaDoorKNum
namespace Go.Proofs.YtpkikibcfkdodaaDoor
open Go Go.RowKit

abbrev ints (ns : List Int) : Array Value := (ns.map (Value.int .i64)).toArray
theorem ints_at {ns : List Int} {i : Nat} {n : Int} (h : ns[i]? = some n) : (ints ns)[i]? = some (.int .i64 n) := by
  show (List.toArray _)[i]? = _
  rw [List.getElem?_toArray, List.getElem?_map, h]; rfl
def In64 (ns : List Int) : Prop := ∀ n ∈ ns, -9223372036854775808 ≤ n ∧ n ≤ 9223372036854775807
def encIs (ns : List Int) : List UInt8 := ns.flatMap encI
theorem encIs_take {ns : List Int} {k : Nat} {n : Int} (h : ns[k]? = some n) : encIs (ns.take (k + 1)) = encIs (ns.take k) ++ encI n := by
  have hlt := (List.getElem?_eq_some_iff.1 h).1
  have e := (List.getElem?_eq_some_iff.1 h).2
  unfold encIs
  rw [List.take_succ_eq_append_getElem hlt, e, List.flatMap_append]; simp
theorem encI_len {n : Int} (h : -9223372036854775808 ≤ n ∧ n ≤ 9223372036854775807) : (encI n).length ≤ 10 := enc_len (zz_lt h.1 h.2)
theorem encIs_len {ns : List Int} (h : In64 ns) : ∀ k, (encIs (ns.take k)).length ≤ k * 10
  | 0 => by simp [encIs]
  | k + 1 => by
    have ih := encIs_len h k
    cases e : ns[k]? with
    | none =>
      have : ns.length ≤ k := List.getElem?_eq_none_iff.1 e
      rw [List.take_of_length_le (by omega)]
      rw [List.take_of_length_le (by omega)] at ih
      omega
    | some n =>
      rw [encIs_take e, List.length_append]
      have := encI_len (h n (List.mem_of_getElem? e))
      omega

theorem zz_go {n : Int} (h : -9223372036854775808 ≤ n ∧ n ≤ 9223372036854775807) : bits .xor .u64 (IntKind.u64.wrap (IntKind.u64.wrap n * 2)) (IntKind.u64.wrap (n / 9223372036854775808)) = (zz n : Int) := by
  rw [IntKind.wrap_u64, IntKind.wrap_u64, IntKind.wrap_u64]
  by_cases h0 : 0 ≤ n
  · obtain ⟨m, rfl⟩ := Int.eq_ofNat_of_zero_le h0
    rw [show (m : Int) % 18446744073709551616 * 2 % 18446744073709551616 = ((2 * m : Nat) : Int) by omega, show (m : Int) / 9223372036854775808 % 18446744073709551616 = 0 by omega, u64_xor0 _ (by omega), zz_pos h0]
    omega
  · obtain ⟨m, hm⟩ : ∃ m : Nat, (m : Int) = 2 * n + 18446744073709551616 := ⟨(2 * n + 18446744073709551616).toNat, by omega⟩
    rw [show n % 18446744073709551616 * 2 % 18446744073709551616 = (m : Int) by omega, show n / 9223372036854775808 % 18446744073709551616 = 18446744073709551615 by omega, u64_xor_ones _ (by omega), zz_neg h0]
    omega

set_option maxRecDepth 100000 in
set_option maxHeartbeats 2000000 in
theorem encInt_any (w : World) (B E g : Nat) (v : Value) (l : List UInt8) (ns : List Int) (h : EncAt w B E v l) (hg : Blk w g 3 (ints ns)) (hn : In64 ns) (hl : l.length ≤ 900000) (hnl : ns.length ≤ 1000) (hBw : B ≤ w.heap.size) :
    Calls Tryd.prog 23 #[.pointer (some ⟨E, 0, none⟩), .slice (some ⟨g, 0, none⟩) ns.length ns.length] w fun e w' => e = .returned (.tuple #[]) ∧ Put w B E v (l ++ encIs ns) w' := by
  have H0 := Lib.hid h
  have HG := Lib.hid hg
  have HN := Lib.hid hn
  clear h hg hn
  go_enter Tryd.func23, Tryd.ntmps23
  go_wp2_with fail
  go_loopw [8] (fun s8 wr => ∃ (k : Nat) (v2 : Value), s8 = .int .i64 k ∧ k ≤ ns.length ∧ EncAt wr B E v2 (l ++ encIs (ns.take k)) ∧ Touch w wr E v.ownBlock ∧ Same1 w v.ownBlock v2.ownBlock) (fun s8 _ => ns.length - (intOf s8).toNat)
  case atStart => exact ⟨0, v, rfl, Nat.zero_le _, by simpa [encIs] using H0.out, Touch.refl _ _ _, .inl rfl⟩
  case round =>
    obtain ⟨k, v2, rfl, hk, hE, hT, hS⟩ := hrel
    have k0 : (0 : Int) ≤ (k : Int) := Int.natCast_nonneg _
    by_cases hlt : k < ns.length
    · have k1 : (k : Int) < (ns.length : Int) := by omega
      obtain ⟨n, hx⟩ : ∃ n, ns[k]? = some n := ⟨_, List.getElem?_eq_getElem hlt⟩
      have HB := Lib.hid (HN.out n (List.mem_of_getElem? hx))
      have hgr := hT.blk HG.out (HG.out.ne_ H0.out.blk (by decide)) (fun e => own_blk_ne H0.out.own HG.out (by decide) e.symm)
      have x0 : wr.cell? ⟨g, k, none⟩ = some (.int .i64 n) := by rw [hgr.cell, ints_at hx]
      have HT := Lib.hid hT
      have HE := Lib.hid hE
      have HS := Lib.hid hS
      have hxx := Lib.hid hx
      clear hT hE hS hgr hx
      go_wp2_with fail
      rw [zz_go HB.out]
      refine (number_any wr B E v2 _ (zz n) HE.out (zz_lt HB.out.1 HB.out.2) (by rw [List.length_append]; have := encIs_len HN.out k; omega) (Nat.le_trans hBw HT.out.size)).mono ?_
      rintro e w5 ⟨rfl, v5, hE5, hT5, hS5⟩
      have HE5 : Hid (EncAt w5 B E v5 (l ++ encIs (ns.take (k + 1)))) := Lib.hid (by rw [encIs_take hxx.out, ← List.append_assoc]; exact hE5)
      have HT5 := Lib.hid (HT.out.trans HS.out hT5)
      have HS5 := Lib.hid (HS.out.trans HT.out.size hS5)
      clear hE5 hT5 hS5
      go_wp2_with fail
      go_roundw
      case rel => exact ⟨k + 1, v5, by go_num, hlt, HE5.out, HT5.out, HS5.out⟩
      case measure => simp [intOf]; omega
    · obtain rfl : k = ns.length := by omega
      rw [List.take_length] at hE
      go_wp2
      go_end0
      exact ⟨rfl, v2, hE, hT, hS⟩
#print axioms encInt_any
end Go.Proofs.YtpkikibcfkdodaaDoor
