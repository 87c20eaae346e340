/-
  slices.SortFunc with path.Compare and slices.Compact, at a row of the call's own: the paths sorted, each once.
-/
import Derived.Test.YtapcnmnnichamaaGreatDoorSMem
import Derived.Test.YtapcnmnnichamaaGreatDoorShelf
import Derived.Sort.OwnSorted
import Derived.Shelf.SlSortCmp.Whole1
namespace Go.Proofs.YtapcnmnnichamaaGreatDoor
open Go.RowKit Go.Lib Go.Sort

set_option maxHeartbeats 1000000 in
theorem comp_any (a b : ByteArray) (w : World) : Calls Tryz.prog 42 #[.string a, .string b] w fun e w' => e = .returned (.int .i64 (cb a b)) ∧ w' = w := by
  have h := Tryz.strings_Compare a b w
  go_enter Tryz.func42, Tryz.ntmps42
  go_wp2_with (go_at_call 66; refine h.mono ?_; rintro e w' ⟨rfl, rfl⟩)
  go_ret
  exact ⟨rfl, rfl⟩

theorem comp_reads (blk off size : Nat) (w : World) : CmpReads Tryz.prog 42 #[] encStr compareBytes blk off size w := fun m os dk _ x y =>
  (comp_any (mkB x) (mkB y) _).mono fun e w' ⟨he, hw⟩ => ⟨by rw [he]; unfold cb; simp [mkB], 0, by rw [hw]; rfl⟩

theorem enc_bsOf (ss : List ByteArray) : (ss.map bsOf).map encStr = ss.map Value.string := by
  rw [List.map_map]
  exact List.map_congr_left fun s _ => by simp [bsOf, encStr]
theorem enc_mkB (l : List Bs) : (l.map mkB).map Value.string = l.map encStr := by
  rw [List.map_map]
  exact List.map_congr_left fun s _ => rfl

set_option maxHeartbeats 1000000 in
theorem ins_none (p : Option Addr) (cap : Nat) (fv : Value) (w : World) : Calls Tryz.prog 86 #[.slice p 0 cap, .int .i64 0, .int .i64 0, fv] w fun e w' => e = .returned (.tuple #[]) ∧ w' = w := by
  go_enter Tryz.func86, Tryz.ntmps86
  go_wp2
  refine wp_loop_rounds 1 ?_
  rw [rounds_succ]
  go_wp2
  go_end0
  exact ⟨rfl, rfl⟩
set_option maxHeartbeats 1000000 in
theorem pdq_none (p : Option Addr) (cap : Nat) (lim : Int) (fv : Value) (w : World) : Calls Tryz.prog 64 #[.slice p 0 cap, .int .i64 0, .int .i64 0, .int .i64 lim, fv] w fun e w' => e = .returned (.tuple #[]) ∧ w' = w := by
  go_enter Tryz.func64, Tryz.ntmps64
  go_wp2
  refine wp_loop_rounds 1 ?_
  rw [rounds_succ]
  go_wp2_with (go_at_call 86; refine (ins_none p cap fv _).mono ?_; rintro e w' ⟨rfl, rfl⟩)
  (try simp only [Exit.inBlock, Exit.then]); refine bodyPost_ret (results_none rfl _ _ _) rfl ?_
  exact ⟨rfl, rfl⟩
set_option maxHeartbeats 1000000 in
theorem sort_none (p : Option Addr) (cap : Nat) (fv : Value) (w : World) : Calls Tryz.prog 41 #[.slice p 0 cap, fv] w fun e w' => e = .returned (.tuple #[]) ∧ w' = w := by
  have hl := fun W => Tryz.bits_Len 0 W (by omega) (by omega)
  go_enter Tryz.func41, Tryz.ntmps41
  go_wp2_with (go_at_call 65; refine (hl _).mono ?_; rintro e w' ⟨rfl, rfl⟩)
  go_wp2_with (go_at_call 64; refine (pdq_none p cap _ fv _).mono ?_; rintro e w' ⟨rfl, rfl⟩)
  go_end0
  exact ⟨rfl, rfl⟩

def SortedTo (B : Nat) (v : Value) (n : Nat) (ss : List ByteArray) (w : World) (e : Ending) (w' : World) : Prop :=
  e = .returned (.tuple #[]) ∧ w'.ownsRow B 9 1 v n ((srt (ss.map bsOf)).map encStr) ∧ Below B w w'

theorem sort_own (w : World) (B : Nat) (v : Value) (ss : List ByteArray) (h : w.ownsRow B 9 1 v ss.length (ss.map Value.string)) (hl : ss.length ≤ 1000000) :
    Calls Tryz.prog 41 #[v, .func (.func 42) #[] #[]] w (SortedTo B v ss.length ss w) := by
  have eg : ∀ args w, (callFunc 42 args).run Tryz.prog w = .ok (.enter 42 args) w := enters_of Tryz.func42 (by kernel_rfl) rfl
  rcases Nat.eq_zero_or_pos ss.length with h0 | h0
  · have e : ss = [] := List.eq_nil_of_length_eq_zero h0
    subst e
    obtain ⟨A, c, rfl⟩ := own_form h
    refine (sort_none A c (.func (.func 42) #[] #[]) w).mono fun e w' ⟨he, hw⟩ => ?_
    subst hw
    exact ⟨he, by simpa [srt] using h, Below.refl _ _⟩
  · rcases h.2 with ⟨_, h1⟩ | ⟨g, cap, cur, rfl, hB, hb, hn, hm, hs, ht⟩
    · omega
    · rw [Nat.mul_one] at ht
      have ht' : cur.toList.take (ss.map bsOf).length = (ss.map bsOf).map encStr := by rw [enc_bsOf, List.length_map]; exact ht
      have hg : g < w.heap.size := (Array.getElem?_eq_some_iff.1 hb).1
      have hsz : (ss.map bsOf).toArray.size = ss.length := by simp
      have sf := (Any.slices_SortFunc Tryz.laysSlF6_f41 encStr (fun _ => rfl) compareBytes cmp_swo 42 #[] g 0 cap (ss.map bsOf).toArray w eg (comp_reads g 0 _ w).lays (holds_of_block hb ht') hg (by rw [hsz]; omega)).mono fun (e : Ending) (w' : World) ⟨he, d', n, os, hp, hs, hw⟩ => (⟨he, n, os, by rw [hw, ← sorted_unique_holds cmp_swo cmp_tot (ss.map bsOf).toArray d' hp hs]⟩ : e = Ending.returned (.tuple #[]) ∧ ∃ n os, w' = sortWorld encStr w g 0 n ((ss.map bsOf).toArray.toList.mergeSort fun x y => !(ltOf compareBytes) y x).toArray os)
      rw [hsz] at sf
      refine sf.mono ?_
      rintro e w' ⟨he, n, os, hw⟩
      have hw' : w' = grow (putRow encStr (Sort.ahead w n) g 0 (srt (ss.map bsOf)).toArray) os := hw
      subst hw'
      have hlen : (srt (ss.map bsOf)).length = (ss.map bsOf).length := srt_len _
      refine ⟨he, ?_, ?_⟩
      · have := ownsRow_sorted (w := w) (base := B) (n := n) (os := os) (ts := srt (ss.map bsOf)) (ss := ss.map bsOf) hlen hB hb (by rw [List.length_map]; exact hn) hm hs
        rw [List.length_map] at this
        exact this
      · exact (Below.refl B w).grown (grownBy_sorted _) (by omega) fun z hz => by
          have : z = g := by simpa using hz.symm
          omega

def CompactedTo (B : Nat) (ss : List ByteArray) (w : World) (e : Ending) (w' : World) : Prop :=
  ∃ u, e = .returned u ∧ w'.ownsRow B 9 1 u (nrm ss).length ((nrm ss).map Value.string) ∧ Below B w w'

theorem compact_own (w : World) (B : Nat) (v : Value) (n : Nat) (ss : List ByteArray) (h : w.ownsRow B 9 1 v n ((srt (ss.map bsOf)).map encStr)) (hl : ss.length ≤ 1000000) :
    Calls Tryz.prog 43 #[v] w (CompactedTo B ss w) := by
  have hn0 : n = ss.length := by have := h.1; rw [List.length_map, srt_len, List.length_map] at this; omega
  have hlen : (srt (ss.map bsOf)).length = ss.length := by rw [srt_len, List.length_map]
  subst hn0
  rcases Nat.eq_zero_or_pos ss.length with h0 | h0
  · have e : ss = [] := List.eq_nil_of_length_eq_zero h0
    subst e
    obtain ⟨A, c, rfl⟩ := own_form h
    refine (Tryz.slices_Compact_string_empty A c w).mono fun e w' ⟨he, hw⟩ => ?_
    subst hw
    exact ⟨_, he, by simpa [srt, nrm, compact, compactUpTo] using h, Below.refl _ _⟩
  · rcases h.2 with ⟨_, h1⟩ | ⟨g, cap, cur, rfl, hB, hb, hn, hm, hs, ht⟩
    · omega
    · rw [Nat.mul_one] at ht
      have ht' : cur.toList.take (srt (ss.map bsOf)).length = (srt (ss.map bsOf)).map encStr := by rw [hlen]; exact ht
      have := Tryz.slices_Compact_string g 0 cap (srt (ss.map bsOf)) w (holds_of_block hb ht') (by rw [hlen]; omega) (by rw [hlen]; exact hn)
      rw [hlen] at this
      refine this.mono fun e w' ⟨he, q, hw⟩ => ?_
      obtain ⟨ts, hts⟩ : ∃ ts, ts = compact (srt (ss.map bsOf)) ++ List.replicate (ss.length - (compact (srt (ss.map bsOf))).length) [] := ⟨_, rfl⟩
      rw [← hts] at hw
      have hk : (compact (srt (ss.map bsOf))).length ≤ ss.length := by have := nrm_len ss; unfold nrm at this; rw [List.length_map] at this; exact this
      have htl : ts.length = ss.length := by rw [hts, List.length_append, List.length_replicate]; omega
      have hw2 : w' = grow (putRow encStr (Sort.ahead w q) g 0 ts.toArray) #[] := by rw [hw, grow_empty]
      subst hw2
      have hcs : ts.length ≤ cur.size := by rw [hs, htl]; omega
      have hnl : (nrm ss).length = (compact (srt (ss.map bsOf))).length := by unfold nrm; rw [List.length_map]
      refine ⟨_, by rw [he, ← hnl], ⟨by rw [List.length_map, Nat.mul_one], .inr ⟨g, cap, _, rfl, hB, heap_sorted _ hb, by omega, hm, by simp [putCells, hs], ?_⟩⟩, ?_⟩
      · have := take_putCells cur ts hcs
        rw [Nat.mul_one]
        have e1 : ((putCells encStr 0 ts.toArray cur).toList.take ts.length).take (nrm ss).length = (ts.map encStr).take (nrm ss).length := by rw [this]
        rw [List.take_take, Nat.min_eq_left (by omega)] at e1
        rw [e1, hts, List.map_append, List.take_append_of_le_length (by rw [List.length_map]; omega), List.take_of_length_le (by rw [List.length_map]; omega)]
        unfold nrm
        rw [enc_mkB]
      · have hg : g < w.heap.size := (Array.getElem?_eq_some_iff.1 hb).1
        exact (Below.refl B w).grown (grownBy_sorted _) (by omega) fun z hz => by
          have : z = g := by simpa using hz.symm
          omega
end Go.Proofs.YtapcnmnnichamaaGreatDoor
