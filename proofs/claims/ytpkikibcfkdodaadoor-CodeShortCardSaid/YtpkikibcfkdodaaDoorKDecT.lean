/-
  (*Dec).Text, (*Dec).Left, (*Dec).Err, where nothing is wrong.
-/
import Derived.Test.YtpkikibcfkdodaaDoorKDecI
import Derived.Laws.IdiomStrings
namespace Go.Proofs.YtpkikibcfkdodaaDoor
open Go Go.RowKit

set_option maxRecDepth 100000 in
set_option maxHeartbeats 2000000 in
theorem decText_any (w : World) (B D at_ : Nat) (v : Value) (L rest : List UInt8) (s : ByteArray) (h : DecAt w B D v L at_) (hL : L.drop at_ = encT s ++ rest) (hl : L.length ≤ 1000000) (hs : s.size ≤ 1000000) :
    Calls Tryd.prog 18 #[.pointer (some ⟨D, 0, none⟩)] w fun e w' => e = .returned (.string s) ∧ Stood w B D v L (at_ + (encT s).length) w' := by
  have hsl : s.data.toList.length = s.size := Array.length_toList
  have hL1 : L.drop at_ = encI s.size ++ (s.data.toList ++ rest) := by rw [hL]; unfold encT; rw [List.append_assoc]
  have I := Lib.hid (decInt_any w B D at_ v L _ (s.size : Int) h hL1 hl ⟨by omega, by omega⟩)
  obtain ⟨at1, h1⟩ : ∃ at1, at1 = at_ + (encI (s.size : Int)).length := ⟨_, rfl⟩
  rw [← h1] at I
  have hL2 : L.drop at1 = s.data.toList ++ rest := by
    rw [h1, ← List.drop_drop, hL1, List.drop_left]
  have hat : Hid (at_ + (encT s).length = at1 + s.size) := Lib.hid (by unfold encT; rw [List.length_append, hsl, h1]; omega)
  have hlen : at1 + s.size ≤ L.length ∨ s.size = 0 := by
    have := congrArg List.length hL2
    rw [List.length_drop, List.length_append, hsl] at this
    omega
  have hlen2 : at1 ≤ L.length := by
    have := congrArg List.length hL1
    rw [List.length_drop, List.length_append] at this
    have hp : 0 < (encI (s.size : Int)).length := by
      unfold encI
      by_cases h1 : zz (s.size : Int) < 128
      · rw [enc_small h1]; simp
      · rw [enc_big h1]; simp
    omega
  have hlen3 : at1 + s.size ≤ L.length := by omega
  have hne : 0 < L.length := by
    have := congrArg List.length hL1
    rw [List.length_drop, List.length_append] at this
    have hp : 0 < (encI (s.size : Int)).length := by
      unfold encI
      by_cases h1 : zz (s.size : Int) < 128
      · rw [enc_small h1]; simp
      · rw [enc_big h1]; simp
    omega
  obtain ⟨A, c, rfl⟩ := own_form h.own
  rcases h.own.2 with ⟨_, h0⟩ | ⟨g, cap, cur, hv, _, hh, hnc, hm, _⟩
  · omega
  injection hv with e1 _ e3
  subst e1; subst e3
  have c1 := h.blk.cell 1
  have hDl := h.blk.lt
  have H2 := Lib.hid hL2
  have H := Lib.hid h
  obtain ⟨n, hn⟩ : ∃ n, n = s.size := ⟨_, rfl⟩
  rw [← hn] at I hat hlen3 hs
  have HNN := Lib.hid hn
  clear h hL hL1 hL2 hh hlen hn hsl h1
  unfold maxLen at hm
  go_enter Tryd.func18, Tryd.ntmps18
  go_wp2_with fail
  refine I.out.mono ?_
  rintro e w1 ⟨rfl, hS, hT⟩
  have d0 := hS.blk.cell 0
  have d1 := hS.blk.cell 1
  have d2 := hS.blk.cell 2
  have fz1 := hS.blk.frozen 1
  have hDl1 := hS.blk.lt
  have a0 : (0 : Int) ≤ (at1 : Int) := Int.natCast_nonneg _
  have a1 : (at1 : Int) ≤ (L.length : Int) := by omega
  have a2 : (0 : Int) ≤ (n : Int) := Int.natCast_nonneg _
  have a3 : (n : Int) ≤ (L.length : Int) - (at1 : Int) := by omega
  obtain ⟨A2, hA2, hcells⟩ : ∃ A2 : Addr, (if c = at1 then some (⟨g, 0, none⟩ : Addr) else some ⟨g, at1, none⟩) = some A2 ∧ Hid (∀ j (hj : j < s.data.toList.length), w1.cell? (A2.add j) = some (.int .u8 (s.data.toList[j].toNat : Int))) := by
    by_cases hc : c = at1
    · refine ⟨⟨g, 0, none⟩, by simp [hc], fun j hj => ?_⟩
      have e : s.data.toList.length = n := by rw [HNN.out]; exact Array.length_toList
      omega
    · refine ⟨⟨g, at1, none⟩, by simp [hc], fun j hj => ?_⟩
      rw [Addr.add_lit]
      have e : L[at1 + j]? = some s.data.toList[j] := by
        rw [← List.getElem?_drop, H2.out, List.getElem?_append_left hj, List.getElem?_eq_getElem hj]
      exact BOwn.cells hS.own _ _ (bc_at e)
  have HC : Hid (∀ W, (∀ a, W.cell? a = w1.cell? a) → (convert 39 9 (.slice (some A2) n (c - at1))).run Tryd.prog W = .ok (.string s) W) := Lib.hid fun W hW => by
    have := run_convert_bytes_back (P := Tryd.prog) W 39 9 5 A2 (c - at1) s.data.toList Tryd.underlying39 Tryd.underlying5 Tryd.underlying9 (fun j hj => by rw [hW]; exact hcells.out j hj)
    rw [show s.data.toList.length = n by rw [HNN.out]; exact Array.length_toList] at this
    exact this
  have HS := Lib.hid hS
  have HT := Lib.hid hT
  have hw0 : IntKind.i64.wrap ((L.length : Int) - (at1 : Int)) = (L.length : Int) - (at1 : Int) := by rw [IntKind.wrap_i64]; omega
  clear hS hT I
  go_wp2_with fail
  go_quiet (fail)
  obtain ⟨W2, hW2⟩ : ∃ W2, W2 = w1.drewN nq := ⟨_, rfl⟩
  rw [← hW2]
  have HS2 : Hid (DecAt W2 B D (.slice (some ⟨g, 0, none⟩) L.length c) L at1) := Lib.hid (by rw [hW2]; exact ⟨HS.out.blk, HS.out.own, HS.out.lo⟩)
  have HT2 : Hid (Touch w W2 D none) := Lib.hid (by rw [hW2]; exact ⟨HT.out.os, HT.out.tape, HT.out.output, HT.out.size, HT.out.block⟩)
  have HC2 : ∀ x, (convert 39 9 (.slice (some A2) n (c - at1))).run Tryd.prog (W2.drewN x) = .ok (.string s) (W2.drewN x) := fun x => HC.out _ (fun a => by rw [hW2]; rfl)
  have hw1 : IntKind.i64.wrap ((at1 : Int) + (n : Int)) = (at1 : Int) + (n : Int) := by rw [IntKind.wrap_i64]; omega
  have hw2 : ((at1 : Int) + (n : Int)).toNat = at1 + n := by omega
  have hw3 : (0 : Int) ≤ (at1 : Int) + (n : Int) := by omega
  have hw4 : at1 + n - at1 = n := by omega
  have hw5 : at1 + n ≤ c := by omega
  have hw6 : (at1 : Int) + (n : Int) ≤ (c : Int) := by omega
  have hw7 : (at1 : Int) ≤ (at1 : Int) + (n : Int) := by omega
  have hw8 : at1 ≤ at1 + n := by omega
  have d0 := HS2.out.blk.cell 0
  have d1 := HS2.out.blk.cell 1
  have d2 := HS2.out.blk.cell 2
  have fz1 := HS2.out.blk.frozen 1
  have hDl2 := HS2.out.blk.lt
  clear hW2 HS HT HC hw0
  go_wp2_with fail
  go_quiet (fail)
  obtain ⟨W3, hW3⟩ : ∃ W3, W3 = W2.drewN nq := ⟨_, rfl⟩
  rw [← hW3]
  have HS3 : Hid (DecAt W3 B D (.slice (some ⟨g, 0, none⟩) L.length c) L at1) := Lib.hid (by rw [hW3]; exact ⟨HS2.out.blk, HS2.out.own, HS2.out.lo⟩)
  have HT3 : Hid (Touch w W3 D none) := Lib.hid (by rw [hW3]; exact ⟨HT2.out.os, HT2.out.tape, HT2.out.output, HT2.out.size, HT2.out.block⟩)
  have d1 := HS3.out.blk.cell 1
  have fz1 := HS3.out.blk.frozen 1
  have hDl3 := HS3.out.blk.lt
  have HF : Hid (Stood w B D (.slice (some ⟨g, 0, none⟩) L.length c) L (at_ + (encT s).length) (W3.setCell ⟨D, 1, none⟩ (.int .i64 ((at1 : Int) + (n : Int))))) := Lib.hid (by
    have hT : Touch W3 (W3.setCell ⟨D, 1, none⟩ (.int .i64 ((at1 : Int) + (n : Int)))) D none := ⟨rfl, rfl, rfl, by simp, fun j _ hj _ => Below.heap_setCell _ _ _ _ hj⟩
    refine ⟨⟨?_, hT.own HS3.out.own HS3.out.ne (by simp [Value.ownBlock]), H.out.lo⟩, HT3.out.trans (.inl rfl) hT⟩
    have := HS3.out.blk.set_ 1 (.int .i64 ((at1 : Int) + (n : Int)))
    rw [hat.out, show ((at1 + n : Nat) : Int) = (at1 : Int) + (n : Int) by omega]
    exact this)
  clear hW3 HS2 HT2 HC2
  go_wp2_with fail
  go_ret
  exact ⟨rfl, HF.out⟩
#print axioms decText_any

set_option maxRecDepth 100000 in
set_option maxHeartbeats 1000000 in
theorem decLeft_any (w : World) (B D at_ : Nat) (v : Value) (L : List UInt8) (h : DecAt w B D v L at_) (hl : L.length ≤ 1000000) (ha : at_ ≤ L.length) :
    Calls Tryd.prog 20 #[.pointer (some ⟨D, 0, none⟩)] w fun e w' => e = .returned (.int .i64 ((L.length - at_ : Nat) : Int)) ∧ ∃ k, w' = w.drewN k := by
  obtain ⟨A, c, rfl⟩ := own_form h.own
  have d0 := h.blk.cell 0
  have d1 := h.blk.cell 1
  have d2 := h.blk.cell 2
  have hD := h.blk.lt
  have hw0 : IntKind.i64.wrap ((L.length : Int) - (at_ : Int)) = ((L.length - at_ : Nat) : Int) := by rw [IntKind.wrap_i64]; omega
  clear h
  go_enter Tryd.func20, Tryd.ntmps20
  go_wp2_with fail
  go_quiet (fail)
  go_wp2_with fail
  go_ret
  exact ⟨rfl, nq, rfl⟩

set_option maxHeartbeats 1000000 in
theorem decErr_any (w : World) (B D at_ : Nat) (v : Value) (L : List UInt8) (h : DecAt w B D v L at_) :
    Calls Tryd.prog 22 #[.pointer (some ⟨D, 0, none⟩)] w fun e w' => e = .returned .nilIface ∧ w' = w := by
  have d2 := h.blk.cell 2
  have hD := h.blk.lt
  clear h
  go_enter Tryd.func22, Tryd.ntmps22
  go_wp2_with fail
  go_ret
  exact ⟨rfl, rfl⟩
#print axioms decErr_any
end Go.Proofs.YtpkikibcfkdodaaDoor
