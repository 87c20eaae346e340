/-
  rectolaw21.Of: steps as the document's.
  rectoref17.CheckTodo: steps over commits, or the first that can not be done.
  TodoBack: steps in words, and back; whether they can be done, the first that can not.
-/
import Derived.Test.YtanjcjnkppnhcaaGreatDoorTdI
import Derived.Deep.RegionHeld3
import Derived.Test.YtanjcjnkppnhcaaGreatDoorZ0
import Derived.Test.YtanjcjnkppnhcaaGreatDoorZB
import Derived.Deep.DeepCutAuto
import Derived.Deep.CutBlock

namespace Go.Proofs.YtanjcjnkppnhcaaGreatDoor
open Go.RowKit

theorem refFileInfo : (Tryz.prog.info? 81).map (fun i => (i.zero, i.size, i.bytes)) = some (some (.agg #[.string ⟨#[]⟩, .int .i64 0, .string ⟨#[]⟩]), 3, 40) := by kernel_rfl
def FilCells (ad : Addr) (i : Nat) (p : ByteArray) (m : Int) (d : ByteArray) (W : World) : Prop :=
  W.cell? (ad.add (i * 3)) = some (.string p) ∧ W.cell? ⟨(ad.add (i * 3)).block, (ad.add (i * 3)).off + 1, none⟩ = some (.int .i64 m) ∧ W.cell? ⟨(ad.add (i * 3)).block, (ad.add (i * 3)).off + 2, none⟩ = some (.string d)

set_option maxHeartbeats 2000000 in
theorem lawOf_any (w : World) (v : Value) (l : List Fl) (h : Reads 3 cF w v l) (hl : l.length ≤ 100000) :
    Calls Tryz.prog 18 #[v] w (OwnTo 81 3 cF l w) := by
  obtain ⟨A, c, rfl⟩ := h.form
  have hn := h.len
  have hnm : l.length ≤ 9223372036854775807 := by omega
  have HO := Lib.hid h
  obtain ⟨i0, hi, hz0, hz1, hz2⟩ := info_parts refFileInfo
  clear h hn
  go_enter Tryz.func18, Tryz.ntmps18
  go_wp2
  go_loopw [3, 4] (fun s3 s4 wr => ∃ i : Nat, i ≤ l.length ∧ s4 = .int .i64 i ∧ Hid (wr.ownsRow w.heap.size 81 3 s3 i ((l.take i).flatMap cF)) ∧ Below w.heap.size w wr) (fun _ s4 _ => l.length - (intOf s4).toNat)
  case atStart => exact ⟨0, Nat.zero_le _, rfl, Lib.hid (World.ownsRow_nil _ _ _ _), Below.refl _ _⟩
  case round =>
    obtain ⟨i, hil, rfl, hown, hb⟩ := hrel
    by_cases hlt : i < l.length
    · obtain ⟨f, hf⟩ : ∃ f, l[i]? = some f := ⟨_, List.getElem?_eq_getElem hlt⟩
      obtain ⟨ad, rfl, c0, c1, c2⟩ := Fils.at_ HO.out hf
      obtain ⟨p, m, d⟩ := f
      have HF := Lib.hid hf
      have ZZ := Lib.hid fun W (hW : Below w.heap.size w W) => (⟨(hW.cell (World.block_lt_of_cell? _ _ c0)).trans c0, (hW.cell (World.block_lt_of_cell? _ _ c1)).trans c1, (hW.cell (World.block_lt_of_cell? _ _ c2)).trans c2⟩ : FilCells ad i p m d W)
      unfold FilCells at ZZ
      have z0 := ZZ.out _ hb.drew
      have i0' : (0 : Int) ≤ (i : Int) := Int.natCast_nonneg _
      have hi1 : (i : Int) < (l.length : Int) := by omega
      have hsz := hb.size
      clear hf c0 c1 c2
      go_wp2
      go_region_held3 (fun w' => w'.cell? (ad.add (i * 3)) = some (.string p) ∧ w'.cell? ⟨(ad.add (i * 3)).block, (ad.add (i * 3)).off + 1, none⟩ = some (.int .i64 m) ∧ w'.cell? ⟨(ad.add (i * 3)).block, (ad.add (i * 3)).off + 2, none⟩ = some (.string d))
        (first | exact z0 | exact ZZ.out _ (hb.drew.alloc hsz _) | exact z5)
        ((refine step_append_lies _ (by rfl) _ _ 28 (by rfl) w.heap.size 81 i0 (.agg #[.string ⟨#[]⟩, .int .i64 0, .string ⟨#[]⟩]) 3 40 Tryz.underlying28 hi hz0 hz1 hz2 rfl (by omega) _ i _ (by rfl) (hown.out.drew.alloc _)
            ⟨wr.heap.size, 0, none⟩ 1 1 [.string p, .int .i64 m, .string d] (by rfl) (by rfl) (World.news_of_block (cs := #[.string p, .int .i64 m, .string d]) (t := 81) (fr := (0, 0)) (heap_alloc_new wr.drew _)) (by simp [Value.oneCell'])
            (by omega) (by unfold maxLen; omega) (by omega) (by simp; omega) (wr.heap.size + 1) (by simp) ?_; intro gg cap w5 hown5 hg5 hat hlt5; have hb5 := (hb.drew.alloc hsz (.cells #[.string p, .int .i64 m, .string d] 81)).grown hg5 (by simp; omega) (fun k hk => (hown.out.lt k hk).1); have z5 := ZZ.out _ hb5))
      go_wp2
      go_roundw
      case rel => exact ⟨i + 1, by omega, by go_num, Lib.hid (by rw [take_snoc HF.out, flat_snoc]; exact hown5), hb5⟩
      case measure => simp [intOf]; omega
    · obtain rfl : i = l.length := by omega
      have HL : Hid ((l.take l.length).flatMap cF = l.flatMap cF) := Lib.hid (by rw [List.take_length])
      go_wp2
      go_ret
      exact ⟨_, rfl, by rw [← HL.out]; exact hown.out, hb⟩
end Go.Proofs.YtanjcjnkppnhcaaGreatDoor

namespace Go.Proofs.YtanjcjnkppnhcaaGreatDoor
open Go Go.RowKit

def RefCk (o : Option (Nat × Int)) (w : World) (e : Ending) (w' : World) : Prop :=
  (o = none ∧ e = .returned (.agg #[.slice none 0 0, .int .i64 0]) ∧ Below w.heap.size w w') ∨
  ∃ (i : Nat) (k : Int) (g : Nat), o = some (i, k) ∧ e = .returned (.agg #[.slice (some ⟨g, 0, none⟩) 1 1, .int .i64 k]) ∧ w.heap.size ≤ g ∧ Blk w' g 91 #[.string bStep, .int .i64 i] ∧ Below w.heap.size w w'
set_option maxRecDepth 100000 in
set_option maxHeartbeats 8000000 in
theorem refCheckTodo_any (w : World) (vl vg : Value) (l : List Fl) (gs : List (List Int)) (hl : Reads 3 cF w vl l) (hG : G.Rows w vg gs) (hN : gs.length ≤ 100000) :
    Calls Tryz.prog 17 #[vl, vg] w (RefCk (checkV gs l) w) := by
  obtain ⟨A, c, rfl⟩ := hl.form
  obtain ⟨A2, cp, rfl⟩ := hG.form
  have HLN := hl.len
  have hlm : l.length ≤ 9223372036854775807 := by have := HLN.2; unfold maxLen at this; omega
  have K0 := Lib.hid (Blk.new w 31 #[.slice none 0 0, .int .i64 0])
  have B0 := Lib.hid ((Below.refl w.heap.size w).alloc (Nat.le_refl _) (.cells #[.slice none 0 0, .int .i64 0] 31))
  obtain ⟨gw, hgw⟩ : ∃ g, g = w.heap.size := ⟨_, rfl⟩
  have HGW := Lib.hid hgw
  rw [← hgw] at K0
  have HO := Lib.hid fun W (hW : Below w.heap.size w W) => hl.below hW
  have HG := Lib.hid fun W (hW : Below w.heap.size w W) => hG.below hW
  have l0 : (0 : Int) ≤ (l.length : Int) := Int.natCast_nonneg _
  have hn0 : (0 : Int) ≤ (gs.length : Int) := Int.natCast_nonneg _
  have hn1 : (gs.length : Int) ≤ 100000 := by omega
  clear hl hG HLN
  by_cases h32 : 32 < l.length
  · have HP2 := Lib.hid (show checkV gs l = some (32, 4) from if_pos h32)
    have h32i : (32 : Int) < (l.length : Int) := by omega
    clear h32
    go_enter Tryz.func17, Tryz.ntmps17
    go_wp2_with fail
    rw [← hgw]
    clear hgw
    generalize w.alloc (.cells #[.slice none 0 0, .int .i64 0] 31) = W0 at *
    refine (refAt_any bStep 32 4 _).mono ?_
    rintro e w5 ⟨g5, rfl, hg5, hgl, d5⟩
    have K5 := Lib.hid (K0.out.below d5 K0.out.lt)
    have B5 := Lib.hid (B0.out.trans (d5.mono B0.out.size))
    have G5 := Lib.hid hg5
    have hne5 : g5 ≠ gw := fun e => absurd K0.out.lt (by rw [← e]; omega)
    have hgl5 := Lib.hid (Nat.le_trans B0.out.size hgl)
    clear hg5 hgl d5
    have c0 := K5.out.cell 0
    have f0 := K5.out.frozen 0
    have c1 := K5.out.cell 1
    have f1 := K5.out.frozen 1
    go_wp2
    exact bodyPost_ret (results_cell_row (fn := Tryz.f17) rfl _ _ gw 31 _ (0, 0) _ rfl (row2w K5.out rfl (.slice (some ⟨g5, 0, none⟩) 1 1) (.int .i64 4)) Tryz.underlying31 rfl (by kernel_rfl)) rfl (.inr ⟨_, _, g5, HP2.out, rfl, hgl5.out, (G5.out.far hne5 _).far hne5 _, (B5.out.setCell (p := ⟨gw, 0, none⟩) (by rw [HGW.out]; exact Nat.le_refl _) _).setCell (p := ⟨gw, 1, none⟩) (by rw [HGW.out]; exact Nat.le_refl _) _⟩)
  obtain ⟨R, hR⟩ : ∃ R, R = checkV gs l := ⟨_, rfl⟩
  rw [← hR]
  have HR0 := Lib.hid (show chkS gs (l.drop 0) 0 (!true) = R by rw [hR]; unfold checkV; rw [if_neg h32]; rfl)
  have h32i : ¬ (32 : Int) < (l.length : Int) := by omega
  have l32 : (l.length : Int) ≤ 32 := by omega
  clear hR h32
  go_enter Tryz.func17, Tryz.ntmps17
  go_wp2_with fail
  rw [← hgw]
  clear hgw
  generalize hW0 : w.alloc (.cells #[.slice none 0 0, .int .i64 0] 31) = W0 at *
  clear hW0
  go_loopw [5, 6] (fun s5 s6 wr => ∃ (k : Nat) (b : Bool), k ≤ l.length ∧ s6 = .int .i64 k ∧ s5 = .bool b ∧ Hid (chkS gs (l.drop k) k (!b) = R) ∧ Hid (Blk wr gw 31 #[.slice none 0 0, .int .i64 0]) ∧ Hid (Below w.heap.size w wr)) (fun _ s6 _ => l.length - (intOf s6).toNat)
  case atStart => exact ⟨0, true, Nat.zero_le _, rfl, rfl, HR0, K0, B0⟩
  case round =>
    clear K0 B0 HR0
    obtain ⟨k, b, hk, rfl, rfl, HR, KW, HB⟩ := hrel
    have k0 : (0 : Int) ≤ (k : Int) := Int.natCast_nonneg _
    by_cases hlt : k < l.length
    · obtain ⟨x, hx⟩ : ∃ x, l[k]? = some x := ⟨_, List.getElem?_eq_getElem hlt⟩
      have hki : (k : Int) < (l.length : Int) := by omega
      obtain ⟨ad, rfl, c0, c1, c2⟩ := Fils.at_ (HO.out wr HB.out) hx
      have HP := Lib.hid (show chkS gs (x :: l.drop (k + 1)) k (!b) = R by have := HR.out; rw [drop_consB hx] at this; exact this)
      unfold chkS at HP
      have HLT := Lib.hid hlt
      have B2 := Lib.hid (HB.out.alloc HB.out.size (.cells #[.string x.1, .int .i64 x.2.1, .string x.2.2] 81))
      have Z2 := Lib.hid (Blk.new wr 81 #[.string x.1, .int .i64 x.2.1, .string x.2.2])
      have KW2 := Lib.hid (KW.out.alloc (.cells #[.string x.1, .int .i64 x.2.1, .string x.2.2] 81))
      obtain ⟨z, hz⟩ : ∃ z, z = wr.heap.size := ⟨_, rfl⟩
      obtain ⟨v, cc, t⟩ := x
      dsimp only at c0 c1 c2 B2 Z2 KW2 HP
      have VB := Lib.hid fun W => refVerb_any v W
      clear hx hlt hk HR HB KW
      go_upto_region 8 with fail
      rw [← hz] at Z2 ⊢
      clear hz c0 c1 c2
      generalize wr.alloc (.cells #[.string v, .int .i64 cc, .string t] 81) = w2 at *
      have y0 := Z2.out.cell 0
      go_wp2_with fail
      refine (VB.out _).mono ?_
      rintro e3 w3 ⟨n, rfl, hn, hn1', b3⟩
      have B3 := Lib.hid (B2.out.trans (b3.mono B2.out.size))
      have Z3 := Lib.hid (Z2.out.below b3 Z2.out.lt)
      have KW3 := Lib.hid (KW2.out.below b3 KW2.out.lt)
      clear y0 b3 Z2 VB B2 KW2
      have y0 := Z3.out.cell 0
      have y1 := Z3.out.cell 1
      cases hk : knownV v with
      | false =>
        have HP2 := Lib.hid (show R = some (k, 5) by have := HP.out; rw [show wrongV gs (!b) (v, cc, t) = 5 by unfold wrongV; rw [if_pos hk], if_pos (by decide)] at this; exact this.symm)
        have z1 : n < 0 := by rw [hk] at hn; exact of_decide_eq_true hn
        clear hk hn HP
        go_wp2_with fail
        refine (refAt_any bStep k 5 _).mono ?_
        rintro e w5 ⟨g5, rfl, hg5, hgl, d5⟩
        have K5 := Lib.hid (KW3.out.below d5 KW3.out.lt)
        have B5 := Lib.hid (B3.out.trans (d5.mono B3.out.size))
        have G5 := Lib.hid hg5
        have hne5 : g5 ≠ gw := fun e => absurd KW3.out.lt (by rw [← e]; omega)
        have hgl5 := Lib.hid (Nat.le_trans B3.out.size hgl)
        clear hg5 hgl d5
        have c0 := K5.out.cell 0
        have f0 := K5.out.frozen 0
        have c1 := K5.out.cell 1
        have f1 := K5.out.frozen 1
        go_wp2
        exact bodyPost_ret (results_cell_row (fn := Tryz.f17) rfl _ _ gw 31 _ (0, 0) _ rfl (row2w K5.out rfl (.slice (some ⟨g5, 0, none⟩) 1 1) (.int .i64 5)) Tryz.underlying31 rfl (by kernel_rfl)) rfl (.inr ⟨_, _, g5, HP2.out, rfl, hgl5.out, (G5.out.far hne5 _).far hne5 _, (B5.out.setCell (p := ⟨gw, 0, none⟩) (by rw [HGW.out]; exact Nat.le_refl _) _).setCell (p := ⟨gw, 1, none⟩) (by rw [HGW.out]; exact Nat.le_refl _) _⟩)
      | true =>
        have HK := Lib.hid (show ¬ knownV v = false by rw [hk]; simp)
        have z1 : ¬ n < 0 := by rw [hk] at hn; exact of_decide_eq_false hn
        clear hk hn
        by_cases h1 : cc < 1
        · have HP2 := Lib.hid (show R = some (k, 1) by have := HP.out; rw [show wrongV gs (!b) (v, cc, t) = 1 by unfold wrongV; rw [if_neg HK.out, if_pos (.inl h1)], if_pos (by decide)] at this; exact this.symm)
          clear HP
          go_wp2_with fail
          refine (refAt_any bStep k 1 _).mono ?_
          rintro e w5 ⟨g5, rfl, hg5, hgl, d5⟩
          have K5 := Lib.hid (KW3.out.below d5 KW3.out.lt)
          have B5 := Lib.hid (B3.out.trans (d5.mono B3.out.size))
          have G5 := Lib.hid hg5
          have hne5 : g5 ≠ gw := fun e => absurd KW3.out.lt (by rw [← e]; omega)
          have hgl5 := Lib.hid (Nat.le_trans B3.out.size hgl)
          clear hg5 hgl d5
          have c0 := K5.out.cell 0
          have f0 := K5.out.frozen 0
          have c1 := K5.out.cell 1
          have f1 := K5.out.frozen 1
          go_wp2
          exact bodyPost_ret (results_cell_row (fn := Tryz.f17) rfl _ _ gw 31 _ (0, 0) _ rfl (row2w K5.out rfl (.slice (some ⟨g5, 0, none⟩) 1 1) (.int .i64 1)) Tryz.underlying31 rfl (by kernel_rfl)) rfl (.inr ⟨_, _, g5, HP2.out, rfl, hgl5.out, (G5.out.far hne5 _).far hne5 _, (B5.out.setCell (p := ⟨gw, 0, none⟩) (by rw [HGW.out]; exact Nat.le_refl _) _).setCell (p := ⟨gw, 1, none⟩) (by rw [HGW.out]; exact Nat.le_refl _) _⟩)
        by_cases h2 : (gs.length : Int) < cc
        · have HP2 := Lib.hid (show R = some (k, 1) by have := HP.out; rw [show wrongV gs (!b) (v, cc, t) = 1 by unfold wrongV; rw [if_neg HK.out, if_pos (.inr (.inl h2))], if_pos (by decide)] at this; exact this.symm)
          clear HP
          go_wp2_with fail
          refine (refAt_any bStep k 1 _).mono ?_
          rintro e w5 ⟨g5, rfl, hg5, hgl, d5⟩
          have K5 := Lib.hid (KW3.out.below d5 KW3.out.lt)
          have B5 := Lib.hid (B3.out.trans (d5.mono B3.out.size))
          have G5 := Lib.hid hg5
          have hne5 : g5 ≠ gw := fun e => absurd KW3.out.lt (by rw [← e]; omega)
          have hgl5 := Lib.hid (Nat.le_trans B3.out.size hgl)
          clear hg5 hgl d5
          have c0 := K5.out.cell 0
          have f0 := K5.out.frozen 0
          have c1 := K5.out.cell 1
          have f1 := K5.out.frozen 1
          go_wp2
          exact bodyPost_ret (results_cell_row (fn := Tryz.f17) rfl _ _ gw 31 _ (0, 0) _ rfl (row2w K5.out rfl (.slice (some ⟨g5, 0, none⟩) 1 1) (.int .i64 1)) Tryz.underlying31 rfl (by kernel_rfl)) rfl (.inr ⟨_, _, g5, HP2.out, rfl, hgl5.out, (G5.out.far hne5 _).far hne5 _, (B5.out.setCell (p := ⟨gw, 0, none⟩) (by rw [HGW.out]; exact Nat.le_refl _) _).setCell (p := ⟨gw, 1, none⟩) (by rw [HGW.out]; exact Nat.le_refl _) _⟩)
        obtain ⟨i, hi⟩ : ∃ i : Nat, cc = (i : Int) + 1 := ⟨(cc - 1).toNat, by omega⟩
        subst hi
        have hil : i < gs.length := by omega
        obtain ⟨q, hq⟩ : ∃ q, gs[i]? = some q := ⟨_, List.getElem?_eq_getElem hil⟩
        obtain ⟨ad2, u, rfl, d0, hI⟩ := (HG.out w3 B3.out).cell hq
        obtain ⟨A3, c3, rfl⟩ := hI.form
        have q0 : (0 : Int) ≤ (q.length : Int) := Int.natCast_nonneg _
        have hp := par_at hq
        have hw : IntKind.i64.wrap ((i : Int) + 1 - 1) = (i : Int) := by rw [IntKind.wrap_i64] <;> omega
        have hii : (i : Int) < (gs.length : Int) := by omega
        have i0 : (0 : Int) ≤ (i : Int) := Int.natCast_nonneg _
        clear hq hI
        by_cases h3 : 1 < q.length
        · have HP2 := Lib.hid (show R = some (k, 1) by have := HP.out; rw [show wrongV gs (!b) (v, (i : Int) + 1, t) = 1 by unfold wrongV; rw [if_neg HK.out, if_pos (.inr (.inr (by show 1 < (G.par gs ((i : Int) + 1)).length; rw [hp]; exact h3)))], if_pos (by decide)] at this; exact this.symm)
          have h3i : (1 : Int) < (q.length : Int) := by omega
          clear hp h3 HP
          go_wp2_with fail
          refine (refAt_any bStep k 1 _).mono ?_
          rintro e w5 ⟨g5, rfl, hg5, hgl, d5⟩
          have K5 := Lib.hid (KW3.out.below d5 KW3.out.lt)
          have B5 := Lib.hid (B3.out.trans (d5.mono B3.out.size))
          have G5 := Lib.hid hg5
          have hne5 : g5 ≠ gw := fun e => absurd KW3.out.lt (by rw [← e]; omega)
          have hgl5 := Lib.hid (Nat.le_trans B3.out.size hgl)
          clear hg5 hgl d5
          have c0 := K5.out.cell 0
          have f0 := K5.out.frozen 0
          have c1 := K5.out.cell 1
          have f1 := K5.out.frozen 1
          go_wp2
          exact bodyPost_ret (results_cell_row (fn := Tryz.f17) rfl _ _ gw 31 _ (0, 0) _ rfl (row2w K5.out rfl (.slice (some ⟨g5, 0, none⟩) 1 1) (.int .i64 1)) Tryz.underlying31 rfl (by kernel_rfl)) rfl (.inr ⟨_, _, g5, HP2.out, rfl, hgl5.out, (G5.out.far hne5 _).far hne5 _, (B5.out.setCell (p := ⟨gw, 0, none⟩) (by rw [HGW.out]; exact Nat.le_refl _) _).setCell (p := ⟨gw, 1, none⟩) (by rw [HGW.out]; exact Nat.le_refl _) _⟩)
        have HQ := Lib.hid (show ¬ ((i : Int) + 1 < 1 ∨ (gs.length : Int) < (i : Int) + 1 ∨ 1 < (G.par gs ((i : Int) + 1)).length) by rw [hp]; omega)
        have e1 : decide ((1 : Int) < (q.length : Int)) = false := decide_eq_false (by omega)
        have e2 : decide (1 < q.length) = false := decide_eq_false h3
        have e3 : decide ((gs.length : Int) < (i : Int) + 1) = false := decide_eq_false h2
        have e4 : decide ((i : Int) + 1 < 1) = false := decide_eq_false h1
        have e5 : decide (gs.length < i + 1) = false := decide_eq_false (by omega)
        clear hp q0 h1 h2
        go_upto_region 12 with fail
        clear e1 e2 e3 e4 e5 h3 hw d0 hii i0 y1 z1
        cases b with
        | true =>
          cases hs : (v.toList == [115, 113, 117, 97, 115, 104]) with
          | true =>
            have HP2 := Lib.hid (show R = some (k, 7) by have := HP.out; rw [show wrongV gs (!true) (v, (i : Int) + 1, t) = 7 by unfold wrongV; rw [if_neg HK.out, if_neg HQ.out, if_pos ⟨.inl hs, rfl⟩], if_pos (by decide)] at this; exact this.symm)
            clear HP
            go_wp2_with fail
            refine (refAt_any bStep k 7 _).mono ?_
            rintro e w5 ⟨g5, rfl, hg5, hgl, d5⟩
            have K5 := Lib.hid (KW3.out.below d5 KW3.out.lt)
            have B5 := Lib.hid (B3.out.trans (d5.mono B3.out.size))
            have G5 := Lib.hid hg5
            have hne5 : g5 ≠ gw := fun e => absurd KW3.out.lt (by rw [← e]; omega)
            have hgl5 := Lib.hid (Nat.le_trans B3.out.size hgl)
            clear hg5 hgl d5
            have c0 := K5.out.cell 0
            have f0 := K5.out.frozen 0
            have c1 := K5.out.cell 1
            have f1 := K5.out.frozen 1
            go_wp2
            exact bodyPost_ret (results_cell_row (fn := Tryz.f17) rfl _ _ gw 31 _ (0, 0) _ rfl (row2w K5.out rfl (.slice (some ⟨g5, 0, none⟩) 1 1) (.int .i64 7)) Tryz.underlying31 rfl (by kernel_rfl)) rfl (.inr ⟨_, _, g5, HP2.out, rfl, hgl5.out, (G5.out.far hne5 _).far hne5 _, (B5.out.setCell (p := ⟨gw, 0, none⟩) (by rw [HGW.out]; exact Nat.le_refl _) _).setCell (p := ⟨gw, 1, none⟩) (by rw [HGW.out]; exact Nat.le_refl _) _⟩)
          | false =>
            cases hf : (v.toList == [102, 105, 120, 117, 112]) with
            | true =>
              have HP2 := Lib.hid (show R = some (k, 7) by have := HP.out; rw [show wrongV gs (!true) (v, (i : Int) + 1, t) = 7 by unfold wrongV; rw [if_neg HK.out, if_neg HQ.out, if_pos ⟨.inr hf, rfl⟩], if_pos (by decide)] at this; exact this.symm)
              clear HP
              go_wp2_with fail
              refine (refAt_any bStep k 7 _).mono ?_
              rintro e w5 ⟨g5, rfl, hg5, hgl, d5⟩
              have K5 := Lib.hid (KW3.out.below d5 KW3.out.lt)
              have B5 := Lib.hid (B3.out.trans (d5.mono B3.out.size))
              have G5 := Lib.hid hg5
              have hne5 : g5 ≠ gw := fun e => absurd KW3.out.lt (by rw [← e]; omega)
              have hgl5 := Lib.hid (Nat.le_trans B3.out.size hgl)
              clear hg5 hgl d5
              have c0 := K5.out.cell 0
              have f0 := K5.out.frozen 0
              have c1 := K5.out.cell 1
              have f1 := K5.out.frozen 1
              go_wp2
              exact bodyPost_ret (results_cell_row (fn := Tryz.f17) rfl _ _ gw 31 _ (0, 0) _ rfl (row2w K5.out rfl (.slice (some ⟨g5, 0, none⟩) 1 1) (.int .i64 7)) Tryz.underlying31 rfl (by kernel_rfl)) rfl (.inr ⟨_, _, g5, HP2.out, rfl, hgl5.out, (G5.out.far hne5 _).far hne5 _, (B5.out.setCell (p := ⟨gw, 0, none⟩) (by rw [HGW.out]; exact Nat.le_refl _) _).setCell (p := ⟨gw, 1, none⟩) (by rw [HGW.out]; exact Nat.le_refl _) _⟩)
            | false =>
              have HV := Lib.hid (show wrongV gs (!true) (v, (i : Int) + 1, t) = 0 by unfold wrongV; rw [if_neg HK.out, if_neg HQ.out, if_neg (fun e => e.1.elim (fun e => by rw [hs] at e; cases e) fun e => by rw [hf] at e; cases e)])
              cases hd : (v.toList == [100, 114, 111, 112]) with
              | true =>
                have HP2 := Lib.hid (show chkS gs (l.drop (k + 1)) (k + 1) (!true) = R by have := HP.out; rw [HV.out, if_neg (by simp), hd] at this; exact this)
                clear HP HV
                go_wp2
                go_roundw
                case rel => exact ⟨k + 1, true, by have := HLT.out; omega, by go_num, rfl, HP2, KW3, B3⟩
                case measure => have := HLT.out; simp [intOf]; omega
              | false =>
                have HP2 := Lib.hid (show chkS gs (l.drop (k + 1)) (k + 1) (!false) = R by have := HP.out; rw [HV.out, if_neg (by simp), hd] at this; exact this)
                clear HP HV
                go_wp2
                go_roundw
                case rel => exact ⟨k + 1, false, by have := HLT.out; omega, by go_num, rfl, HP2, KW3, B3⟩
                case measure => have := HLT.out; simp [intOf]; omega
        | false =>
          have HV := Lib.hid (show wrongV gs (!false) (v, (i : Int) + 1, t) = 0 by unfold wrongV; rw [if_neg HK.out, if_neg HQ.out, if_neg (by simp)])
          have HP2 := Lib.hid (show chkS gs (l.drop (k + 1)) (k + 1) (!false) = R by have := HP.out; rw [HV.out, if_neg (by simp)] at this; simpa using this)
          clear HP HV
          go_wp2
          go_roundw
          case rel => exact ⟨k + 1, false, by have := HLT.out; omega, by go_num, rfl, HP2, KW3, B3⟩
          case measure => have := HLT.out; simp [intOf]; omega
    · obtain rfl : k = l.length := by omega
      have HP2 := Lib.hid (show R = none by have := HR.out; rw [List.drop_length] at this; exact this.symm)
      have c0 := KW.out.cell 0
      have f0 := KW.out.frozen 0
      have c1 := KW.out.cell 1
      have f1 := KW.out.frozen 1
      clear hlt hk
      go_wp2
      exact bodyPost_ret (results_cell_row (fn := Tryz.f17) rfl _ _ gw 31 _ (0, 0) _ rfl (row2w KW.out rfl (.slice none 0 0) (.int .i64 0)) Tryz.underlying31 rfl (by kernel_rfl)) rfl (.inl ⟨HP2.out, rfl, (HB.out.setCell (p := ⟨gw, 0, none⟩) (by rw [HGW.out]; exact Nat.le_refl _) _).setCell (p := ⟨gw, 1, none⟩) (by rw [HGW.out]; exact Nat.le_refl _) _⟩)
end Go.Proofs.YtanjcjnkppnhcaaGreatDoor

namespace Go.Proofs.YtanjcjnkppnhcaaGreatDoor
open Go Go.RowKit

def canT (x : Fl) : Bool := decide (x.2.2.data.toList ≠ []) && decide (x.2.2.size ≤ 256) && decide ((nls x.2.2.data.toList).length = 1)
def canN (x : Fl) : Bool := knownV x.1 && decide (1 ≤ x.2.1) && decide (x.2.1 ≤ 1000000)
def canB (x : Fl) : Bool := canN x && (!(isRw x.1) || canT x)
theorem canB_can {x : Fl} (h : canB x = true) : StepCan x := by
  unfold canB canN canT at h
  simp only [Bool.and_eq_true, Bool.or_eq_true, decide_eq_true_eq, Bool.not_eq_true'] at h
  obtain ⟨⟨⟨h1, h2⟩, h3⟩, h4⟩ := h
  refine ⟨h1, h2, h3, fun hr => ?_⟩
  rcases h4 with h4 | ⟨⟨h4, h5⟩, h6⟩
  · rw [hr] at h4; cases h4
  · exact ⟨h4, h5, h6⟩
theorem chkS_err {gs : List (List Int)} : ∀ (l : List Fl) (i : Nat) (b : Bool) (j : Nat) (k : Int), chkS gs l i b = some (j, k) → j ≤ i + l.length ∧ To14 k
  | [], _, _, _, _, h => by unfold chkS at h; cases h
  | x :: l, i, b, j, k, h => by
    unfold chkS at h
    split at h
    · rename_i h1
      cases h
      refine ⟨by omega, ?_⟩
      unfold wrongV at h1 ⊢
      unfold To14
      split
      · simp
      · split
        · simp
        · split
          · simp
          · rename_i a b c
            rw [if_neg a, if_neg b, if_neg c] at h1
            exact absurd rfl h1
    · have := chkS_err l (i + 1) _ j k h
      exact ⟨by simp; omega, this.2⟩
theorem checkV_err {gs : List (List Int)} {l : List Fl} {j : Nat} {k : Int} (h : checkV gs l = some (j, k)) : j ≤ l.length + 32 ∧ To14 k := by
  unfold checkV at h
  split at h
  · cases h; exact ⟨by omega, .inr (.inr (.inr (.inl rfl)))⟩
  · have := chkS_err l 0 false j k h
    exact ⟨by omega, this.2⟩
/-- Both checks tell the same. -/
theorem check_tells (w : World) (o : Option (Nat × Int)) (vE vW : Value) (ho : ∀ j k, o = some (j, k) → j ≤ 1000 ∧ To14 k) (hE : ErrType w) (hT : PowTab w)
    (h1 : (o = none ∧ vE = .nilIface) ∨ ∃ (i : Nat) (k : Int) (F : Nat), o = some (i, k) ∧ vE = .iface 76 (.pointer (some ⟨F, 0, none⟩)) ∧ Blk w F 78 #[.string bStep, .int .i64 i, .iface 73 (.int .i64 k)])
    (h2 : (o = none ∧ vW = .agg #[.slice none 0 0, .int .i64 0]) ∨ ∃ (i : Nat) (k : Int) (g : Nat), o = some (i, k) ∧ vW = .agg #[.slice (some ⟨g, 0, none⟩) 1 1, .int .i64 k] ∧ Blk w g 91 #[.string bStep, .int .i64 i]) :
    Calls Tryz.prog 11 #[vE, vW] w fun e w' => e = .returned (.bool true) ∧ Below w.heap.size w w' := by
  rcases h1 with ⟨h1, rfl⟩ | ⟨i, k, F, h1, rfl, hF⟩
  · rcases h2 with ⟨h2, rfl⟩ | ⟨i', k', g, h2, rfl, hg⟩
    · exact tells_none w
    · rw [h1] at h2; cases h2
  · rcases h2 with ⟨h2, _⟩ | ⟨i', k', g, h2, rfl, hg⟩
    · rw [h1] at h2; cases h2
    · rw [h1] at h2
      cases h2
      obtain ⟨ha, hb⟩ := ho _ _ h1
      exact tells_all w F g bStep i k hF hg (by decide) (by omega) (by omega) hb hE hT
theorem CheckTo.val {o : Option (Nat × Int)} {w : World} {e : Ending} {w' : World} (h : CheckTo o w e w') : ∃ vE, e = .returned vE ∧ ((o = none ∧ vE = .nilIface) ∨ ∃ (i : Nat) (k : Int) (F : Nat), o = some (i, k) ∧ vE = .iface 76 (.pointer (some ⟨F, 0, none⟩)) ∧ Blk w' F 78 #[.string bStep, .int .i64 i, .iface 73 (.int .i64 k)]) ∧ Below w.heap.size w w' := by
  rcases h with ⟨h, rfl, d⟩ | ⟨i, k, F, h, rfl, _, hF, d⟩
  · exact ⟨_, rfl, .inl ⟨h, rfl⟩, d⟩
  · exact ⟨_, rfl, .inr ⟨i, k, F, h, rfl, hF⟩, d⟩
theorem RefCk.val {o : Option (Nat × Int)} {w : World} {e : Ending} {w' : World} (h : RefCk o w e w') : ∃ vW, e = .returned vW ∧ ((o = none ∧ vW = .agg #[.slice none 0 0, .int .i64 0]) ∨ ∃ (i : Nat) (k : Int) (g : Nat), o = some (i, k) ∧ vW = .agg #[.slice (some ⟨g, 0, none⟩) 1 1, .int .i64 k] ∧ Blk w' g 91 #[.string bStep, .int .i64 i]) ∧ Below w.heap.size w w' := by
  rcases h with ⟨h, rfl, d⟩ | ⟨i, k, F, h, rfl, _, hF, d⟩
  · exact ⟨_, rfl, .inl ⟨h, rfl⟩, d⟩
  · exact ⟨_, rfl, .inr ⟨i, k, F, h, rfl, hF⟩, d⟩
theorem ckVal_below {o : Option (Nat × Int)} {w w' : World} {vE : Value} (h : (o = none ∧ vE = .nilIface) ∨ ∃ (i : Nat) (k : Int) (F : Nat), o = some (i, k) ∧ vE = .iface 76 (.pointer (some ⟨F, 0, none⟩)) ∧ Blk w F 78 #[.string bStep, .int .i64 i, .iface 73 (.int .i64 k)]) (hb : Below w.heap.size w w') :
    (o = none ∧ vE = .nilIface) ∨ ∃ (i : Nat) (k : Int) (F : Nat), o = some (i, k) ∧ vE = .iface 76 (.pointer (some ⟨F, 0, none⟩)) ∧ Blk w' F 78 #[.string bStep, .int .i64 i, .iface 73 (.int .i64 k)] := by
  rcases h with h | ⟨i, k, F, h1, h2, h3⟩
  · exact .inl h
  · exact .inr ⟨i, k, F, h1, h2, Blk.below h3 hb (Blk.lt h3)⟩
theorem nrm_at {l : List Fl} {i : Nat} {x : Fl} (h : l[i]? = some x) : (l.map nrmS)[i]? = some (nrmS x) := by rw [List.getElem?_map, h]; rfl
set_option maxRecDepth 100000 in
set_option maxHeartbeats 16000000 in
theorem todoBack_walk (w : World) (m : Int) (hm : w.cell? ⟨1, 0, none⟩ = some (.int .i64 m)) (h1 : 1 < w.heap.size) (v : Value) (l : List Fl) (vg : Value) (gs : List (List Int)) (hl : Reads 3 cF w v l ∧ ∀ x ∈ l, -9223372036854775808 ≤ x.2.1 ∧ x.2.1 ≤ 9223372036854775807) (hG : G.Rows w vg gs) (hE : ErrType w) (hT : PowTab w) :
    Calls Tryz.prog 4 #[v, vg] w fun e w' => e = .returned (.bool true) ∧ Below w.heap.size w w' := by
  obtain ⟨hl, hb⟩ := hl
  have KN := known21_yes w m hm h1
  have HE := Lib.hid fun W (hW : Below w.heap.size w W) => hE.below hW
  have HT := Lib.hid fun W (hW : Below w.heap.size w W) => tabIs_below hT hW
  have HM := Lib.hid fun W (hW : Below w.heap.size w W) => (show W.cell? ⟨1, 0, none⟩ = some (.int .i64 m) by rw [hW.cell h1]; exact hm)
  have HG := Lib.hid fun W (hW : Below w.heap.size w W) => hG.below hW
  have HL := Lib.hid fun W (hW : Below w.heap.size w W) => hl.below hW
  have BD := Lib.hid hb
  obtain ⟨A, c, rfl⟩ := hl.form
  obtain ⟨Ag, cg, rfl⟩ := hG.form
  have n0 : (0 : Int) ≤ (gs.length : Int) := Int.natCast_nonneg _
  have l0 : (0 : Int) ≤ (l.length : Int) := Int.natCast_nonneg _
  clear hm h1 hE hT hG hl hb
  go_enter Tryz.func4, Tryz.ntmps4
  go_wp2_with fail
  refine KN.mono ?_
  rintro e w1 ⟨rfl, d1⟩
  have D1 := Lib.hid d1
  clear d1 KN
  by_cases h40 : 40 < l.length
  · have h40i : (40 : Int) < (l.length : Int) := by omega
    go_wp2
    go_ret
    exact ⟨rfl, D1.out⟩
  have h40i : ¬ (40 : Int) < (l.length : Int) := by omega
  by_cases h60 : 60 < gs.length
  · have h60i : (60 : Int) < (gs.length : Int) := by omega
    go_wp2
    go_ret
    exact ⟨rfl, D1.out⟩
  have h60i : ¬ (60 : Int) < (gs.length : Int) := by omega
  have CK := Lib.hid (G.refCheck_any w1 _ gs (HG.out _ D1.out))
  go_wp2_with fail
  refine CK.out.mono ?_
  rintro e w2 ⟨rfl, d2⟩
  have D2 := Lib.hid (D1.out.trans (d2.mono D1.out.size))
  clear CK d2 D1
  by_cases hc : G.chk gs = 0
  case neg =>
    have e1 : (G.chk gs != 0) = true := by simpa using hc
    go_wp2
    go_ret
    exact ⟨rfl, D2.out⟩
  have e1 : (G.chk gs != 0) = false := by simpa using hc
  have HN := Lib.hid (show gs.length ≤ 2000 by omega)
  have HL40 := Lib.hid (show l.length ≤ 40 by omega)
  have l9 : (l.length : Int) ≤ 40 := by omega
  obtain ⟨b0, hb0⟩ : ∃ b0, b0 = decide (l.length ≤ 32) := ⟨_, rfl⟩
  have hb0i : decide ((l.length : Int) ≤ 32) = b0 := by rw [hb0]; exact decide_eq_decide.2 (by omega)
  have HB0 := Lib.hid hb0
  clear hb0 hc
  go_wp2_with fail
  go_loopw [5, 6] (fun s5 s6 wr => ∃ (k : Nat) (b : Bool), k ≤ l.length ∧ s6 = .int .i64 k ∧ s5 = .bool b ∧ Hid (b = (b0 && (l.take k).all canB)) ∧ Hid (∀ x ∈ l.take k, x.1.size ≤ 1000 ∧ x.2.2.size ≤ 1000) ∧ Hid (Below w.heap.size w wr)) (fun _ s6 _ => l.length - (intOf s6).toNat)
  case atStart => exact ⟨0, b0, Nat.zero_le _, rfl, rfl, Lib.hid (by simp), Lib.hid (by simp), D2⟩
  case round =>
    clear D2 e1
    obtain ⟨k, b, hk, rfl, rfl, HBB, HSZ, HB⟩ := hrel
    have k0 : (0 : Int) ≤ (k : Int) := Int.natCast_nonneg _
    by_cases hlt : k < l.length
    · obtain ⟨x, hx⟩ : ∃ x, l[k]? = some x := ⟨_, List.getElem?_eq_getElem hlt⟩
      have hki : (k : Int) < (l.length : Int) := by omega
      obtain ⟨ad, rfl, c0, c1, c2⟩ := Fils.at_ (HL.out wr HB.out) hx
      have HLT := Lib.hid hlt
      have TS := Lib.hid (take_snoc hx)
      have B2 := Lib.hid (HB.out.alloc HB.out.size (.cells #[.string x.1, .int .i64 x.2.1, .string x.2.2] 41))
      have Z2 := Lib.hid (Blk.new wr 41 #[.string x.1, .int .i64 x.2.1, .string x.2.2])
      obtain ⟨z, hz⟩ : ∃ z, z = wr.heap.size := ⟨_, rfl⟩
      have CN := Lib.hid (show canN x = (knownV x.1 && decide (1 ≤ x.2.1) && decide (x.2.1 ≤ 1000000)) from rfl)
      have CB := Lib.hid (show canB x = (canN x && (!(isRw x.1) || canT x)) from rfl)
      have CT := Lib.hid (show canT x = (decide (x.2.2.data.toList ≠ []) && decide (x.2.2.size ≤ 256) && decide ((nls x.2.2.data.toList).length = 1)) from rfl)
      obtain ⟨cn, hcn⟩ : ∃ q, q = canN x := ⟨_, rfl⟩
      obtain ⟨cb, hcb⟩ : ∃ q, q = canB x := ⟨_, rfl⟩
      obtain ⟨ct, hct⟩ : ∃ q, q = canT x := ⟨_, rfl⟩
      rw [← hcn] at CN CB
      rw [← hcb, ← hct] at CB
      rw [← hct] at CT
      have HCB := Lib.hid hcb
      clear hcn hcb hct
      obtain ⟨vb, cc, tx⟩ := x
      dsimp only at c0 c1 c2 B2 Z2 CN CB CT HCB
      clear hx hlt hk HB
      go_upto_region 10 with fail
      rw [← hz] at Z2 ⊢
      clear hz c0 c1 c2
      generalize wr.alloc (.cells #[.string vb, .int .i64 cc, .string tx] 41) = w3 at *
      have y0 := Z2.out.cell 0
      have y1 := Z2.out.cell 1
      have y2 := Z2.out.cell 2
      have v0 : (0 : Int) ≤ (vb.size : Int) := Int.natCast_nonneg _
      have t0 : (0 : Int) ≤ (tx.size : Int) := Int.natCast_nonneg _
      by_cases hv : 30 < vb.size
      · have hvi : (30 : Int) < (vb.size : Int) := by omega
        go_wp2
        go_ret
        exact ⟨rfl, B2.out⟩
      have hvi : ¬ (30 : Int) < (vb.size : Int) := by omega
      by_cases ht : 300 < tx.size
      · have hti : (300 : Int) < (tx.size : Int) := by omega
        go_wp2
        go_ret
        exact ⟨rfl, B2.out⟩
      have hti : ¬ (300 : Int) < (tx.size : Int) := by omega
      have HZ2 := Lib.hid (show ∀ y ∈ l.take (k + 1), y.1.size ≤ 1000 ∧ y.2.2.size ≤ 1000 from fun y hy => by
        rw [TS.out] at hy
        rcases List.mem_append.1 hy with hy | hy
        · exact HSZ.out y hy
        · rw [List.mem_singleton.1 hy]; exact ⟨by show vb.size ≤ 1000; omega, by show tx.size ≤ 1000; omega⟩)
      have HAL := Lib.hid (show (b0 && (l.take (k + 1)).all canB) = (b && cb) by rw [TS.out, List.all_append, ← Bool.and_assoc, ← HBB.out]; simp only [List.all_cons, List.all_nil, Bool.and_true]; rw [HCB.out])
      have htz := Lib.hid (show tx.size ≤ 300 by omega)
      go_upto_region 12 with fail
      clear hv hvi ht hti HSZ TS HBB v0
      go_cut [5] (fun s5 wx => ∃ b2 : Bool, s5 = .bool b2 ∧ Hid (b2 = (b && cn)) ∧ Hid (Blk wx z 41 #[.string vb, .int .i64 cc, .string tx]) ∧ Hid (Below w.heap.size w wx))
      case first =>
        have VB := Lib.hid fun W => refVerb_any vb W
        cases b with
        | false =>
          go_wp2_with fail
          go_meet
          exact ⟨false, rfl, Lib.hid (by simp), Z2, B2⟩
        | true =>
          go_wp2_with fail
          refine (VB.out _).mono ?_
          rintro e w4 ⟨n, rfl, hn, hn1, d4⟩
          have B4 := Lib.hid (B2.out.trans (d4.mono B2.out.size))
          have Z4 := Lib.hid (Z2.out.below d4 Z2.out.lt)
          clear y0 y1 y2 d4 Z2 B2 VB
          have y0 := Z4.out.cell 0
          have y1 := Z4.out.cell 1
          have y2 := Z4.out.cell 2
          cases hk : knownV vb with
          | false =>
            have z1 : ¬ 0 ≤ n := by rw [hk] at hn; have := of_decide_eq_true hn; omega
            have CN2 := Lib.hid (show cn = false by rw [CN.out, hk]; rfl)
            clear hn hk CN
            go_wp2_with fail
            go_meet
            exact ⟨false, rfl, Lib.hid (by rw [CN2.out]; rfl), Z4, B4⟩
          | true =>
            have z1 : 0 ≤ n := by rw [hk] at hn; have := of_decide_eq_false hn; omega
            by_cases g1 : 1 ≤ cc
            · by_cases g2 : cc ≤ 1000000
              · have CN2 := Lib.hid (show cn = true by rw [CN.out, hk]; simp [g1, g2])
                clear hn hk CN
                go_wp2_with fail
                go_meet
                exact ⟨true, rfl, Lib.hid (by rw [CN2.out]; rfl), Z4, B4⟩
              · have CN2 := Lib.hid (show cn = false by rw [CN.out, hk]; simp [g2])
                have g3 := decide_eq_false g2
                clear hn hk CN
                go_wp2_with fail
                go_meet
                exact ⟨false, rfl, Lib.hid (by rw [CN2.out]; rfl), Z4, B4⟩
            · have CN2 := Lib.hid (show cn = false by rw [CN.out, hk]; simp [g1])
              clear hn hk CN
              go_wp2_with fail
              go_meet
              exact ⟨false, rfl, Lib.hid (by rw [CN2.out]; rfl), Z4, B4⟩
      case rest =>
        obtain ⟨b2, rfl, HB2, Z3, B3⟩ := hcut
        clear y0 y1 y2 Z2 B2 CN
        have y0 := Z3.out.cell 0
        have HAL2 := Lib.hid (show (if isRw vb = true then b2 && ct else b2) = (b0 && (l.take (k + 1)).all canB) by
          rw [HAL.out, HB2.out, CB.out]
          cases hr : isRw vb <;> simp [Bool.and_assoc])
        clear HAL CB
        clear y0
        have y0 := Z3.out.cell 0
        cases hr : (vb.toList == [114, 101, 119, 111, 114, 100]) with
        | false =>
          have HQ := Lib.hid (show isRw vb = false from hr)
          go_wp2_with fail
          go_roundw
          case rel => exact ⟨k + 1, b2, by have := HLT.out; omega, by go_num, rfl, Lib.hid (by rw [← HAL2.out, HQ.out]; simp), HZ2, B3⟩
          case measure => have := HLT.out; simp [intOf]; omega
        | true =>
          have HQ := Lib.hid (show isRw vb = true from hr)
          have y2 := Z3.out.cell 2
          cases b2 with
          | false =>
            go_wp2_with fail
            go_roundw
            case rel => exact ⟨k + 1, false, by have := HLT.out; omega, by go_num, rfl, Lib.hid (by rw [← HAL2.out, HQ.out]; simp), HZ2, B3⟩
            case measure => have := HLT.out; simp [intOf]; omega
          | true =>
            by_cases he : tx.data.toList = []
            · have hxe := nil_ofB (s := tx) (by rw [← size_listB, he]; rfl)
              have CT2 := Lib.hid (show ct = false by rw [CT.out]; simp [hxe])
              subst hxe
              clear he
              go_wp2_with fail
              go_roundw
              case rel => exact ⟨k + 1, false, by have := HLT.out; omega, by go_num, rfl, Lib.hid (by rw [← HAL2.out, HQ.out, CT2.out]; simp), HZ2, B3⟩
              case measure => have := HLT.out; simp [intOf]; omega
            obtain ⟨n1, n2⟩ := not_nilB he
            by_cases h256 : tx.size ≤ 256
            · have h256i : (tx.size : Int) ≤ 256 := by omega
              have LN := Lib.hid fun W => refLines_any tx W (by omega)
              go_wp2_with fail
              refine (LN.out _).mono ?_
              rintro e w5 ⟨xs, u, hxs, rfl, ho, d5⟩
              have B5 := Lib.hid (B3.out.trans (d5.mono B3.out.size))
              obtain ⟨A5, c5, rfl⟩ := own_form ho
              have HXL := Lib.hid (show xs.length = (nls tx.data.toList).length by rw [← hxs, List.length_map])
              have CT2 := Lib.hid (show ct = decide (xs.length = 1) by rw [CT.out, HXL.out]; simp [he, h256])
              have hi : ((xs.length : Int) == 1) = decide (xs.length = 1) := by rw [Bool.eq_iff_iff]; simp; omega
              clear ho hxs d5 LN he h256
              go_wp2_with fail
              go_roundw
              case rel => exact ⟨k + 1, decide (xs.length = 1), by have := HLT.out; omega, by go_num, rfl, Lib.hid (by rw [← HAL2.out, HQ.out, CT2.out]; simp), HZ2, B5⟩
              case measure => have := HLT.out; simp [intOf]; omega
            · have h256i : decide ((tx.size : Int) ≤ 256) = false := decide_eq_false (by omega)
              have CT2 := Lib.hid (show ct = false by rw [CT.out]; simp [h256])
              clear he h256
              go_wp2_with fail
              go_roundw
              case rel => exact ⟨k + 1, false, by have := HLT.out; omega, by go_num, rfl, Lib.hid (by rw [← HAL2.out, HQ.out, CT2.out]; simp), HZ2, B3⟩
              case measure => have := HLT.out; simp [intOf]; omega
    · obtain rfl : k = l.length := by omega
      have SZ := Lib.hid (show ∀ x ∈ l, x.1.size ≤ 1000 ∧ x.2.2.size ≤ 1000 from fun x hx => HSZ.out x (by rw [List.take_length]; exact hx))
      have SO := Lib.hid (show ∀ x ∈ l, StepOkG x from fun x hx => ⟨(SZ.out x hx).1, (SZ.out x hx).2, (BD.out x hx).1, (BD.out x hx).2⟩)
      have HB1 := Lib.hid (show b = (b0 && l.all canB) by have := HBB.out; rw [List.take_length] at this; exact this)
      clear hlt HSZ SZ HBB
      go_upto_region 15 with fail
      go_cut [104] (fun s104 wx => s104 = .bool false ∧ Hid (Below w.heap.size w wx))
      case first =>
        have CKP := Lib.hid (checkS_any wr _ _ l gs (HL.out wr HB.out) (HG.out wr HB.out) (by have := HN.out; omega) BD.out)
        have ERR := Lib.hid (show ∀ j k, checkV gs l = some (j, k) → j ≤ 1000 ∧ To14 k from fun j k h => by have := checkV_err h; have := HL40.out; exact ⟨by omega, (checkV_err h).2⟩)
        go_wp2_with fail
        refine CKP.out.mono ?_
        intro e w3 h3
        obtain ⟨vE, rfl, hvE, d3⟩ := CheckTo.val h3
        have B3 := Lib.hid (HB.out.trans (d3.mono HB.out.size))
        have VE := Lib.hid hvE
        have LO := Lib.hid (lawOf_any w3 _ l (HL.out w3 B3.out) (by have := HL40.out; omega))
        clear h3 d3 hvE CKP HB
        go_wp2_with fail
        refine LO.out.mono ?_
        rintro e w4 ⟨u4, rfl, o4, d4⟩
        have B4 := Lib.hid (B3.out.trans (d4.mono B3.out.size))
        have R4 := Lib.hid (Reads.of_own (enc := cF) cF_len o4)
        obtain ⟨A4, c4, rfl⟩ := own_form o4
        have RC := Lib.hid (refCheckTodo_any w4 _ _ l gs R4.out (HG.out w4 B4.out) (by have := HN.out; omega))
        have E4 := Lib.hid d4
        clear o4 d4 LO
        go_wp2_with fail
        refine RC.out.mono ?_
        intro e w5 h5
        obtain ⟨vW, rfl, hvW, d5⟩ := RefCk.val h5
        have B5 := Lib.hid (B4.out.trans (d5.mono B4.out.size))
        have TL := Lib.hid (check_tells w5 (checkV gs l) vE vW ERR.out (HE.out _ B5.out) (HT.out _ B5.out) (ckVal_below VE.out (E4.out.trans (d5.mono E4.out.size))) hvW)
        clear h5 d5 hvW VE E4 RC B4 B3 R4 ERR
        go_wp2_with fail
        refine TL.out.mono ?_
        rintro e w6 ⟨rfl, d6⟩
        have B6 := Lib.hid (B5.out.trans (d6.mono B5.out.size))
        have TX := Lib.hid (text_all w6 _ l (HL.out w6 B6.out) (by have := HL40.out; omega) SO.out (HT.out w6 B6.out))
        obtain ⟨s, hs⟩ : ∃ s : ByteArray, s = ⟨(stepsG l).toArray⟩ := ⟨_, rfl⟩
        rw [← hs] at TX
        have HS := Lib.hid hs
        clear TL d6 B5 hs
        go_wp2_with fail
        refine TX.out.mono ?_
        rintro e w7 ⟨rfl, d7⟩
        have B7 := Lib.hid (B6.out.trans (d7.mono B6.out.size))
        have LO := Lib.hid (lawOf_any w7 _ l (HL.out w7 B7.out) (by have := HL40.out; omega))
        clear d7 B6 TX
        go_wp2_with fail
        refine LO.out.mono ?_
        rintro e w8 ⟨u8', rfl, o8, d8⟩
        have B8 := Lib.hid (B7.out.trans (d8.mono B7.out.size))
        obtain ⟨A8, c8, rfl⟩ := own_form o8
        have RT := Lib.hid (refText_all w8 _ l (Reads.of_own (enc := cF) cF_len o8) (by have := HL40.out; omega) SO.out)
        rw [← HS.out] at RT
        clear o8 d8 LO B7
        go_wp2_with fail
        refine RT.out.mono ?_
        rintro e w9 ⟨rfl, d9⟩
        have B9 := Lib.hid (B8.out.trans (d9.mono B8.out.size))
        clear RT B8 d9
        go_wp2_with fail
        go_meet
        exact ⟨rfl, B9⟩
      case rest =>
        obtain ⟨rfl, B2⟩ := hcut
        clear HB
        cases b with
        | false =>
          go_wp2
          go_ret
          exact ⟨rfl, B2.out⟩
        | true =>
          have hall := HB1.out.symm
          rw [Bool.and_eq_true] at hall
          have HP := Lib.hid (parse_back l 0 [] (by have := hall.1; rw [HB0.out] at this; have := of_decide_eq_true this; simpa using this) (fun x hx => canB_can (List.all_eq_true.1 hall.2 x hx)))
          have TX := Lib.hid (text_all wc _ l (HL.out wc B2.out) (by have := HL40.out; omega) SO.out (HT.out wc B2.out))
          have SL := Lib.hid (show (ByteArray.mk (stepsG l).toArray).size ≤ 1000000 by
            have h1 := stepsG_le (l := l) SO.out
            have := HL40.out
            show (stepsG l).toArray.size ≤ _
            simp only [List.size_toArray]
            omega)
          clear hall
          go_wp2_with fail
          refine TX.out.mono ?_
          rintro e w3 ⟨rfl, d3⟩
          have B3 := Lib.hid (B2.out.trans (d3.mono B2.out.size))
          have PA := Lib.hid (parse_any _ w3 m (HM.out _ B3.out) SL.out)
          rw [show (ByteArray.mk (stepsG l).toArray).data.toList = stepsG l by simp, HP.out, List.nil_append] at PA
          clear TX d3 B2
          go_wp2_with fail
          refine PA.out.mono ?_
          rintro e w4 (⟨xs, u, hx, rfl, o4, h32, d4⟩ | ⟨i, k, F, hx, _⟩)
          case inr => cases hx
          obtain rfl : l.map nrmS = xs := Sum.inl.inj hx
          have B4 := Lib.hid (B3.out.trans (d4.mono B3.out.size))
          obtain ⟨A4, c4, rfl⟩ := own_form o4
          have HK := Lib.hid fun W (hW : Below w4.heap.size w4 W) => (Reads.of_own (enc := cF) cF_len o4).below hW
          rw [List.length_map] at *
          clear PA d4 B3 hx o4
          have eL : ((l.length : Int) != (l.length : Int)) = false := by simp
          go_wp2_with fail
          go_loopw [10] (fun s10 wr => ∃ k : Nat, k ≤ l.length ∧ s10 = .int .i64 k ∧ Hid (Below w4.heap.size w4 wr)) (fun s10 _ => l.length - (intOf s10).toNat)
          case atStart => exact ⟨0, Nat.zero_le _, rfl, Lib.hid (Below.refl _ _)⟩
          case round =>
            obtain ⟨k, hk, rfl, HB⟩ := hrel
            have k0 : (0 : Int) ≤ (k : Int) := Int.natCast_nonneg _
            by_cases hlt : k < l.length
            · obtain ⟨x, hx⟩ : ∃ x, l[k]? = some x := ⟨_, List.getElem?_eq_getElem hlt⟩
              have hki : (k : Int) < (l.length : Int) := by omega
              obtain ⟨ad, rfl, c0, c1, c2⟩ := Fils.at_ (HL.out wr (B4.out.trans (HB.out.mono B4.out.size))) hx
              obtain ⟨ad2, rfl, e0, e1, e2⟩ := Fils.at_ (HK.out wr HB.out) (nrm_at hx)
              have HLT := Lib.hid hlt
              obtain ⟨vb, cc, tx⟩ := x
              dsimp only at c0 c1 c2
              unfold nrmS at e0 e1 e2
              dsimp only at e0 e1 e2
              have q1 : (cc != cc) = false := by simp
              cases hr : (vb.toList == [114, 101, 119, 111, 114, 100]) with
              | true =>
                rw [show isRw vb = true from hr, if_pos rfl] at e2
                clear hx hlt hk
                go_wp2_with fail
                go_quiet (fail)
                go_wp2_with fail
                go_roundw
                case rel => exact ⟨k + 1, by have := HLT.out; omega, by go_num, Lib.hid (below_drewN HB.out _)⟩
                case measure => have := HLT.out; simp [intOf]; omega
              | false =>
                rw [show isRw vb = false from hr, if_neg (by simp)] at e2
                clear hx hlt hk
                go_wp2_with fail
                go_quiet (fail)
                go_wp2_with fail
                go_roundw
                case rel => exact ⟨k + 1, by have := HLT.out; omega, by go_num, Lib.hid (below_drewN HB.out _)⟩
                case measure => have := HLT.out; simp [intOf]; omega
            · obtain rfl : k = l.length := by omega
              clear hlt
              go_wp2
              go_ret
              exact ⟨rfl, B4.out.trans (HB.out.mono B4.out.size)⟩
#print axioms todoBack_walk
end Go.Proofs.YtanjcjnkppnhcaaGreatDoor
