/-
  rectoref3.At: a refusal at one place.
  rectoref17.Parse: a text as steps, or what is wrong first.
  Steps in words, read again, are those steps: the plain theory.
  cmd: which fields a verb has; what is wrong with a number, a text, a step.
-/
import Derived.Test.YtanjcjnkppnhcaaGreatDoorQAR
import Derived.Test.YtanjcjnkppnhcaaGreatDoorQAG
import Derived.Test.YtanjcjnkppnhcaaGreatDoorQAP
import Derived.Test.YtanjcjnkppnhcaaGreatDoorQAD
import Derived.Test.YtanjcjnkppnhcaaGreatDoorQAF

namespace Go.Proofs.YtanjcjnkppnhcaaGreatDoor
open Go Go.RowKit

theorem results_tmp_cell {fn : Func} {p u : Tmp} {ty : TypeId} (h : fn.results = #[.tmp u, .cell p ty]) (tmps : Array Value) (P : Program) (w : World) :
    (results fn tmps).run P w =
      ((asAddr (tmps.getD p undef)).run P w).andThen fun a w1 => ((loadVar ty a).run P w1).andThen fun x w2 => .ok (.tuple #[tmps.getD u undef, x]) w2 := by
  simp only [results, h]
  simp [Sem.run_bind, Result.andThen]
theorem results_tmp_row {P : Program} {fn : Func} {p u : Tmp} {ty : TypeId} (h : fn.results = #[.tmp u, .cell p ty]) (tmps : Array Value) (w : World) (g : Nat) (t : TypeId) (cs : Array Value) (fr : Nat × Nat) (d : TypeDesc)
    (hp : tmps.getD p undef = .pointer (some ⟨g, 0, none⟩)) (hg : w.heap[g]? = some (.cells cs t fr))
    (hu : P.underlying ty = some d) (hd : (match d with | .struct _ | .array _ _ => true | _ => false) = true) (hi : (P.info? ty).map (·.size) = some cs.size) :
    (results fn tmps).run P w = .ok (.tuple #[tmps.getD u undef, .agg cs]) w := by
  rw [results_tmp_cell h, hp]
  simp [asAddr, run_loadVar_row w g t ty cs fr d hg hu hd hi, Result.andThen]
set_option maxHeartbeats 1000000 in
theorem refAt_any (p : ByteArray) (n e : Int) (w : World) : Calls Tryz.prog 40 #[.string p, .int .i64 n, .int .i64 e] w fun x w' => ∃ g, x = .returned (.agg #[.slice (some ⟨g, 0, none⟩) 1 1, .int .i64 e]) ∧ Blk w' g 91 #[.string p, .int .i64 n] ∧ w.heap.size ≤ g ∧ Below w.heap.size w w' := by
  go_enter Tryz.func40, Tryz.ntmps40
  go_wp2
  refine bodyPost_ret (results_cell_row (fn := Tryz.f40) rfl _ _ w.heap.size 31 #[.slice (some ⟨w.heap.size + 1, 0, none⟩) 1 1, .int .i64 e] (0, 0) _ rfl ((Blk.new w 31 _).alloc _) Tryz.underlying31 rfl (by kernel_rfl)) rfl ⟨w.heap.size + 1, rfl, ?_, by omega, ((Below.refl _ _).alloc (Nat.le_refl _) _).alloc (by simp) _⟩
  have h := heap_alloc_new (w.alloc (.cells #[.slice (some ⟨w.heap.size + 1, 0, none⟩) 1 1, .int .i64 e] 31)) (.cells #[.string p, .int .i64 n] 91)
  rw [show (w.alloc (.cells #[.slice (some ⟨w.heap.size + 1, 0, none⟩) 1 1, .int .i64 e] 31)).heap.size = w.heap.size + 1 by simp] at h
  exact h
end Go.Proofs.YtanjcjnkppnhcaaGreatDoor

namespace Go.Proofs.YtanjcjnkppnhcaaGreatDoor
open Go Go.RowKit

theorem parse_skip {x : List UInt8} {ls : List (List UInt8)} {i : Nat} {acc : List Fl} (h : (wordP x).1 = [] ∨ (wordP x).1.head? = some 35) : parseP (x :: ls) i acc = parseP ls (i + 1) acc := by
  rw [parseP, lineP_step, if_pos h]
  simp
theorem parse_step {x : List UInt8} {ls : List (List UInt8)} {i : Nat} {acc : List Fl} (h : ¬ ((wordP x).1 = [] ∨ (wordP x).1.head? = some 35)) :
    parseP (x :: ls) i acc = if (stepP x).2 ≠ 0 then .inr (i, (stepP x).2) else if acc.length = 32 then .inr (32, 4) else parseP ls (i + 1) (acc ++ [(stepP x).1]) := by
  rw [parseP, lineP_step, if_neg h]
  by_cases h0 : (stepP x).2 = 0
  · simp [h0]
  · simp [h0]
def RefTo (r : (List Fl) ⊕ (Nat × Int)) (w : World) (e : Ending) (w' : World) : Prop :=
  (∃ xs u, r = .inl xs ∧ e = .returned (.tuple #[u, .agg #[.slice none 0 0, .int .i64 0]]) ∧ w'.ownsRow w.heap.size 81 3 u xs.length (xs.flatMap cF) ∧ xs.length ≤ 32 ∧ Below w.heap.size w w') ∨
  ∃ (i : Nat) (k : Int) (g : Nat), r = .inr (i, k) ∧ e = .returned (.tuple #[.slice none 0 0, .agg #[.slice (some ⟨g, 0, none⟩) 1 1, .int .i64 k]]) ∧ w.heap.size ≤ g ∧ Blk w' g 91 #[.string bLine, .int .i64 i] ∧ Below w.heap.size w w'
theorem row2w {w : World} {g : Nat} {cs : Array Value} (h : Blk w g 31 cs) (hs : cs.size = 2) (a b : Value) : Blk ((w.setCell ⟨g, 0, none⟩ a).setCell ⟨g, 1, none⟩ b) g 31 #[a, b] := by
  have := (h.set_ 0 a).set_ 1 b
  match cs, hs with
  | ⟨[x, y]⟩, _ => simpa using this
theorem own_setG {w : World} {B g n : Nat} {v : Value} {xs : List Value} {cs : Array Value} (h : w.ownsRow B 81 3 v n xs) (hg : Blk w g 31 cs) {a b : Value} : ((w.setCell ⟨g, 0, none⟩ a).setCell ⟨g, 1, none⟩ b).ownsRow B 81 3 v n xs := by
  have hne := own_blk_ne h hg (by decide)
  exact ownsRow_setCell_other (ownsRow_setCell_other h (a := ⟨g, 0, none⟩) hne a) (a := ⟨g, 1, none⟩) hne b
theorem strs_block {w : World} {B : Nat} {u : Value} {l : List ByteArray} (h : w.ownsRow B 9 1 u l.length (l.map Value.string)) (h0 : l ≠ []) : ∃ g c, u = .slice (some ⟨g, 0, none⟩) l.length c ∧ ∀ i x, l[i]? = some x → w.cell? ⟨g, i, none⟩ = some (.string x) := by
  have hl := List.length_pos_iff.2 h0
  obtain ⟨g, c, rfl⟩ : ∃ g c, u = .slice (some ⟨g, 0, none⟩) l.length c := by
    rcases h.2 with ⟨_, e2⟩ | ⟨g, cap, cur, e, _⟩
    · omega
    · exact ⟨g, cap, e⟩
  refine ⟨g, c, rfl, fun i x hx => ?_⟩
  rw [h.cellAt i (by have := (List.getElem?_eq_some_iff.1 hx).1; omega), List.getElem?_map, hx]
  rfl
set_option maxRecDepth 100000 in
set_option maxHeartbeats 4000000 in
theorem refParse_any (s : ByteArray) (w : World) (hs : s.size ≤ 100000) :
    Calls Tryz.prog 10 #[.string s] w (RefTo (parseP (nls s.data.toList) 0 []) w) := by
  obtain ⟨R, hR⟩ : ∃ R, R = parseP (nls s.data.toList) 0 [] := ⟨_, rfl⟩
  rw [← hR]
  have HRR := Lib.hid hR
  have RL := Lib.hid fun W => refLines_any s W hs
  have K0 := Lib.hid (Blk.new w 31 #[.slice none 0 0, .int .i64 0])
  have B0 := Lib.hid ((Below.refl w.heap.size w).alloc (Nat.le_refl _) (.cells #[.slice none 0 0, .int .i64 0] 31))
  obtain ⟨gw, hgw⟩ : ∃ g, g = w.heap.size := ⟨_, rfl⟩
  have HGW := Lib.hid hgw
  rw [← hgw] at K0
  clear hR
  go_enter Tryz.func10, Tryz.ntmps10
  go_wp2_with fail
  rw [← hgw]
  clear hgw
  refine (RL.out _).mono ?_
  rintro e w1 ⟨L, u1, hL, rfl, o1, b1⟩
  have B1 := Lib.hid (B0.out.trans (b1.mono B0.out.size))
  have K1 := Lib.hid (K0.out.below b1 K0.out.lt)
  obtain ⟨gL, cL1, rfl, hcl⟩ := strs_block o1 (fun e => nls_ne _ (by rw [← hL, e]; rfl))
  have C0 := Lib.hid hcl
  have HSZ := Lib.hid (show ∀ x ∈ L, x.size ≤ 9223372036854775807 from fun x hx => by
    have h1 : x.data.toList ∈ nls s.data.toList := by rw [← hL]; exact List.mem_map_of_mem hx
    have h2 := nls_le h1
    rw [size_listB, size_listB] at h2
    omega)
  have HLN := Lib.hid (show L.length ≤ 100001 by rw [← List.length_map (f := (·.data.toList)), hL]; have := nls_len s.data.toList; rw [size_listB] at this; omega)
  have HR0 := Lib.hid (show parseP ((L.drop 0).map (·.data.toList)) 0 [] = R by rw [List.drop_zero, hL, HRR.out])
  have ln0 : (0 : Int) ≤ (L.length : Int) := Int.natCast_nonneg _
  have ln1 : (L.length : Int) ≤ 100001 := by have := HLN.out; omega
  clear hL o1 b1 hcl K0 B0 RL HRR
  go_wp2_with fail
  generalize (w.alloc (.cells #[.slice none 0 0, .int .i64 0] 31)) = W0 at *
  go_loopw [5, 6] (fun s5 s6 wr => ∃ (k : Nat) (acc : List Fl), k ≤ L.length ∧ s6 = .int .i64 k ∧ Hid (acc.length ≤ 32) ∧ Hid (wr.ownsRow w1.heap.size 81 3 s5 acc.length (acc.flatMap cF)) ∧ Hid (parseP ((L.drop k).map (·.data.toList)) k acc = R) ∧ Hid (Below w1.heap.size w1 wr)) (fun _ s6 _ => L.length - (intOf s6).toNat)
  case atStart => exact ⟨0, [], Nat.zero_le _, rfl, Lib.hid (by simp), Lib.hid (World.ownsRow_nil _ _ _ _), HR0, Lib.hid (Below.refl _ _)⟩
  case round =>
    obtain ⟨k, acc, hk, rfl, HA, HO, HR, HB⟩ := hrel
    have k0 : (0 : Int) ≤ (k : Int) := Int.natCast_nonneg _
    have KW := Lib.hid (K1.out.below HB.out K1.out.lt)
    by_cases hlt : k < L.length
    · obtain ⟨x, hx⟩ : ∃ x, L[k]? = some x := ⟨_, List.getElem?_eq_getElem hlt⟩
      have hki : (k : Int) < (L.length : Int) := by omega
      have c0 : wr.cell? ⟨gL, k, none⟩ = some (.string x) := (HB.out.cell (p := ⟨gL, k, none⟩) (World.block_lt_of_cell? _ _ (C0.out k x hx))).trans (C0.out k x hx)
      have WD := Lib.hid (refWord_any x wr (HSZ.out x (List.mem_of_getElem? hx)))
      have ST := Lib.hid fun W => refStep_any x W (HSZ.out x (List.mem_of_getElem? hx))
      have HP := Lib.hid (show parseP (x.data.toList :: (L.drop (k + 1)).map (·.data.toList)) k acc = R by have := HR.out; rw [drop_consB hx] at this; exact this)
      have HLT := Lib.hid hlt
      have hxl : gL < w1.heap.size := World.block_lt_of_cell? _ _ (C0.out k x hx)
      obtain ⟨v, hv⟩ : ∃ v, v = mkW (wordP x.data.toList).1 := ⟨_, rfl⟩
      have ev := Lib.hid (show (wordP x.data.toList).1 = v.data.toList by rw [hv, list_mkW])
      rw [← hv] at WD
      clear hx hlt hk HR hv
      go_wp2_with fail
      refine WD.out.mono ?_
      rintro e w2 ⟨rfl, q, rfl⟩
      have c1 : (wr.drewN q).cell? ⟨gL, k, none⟩ = some (.string x) := c0
      have B2 := Lib.hid (below_drewN HB.out q)
      have O2 : Hid ((wr.drewN q).ownsRow w1.heap.size 81 3 u5 acc.length (acc.flatMap cF)) := Lib.hid HO.out
      have KW2 : Hid (Blk (wr.drewN q) gw 31 #[.slice none 0 0, .int .i64 0]) := Lib.hid KW.out
      clear c0 HB HO KW WD
      generalize wr.drewN q = w2 at *
      by_cases h1 : v.data.toList = []
      · have HP2 := Lib.hid (show parseP ((L.drop (k + 1)).map (·.data.toList)) (k + 1) acc = R by rw [← HP.out, parse_skip (.inl (by rw [ev.out, h1]))])
        obtain rfl : v = ⟨#[]⟩ := bytesB_eq h1
        clear h1 HP ev
        go_wp2
        go_roundw
        case rel => exact ⟨k + 1, acc, by have := HLT.out; omega, by go_num, HA, O2, HP2, B2⟩
        case measure => have := HLT.out; simp [intOf]; omega
      obtain ⟨n1, n2⟩ := not_nilB h1
      have hv0 : 0 < v.size := by
        rcases Nat.eq_zero_or_pos v.size with h | h
        · exact absurd (congrArg (fun b : ByteArray => b.data.toList) (nil_ofB h)) h1
        · exact h
      have hv0i : (0 : Int) < (v.size : Int) := by omega
      have hd := head_of hv0
      by_cases h35 : v[0] = 35
      · have HP2 := Lib.hid (show parseP ((L.drop (k + 1)).map (·.data.toList)) (k + 1) acc = R by rw [← HP.out, parse_skip (.inr (by rw [ev.out, hd, h35]))])
        have b1 : ((v[0].toNat : Int) == 35) = true := by rw [h35]; rfl
        have b2 : (v[0].toNat : Int) = 35 := by rw [h35]; rfl
        clear h35 hd h1 HP ev
        go_wp2
        go_roundw
        case rel => exact ⟨k + 1, acc, by have := HLT.out; omega, by go_num, HA, O2, HP2, B2⟩
        case measure => have := HLT.out; simp [intOf]; omega
      have HQ := Lib.hid (show ¬ ((wordP x.data.toList).1 = [] ∨ (wordP x.data.toList).1.head? = some 35) from fun e => by rw [ev.out] at e; exact e.elim h1 fun e => h35 (by rw [hd] at e; exact Option.some.inj e))
      have b2 : ¬ (v[0].toNat : Int) = 35 := fun e => h35 (UInt8.toNat_inj.1 (by show v[0].toNat = 35; omega))
      have b1 : ((v[0].toNat : Int) == 35) = false := by simpa using b2
      have HP3 := HP.out
      rw [parse_step HQ.out] at HP3
      have LA := Lib.hid (ST.out w2)
      unfold StepTo at LA
      obtain ⟨o, ho⟩ : ∃ o, o = stepP x.data.toList := ⟨_, rfl⟩
      rw [← ho] at LA HP3
      have HP3 := Lib.hid HP3
      clear h35 hd h1 HP ev HQ ho ST
      go_wp2_with fail
      clear b1 b2 n1 n2 c1
      refine LA.out.mono ?_
      rintro e w3 ⟨rfl, b3⟩
      obtain ⟨⟨f1, f2, f3⟩, fe⟩ := o
      dsimp only at HP3 ⊢
      have B3 := Lib.hid ((B2.out.trans (b3.mono B2.out.size)).alloc (Nat.le_trans B2.out.size b3.size) (.cells #[.string f1, .int .i64 f2, .string f3] 81))
      have O3 := Lib.hid ((own_keep O2.out b3).alloc (.cells #[.string f1, .int .i64 f2, .string f3] 81))
      have KW3 := Lib.hid ((KW2.out.below b3 KW2.out.lt).alloc (.cells #[.string f1, .int .i64 f2, .string f3] 81))
      have Z3 := Lib.hid (Blk.new w3 81 #[.string f1, .int .i64 f2, .string f3])
      clear b3 LA O2 B2 KW2
      obtain ⟨z, hz⟩ : ∃ z, z = w3.heap.size := ⟨_, rfl⟩
      go_upto_region 9 with fail
      rw [← hz] at Z3 ⊢
      clear hz
      generalize w3.alloc (.cells #[.string f1, .int .i64 f2, .string f3] 81) = W at *
      have HBW := Lib.hid (B1.out.trans (B3.out.mono B1.out.size))
      by_cases he : fe = 0
      · subst he
        obtain ⟨A4, c4, hv4⟩ := own_form O3.out
        have al0 : (0 : Int) ≤ (acc.length : Int) := Int.natCast_nonneg _
        by_cases h32 : acc.length = 32
        · have HP2 := Lib.hid (show R = .inr (32, 4) by have := HP3.out; rw [if_neg (by simp), if_pos h32] at this; exact this.symm)
          have h32b : ((acc.length : Int) == 32) = true := by rw [h32]; rfl
          have h32c : (acc.length : Int) = 32 := by omega
          clear HP3 h32
          subst hv4
          go_wp2_with fail
          refine (refAt_any bLine 32 4 _).mono ?_
          rintro e w5 ⟨g5, rfl, hg5, hgl, d5⟩
          have K5 := Lib.hid (KW3.out.below d5 KW3.out.lt)
          have B5 := Lib.hid (HBW.out.trans (d5.mono HBW.out.size))
          have G5 := Lib.hid hg5
          have hne5 : g5 ≠ gw := fun e => absurd KW3.out.lt (by rw [← e]; omega)
          have hgl5 := Lib.hid (Nat.le_trans HBW.out.size hgl)
          clear hg5 hgl d5
          have c0 := K5.out.cell 0
          have f0 := K5.out.frozen 0
          have c1 := K5.out.cell 1
          have f1 := K5.out.frozen 1
          go_wp2
          exact bodyPost_ret (results_tmp_row (fn := Tryz.f10) rfl _ _ gw 31 _ (0, 0) _ rfl (row2w K5.out rfl (.slice (some ⟨g5, 0, none⟩) 1 1) (.int .i64 4)) Tryz.underlying31 rfl (by kernel_rfl)) rfl (.inr ⟨_, _, g5, HP2.out, rfl, hgl5.out, (G5.out.far hne5 _).far hne5 _, (B5.out.setCell (p := ⟨gw, 0, none⟩) (by rw [HGW.out]; exact Nat.le_refl _) _).setCell (p := ⟨gw, 1, none⟩) (by rw [HGW.out]; exact Nat.le_refl _) _⟩)
        · have HP2 := Lib.hid (show parseP ((L.drop (k + 1)).map (·.data.toList)) (k + 1) (acc ++ [(f1, f2, f3)]) = R by have := HP3.out; rw [if_neg (by simp), if_neg h32] at this; exact this)
          have HA2 := Lib.hid (show (acc ++ [(f1, f2, f3)]).length ≤ 32 by rw [List.length_append, List.length_singleton]; have := HA.out; omega)
          have h32c : ¬ (acc.length : Int) = 32 := by omega
          have h32b : ((acc.length : Int) == 32) = false := by simpa using h32c
          have O4 := Lib.hid (O3.out.alloc (.cells #[.string f1, .int .i64 f2, .string f3] 81))
          have R4 := Lib.hid (reads_one_rstep (f1, f2, f3) (Blk.new W 81 #[.string f1, .int .i64 f2, .string f3]))
          have B4 := Lib.hid (B3.out.alloc B3.out.size (.cells #[.string f1, .int .i64 f2, .string f3] 81))
          have z0 := Z3.out.cell 0
          have z1 := Z3.out.cell 1
          have z2 := Z3.out.cell 2
          have zlt : z < W.heap.size := Z3.out.lt
          clear HP3 h32
          subst hv4
          go_wp2_with (at_builtin; go_loud (refine wpList_append_rsteps (W.alloc (.cells #[.string f1, .int .i64 f2, .string f3] 81)) rfl (.tmp 51) (.tmp 53) rfl w1.heap.size _ acc [(f1, f2, f3)] rfl O4.out _ _ _ rfl R4.out (by have := HA.out; simp; omega) B4.out.size ?_; intro A' c' w5 o5 b5 g5; have O5 := Lib.hid o5; have B5 := Lib.hid (B4.out.trans b5); clear o5 b5 g5))
          go_roundw
          case rel => exact ⟨k + 1, acc ++ [(f1, f2, f3)], by have := HLT.out; omega, by go_num, HA2, Lib.hid (by have := O5.out; rw [show (acc ++ [(f1, f2, f3)]).length = acc.length + 1 by simp] at this; rw [show (acc ++ [(f1, f2, f3)]).length = acc.length + 1 by simp]; exact this), HP2, B5⟩
          case measure => have := HLT.out; simp [intOf]; omega
      · have HP2 := Lib.hid (show R = .inr (k, fe) by have := HP3.out; rw [if_pos he] at this; exact this.symm)
        have heb : (fe == 0) = false := by simpa using he
        clear HP3
        go_wp2_with fail
        refine (refAt_any bLine k fe _).mono ?_
        rintro e w5 ⟨g5, rfl, hg5, hgl, d5⟩
        have K5 := Lib.hid (KW3.out.below d5 KW3.out.lt)
        have B5 := Lib.hid (HBW.out.trans (d5.mono HBW.out.size))
        have G5 := Lib.hid hg5
        have hne5 : g5 ≠ gw := fun e => absurd KW3.out.lt (by rw [← e]; omega)
        have hgl5 := Lib.hid (Nat.le_trans HBW.out.size hgl)
        clear hg5 hgl d5
        have c0 := K5.out.cell 0
        have f0 := K5.out.frozen 0
        have c1 := K5.out.cell 1
        have f1 := K5.out.frozen 1
        go_wp2
        exact bodyPost_ret (results_tmp_row (fn := Tryz.f10) rfl _ _ gw 31 _ (0, 0) _ rfl (row2w K5.out rfl (.slice (some ⟨g5, 0, none⟩) 1 1) (.int .i64 fe)) Tryz.underlying31 rfl (by kernel_rfl)) rfl (.inr ⟨_, _, g5, HP2.out, rfl, hgl5.out, (G5.out.far hne5 _).far hne5 _, (B5.out.setCell (p := ⟨gw, 0, none⟩) (by rw [HGW.out]; exact Nat.le_refl _) _).setCell (p := ⟨gw, 1, none⟩) (by rw [HGW.out]; exact Nat.le_refl _) _⟩)
    · obtain rfl : k = L.length := by omega
      have HP2 := Lib.hid (show R = .inl acc by have := HR.out; rw [List.drop_length] at this; exact this.symm)
      have HBW := Lib.hid (B1.out.trans (HB.out.mono B1.out.size))
      have c0 := KW.out.cell 0
      have f0 := KW.out.frozen 0
      have c1 := KW.out.cell 1
      have f1 := KW.out.frozen 1
      clear hlt hk
      go_wp2
      exact bodyPost_ret (results_tmp_row (fn := Tryz.f10) rfl _ _ gw 31 _ (0, 0) _ rfl (row2w KW.out rfl (.slice none 0 0) (.int .i64 0)) Tryz.underlying31 rfl (by kernel_rfl)) rfl (.inl ⟨acc, _, HP2.out, rfl, own_lower (own_setG HO.out KW.out) B1.out.size, HA.out, (HBW.out.setCell (p := ⟨gw, 0, none⟩) (by rw [HGW.out]; exact Nat.le_refl _) _).setCell (p := ⟨gw, 1, none⟩) (by rw [HGW.out]; exact Nat.le_refl _) _⟩)
end Go.Proofs.YtanjcjnkppnhcaaGreatDoor

namespace Go.Proofs.YtanjcjnkppnhcaaGreatDoor
open Go Go.RowKit

theorem word_pre {a r : List UInt8} (ha : a ≠ []) (h : ∀ c ∈ a, c ≠ 32) (hr : r = [] ∨ r.head? = some 32) : wordP (a ++ r) = (a, r) := by
  have hl := List.length_pos_iff.2 ha
  have key := word_at (l := a ++ r) (i := 0) (k := a.length) (Nat.zero_le _) (by simp) (fun j hj => by omega) (by
      rw [List.getElem?_append_left hl]
      intro e
      exact h _ (List.mem_of_getElem? e) rfl)
    (fun j _ hj e => by
      rw [List.getElem?_append_left hj] at e
      exact h _ (List.mem_of_getElem? e) rfl)
    (by
      rcases hr with rfl | hr
      · left; simp
      · right
        rw [List.getElem?_append_right (Nat.le_refl _), Nat.sub_self, ← List.head?_eq_getElem?, hr])
  rw [key]
  simp
theorem word_sp (l : List UInt8) : wordP (32 :: l) = wordP l := by
  have : Lib.trimLeftB (32 :: l) 32 = Lib.trimLeftB l 32 := by unfold Lib.trimLeftB; simp
  unfold wordP
  rw [this]
theorem digit_toNat {d : Nat} (h : d < 10) : (UInt8.ofNat (48 + d)).toNat = 48 + d := by
  rw [UInt8.toNat_ofNat']
  omega
theorem digit_is {d : Nat} (h : d < 10) : digB (UInt8.ofNat (48 + d)) = true := by
  unfold digB
  rw [digit_toNat h]
  simp; omega
theorem dd_digits (n : Nat) : (Lib.decDigits n).all digB = true := by
  induction n using Nat.strongRecOn with
  | _ n ih =>
    rw [Lib.decDigits]
    split
    · rename_i h
      simp only [List.all_cons, List.all_nil, digit_is h, Bool.and_true]
    · rename_i h
      rw [List.all_append, ih (n / 10) (by omega)]
      simp only [List.all_cons, List.all_nil, digit_is (Nat.mod_lt n (by decide : 10 > 0)), Bool.and_true]
theorem dd_num (n : Nat) : numV (Lib.decDigits n) = n := by
  induction n using Nat.strongRecOn with
  | _ n ih =>
    rw [Lib.decDigits]
    split
    · rename_i h
      have := numV_snoc [] (UInt8.ofNat (48 + n))
      rw [List.nil_append, digit_toNat h] at this
      rw [this]
      show 10 * 0 + _ = _
      omega
    · rename_i h
      rw [numV_snoc, ih (n / 10) (by omega), digit_toNat (Nat.mod_lt n (by decide : 10 > 0))]
      omega
theorem dd_ne (n : Nat) : Lib.decDigits n ≠ [] := by
  intro h
  have := Lib.decDigits_length n
  rw [h] at this
  have h1 := Lib.nDigits_pos n
  simp at this
  omega
theorem dd_head : ∀ n : Nat, 1 ≤ n → (Lib.decDigits n).head? ≠ some 48 := by
  intro n
  induction n using Nat.strongRecOn with
  | _ n ih =>
    intro h1
    rw [Lib.decDigits]
    split
    · rename_i h
      intro e
      have := Option.some.inj e
      have := congrArg UInt8.toNat this
      rw [digit_toNat h] at this
      have h48 : (48 : UInt8).toNat = 48 := rfl
      omega
    · rename_i h
      have := ih (n / 10) (by omega) (by omega)
      rw [List.head?_append]
      cases hd : Lib.decDigits (n / 10) with
      | nil => exact absurd hd (dd_ne _)
      | cons a l => rw [hd] at this; simpa using this
theorem nd_le : ∀ (k n : Nat), n < 10 ^ (k + 1) → Lib.nDigits n ≤ k + 1
  | 0, n, h => by rw [Lib.nDigits_small (by simpa using h)]; exact Nat.le_refl _
  | k + 1, n, h => by
    by_cases h10 : n < 10
    · rw [Lib.nDigits_small h10]; omega
    · rw [Lib.nDigits_big h10]
      have := nd_le k (n / 10) (by rw [Nat.pow_succ] at h; omega)
      omega
theorem num_dd {n : Nat} (h1 : 1 ≤ n) (h2 : n ≤ 1000000) : numP (Lib.decDigits n) = (n, true) := by
  have hl : (Lib.decDigits n).length ≤ 7 := by rw [Lib.decDigits_length]; exact nd_le 6 n (by omega)
  unfold numP
  rw [if_neg (by
      rintro (h | h | h)
      · exact dd_ne n h
      · omega
      · exact dd_head n h1 h.2), if_neg (by rw [dd_digits]; simp), dd_num, if_neg (by omega)]
/-- Verb of a reword. -/
abbrev isRw (v : ByteArray) : Bool := v.toList == [114, 101, 119, 111, 114, 100]
/-- A step that a text can have. -/
def StepCan (x : Fl) : Prop := knownV x.1 = true ∧ 1 ≤ x.2.1 ∧ x.2.1 ≤ 1000000 ∧ (isRw x.1 = true → x.2.2.data.toList ≠ [] ∧ x.2.2.size ≤ 256 ∧ (nls x.2.2.data.toList).length = 1)
/-- A step, as far as its text has it. -/
def nrmS (x : Fl) : Fl := (x.1, x.2.1, if isRw x.1 = true then x.2.2 else ⟨#[]⟩)
def tailL (x : Fl) : List UInt8 := if isRw x.1 = true then [32] ++ x.2.2.data.toList else []
def lineL (x : Fl) : List UInt8 := x.1.data.toList ++ (32 :: (Lib.itoa x.2.1 ++ tailL x))
theorem stepG_line (x : Fl) : stepG x = lineL x ++ [10] := by
  unfold stepG lineL tailL
  split <;> simp_all
theorem verb_bytes {v : ByteArray} (h : knownV v = true) : v.data.toList ≠ [] ∧ ∀ c ∈ v.data.toList, c ≠ 32 ∧ c ≠ 10 ∧ c ≠ 35 := by
  rw [← ByteArray.toList_eq]
  unfold knownV at h
  simp only [Bool.or_eq_true, beq_iff_eq] at h
  rcases h with ((((h | h) | h) | h) | h) | h <;> rw [h] <;> decide
theorem dig_bytes {l : List UInt8} (h : l.all digB = true) : ∀ c ∈ l, c ≠ 32 ∧ c ≠ 10 := by
  intro c hc
  have := List.all_eq_true.1 h c hc
  unfold digB at this
  simp only [Bool.and_eq_true, decide_eq_true_eq] at this
  constructor <;> (rintro rfl; revert this; decide)
theorem nls_two : ∀ l : List UInt8, (10 : UInt8) ∈ l → 2 ≤ (nls l).length
  | [], h => by cases h
  | a :: l, h => by
    have hn := List.length_pos_iff.2 (nls_ne l)
    by_cases ha : a = 10
    · rw [nls_ten ha, List.length_cons]; omega
    · have hm : (10 : UInt8) ∈ l := (List.mem_cons.1 h).resolve_left (fun e => ha e.symm)
      have := nls_two l hm
      cases hx : nls l with
      | nil => exact absurd hx (nls_ne l)
      | cons x xs => rw [nls_more ha hx]; rw [hx] at this; simpa using this
theorem nls_one {l : List UInt8} (h : (nls l).length = 1) : ∀ c ∈ l, c ≠ 10 := by
  intro c hc e
  subst e
  have := nls_two l hc
  omega
theorem line_bytes {x : Fl} (h : StepCan x) : ∀ c ∈ lineL x, c ≠ 10 := by
  obtain ⟨h1, h2, h3, h4⟩ := h
  intro c hc
  unfold lineL at hc
  rcases List.mem_append.1 hc with hc | hc
  · exact ((verb_bytes h1).2 c hc).2.1
  rcases List.mem_cons.1 hc with rfl | hc
  · decide
  rcases List.mem_append.1 hc with hc | hc
  · obtain ⟨n, hn⟩ : ∃ n : Nat, x.2.1 = (n : Int) := ⟨x.2.1.toNat, by omega⟩
    rw [hn, Lib.itoa_nonneg] at hc
    exact (dig_bytes (dd_digits n) c hc).2
  · unfold tailL at hc
    split at hc
    · rename_i hr
      rcases List.mem_append.1 hc with hc | hc
      · rw [List.mem_singleton.1 hc]; decide
      · exact nls_one (h4 hr).2.2 c hc
    · cases hc
theorem nls_line {a r : List UInt8} (h : ∀ c ∈ a, c ≠ 10) : nls (a ++ [10] ++ r) = a :: nls r := by
  have e : (a ++ [10] ++ r)[a.length]? = some 10 := by simp
  rw [nls_hit e (fun k hk e => by
    rw [List.append_assoc, List.getElem?_append_left hk] at e
    exact h _ (List.mem_of_getElem? e) rfl)]
  congr 1
  · simp
  · congr 1
    rw [List.append_assoc, List.drop_append, List.drop_eq_nil_of_le (by omega)]
    simp
theorem step_line {x : Fl} (h : StepCan x) : ¬ ((wordP (lineL x)).1 = [] ∨ (wordP (lineL x)).1.head? = some 35) ∧ stepP (lineL x) = (nrmS x, 0) := by
  obtain ⟨h1, h2, h3, h4⟩ := h
  obtain ⟨v1, v2⟩ := verb_bytes h1
  obtain ⟨n, hn⟩ : ∃ n : Nat, x.2.1 = (n : Int) := ⟨x.2.1.toNat, by omega⟩
  have W1 : wordP (lineL x) = (x.1.data.toList, 32 :: (Lib.itoa x.2.1 ++ tailL x)) := word_pre v1 (fun c hc => (v2 c hc).1) (.inr rfl)
  have W2 : wordP (32 :: (Lib.itoa x.2.1 ++ tailL x)) = (Lib.decDigits n, tailL x) := by
    rw [word_sp, hn, Lib.itoa_nonneg]
    exact word_pre (dd_ne n) (fun c hc => (dig_bytes (dd_digits n) c hc).1) (by unfold tailL; split <;> simp)
  refine ⟨?_, ?_⟩
  · rw [W1]
    rintro (e | e)
    · exact v1 e
    · exact (v2 35 (List.mem_of_mem_head? e)).2.2 rfl
  · have T : textP x.1 (tailL x) = ((nrmS x).2.2.data.toList, 0) := by
      unfold textP nrmS tailL
      cases hr : isRw x.1 with
      | false =>
        have hr' : (x.1.toList == [114, 101, 119, 111, 114, 100]) = false := hr
        rw [if_pos hr']; simp only [Bool.false_eq_true, if_false]; rw [if_pos (show Lib.trimB [] 32 = [] from rfl)]
      | true =>
        obtain ⟨t1, t2, -⟩ := h4 hr
        have e : Lib.trimPrefix ([32] ++ x.2.2.data.toList) [32] = x.2.2.data.toList := by unfold Lib.trimPrefix Lib.hasPrefix; simp
        rw [if_neg (by unfold isRw at hr; rw [hr]; simp), if_pos rfl, e, if_neg t1, if_neg (by rw [size_listB]; omega)]
        simp
    unfold stepP
    rw [W1]
    dsimp only
    rw [W2]
    dsimp only
    rw [mkW_list, num_dd (by omega) (by omega), T, if_neg (dd_ne n), if_neg (by rw [h1]; simp), if_neg (by simp; omega), if_neg (by simp)]
    unfold nrmS
    rw [hn, mkW_list]
theorem parse_back : ∀ (l : List Fl) (i : Nat) (acc : List Fl), acc.length + l.length ≤ 32 → (∀ x ∈ l, StepCan x) → parseP (nls (stepsG l)) i acc = .inl (acc ++ l.map nrmS)
  | [], i, acc, _, _ => by
    have e : nls (stepsG []) = [[]] := rfl
    rw [e, parse_skip (.inl (by decide)), parseP]
    simp
  | x :: l, i, acc, h, hx => by
    have e : stepsG (x :: l) = lineL x ++ [10] ++ stepsG l := by unfold stepsG; rw [List.flatMap_cons, stepG_line]
    obtain ⟨a, b⟩ := step_line (hx x List.mem_cons_self)
    rw [List.length_cons] at h
    rw [e, nls_line (line_bytes (hx x List.mem_cons_self)), parse_step a, b, if_neg (by simp), if_neg (by omega), parse_back l (i + 1) (acc ++ [nrmS x]) (by simp; omega) (fun y hy => hx y (List.mem_cons_of_mem _ hy))]
    simp
end Go.Proofs.YtanjcjnkppnhcaaGreatDoor

namespace Go.Proofs.YtanjcjnkppnhcaaGreatDoor
open Go Go.RowKit

/-- A command's value: its verb is the k-th. -/
abbrev cmdV (k : Nat) (nm : ByteArray) (n : Int) (tx : ByteArray) (f : Bool) (A : Option Addr) (m c : Nat) : Value := .agg #[.string (vB k), .string nm, .int .i64 n, .string tx, .bool f, .slice A m c]
def hasNmK (k : Nat) : Bool := [0, 1, 3, 4, 5, 6, 7].contains k
def hasNK (k : Nat) (nm : ByteArray) : Bool := if k = 5 then nm.toList.isEmpty else [6, 8, 9, 11, 12, 13, 14].contains k
def hasFK (k : Nat) : Bool := [1, 5].contains k
def hasTK (k : Nat) : Bool := [2, 10].contains k
set_option maxRecDepth 100000 in
set_option maxHeartbeats 4000000 in
theorem hasName_any (k : Nat) (hk : k < 20) (w : World) : Calls Tryz.prog 61 #[.string (vB k)] w fun e w' => e = .returned (.bool (hasNmK k)) ∧ w' = w := by
  rcases k20 hk with rfl | rfl | rfl | rfl | rfl | rfl | rfl | rfl | rfl | rfl | rfl | rfl | rfl | rfl | rfl | rfl | rfl | rfl | rfl | rfl
  all_goals
    simp only [vB]
    go_enter Tryz.func61, Tryz.ntmps61
    go_wp2
    go_ret
    exact ⟨rfl, rfl⟩
set_option maxRecDepth 100000 in
set_option maxHeartbeats 4000000 in
theorem hasForce_any (k : Nat) (hk : k < 20) (w : World) : Calls Tryz.prog 63 #[.string (vB k)] w fun e w' => e = .returned (.bool (hasFK k)) ∧ w' = w := by
  rcases k20 hk with rfl | rfl | rfl | rfl | rfl | rfl | rfl | rfl | rfl | rfl | rfl | rfl | rfl | rfl | rfl | rfl | rfl | rfl | rfl | rfl
  all_goals
    simp only [vB]
    go_enter Tryz.func63, Tryz.ntmps63
    go_wp2
    go_ret
    exact ⟨rfl, rfl⟩
set_option maxRecDepth 100000 in
set_option maxHeartbeats 4000000 in
theorem hasText_any (k : Nat) (hk : k < 20) (w : World) : Calls Tryz.prog 64 #[.string (vB k)] w fun e w' => e = .returned (.bool (hasTK k)) ∧ w' = w := by
  rcases k20 hk with rfl | rfl | rfl | rfl | rfl | rfl | rfl | rfl | rfl | rfl | rfl | rfl | rfl | rfl | rfl | rfl | rfl | rfl | rfl | rfl
  all_goals
    simp only [vB]
    go_enter Tryz.func64, Tryz.ntmps64
    go_wp2
    go_ret
    exact ⟨rfl, rfl⟩
theorem hasNK_5 (nm : ByteArray) : hasNK 5 nm = nm.toList.isEmpty := rfl
set_option maxRecDepth 100000 in
set_option maxHeartbeats 8000000 in
theorem hasN_any (k : Nat) (hk : k < 20) (nm : ByteArray) (n : Int) (tx : ByteArray) (f : Bool) (A : Option Addr) (m c : Nat) (w : World) :
    Calls Tryz.prog 62 #[cmdV k nm n tx f A m c] w fun e w' => e = .returned (.bool (hasNK k nm)) ∧ Below w.heap.size w w' := by
  have hb := (Below.refl w.heap.size w).alloc (Nat.le_refl _) (.cells #[.string (vB k), .string nm, .int .i64 n, .string tx, .bool f, .slice A m c] 52)
  unfold cmdV
  cases hE : nm.toList.isEmpty with
  | true =>
    have HE := Lib.hid (show hasNK 5 nm = true by rw [hasNK_5, hE])
    have hE2 : nm.toList = [] := by simpa using hE
    rcases k20 hk with rfl | rfl | rfl | rfl | rfl | rfl | rfl | rfl | rfl | rfl | rfl | rfl | rfl | rfl | rfl | rfl | rfl | rfl | rfl | rfl
    all_goals
      simp only [vB] at hb ⊢
      have HB := Lib.hid hb
      clear hb
      go_enter Tryz.func62, Tryz.ntmps62
      go_wp2
      go_ret
      first
        | exact ⟨rfl, HB.out⟩
        | exact ⟨by rw [HE.out]; rfl, HB.out⟩
  | false =>
    have HE := Lib.hid (show hasNK 5 nm = false by rw [hasNK_5, hE])
    have hE2 : ¬ nm.toList = [] := by simpa using hE
    rcases k20 hk with rfl | rfl | rfl | rfl | rfl | rfl | rfl | rfl | rfl | rfl | rfl | rfl | rfl | rfl | rfl | rfl | rfl | rfl | rfl | rfl
    all_goals
      simp only [vB] at hb ⊢
      have HB := Lib.hid hb
      clear hb
      go_enter Tryz.func62, Tryz.ntmps62
      go_wp2
      go_ret
      first
        | exact ⟨rfl, HB.out⟩
        | exact ⟨by rw [HE.out]; rfl, HB.out⟩
/-- What is wrong with a number. -/
def wNK (k : Nat) (nm : ByteArray) (n : Int) : Int := if hasNK k nm = false then 0 else if n < (if [11, 12, 13].contains k = true then 0 else 1) then 1 else 0
set_option maxRecDepth 100000 in
set_option maxHeartbeats 8000000 in
theorem wrongN_any (k : Nat) (hk : k < 20) (nm : ByteArray) (n : Int) (tx : ByteArray) (f : Bool) (A : Option Addr) (m c : Nat) (w : World) :
    Calls Tryz.prog 57 #[cmdV k nm n tx f A m c] w fun e w' => e = .returned (.int .i64 (wNK k nm n)) ∧ Below w.heap.size w w' := by
  have hb := (Below.refl w.heap.size w).alloc (Nat.le_refl _) (.cells #[.string (vB k), .string nm, .int .i64 n, .string tx, .bool f, .slice A m c] 52)
  have HN := Lib.hid fun W => hasN_any k hk nm n tx f A m c W
  have HZ := Lib.hid (Blk.new w 52 #[.string (vB k), .string nm, .int .i64 n, .string tx, .bool f, .slice A m c])
  obtain ⟨g, hg⟩ : ∃ g, g = w.heap.size := ⟨_, rfl⟩
  have HB := Lib.hid hb
  clear hb
  cases hn : hasNK k nm with
  | false =>
    have HV := Lib.hid (show wNK k nm n = 0 by unfold wNK; rw [if_pos hn])
    rw [hn] at HN
    clear hn
    unfold cmdV at HN ⊢
    go_enter Tryz.func57, Tryz.ntmps57
    go_wp2_with fail
    refine (HN.out _).mono ?_
    rintro e w1 ⟨rfl, d1⟩
    have B1 := Lib.hid (HB.out.trans (d1.mono HB.out.size))
    go_wp2
    go_ret
    exact ⟨by rw [HV.out]; rfl, B1.out⟩
  | true =>
    have HV := Lib.hid (show wNK k nm n = if n < (if [11, 12, 13].contains k = true then 0 else 1) then 1 else 0 by unfold wNK; rw [if_neg (by rw [hn]; simp)])
    rw [hn] at HN
    clear hn
    unfold cmdV at HN ⊢
    rw [← hg] at HZ
    go_enter Tryz.func57, Tryz.ntmps57
    go_wp2_with fail
    refine (HN.out _).mono ?_
    rintro e w1 ⟨rfl, d1⟩
    have B1 := Lib.hid (HB.out.trans (d1.mono HB.out.size))
    have Z1 := Lib.hid (HZ.out.below d1 HZ.out.lt)
    rw [← hg]
    clear d1 HN HZ HB hg
    rcases k20 hk with rfl | rfl | rfl | rfl | rfl | rfl | rfl | rfl | rfl | rfl | rfl | rfl | rfl | rfl | rfl | rfl | rfl | rfl | rfl | rfl
    all_goals
      simp only [vB] at Z1 ⊢
      have z0 := Z1.out.cell 0
      have z2 := Z1.out.cell 2
      clear Z1
      first
        | (by_cases h0 : n < 0
           · have HV2 := Lib.hid (show (1 : Int) = wNK _ nm n by rw [HV.out]; exact (if_pos h0).symm)
             clear HV
             go_wp2
             go_ret
             exact ⟨congrArg (fun x => Ending.returned (.int .i64 x)) HV2.out, B1.out⟩
           · have HV2 := Lib.hid (show (0 : Int) = wNK _ nm n by rw [HV.out]; exact (if_neg h0).symm)
             clear HV
             go_wp2
             go_ret
             exact ⟨congrArg (fun x => Ending.returned (.int .i64 x)) HV2.out, B1.out⟩)
        | (by_cases h0 : n < 1
           · have HV2 := Lib.hid (show (1 : Int) = wNK _ nm n by rw [HV.out]; exact (if_pos h0).symm)
             clear HV
             go_wp2
             go_ret
             exact ⟨congrArg (fun x => Ending.returned (.int .i64 x)) HV2.out, B1.out⟩
           · have HV2 := Lib.hid (show (0 : Int) = wNK _ nm n by rw [HV.out]; exact (if_neg h0).symm)
             clear HV
             go_wp2
             go_ret
             exact ⟨congrArg (fun x => Ending.returned (.int .i64 x)) HV2.out, B1.out⟩)
theorem ix_nls : ∀ l : List UInt8, (0 ≤ Lib.indexByte l 10) ↔ (nls l).length ≠ 1
  | [] => by simp [Lib.indexByte, nls]
  | a :: l => by
    have ih := ix_nls l
    have hn := List.length_pos_iff.2 (nls_ne l)
    by_cases ha : a = 10
    · subst ha
      rw [nls_ten rfl, List.length_cons]
      have e : Lib.indexByte (10 :: l) 10 = 0 := by unfold Lib.indexByte; simp
      rw [e]
      constructor
      · intro _; omega
      · intro _; exact Int.le_refl _
    · obtain ⟨x, xs, hx⟩ : ∃ x xs, nls l = x :: xs := by
        cases h : nls l with
        | nil => exact absurd h (nls_ne l)
        | cons x xs => exact ⟨x, xs, rfl⟩
      rw [nls_more ha hx]
      rw [hx] at ih
      have e : Lib.indexByte (a :: l) 10 = if Lib.indexByte l 10 == -1 then -1 else Lib.indexByte l 10 + 1 := by rw [Lib.indexByte]; rw [if_neg (by simpa using ha)]
      rw [e]
      have hge := Lib.indexByte_ge l 10
      by_cases h1 : Lib.indexByte l 10 = -1
      · rw [if_pos (by simpa using h1)]
        rw [h1] at ih
        simp only [List.length_cons] at ih ⊢
        constructor
        · intro h; omega
        · intro h; have := ih.2 h; omega
      · rw [if_neg (by simpa using h1)]
        simp only [List.length_cons] at ih ⊢
        rw [← ih]
        omega
/-- What is wrong with a text of one line. -/
def wlV (tx : ByteArray) : Int := if 256 < tx.size then 4 else if (nls tx.data.toList).length = 1 then 0 else 2
set_option maxHeartbeats 4000000 in
theorem contains10_any (tx : ByteArray) (w : World) : Calls Tryz.prog 116 #[.string tx, .string ⟨#[10]⟩] w fun e w' => e = .returned (.bool (decide ((nls tx.data.toList).length ≠ 1))) ∧ w' = w := by
  have IX := Lib.hid (Tryz.strings_Index_one tx 10 w)
  have HX := Lib.hid (show decide (0 ≤ Lib.indexByte tx.data.toList 10) = decide ((nls tx.data.toList).length ≠ 1) from decide_eq_decide.2 (ix_nls _))
  go_enter Tryz.func116, Tryz.ntmps116
  go_wp2_with fail
  refine IX.out.mono ?_
  rintro e w1 ⟨rfl, rfl⟩
  go_wp2
  go_ret
  exact ⟨congrArg (fun b => Ending.returned (.bool b)) HX.out, rfl⟩
set_option maxHeartbeats 4000000 in
theorem wrongLine_any (tx : ByteArray) (w : World) : Calls Tryz.prog 94 #[.string tx] w fun e w' => e = .returned (.int .i64 (wlV tx)) ∧ w' = w := by
  have CT := Lib.hid (contains10_any tx w)
  by_cases hz : 256 < tx.size
  · have HV := Lib.hid (show (4 : Int) = wlV tx from (if_pos hz).symm)
    have hzi : (256 : Int) < (tx.size : Int) := by omega
    clear hz
    go_enter Tryz.func94, Tryz.ntmps94
    go_wp2
    go_ret
    exact ⟨by rw [← HV.out]; rfl, rfl⟩
  have hzi : ¬ (256 : Int) < (tx.size : Int) := by omega
  by_cases h1 : (nls tx.data.toList).length = 1
  · have HV := Lib.hid (show (0 : Int) = wlV tx by unfold wlV; rw [if_neg hz, if_pos h1])
    rw [decide_eq_false (by simpa using h1)] at CT
    clear hz h1
    go_enter Tryz.func94, Tryz.ntmps94
    go_wp2_with fail
    refine CT.out.mono ?_
    rintro e w1 ⟨rfl, rfl⟩
    go_wp2
    go_ret
    exact ⟨by rw [← HV.out]; rfl, rfl⟩
  · have HV := Lib.hid (show (2 : Int) = wlV tx by unfold wlV; rw [if_neg hz, if_neg h1])
    rw [decide_eq_true (by simpa using h1)] at CT
    clear hz h1
    go_enter Tryz.func94, Tryz.ntmps94
    go_wp2_with fail
    refine CT.out.mono ?_
    rintro e w1 ⟨rfl, rfl⟩
    go_wp2
    go_ret
    exact ⟨by rw [← HV.out]; rfl, rfl⟩
end Go.Proofs.YtanjcjnkppnhcaaGreatDoor
