/-
  rectoref3.At: a refusal at one place.
  rectoref17.Parse: a text as steps, or what is wrong first.
-/
import Derived.Test.YtanjcjnkppnhcaaGreatDoorTdS
import Derived.Test.YtanjcjnkppnhcaaGreatDoorTdI

namespace Go.Proofs.YtanjcjnkppnhcaaGreatDoor
open Go Go.RowKit

theorem results_tmp_cell {fn : Func} {p u : Tmp} {ty : TypeId} (h : fn.results = #[.tmp u, .cell p ty]) (tmps : Array Value) (P : Program) (w : World) :
    (results fn tmps).run P w =
      ((asAddr (tmps.getD p undef)).run P w).andThen fun a w1 => ((loadVar ty a).run P w1).andThen fun x w2 => .ok (.tuple #[tmps.getD u undef, x]) w2 := by
  simp only [results, h]
  simp [Sem.run_bind, Result.andThen]
theorem results_tmp_row {P : Program} {fn : Func} {p u : Tmp} {ty : TypeId} (h : fn.results = #[.tmp u, .cell p ty]) (tmps : Array Value) (w : World) (g : Nat) (t : TypeId) (cs : Array Value) (fr : Nat × Nat) (d : TypeDesc)
    (hp : tmps.getD p undef = .pointer (some ⟨g, 0, none⟩)) (hg : w.heap[g]? = some (.cells cs t fr))
    (hu : P.underlying ty = some d) (hd : (match d with | .struct _ | .array _ _ => true | _ => false) = true) (hi : (P.info? ty).map (·.size) = some cs.size) :
    (results fn tmps).run P w = .ok (.tuple #[tmps.getD u undef, .agg cs]) w := by
  rw [results_tmp_cell h, hp]
  simp [asAddr, run_loadVar_row w g t ty cs fr d hg hu hd hi, Result.andThen]
set_option maxHeartbeats 1000000 in
theorem refAt_any (p : ByteArray) (n e : Int) (w : World) : Calls Tryz.prog 40 #[.string p, .int .i64 n, .int .i64 e] w fun x w' => ∃ g, x = .returned (.agg #[.slice (some ⟨g, 0, none⟩) 1 1, .int .i64 e]) ∧ Blk w' g 91 #[.string p, .int .i64 n] ∧ w.heap.size ≤ g ∧ Below w.heap.size w w' := by
  go_enter Tryz.func40, Tryz.ntmps40
  go_wp2
  refine bodyPost_ret (results_cell_row (fn := Tryz.f40) rfl _ _ w.heap.size 31 #[.slice (some ⟨w.heap.size + 1, 0, none⟩) 1 1, .int .i64 e] (0, 0) _ rfl ((Blk.new w 31 _).alloc _) Tryz.underlying31 rfl (by kernel_rfl)) rfl ⟨w.heap.size + 1, rfl, ?_, by omega, ((Below.refl _ _).alloc (Nat.le_refl _) _).alloc (by simp) _⟩
  have h := heap_alloc_new (w.alloc (.cells #[.slice (some ⟨w.heap.size + 1, 0, none⟩) 1 1, .int .i64 e] 31)) (.cells #[.string p, .int .i64 n] 91)
  rw [show (w.alloc (.cells #[.slice (some ⟨w.heap.size + 1, 0, none⟩) 1 1, .int .i64 e] 31)).heap.size = w.heap.size + 1 by simp] at h
  exact h
end Go.Proofs.YtanjcjnkppnhcaaGreatDoor

namespace Go.Proofs.YtanjcjnkppnhcaaGreatDoor
open Go Go.RowKit

theorem parse_skip {x : List UInt8} {ls : List (List UInt8)} {i : Nat} {acc : List Fl} (h : (wordP x).1 = [] ∨ (wordP x).1.head? = some 35) : parseP (x :: ls) i acc = parseP ls (i + 1) acc := by
  rw [parseP, lineP_step, if_pos h]
  simp
theorem parse_step {x : List UInt8} {ls : List (List UInt8)} {i : Nat} {acc : List Fl} (h : ¬ ((wordP x).1 = [] ∨ (wordP x).1.head? = some 35)) :
    parseP (x :: ls) i acc = if (stepP x).2 ≠ 0 then .inr (i, (stepP x).2) else if acc.length = 32 then .inr (32, 4) else parseP ls (i + 1) (acc ++ [(stepP x).1]) := by
  rw [parseP, lineP_step, if_neg h]
  by_cases h0 : (stepP x).2 = 0
  · simp [h0]
  · simp [h0]
def RefTo (r : (List Fl) ⊕ (Nat × Int)) (w : World) (e : Ending) (w' : World) : Prop :=
  (∃ xs u, r = .inl xs ∧ e = .returned (.tuple #[u, .agg #[.slice none 0 0, .int .i64 0]]) ∧ w'.ownsRow w.heap.size 81 3 u xs.length (xs.flatMap cF) ∧ xs.length ≤ 32 ∧ Below w.heap.size w w') ∨
  ∃ (i : Nat) (k : Int) (g : Nat), r = .inr (i, k) ∧ e = .returned (.tuple #[.slice none 0 0, .agg #[.slice (some ⟨g, 0, none⟩) 1 1, .int .i64 k]]) ∧ w.heap.size ≤ g ∧ Blk w' g 91 #[.string bLine, .int .i64 i] ∧ Below w.heap.size w w'
theorem row2w {w : World} {g : Nat} {cs : Array Value} (h : Blk w g 31 cs) (hs : cs.size = 2) (a b : Value) : Blk ((w.setCell ⟨g, 0, none⟩ a).setCell ⟨g, 1, none⟩ b) g 31 #[a, b] := by
  have := (h.set_ 0 a).set_ 1 b
  match cs, hs with
  | ⟨[x, y]⟩, _ => simpa using this
theorem own_setG {w : World} {B g n : Nat} {v : Value} {xs : List Value} {cs : Array Value} (h : w.ownsRow B 81 3 v n xs) (hg : Blk w g 31 cs) {a b : Value} : ((w.setCell ⟨g, 0, none⟩ a).setCell ⟨g, 1, none⟩ b).ownsRow B 81 3 v n xs := by
  have hne := own_blk_ne h hg (by decide)
  exact ownsRow_setCell_other (ownsRow_setCell_other h (a := ⟨g, 0, none⟩) hne a) (a := ⟨g, 1, none⟩) hne b
theorem strs_block {w : World} {B : Nat} {u : Value} {l : List ByteArray} (h : w.ownsRow B 9 1 u l.length (l.map Value.string)) (h0 : l ≠ []) : ∃ g c, u = .slice (some ⟨g, 0, none⟩) l.length c ∧ ∀ i x, l[i]? = some x → w.cell? ⟨g, i, none⟩ = some (.string x) := by
  have hl := List.length_pos_iff.2 h0
  obtain ⟨g, c, rfl⟩ : ∃ g c, u = .slice (some ⟨g, 0, none⟩) l.length c := by
    rcases h.2 with ⟨_, e2⟩ | ⟨g, cap, cur, e, _⟩
    · omega
    · exact ⟨g, cap, e⟩
  refine ⟨g, c, rfl, fun i x hx => ?_⟩
  rw [h.cellAt i (by have := (List.getElem?_eq_some_iff.1 hx).1; omega), List.getElem?_map, hx]
  rfl
set_option maxRecDepth 100000 in
set_option maxHeartbeats 4000000 in
theorem refParse_any (s : ByteArray) (w : World) (hs : s.size ≤ 100000) :
    Calls Tryz.prog 10 #[.string s] w (RefTo (parseP (nls s.data.toList) 0 []) w) := by
  obtain ⟨R, hR⟩ : ∃ R, R = parseP (nls s.data.toList) 0 [] := ⟨_, rfl⟩
  rw [← hR]
  have HRR := Lib.hid hR
  have RL := Lib.hid fun W => refLines_any s W hs
  have K0 := Lib.hid (Blk.new w 31 #[.slice none 0 0, .int .i64 0])
  have B0 := Lib.hid ((Below.refl w.heap.size w).alloc (Nat.le_refl _) (.cells #[.slice none 0 0, .int .i64 0] 31))
  obtain ⟨gw, hgw⟩ : ∃ g, g = w.heap.size := ⟨_, rfl⟩
  have HGW := Lib.hid hgw
  rw [← hgw] at K0
  clear hR
  go_enter Tryz.func10, Tryz.ntmps10
  go_wp2_with fail
  rw [← hgw]
  clear hgw
  refine (RL.out _).mono ?_
  rintro e w1 ⟨L, u1, hL, rfl, o1, b1⟩
  have B1 := Lib.hid (B0.out.trans (b1.mono B0.out.size))
  have K1 := Lib.hid (K0.out.below b1 K0.out.lt)
  obtain ⟨gL, cL1, rfl, hcl⟩ := strs_block o1 (fun e => nls_ne _ (by rw [← hL, e]; rfl))
  have C0 := Lib.hid hcl
  have HSZ := Lib.hid (show ∀ x ∈ L, x.size ≤ 9223372036854775807 from fun x hx => by
    have h1 : x.data.toList ∈ nls s.data.toList := by rw [← hL]; exact List.mem_map_of_mem hx
    have h2 := nls_le h1
    rw [size_listB, size_listB] at h2
    omega)
  have HLN := Lib.hid (show L.length ≤ 100001 by rw [← List.length_map (f := (·.data.toList)), hL]; have := nls_len s.data.toList; rw [size_listB] at this; omega)
  have HR0 := Lib.hid (show parseP ((L.drop 0).map (·.data.toList)) 0 [] = R by rw [List.drop_zero, hL, HRR.out])
  have ln0 : (0 : Int) ≤ (L.length : Int) := Int.natCast_nonneg _
  have ln1 : (L.length : Int) ≤ 100001 := by have := HLN.out; omega
  clear hL o1 b1 hcl K0 B0 RL HRR
  go_wp2_with fail
  generalize (w.alloc (.cells #[.slice none 0 0, .int .i64 0] 31)) = W0 at *
  go_loopw [5, 6] (fun s5 s6 wr => ∃ (k : Nat) (acc : List Fl), k ≤ L.length ∧ s6 = .int .i64 k ∧ Hid (acc.length ≤ 32) ∧ Hid (wr.ownsRow w1.heap.size 81 3 s5 acc.length (acc.flatMap cF)) ∧ Hid (parseP ((L.drop k).map (·.data.toList)) k acc = R) ∧ Hid (Below w1.heap.size w1 wr)) (fun _ s6 _ => L.length - (intOf s6).toNat)
  case atStart => exact ⟨0, [], Nat.zero_le _, rfl, Lib.hid (by simp), Lib.hid (World.ownsRow_nil _ _ _ _), HR0, Lib.hid (Below.refl _ _)⟩
  case round =>
    obtain ⟨k, acc, hk, rfl, HA, HO, HR, HB⟩ := hrel
    have k0 : (0 : Int) ≤ (k : Int) := Int.natCast_nonneg _
    have KW := Lib.hid (K1.out.below HB.out K1.out.lt)
    by_cases hlt : k < L.length
    · obtain ⟨x, hx⟩ : ∃ x, L[k]? = some x := ⟨_, List.getElem?_eq_getElem hlt⟩
      have hki : (k : Int) < (L.length : Int) := by omega
      have c0 : wr.cell? ⟨gL, k, none⟩ = some (.string x) := (HB.out.cell (p := ⟨gL, k, none⟩) (World.block_lt_of_cell? _ _ (C0.out k x hx))).trans (C0.out k x hx)
      have WD := Lib.hid (refWord_any x wr (HSZ.out x (List.mem_of_getElem? hx)))
      have ST := Lib.hid fun W => refStep_any x W (HSZ.out x (List.mem_of_getElem? hx))
      have HP := Lib.hid (show parseP (x.data.toList :: (L.drop (k + 1)).map (·.data.toList)) k acc = R by have := HR.out; rw [drop_consB hx] at this; exact this)
      have HLT := Lib.hid hlt
      have hxl : gL < w1.heap.size := World.block_lt_of_cell? _ _ (C0.out k x hx)
      obtain ⟨v, hv⟩ : ∃ v, v = mkW (wordP x.data.toList).1 := ⟨_, rfl⟩
      have ev := Lib.hid (show (wordP x.data.toList).1 = v.data.toList by rw [hv, list_mkW])
      rw [← hv] at WD
      clear hx hlt hk HR hv
      go_wp2_with fail
      refine WD.out.mono ?_
      rintro e w2 ⟨rfl, q, rfl⟩
      have c1 : (wr.drewN q).cell? ⟨gL, k, none⟩ = some (.string x) := c0
      have B2 := Lib.hid (below_drewN HB.out q)
      have O2 : Hid ((wr.drewN q).ownsRow w1.heap.size 81 3 u5 acc.length (acc.flatMap cF)) := Lib.hid HO.out
      have KW2 : Hid (Blk (wr.drewN q) gw 31 #[.slice none 0 0, .int .i64 0]) := Lib.hid KW.out
      clear c0 HB HO KW WD
      generalize wr.drewN q = w2 at *
      by_cases h1 : v.data.toList = []
      · have HP2 := Lib.hid (show parseP ((L.drop (k + 1)).map (·.data.toList)) (k + 1) acc = R by rw [← HP.out, parse_skip (.inl (by rw [ev.out, h1]))])
        obtain rfl : v = ⟨#[]⟩ := bytesB_eq h1
        clear h1 HP ev
        go_wp2
        go_roundw
        case rel => exact ⟨k + 1, acc, by have := HLT.out; omega, by go_num, HA, O2, HP2, B2⟩
        case measure => have := HLT.out; simp [intOf]; omega
      obtain ⟨n1, n2⟩ := not_nilB h1
      have hv0 : 0 < v.size := by
        rcases Nat.eq_zero_or_pos v.size with h | h
        · exact absurd (congrArg (fun b : ByteArray => b.data.toList) (nil_ofB h)) h1
        · exact h
      have hv0i : (0 : Int) < (v.size : Int) := by omega
      have hd := head_of hv0
      by_cases h35 : v[0] = 35
      · have HP2 := Lib.hid (show parseP ((L.drop (k + 1)).map (·.data.toList)) (k + 1) acc = R by rw [← HP.out, parse_skip (.inr (by rw [ev.out, hd, h35]))])
        have b1 : ((v[0].toNat : Int) == 35) = true := by rw [h35]; rfl
        have b2 : (v[0].toNat : Int) = 35 := by rw [h35]; rfl
        clear h35 hd h1 HP ev
        go_wp2
        go_roundw
        case rel => exact ⟨k + 1, acc, by have := HLT.out; omega, by go_num, HA, O2, HP2, B2⟩
        case measure => have := HLT.out; simp [intOf]; omega
      have HQ := Lib.hid (show ¬ ((wordP x.data.toList).1 = [] ∨ (wordP x.data.toList).1.head? = some 35) from fun e => by rw [ev.out] at e; exact e.elim h1 fun e => h35 (by rw [hd] at e; exact Option.some.inj e))
      have b2 : ¬ (v[0].toNat : Int) = 35 := fun e => h35 (UInt8.toNat_inj.1 (by show v[0].toNat = 35; omega))
      have b1 : ((v[0].toNat : Int) == 35) = false := by simpa using b2
      have HP3 := HP.out
      rw [parse_step HQ.out] at HP3
      have LA := Lib.hid (ST.out w2)
      unfold StepTo at LA
      obtain ⟨o, ho⟩ : ∃ o, o = stepP x.data.toList := ⟨_, rfl⟩
      rw [← ho] at LA HP3
      have HP3 := Lib.hid HP3
      clear h35 hd h1 HP ev HQ ho ST
      go_wp2_with fail
      clear b1 b2 n1 n2 c1
      refine LA.out.mono ?_
      rintro e w3 ⟨rfl, b3⟩
      obtain ⟨⟨f1, f2, f3⟩, fe⟩ := o
      dsimp only at HP3 ⊢
      have B3 := Lib.hid ((B2.out.trans (b3.mono B2.out.size)).alloc (Nat.le_trans B2.out.size b3.size) (.cells #[.string f1, .int .i64 f2, .string f3] 81))
      have O3 := Lib.hid ((own_keep O2.out b3).alloc (.cells #[.string f1, .int .i64 f2, .string f3] 81))
      have KW3 := Lib.hid ((KW2.out.below b3 KW2.out.lt).alloc (.cells #[.string f1, .int .i64 f2, .string f3] 81))
      have Z3 := Lib.hid (Blk.new w3 81 #[.string f1, .int .i64 f2, .string f3])
      clear b3 LA O2 B2 KW2
      obtain ⟨z, hz⟩ : ∃ z, z = w3.heap.size := ⟨_, rfl⟩
      go_upto_region 9 with fail
      rw [← hz] at Z3 ⊢
      clear hz
      generalize w3.alloc (.cells #[.string f1, .int .i64 f2, .string f3] 81) = W at *
      have HBW := Lib.hid (B1.out.trans (B3.out.mono B1.out.size))
      by_cases he : fe = 0
      · subst he
        obtain ⟨A4, c4, hv4⟩ := own_form O3.out
        have al0 : (0 : Int) ≤ (acc.length : Int) := Int.natCast_nonneg _
        by_cases h32 : acc.length = 32
        · have HP2 := Lib.hid (show R = .inr (32, 4) by have := HP3.out; rw [if_neg (by simp), if_pos h32] at this; exact this.symm)
          have h32b : ((acc.length : Int) == 32) = true := by rw [h32]; rfl
          have h32c : (acc.length : Int) = 32 := by omega
          clear HP3 h32
          subst hv4
          go_wp2_with fail
          refine (refAt_any bLine 32 4 _).mono ?_
          rintro e w5 ⟨g5, rfl, hg5, hgl, d5⟩
          have K5 := Lib.hid (KW3.out.below d5 KW3.out.lt)
          have B5 := Lib.hid (HBW.out.trans (d5.mono HBW.out.size))
          have G5 := Lib.hid hg5
          have hne5 : g5 ≠ gw := fun e => absurd KW3.out.lt (by rw [← e]; omega)
          have hgl5 := Lib.hid (Nat.le_trans HBW.out.size hgl)
          clear hg5 hgl d5
          have c0 := K5.out.cell 0
          have f0 := K5.out.frozen 0
          have c1 := K5.out.cell 1
          have f1 := K5.out.frozen 1
          go_wp2
          exact bodyPost_ret (results_tmp_row (fn := Tryz.f10) rfl _ _ gw 31 _ (0, 0) _ rfl (row2w K5.out rfl (.slice (some ⟨g5, 0, none⟩) 1 1) (.int .i64 4)) Tryz.underlying31 rfl (by kernel_rfl)) rfl (.inr ⟨_, _, g5, HP2.out, rfl, hgl5.out, (G5.out.far hne5 _).far hne5 _, (B5.out.setCell (p := ⟨gw, 0, none⟩) (by rw [HGW.out]; exact Nat.le_refl _) _).setCell (p := ⟨gw, 1, none⟩) (by rw [HGW.out]; exact Nat.le_refl _) _⟩)
        · have HP2 := Lib.hid (show parseP ((L.drop (k + 1)).map (·.data.toList)) (k + 1) (acc ++ [(f1, f2, f3)]) = R by have := HP3.out; rw [if_neg (by simp), if_neg h32] at this; exact this)
          have HA2 := Lib.hid (show (acc ++ [(f1, f2, f3)]).length ≤ 32 by rw [List.length_append, List.length_singleton]; have := HA.out; omega)
          have h32c : ¬ (acc.length : Int) = 32 := by omega
          have h32b : ((acc.length : Int) == 32) = false := by simpa using h32c
          have O4 := Lib.hid (O3.out.alloc (.cells #[.string f1, .int .i64 f2, .string f3] 81))
          have R4 := Lib.hid (reads_one_rstep (f1, f2, f3) (Blk.new W 81 #[.string f1, .int .i64 f2, .string f3]))
          have B4 := Lib.hid (B3.out.alloc B3.out.size (.cells #[.string f1, .int .i64 f2, .string f3] 81))
          have z0 := Z3.out.cell 0
          have z1 := Z3.out.cell 1
          have z2 := Z3.out.cell 2
          have zlt : z < W.heap.size := Z3.out.lt
          clear HP3 h32
          subst hv4
          go_wp2_with (at_builtin; go_loud (refine wpList_append_rsteps (W.alloc (.cells #[.string f1, .int .i64 f2, .string f3] 81)) rfl (.tmp 51) (.tmp 53) rfl w1.heap.size _ acc [(f1, f2, f3)] rfl O4.out _ _ _ rfl R4.out (by have := HA.out; simp; omega) B4.out.size ?_; intro A' c' w5 o5 b5 g5; have O5 := Lib.hid o5; have B5 := Lib.hid (B4.out.trans b5); clear o5 b5 g5))
          go_roundw
          case rel => exact ⟨k + 1, acc ++ [(f1, f2, f3)], by have := HLT.out; omega, by go_num, HA2, Lib.hid (by have := O5.out; rw [show (acc ++ [(f1, f2, f3)]).length = acc.length + 1 by simp] at this; rw [show (acc ++ [(f1, f2, f3)]).length = acc.length + 1 by simp]; exact this), HP2, B5⟩
          case measure => have := HLT.out; simp [intOf]; omega
      · have HP2 := Lib.hid (show R = .inr (k, fe) by have := HP3.out; rw [if_pos he] at this; exact this.symm)
        have heb : (fe == 0) = false := by simpa using he
        clear HP3
        go_wp2_with fail
        refine (refAt_any bLine k fe _).mono ?_
        rintro e w5 ⟨g5, rfl, hg5, hgl, d5⟩
        have K5 := Lib.hid (KW3.out.below d5 KW3.out.lt)
        have B5 := Lib.hid (HBW.out.trans (d5.mono HBW.out.size))
        have G5 := Lib.hid hg5
        have hne5 : g5 ≠ gw := fun e => absurd KW3.out.lt (by rw [← e]; omega)
        have hgl5 := Lib.hid (Nat.le_trans HBW.out.size hgl)
        clear hg5 hgl d5
        have c0 := K5.out.cell 0
        have f0 := K5.out.frozen 0
        have c1 := K5.out.cell 1
        have f1 := K5.out.frozen 1
        go_wp2
        exact bodyPost_ret (results_tmp_row (fn := Tryz.f10) rfl _ _ gw 31 _ (0, 0) _ rfl (row2w K5.out rfl (.slice (some ⟨g5, 0, none⟩) 1 1) (.int .i64 fe)) Tryz.underlying31 rfl (by kernel_rfl)) rfl (.inr ⟨_, _, g5, HP2.out, rfl, hgl5.out, (G5.out.far hne5 _).far hne5 _, (B5.out.setCell (p := ⟨gw, 0, none⟩) (by rw [HGW.out]; exact Nat.le_refl _) _).setCell (p := ⟨gw, 1, none⟩) (by rw [HGW.out]; exact Nat.le_refl _) _⟩)
    · obtain rfl : k = L.length := by omega
      have HP2 := Lib.hid (show R = .inl acc by have := HR.out; rw [List.drop_length] at this; exact this.symm)
      have HBW := Lib.hid (B1.out.trans (HB.out.mono B1.out.size))
      have c0 := KW.out.cell 0
      have f0 := KW.out.frozen 0
      have c1 := KW.out.cell 1
      have f1 := KW.out.frozen 1
      clear hlt hk
      go_wp2
      exact bodyPost_ret (results_tmp_row (fn := Tryz.f10) rfl _ _ gw 31 _ (0, 0) _ rfl (row2w KW.out rfl (.slice none 0 0) (.int .i64 0)) Tryz.underlying31 rfl (by kernel_rfl)) rfl (.inl ⟨acc, _, HP2.out, rfl, own_lower (own_setG HO.out KW.out) B1.out.size, HA.out, (HBW.out.setCell (p := ⟨gw, 0, none⟩) (by rw [HGW.out]; exact Nat.le_refl _) _).setCell (p := ⟨gw, 1, none⟩) (by rw [HGW.out]; exact Nat.le_refl _) _⟩)
end Go.Proofs.YtanjcjnkppnhcaaGreatDoor
