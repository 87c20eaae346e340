/-
  The walk of IndexAny, where nothing is wrong with the entries.
  The walk of IndexAny, where something is wrong with the entries.
  Arguments that are entries, with the bounds of their numbers.
-/
import Derived.Test.YtplleaimmmanhaaGreatDoorA2
import Derived.Test.YtplleaimmmanhaaGreatDoorA4
import Derived.Test.YtplleaimmmanhaaGreatDoorP5
import Derived.Test.YtplleaimmmanhaaGreatDoorP7
import Derived.Laws.IdiomStrings
import Derived.Test.YtplleaimmmanhaaGreatDoorFArgsK
import Derived.Test.YtplleaimmmanhaaGreatDoorP6
namespace Go.Proofs.YtplleaimmmanhaaGreatDoor
open Go Go.RowKit

theorem conv_own {w : World} {B : Nat} {v : Value} {l : List UInt8} (h : BOwn w B v l) (h0 : 0 < l.length) : ∀ W, Below w.heap.size w W → (convert 54 9 v).run Tryz.prog W = .ok (.string ⟨l.toArray⟩) W := fun W hW => by
  obtain ⟨g, c, rfl, _, _, _⟩ := own_first h h0
  have hc := BOwn.cells (own_keep h hW)
  exact run_convert_bytes_back W 54 9 5 ⟨g, 0, none⟩ c l Tryz.underlying54 Tryz.underlying5 Tryz.underlying9 fun j hj => by
    rw [Addr.add_lit, Nat.zero_add]
    exact hc j _ (bc_at (List.getElem?_eq_getElem hj))

/-- What stands before the comparison. -/
structure Stand (W : World) (A : Option Addr) (c : Nat) (l : List En) (A3 : Option Addr) (c3 : Nat) (V : World) : Prop where
  b : Below W.heap.size W V
  r : Reads 6 cE V (.slice A l.length c) l
  x : Reads 6 cE V (.slice A3 l.length c3) l
theorem Stand.below {W : World} {A : Option Addr} {c : Nat} {l : List En} {A3 : Option Addr} {c3 : Nat} {V V' : World} (h : Stand W A c l A3 c3 V) (hb : Below V.heap.size V V') : Stand W A c l A3 c3 V' :=
  ⟨h.b.trans (hb.mono h.b.size), h.r.below hb, h.x.below hb⟩

set_option maxRecDepth 100000 in
set_option maxHeartbeats 8000000 in
theorem any_good (W : World) (hh : Halves W) (v : Value) (l : List En) (rd : Reads 6 cE W v l) (bd : ∀ x ∈ l, In64i x.2.1 ∧ In64i x.2.2.1 ∧ In64i x.2.2.2.2.1 ∧ In64i x.2.2.2.2.2) (hn : chkE l = none) :
    Calls Tryz.prog 4 #[v] W (YesTo W) := by
  have KN := Lib.hid (known15_yes W hh)
  obtain ⟨A, c, rfl⟩ := rd.form
  have HR := Lib.hid rd
  have HH := Lib.hid hh
  have HBD := Lib.hid bd
  have HN := Lib.hid hn
  clear hh rd bd hn
  go_enter Tryz.func4, Tryz.ntmps4
  go_wp2_with fail
  refine KN.out.mono ?_
  rintro e w1 ⟨rfl, b1⟩
  have FW := Lib.hid (fewE_any w1 (.slice A l.length c) l (HR.out.below b1))
  have B1 := Lib.hid b1
  clear b1 KN
  go_wp2_with fail
  refine FW.out.mono ?_
  rintro e w2' ⟨b, rfl, hfew, n2, rfl⟩
  have B2 := Lib.hid (below_drewN B1.out n2)
  cases b with
  | false =>
    go_wp2_with fail
    go_ret
    exact ⟨rfl, B2.out⟩
  | true =>
  obtain ⟨hl80, hsz⟩ := hfew rfl
  have FIT := Lib.hid (show ∀ x ∈ l, FitE x from fun x hx => ⟨(hsz x hx).1, (hsz x hx).2, (HBD.out x hx).1, (HBD.out x hx).2.1, (HBD.out x hx).2.2.1, (HBD.out x hx).2.2.2⟩)
  have SZ := Lib.hid (show SizedDE l from fun x hx => ⟨Nat.le_trans (hsz x hx).1 (by decide), Nat.le_trans (hsz x hx).2 (by decide)⟩)
  clear hfew hsz FW
  obtain ⟨w2, hw2⟩ : ∃ w2, w2 = w1.drewN n2 := ⟨_, rfl⟩
  rw [← hw2] at B2 ⊢
  clear hw2 B1
  have R2 := Lib.hid (HR.out.below B2.out)
  have O2 := Lib.hid (ofE_any w2 _ l R2.out (by omega))
  go_wp2_with fail
  refine O2.out.mono ?_
  rintro e w3 ⟨v3, rfl, o3, b3⟩
  obtain ⟨A3, c3, rfl⟩ := own_form o3
  have S3 := Lib.hid (show Stand W A c l A3 c3 w3 from ⟨B2.out.trans (b3.mono B2.out.size), R2.out.below b3, Reads.of_own cE_len o3⟩)
  have CI := Lib.hid (checkIndexW_any w3 _ l S3.out.x (by omega) SZ.out.paths)
  clear o3 b3 O2 R2 B2
  go_wp2_with fail
  refine CI.out.mono ?_
  rintro e w4 h4
  obtain ⟨rfl, b4⟩ : e = .returned (.agg #[.slice none 0 0, .int .i64 0]) ∧ Below w3.heap.size w3 w4 := by
    rcases h4 with ⟨_, he, hb⟩ | ⟨i, k, g, ho, _⟩
    · exact ⟨he, hb⟩
    · rw [HN.out] at ho; cases ho
  obtain ⟨W4, hW4⟩ : ∃ V, V = w4.alloc (.cells #[.slice none 0 0, .int .i64 0] 36) := ⟨_, rfl⟩
  have b4' : Below w4.heap.size w4 W4 := by rw [hW4]; exact (Below.refl _ _).alloc (Nat.le_refl _) _
  obtain ⟨T4, hT4⟩ : ∃ T, T = w4.heap.size := ⟨_, rfl⟩
  have K4 : Blk W4 T4 36 #[.slice none 0 0, .int .i64 0] := by rw [hW4, hT4]; exact heap_alloc_new w4 _
  have HK4 := Lib.hid K4
  have S4 := Lib.hid ((S3.out.below b4).below b4')
  have EC := Lib.hid (encode_any W4 _ l S4.out.r FIT.out (by omega) HN.out (HH.out.below S4.out.b HH.out.1))
  clear h4 b4 b4' K4 CI S3
  go_wp2_with fail
  rw [← hW4, ← hT4]
  clear hW4 hT4
  go_wp2_with fail
  refine EC.out.mono ?_
  rintro e w5 ⟨v5, rfl, o5, b5⟩
  have S5 := Lib.hid (S4.out.below b5)
  have HK5 := Lib.hid (HK4.out.below b5 HK4.out.lt)
  have O5 := Lib.hid o5
  obtain ⟨A5, n5, c5, rfl⟩ : ∃ A n c, v5 = .slice A n c := by obtain ⟨A, c, h⟩ := own_form o5; exact ⟨A, _, c, h⟩
  have RE := Lib.hid (refEncode_any w5 _ l S5.out.x SZ.out (fun _ => FIT.out) hl80)
  clear o5 b5 EC S4 HK4
  go_wp2_with fail
  refine RE.out.mono ?_
  rintro e w6 h6
  obtain ⟨v7, rfl, o7, b6⟩ : ∃ v', e = .returned (.tuple #[v', .agg #[.slice none 0 0, .int .i64 0]]) ∧ BOwn w6 w5.heap.size v' (seald (encL l)) ∧ Below w5.heap.size w5 w6 := by
    rcases h6 with ⟨_, v', he, ho, hb⟩ | ⟨i, k, g, ho, _⟩
    · exact ⟨v', he, ho, hb⟩
    · rw [HN.out] at ho; cases ho
  obtain ⟨A7, n7, c7, rfl⟩ : ∃ A n c, v7 = .slice A n c := by obtain ⟨A, c, h⟩ := own_form o7; exact ⟨A, _, c, h⟩
  obtain ⟨W8, hW8⟩ : ∃ V, V = w6.alloc (.cells #[.slice none 0 0, .int .i64 0] 36) := ⟨_, rfl⟩
  have b8 : Below w6.heap.size w6 W8 := by rw [hW8]; exact (Below.refl _ _).alloc (Nat.le_refl _) _
  obtain ⟨T8, hT8⟩ : ∃ T, T = w6.heap.size := ⟨_, rfl⟩
  have K8 : Blk W8 T8 36 #[.slice none 0 0, .int .i64 0] := by rw [hW8, hT8]; exact heap_alloc_new w6 _
  have b68 : Below w5.heap.size w5 W8 := b6.trans (b8.mono b6.size)
  have S8 := Lib.hid (S5.out.below b68)
  have K48 := Lib.hid (HK5.out.below b68 HK5.out.lt)
  have HK8 := Lib.hid K8
  have O58 := Lib.hid (own_keep O5.out b68)
  have O78 := Lib.hid (own_keep o7 b8)
  have hpos : 0 < (seald (encL l)).length := by rw [seald_len]; omega
  obtain ⟨sb, hsb⟩ : ∃ sb : ByteArray, sb = ⟨(seald (encL l)).toArray⟩ := ⟨_, rfl⟩
  have CV5 := conv_own O58.out hpos
  have CV7 := conv_own O78.out hpos
  rw [← hsb] at CV5 CV7
  have SS := Lib.hid (show ∀ V, Below W8.heap.size W8 V → (fun w' => w'.cell? ⟨T4, 0, none⟩ = some (.slice none 0 0) ∧ w'.cell? ⟨T4, 1, none⟩ = some (.int .i64 0) ∧ w'.cell? ⟨T8, 0, none⟩ = some (.slice none 0 0) ∧ w'.cell? ⟨T8, 1, none⟩ = some (.int .i64 0) ∧ (convert 54 9 (.slice A5 n5 c5)).run Tryz.prog w' = .ok (.string sb) w' ∧ (convert 54 9 (.slice A7 n7 c7)).run Tryz.prog w' = .ok (.string sb) w') V from fun V hV =>
    ⟨(K48.out.below hV K48.out.lt).cell 0, (K48.out.below hV K48.out.lt).cell 1, (HK8.out.below hV HK8.out.lt).cell 0, (HK8.out.below hV HK8.out.lt).cell 1, CV5 V hV, CV7 V hV⟩)
  have CK := Lib.hid (fun V (hV : Below W8.heap.size W8 V) => checkE_any V _ l (S8.out.r.below hV) SZ.out (by omega))
  simp only [HN.out] at CK
  have SX := Lib.hid (fun V (hV : Below W8.heap.size W8 V) => S8.out.below hV)
  have K4X := Lib.hid (fun V (hV : Below W8.heap.size W8 V) => K48.out.below hV K48.out.lt)
  have RB := Lib.hid (fun V (hV : Below W8.heap.size W8 V) => ReadsB.of_own (own_keep O58.out hV))
  clear h6 o7 b6 b8 b68 K8 RE S5 HK5 O5 CV5 CV7 hsb O58 O78 K48 HK8
  go_wp2_with fail
  rw [← hW8, ← hT8]
  clear hW8 hT8
  go_wp2_with fail
  refine wp_region_held_drew (S := fun w' => w'.cell? ⟨T4, 0, none⟩ = some (.slice none 0 0) ∧ w'.cell? ⟨T4, 1, none⟩ = some (.int .i64 0) ∧ w'.cell? ⟨T8, 0, none⟩ = some (.slice none 0 0) ∧ w'.cell? ⟨T8, 1, none⟩ = some (.int .i64 0) ∧ (convert 54 9 (.slice A5 n5 c5)).run Tryz.prog w' = .ok (.string sb) w' ∧ (convert 54 9 (.slice A7 n7 c7)).run Tryz.prog w' = .ok (.string sb) w') (by kernel_rfl) (SS.out _ (by first | exact Below.refl _ _ | exact below_drewN (Below.refl _ _) _)) (fun hHeld => ?_)
  refine wpAnyH_take (i := 0) (oi := { dst := some 31, op := Op.move (Operand.tmp 0), type := 49, pos := "law.go:83", after := #[], guard := none }) (v := ?vr0) rfl (by kernel_rfl) (by kernel_rfl) (by kernel_rfl) (fun _ _ _ h => h) (Or.inl ⟨by rfl, ?yr0⟩) (by assumption) ?rr0
  case yr0 => (intro w' hSw; (try dsimp only at hSw); go_simp; try with_reducible rfl)
  try simp only [Act.put, List.setIfInBounds_toArray, List.set_cons_zero, List.set_cons_succ]
  refine wpAnyH_take (i := 2) (oi := { dst := some 33, op := Op.load 36 (Operand.tmp 4), type := 36, pos := "law.go:83", after := #[], guard := none }) (v := ?vr2) rfl (by kernel_rfl) (by kernel_rfl) (by kernel_rfl) (fun _ _ _ h => h) (Or.inl ⟨by rfl, ?yr2⟩) (by assumption) ?rr2
  case yr2 => (intro w' hSw; (try dsimp only at hSw); go_simp; try with_reducible rfl)
  try simp only [Act.put, List.setIfInBounds_toArray, List.set_cons_zero, List.set_cons_succ]
  refine wpAnyH_ready (rs := [1]) (by kernel_rfl) (by simp) ?_
  refine AllReadyH.cons (o := { dst := some 32, op := Op.call { callee := Callee.value (Operand.func 29), args := #[Operand.tmp 31], argTypes := #[49] }, type := 32, pos := "law.go:83", after := #[{ on := 0, ground := Ground.data }], guard := none }) rfl (fun K hK => ?_) AllReadyH.nil
  go_simp
  go_at_call 29
  refine (CK.out _ (by first | exact Below.refl _ _ | exact (Below.refl _ _).drew | exact below_drewN (Below.refl _ _) _)).mono ?_
  rintro e wa ha
  obtain ⟨rfl, ba0⟩ : e = .returned .nilIface ∧ Below W8.heap.size W8 wa := by
    rcases ha with ⟨_, he, hb⟩ | ⟨i, k, F, ho, _⟩
    · exact ⟨he, by first | exact hb | exact (Below.refl _ _).drew.trans hb | exact (below_drewN (Below.refl _ _) _).trans hb⟩
    · cases ho
  have HBa := Lib.hid ba0
  clear ha ba0
  go_wp2_with fail
  refine hK.out _ _ (SS.out _ HBa.out) (fun hHeldr1 => ?_)
  clear hK K hHeld
  try simp only [Act.put, List.setIfInBounds_toArray, List.set_cons_zero, List.set_cons_succ]
  refine wpAnyH_ready (rs := [3]) (by kernel_rfl) (by simp) ?_
  refine AllReadyH.cons (o := { dst := some 34, op := Op.call { callee := Callee.value (Operand.func 10), args := #[Operand.tmp 32, Operand.tmp 33], argTypes := #[32, 36] }, type := 4, pos := "law.go:83", after := #[{ on := 1, ground := Ground.data }, { on := 2, ground := Ground.data }, { on := 1, ground := Ground.chain }], guard := none }) rfl (fun K hK => ?_) AllReadyH.nil
  go_simp
  go_at_call 10
  refine (tellsE_none _).mono ?_
  rintro e wb ⟨rfl, bb0⟩
  have HBb : Hid (Below W8.heap.size W8 wb) := Lib.hid (HBa.out.trans (bb0.mono HBa.out.size))
  clear bb0
  go_wp2_with fail
  refine hK.out _ _ (SS.out _ HBb.out) (fun hHeldr3 => ?_)
  clear hK K hHeldr1
  try simp only [Act.put, List.setIfInBounds_toArray, List.set_cons_zero, List.set_cons_succ]
  refine wpAnyH_take (i := 4) (oi := { dst := some 35, op := Op.unOp UnOp.not 4 (Operand.tmp 34), type := 4, pos := "law.go:83", after := #[{ on := 3, ground := Ground.data }], guard := none }) (v := ?vr4) rfl (by kernel_rfl) (by kernel_rfl) (by kernel_rfl) (fun _ _ _ h => h) (Or.inl ⟨by rfl, ?yr4⟩) (by assumption) ?rr4
  case yr4 => (intro w' hSw; (try dsimp only at hSw); go_simp; try with_reducible rfl)
  try simp only [Act.put, List.setIfInBounds_toArray, List.set_cons_zero, List.set_cons_succ]
  refine wpAnyH_take (i := 5) (oi := { dst := some 36, op := Op.move (Operand.tmp 35), type := 4, pos := "law.go:83", after := #[{ on := 4, ground := Ground.data }, { on := 3, ground := Ground.chain }], guard := none }) (v := ?vr5) rfl (by kernel_rfl) (by kernel_rfl) (by kernel_rfl) (fun _ _ _ h => h) (Or.inl ⟨by rfl, ?yr5⟩) (by assumption) ?rr5
  case yr5 => (intro w' hSw; (try dsimp only at hSw); go_simp; try with_reducible rfl)
  try simp only [Act.put, List.setIfInBounds_toArray, List.set_cons_zero, List.set_cons_succ]
  refine wpAnyH_take (i := 6) (oi := { dst := some 37, op := Op.move (Operand.tmp 6), type := 32, pos := "law.go:83", after := #[{ on := 5, ground := Ground.guard }], guard := some (5, false) }) (v := ?vr6) rfl (by kernel_rfl) (by kernel_rfl) (by kernel_rfl) (fun _ _ _ h => h) (Or.inl ⟨by rfl, ?yr6⟩) (by assumption) ?rr6
  case yr6 => (intro w' hSw; (try dsimp only at hSw); go_simp; try with_reducible rfl)
  try simp only [Act.put, List.setIfInBounds_toArray, List.set_cons_zero, List.set_cons_succ]
  refine wpAnyH_take (i := 7) (oi := { dst := some 38, op := Op.load 36 (Operand.tmp 8), type := 36, pos := "law.go:83", after := #[{ on := 5, ground := Ground.guard }], guard := some (5, false) }) (v := ?vr7) rfl (by kernel_rfl) (by kernel_rfl) (by kernel_rfl) (fun _ _ _ h => h) (Or.inl ⟨by rfl, ?yr7⟩) (by assumption) ?rr7
  case yr7 => (intro w' hSw; (try dsimp only at hSw); go_simp; try with_reducible rfl)
  try simp only [Act.put, List.setIfInBounds_toArray, List.set_cons_zero, List.set_cons_succ]
  refine wpAnyH_ready (rs := [8]) (by kernel_rfl) (by simp) ?_
  refine AllReadyH.cons (o := { dst := some 39, op := Op.call { callee := Callee.value (Operand.func 10), args := #[Operand.tmp 37, Operand.tmp 38], argTypes := #[32, 36] }, type := 4, pos := "law.go:83", after := #[{ on := 6, ground := Ground.data }, { on := 7, ground := Ground.data }, { on := 5, ground := Ground.chain }, { on := 5, ground := Ground.guard }], guard := some (5, false) }) rfl (fun K hK => ?_) AllReadyH.nil
  go_simp
  go_at_call 10
  refine (tellsE_none _).mono ?_
  rintro e wc0 ⟨rfl, bc0⟩
  have HBc : Hid (Below W8.heap.size W8 wc0) := Lib.hid (HBb.out.trans (bc0.mono HBb.out.size))
  clear bc0
  go_wp2_with fail
  refine hK.out _ _ (SS.out _ HBc.out) (fun hHeldr8 => ?_)
  clear hK K hHeldr3
  try simp only [Act.put, List.setIfInBounds_toArray, List.set_cons_zero, List.set_cons_succ]
  refine wpAnyH_take (i := 9) (oi := { dst := some 40, op := Op.unOp UnOp.not 4 (Operand.tmp 39), type := 4, pos := "law.go:83", after := #[{ on := 8, ground := Ground.data }, { on := 5, ground := Ground.guard }], guard := some (5, false) }) (v := ?vr9) rfl (by kernel_rfl) (by kernel_rfl) (by kernel_rfl) (fun _ _ _ h => h) (Or.inl ⟨by rfl, ?yr9⟩) (by assumption) ?rr9
  case yr9 => (intro w' hSw; (try dsimp only at hSw); go_simp; try with_reducible rfl)
  try simp only [Act.put, List.setIfInBounds_toArray, List.set_cons_zero, List.set_cons_succ]
  refine wpAnyH_take (i := 10) (oi := { dst := some 41, op := Op.pick (Operand.tmp 36) (Operand.const (Value.bool true)) (Operand.tmp 40), type := 4, pos := "law.go:83", after := #[{ on := 5, ground := Ground.data }, { on := 9, ground := Ground.data }], guard := none }) (v := ?vr10) rfl (by kernel_rfl) (by kernel_rfl) (by kernel_rfl) (fun _ _ _ h => h) (Or.inl ⟨by rfl, ?yr10⟩) (by assumption) ?rr10
  case yr10 => (intro w' hSw; (try dsimp only at hSw); go_simp; try with_reducible rfl)
  try simp only [Act.put, List.setIfInBounds_toArray, List.set_cons_zero, List.set_cons_succ]
  refine wpAnyH_take (i := 11) (oi := { dst := some 42, op := Op.move (Operand.tmp 41), type := 4, pos := "law.go:83", after := #[{ on := 10, ground := Ground.data }, { on := 8, ground := Ground.chain }], guard := none }) (v := ?vr11) rfl (by kernel_rfl) (by kernel_rfl) (by kernel_rfl) (fun _ _ _ h => h) (Or.inl ⟨by rfl, ?yr11⟩) (by assumption) ?rr11
  case yr11 => (intro w' hSw; (try dsimp only at hSw); go_simp; try with_reducible rfl)
  try simp only [Act.put, List.setIfInBounds_toArray, List.set_cons_zero, List.set_cons_succ]
  refine wpAnyH_take (i := 12) (oi := { dst := some 43, op := Op.move (Operand.tmp 5), type := 54, pos := "law.go:83", after := #[{ on := 11, ground := Ground.guard }], guard := some (11, false) }) (v := ?vr12) rfl (by kernel_rfl) (by kernel_rfl) (by kernel_rfl) (fun _ _ _ h => h) (Or.inl ⟨by rfl, ?yr12⟩) (by assumption) ?rr12
  case yr12 => (intro w' hSw; (try dsimp only at hSw); go_simp; try with_reducible rfl)
  try simp only [Act.put, List.setIfInBounds_toArray, List.set_cons_zero, List.set_cons_succ]
  refine wpAnyH_take (i := 14) (oi := { dst := some 45, op := Op.move (Operand.tmp 7), type := 54, pos := "law.go:83", after := #[{ on := 11, ground := Ground.guard }], guard := some (11, false) }) (v := ?vr14) rfl (by kernel_rfl) (by kernel_rfl) (by kernel_rfl) (fun _ _ _ h => h) (Or.inl ⟨by rfl, ?yr14⟩) (by assumption) ?rr14
  case yr14 => (intro w' hSw; (try dsimp only at hSw); go_simp; try with_reducible rfl)
  try simp only [Act.put, List.setIfInBounds_toArray, List.set_cons_zero, List.set_cons_succ]
  refine wpAnyH_take (i := 13) (oi := { dst := some 44, op := Op.convert 54 9 (Operand.tmp 43), type := 9, pos := "law.go:83", after := #[{ on := 12, ground := Ground.data }, { on := 11, ground := Ground.guard }], guard := some (11, false) }) (v := ?vr13) rfl (by kernel_rfl) (by kernel_rfl) (by kernel_rfl) (fun _ _ _ h => h) (Or.inl ⟨by rfl, ?yr13⟩) (by assumption) ?rr13
  case yr13 => (intro w' hSw; (try dsimp only at hSw); go_simp; try with_reducible rfl)
  try simp only [Act.put, List.setIfInBounds_toArray, List.set_cons_zero, List.set_cons_succ]
  refine wpAnyH_take (i := 15) (oi := { dst := some 46, op := Op.convert 54 9 (Operand.tmp 45), type := 9, pos := "law.go:83", after := #[{ on := 14, ground := Ground.data }, { on := 11, ground := Ground.guard }], guard := some (11, false) }) (v := ?vr15) rfl (by kernel_rfl) (by kernel_rfl) (by kernel_rfl) (fun _ _ _ h => h) (Or.inl ⟨by rfl, ?yr15⟩) (by assumption) ?rr15
  case yr15 => (intro w' hSw; (try dsimp only at hSw); go_simp; try with_reducible rfl)
  try simp only [Act.put, List.setIfInBounds_toArray, List.set_cons_zero, List.set_cons_succ]
  refine wpAnyH_take (i := 16) (oi := { dst := some 47, op := Op.binOp BinOp.neq 9 (Operand.tmp 44) (Operand.tmp 46) 9, type := 4, pos := "law.go:83", after := #[{ on := 13, ground := Ground.data }, { on := 15, ground := Ground.data }, { on := 11, ground := Ground.guard }], guard := some (11, false) }) (v := ?vr16) rfl (by kernel_rfl) (by kernel_rfl) (by kernel_rfl) (fun _ _ _ h => h) (Or.inl ⟨by rfl, ?yr16⟩) (by assumption) ?rr16
  case yr16 => (intro w' hSw; (try dsimp only at hSw); go_simp; try with_reducible rfl)
  try simp only [Act.put, List.setIfInBounds_toArray, List.set_cons_zero, List.set_cons_succ]
  refine wpAnyH_take (i := 17) (oi := { dst := some 48, op := Op.pick (Operand.tmp 42) (Operand.const (Value.bool true)) (Operand.tmp 47), type := 4, pos := "law.go:83", after := #[{ on := 11, ground := Ground.data }, { on := 16, ground := Ground.data }], guard := none }) (v := ?vr17) rfl (by kernel_rfl) (by kernel_rfl) (by kernel_rfl) (fun _ _ _ h => h) (Or.inl ⟨by rfl, ?yr17⟩) (by assumption) ?rr17
  case yr17 => (intro w' hSw; (try dsimp only at hSw); go_simp; try with_reducible rfl)
  try simp only [Act.put, List.setIfInBounds_toArray, List.set_cons_zero, List.set_cons_succ]
  refine wpAnyH_done (by kernel_rfl) ?_ _
  have c40 := (K4X.out _ HBc.out).cell 0
  have c41 := (K4X.out _ HBc.out).cell 1
  have k4l := (K4X.out _ HBc.out).lt
  go_wp2_with fail
  go_loopw [9] (fun s9 wr => ∃ n : Nat, n ≤ 4 ∧ s9 = .int .i64 n ∧ Below W8.heap.size W8 wr) (fun s9 _ => 4 - (intOf s9).toNat)
  case atStart => exact ⟨0, Nat.zero_le _, rfl, by first | exact HBc.out | exact HBc.out.drew | exact below_drewN HBc.out _⟩
  case round =>
    obtain ⟨n, hn4, rfl, hb⟩ := hrel
    have HB := Lib.hid hb
    have hbs := hb.size
    have n00 : (0 : Int) ≤ (n : Int) := Int.natCast_nonneg _
    clear hb
    by_cases hlt : n < 4
    · have n01 : (n : Int) < 4 := by omega
      have ST := Lib.hid (stage_any wr _ l (n : Int) (SX.out wr HB.out).r (by omega))
      go_wp2_with fail
      refine ST.out.mono ?_
      rintro e wa ⟨va, rfl, oa, ba⟩
      have BA := Lib.hid (HB.out.trans (ba.mono hbs))
      have LO := Lib.hid (lawOf_any wa va (stageE l n) (Reads.of_own cF_len oa) (Nat.le_trans (stageE_len l n) (by omega)))
      obtain ⟨Aa, na, ca, rfl⟩ : ∃ A n c, va = .slice A n c := by obtain ⟨A, c, h⟩ := own_form oa; exact ⟨A, _, c, h⟩
      clear oa ba ST
      go_wp2_with fail
      refine LO.out.mono ?_
      rintro e wb' ⟨vb, rfl, ob, bb⟩
      have BB := Lib.hid (BA.out.trans (bb.mono BA.out.size))
      have RB1 := Lib.hid (Reads.of_own cF_len ob)
      have RS := Lib.hid (refStage_any wb' _ l (n : Int) (SX.out wb' BB.out).x (by omega))
      obtain ⟨Ab, nb, cb', rfl⟩ : ∃ A n c, vb = .slice A n c := by obtain ⟨A, c, h⟩ := own_form ob; exact ⟨A, _, c, h⟩
      clear ob bb LO BA
      go_wp2_with fail
      refine RS.out.mono ?_
      rintro e wd ⟨vd, rfl, od, bd⟩
      have BD := Lib.hid (BB.out.trans (bd.mono BB.out.size))
      have SM := Lib.hid (refSame_any wd _ vd (stageE l n) (stageE l n) (RB1.out.below bd) (Reads.of_own cF_len od))
      have HTT := Lib.hid (decide_eq_true (show stageE l n = stageE l n from rfl))
      obtain ⟨Ad, nd, cd', rfl⟩ : ∃ A n c, vd = .slice A n c := by obtain ⟨A, c, h⟩ := own_form od; exact ⟨A, _, c, h⟩
      clear od bd RS BB RB1
      go_wp2_with fail
      refine SM.out.mono ?_
      rintro e we ⟨rfl, qe, rfl⟩
      rw [HTT.out]
      have BE := Lib.hid (below_drewN BD.out qe)
      clear SM BD
      go_wp2_with fail
      go_roundw
      case rel => exact ⟨n + 1, by omega, by go_num, BE.out⟩
      case measure => simp [intOf]; omega
    · obtain rfl : n = 4 := by omega
      have DE := Lib.hid (decode_any wr _ l (RB.out wr HB.out) FIT.out (by omega) HN.out (HH.out.below (SX.out wr HB.out).b HH.out.1))
      go_wp2_with fail
      refine DE.out.mono ?_
      rintro e wa ⟨va, rfl, oa, ba⟩
      have BA := Lib.hid (HB.out.trans (ba.mono hbs))
      have AL := Lib.hid (allE_any wa va _ l l (Reads.of_own cE_len oa) (SX.out wa BA.out).x (by omega))
      have HTT := Lib.hid (decide_eq_true (show l = l from rfl))
      obtain ⟨Aa, ca, rfl⟩ := own_form oa
      clear oa ba DE
      go_wp2_with fail
      refine AL.out.mono ?_
      rintro e wb' ⟨rfl, bb⟩
      rw [HTT.out]
      have BB := Lib.hid (BA.out.trans (bb.mono BA.out.size))
      have CF := Lib.hid (conflicts_any wb' _ l (SX.out wb' BB.out).r (by omega))
      clear bb AL BA
      go_wp2_with fail
      refine CF.out.mono ?_
      rintro e wd ⟨vd, rfl, od, bd⟩
      have BD := Lib.hid (BB.out.trans (bd.mono BB.out.size))
      have SD := Lib.hid (Strs.of_own od rfl)
      have RC := Lib.hid (refConf_any wd _ l (SX.out wd BD.out).x (by omega) (chk_stages HN.out))
      obtain ⟨Ad, nd, cd', rfl⟩ : ∃ A n c, vd = .slice A n c := by obtain ⟨A, c, h⟩ := own_form od; exact ⟨A, _, c, h⟩
      clear od bd CF BB
      go_wp2_with fail
      refine RC.out.mono ?_
      rintro e we ⟨ve, rfl, oe, be⟩
      have BE := Lib.hid (BD.out.trans (be.mono BD.out.size))
      have SDe : Strs we (.slice Ad nd cd') (nrm (confE l)) := by
        obtain ⟨A', c', hv, h1, h2, h3, h4⟩ := SD.out
        exact ⟨A', c', hv, h1, h2, h3, fun ad ha i s hs => (be.cell (World.block_lt_of_cell? _ _ (h4 ad ha i s hs))).trans (h4 ad ha i s hs)⟩
      have TX := Lib.hid (texts_any we _ ve (nrm (confE l)) (nrm (confE l)) SDe (Strs.of_own oe rfl))
      have HTN := Lib.hid (decide_eq_true (show nrm (confE l) = nrm (confE l) from rfl))
      obtain ⟨Ae, ne, ce, rfl⟩ : ∃ A n c, ve = .slice A n c := by obtain ⟨A, c, h⟩ := own_form oe; exact ⟨A, _, c, h⟩
      clear oe be RC BD SD SDe
      go_wp2_with fail
      refine TX.out.mono ?_
      rintro e wf ⟨rfl, qf, rfl⟩
      rw [HTN.out]
      have BF := Lib.hid ((SX.out _ (below_drewN BE.out qf)).b)
      go_wp2_with fail
      go_ret
      exact ⟨rfl, BF.out⟩
end Go.Proofs.YtplleaimmmanhaaGreatDoor
namespace Go.Proofs.YtplleaimmmanhaaGreatDoor
open Go Go.RowKit

set_option maxHeartbeats 2000000 in
theorem encodeBad_any (w : World) (v : Value) (l : List En) (h : Reads 6 cE w v l) (hs : SizedDE l) (hl : l.length ≤ 90) {i : Nat} {k : Int} (hc : chkE l = some (i, k)) :
    Calls Tryz.prog 27 #[v] w fun e w' => ∃ F, e = .returned (.tuple #[.slice none 0 0, .iface 89 (.pointer (some ⟨F, 0, none⟩))]) ∧ FaultOf F bEntry i k w' ∧ Below w.heap.size w w' := by
  have CK := Lib.hid (checkE_any w v l h hs (by omega))
  rw [hc] at CK
  obtain ⟨A, c, rfl⟩ := h.form
  clear h hs
  go_enter Tryz.func27, Tryz.ntmps27
  go_wp2_with fail
  refine CK.out.mono ?_
  rintro e w1 h1
  obtain ⟨F, rfl, hF, hb⟩ : ∃ F, e = .returned (.iface 89 (.pointer (some ⟨F, 0, none⟩))) ∧ FaultOf F bEntry i k w1 ∧ Below w.heap.size w w1 := by
    rcases h1 with ⟨ho, _⟩ | ⟨i', k', F, ho, he, _, hF, hb⟩
    · cases ho
    · cases ho
      exact ⟨F, he, hF, hb⟩
  clear h1 CK
  go_wp2_with fail
  go_ret2
  exact ⟨F, rfl, hF, hb⟩

set_option maxRecDepth 100000 in
set_option maxHeartbeats 8000000 in
theorem any_bad (W : World) (hE : ErrType W) (hh : Halves W) (v : Value) (l : List En) (rd : Reads 6 cE W v l) (i : Nat) (k : Int) (hn : chkE l = some (i, k)) :
    Calls Tryz.prog 4 #[v] W (YesTo W) := by
  have KN := Lib.hid (known15_yes W hh)
  obtain ⟨A, c, rfl⟩ := rd.form
  have HR := Lib.hid rd
  have HN := Lib.hid hn
  have HE0 := Lib.hid hE
  clear hh rd hn hE
  go_enter Tryz.func4, Tryz.ntmps4
  go_wp2_with fail
  refine KN.out.mono ?_
  rintro e w1 ⟨rfl, b1⟩
  have FW := Lib.hid (fewE_any w1 (.slice A l.length c) l (HR.out.below b1))
  have B1 := Lib.hid b1
  clear b1 KN
  go_wp2_with fail
  refine FW.out.mono ?_
  rintro e w2' ⟨b, rfl, hfew, n2, rfl⟩
  have B2 := Lib.hid (below_drewN B1.out n2)
  cases b with
  | false =>
    go_wp2_with fail
    go_ret
    exact ⟨rfl, B2.out⟩
  | true =>
  obtain ⟨hl80, hsz⟩ := hfew rfl
  have SZ := Lib.hid (show SizedDE l from fun x hx => ⟨Nat.le_trans (hsz x hx).1 (by decide), Nat.le_trans (hsz x hx).2 (by decide)⟩)
  clear hfew hsz FW
  obtain ⟨w2, hw2⟩ : ∃ w2, w2 = w1.drewN n2 := ⟨_, rfl⟩
  rw [← hw2] at B2 ⊢
  clear hw2 B1
  have R2 := Lib.hid (HR.out.below B2.out)
  have O2 := Lib.hid (ofE_any w2 _ l R2.out (by omega))
  go_wp2_with fail
  refine O2.out.mono ?_
  rintro e w3 ⟨v3, rfl, o3, b3⟩
  obtain ⟨A3, c3, rfl⟩ := own_form o3
  have S3 := Lib.hid (show Stand W A c l A3 c3 w3 from ⟨B2.out.trans (b3.mono B2.out.size), R2.out.below b3, Reads.of_own cE_len o3⟩)
  have CI := Lib.hid (checkIndexW_any w3 _ l S3.out.x (by omega) SZ.out.paths)
  clear o3 b3 O2 R2 B2
  go_wp2_with fail
  refine CI.out.mono ?_
  rintro e w4 h4
  obtain ⟨g4, rfl, hg4, b4⟩ : ∃ g, e = .returned (wrongG g k) ∧ Blk w4 g 95 #[.string bEntry, .int .i64 i] ∧ Below w3.heap.size w3 w4 := by
    rcases h4 with ⟨ho, _⟩ | ⟨i', k', g, ho, he, _, hg, hb⟩
    · rw [HN.out] at ho; cases ho
    · rw [HN.out] at ho; cases ho
      exact ⟨g, he, hg, hb⟩
  obtain ⟨W4, hW4⟩ : ∃ V, V = w4.alloc (.cells #[.slice (some ⟨g4, 0, none⟩) 1 1, .int .i64 k] 36) := ⟨_, rfl⟩
  have b4' : Below w4.heap.size w4 W4 := by rw [hW4]; exact (Below.refl _ _).alloc (Nat.le_refl _) _
  obtain ⟨T4, hT4⟩ : ∃ T, T = w4.heap.size := ⟨_, rfl⟩
  have K4 : Blk W4 T4 36 #[.slice (some ⟨g4, 0, none⟩) 1 1, .int .i64 k] := by rw [hW4, hT4]; exact heap_alloc_new w4 _
  have HK4 := Lib.hid K4
  have HG4 := Lib.hid (hg4.below b4' hg4.lt)
  have S4 := Lib.hid ((S3.out.below b4).below b4')
  have EC := Lib.hid (encodeBad_any W4 _ l S4.out.r SZ.out (by omega) HN.out)
  clear h4 b4 b4' K4 CI S3 hg4
  go_wp2_with fail
  rw [← hW4, ← hT4]
  clear hW4 hT4
  go_wp2_with fail
  refine EC.out.mono ?_
  rintro e w5 ⟨F5, rfl, hF5, b5⟩
  have S5 := Lib.hid (S4.out.below b5)
  have HK5 := Lib.hid (HK4.out.below b5 HK4.out.lt)
  have HG5 := Lib.hid (HG4.out.below b5 HG4.out.lt)
  have SD5 := Lib.hid (show SaidE l w5 (.iface 89 (.pointer (some ⟨F5, 0, none⟩))) from .inr ⟨i, k, F5, HN.out, rfl, hF5⟩)
  have RE := Lib.hid (refEncode_any w5 _ l S5.out.x SZ.out (fun h => by rw [HN.out] at h; cases h) hl80)
  clear b5 EC S4 HK4 HG4 hF5
  go_wp2_with fail
  refine RE.out.mono ?_
  rintro e w6 h6
  obtain ⟨g8, rfl, hg8, b6⟩ : ∃ g, e = .returned (.tuple #[.slice none 0 0, wrongG g k]) ∧ Blk w6 g 95 #[.string bEntry, .int .i64 i] ∧ Below w5.heap.size w5 w6 := by
    rcases h6 with ⟨ho, _⟩ | ⟨i', k', g, ho, he, _, hg, hb⟩
    · rw [HN.out] at ho; cases ho
    · rw [HN.out] at ho; cases ho
      exact ⟨g, he, hg, hb⟩
  obtain ⟨W8, hW8⟩ : ∃ V, V = w6.alloc (.cells #[.slice (some ⟨g8, 0, none⟩) 1 1, .int .i64 k] 36) := ⟨_, rfl⟩
  have b8 : Below w6.heap.size w6 W8 := by rw [hW8]; exact (Below.refl _ _).alloc (Nat.le_refl _) _
  obtain ⟨T8, hT8⟩ : ∃ T, T = w6.heap.size := ⟨_, rfl⟩
  have K8 : Blk W8 T8 36 #[.slice (some ⟨g8, 0, none⟩) 1 1, .int .i64 k] := by rw [hW8, hT8]; exact heap_alloc_new w6 _
  have b68 : Below w5.heap.size w5 W8 := b6.trans (b8.mono b6.size)
  have S8 := Lib.hid (S5.out.below b68)
  have K48 := Lib.hid (HK5.out.below b68 HK5.out.lt)
  have HK8 := Lib.hid K8
  have HG48 := Lib.hid (HG5.out.below b68 HG5.out.lt)
  have HG88 := Lib.hid (hg8.below b8 hg8.lt)
  have SD8 := Lib.hid (SD5.out.below b68)
  obtain ⟨sb, hsb⟩ : ∃ sb : ByteArray, sb = ByteArray.empty := ⟨_, rfl⟩
  have CV : ∀ V : World, (convert 54 9 (.slice none 0 0)).run Tryz.prog V = .ok (.string sb) V := fun V => by rw [hsb]; exact run_convert_bytes_nil V 54 5 Tryz.underlying54 Tryz.underlying5 0 0 9 Tryz.underlying9
  have SS := Lib.hid (show ∀ V, Below W8.heap.size W8 V → (fun w' => w'.cell? ⟨T4, 0, none⟩ = some (.slice (some ⟨g4, 0, none⟩) 1 1) ∧ w'.cell? ⟨T4, 1, none⟩ = some (.int .i64 k) ∧ w'.cell? ⟨T8, 0, none⟩ = some (.slice (some ⟨g8, 0, none⟩) 1 1) ∧ w'.cell? ⟨T8, 1, none⟩ = some (.int .i64 k) ∧ (convert 54 9 (.slice none 0 0)).run Tryz.prog w' = .ok (.string sb) w') V from fun V hV =>
    ⟨(K48.out.below hV K48.out.lt).cell 0, (K48.out.below hV K48.out.lt).cell 1, (HK8.out.below hV HK8.out.lt).cell 0, (HK8.out.below hV HK8.out.lt).cell 1, CV V⟩)
  have CK := Lib.hid (fun V (hV : Below W8.heap.size W8 V) => checkE_any V _ l (S8.out.r.below hV) SZ.out (by omega))
  simp only [HN.out] at CK
  have SX := Lib.hid (fun V (hV : Below W8.heap.size W8 V) => (S8.out.below hV).b)
  have HEX := Lib.hid (fun V (hV : Below W8.heap.size W8 V) => HE0.out.below (S8.out.below hV).b)
  have SX6 := Lib.hid (fun V (hV : Below W8.heap.size W8 V) => SD8.out.below hV)
  have WX4 := Lib.hid (fun V (hV : Below W8.heap.size W8 V) => (show WroteE l V (.slice (some ⟨g4, 0, none⟩) 1 1) (.int .i64 k) from .inr ⟨i, k, g4, HN.out, rfl, rfl, HG48.out.below hV HG48.out.lt⟩))
  have WX8 := Lib.hid (fun V (hV : Below W8.heap.size W8 V) => (show WroteE l V (.slice (some ⟨g8, 0, none⟩) 1 1) (.int .i64 k) from .inr ⟨i, k, g8, HN.out, rfl, rfl, HG88.out.below hV HG88.out.lt⟩))
  have K4X := Lib.hid (fun V (hV : Below W8.heap.size W8 V) => K48.out.below hV K48.out.lt)
  have hk0 : Hid (k ≠ 0) := Lib.hid (chkE_14 hl80 HN.out).2.1
  clear h6 b6 b8 b68 K8 RE S5 HK5 HG5 SD5 CV hsb K48 HK8 HG48 HG88 SD8 hg8
  go_wp2_with fail
  rw [← hW8, ← hT8]
  clear hW8 hT8
  go_wp2_with fail
  refine wp_region_held_drew (S := fun w' => w'.cell? ⟨T4, 0, none⟩ = some (.slice (some ⟨g4, 0, none⟩) 1 1) ∧ w'.cell? ⟨T4, 1, none⟩ = some (.int .i64 k) ∧ w'.cell? ⟨T8, 0, none⟩ = some (.slice (some ⟨g8, 0, none⟩) 1 1) ∧ w'.cell? ⟨T8, 1, none⟩ = some (.int .i64 k) ∧ (convert 54 9 (.slice none 0 0)).run Tryz.prog w' = .ok (.string sb) w') (by kernel_rfl) (SS.out _ (by first | exact Below.refl _ _ | exact below_drewN (Below.refl _ _) _)) (fun hHeld => ?_)
  refine wpAnyH_take (i := 0) (oi := { dst := some 31, op := Op.move (Operand.tmp 0), type := 49, pos := "law.go:83", after := #[], guard := none }) (v := ?vr0) rfl (by kernel_rfl) (by kernel_rfl) (by kernel_rfl) (fun _ _ _ h => h) (Or.inl ⟨by rfl, ?yr0⟩) (by assumption) ?rr0
  case yr0 => (intro w' hSw; (try dsimp only at hSw); go_simp; try with_reducible rfl)
  try simp only [Act.put, List.setIfInBounds_toArray, List.set_cons_zero, List.set_cons_succ]
  refine wpAnyH_take (i := 2) (oi := { dst := some 33, op := Op.load 36 (Operand.tmp 4), type := 36, pos := "law.go:83", after := #[], guard := none }) (v := ?vr2) rfl (by kernel_rfl) (by kernel_rfl) (by kernel_rfl) (fun _ _ _ h => h) (Or.inl ⟨by rfl, ?yr2⟩) (by assumption) ?rr2
  case yr2 => (intro w' hSw; (try dsimp only at hSw); go_simp; try with_reducible rfl)
  try simp only [Act.put, List.setIfInBounds_toArray, List.set_cons_zero, List.set_cons_succ]
  refine wpAnyH_ready (rs := [1]) (by kernel_rfl) (by simp) ?_
  refine AllReadyH.cons (o := { dst := some 32, op := Op.call { callee := Callee.value (Operand.func 29), args := #[Operand.tmp 31], argTypes := #[49] }, type := 32, pos := "law.go:83", after := #[{ on := 0, ground := Ground.data }], guard := none }) rfl (fun K hK => ?_) AllReadyH.nil
  go_simp
  go_at_call 29
  refine (CK.out _ (by first | exact Below.refl _ _ | exact (Below.refl _ _).drew | exact below_drewN (Below.refl _ _) _)).mono ?_
  rintro e wa ha
  obtain ⟨F1, rfl, hF1, ba0⟩ : ∃ F, e = .returned (.iface 89 (.pointer (some ⟨F, 0, none⟩))) ∧ FaultOf F bEntry i k wa ∧ Below W8.heap.size W8 wa := by
    rcases ha with ⟨ho, _⟩ | ⟨i', k', F, ho, he, _, hF, hb⟩
    · cases ho
    · cases ho
      exact ⟨F, he, hF, by first | exact hb | exact (Below.refl _ _).drew.trans hb | exact (below_drewN (Below.refl _ _) _).trans hb⟩
  have HBa := Lib.hid ba0
  have SA1 := Lib.hid (show SaidE l wa (.iface 89 (.pointer (some ⟨F1, 0, none⟩))) from .inr ⟨i, k, F1, HN.out, rfl, hF1⟩)
  clear ha ba0 hF1
  go_wp2_with fail
  refine hK.out _ _ (SS.out _ HBa.out) (fun hHeldr1 => ?_)
  clear hK K hHeld
  try simp only [Act.put, List.setIfInBounds_toArray, List.set_cons_zero, List.set_cons_succ]
  refine wpAnyH_ready (rs := [3]) (by kernel_rfl) (by simp) ?_
  refine AllReadyH.cons (o := { dst := some 34, op := Op.call { callee := Callee.value (Operand.func 10), args := #[Operand.tmp 32, Operand.tmp 33], argTypes := #[32, 36] }, type := 4, pos := "law.go:83", after := #[{ on := 1, ground := Ground.data }, { on := 2, ground := Ground.data }, { on := 1, ground := Ground.chain }], guard := none }) rfl (fun K hK => ?_) AllReadyH.nil
  go_simp
  go_at_call 10
  refine (tellsE _ l hl80 _ _ _ (HEX.out _ HBa.out) SA1.out (WX4.out _ HBa.out)).mono ?_
  rintro e wb ⟨rfl, bb0⟩
  have HBb : Hid (Below W8.heap.size W8 wb) := Lib.hid (HBa.out.trans (bb0.mono HBa.out.size))
  clear bb0
  go_wp2_with fail
  refine hK.out _ _ (SS.out _ HBb.out) (fun hHeldr3 => ?_)
  clear hK K hHeldr1
  try simp only [Act.put, List.setIfInBounds_toArray, List.set_cons_zero, List.set_cons_succ]
  refine wpAnyH_take (i := 4) (oi := { dst := some 35, op := Op.unOp UnOp.not 4 (Operand.tmp 34), type := 4, pos := "law.go:83", after := #[{ on := 3, ground := Ground.data }], guard := none }) (v := ?vr4) rfl (by kernel_rfl) (by kernel_rfl) (by kernel_rfl) (fun _ _ _ h => h) (Or.inl ⟨by rfl, ?yr4⟩) (by assumption) ?rr4
  case yr4 => (intro w' hSw; (try dsimp only at hSw); go_simp; try with_reducible rfl)
  try simp only [Act.put, List.setIfInBounds_toArray, List.set_cons_zero, List.set_cons_succ]
  refine wpAnyH_take (i := 5) (oi := { dst := some 36, op := Op.move (Operand.tmp 35), type := 4, pos := "law.go:83", after := #[{ on := 4, ground := Ground.data }, { on := 3, ground := Ground.chain }], guard := none }) (v := ?vr5) rfl (by kernel_rfl) (by kernel_rfl) (by kernel_rfl) (fun _ _ _ h => h) (Or.inl ⟨by rfl, ?yr5⟩) (by assumption) ?rr5
  case yr5 => (intro w' hSw; (try dsimp only at hSw); go_simp; try with_reducible rfl)
  try simp only [Act.put, List.setIfInBounds_toArray, List.set_cons_zero, List.set_cons_succ]
  refine wpAnyH_take (i := 6) (oi := { dst := some 37, op := Op.move (Operand.tmp 6), type := 32, pos := "law.go:83", after := #[{ on := 5, ground := Ground.guard }], guard := some (5, false) }) (v := ?vr6) rfl (by kernel_rfl) (by kernel_rfl) (by kernel_rfl) (fun _ _ _ h => h) (Or.inl ⟨by rfl, ?yr6⟩) (by assumption) ?rr6
  case yr6 => (intro w' hSw; (try dsimp only at hSw); go_simp; try with_reducible rfl)
  try simp only [Act.put, List.setIfInBounds_toArray, List.set_cons_zero, List.set_cons_succ]
  refine wpAnyH_take (i := 7) (oi := { dst := some 38, op := Op.load 36 (Operand.tmp 8), type := 36, pos := "law.go:83", after := #[{ on := 5, ground := Ground.guard }], guard := some (5, false) }) (v := ?vr7) rfl (by kernel_rfl) (by kernel_rfl) (by kernel_rfl) (fun _ _ _ h => h) (Or.inl ⟨by rfl, ?yr7⟩) (by assumption) ?rr7
  case yr7 => (intro w' hSw; (try dsimp only at hSw); go_simp; try with_reducible rfl)
  try simp only [Act.put, List.setIfInBounds_toArray, List.set_cons_zero, List.set_cons_succ]
  refine wpAnyH_ready (rs := [8]) (by kernel_rfl) (by simp) ?_
  refine AllReadyH.cons (o := { dst := some 39, op := Op.call { callee := Callee.value (Operand.func 10), args := #[Operand.tmp 37, Operand.tmp 38], argTypes := #[32, 36] }, type := 4, pos := "law.go:83", after := #[{ on := 6, ground := Ground.data }, { on := 7, ground := Ground.data }, { on := 5, ground := Ground.chain }, { on := 5, ground := Ground.guard }], guard := some (5, false) }) rfl (fun K hK => ?_) AllReadyH.nil
  go_simp
  go_at_call 10
  refine (tellsE _ l hl80 _ _ _ (HEX.out _ HBb.out) (SX6.out _ HBb.out) (WX8.out _ HBb.out)).mono ?_
  rintro e wc0 ⟨rfl, bc0⟩
  have HBc : Hid (Below W8.heap.size W8 wc0) := Lib.hid (HBb.out.trans (bc0.mono HBb.out.size))
  clear bc0
  go_wp2_with fail
  refine hK.out _ _ (SS.out _ HBc.out) (fun hHeldr8 => ?_)
  clear hK K hHeldr3
  try simp only [Act.put, List.setIfInBounds_toArray, List.set_cons_zero, List.set_cons_succ]
  refine wpAnyH_take (i := 9) (oi := { dst := some 40, op := Op.unOp UnOp.not 4 (Operand.tmp 39), type := 4, pos := "law.go:83", after := #[{ on := 8, ground := Ground.data }, { on := 5, ground := Ground.guard }], guard := some (5, false) }) (v := ?vr9) rfl (by kernel_rfl) (by kernel_rfl) (by kernel_rfl) (fun _ _ _ h => h) (Or.inl ⟨by rfl, ?yr9⟩) (by assumption) ?rr9
  case yr9 => (intro w' hSw; (try dsimp only at hSw); go_simp; try with_reducible rfl)
  try simp only [Act.put, List.setIfInBounds_toArray, List.set_cons_zero, List.set_cons_succ]
  refine wpAnyH_take (i := 10) (oi := { dst := some 41, op := Op.pick (Operand.tmp 36) (Operand.const (Value.bool true)) (Operand.tmp 40), type := 4, pos := "law.go:83", after := #[{ on := 5, ground := Ground.data }, { on := 9, ground := Ground.data }], guard := none }) (v := ?vr10) rfl (by kernel_rfl) (by kernel_rfl) (by kernel_rfl) (fun _ _ _ h => h) (Or.inl ⟨by rfl, ?yr10⟩) (by assumption) ?rr10
  case yr10 => (intro w' hSw; (try dsimp only at hSw); go_simp; try with_reducible rfl)
  try simp only [Act.put, List.setIfInBounds_toArray, List.set_cons_zero, List.set_cons_succ]
  refine wpAnyH_take (i := 11) (oi := { dst := some 42, op := Op.move (Operand.tmp 41), type := 4, pos := "law.go:83", after := #[{ on := 10, ground := Ground.data }, { on := 8, ground := Ground.chain }], guard := none }) (v := ?vr11) rfl (by kernel_rfl) (by kernel_rfl) (by kernel_rfl) (fun _ _ _ h => h) (Or.inl ⟨by rfl, ?yr11⟩) (by assumption) ?rr11
  case yr11 => (intro w' hSw; (try dsimp only at hSw); go_simp; try with_reducible rfl)
  try simp only [Act.put, List.setIfInBounds_toArray, List.set_cons_zero, List.set_cons_succ]
  refine wpAnyH_take (i := 12) (oi := { dst := some 43, op := Op.move (Operand.tmp 5), type := 54, pos := "law.go:83", after := #[{ on := 11, ground := Ground.guard }], guard := some (11, false) }) (v := ?vr12) rfl (by kernel_rfl) (by kernel_rfl) (by kernel_rfl) (fun _ _ _ h => h) (Or.inl ⟨by rfl, ?yr12⟩) (by assumption) ?rr12
  case yr12 => (intro w' hSw; (try dsimp only at hSw); go_simp; try with_reducible rfl)
  try simp only [Act.put, List.setIfInBounds_toArray, List.set_cons_zero, List.set_cons_succ]
  refine wpAnyH_take (i := 14) (oi := { dst := some 45, op := Op.move (Operand.tmp 7), type := 54, pos := "law.go:83", after := #[{ on := 11, ground := Ground.guard }], guard := some (11, false) }) (v := ?vr14) rfl (by kernel_rfl) (by kernel_rfl) (by kernel_rfl) (fun _ _ _ h => h) (Or.inl ⟨by rfl, ?yr14⟩) (by assumption) ?rr14
  case yr14 => (intro w' hSw; (try dsimp only at hSw); go_simp; try with_reducible rfl)
  try simp only [Act.put, List.setIfInBounds_toArray, List.set_cons_zero, List.set_cons_succ]
  refine wpAnyH_take (i := 13) (oi := { dst := some 44, op := Op.convert 54 9 (Operand.tmp 43), type := 9, pos := "law.go:83", after := #[{ on := 12, ground := Ground.data }, { on := 11, ground := Ground.guard }], guard := some (11, false) }) (v := ?vr13) rfl (by kernel_rfl) (by kernel_rfl) (by kernel_rfl) (fun _ _ _ h => h) (Or.inl ⟨by rfl, ?yr13⟩) (by assumption) ?rr13
  case yr13 => (intro w' hSw; (try dsimp only at hSw); go_simp; try with_reducible rfl)
  try simp only [Act.put, List.setIfInBounds_toArray, List.set_cons_zero, List.set_cons_succ]
  refine wpAnyH_take (i := 15) (oi := { dst := some 46, op := Op.convert 54 9 (Operand.tmp 45), type := 9, pos := "law.go:83", after := #[{ on := 14, ground := Ground.data }, { on := 11, ground := Ground.guard }], guard := some (11, false) }) (v := ?vr15) rfl (by kernel_rfl) (by kernel_rfl) (by kernel_rfl) (fun _ _ _ h => h) (Or.inl ⟨by rfl, ?yr15⟩) (by assumption) ?rr15
  case yr15 => (intro w' hSw; (try dsimp only at hSw); go_simp; try with_reducible rfl)
  try simp only [Act.put, List.setIfInBounds_toArray, List.set_cons_zero, List.set_cons_succ]
  refine wpAnyH_take (i := 16) (oi := { dst := some 47, op := Op.binOp BinOp.neq 9 (Operand.tmp 44) (Operand.tmp 46) 9, type := 4, pos := "law.go:83", after := #[{ on := 13, ground := Ground.data }, { on := 15, ground := Ground.data }, { on := 11, ground := Ground.guard }], guard := some (11, false) }) (v := ?vr16) rfl (by kernel_rfl) (by kernel_rfl) (by kernel_rfl) (fun _ _ _ h => h) (Or.inl ⟨by rfl, ?yr16⟩) (by assumption) ?rr16
  case yr16 => (intro w' hSw; (try dsimp only at hSw); go_simp; try with_reducible rfl)
  try simp only [Act.put, List.setIfInBounds_toArray, List.set_cons_zero, List.set_cons_succ]
  refine wpAnyH_take (i := 17) (oi := { dst := some 48, op := Op.pick (Operand.tmp 42) (Operand.const (Value.bool true)) (Operand.tmp 47), type := 4, pos := "law.go:83", after := #[{ on := 11, ground := Ground.data }, { on := 16, ground := Ground.data }], guard := none }) (v := ?vr17) rfl (by kernel_rfl) (by kernel_rfl) (by kernel_rfl) (fun _ _ _ h => h) (Or.inl ⟨by rfl, ?yr17⟩) (by assumption) ?rr17
  case yr17 => (intro w' hSw; (try dsimp only at hSw); go_simp; try with_reducible rfl)
  try simp only [Act.put, List.setIfInBounds_toArray, List.set_cons_zero, List.set_cons_succ]
  refine wpAnyH_done (by kernel_rfl) ?_ _
  have c40 := (K4X.out _ HBc.out).cell 0
  have c41 := (K4X.out _ HBc.out).cell 1
  have k4l := (K4X.out _ HBc.out).lt
  have hkb : (k != 0) = true := by simpa using hk0.out
  have BF := Lib.hid (SX.out _ HBc.out)
  go_wp2_with fail
  go_ret
  exact ⟨rfl, by first | exact BF.out | exact BF.out.drew | exact below_drewN BF.out _⟩

/-- IndexAny is true. -/
theorem any15_walk (W : World) (hE : ErrType W) (hh : Halves W) (v : Value) (l : List En) (rd : Reads 6 cE W v l ∧ ∀ x ∈ l, In64i x.2.1 ∧ In64i x.2.2.1 ∧ In64i x.2.2.2.2.1 ∧ In64i x.2.2.2.2.2) :
    Calls Tryz.prog 4 #[v] W (YesTo W) := by
  cases hc : chkE l with
  | none => exact any_good W hh v l rd.1 rd.2 hc
  | some ik => exact any_bad W hE hh v l rd.1 ik.1 ik.2 hc
end Go.Proofs.YtplleaimmmanhaaGreatDoor
namespace Go.Proofs.YtplleaimmmanhaaGreatDoor
open Go.ChangeShapes Go.WideShapes Go.ChangeAt Go.RowKit Go.Deep Go.Joins

theorem in64_wf {n : Int} (h : (Lit.int .i64 n).wf = true) : In64i n := by
  simp [Lit.wf, IntKind.min, IntKind.max, IntKind.signed, IntKind.bits] at h
  exact ⟨by omega, by omega⟩
set_option maxRecDepth 100000 in
theorem ents_in_trod {H : Type} {enc : TypeId × Value → H} {W : World} {base : Nat} {v : Value} {d : DataW H} {p : List MemPlace} (hv : Value.okWide Tryz.prog W .any base 49 v) (h : DataW.Trod enc Tryz.prog W 0 (fun _ => true) true 49 v d p) :
    ∃ l : List En, Reads 6 cE W v l ∧ ∀ x ∈ l, In64i x.2.1 ∧ In64i x.2.2.1 ∧ In64i x.2.2.2.2.1 ∧ In64i x.2.2.2.2.2 := by
  obtain ⟨A, n, c, rfl⟩ := okWide_slice Tryz.underlying49 hv
  obtain ⟨fuel, hf⟩ := h
  rcases open_slice Tryz.underlying49 hf with ⟨hcs, _⟩ | ⟨a, n', c', m, n1, D, Pl, hcs, _, hl, hm, hmm, _, hi⟩
  · simp [Value.cells] at hcs
    obtain ⟨rfl, rfl, rfl⟩ := hcs
    exact ⟨[], Reads.nil W, fun x hx => by cases hx⟩
  · simp [Value.cells] at hcs
    obtain ⟨rfl, rfl, rfl⟩ := hcs
    have each : ∀ i, i < n → ∃ x : En, (∀ (j : Nat) (u : Value), (cE x)[j]? = some u → W.cell? (adr a i 6 j) = some u) ∧ In64i x.2.1 ∧ In64i x.2.2.1 ∧ In64i x.2.2.2.2.1 ∧ In64i x.2.2.2.2.2 := fun i hin => by
      obtain ⟨cs', hc, ht⟩ := hi i (by rw [hmm]; split <;> omega)
      rw [Tryz.cellsEn] at hc
      obtain ⟨_, hcl, hat⟩ := World.cells?_some hc
      obtain ⟨y0, y1, y2, y3, y4, y5, n2, _, h0, h1, h2, h3, h4, h5⟩ := trod_struct6 Tryz.underlying71 ht
      match cs', hcl with
      | [u0, u1, u2, u3, u4, u5], _ =>
        obtain ⟨s0, hs0, _, _⟩ := DataW.trod_string Tryz.underlying9 h0
        obtain ⟨N1, hN1, _, wf1⟩ := DataW.trod_int Tryz.underlying3 h1
        obtain ⟨N2, hN2, _, wf2⟩ := DataW.trod_int Tryz.underlying3 h2
        obtain ⟨s3, hs3, _, _⟩ := DataW.trod_string Tryz.underlying9 h3
        obtain ⟨N4, hN4, _, wf4⟩ := DataW.trod_int Tryz.underlying3 h4
        obtain ⟨N5, hN5, _, wf5⟩ := DataW.trod_int Tryz.underlying3 h5
        have c3 : Tryz.prog.cellsOf 3 = 1 := by kernel_rfl
        have c9 : Tryz.prog.cellsOf 9 = 1 := by kernel_rfl
        rw [show Tryz.prog.cellsOf 9 = 1 from c9] at hs0 hs3
        rw [show Tryz.prog.cellsOf 3 = 1 from c3] at hN1 hN2 hN4 hN5
        have e0 : u0 = .string s0 := by simpa using hs0
        have e1 : u1 = .int .i64 N1 := by simpa using hN1
        have e2 : u2 = .int .i64 N2 := by simpa using hN2
        have e3 : u3 = .string s3 := by simpa using hs3
        have e4 : u4 = .int .i64 N4 := by simpa using hN4
        have e5 : u5 = .int .i64 N5 := by simpa using hN5
        subst e0; subst e1; subst e2; subst e3; subst e4; subst e5
        refine ⟨(s0, N1, N2, s3, N4, N5), fun j u hu => ?_, in64_wf wf1, in64_wf wf2, in64_wf wf4, in64_wf wf5⟩
        match j, hu with
        | 0, hu => simp [cE] at hu; subst hu; exact hat 0 (by omega)
        | 1, hu => simp [cE] at hu; subst hu; exact hat 1 (by omega)
        | 2, hu => simp [cE] at hu; subst hu; exact hat 2 (by omega)
        | 3, hu => simp [cE] at hu; subst hu; exact hat 3 (by omega)
        | 4, hu => simp [cE] at hu; subst hu; exact hat 4 (by omega)
        | 5, hu => simp [cE] at hu; subst hu; exact hat 5 (by omega)
        | j + 6, hu => simp [cE] at hu
    obtain ⟨l, hll, hp⟩ := list_of n each
    refine ⟨l, ⟨some a, c, by rw [hll], by omega, hm, (fun e => by cases e), fun ad ha i x hx j u hu => by
      obtain rfl := Option.some.inj ha
      exact (hp i x hx).1 j u hu⟩, fun x hx => ?_⟩
    obtain ⟨i, hi, rfl⟩ := List.getElem_of_mem hx
    exact (hp i _ (List.getElem?_eq_getElem hi)).2
end Go.Proofs.YtplleaimmmanhaaGreatDoor
