/-
  The document's decimal numeral: Decimal n is strconv's numeral, for every int.
  A Fault's Error at any number: strconv's numeral with its table.
  Tells, at any part, any number, any Errno (the table of powers of ten listed).
  TodoTexts: any text as steps, or the first line that is none, and why.
  todo.Text: steps in words, any commits (the table of powers of ten listed).
  rectoref17.Text: steps in words.
  Steps in words, read again, are those steps: the plain theory.
-/
import Derived.Test.YtanjcjnkppnhcaaGreatDoorKMem
import Derived.ShutString
import Derived.Lib.ItoaMem
import Derived.Lib.ItoaLen
import Derived.Test.YtanjcjnkppnhcaaGreatDoorTSays
import Derived.Test.YtanjcjnkppnhcaaGreatDoorShelfT
import Derived.Deep.RegionHeld3
import Derived.Test.YtanjcjnkppnhcaaGreatDoorTTold
import Derived.Test.YtanjcjnkppnhcaaGreatDoorZ0
import Derived.Test.YtanjcjnkppnhcaaGreatDoorTdJ
import Derived.Test.YtanjcjnkppnhcaaGreatDoorTdL
import Derived.Test.YtanjcjnkppnhcaaGreatDoorTdK

namespace Go.Proofs.YtanjcjnkppnhcaaGreatDoor
open Go Go.RowKit

/-- The digits of a number but the last. -/
def preD (m : Nat) : List UInt8 := if m < 10 then [] else Lib.decDigits (m / 10)
theorem preD_digits (m : Nat) : Lib.decDigits m = preD m ++ [UInt8.ofNat (48 + m % 10)] := by
  unfold preD
  rw [Lib.decDigits]
  by_cases h : m < 10
  · rw [dif_pos h, if_pos h, Nat.mod_eq_of_lt h]; rfl
  · rw [dif_neg h, if_neg h]
theorem preD_step {m : Nat} (h : ¬ m < 10) : preD m = preD (m / 10) ++ [UInt8.ofNat (48 + m / 10 % 10)] := by
  rw [← preD_digits]
  unfold preD
  rw [if_neg h]
/-- A number's numeral as a string. -/
def numB (n : Int) : ByteArray := ⟨(Lib.itoa n).toArray⟩
theorem numB_nat (m : Nat) : numB (m : Int) = ⟨(Lib.decDigits m).toArray⟩ := by unfold numB; rw [Lib.itoa_nonneg]
theorem numB_size {n : Int} (h0 : -9223372036854775808 ≤ n) (h1 : n ≤ 9223372036854775807) : (numB n).size ≤ 21 := by
  have := Lib.itoa_length_le n h0 h1
  unfold numB
  simpa [ByteArray.size] using this
/-- A number's last digit, alone. -/
def digO (q : Nat) : ByteArray := ⟨#[UInt8.ofNat (48 + q % 10)]⟩
theorem sum_num (a b : ByteArray) (h : a.size + b.size ≤ 9223372036854775807) : ∃ s, s = a ++ b ∧ s.size = a.size + b.size ∧ ∀ w, (Op.stringOp .add a b).run Tryz.prog w = .ok (.string s) w := ⟨_, rfl, ByteArray.size_append, fun w => run_string_add_sum w a b h⟩
theorem one_digitD (W : World) (g : Nat) (x : Int) (h1 : 48 ≤ x) (h2 : x ≤ 57) (hc : W.cell? ⟨g, 0, none⟩ = some (.int .u8 x)) : (convert 94 9 (.slice (some ⟨g, 0, none⟩) 1 1)).run Tryz.prog W = .ok (.string ⟨#[UInt8.ofNat x.toNat]⟩) W := by
  have := run_convert_bytes_back (P := Tryz.prog) W 94 9 5 ⟨g, 0, none⟩ 1 [UInt8.ofNat x.toNat] Tryz.underlying94 Tryz.underlying5 Tryz.underlying9 (fun j hj => by
    obtain rfl : j = 0 := by simpa using hj
    simp [Addr.add, hc]
    omega)
  exact this

attribute [-go_sem] run_string_add_if
set_option maxRecDepth 100000 in
set_option maxHeartbeats 4000000 in
theorem refDecimal_nat (m : Nat) (hm : m ≤ 9223372036854775807) (w : World) :
    Calls Tryz.prog 48 #[.int .i64 m] w fun e w' => e = .returned (.string (numB (m : Int))) ∧ Below w.heap.size w w' := by
  have m0 : (0 : Int) ≤ (m : Int) := Int.natCast_nonneg _
  have m1 : (m : Int) ≤ 9223372036854775807 := by omega
  have cv : ∀ (W : World) (q : Nat), (convert 94 9 (.slice (some ⟨W.heap.size, 0, none⟩) 1 1)).run Tryz.prog (W.alloc (.cells #[.int .u8 (48 + (q : Int) % 10)] 5)) = .ok (.string (digO q)) (W.alloc (.cells #[.int .u8 (48 + (q : Int) % 10)] 5)) := fun W q => by
    have := one_digitD (W.alloc (.cells #[.int .u8 (48 + (q : Int) % 10)] 5)) W.heap.size (48 + (q : Int) % 10) (by omega) (by omega) (by simp)
    rw [show (48 + (q : Int) % 10).toNat = 48 + q % 10 by omega] at this
    exact this
  have cv0 := cv w m
  have E0 := Lib.hid (preD_digits m)
  go_enter Tryz.func48, Tryz.ntmps48
  go_wp2_with fail
  go_loopw [0, 3] (fun s0 s3 wr => ∃ (q : Nat) (s : ByteArray), s0 = .int .i64 q ∧ s3 = .string s ∧ q ≤ m ∧ Hid (s.size ≤ 9223372036854775807) ∧ Hid (Lib.decDigits m = preD q ++ s.data.toList) ∧ Hid (Below w.heap.size w wr)) (fun s0 _ _ => (intOf s0).toNat)
  case atStart => exact ⟨m, _, rfl, rfl, Nat.le_refl _, Lib.hid (by show 1 ≤ 9223372036854775807; decide), Lib.hid E0.out, Lib.hid ((Below.refl _ _).alloc (Nat.le_refl _) _)⟩
  case round =>
    clear cv0 E0
    obtain ⟨q, s, rfl, rfl, hq, HS, HD, HB⟩ := hrel
    have q0 : (0 : Int) ≤ (q : Int) := Int.natCast_nonneg _
    have q1 : (q : Int) ≤ 9223372036854775807 := by omega
    by_cases h10 : q < 10
    · have h10i : (q : Int) < 10 := by omega
      have h10n : ¬ (10 : Int) ≤ (q : Int) := by omega
      go_wp2
      go_ret
      refine ⟨?_, HB.out⟩
      have := HD.out
      unfold preD at this
      rw [if_pos h10, List.nil_append] at this
      rw [numB_nat, this]
      rfl
    · have h10i : (10 : Int) ≤ (q : Int) := by omega
      have hsz : s.size ≤ 20 := by
        have h1 := congrArg List.length HD.out
        rw [← Lib.itoa_nonneg] at h1
        have h2 := Lib.itoa_length_le (m : Int) (by omega) m1
        rw [List.length_append] at h1
        have h3 : 1 ≤ (preD q).length := by
          unfold preD; rw [if_neg h10, Lib.decDigits_length]; exact Lib.nDigits_pos _
        have h4 : s.data.toList.length = s.size := rfl
        omega
      obtain ⟨d, hd⟩ : ∃ d : Nat, d = q / 10 := ⟨_, rfl⟩
      have hdi : (q : Int) / 10 = (d : Int) := by omega
      have HDD := Lib.hid hd
      have cvd := cv wr d
      obtain ⟨t, ht, hz, hr⟩ := sum_num (digO d) s (by show 1 + s.size ≤ _; omega)
      have HT := Lib.hid ht
      have HZ := Lib.hid (show t.size ≤ 9223372036854775807 by rw [hz]; show 1 + s.size ≤ _; omega)
      clear ht hz hd
      go_wp2_with fail
      go_roundw
      case rel => exact ⟨d, t, by go_num, rfl, by have := HDD.out; omega, HZ, Lib.hid (by rw [HD.out, preD_step h10, ← HDD.out, HT.out]; simp [digO]), Lib.hid (HB.out.alloc HB.out.size _)⟩
      case measure => have := HDD.out; simp [intOf]; omega
theorem refDecimal_all (n : Int) (h0 : -9223372036854775808 ≤ n) (h1 : n ≤ 9223372036854775807) (w : World) :
    Calls Tryz.prog 48 #[.int .i64 n] w fun e w' => e = .returned (.string (numB n)) ∧ Below w.heap.size w w' := by
  by_cases hn : 0 ≤ n
  · obtain ⟨m, rfl⟩ : ∃ m : Nat, n = (m : Int) := ⟨n.toNat, by omega⟩
    exact refDecimal_nat m (by omega) w
  have hni : n < 0 := by omega
  by_cases hm : n = -9223372036854775808
  · subst hm
    go_enter Tryz.func48, Tryz.ntmps48
    go_wp2
    go_ret
    exact ⟨congrArg (fun x => Ending.returned (.string x)) (show _ = numB (-9223372036854775808) by decide +kernel), Below.refl _ _⟩
  obtain ⟨m, hm2⟩ : ∃ m : Nat, -n = (m : Int) := ⟨(-n).toNat, by omega⟩
  have HN : Hid (n = -(m : Int)) := Lib.hid (by omega)
  have REC := Lib.hid (refDecimal_nat m (by omega) w)
  have h0m : (0 : Int) - n = (m : Int) := by omega
  have hwr : IntKind.i64.wrap ((0 : Int) - n) = (m : Int) := by rw [IntKind.wrap_i64] <;> omega
  have hne : (n == -9223372036854775808) = false := by simpa using hm
  have hs := numB_size (n := (m : Int)) (by omega) (by omega)
  obtain ⟨t, ht, hz, hr⟩ := sum_num ⟨#[45]⟩ (numB (m : Int)) (by show 1 + _ ≤ _; omega)
  have HT : Hid (t = numB n) := Lib.hid (by
    rw [ht, HN.out, numB_nat]
    unfold numB
    rw [Lib.itoa_neg _ (by omega)]
    apply ByteArray.ext
    simp)
  have hm1 : (m : Int) ≤ 9223372036854775807 := by omega
  clear ht hz hm hm2 hs
  go_enter Tryz.func48, Tryz.ntmps48
  go_wp2_with fail
  refine REC.out.mono ?_
  rintro e w1 ⟨rfl, hb1⟩
  go_wp2_with fail
  go_ret
  exact ⟨by rw [HT.out]; rfl, hb1⟩
#print axioms refDecimal_all
end Go.Proofs.YtanjcjnkppnhcaaGreatDoor

namespace Go.Proofs.YtanjcjnkppnhcaaGreatDoor
open Go Go.RowKit

/-- The listed table of powers of ten. -/
abbrev PowTab (w : World) : Prop := Lib.TabIs Tryz.prog w "internal/strconv.uint64pow10" .u64 Lib.pow10Tab
theorem tabIs_below {P : Program} {w w' : World} {name : String} {k : IntKind} {zs : List Int} (h : Lib.TabIs P w name k zs) (hb : Below w.heap.size w w') : Lib.TabIs P w' name k zs := by
  unfold Lib.TabIs World.var? at *
  cases hg : P.globalNamed name with
  | none => simp [hg] at h
  | some g =>
    simp only [hg, Option.bind_some] at h ⊢
    have hlt : g < w.heap.size := by
      rcases Nat.lt_or_ge g w.heap.size with h' | h'
      · exact h'
      · rw [Array.getElem?_eq_none h'] at h; simp at h
    rw [hb.block g hlt]
    exact h
theorem below_grow (w : World) (k : Nat) (os : Array Obj) : Below w.heap.size w (Go.Sort.grow (w.drewN k) os) := by
  refine ⟨rfl, rfl, rfl, ?_, fun j hj => ?_⟩
  · show w.heap.size ≤ (w.heap ++ os).size
    simp
  · show (w.heap ++ os)[j]? = w.heap[j]?
    rw [Array.getElem?_append_left hj]
theorem itoa_all (n : Int) (h0 : -9223372036854775808 ≤ n) (h1 : n ≤ 9223372036854775807) (w : World) (ht : PowTab w) :
    Calls Tryz.prog 46 #[.int .i64 n] w fun e w' => e = .returned (.string (numB n)) ∧ Below w.heap.size w w' := by
  refine (Tryz.strconv_Itoa n h0 h1 w ht).mono ?_
  rintro e w' ⟨rfl, k, os, rfl⟩
  exact ⟨rfl, below_grow _ _ _⟩

structure FG (w0 w : World) (F : Nat) (p : ByteArray) (n e : Int) : Prop where
  fault : Blk w F 78 #[.string p, .int .i64 n, .iface 73 (.int .i64 e)]
  tab : PowTab w
  bel : Below w0.heap.size w0 w
theorem FG.below {w0 w w' : World} {F : Nat} {p : ByteArray} {n e : Int} (h : FG w0 w F p n e) (hb : Below w.heap.size w w') : FG w0 w' F p n e :=
  ⟨h.fault.below hb h.fault.lt, tabIs_below h.tab hb, h.bel.trans (hb.mono h.bel.size)⟩
theorem FG.draws {w0 w : World} {F : Nat} {p : ByteArray} {n e : Int} (h : FG w0 w F p n e) (k : Nat) : FG w0 (w.drewN k) F p n e := h.below (below_drewN (Below.refl _ w) k)
theorem FG.cells {w0 w : World} {F : Nat} {p : ByteArray} {n e : Int} (h : FG w0 w F p n e) : w.cell? ⟨F, 0, none⟩ = some (.string p) ∧ w.cell? ⟨F, 1, none⟩ = some (.int .i64 n) ∧ w.cell? ⟨F, 2, none⟩ = some (.iface 73 (.int .i64 e)) := ⟨h.fault.cell 0, h.fault.cell 1, h.fault.cell 2⟩

attribute [-go_sem] run_string_add_if
set_option maxRecDepth 100000 in
set_option maxHeartbeats 4000000 in
theorem fault_all (w : World) (F : Nat) (p : ByteArray) (n e : Int) (hF : Blk w F 78 #[.string p, .int .i64 n, .iface 73 (.int .i64 e)]) (hp : p.size ≤ 1000) (h0 : -9223372036854775808 ≤ n) (h1 : n ≤ 9223372036854775807) (he : To14 e) (ht : PowTab w) :
    Calls Tryz.prog 181 #[.pointer (some ⟨F, 0, none⟩)] w fun x w' => x = .returned (.string (fwG p (numB n) (ew e))) ∧ Below w.heap.size w w' := by
  have T0 : Hid (FG w w F p n e) := Lib.hid ⟨hF, ht, Below.refl _ _⟩
  have T0d : Hid (FG w w.drew F p n e) := Lib.hid (T0.out.draws 1)
  have c0 := hF.cell 0
  have c1 := hF.cell 1
  have c2 := hF.cell 2
  have hFl := hF.lt
  have mE := invokeErrno
  have nE := nilErrno
  have IT := Lib.hid fun W (h : FG w W F p n e) => itoa_all n h0 h1 W h.tab
  have SH := Lib.hid fun W => errno_any e he W
  have hes := ew_size he
  have hd := numB_size h0 h1
  obtain ⟨s1, hs1, hz1, hr1⟩ := sum_named p ⟨#[32]⟩ (by rw [size32]; omega)
  rw [size32] at hz1
  obtain ⟨s2, hs2, hz2, hr2⟩ := sum_named s1 (numB n) (by omega)
  obtain ⟨s3, hs3, hz3, hr3⟩ := sum_named s2 ⟨#[58, 32]⟩ (by rw [size58]; omega)
  rw [size58] at hz3
  obtain ⟨s4, hs4, hz4, hr4⟩ := sum_named s3 (ew e) (by omega)
  have HS : Hid (s4 = fwG p (numB n) (ew e)) := Lib.hid (by rw [hs4, hs3, hs2, hs1]; rfl)
  clear hF hs1 hs2 hs3 hs4 hz1 hz2 hz3 hz4 he ht h0 h1
  obtain ⟨s, hs⟩ : ∃ s, s = ew e := ⟨_, rfl⟩
  rw [← hs] at SH hr4 hes HS
  rw [← hs]
  clear hs
  obtain ⟨D, hD⟩ : ∃ D, D = numB n := ⟨_, rfl⟩
  rw [← hD] at IT hr2 HS hd
  rw [← hD]
  clear hD
  go_enter Tryz.func181, Tryz.ntmps181
  go_wp2_with fail
  go_region_held3 (fun w' => w'.cell? ⟨F, 0, none⟩ = some (.string p) ∧ w'.cell? ⟨F, 1, none⟩ = some (.int .i64 n) ∧ w'.cell? ⟨F, 2, none⟩ = some (.iface 73 (.int .i64 e))) (first | exact T0d.out.cells | exact T1.out.cells) (first | (go_at_call 46; refine (IT.out _ T0d.out).mono ?_; rintro x w1 ⟨rfl, hb1⟩; have T1 := Lib.hid (T0d.out.below hb1)) | (go_at_call 180; refine (SH.out _).mono ?_; rintro x w2 ⟨rfl, rfl⟩))
  all_goals go_wp2_with fail
  all_goals go_ret
  all_goals exact ⟨by rw [HS.out]; rfl, T1.out.bel⟩
#print axioms fault_all
end Go.Proofs.YtanjcjnkppnhcaaGreatDoor

namespace Go.Proofs.YtanjcjnkppnhcaaGreatDoor
open Go Go.RowKit

structure TA (w0 w : World) (F g : Nat) (p : ByteArray) (n e : Int) : Prop where
  box : Blk w w0.heap.size 31 #[.slice (some ⟨g, 0, none⟩) 1 1, .int .i64 e]
  part : Blk w g 91 #[.string p, .int .i64 n]
  fault : Blk w F 78 #[.string p, .int .i64 n, .iface 73 (.int .i64 e)]
  err : ErrType w
  tab : PowTab w
  bel : Below w0.heap.size w0 w
theorem TA.below {w0 w w' : World} {F g : Nat} {p : ByteArray} {n e : Int} (h : TA w0 w F g p n e) (hb : Below w.heap.size w w') : TA w0 w' F g p n e :=
  ⟨h.box.below hb h.box.lt, h.part.below hb h.part.lt, h.fault.below hb h.fault.lt, h.err.below hb, tabIs_below h.tab hb, h.bel.trans (hb.mono h.bel.size)⟩
theorem TA.draws {w0 w : World} {F g : Nat} {p : ByteArray} {n e : Int} (h : TA w0 w F g p n e) (k : Nat) : TA w0 (w.drewN k) F g p n e := h.below (below_drewN (Below.refl _ w) k)
theorem TA.cells {w0 w : World} {F g : Nat} {p : ByteArray} {n e : Int} (h : TA w0 w F g p n e) : w.cell? ⟨w0.heap.size, 0, none⟩ = some (.slice (some ⟨g, 0, none⟩) 1 1) ∧ w.cell? ⟨w0.heap.size, 1, none⟩ = some (.int .i64 e) := ⟨h.box.cell 0, h.box.cell 1⟩

set_option maxRecDepth 100000 in
set_option maxHeartbeats 4000000 in
theorem tells_all (w : World) (F g : Nat) (p : ByteArray) (n e : Int) (hF : Blk w F 78 #[.string p, .int .i64 n, .iface 73 (.int .i64 e)]) (hg : Blk w g 91 #[.string p, .int .i64 n]) (hp : p.size ≤ 1000) (h0 : -9223372036854775808 ≤ n) (h1 : n ≤ 9223372036854775807) (he : To14 e) (hE : ErrType w) (ht : PowTab w) :
    Calls Tryz.prog 11 #[.iface 76 (.pointer (some ⟨F, 0, none⟩)), wrongG g e] w fun x w' => x = .returned (.bool true) ∧ Below w.heap.size w w' := by
  have hb0 := (Below.refl w.heap.size w).alloc (Nat.le_refl _) (.cells #[.slice (some ⟨g, 0, none⟩) 1 1, .int .i64 e] 31)
  have T0 := Lib.hid (TA.mk (w0 := w) (heap_alloc_new w (.cells #[.slice (some ⟨g, 0, none⟩) 1 1, .int .i64 e] 31)) (Blk.below hg hb0 (Blk.lt hg)) (hF.below hb0 hF.lt) (hE.below hb0) (tabIs_below ht hb0) hb0)
  have T0d : Hid (TA w (w.alloc (.cells #[.slice (some ⟨g, 0, none⟩) 1 1, .int .i64 e] 31)).drew F g p n e) := Lib.hid (T0.out.draws 1)
  have ER := Lib.hid fun W (h : Blk W F 78 #[.string p, .int .i64 n, .iface 73 (.int .i64 e)]) (h2 : PowTab W) => fault_all W F p n e h hp h0 h1 he h2
  have WO := Lib.hid fun W (h : Blk W g 91 #[.string p, .int .i64 n]) => words_says W g p (numB n) n e h hp (Nat.le_trans (numB_size h0 h1) (by decide)) he (fun W => refDecimal_all n h0 h1 W)
  have IS := Lib.hid fun W (h : Blk W F 78 #[.string p, .int .i64 n, .iface 73 (.int .i64 e)]) => is_hit F e W (h.cell 2) (eqlE_any he)
  have AS := Lib.hid fun W t => as_fault F t W
  have mF := invokeFault
  have nF := nilF
  have c0 := T0.out.box.cell 0
  have c1 := T0.out.box.cell 1
  have hne0 : (e == 0) = false := by
    have h1 : ¬ e = 0 := by unfold To14 at he; omega
    simpa using h1
  obtain ⟨s, hs⟩ : ∃ s, s = fwG p (numB n) (ew e) := ⟨_, rfl⟩
  rw [← hs] at ER WO
  clear hs hF hg hE hb0 ht hp he h0 h1
  go_enter Tryz.func11, Tryz.ntmps11
  go_wp2_with fail
  refine wp_region_held_drew (S := fun w' => w'.cell? ⟨w.heap.size, 0, none⟩ = some (.slice (some ⟨g, 0, none⟩) 1 1) ∧ w'.cell? ⟨w.heap.size, 1, none⟩ = some (.int .i64 e)) (by kernel_rfl) (T0d.out.cells) (fun hHeld => ?_)
  refine wpAnyH_take (i := 0) (oi := { dst := some 11, op := Op.move (Operand.tmp 0), type := 25, pos := "law.go:25", after := #[], guard := none }) (v := ?vt0) rfl (by kernel_rfl) (by kernel_rfl) (by kernel_rfl) (fun _ _ _ h => h) (Or.inl ⟨by rfl, ?yt0⟩) (by assumption) ?rt0
  case yt0 => (intro w' hSw; (try dsimp only at hSw); go_simp; try with_reducible rfl)
  try simp only [Act.put, List.setIfInBounds_toArray, List.set_cons_zero, List.set_cons_succ]
  refine wpAnyH_take (i := 1) (oi := { dst := some 12, op := Op.binOp BinOp.eql 25 (Operand.tmp 11) (Operand.const Value.nilIface) 25, type := 4, pos := "law.go:25", after := #[{ on := 0, ground := Ground.data }], guard := none }) (v := ?vt1) rfl (by kernel_rfl) (by kernel_rfl) (by kernel_rfl) (fun _ _ _ h => h) (Or.inl ⟨by rfl, ?yt1⟩) (by assumption) ?rt1
  case yt1 => (intro w' hSw; (try dsimp only at hSw); go_simp; try with_reducible rfl)
  try simp only [Act.put, List.setIfInBounds_toArray, List.set_cons_zero, List.set_cons_succ]
  refine wpAnyH_take (i := 2) (oi := { dst := some 13, op := Op.move (Operand.tmp 12), type := 4, pos := "law.go:25", after := #[{ on := 1, ground := Ground.data }], guard := none }) (v := ?vt2) rfl (by kernel_rfl) (by kernel_rfl) (by kernel_rfl) (fun _ _ _ h => h) (Or.inl ⟨by rfl, ?yt2⟩) (by assumption) ?rt2
  case yt2 => (intro w' hSw; (try dsimp only at hSw); go_simp; try with_reducible rfl)
  try simp only [Act.put, List.setIfInBounds_toArray, List.set_cons_zero, List.set_cons_succ]
  refine wpAnyH_take (i := 3) (oi := { dst := some 14, op := Op.move (Operand.tmp 0), type := 25, pos := "law.go:25", after := #[{ on := 2, ground := Ground.guard }], guard := some (2, false) }) (v := ?vt3) rfl (by kernel_rfl) (by kernel_rfl) (by kernel_rfl) (fun _ _ _ h => h) (Or.inl ⟨by rfl, ?yt3⟩) (by assumption) ?rt3
  case yt3 => (intro w' hSw; (try dsimp only at hSw); go_simp; try with_reducible rfl)
  try simp only [Act.put, List.setIfInBounds_toArray, List.set_cons_zero, List.set_cons_succ]
  refine wpAnyH_take (i := 5) (oi := { dst := some 16, op := Op.load 31 (Operand.tmp 3), type := 31, pos := "law.go:25", after := #[{ on := 2, ground := Ground.guard }], guard := some (2, false) }) (v := ?vt5) rfl (by kernel_rfl) (by kernel_rfl) (by kernel_rfl) (fun _ _ _ h => h) (Or.inl ⟨by rfl, ?yt5⟩) (by assumption) ?rt5
  case yt5 => (intro w' hSw; (try dsimp only at hSw); go_simp; try with_reducible rfl)
  try simp only [Act.put, List.setIfInBounds_toArray, List.set_cons_zero, List.set_cons_succ]
  refine wpAnyH_ready (rs := [4]) (by kernel_rfl) (by simp) ?_
  refine AllReadyH.cons (o := { dst := some 15, op := Op.call { callee := Callee.invoke (Operand.tmp 14) "Error", args := #[], argTypes := #[] }, type := 9, pos := "law.go:25", after := #[{ on := 3, ground := Ground.data }, { on := 2, ground := Ground.chain }, { on := 2, ground := Ground.guard }], guard := some (2, false) }) rfl (fun K hK => ?_) AllReadyH.nil
  go_simp
  go_at_call 181
  refine (ER.out _ (TA.fault T0d.out) (TA.tab T0d.out)).mono ?_
  rintro x w1 ⟨rfl, hb1⟩
  have T1 := Lib.hid (T0d.out.below hb1)
  go_wp2_with fail
  refine hK.out _ _ (T1.out.cells) (fun hHeldt4 => ?_)
  clear hK K hHeld
  try simp only [Act.put, List.setIfInBounds_toArray, List.set_cons_zero, List.set_cons_succ]
  refine wpAnyH_ready (rs := [6]) (by kernel_rfl) (by simp) ?_
  refine AllReadyH.cons (o := { dst := some 17, op := Op.call { callee := Callee.value (Operand.func 41), args := #[Operand.tmp 16], argTypes := #[31] }, type := 9, pos := "law.go:25", after := #[{ on := 5, ground := Ground.data }, { on := 4, ground := Ground.chain }, { on := 2, ground := Ground.guard }], guard := some (2, false) }) rfl (fun K hK => ?_) AllReadyH.nil
  go_simp
  go_at_call 41
  refine (WO.out _ (TA.part T1.out)).mono ?_
  rintro x w2 ⟨rfl, hb2⟩
  have T2 := Lib.hid (T1.out.below hb2)
  go_wp2_with fail
  refine hK.out _ _ (T2.out.cells) (fun hHeldt6 => ?_)
  clear hK K hHeldt4
  try simp only [Act.put, List.setIfInBounds_toArray, List.set_cons_zero, List.set_cons_succ]
  refine wpAnyH_take (i := 7) (oi := { dst := some 18, op := Op.binOp BinOp.neq 9 (Operand.tmp 15) (Operand.tmp 17) 9, type := 4, pos := "law.go:25", after := #[{ on := 4, ground := Ground.data }, { on := 6, ground := Ground.data }, { on := 2, ground := Ground.guard }], guard := some (2, false) }) (v := ?vt7) rfl (by kernel_rfl) (by kernel_rfl) (by kernel_rfl) (fun _ _ _ h => h) (Or.inl ⟨by rfl, ?yt7⟩) (by assumption) ?rt7
  case yt7 => (intro w' hSw; (try dsimp only at hSw); go_simp; try with_reducible rfl)
  try simp only [Act.put, List.setIfInBounds_toArray, List.set_cons_zero, List.set_cons_succ]
  refine wpAnyH_take (i := 8) (oi := { dst := some 19, op := Op.pick (Operand.tmp 13) (Operand.const (Value.bool true)) (Operand.tmp 18), type := 4, pos := "law.go:25", after := #[{ on := 2, ground := Ground.data }, { on := 7, ground := Ground.data }], guard := none }) (v := ?vt8) rfl (by kernel_rfl) (by kernel_rfl) (by kernel_rfl) (fun _ _ _ h => h) (Or.inl ⟨by rfl, ?yt8⟩) (by assumption) ?rt8
  case yt8 => (intro w' hSw; (try dsimp only at hSw); go_simp; try with_reducible rfl)
  try simp only [Act.put, List.setIfInBounds_toArray, List.set_cons_zero, List.set_cons_succ]
  refine wpAnyH_take (i := 9) (oi := { dst := some 20, op := Op.move (Operand.tmp 19), type := 4, pos := "law.go:25", after := #[{ on := 8, ground := Ground.data }, { on := 6, ground := Ground.chain }], guard := none }) (v := ?vt9) rfl (by kernel_rfl) (by kernel_rfl) (by kernel_rfl) (fun _ _ _ h => h) (Or.inl ⟨by rfl, ?yt9⟩) (by assumption) ?rt9
  case yt9 => (intro w' hSw; (try dsimp only at hSw); go_simp; try with_reducible rfl)
  try simp only [Act.put, List.setIfInBounds_toArray, List.set_cons_zero, List.set_cons_succ]
  refine wpAnyH_take (i := 10) (oi := { dst := some 21, op := Op.move (Operand.tmp 0), type := 25, pos := "law.go:25", after := #[{ on := 9, ground := Ground.guard }], guard := some (9, false) }) (v := ?vt10) rfl (by kernel_rfl) (by kernel_rfl) (by kernel_rfl) (fun _ _ _ h => h) (Or.inl ⟨by rfl, ?yt10⟩) (by assumption) ?rt10
  case yt10 => (intro w' hSw; (try dsimp only at hSw); go_simp; try with_reducible rfl)
  try simp only [Act.put, List.setIfInBounds_toArray, List.set_cons_zero, List.set_cons_succ]
  refine wpAnyH_take (i := 11) (oi := { dst := some 22, op := Op.fieldAddr 31 (Operand.tmp 3) 1, type := 0, pos := "law.go:25", after := #[{ on := 9, ground := Ground.guard }], guard := some (9, false) }) (v := ?vt11) rfl (by kernel_rfl) (by kernel_rfl) (by kernel_rfl) (fun _ _ _ h => h) (Or.inl ⟨by rfl, ?yt11⟩) (by assumption) ?rt11
  case yt11 => (intro w' hSw; (try dsimp only at hSw); go_simp; try with_reducible rfl)
  try simp only [Act.put, List.setIfInBounds_toArray, List.set_cons_zero, List.set_cons_succ]
  refine wpAnyH_take (i := 12) (oi := { dst := some 23, op := Op.load 3 (Operand.tmp 22), type := 3, pos := "law.go:25", after := #[{ on := 11, ground := Ground.data }, { on := 9, ground := Ground.guard }], guard := some (9, false) }) (v := ?vt12) rfl (by kernel_rfl) (by kernel_rfl) (by kernel_rfl) (fun _ _ _ h => h) (Or.inl ⟨by rfl, ?yt12⟩) (by assumption) ?rt12
  case yt12 => (intro w' hSw; (try dsimp only at hSw); go_simp; try with_reducible rfl)
  try simp only [Act.put, List.setIfInBounds_toArray, List.set_cons_zero, List.set_cons_succ]
  refine wpAnyH_take (i := 13) (oi := { dst := some 24, op := Op.makeInterface 73 (Operand.tmp 23), type := 25, pos := "law.go:25", after := #[{ on := 12, ground := Ground.data }, { on := 9, ground := Ground.guard }], guard := some (9, false) }) (v := ?vt13) rfl (by kernel_rfl) (by kernel_rfl) (by kernel_rfl) (fun _ _ _ h => h) (Or.inl ⟨by rfl, ?yt13⟩) (by assumption) ?rt13
  case yt13 => (intro w' hSw; (try dsimp only at hSw); go_simp; try with_reducible rfl)
  try simp only [Act.put, List.setIfInBounds_toArray, List.set_cons_zero, List.set_cons_succ]
  refine wpAnyH_ready (rs := [14]) (by kernel_rfl) (by simp) ?_
  refine AllReadyH.cons (o := { dst := some 25, op := Op.call { callee := Callee.value (Operand.func 42), args := #[Operand.tmp 21, Operand.tmp 24], argTypes := #[25, 25] }, type := 4, pos := "law.go:25", after := #[{ on := 10, ground := Ground.data }, { on := 13, ground := Ground.data }, { on := 9, ground := Ground.chain }, { on := 9, ground := Ground.guard }], guard := some (9, false) }) rfl (fun K hK => ?_) AllReadyH.nil
  go_simp
  go_at_call 42
  refine (IS.out _ (TA.fault T2.out)).mono ?_
  rintro x w3 ⟨rfl, rfl⟩
  go_wp2_with fail
  refine hK.out _ _ (T2.out.cells) (fun hHeldt14 => ?_)
  clear hK K hHeldt6
  try simp only [Act.put, List.setIfInBounds_toArray, List.set_cons_zero, List.set_cons_succ]
  refine wpAnyH_take (i := 15) (oi := { dst := some 26, op := Op.unOp UnOp.not 4 (Operand.tmp 25), type := 4, pos := "law.go:25", after := #[{ on := 14, ground := Ground.data }, { on := 9, ground := Ground.guard }], guard := some (9, false) }) (v := ?vt15) rfl (by kernel_rfl) (by kernel_rfl) (by kernel_rfl) (fun _ _ _ h => h) (Or.inl ⟨by rfl, ?yt15⟩) (by assumption) ?rt15
  case yt15 => (intro w' hSw; (try dsimp only at hSw); go_simp; try with_reducible rfl)
  try simp only [Act.put, List.setIfInBounds_toArray, List.set_cons_zero, List.set_cons_succ]
  refine wpAnyH_take (i := 16) (oi := { dst := some 27, op := Op.pick (Operand.tmp 20) (Operand.const (Value.bool true)) (Operand.tmp 26), type := 4, pos := "law.go:25", after := #[{ on := 9, ground := Ground.data }, { on := 15, ground := Ground.data }], guard := none }) (v := ?vt16) rfl (by kernel_rfl) (by kernel_rfl) (by kernel_rfl) (fun _ _ _ h => h) (Or.inl ⟨by rfl, ?yt16⟩) (by assumption) ?rt16
  case yt16 => (intro w' hSw; (try dsimp only at hSw); go_simp; try with_reducible rfl)
  try simp only [Act.put, List.setIfInBounds_toArray, List.set_cons_zero, List.set_cons_succ]
  refine wpAnyH_done (by kernel_rfl) ?_ _
  have c0 := T2.out.box.cell 0
  have c1 := T2.out.box.cell 1
  have HBk := Lib.hid (Blk.new w3 76 #[.pointer none])
  have T3 := Lib.hid (T2.out.below ((Below.refl _ _).alloc (Nat.le_refl _) (.cells #[.pointer none] 76)))
  clear T0 T0d T1 ER WO IS
  go_wp2_with fail
  refine (AS.out _ _ T3.out.err HBk.out).mono ?_
  rintro x w4 ⟨rfl, hbk, hT⟩
  have C0 := hbk.cell 0
  have d0 := (hT.blk T3.out.box (T3.out.box.ne_ HBk.out (by decide)) (by simp)).cell 0
  have d1 := (hT.blk T3.out.box (T3.out.box.ne_ HBk.out (by decide)) (by simp)).cell 1
  have p0 := (hT.blk T3.out.part (T3.out.part.ne_ HBk.out (by decide)) (by simp)).cell 0
  have p1 := (hT.blk T3.out.part (T3.out.part.ne_ HBk.out (by decide)) (by simp)).cell 1
  have q0 := (hT.blk T3.out.fault (T3.out.fault.ne_ HBk.out (by decide)) (by simp)).cell 0
  have q1 := (hT.blk T3.out.fault (T3.out.fault.ne_ HBk.out (by decide)) (by simp)).cell 1
  have HBF : Hid (Below w.heap.size w w4) := Lib.hid (T2.out.bel.trans (((Below.refl _ _).alloc T2.out.bel.size (.cells #[.pointer none] 76)).trans (hT.below (by have := T2.out.bel.size; simp; omega) T2.out.bel.size (fun _ h => by cases h))))
  clear hbk hT T3 HBk T2 AS
  go_wp2_with fail
  go_quiet (fail)
  go_wp2_with fail
  go_ret
  exact ⟨rfl, below_drewN HBF.out _⟩
#print axioms tells_all
end Go.Proofs.YtanjcjnkppnhcaaGreatDoor

namespace Go.Proofs.YtanjcjnkppnhcaaGreatDoor
open Go Go.RowKit

theorem tells_none (w : World) : Calls Tryz.prog 11 #[.nilIface, .agg #[.slice none 0 0, .int .i64 0]] w fun e w' => e = .returned (.bool true) ∧ Below w.heap.size w w' := by
  go_enter Tryz.func11, Tryz.ntmps11
  go_wp2_with fail
  go_ret
  exact ⟨rfl, (Below.refl _ _).alloc (Nat.le_refl _) _⟩
theorem textP_err {v : ByteArray} {r : List UInt8} (h : (textP v r).2 ≠ 0) : To14 (textP v r).2 := by
  unfold textP at h ⊢
  unfold To14
  repeat' split
  all_goals simp_all
theorem stepP_err {s : List UInt8} (h : (stepP s).2 ≠ 0) : To14 (stepP s).2 := by
  have ht := @textP_err (mkW (wordP s).1) (wordP (wordP s).2).2
  unfold stepP at h ⊢
  split
  · unfold To14; simp
  · split
    · unfold To14; simp
    · split
      · unfold To14; simp
      · split
        · rename_i h1 h2 h3 h4
          exact ht h4
        · rename_i h1 h2 h3 h4
          rw [if_neg h1, if_neg h2, if_neg h3, if_neg h4] at h
          exact absurd rfl h
theorem lineP_err {s : List UInt8} (h : (lineP s).2.2 ≠ 0) : To14 (lineP s).2.2 := by
  rw [lineP_step] at h ⊢
  split
  · rename_i h1
    rw [if_pos h1] at h
    exact absurd rfl h
  · rename_i h1
    rw [if_neg h1] at h
    exact stepP_err h
theorem parseP_err : ∀ (ls : List (List UInt8)) (i : Nat) (acc : List Fl) (j : Nat) (k : Int), parseP ls i acc = .inr (j, k) → j ≤ i + ls.length + 32 ∧ To14 k
  | [], _, _, _, _, h => by unfold parseP at h; cases h
  | l :: ls, i, acc, j, k, h => by
    unfold parseP at h
    split at h
    · rename_i h1
      cases h
      exact ⟨by simp; omega, lineP_err h1⟩
    · split at h
      · have := parseP_err ls (i + 1) acc j k h
        exact ⟨by simp; omega, this.2⟩
      · split at h
        · cases h
          exact ⟨by omega, .inr (.inr (.inr (.inl rfl)))⟩
        · have := parseP_err ls (i + 1) _ j k h
          exact ⟨by simp; omega, this.2⟩
set_option maxRecDepth 100000 in
set_option maxHeartbeats 4000000 in
theorem todoTexts_walk (w : World) (m : Int) (hm : w.cell? ⟨1, 0, none⟩ = some (.int .i64 m)) (h1 : 1 < w.heap.size) (s : ByteArray) (hs : s.size ≤ 9223372036854775807) (hE : ErrType w) (hT : PowTab w) :
    Calls Tryz.prog 3 #[.string s] w fun e w' => e = .returned (.bool true) ∧ Below w.heap.size w w' := by
  have KN := known21_yes w m hm h1
  have HE := Lib.hid fun W (hW : Below w.heap.size w W) => hE.below hW
  have HT := Lib.hid fun W (hW : Below w.heap.size w W) => tabIs_below hT hW
  have HM := Lib.hid fun W (hW : Below w.heap.size w W) => (show W.cell? ⟨1, 0, none⟩ = some (.int .i64 m) by rw [hW.cell h1]; exact hm)
  have s0 : (0 : Int) ≤ (s.size : Int) := Int.natCast_nonneg _
  clear hm h1 hE hT
  go_enter Tryz.func3, Tryz.ntmps3
  go_wp2_with fail
  refine KN.mono ?_
  rintro e w1 ⟨rfl, d1⟩
  have D1 := Lib.hid d1
  clear d1 KN
  by_cases hz : 2000 < s.size
  · have hzi : (2000 : Int) < (s.size : Int) := by omega
    go_wp2
    go_ret
    exact ⟨rfl, D1.out⟩
  have hzi : ¬ (2000 : Int) < (s.size : Int) := by omega
  have P1 := Lib.hid (parse_any s w1 m (HM.out _ D1.out) (by omega))
  have P2 := Lib.hid fun W => refParse_any s W (by omega)
  have PE := Lib.hid (fun j k => parseP_err (nls s.data.toList) 0 [] j k)
  have LN := Lib.hid (show (nls s.data.toList).length ≤ 2001 by have := nls_len s.data.toList; rw [size_listB] at this; omega)
  obtain ⟨R, hR⟩ : ∃ R, R = parseP (nls s.data.toList) 0 [] := ⟨_, rfl⟩
  rw [← hR] at P1 P2 PE
  clear hR
  go_wp2_with fail
  refine P1.out.mono ?_
  rintro e w2 (⟨xs, u, hx, rfl, o2, h32, d2⟩ | ⟨i, k, F, hx, rfl, hF, F2, d2⟩)
  · have D2 := Lib.hid (D1.out.trans (d2.mono D1.out.size))
    have R2 := Lib.hid (Reads.of_own (enc := cF) cF_len o2)
    have Q2 := Lib.hid (P2.out w2)
    clear P1 P2 PE o2 d2
    go_wp2_with fail
    refine Q2.out.mono ?_
    rintro e w3 (⟨ys, u3, hy, rfl, o3, -, d3⟩ | ⟨i, k, g, hy, _⟩)
    case inr => rw [hx] at hy; cases hy
    rw [hx] at hy
    cases hy
    have D3 := Lib.hid (D2.out.trans (d3.mono D2.out.size))
    have T3 := Lib.hid fun W => tells_none W
    have R3 := Lib.hid (R2.out.below d3)
    have S3 := Lib.hid (Reads.of_own (enc := cF) cF_len o3)
    clear Q2 R2 o3 d3 D2
    go_wp2_with fail
    refine (T3.out _).mono ?_
    rintro e w4 ⟨rfl, d4⟩
    have A3 := (Below.refl w3.heap.size w3).alloc (Nat.le_refl _) (.cells #[.slice none 0 0, .int .i64 0] 31)
    have E4 := A3.trans (d4.mono A3.size)
    have SY := Lib.hid (same_yes w4 _ _ xs (R3.out.below E4) (S3.out.below E4))
    have D4 := Lib.hid (D3.out.trans (E4.mono D3.out.size))
    clear T3 D3 A3 E4 d4
    go_wp2_with fail
    refine SY.out.mono ?_
    rintro e w5 ⟨rfl, d5⟩
    have D5 := Lib.hid (D4.out.trans (d5.mono D4.out.size))
    clear SY d5
    go_wp2
    go_ret
    exact ⟨rfl, D5.out⟩
  · have D2 := Lib.hid (D1.out.trans (d2.mono D1.out.size))
    have G2 := Lib.hid (show Blk w2 F 78 #[.string bLine, .int .i64 i, .iface 73 (.int .i64 k)] from F2)
    have Q2 := Lib.hid (P2.out w2)
    have he := Lib.hid (PE.out i k hx)
    clear P1 P2 PE F2 d2 hF
    go_wp2_with fail
    refine Q2.out.mono ?_
    rintro e w3 (⟨ys, u3, hy, _⟩ | ⟨i', k', g, hy, rfl, hg, G3, d3⟩)
    case inl => rw [hx] at hy; cases hy
    rw [hx] at hy
    cases hy
    have D3 := Lib.hid (D2.out.trans (d3.mono D2.out.size))
    have A3 := (Below.refl w3.heap.size w3).alloc (Nat.le_refl _) (.cells #[.slice (some ⟨g, 0, none⟩) 1 1, .int .i64 k] 31)
    have B3 := Lib.hid A3
    have D4 := Lib.hid (D3.out.trans (A3.mono D3.out.size))
    have TL := Lib.hid (tells_all _ F g bLine i k ((G2.out.below d3 G2.out.lt).below A3 (G2.out.below d3 G2.out.lt).lt) (Blk.below G3 A3 (Blk.lt G3)) (by decide) (by omega) (by have := he.out.1; have := LN.out; omega) he.out.2 (HE.out _ D4.out) (HT.out _ D4.out))
    clear Q2 G2 G3 d3 D2 A3 D3 he LN hx
    go_wp2_with fail
    refine TL.out.mono ?_
    rintro e w5 ⟨rfl, d5⟩
    have D5 := Lib.hid (D4.out.trans (d5.mono D4.out.size))
    have SY := Lib.hid (same_yes w5 (.slice none 0 0) (.slice none 0 0) [] (Reads.nil _) (Reads.nil _))
    clear TL d5 D4
    go_wp2_with fail
    refine SY.out.mono ?_
    rintro e w6 ⟨rfl, d6⟩
    have D6 := Lib.hid (D5.out.trans (d6.mono D5.out.size))
    clear SY d6
    go_wp2
    go_ret
    exact ⟨rfl, D6.out⟩
#print axioms todoTexts_walk
end Go.Proofs.YtanjcjnkppnhcaaGreatDoor

namespace Go.Proofs.YtanjcjnkppnhcaaGreatDoor
open Go Go.RowKit

attribute [-go_sem] run_string_add_if
/-- A step in words. -/
def stepG (x : Fl) : List UInt8 := x.1.data.toList ++ [32] ++ Lib.itoa x.2.1 ++ (if (x.1.toList == [114, 101, 119, 111, 114, 100]) = true then [32] ++ x.2.2.data.toList else []) ++ [10]
def stepsG (l : List Fl) : List UInt8 := l.flatMap stepG
def StepOkG (x : Fl) : Prop := x.1.size ≤ 1000 ∧ x.2.2.size ≤ 1000 ∧ -9223372036854775808 ≤ x.2.1 ∧ x.2.1 ≤ 9223372036854775807
theorem stepG_le {x : Fl} (h : StepOkG x) : (stepG x).length ≤ 3000 := by
  obtain ⟨h1, h2, h3, h4⟩ := h
  have hd := Lib.itoa_length_le x.2.1 h3 h4
  unfold stepG
  rw [← size_listB] at h1 h2
  split <;> simp only [List.length_append, List.length_cons, List.length_nil] <;> omega
theorem stepsG_le {l : List Fl} (h : ∀ x ∈ l, StepOkG x) : (stepsG l).length ≤ l.length * 3000 := by
  induction l with
  | nil => simp [stepsG]
  | cons x l ih =>
    have h1 := stepG_le (h x List.mem_cons_self)
    have h2 := ih fun y hy => h y (List.mem_cons_of_mem _ hy)
    unfold stepsG at h2 ⊢
    rw [List.flatMap_cons, List.length_append, List.length_cons, Nat.succ_mul]
    omega
set_option maxRecDepth 100000 in
set_option maxHeartbeats 8000000 in
theorem text_all (w : World) (v : Value) (l : List Fl) (h : Reads 3 cF w v l) (hl : l.length ≤ 100) (h2 : ∀ x ∈ l, StepOkG x) (hT : PowTab w) :
    Calls Tryz.prog 19 #[v] w fun e w' => e = .returned (.string ⟨(stepsG l).toArray⟩) ∧ Below w.heap.size w w' := by
  obtain ⟨A, c, rfl⟩ := h.form
  have HH := Lib.hid h
  have H2 := Lib.hid h2
  have HTB := Lib.hid hT
  have IB := Lib.hid (Lib.IsBuilderF.of (Lib.fresh_isBuilder 96 5 w))
  have d6 := (Below.refl w.heap.size w).alloc (Nat.le_refl _) (.cells #[.pointer none, .slice none 0 0] 96)
  have ln0 : (0 : Int) ≤ (l.length : Int) := Int.natCast_nonneg _
  have ln9 : (l.length : Int) ≤ 100 := by omega
  clear h h2 hT
  go_enter Tryz.func19, Tryz.ntmps19
  go_wp2_with fail
  obtain ⟨b, hb⟩ : ∃ b, b = w.heap.size := ⟨_, rfl⟩
  rw [← hb] at IB d6 ⊢
  have Hb := Lib.hid hb
  clear hb
  go_loopw [5, 8] (fun _ s8 wr => ∃ k : Nat, k ≤ l.length ∧ s8 = .int .i64 k ∧ Hid (Lib.IsBuilderF 96 5 b b (Lib.byteCells (stepsG (l.take k))) wr) ∧ Hid (Below b w wr)) (fun _ s8 _ => l.length - (intOf s8).toNat)
  case atStart => exact ⟨0, Nat.zero_le _, rfl, IB, Lib.hid d6⟩
  case round =>
    clear IB d6
    obtain ⟨k, hk, rfl, hI, hB⟩ := hrel
    have k0 : (0 : Int) ≤ (k : Int) := Int.natCast_nonneg _
    obtain ⟨wo, hwo⟩ : ∃ wo : World, wo = wr := ⟨_, rfl⟩
    rw [← hwo] at hI hB ⊢
    clear hwo
    have hbw : Hid (Below w.heap.size w wo) := Lib.hid (by have := Hb.out; rw [this] at hB; exact hB.out)
    have hbl : b ≤ wo.heap.size := by have := Hb.out; rw [this]; exact hbw.out.size
    by_cases hlt : k < l.length
    · have k1 : (k : Int) < (l.length : Int) := by omega
      obtain ⟨x, hx⟩ : ∃ x, l[k]? = some x := ⟨_, List.getElem?_eq_getElem hlt⟩
      obtain ⟨ad, rfl, c0, c1', c2'⟩ := Fils.at_ (HH.out.below hbw.out) hx
      obtain ⟨s1x, s2x, s3x, s4x⟩ := H2.out x (List.mem_of_getElem? hx)
      have hTL := stepsG_le (l := l.take k) (fun y hy => H2.out y (List.mem_of_mem_take hy))
      rw [List.length_take] at hTL
      have HTK := Lib.hid (show stepsG (l.take (k + 1)) = stepsG (l.take k) ++ stepG x by unfold stepsG; obtain ⟨hk', rfl⟩ := List.getElem?_eq_some_iff.1 hx; rw [List.take_succ_eq_append_getElem hk', List.flatMap_append]; simp)
      obtain ⟨vb, cc, tx⟩ := x
      dsimp only at c0 c1' c2' s1x s2x s3x s4x
      have y1 := numB_size s3x s4x
      have z1 : (ByteArray.mk #[32]).size = 1 := rfl
      obtain ⟨s1, e1, n1, p1⟩ := sum_namedT vb ⟨#[32]⟩ (by omega)
      obtain ⟨s2, e2, n2, p2⟩ := sum_namedT s1 (numB cc) (by omega)
      obtain ⟨s3, e3, n3, p3⟩ := sum_namedT ⟨#[32]⟩ tx (by omega)
      have eM : Hid (s2.data.toList = vb.data.toList ++ [32] ++ Lib.itoa cc) := Lib.hid (by rw [e2, e1, data_app, data_app]; unfold numB; simp)
      have eM3 : Hid (s3.data.toList = [32] ++ tx.data.toList) := Lib.hid (by rw [e3, data_app])
      have HSZ : Hid (s2.size ≤ 2000) := Lib.hid (by omega)
      have HSZ3 : Hid (s3.size ≤ 2000) := Lib.hid (by omega)
      have IT := Lib.hid fun W (h : PowTab W) => itoa_all cc s3x s4x W h
      have PT := Lib.hid (tabIs_below (tabIs_below HTB.out hbw.out) ((Below.refl wo.heap.size wo).alloc (Nat.le_refl _) (.cells #[.string vb, .int .i64 cc, .string tx] 41)))
      have BB := Lib.hid ((hB.out.alloc hbl (.cells #[.string vb, .int .i64 cc, .string tx] 41)))
      have KX := Lib.hid (Blk.new wo 41 #[.string vb, .int .i64 cc, .string tx])
      have IX := Lib.hid (isf_belowT hI.out ((Below.refl wo.heap.size wo).alloc (Nat.le_refl _) (.cells #[.string vb, .int .i64 cc, .string tx] 41)))
      have hneX : wo.heap.size ≠ b := by have h9 : b < wo.heap.size := hI.out.elim (·.lt) (·.lt); omega
      have hTL2 : (stepsG (l.take k)).length ≤ 300000 := by omega
      have HLT := Lib.hid hlt
      clear s3x s4x hx hTL hI hbw hB e1 e2 e3 n1 n2 n3 y1 z1 s1x s2x hlt hk
      generalize hT : stepsG (l.take k) = T at *
      clear hT
      go_upto_region 5 with fail
      generalize hW : wo.alloc (.cells #[.string vb, .int .i64 cc, .string tx] 41) = W at *
      have hbW : b ≤ W.heap.size := by rw [← hW]; simp; omega
      generalize wo.heap.size = X at *
      clear hW c0 c1' c2'
      have HBWd := Lib.hid (show b ≤ W.drew.heap.size from hbW)
      have KXd : Hid (Blk W.drew X 41 #[.string vb, .int .i64 cc, .string tx]) := Lib.hid KX.out
      have IXd : Hid (Lib.IsBuilderF 96 5 b b (Lib.byteCells T) W.drew) := Lib.hid (isf_belowT IX.out ((Below.refl _ _).drew))
      have PTd : Hid (PowTab W.drew) := Lib.hid (tabIs_below PT.out ((Below.refl _ _).drew))
      have q0 : W.drew.cell? ⟨X, 0, none⟩ = some (.string vb) ∧ W.drew.cell? ⟨X, 1, none⟩ = some (.int .i64 cc) := ⟨KX.out.cell 0, KX.out.cell 1⟩
      go_region_held3 (fun w' => w'.cell? ⟨X, 0, none⟩ = some (.string vb) ∧ w'.cell? ⟨X, 1, none⟩ = some (.int .i64 cc)) (first | exact q0 | exact q1 | exact q9) (first
        | (go_at_call 45; (with_reducible refine (writeKT b b _ s2 w1 I1.out (by rw [Lib.byteCells_length]; have := HSZ.out; omega) HBW1.out).mono ?_); rintro e w9 ⟨rfl, h9, d9, k9⟩; have K9 := K1.out.othersT k9 hneX (by decide); have q9 := (show w9.cell? ⟨X, 0, none⟩ = some (.string vb) ∧ w9.cell? ⟨X, 1, none⟩ = some (.int .i64 cc) from ⟨K9.cell 0, K9.cell 1⟩))
        | (go_at_call 46; (with_reducible refine (IT.out _ PTd.out).mono ?_); rintro e w1 ⟨rfl, b1⟩; have K1 := Lib.hid (KXd.out.below b1 KXd.out.lt); have I1 := Lib.hid (isf_belowT IXd.out b1); have HBW1 := Lib.hid (Nat.le_trans HBWd.out b1.size); have B1 := Lib.hid ((BB.out.drew).trans (b1.mono HBWd.out)); have q1 := (show w1.cell? ⟨X, 0, none⟩ = some (.string vb) ∧ w1.cell? ⟨X, 1, none⟩ = some (.int .i64 cc) from ⟨K1.out.cell 0, K1.out.cell 1⟩)))
      all_goals
        have B9 := Lib.hid (B1.out.trans d9)
        have I9 : Hid (Lib.IsBuilderF 96 5 b b (Lib.byteCells (T ++ (vb.data.toList ++ [32] ++ Lib.itoa cc))) w9) := Lib.hid (by rw [Lib.byteCells_append, ← eM.out]; exact .inr (by have := h9; rw [Lib.strCells_eq] at this; exact this))
        have x0 := K9.cell 0
        have x2 := K9.cell 2
        have HBW9 := Lib.hid (show b ≤ w9.heap.size from Nat.le_trans HBW1.out d9.size)
        have HL9 := Lib.hid (show (T ++ (vb.data.toList ++ [32] ++ Lib.itoa cc)).length ≤ 310000 by rw [← eM.out, List.length_append, size_listB]; have := HSZ.out; omega)
        clear h9 k9 K9 q0 q9 q1 KX KXd IX IXd BB p1 p2 IT d9 K1 I1 B1 b1 HBW1 PT PTd
        cases hr : (vb.toList == [114, 101, 119, 111, 114, 100]) with
        | false =>
          have HF := Lib.hid (show stepsG (l.take (k + 1)) = T ++ (vb.data.toList ++ [32] ++ Lib.itoa cc) ++ [10] by rw [HTK.out]; unfold stepG; dsimp only; rw [hr, if_neg (by simp)]; simp)
          clear p3 HTK
          go_wp2_with fail
          refine (writeKT b b _ ⟨#[10]⟩ _ I9.out (by rw [Lib.byteCells_length]; have := HL9.out; show _ + 1 ≤ _; omega) HBW9.out).mono ?_
          rintro e w10 ⟨rfl, h10, d10, k10⟩
          have I10 : Hid (Lib.IsBuilderF 96 5 b b (Lib.byteCells (stepsG (l.take (k + 1)))) w10) := Lib.hid (by rw [HF.out, Lib.byteCells_append]; exact .inr (by have := h10; rw [Lib.strCells_eq] at this; exact this))
          have B10 := Lib.hid (B9.out.trans d10)
          clear h10 k10 d10 I9 B9
          go_wp2_with fail
          go_roundw
          case rel => exact ⟨k + 1, by have := HLT.out; omega, by go_num, I10, B10⟩
          case measure => have := HLT.out; simp [intOf]; omega
        | true =>
          have HF := Lib.hid (show stepsG (l.take (k + 1)) = T ++ (vb.data.toList ++ [32] ++ Lib.itoa cc) ++ ([32] ++ tx.data.toList) ++ [10] by rw [HTK.out]; unfold stepG; dsimp only; rw [hr, if_pos rfl]; simp)
          clear HTK
          go_wp2_with fail
          refine (writeKT b b _ s3 _ I9.out (by rw [Lib.byteCells_length]; have := HL9.out; have := HSZ3.out; omega) HBW9.out).mono ?_
          rintro e w10 ⟨rfl, h10, d10, k10⟩
          have I10 : Hid (Lib.IsBuilderF 96 5 b b (Lib.byteCells (T ++ (vb.data.toList ++ [32] ++ Lib.itoa cc) ++ ([32] ++ tx.data.toList))) w10) := Lib.hid (by rw [Lib.byteCells_append, ← eM3.out]; exact .inr (by have := h10; rw [Lib.strCells_eq] at this; exact this))
          have HL10 := Lib.hid (show (T ++ (vb.data.toList ++ [32] ++ Lib.itoa cc) ++ ([32] ++ tx.data.toList)).length ≤ 320000 by rw [← eM3.out, List.length_append, size_listB]; have := HSZ3.out; have := HL9.out; omega)
          have B10 := Lib.hid (B9.out.trans d10)
          have HBW10 := Lib.hid (Nat.le_trans HBW9.out d10.size)
          clear h10 k10 d10 I9 B9
          go_wp2_with fail
          refine (writeKT b b _ ⟨#[10]⟩ _ I10.out (by rw [Lib.byteCells_length]; have := HL10.out; show _ + 1 ≤ _; omega) HBW10.out).mono ?_
          rintro e w11 ⟨rfl, h11, d11, k11⟩
          have I11 : Hid (Lib.IsBuilderF 96 5 b b (Lib.byteCells (stepsG (l.take (k + 1)))) w11) := Lib.hid (by rw [HF.out, Lib.byteCells_append]; exact .inr (by have := h11; rw [Lib.strCells_eq] at this; exact this))
          have B11 := Lib.hid (B10.out.trans d11)
          clear h11 k11 d11 I10 B10
          go_wp2_with fail
          go_roundw
          case rel => exact ⟨k + 1, by have := HLT.out; omega, by go_num, I11, B11⟩
          case measure => have := HLT.out; simp [intOf]; omega
    · obtain rfl : k = l.length := by omega
      have P := Lib.hid (stringFT b b _ wo (by have := hI.out; rw [List.take_length] at this; exact this) hbl)
      clear hI
      go_wp2_with fail
      refine P.out.mono ?_
      rintro e w6 ⟨rfl, -, d6⟩
      go_wp2_with fail
      go_ret
      exact ⟨rfl, by have := Hb.out; rw [this] at d6; exact hbw.out.trans d6⟩
end Go.Proofs.YtanjcjnkppnhcaaGreatDoor

namespace Go.Proofs.YtanjcjnkppnhcaaGreatDoor
open Go Go.RowKit

attribute [-go_sem] run_string_add_if
set_option maxRecDepth 100000 in
set_option maxHeartbeats 8000000 in
theorem refText_all (w : World) (v : Value) (l : List Fl) (h : Reads 3 cF w v l) (hl : l.length ≤ 100) (h2 : ∀ x ∈ l, StepOkG x) :
    Calls Tryz.prog 20 #[v] w fun e w' => e = .returned (.string ⟨(stepsG l).toArray⟩) ∧ Below w.heap.size w w' := by
  obtain ⟨A, c, rfl⟩ := h.form
  have HH := Lib.hid h
  have H2 := Lib.hid h2
  have ln0 : (0 : Int) ≤ (l.length : Int) := Int.natCast_nonneg _
  have ln9 : (l.length : Int) ≤ 100 := by omega
  clear h h2
  go_enter Tryz.func20, Tryz.ntmps20
  go_wp2_with fail
  go_loopw [3, 4] (fun s3 s4 wr => ∃ (k : Nat) (t : ByteArray), k ≤ l.length ∧ s4 = .int .i64 k ∧ s3 = .string t ∧ Hid (t.data.toList = stepsG (l.take k)) ∧ Hid (Below w.heap.size w wr)) (fun _ s4 _ => l.length - (intOf s4).toNat)
  case atStart => exact ⟨0, ⟨#[]⟩, Nat.zero_le _, rfl, rfl, Lib.hid rfl, Lib.hid (Below.refl _ _)⟩
  case round =>
    obtain ⟨k, t, hk, rfl, rfl, hI, hB⟩ := hrel
    have k0 : (0 : Int) ≤ (k : Int) := Int.natCast_nonneg _
    by_cases hlt : k < l.length
    · have k1 : (k : Int) < (l.length : Int) := by omega
      obtain ⟨x, hx⟩ : ∃ x, l[k]? = some x := ⟨_, List.getElem?_eq_getElem hlt⟩
      obtain ⟨ad, rfl, c0, c1, c2⟩ := Fils.at_ (HH.out.below hB.out) hx
      obtain ⟨s1x, s2x, s3x, s4x⟩ := H2.out x (List.mem_of_getElem? hx)
      have hTL := stepsG_le (l := l.take k) (fun y hy => H2.out y (List.mem_of_mem_take hy))
      rw [List.length_take] at hTL
      have htz : t.size ≤ 300000 := by rw [← size_listB, hI.out]; omega
      have HTK := Lib.hid (show stepsG (l.take (k + 1)) = stepsG (l.take k) ++ stepG x by unfold stepsG; obtain ⟨hk', rfl⟩ := List.getElem?_eq_some_iff.1 hx; rw [List.take_succ_eq_append_getElem hk', List.flatMap_append]; simp)
      obtain ⟨vb, cc, tx⟩ := x
      dsimp only at c0 c1 c2 s1x s2x s3x s4x
      have y1 := numB_size s3x s4x
      have z1 : (ByteArray.mk #[32]).size = 1 := rfl
      have z2 : (ByteArray.mk #[10]).size = 1 := rfl
      obtain ⟨s1, e1, n1, p1⟩ := sum_namedT t vb (by omega)
      obtain ⟨s2, e2, n2, p2⟩ := sum_namedT s1 ⟨#[32]⟩ (by omega)
      obtain ⟨s3, e3, n3, p3⟩ := sum_namedT s2 (numB cc) (by omega)
      obtain ⟨s4, e4, n4, p4⟩ := sum_namedT s3 ⟨#[32]⟩ (by omega)
      obtain ⟨s5, e5, n5, p5⟩ := sum_namedT s4 tx (by omega)
      obtain ⟨s6, e6, n6, p6⟩ := sum_namedT s3 ⟨#[10]⟩ (by omega)
      obtain ⟨s7, e7, n7, p7⟩ := sum_namedT s5 ⟨#[10]⟩ (by omega)
      have eM : Hid (s6.data.toList = stepsG (l.take k) ++ vb.data.toList ++ [32] ++ Lib.itoa cc ++ [10]) := Lib.hid (by rw [e6, e3, e2, e1, data_app, data_app, data_app, data_app, hI.out]; unfold numB; simp)
      have eM7 : Hid (s7.data.toList = stepsG (l.take k) ++ vb.data.toList ++ [32] ++ Lib.itoa cc ++ [32] ++ tx.data.toList ++ [10]) := Lib.hid (by rw [e7, e5, e4, e3, e2, e1, data_app, data_app, data_app, data_app, data_app, data_app, hI.out]; unfold numB; simp)
      have DC := Lib.hid fun W => refDecimal_all cc s3x s4x W
      have HLT := Lib.hid hlt
      have q0 : (wr.drew).cell? (ad.add (k * 3)) = some (.string vb) ∧ (wr.drew).cell? ⟨(ad.add (k * 3)).block, (ad.add (k * 3)).off + 1, none⟩ = some (.int .i64 cc) := ⟨c0, c1⟩
      have Q2 := Lib.hid c2
      have dd : Below wr.heap.size wr wr.drew := (Below.refl _ _).drew
      have LT0 := Lib.hid (World.block_lt_of_cell? _ _ c0)
      have LT2 := Lib.hid (World.block_lt_of_cell? _ _ c2)
      have DD := Lib.hid dd
      clear hx hTL hI e1 e2 e3 e4 e5 e6 e7 n1 n2 n3 n4 n5 n6 n7 z1 z2 s1x s2x s3x s4x hlt hk htz dd c2
      go_upto_region 5 with fail
      go_region_held3 (fun w' => w'.cell? (ad.add (k * 3)) = some (.string vb) ∧ w'.cell? ⟨(ad.add (k * 3)).block, (ad.add (k * 3)).off + 1, none⟩ = some (.int .i64 cc)) (first | exact q0 | exact q1) (first | (go_at_call 48; (with_reducible refine (DC.out _).mono ?_); rintro e w1 ⟨rfl, b1⟩; have B1 := Lib.hid (hB.out.trans ((DD.out.trans (b1.mono DD.out.size)).mono hB.out.size)); have q1 := (show w1.cell? (ad.add (k * 3)) = some (.string vb) ∧ w1.cell? ⟨(ad.add (k * 3)).block, (ad.add (k * 3)).off + 1, none⟩ = some (.int .i64 cc) from ⟨(b1.cell LT0.out).trans q0.1, (b1.cell (p := ⟨(ad.add (k * 3)).block, (ad.add (k * 3)).off + 1, none⟩) LT0.out).trans q0.2⟩); have r2 := ((b1.cell LT2.out).trans Q2.out : w1.cell? ⟨(ad.add (k * 3)).block, (ad.add (k * 3)).off + 2, none⟩ = some (.string tx))))
      all_goals
        obtain ⟨r0, r1⟩ := q1
        clear q0 c0 c1 b1 hB
        cases hr : (vb.toList == [114, 101, 119, 111, 114, 100]) with
        | false =>
          have HF := Lib.hid (show s6.data.toList = stepsG (l.take (k + 1)) by rw [HTK.out, eM.out]; unfold stepG; dsimp only; rw [hr, if_neg (by simp)]; simp)
          clear p1 p2 p3 p4 p5 p7
          go_wp2_with fail
          go_roundw
          case rel => exact ⟨k + 1, s6, by have := HLT.out; omega, by go_num, rfl, HF, B1⟩
          case measure => have := HLT.out; simp [intOf]; omega
        | true =>
          have HF := Lib.hid (show s7.data.toList = stepsG (l.take (k + 1)) by rw [HTK.out, eM7.out]; unfold stepG; dsimp only; rw [hr, if_pos rfl]; simp)
          clear p1 p2 p3 p6
          go_wp2_with fail
          go_roundw
          case rel => exact ⟨k + 1, s7, by have := HLT.out; omega, by go_num, rfl, HF, B1⟩
          case measure => have := HLT.out; simp [intOf]; omega
    · obtain rfl : k = l.length := by omega
      clear hlt
      go_wp2
      go_ret
      refine ⟨?_, hB.out⟩
      have := hI.out
      rw [List.take_length] at this
      rw [← this]
      rfl
#print axioms refText_all
end Go.Proofs.YtanjcjnkppnhcaaGreatDoor

namespace Go.Proofs.YtanjcjnkppnhcaaGreatDoor
open Go Go.RowKit

theorem word_pre {a r : List UInt8} (ha : a ≠ []) (h : ∀ c ∈ a, c ≠ 32) (hr : r = [] ∨ r.head? = some 32) : wordP (a ++ r) = (a, r) := by
  have hl := List.length_pos_iff.2 ha
  have key := word_at (l := a ++ r) (i := 0) (k := a.length) (Nat.zero_le _) (by simp) (fun j hj => by omega) (by
      rw [List.getElem?_append_left hl]
      intro e
      exact h _ (List.mem_of_getElem? e) rfl)
    (fun j _ hj e => by
      rw [List.getElem?_append_left hj] at e
      exact h _ (List.mem_of_getElem? e) rfl)
    (by
      rcases hr with rfl | hr
      · left; simp
      · right
        rw [List.getElem?_append_right (Nat.le_refl _), Nat.sub_self, ← List.head?_eq_getElem?, hr])
  rw [key]
  simp
theorem word_sp (l : List UInt8) : wordP (32 :: l) = wordP l := by
  have : Lib.trimLeftB (32 :: l) 32 = Lib.trimLeftB l 32 := by unfold Lib.trimLeftB; simp
  unfold wordP
  rw [this]
theorem digit_toNat {d : Nat} (h : d < 10) : (UInt8.ofNat (48 + d)).toNat = 48 + d := by
  rw [UInt8.toNat_ofNat']
  omega
theorem digit_is {d : Nat} (h : d < 10) : digB (UInt8.ofNat (48 + d)) = true := by
  unfold digB
  rw [digit_toNat h]
  simp; omega
theorem dd_digits (n : Nat) : (Lib.decDigits n).all digB = true := by
  induction n using Nat.strongRecOn with
  | _ n ih =>
    rw [Lib.decDigits]
    split
    · rename_i h
      simp only [List.all_cons, List.all_nil, digit_is h, Bool.and_true]
    · rename_i h
      rw [List.all_append, ih (n / 10) (by omega)]
      simp only [List.all_cons, List.all_nil, digit_is (Nat.mod_lt n (by decide : 10 > 0)), Bool.and_true]
theorem dd_num (n : Nat) : numV (Lib.decDigits n) = n := by
  induction n using Nat.strongRecOn with
  | _ n ih =>
    rw [Lib.decDigits]
    split
    · rename_i h
      have := numV_snoc [] (UInt8.ofNat (48 + n))
      rw [List.nil_append, digit_toNat h] at this
      rw [this]
      show 10 * 0 + _ = _
      omega
    · rename_i h
      rw [numV_snoc, ih (n / 10) (by omega), digit_toNat (Nat.mod_lt n (by decide : 10 > 0))]
      omega
theorem dd_ne (n : Nat) : Lib.decDigits n ≠ [] := by
  intro h
  have := Lib.decDigits_length n
  rw [h] at this
  have h1 := Lib.nDigits_pos n
  simp at this
  omega
theorem dd_head : ∀ n : Nat, 1 ≤ n → (Lib.decDigits n).head? ≠ some 48 := by
  intro n
  induction n using Nat.strongRecOn with
  | _ n ih =>
    intro h1
    rw [Lib.decDigits]
    split
    · rename_i h
      intro e
      have := Option.some.inj e
      have := congrArg UInt8.toNat this
      rw [digit_toNat h] at this
      have h48 : (48 : UInt8).toNat = 48 := rfl
      omega
    · rename_i h
      have := ih (n / 10) (by omega) (by omega)
      rw [List.head?_append]
      cases hd : Lib.decDigits (n / 10) with
      | nil => exact absurd hd (dd_ne _)
      | cons a l => rw [hd] at this; simpa using this
theorem nd_le : ∀ (k n : Nat), n < 10 ^ (k + 1) → Lib.nDigits n ≤ k + 1
  | 0, n, h => by rw [Lib.nDigits_small (by simpa using h)]; exact Nat.le_refl _
  | k + 1, n, h => by
    by_cases h10 : n < 10
    · rw [Lib.nDigits_small h10]; omega
    · rw [Lib.nDigits_big h10]
      have := nd_le k (n / 10) (by rw [Nat.pow_succ] at h; omega)
      omega
theorem num_dd {n : Nat} (h1 : 1 ≤ n) (h2 : n ≤ 1000000) : numP (Lib.decDigits n) = (n, true) := by
  have hl : (Lib.decDigits n).length ≤ 7 := by rw [Lib.decDigits_length]; exact nd_le 6 n (by omega)
  unfold numP
  rw [if_neg (by
      rintro (h | h | h)
      · exact dd_ne n h
      · omega
      · exact dd_head n h1 h.2), if_neg (by rw [dd_digits]; simp), dd_num, if_neg (by omega)]
/-- Verb of a reword. -/
abbrev isRw (v : ByteArray) : Bool := v.toList == [114, 101, 119, 111, 114, 100]
/-- A step that a text can have. -/
def StepCan (x : Fl) : Prop := knownV x.1 = true ∧ 1 ≤ x.2.1 ∧ x.2.1 ≤ 1000000 ∧ (isRw x.1 = true → x.2.2.data.toList ≠ [] ∧ x.2.2.size ≤ 256 ∧ (nls x.2.2.data.toList).length = 1)
/-- A step, as far as its text has it. -/
def nrmS (x : Fl) : Fl := (x.1, x.2.1, if isRw x.1 = true then x.2.2 else ⟨#[]⟩)
def tailL (x : Fl) : List UInt8 := if isRw x.1 = true then [32] ++ x.2.2.data.toList else []
def lineL (x : Fl) : List UInt8 := x.1.data.toList ++ (32 :: (Lib.itoa x.2.1 ++ tailL x))
theorem stepG_line (x : Fl) : stepG x = lineL x ++ [10] := by
  unfold stepG lineL tailL
  split <;> simp_all
theorem verb_bytes {v : ByteArray} (h : knownV v = true) : v.data.toList ≠ [] ∧ ∀ c ∈ v.data.toList, c ≠ 32 ∧ c ≠ 10 ∧ c ≠ 35 := by
  rw [← ByteArray.toList_eq]
  unfold knownV at h
  simp only [Bool.or_eq_true, beq_iff_eq] at h
  rcases h with ((((h | h) | h) | h) | h) | h <;> rw [h] <;> decide
theorem dig_bytes {l : List UInt8} (h : l.all digB = true) : ∀ c ∈ l, c ≠ 32 ∧ c ≠ 10 := by
  intro c hc
  have := List.all_eq_true.1 h c hc
  unfold digB at this
  simp only [Bool.and_eq_true, decide_eq_true_eq] at this
  constructor <;> (rintro rfl; revert this; decide)
theorem nls_two : ∀ l : List UInt8, (10 : UInt8) ∈ l → 2 ≤ (nls l).length
  | [], h => by cases h
  | a :: l, h => by
    have hn := List.length_pos_iff.2 (nls_ne l)
    by_cases ha : a = 10
    · rw [nls_ten ha, List.length_cons]; omega
    · have hm : (10 : UInt8) ∈ l := (List.mem_cons.1 h).resolve_left (fun e => ha e.symm)
      have := nls_two l hm
      cases hx : nls l with
      | nil => exact absurd hx (nls_ne l)
      | cons x xs => rw [nls_more ha hx]; rw [hx] at this; simpa using this
theorem nls_one {l : List UInt8} (h : (nls l).length = 1) : ∀ c ∈ l, c ≠ 10 := by
  intro c hc e
  subst e
  have := nls_two l hc
  omega
theorem line_bytes {x : Fl} (h : StepCan x) : ∀ c ∈ lineL x, c ≠ 10 := by
  obtain ⟨h1, h2, h3, h4⟩ := h
  intro c hc
  unfold lineL at hc
  rcases List.mem_append.1 hc with hc | hc
  · exact ((verb_bytes h1).2 c hc).2.1
  rcases List.mem_cons.1 hc with rfl | hc
  · decide
  rcases List.mem_append.1 hc with hc | hc
  · obtain ⟨n, hn⟩ : ∃ n : Nat, x.2.1 = (n : Int) := ⟨x.2.1.toNat, by omega⟩
    rw [hn, Lib.itoa_nonneg] at hc
    exact (dig_bytes (dd_digits n) c hc).2
  · unfold tailL at hc
    split at hc
    · rename_i hr
      rcases List.mem_append.1 hc with hc | hc
      · rw [List.mem_singleton.1 hc]; decide
      · exact nls_one (h4 hr).2.2 c hc
    · cases hc
theorem nls_line {a r : List UInt8} (h : ∀ c ∈ a, c ≠ 10) : nls (a ++ [10] ++ r) = a :: nls r := by
  have e : (a ++ [10] ++ r)[a.length]? = some 10 := by simp
  rw [nls_hit e (fun k hk e => by
    rw [List.append_assoc, List.getElem?_append_left hk] at e
    exact h _ (List.mem_of_getElem? e) rfl)]
  congr 1
  · simp
  · congr 1
    rw [List.append_assoc, List.drop_append, List.drop_eq_nil_of_le (by omega)]
    simp
theorem step_line {x : Fl} (h : StepCan x) : ¬ ((wordP (lineL x)).1 = [] ∨ (wordP (lineL x)).1.head? = some 35) ∧ stepP (lineL x) = (nrmS x, 0) := by
  obtain ⟨h1, h2, h3, h4⟩ := h
  obtain ⟨v1, v2⟩ := verb_bytes h1
  obtain ⟨n, hn⟩ : ∃ n : Nat, x.2.1 = (n : Int) := ⟨x.2.1.toNat, by omega⟩
  have W1 : wordP (lineL x) = (x.1.data.toList, 32 :: (Lib.itoa x.2.1 ++ tailL x)) := word_pre v1 (fun c hc => (v2 c hc).1) (.inr rfl)
  have W2 : wordP (32 :: (Lib.itoa x.2.1 ++ tailL x)) = (Lib.decDigits n, tailL x) := by
    rw [word_sp, hn, Lib.itoa_nonneg]
    exact word_pre (dd_ne n) (fun c hc => (dig_bytes (dd_digits n) c hc).1) (by unfold tailL; split <;> simp)
  refine ⟨?_, ?_⟩
  · rw [W1]
    rintro (e | e)
    · exact v1 e
    · exact (v2 35 (List.mem_of_mem_head? e)).2.2 rfl
  · have T : textP x.1 (tailL x) = ((nrmS x).2.2.data.toList, 0) := by
      unfold textP nrmS tailL
      cases hr : isRw x.1 with
      | false =>
        have hr' : (x.1.toList == [114, 101, 119, 111, 114, 100]) = false := hr
        rw [if_pos hr']; simp only [Bool.false_eq_true, if_false]; rw [if_pos (show Lib.trimB [] 32 = [] from rfl)]
      | true =>
        obtain ⟨t1, t2, -⟩ := h4 hr
        have e : Lib.trimPrefix ([32] ++ x.2.2.data.toList) [32] = x.2.2.data.toList := by unfold Lib.trimPrefix Lib.hasPrefix; simp
        rw [if_neg (by unfold isRw at hr; rw [hr]; simp), if_pos rfl, e, if_neg t1, if_neg (by rw [size_listB]; omega)]
        simp
    unfold stepP
    rw [W1]
    dsimp only
    rw [W2]
    dsimp only
    rw [mkW_list, num_dd (by omega) (by omega), T, if_neg (dd_ne n), if_neg (by rw [h1]; simp), if_neg (by simp; omega), if_neg (by simp)]
    unfold nrmS
    rw [hn, mkW_list]
theorem parse_back : ∀ (l : List Fl) (i : Nat) (acc : List Fl), acc.length + l.length ≤ 32 → (∀ x ∈ l, StepCan x) → parseP (nls (stepsG l)) i acc = .inl (acc ++ l.map nrmS)
  | [], i, acc, _, _ => by
    have e : nls (stepsG []) = [[]] := rfl
    rw [e, parse_skip (.inl (by decide)), parseP]
    simp
  | x :: l, i, acc, h, hx => by
    have e : stepsG (x :: l) = lineL x ++ [10] ++ stepsG l := by unfold stepsG; rw [List.flatMap_cons, stepG_line]
    obtain ⟨a, b⟩ := step_line (hx x List.mem_cons_self)
    rw [List.length_cons] at h
    rw [e, nls_line (line_bytes (hx x List.mem_cons_self)), parse_step a, b, if_neg (by simp), if_neg (by omega), parse_back l (i + 1) (acc ++ [nrmS x]) (by simp; omega) (fun y hy => hx y (List.mem_cons_of_mem _ hy))]
    simp
#print axioms parse_back
end Go.Proofs.YtanjcjnkppnhcaaGreatDoor
