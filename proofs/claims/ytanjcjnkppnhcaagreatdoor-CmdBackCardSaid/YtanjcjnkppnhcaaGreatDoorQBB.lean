/-
  cmd: what is said behind a verb.
  cmd.Parse: any words as a command, or why they are none.
-/
import Derived.Test.YtanjcjnkppnhcaaGreatDoorQBA

namespace Go.Proofs.YtanjcjnkppnhcaaGreatDoor
open Go Go.RowKit

def bForce : ByteArray := ⟨#[45, 102]⟩
def wordsK (said : ByteArray) (given : Bool) : List ByteArray := if given = true then (fls said.data.toList).map mkW else []
/-- What is said behind the k-th verb: a name, a number, a text, whether forced. -/
def readK (k : Nat) (said : ByteArray) (given : Bool) : Option (ByteArray × Nat × ByteArray × Bool) :=
  if hasTK k = true then (if given = false ∨ said ≠ ⟨#[]⟩ then some (⟨#[]⟩, 0, said, false) else none)
  else if hasB ⟨#[]⟩ (wordsK said given) = true then none
  else if hasFK k = true ∧ (wordsK said given).length = 2 ∧ (wordsK said given)[1]? = some bForce then (readW k ((wordsK said given).take 1)).map fun x => (x.1, x.2, ⟨#[]⟩, true)
  else (readW k (wordsK said given)).map fun x => (x.1, x.2, ⟨#[]⟩, false)
def RdTo (k : Nat) (b : Nat) (o : Option (ByteArray × Nat × ByteArray × Bool)) (w : World) (e : Ending) (w' : World) : Prop :=
  ((∃ nm n tx f, o = some (nm, n, tx, f) ∧ e = .returned (.bool true) ∧ Blk w' b 52 (fields6 (vB k) nm ((n : Nat) : Int) tx f)) ∨ (o = none ∧ e = .returned (.bool false))) ∧ Below b w w'
theorem hasB_no {ss : List ByteArray} (h : hasB ⟨#[]⟩ ss = false) : ∀ x ∈ ss, x ≠ ⟨#[]⟩ := by
  intro x hx
  have := List.any_eq_false.1 h x hx
  simpa using this
theorem RW_Rd {k : Nat} {f : Bool} {b : Nat} {o : Option (ByteArray × Nat)} {q : Option (ByteArray × Nat × ByteArray × Bool)} {w w0 : World} {e : Ending} {w' : World} (h : RWTo k f b o w e w') (hq : q = o.map fun x => (x.1, x.2, ⟨#[]⟩, f)) (hb : Below b w0 w) : RdTo k b q w0 e w' := by
  obtain ⟨h1, h2⟩ := h
  refine ⟨?_, hb.trans h2⟩
  rcases h1 with ⟨nm, n, ho, he, hk⟩ | ⟨ho, he⟩
  · exact .inl ⟨nm, n, _, f, by rw [hq, ho]; rfl, he, hk⟩
  · exact .inr ⟨by rw [hq, ho]; rfl, he⟩
theorem RWTo.val {k : Nat} {f : Bool} {b : Nat} {o : Option (ByteArray × Nat)} {w : World} {e : Ending} {w' : World} (h : RWTo k f b o w e w') : ∃ bb, e = .returned (.bool bb) := by
  rcases h.1 with ⟨_, _, _, he, _⟩ | ⟨_, he⟩
  · exact ⟨_, he⟩
  · exact ⟨_, he⟩
set_option maxRecDepth 100000 in
set_option maxHeartbeats 16000000 in
theorem read_any (k : Nat) (hk : k < 20) (w : World) (b : Nat) (said : ByteArray) (given : Bool) (m : Int) (hm : w.cell? ⟨1, 0, none⟩ = some (.int .i64 m)) (hs : said.size ≤ 100000) (hb : Blk w b 52 (fields6 (vB k) ⟨#[]⟩ 0 ⟨#[]⟩ false)) :
    Calls Tryz.prog 66 #[.pointer (some ⟨b, 0, none⟩), .string said, .bool given] w (RdTo k b (readK k said given) w) := by
  have HT := Lib.hid fun W => hasText_any k hk W
  have HK := Lib.hid hk
  have c0 := hb.cell 0
  obtain ⟨R, hR⟩ : ∃ R, R = readK k said given := ⟨_, rfl⟩
  have HRR := Lib.hid hR
  rw [← hR]
  cases ht : hasTK k with
  | true =>
    have HV := Lib.hid (show R = if given = false ∨ said ≠ ⟨#[]⟩ then some (⟨#[]⟩, 0, said, false) else none by rw [hR]; unfold readK; rw [if_pos ht])
    rw [ht] at HT
    have c3 := hb.cell 3
    have f3 := hb.frozen 3
    have KT := Lib.hid (set_text hb said)
    have BT := Lib.hid ((Below.refl b w).setCell (p := ⟨b, 3, none⟩) (Nat.le_refl b) (.string said))
    clear hb hs hm ht hR HRR hk
    cases given with
    | false =>
      have HV2 := Lib.hid (show R = some (⟨#[]⟩, 0, said, false) by rw [HV.out, if_pos (.inl rfl)])
      clear HV
      go_enter Tryz.func66, Tryz.ntmps66
      go_wp2_with (go_at_call 64; refine (HT.out _).mono ?_; rintro e w8 ⟨rfl, rfl⟩)
      go_ret
      exact ⟨.inl ⟨_, 0, _, _, HV2.out, rfl, KT.out⟩, BT.out⟩
    | true =>
      rcases emptyB said with ⟨rfl, -⟩ | ⟨q1, q2, q3⟩
      · have HV2 := Lib.hid (show R = none by rw [HV.out, if_neg (by simp)])
        clear HV
        go_enter Tryz.func66, Tryz.ntmps66
        go_wp2_with (go_at_call 64; refine (HT.out _).mono ?_; rintro e w8 ⟨rfl, rfl⟩)
        go_ret
        exact ⟨.inr ⟨HV2.out, rfl⟩, BT.out⟩
      · have HV2 := Lib.hid (show R = some (⟨#[]⟩, 0, said, false) by rw [HV.out, if_pos (.inr q1)])
        clear HV q1
        go_enter Tryz.func66, Tryz.ntmps66
        go_wp2_with (go_at_call 64; refine (HT.out _).mono ?_; rintro e w8 ⟨rfl, rfl⟩)
        go_ret
        exact ⟨.inl ⟨_, 0, _, _, HV2.out, rfl, KT.out⟩, BT.out⟩
  | false =>
    rw [ht] at HT
    cases given with
    | false =>
      obtain ⟨ss, hss⟩ : ∃ ss, ss = wordsK said false := ⟨_, rfl⟩
      have HR := Lib.hid (show R = if hasB ⟨#[]⟩ ss = true then none else if hasFK k = true ∧ ss.length = 2 ∧ ss[1]? = some bForce then (readW k (ss.take 1)).map fun x => (x.1, x.2, ⟨#[]⟩, true) else (readW k ss).map fun x => (x.1, x.2, ⟨#[]⟩, false) by rw [hR, hss]; unfold readK; rw [if_neg (by rw [ht]; simp)])
      obtain rfl : ss = [] := hss
      have HV := Lib.hid (show R = (readW k []).map fun x => (x.1, x.2, ⟨#[]⟩, false) by rw [HR.out]; simp [hasB])
      have WA : Hid (WordsAt w none []) := Lib.hid ⟨fun _ e => by (cases e), fun e => absurd rfl e⟩
      have CT := Lib.hid (contains_any w none 0 [] ⟨#[]⟩ (by simp) WA.out.1 WA.out.2)
      rw [show hasB ⟨#[]⟩ [] = false from rfl] at CT
      have RW := Lib.hid (readWords_any k hk w b false none 0 [] hb WA.out (by simp) (fun x hx => by cases hx) (fun _ e => by cases e) (by simp))
      have HF := Lib.hid fun W => hasForce_any k hk W
      simp only [List.length_nil] at CT RW
      clear hb hs hm ht hR HRR hk HR WA
      cases hf : hasFK k
      all_goals
        rw [hf] at HF
        clear hf
        go_enter Tryz.func66, Tryz.ntmps66
        go_wp2_with (first | (go_at_call 64; refine (HT.out _).mono ?_; rintro e w8 ⟨rfl, rfl⟩) | (go_at_call 97; refine CT.out.mono ?_; rintro e w8 ⟨rfl, rfl⟩) | (go_at_call 63; refine (HF.out _).mono ?_; rintro e w8 ⟨rfl, h8⟩; obtain rfl := h8.symm))
        refine RW.out.mono ?_
        intro e w7 h7
        have H7 := Lib.hid (RW_Rd h7 HV.out (Below.refl b _))
        obtain ⟨bb, rfl⟩ := RWTo.val h7
        clear h7
        go_wp2
        go_ret
        exact H7.out
    | true =>
      obtain ⟨ss, hss⟩ : ∃ ss, ss = wordsK said true := ⟨_, rfl⟩
      have HR := Lib.hid (show R = if hasB ⟨#[]⟩ ss = true then none else if hasFK k = true ∧ ss.length = 2 ∧ ss[1]? = some bForce then (readW k (ss.take 1)).map fun x => (x.1, x.2, ⟨#[]⟩, true) else (readW k ss).map fun x => (x.1, x.2, ⟨#[]⟩, false) by rw [hR, hss]; unfold readK; rw [if_neg (by rw [ht]; simp)])
      have SP := Tryz.strings_Split said ⟨#[32]⟩ m w (by omega) hm (by decide)
      have LN := splitB_len32 said
      have LS := splitB_fls said
      obtain ⟨L, hL⟩ : ∃ L, L = Lib.splitB ⟨#[32]⟩ 0 (Lib.countB said ⟨#[32]⟩) said := ⟨_, rfl⟩
      rw [← hL] at SP LN LS
      rw [← LN] at SP
      obtain rfl : ss = L := by
        rw [hss]
        show (fls said.data.toList).map mkW = L
        rw [← LS, List.map_map]
        exact (List.map_congr_left (fun x _ => mkW_list x)).trans (List.map_id _)
      have SP := Lib.hid SP
      have HSZ := Lib.hid (show ∀ x ∈ ss, x.size ≤ 9223372036854775807 from fun x hx => by
        have h1 : x.data.toList ∈ fls said.data.toList := by rw [← LS]; exact List.mem_map_of_mem hx
        have h2 := fls_le h1
        rw [size_listB, size_listB] at h2
        omega)
      have HLS := Lib.hid (show ss.length ≤ 100001 by rw [← List.length_map (f := (·.data.toList)), LS]; have := fls_len said.data.toList; rw [size_listB] at this; omega)
      have HB := Lib.hid hb
      clear hs hm ht hR HRR hk hL LS LN hss
      go_enter Tryz.func66, Tryz.ntmps66
      go_wp2_with (go_at_call 64; refine (HT.out _).mono ?_; rintro e w8 ⟨rfl, h8⟩; obtain rfl := h8.symm)
      refine SP.out.mono ?_
      rintro e w1 ⟨rfl, hw1⟩
      have KW := Lib.hid (show Blk w1 b 52 (fields6 (vB k) ⟨#[]⟩ 0 ⟨#[]⟩ false) by rw [hw1]; exact HB.out.alloc _)
      have BW := Lib.hid (show Below b w w1 by rw [hw1]; exact (Below.refl b w).alloc (Nat.le_of_lt HB.out.lt) _)
      have WA : Hid (WordsAt w1 (some ⟨w.heap.size, 0, none⟩) ss) := Lib.hid ⟨fun ad e k x hx => by
        obtain rfl := Option.some.inj e
        rw [hw1, show (⟨w.heap.size, 0, none⟩ : Addr).add k = ⟨w.heap.size, k, none⟩ from (Lib.add_plain w.heap.size 0 k).trans (by rw [Nat.zero_add]), cell_of_row _ _ k _ 9 (0, 0) (heap_alloc_new w _)]
        simp [hx], fun _ e => by cases e⟩
      have HAB := Lib.hid (show ∀ ad, some (⟨w.heap.size, 0, none⟩ : Addr) = some ad → ad.block ≠ b from fun ad e => by
        obtain rfl := Option.some.inj e
        have := HB.out.lt
        show w.heap.size ≠ b
        omega)
      have HCP := Lib.hid (show ss.length ≤ ss.length from Nat.le_refl _)
      have l0 : (0 : Int) ≤ (ss.length : Int) := Int.natCast_nonneg _
      have l9 : (ss.length : Int) ≤ 100001 := by have := HLS.out; omega
      clear hw1 SP HB HT c0 hb

      have CT := Lib.hid (contains_any w1 (some ⟨w.heap.size, 0, none⟩) ss.length ss ⟨#[]⟩ (by have := HLS.out; omega) WA.out.1 WA.out.2)
      go_wp2_with fail
      refine CT.out.mono ?_
      rintro e w9 ⟨rfl, h9⟩
      obtain rfl := h9.symm
      clear CT
      cases he : hasB ⟨#[]⟩ ss with
      | true =>
        have HV := Lib.hid (show R = none by rw [HR.out, if_pos he])
        clear he
        go_wp2
        go_ret
        exact ⟨.inr ⟨HV.out, rfl⟩, BW.out⟩
      | false =>
        have HNE := Lib.hid (hasB_no he)
        have HR2 := Lib.hid (show R = if hasFK k = true ∧ ss.length = 2 ∧ ss[1]? = some bForce then (readW k (ss.take 1)).map fun x => (x.1, x.2, ⟨#[]⟩, true) else (readW k ss).map fun x => (x.1, x.2, ⟨#[]⟩, false) by rw [HR.out, if_neg (by rw [he]; simp)])
        clear he HR
        have x0 := KW.out.cell 0
        have RW := Lib.hid (readWords_any k HK.out w1 b false (some ⟨w.heap.size, 0, none⟩) ss.length ss KW.out WA.out (by have := HLS.out; omega) (fun x hx => ⟨HSZ.out x hx, HNE.out x hx⟩) HAB.out HCP.out)
        have HF := Lib.hid fun W => hasForce_any k HK.out W
        by_cases hc : hasFK k = true ∧ ss.length = 2 ∧ ss[1]? = some bForce
        · obtain ⟨f1, f2, f3⟩ := hc
          have HV := Lib.hid (show R = (readW k (ss.take 1)).map fun x => (x.1, x.2, ⟨#[]⟩, true) by rw [HR2.out, if_pos ⟨f1, f2, f3⟩])
          obtain ⟨x, y, hss⟩ := two_of f2
          obtain rfl : y = bForce := by rw [hss] at f3; simpa using f3
          have WT := Lib.hid (words_take WA.out 1)
          have TK := Lib.hid (show ss.take 1 = [x] by rw [hss]; rfl)
          obtain ⟨ad, hA⟩ : ∃ ad, (some (⟨w.heap.size, 0, none⟩ : Addr)) = some ad := by
            cases hq : ((some ⟨w.heap.size, 0, none⟩) : Option Addr) with
            | none => exact absurd hq (WA.out.2 (by rw [hss]; simp))
            | some ad => exact ⟨ad, rfl⟩
          have hcy := WA.out.1 ad hA 1 bForce (by rw [hss]; rfl)
          have f0 := KW.out.frozen 4
          have x4 := KW.out.cell 4
          have KF := Lib.hid (set_force KW.out true)
          have BF := Lib.hid ((BW.out).setCell (p := ⟨b, 4, none⟩) (Nat.le_refl b) (.bool true))
          have WF := Lib.hid (words_set (b := b) (i := 4) (u := .bool true) WT.out HAB.out)
          have hc2 : 2 ≤ ss.length := by have := HCP.out; omega
          have RF := Lib.hid fun c => readWords_any k HK.out (w1.setCell ⟨b, 4, none⟩ (.bool true)) b true (some ⟨w.heap.size, 0, none⟩) c (ss.take 1) KF.out WF.out (by rw [TK.out]; simp) (fun z hz => by
            have hm : z ∈ ss := List.mem_of_mem_take hz
            exact ⟨HSZ.out z hm, HNE.out z hm⟩) HAB.out
          rw [show (ss.take 1).length = 1 by rw [TK.out]; rfl] at RF
          rw [f1] at HF
          have f2i : (ss.length : Int) = 2 := by omega
          have f2b : ((ss.length : Int) == 2) = true := by rw [f2]; rfl
          unfold bForce at hcy
          clear HR2 f1 f2 f3 hss RW WT
          obtain rfl := Option.some.inj hA
          rw [show (⟨w.heap.size, 0, none⟩ : Addr).add 1 = ⟨w.heap.size, 1, none⟩ from rfl] at hcy
          go_wp2_with (go_at_call 63; refine (HF.out _).mono ?_; rintro e w8 ⟨rfl, h8⟩; obtain rfl := h8.symm)
          refine (RF.out ss.length (by omega)).mono ?_
          intro e w7 h7
          have H7 := Lib.hid (RW_Rd h7 HV.out BF.out)
          obtain ⟨bb, rfl⟩ := RWTo.val h7
          clear h7
          go_wp2
          go_ret
          exact H7.out
        · have HV := Lib.hid (show R = (readW k ss).map fun x => (x.1, x.2, ⟨#[]⟩, false) by rw [HR2.out, if_neg hc])
          clear HR2
          have FIN := Lib.hid fun e w7 (h7 : RWTo k false b (readW k ss) w1 e w7) => RW_Rd h7 HV.out BW.out
          have l0 : (0 : Int) ≤ (ss.length : Int) := Int.natCast_nonneg _
          cases hf : hasFK k with
          | false =>
            rw [hf] at HF
            clear hc hf HV
            go_wp2_with (go_at_call 63; refine (HF.out _).mono ?_; rintro e w8 ⟨rfl, h8⟩; obtain rfl := h8.symm)
            refine RW.out.mono ?_
            intro e w7 h7
            have H7 := Lib.hid (FIN.out e w7 h7)
            obtain ⟨bb, rfl⟩ := RWTo.val h7
            clear h7
            go_wp2
            go_ret
            exact H7.out
          | true =>
            rw [hf] at HF
            by_cases h2 : ss.length = 2
            · obtain ⟨x, y, hss⟩ := two_of h2
              obtain ⟨ad, hA⟩ : ∃ ad, (some (⟨w.heap.size, 0, none⟩ : Addr)) = some ad := by
                cases hq : ((some ⟨w.heap.size, 0, none⟩) : Option Addr) with
                | none => exact absurd hq (WA.out.2 (by rw [hss]; simp))
                | some ad => exact ⟨ad, rfl⟩
              have hcy := WA.out.1 ad hA 1 y (by rw [hss]; rfl)
              have hne : ¬ y = bForce := fun e => hc ⟨hf, h2, by rw [hss, e]; rfl⟩
              have h2i : (ss.length : Int) = 2 := by omega
              have h2b : ((ss.length : Int) == 2) = true := by rw [h2]; rfl
              have e1 : ¬ y.toList = [45, 102] := fun e => hne (eq_of_toListB e)
              have e2 : (y.toList == [45, 102]) = false := by simpa using e1
              clear hc hf HV h2 hss hne
              obtain rfl := Option.some.inj hA
              rw [show (⟨w.heap.size, 0, none⟩ : Addr).add 1 = ⟨w.heap.size, 1, none⟩ from rfl] at hcy
              go_wp2_with (go_at_call 63; refine (HF.out _).mono ?_; rintro e w8 ⟨rfl, h8⟩; obtain rfl := h8.symm)
              refine RW.out.mono ?_
              intro e w7 h7
              have H7 := Lib.hid (FIN.out e w7 h7)
              obtain ⟨bb, rfl⟩ := RWTo.val h7
              clear h7
              go_wp2
              go_ret
              exact H7.out
            · have h2i : ¬ (ss.length : Int) = 2 := by omega
              have h2b : ((ss.length : Int) == 2) = false := by rw [beq_eq_false_iff_ne]; omega
              clear hc hf HV h2
              go_wp2_with (go_at_call 63; refine (HF.out _).mono ?_; rintro e w8 ⟨rfl, h8⟩; obtain rfl := h8.symm)
              refine RW.out.mono ?_
              intro e w7 h7
              have H7 := Lib.hid (FIN.out e w7 h7)
              obtain ⟨bb, rfl⟩ := RWTo.val h7
              clear h7
              go_wp2
              go_ret
              exact H7.out
end Go.Proofs.YtanjcjnkppnhcaaGreatDoor

namespace Go.Proofs.YtanjcjnkppnhcaaGreatDoor
open Go Go.RowKit

inductive PR where
  | bad (p : Int) (e : Int)
  | deep (p : Int) (i : Nat) (e : Int)
  | ok (k : Nat) (nm : ByteArray) (n : Nat) (tx : ByteArray) (f : Bool) (l : List Fl)
/-- What was read behind the k-th verb, and the steps. -/
def parseR (k : Nat) (rk : Option (ByteArray × Nat × ByteArray × Bool)) (pp : (List Fl) ⊕ (Nat × Int)) : PR :=
  match rk with
  | none => .bad k 2
  | some x => match pp with
    | .inr y => .deep k y.1 y.2
    | .inl l => if checkK k x.1 (x.2.1 : Int) x.2.2.1 l ≠ 0 then .bad k (checkK k x.1 (x.2.1 : Int) x.2.2.1 l) else .ok k x.1 x.2.1 x.2.2.1 x.2.2.2 l
/-- Behind a verb that is one. -/
def parseV (k : Nat) (lines : Bool) (more : List UInt8) (said : ByteArray) (given : Bool) : PR :=
  if lines = true ∧ k ≠ 14 then .bad k 2
  else parseR k (readK k said given) (parseP (nls more) 0 [])
def parseK (s : List UInt8) : PR :=
  if placeV (mkW (cutL 32 (cutL 10 s).1).1) = -1 then .bad (-1) 5
  else parseV (placeV (mkW (cutL 32 (cutL 10 s).1).1)).toNat (cutL 10 s).2.2 (cutL 10 s).2.1 (mkW (cutL 32 (cutL 10 s).1).2.1) (cutL 32 (cutL 10 s).1).2.2
abbrev zero6 : Array Value := #[.string ⟨#[]⟩, .string ⟨#[]⟩, .int .i64 0, .string ⟨#[]⟩, .bool false, .slice none 0 0]
def PTo (o : PR) (w : World) (e : Ending) (w' : World) : Prop :=
  (match o with
    | .bad p c => ∃ F, e = .returned (.tuple #[.agg zero6, .iface 76 (.pointer (some ⟨F, 0, none⟩))]) ∧ Blk w' F 78 #[.string bCmd, .int .i64 p, .iface 73 (.int .i64 c)]
    | .deep p i c => ∃ F F1, e = .returned (.tuple #[.agg zero6, .iface 76 (.pointer (some ⟨F, 0, none⟩))]) ∧ Blk w' F 78 #[.string bCmd, .int .i64 p, .iface 76 (.pointer (some ⟨F1, 0, none⟩))] ∧ Blk w' F1 78 #[.string bLine, .int .i64 i, .iface 73 (.int .i64 c)]
    | .ok k nm n tx f l => ∃ A c, e = .returned (.tuple #[cpV (vB k, nm, (n : Int), tx, f, l) A c, .nilIface]) ∧ Reads 3 cF w' (.slice A l.length c) l) ∧ Below w.heap.size w w'
theorem row6t {w : World} {g : Nat} {t : TypeId} {cs : Array Value} (h : Blk w g t cs) (hs : cs.size = 6) (a b c d e f : Value) :
    Blk ((((((w.setCell ⟨g, 0, none⟩ a).setCell ⟨g, 1, none⟩ b).setCell ⟨g, 2, none⟩ c).setCell ⟨g, 3, none⟩ d).setCell ⟨g, 4, none⟩ e).setCell ⟨g, 5, none⟩ f) g t #[a, b, c, d, e, f] := by
  match cs, hs with
  | ⟨[x0, x1, x2, x3, x4, x5]⟩, _ =>
    have h0 := h.set_ 0 a
    simp only [List.setIfInBounds_toArray, List.set_cons_zero] at h0
    generalize w.setCell ⟨g, 0, none⟩ a = w0 at *
    have h1 := h0.set_ 1 b
    simp only [List.setIfInBounds_toArray, List.set_cons_zero, List.set_cons_succ] at h1
    generalize w0.setCell ⟨g, 1, none⟩ b = w1 at *
    have h2 := h1.set_ 2 c
    simp only [List.setIfInBounds_toArray, List.set_cons_zero, List.set_cons_succ] at h2
    generalize w1.setCell ⟨g, 2, none⟩ c = w2 at *
    have h3 := h2.set_ 3 d
    simp only [List.setIfInBounds_toArray, List.set_cons_zero, List.set_cons_succ] at h3
    generalize w2.setCell ⟨g, 3, none⟩ d = w3 at *
    have h4 := h3.set_ 4 e
    simp only [List.setIfInBounds_toArray, List.set_cons_zero, List.set_cons_succ] at h4
    generalize w3.setCell ⟨g, 4, none⟩ e = w4 at *
    have h5 := h4.set_ 5 f
    simp only [List.setIfInBounds_toArray, List.set_cons_zero, List.set_cons_succ] at h5
    exact h5
theorem own6t {w : World} {B g n : Nat} {v : Value} {xs : List Value} (h : w.ownsRow B 41 3 v n xs) {cs : Array Value} (hg : Blk w g 52 cs) (a b c d e f : Value) :
    ((((((w.setCell ⟨g, 0, none⟩ a).setCell ⟨g, 1, none⟩ b).setCell ⟨g, 2, none⟩ c).setCell ⟨g, 3, none⟩ d).setCell ⟨g, 4, none⟩ e).setCell ⟨g, 5, none⟩ f).ownsRow B 41 3 v n xs := by
  have hne := own_blk_ne h hg (by decide)
  exact ownsRow_setCell_other (ownsRow_setCell_other (ownsRow_setCell_other (ownsRow_setCell_other (ownsRow_setCell_other (ownsRow_setCell_other h (a := ⟨g, 0, none⟩) hne a) (a := ⟨g, 1, none⟩) hne b) (a := ⟨g, 2, none⟩) hne c) (a := ⟨g, 3, none⟩) hne d) (a := ⟨g, 4, none⟩) hne e) (a := ⟨g, 5, none⟩) hne f
theorem cmdSize : (Tryz.prog.info? 52).map (·.size) = some 6 := by kernel_rfl
/-- The result's block stands, nothing below is changed. -/
structure PS (w : World) (g : Nat) (v : World) : Prop where
  res : Blk v g 52 zero6
  bel : Below w.heap.size w v
  at_ : g = w.heap.size
theorem PS.below {w : World} {g : Nat} {v v' : World} (h : PS w g v) (hb : Below v.heap.size v v') : PS w g v' :=
  ⟨h.res.below hb h.res.lt, h.bel.trans (hb.mono h.bel.size), h.at_⟩
theorem PS.belowB {w : World} {g B : Nat} {v v' : World} (h : PS w g v) (hb : Below B v v') (hg : g < B) (hB : w.heap.size ≤ B) : PS w g v' :=
  ⟨h.res.below hb hg, h.bel.trans (hb.mono hB), h.at_⟩
theorem set_todo {w : World} {b : Nat} {v nm : ByteArray} {n : Int} {tx : ByteArray} {f : Bool} (h : Blk w b 52 (fields6 v nm n tx f)) (x : Value) : Blk (w.setCell ⟨b, 5, none⟩ x) b 52 #[.string v, .string nm, .int .i64 n, .string tx, .bool f, x] := by
  have := h.set_ 5 x
  simpa using this
theorem PS.cells {w : World} {g : Nat} {v : World} (h : PS w g v) : v.cell? ⟨g, 0, none⟩ = some (.string ⟨#[]⟩) ∧ v.cell? ⟨g, 1, none⟩ = some (.string ⟨#[]⟩) ∧ v.cell? ⟨g, 2, none⟩ = some (.int .i64 0) ∧ v.cell? ⟨g, 3, none⟩ = some (.string ⟨#[]⟩) ∧ v.cell? ⟨g, 4, none⟩ = some (.bool false) ∧ v.cell? ⟨g, 5, none⟩ = some (.slice none 0 0) :=
  ⟨h.res.cell 0, h.res.cell 1, h.res.cell 2, h.res.cell 3, h.res.cell 4, h.res.cell 5⟩
theorem PS.frozen {w : World} {g : Nat} {v : World} (h : PS w g v) : v.frozen? ⟨g, 0, none⟩ = false ∧ v.frozen? ⟨g, 1, none⟩ = false ∧ v.frozen? ⟨g, 2, none⟩ = false ∧ v.frozen? ⟨g, 3, none⟩ = false ∧ v.frozen? ⟨g, 4, none⟩ = false ∧ v.frozen? ⟨g, 5, none⟩ = false :=
  ⟨h.res.frozen 0, h.res.frozen 1, h.res.frozen 2, h.res.frozen 3, h.res.frozen 4, h.res.frozen 5⟩
theorem PS.below6 {w : World} {g : Nat} {v : World} (h : PS w g v) (a b c d e f : Value) : Below w.heap.size w ((((((v.setCell ⟨g, 0, none⟩ a).setCell ⟨g, 1, none⟩ b).setCell ⟨g, 2, none⟩ c).setCell ⟨g, 3, none⟩ d).setCell ⟨g, 4, none⟩ e).setCell ⟨g, 5, none⟩ f) :=
  Go.Proofs.YtanjcjnkppnhcaaGreatDoor.below6 h.bel (by rw [h.at_]; exact Nat.le_refl _) a b c d e f
theorem PR.place {s : List UInt8} {k : Nat} (h : placeV (mkW (cutL 32 (cutL 10 s).1).1) = (k : Int)) : parseK s = parseV k (cutL 10 s).2.2 (cutL 10 s).2.1 (mkW (cutL 32 (cutL 10 s).1).2.1) (cutL 32 (cutL 10 s).1).2.2 := by
  unfold parseK
  rw [h, if_neg (by omega)]
  rfl
theorem verb_not14 {k : Nat} (hk : k < 20) (h : k ≠ 14) : ¬ (vB k).toList = [114, 101, 98, 97, 115, 101] := by
  have := verb_not hk h
  simpa using this
theorem fls_mk_size {l x : List UInt8} (h : x ∈ fls l) : (mkW x).size ≤ l.length := by rw [mkW_size]; exact fls_le h
theorem readW_size {k : Nat} {ss : List ByteArray} {nm : ByteArray} {n B : Nat} (h : readW k ss = some (nm, n)) (hs : ∀ x ∈ ss, x.size ≤ B) : nm.size ≤ B := by
  unfold readW at h
  split at h
  · cases h; exact Nat.zero_le _
  · split at h
    · split at h
      · cases h; exact hs _ (by simp)
      · cases h
    · split at h
      · split at h
        · split at h
          · obtain ⟨x, _, hx⟩ := Option.map_eq_some_iff.1 h
            cases hx; exact Nat.zero_le _
          · cases h; exact hs _ (by simp)
        · cases h
      · split at h
        · split at h
          · obtain ⟨x, _, hx⟩ := Option.map_eq_some_iff.1 h
            cases hx; exact hs _ (by simp)
          · cases h
        · split at h
          · split at h
            · obtain ⟨x, _, hx⟩ := Option.map_eq_some_iff.1 h
              cases hx; exact Nat.zero_le _
            · cases h
          · split at h
            · cases h; exact Nat.zero_le _
            · cases h
theorem readK_size {k : Nat} {said : ByteArray} {given : Bool} {nm : ByteArray} {n : Nat} {tx : ByteArray} {f : Bool} (h : readK k said given = some (nm, n, tx, f)) (hs : said.size ≤ 100000) : nm.size ≤ 1000000 := by
  have hW : ∀ x ∈ wordsK said given, x.size ≤ 100000 := fun x hx => by
    unfold wordsK at hx
    split at hx
    · obtain ⟨y, hy, rfl⟩ := List.mem_map.1 hx
      have := fls_mk_size hy
      rw [size_listB] at this
      omega
    · cases hx
  unfold readK at h
  split at h
  · split at h
    · cases h; exact Nat.zero_le _
    · cases h
  · split at h
    · cases h
    · split at h
      · obtain ⟨x, hx, he⟩ := Option.map_eq_some_iff.1 h
        cases he
        have := readW_size (nm := x.1) (n := x.2) hx (fun y hy => hW y (List.mem_of_mem_take hy))
        omega
      · obtain ⟨x, hx, he⟩ := Option.map_eq_some_iff.1 h
        cases he
        have := readW_size (nm := x.1) (n := x.2) hx hW
        omega
set_option maxRecDepth 100000 in
set_option maxHeartbeats 16000000 in
theorem cmdParse_any (s : ByteArray) (w : World) (m : Int) (hm : w.cell? ⟨1, 0, none⟩ = some (.int .i64 m)) (h1 : 1 < w.heap.size) (hs : s.size ≤ 100000) :
    Calls Tryz.prog 31 #[.string s] w (PTo (parseK s.data.toList) w) := by
  have HM := Lib.hid fun W (hW : Below w.heap.size w W) => (show W.cell? ⟨1, 0, none⟩ = some (.int .i64 m) by rw [hW.cell h1]; exact hm)
  have C1 := Lib.hid fun W (hW : Below w.heap.size w W) => cut_one s 10 m W (by omega) (HM.out W hW)
  obtain ⟨⟨cl, cm, cb⟩, hc⟩ : ∃ x, x = cutL 10 s.data.toList := ⟨_, rfl⟩
  obtain ⟨⟨dv, ds, db⟩, hd⟩ : ∃ x, x = cutL 32 cl := ⟨_, rfl⟩
  have LC := cutL_len 10 s.data.toList
  rw [← hc] at C1 LC
  dsimp only at C1 LC
  rw [size_listB] at LC
  have LD := cutL_len 32 cl
  rw [← hd] at LD
  dsimp only at LD
  have C2 := Lib.hid fun W (hW : Below w.heap.size w W) => cut_one (mkW cl) 32 m W (by rw [mkW_size]; omega) (HM.out W hW)
  rw [list_mkW, ← hd] at C2
  dsimp only at C2
  obtain ⟨R, hR⟩ : ∃ R, R = parseK s.data.toList := ⟨_, rfl⟩
  have HR := Lib.hid (show R = parseK s.data.toList from hR)
  have HC := Lib.hid hc
  have HD := Lib.hid hd
  rw [← hR]
  have T0 : Hid (PS w w.heap.size (w.alloc (.cells zero6 52))) := Lib.hid ⟨Blk.new w _ _, (Below.refl _ _).alloc (Nat.le_refl _) _, rfl⟩
  have HDS := Lib.hid (show (mkW ds).size ≤ 100000 by rw [mkW_size]; omega)
  have HCM := Lib.hid (show (mkW cm).size ≤ 1000000 by rw [mkW_size]; omega)
  obtain ⟨g, hg⟩ : ∃ g, g = w.heap.size := ⟨_, rfl⟩
  rw [← hg] at T0
  clear hm h1 hs hc hd hR LC LD
  unfold zero6 at T0
  go_enter Tryz.func31, Tryz.ntmps31
  go_wp2_with fail
  rw [← hg]
  clear hg
  generalize w.alloc (.cells #[.string ⟨#[]⟩, .string ⟨#[]⟩, .int .i64 0, .string ⟨#[]⟩, .bool false, .slice none 0 0] 52) = w1 at *
  refine (C1.out _ T0.out.bel).mono ?_
  rintro e w2 ⟨rfl, q1, hw2⟩
  have T2 := Lib.hid (show PS w g w2 by rw [hw2]; exact T0.out.below (below_drewN (Below.refl _ _) q1))
  clear C1 hw2 T0
  go_wp2_with fail
  refine (C2.out _ T2.out.bel).mono ?_
  rintro e w3 ⟨rfl, q2, hw3⟩
  have T3 := Lib.hid (show PS w g w3 by rw [hw3]; exact T2.out.below (below_drewN (Below.refl _ _) q2))
  clear C2 hw3 T2
  have PL := Lib.hid fun W => place_any (mkW dv) W
  have T4 := Lib.hid (T3.out.below ((Below.refl _ _).alloc (Nat.le_refl _) (.cells #[.string (mkW dv), .string ⟨#[]⟩, .int .i64 0, .string ⟨#[]⟩, .bool false, .slice none 0 0] 52)))
  have K4 := Lib.hid (Blk.new w3 52 #[.string (mkW dv), .string ⟨#[]⟩, .int .i64 0, .string ⟨#[]⟩, .bool false, .slice none 0 0])
  obtain ⟨b, hb⟩ : ∃ b, b = w3.heap.size := ⟨_, rfl⟩
  have HGB := Lib.hid (show g < b by rw [hb]; exact T3.out.res.lt)
  rw [← hb] at K4
  go_wp2_with fail
  rw [← hb]
  clear hb T3
  generalize w3.alloc (.cells #[.string (mkW dv), .string ⟨#[]⟩, .int .i64 0, .string ⟨#[]⟩, .bool false, .slice none 0 0] 52) = w4 at *
  refine (PL.out _).mono ?_
  rintro e w5 ⟨rfl, d5⟩
  have T5 := Lib.hid (T4.out.below d5)
  have K5 := Lib.hid (K4.out.below d5 K4.out.lt)
  clear d5 T4 K4 PL
  rcases place_cases (mkW dv) with hp | ⟨k, hk, hv, hp⟩
  · have HV := Lib.hid (show R = .bad (-1) 5 by rw [HR.out]; unfold parseK; rw [← HC.out]; dsimp only; rw [← HD.out]; dsimp only; rw [hp]; rfl)
    have HPP := Lib.hid hp
    rw [hp]
    clear hp HR HC HD K5
    have FC := Lib.hid fun W => fault_cmd (mkW dv) 73 (.int .i64 5) W
    rw [HPP.out] at FC
    go_wp2_with fail
    refine (FC.out _).mono ?_
    rintro e w6 ⟨F, rfl, hF, hF2, d6⟩
    have T6 := Lib.hid (T5.out.below d6)
    have HF := Lib.hid hF
    have HGF : F ≠ g := by have := T5.out.res.lt; omega
    clear hF hF2 d6 FC T5
    obtain ⟨z0, z1, z2, z3, z4, z5⟩ := T6.out.cells
    obtain ⟨f0, f1, f2, f3, f4, f5⟩ := T6.out.frozen
    go_wp2
    exact bodyPost_ret (results_row_tmp1 (fn := Tryz.f31) rfl _ _ g 52 _ (0, 0) _ rfl (row6t T6.out.res rfl (.string ⟨#[]⟩) (.string ⟨#[]⟩) (.int .i64 0) (.string ⟨#[]⟩) (.bool false) (.slice none 0 0)) Tryz.underlying52 rfl cmdSize) rfl (by rw [HV.out]; exact ⟨⟨F, rfl, far6 HF.out HGF _ _ _ _ _ _⟩, T6.out.below6 _ _ _ _ _ _⟩)
  have HKK := Lib.hid hk
  have HR2 := Lib.hid (show R = parseV k cb cm (mkW ds) db by
    rw [HR.out]
    have := PR.place (s := s.data.toList) (k := k) (by rw [← HC.out]; dsimp only; rw [← HD.out]; exact hp)
    rw [this, ← HC.out]
    dsimp only
    rw [← HD.out])
  have hp14 := @verb_not14 k hk
  have hpp := place_vB hk
  rw [hp]
  rw [hv] at K5 ⊢
  have hkl : ((k : Int) == -1) = false := by rw [beq_eq_false_iff_ne]; omega
  clear hp hv HR HC HD
  have CKC := Lib.hid fun (nm : ByteArray) (n : Int) (tx : ByteArray) (f : Bool) (A : Option Addr) (l : List Fl) (c : Nat) (W : World) (hz : nm.size ≤ 1000000) (hr : Reads 3 cF W (.slice A l.length c) l) => check_cmd k hk nm n tx f A l c W hz hr
  have RD := Lib.hid fun W (hW : Below w.heap.size w W) (hB : Blk W b 52 (fields6 (vB k) ⟨#[]⟩ 0 ⟨#[]⟩ false)) => read_any k hk W b (mkW ds) db m (HM.out W hW) HDS.out hB
  have HP14 := Lib.hid hp14
  have HPV := Lib.hid hpp
  clear hp14 hpp hk
  by_cases hl : cb = true ∧ k ≠ 14
  · obtain ⟨rfl, hl2⟩ := hl
    have HV := Lib.hid (show R = .bad k 2 by rw [HR2.out]; unfold parseV; rw [if_pos ⟨rfl, hl2⟩])
    have e1 := HP14.out hl2
    have e2 : ((vB k).toList == [114, 101, 98, 97, 115, 101]) = false := by simpa using e1
    clear HR2 hl2 RD CKC
    obtain ⟨v, hv⟩ : ∃ v, v = vB k := ⟨_, rfl⟩
    rw [← hv] at e1 e2 HPV K5 ⊢
    clear hv
    have FC := Lib.hid fun W => fault_cmd v 73 (.int .i64 2) W
    rw [HPV.out] at FC
    go_wp2_with fail
    refine (FC.out _).mono ?_
    rintro e w6 ⟨F, rfl, hF, hF2, d6⟩
    have T6 := Lib.hid (T5.out.below d6)
    have HF := Lib.hid hF
    have HGF : F ≠ g := by have := T5.out.res.lt; omega
    clear hF hF2 d6 FC T5
    obtain ⟨z0, z1, z2, z3, z4, z5⟩ := T6.out.cells
    obtain ⟨f0, f1, f2, f3, f4, f5⟩ := T6.out.frozen
    go_wp2
    exact bodyPost_ret (results_row_tmp1 (fn := Tryz.f31) rfl _ _ g 52 _ (0, 0) _ rfl (row6t T6.out.res rfl (.string ⟨#[]⟩) (.string ⟨#[]⟩) (.int .i64 0) (.string ⟨#[]⟩) (.bool false) (.slice none 0 0)) Tryz.underlying52 rfl cmdSize) rfl (by rw [HV.out]; exact ⟨⟨F, rfl, far6 HF.out HGF _ _ _ _ _ _⟩, T6.out.below6 _ _ _ _ _ _⟩)
  have HL := Lib.hid hl
  clear hl
  have RDK := Lib.hid (RD.out w5 T5.out.bel K5.out)
  obtain ⟨rk, hrk⟩ : ∃ rk, rk = readK k (mkW ds) db := ⟨_, rfl⟩
  rw [← hrk] at RDK
  have HR3 := Lib.hid (show R = parseR k rk (parseP (nls cm) 0 []) by rw [HR2.out, hrk]; unfold parseV; rw [if_neg HL.out])
  have HRK := Lib.hid (show ∀ nm n tx f, rk = some (nm, n, tx, f) → nm.size ≤ 1000000 from fun nm n tx f e => readK_size (hrk.symm.trans e) HDS.out)
  clear hrk HR2 RD
  have HVB := Lib.hid (show Blk w5 b 52 (fields6 (vB k) ⟨#[]⟩ 0 ⟨#[]⟩ false) from K5.out)
  obtain ⟨v, hv⟩ : ∃ v, v = vB k := ⟨_, rfl⟩
  have HVV := Lib.hid hv
  rw [← hv] at HPV ⊢
  have hl1 : (cb && !(v.toList == [114, 101, 98, 97, 115, 101])) = false := by
    cases cb with
    | false => rfl
    | true =>
      have h14 : k = 14 := by
        rcases Nat.decEq k 14 with h | h
        · exact absurd ⟨rfl, h⟩ HL.out
        · exact h
      rw [HVV.out, h14]
      decide +kernel
  clear hv
  go_upto_region 6 with fail
  go_cut [45] (fun s45 wx => (∃ nm n tx f, rk = some (nm, n, tx, f) ∧ s45 = .bool false ∧ Hid (PS w g wx) ∧ Hid (Blk wx b 52 (fields6 (vB k) nm ((n : Nat) : Int) tx f))) ∨ (rk = none ∧ s45 = .bool true ∧ Hid (PS w g wx)))
  case first =>
    cases cb with
    | false =>
      go_wp2_with fail
      refine RDK.out.mono ?_
      intro e w6 h6
      obtain ⟨h7, d6⟩ := h6
      have T6 := Lib.hid (T5.out.belowB d6 HGB.out (by rw [← T5.out.at_]; exact Nat.le_of_lt HGB.out))
      clear d6 T5 K5 HVB RDK hl1
      rcases h7 with ⟨nm, n, tx, f, hrk, rfl, hk6⟩ | ⟨hrk, rfl⟩
      · have K6 := Lib.hid hk6
        clear hk6
        go_wp2_with fail
        go_meet
        exact .inl ⟨nm, n, tx, f, hrk, rfl, T6, K6⟩
      · go_wp2_with fail
        go_meet
        exact .inr ⟨hrk, rfl, T6⟩
    | true =>
      have h14 := Lib.hid (show v.toList = [114, 101, 98, 97, 115, 101] by simpa using hl1)
      have e1 := h14.out
      have e2 : (v.toList == [114, 101, 98, 97, 115, 101]) = true := by rw [e1]; rfl
      go_wp2_with fail
      refine RDK.out.mono ?_
      intro e w6 h6
      obtain ⟨h7, d6⟩ := h6
      have T6 := Lib.hid (T5.out.belowB d6 HGB.out (by rw [← T5.out.at_]; exact Nat.le_of_lt HGB.out))
      clear d6 T5 K5 HVB RDK hl1
      rcases h7 with ⟨nm, n, tx, f, hrk, rfl, hk6⟩ | ⟨hrk, rfl⟩
      · have K6 := Lib.hid hk6
        clear hk6
        go_wp2_with fail
        go_meet
        exact .inl ⟨nm, n, tx, f, hrk, rfl, T6, K6⟩
      · go_wp2_with fail
        go_meet
        exact .inr ⟨hrk, rfl, T6⟩
  case rest =>
    clear T5 K5 HVB RDK hl1
    rcases hcut with ⟨nm, n, tx, f, rfl, rfl, T6, K6⟩ | ⟨rfl, rfl, T6⟩
    case inr =>
      have HV := Lib.hid (show R = .bad k 2 from HR3.out)
      clear HR3 HRK CKC
      have FC := Lib.hid fun W => fault_cmd v 73 (.int .i64 2) W
      rw [HPV.out] at FC
      go_wp2_with fail
      refine (FC.out _).mono ?_
      rintro e w7 ⟨F, rfl, hF, hF2, d7⟩
      have T7 := Lib.hid (T6.out.below d7)
      have HF := Lib.hid hF
      have HGF : F ≠ g := by have := T6.out.res.lt; omega
      clear hF hF2 d7 FC T6
      obtain ⟨z0, z1, z2, z3, z4, z5⟩ := T7.out.cells
      obtain ⟨f0, f1, f2, f3, f4, f5⟩ := T7.out.frozen
      go_wp2
      exact bodyPost_ret (results_row_tmp1 (fn := Tryz.f31) rfl _ _ g 52 _ (0, 0) _ rfl (row6t T7.out.res rfl (.string ⟨#[]⟩) (.string ⟨#[]⟩) (.int .i64 0) (.string ⟨#[]⟩) (.bool false) (.slice none 0 0)) Tryz.underlying52 rfl cmdSize) rfl (by rw [HV.out]; exact ⟨⟨F, rfl, far6 HF.out HGF _ _ _ _ _ _⟩, T7.out.below6 _ _ _ _ _ _⟩)
    have HNM := Lib.hid (HRK.out nm n tx f rfl)
    have HR4 := Lib.hid (show R = match parseP (nls cm) 0 [] with
      | .inr y => .deep k y.1 y.2
      | .inl l => if checkK k nm (n : Int) tx l ≠ 0 then .bad k (checkK k nm (n : Int) tx l) else .ok k nm n tx f l from HR3.out)
    have PA := Lib.hid fun W (hW : Below w.heap.size w W) => parse_any (mkW cm) W m (HM.out W hW) HCM.out
    rw [list_mkW] at PA
    generalize parseP (nls cm) 0 [] = pp at *
    clear HR3 HRK
    go_wp2_with fail
    refine (PA.out _ T6.out.bel).mono ?_
    rintro e w7 (⟨xs, u, rfl, rfl, o7, h32, d7⟩ | ⟨i, c, F, rfl, rfl, hF, F7, d7⟩)
    case inr =>
      have HV := Lib.hid (show R = .deep k i c from HR4.out)
      have T7 := Lib.hid (T6.out.below d7)
      have G7 := Lib.hid (show Blk wc F 78 #[.string bLine, .int .i64 i, .iface 73 (.int .i64 c)] ∨ True from .inr trivial)
      have FB7 := Lib.hid (show Blk w7 F 78 #[.string bLine, .int .i64 i, .iface 73 (.int .i64 c)] from F7)
      have HGF1 : F ≠ g := by have := T6.out.res.lt; omega
      have FC := Lib.hid fun W => fault_cmd v 76 (.pointer (some ⟨F, 0, none⟩)) W
      rw [HPV.out] at FC
      clear HR4 CKC hF F7 d7 PA T6 K6 G7
      go_wp2_with fail
      refine (FC.out _).mono ?_
      rintro e w8 ⟨F8, rfl, hF8, hG8, d8⟩
      have T8 := Lib.hid (T7.out.below d8)
      have FB8 := Lib.hid (FB7.out.below d8 FB7.out.lt)
      have HF := Lib.hid hF8
      have HGF : F8 ≠ g := by have := T7.out.res.lt; omega
      clear hF8 hG8 d8 FC T7 FB7
      obtain ⟨z0, z1, z2, z3, z4, z5⟩ := T8.out.cells
      obtain ⟨f0, f1, f2, f3, f4, f5⟩ := T8.out.frozen
      go_wp2
      exact bodyPost_ret (results_row_tmp1 (fn := Tryz.f31) rfl _ _ g 52 _ (0, 0) _ rfl (row6t T8.out.res rfl (.string ⟨#[]⟩) (.string ⟨#[]⟩) (.int .i64 0) (.string ⟨#[]⟩) (.bool false) (.slice none 0 0)) Tryz.underlying52 rfl cmdSize) rfl (by rw [HV.out]; exact ⟨⟨F8, F, rfl, far6 HF.out HGF _ _ _ _ _ _, far6 FB8.out HGF1 _ _ _ _ _ _⟩, T8.out.below6 _ _ _ _ _ _⟩)
    have HR5 := Lib.hid (show R = if checkK k nm (n : Int) tx xs ≠ 0 then .bad k (checkK k nm (n : Int) tx xs) else .ok k nm n tx f xs from HR4.out)
    obtain ⟨A7, c7, rfl⟩ := own_form o7
    have T7 := Lib.hid (T6.out.below d7)
    have K7 := Lib.hid (K6.out.below d7 K6.out.lt)
    have O7 := Lib.hid o7
    clear HR4 d7 o7 PA K6
    have x5 := K7.out.cell 5
    have f5 := K7.out.frozen 5
    have x0 := K7.out.cell 0
    have x1 := K7.out.cell 1
    have x2 := K7.out.cell 2
    have x3 := K7.out.cell 3
    have x4 := K7.out.cell 4
    have K8 := Lib.hid (set_todo K7.out (.slice A7 xs.length c7))
    have hne : g ≠ b := by have := HGB.out; omega
    have T8 : Hid (PS w g (w7.setCell ⟨b, 5, none⟩ (.slice A7 xs.length c7))) := Lib.hid ⟨T7.out.res.far (p := ⟨b, 5, none⟩) hne _, T7.out.bel.setCell (p := ⟨b, 5, none⟩) (by rw [← T7.out.at_]; exact Nat.le_of_lt HGB.out) _, T7.out.at_⟩
    have O8 := Lib.hid (ownsRow_setCell_other O7.out (a := ⟨b, 5, none⟩) (own_blk_ne O7.out K7.out (by decide)) (.slice A7 xs.length c7))
    have CK := Lib.hid (CKC.out nm n tx f A7 xs c7 _ HNM.out (Reads.of_own (enc := cF) cF_len O8.out))
    unfold cmdV at CK
    clear T6 T7 K7 O7 CKC HNM
    go_wp2_with fail
    refine CK.out.mono ?_
    intro e w9 h9
    obtain ⟨h10, d9⟩ := h9
    have T9 := Lib.hid (T8.out.below d9)
    have K9 := Lib.hid (K8.out.below d9 K8.out.lt)
    have O9 := Lib.hid (own_keep O8.out d9)
    clear d9 T8 K8 O8 CK x0 x1 x2 x3 x4 x5 f5
    rcases h10 with ⟨h0, rfl⟩ | ⟨F, h0, rfl, hF⟩
    case inr =>
      have HV := Lib.hid (show R = .bad k (checkK k nm (n : Int) tx xs) by rw [HR5.out, if_pos h0])
      have HF := Lib.hid hF
      have HGF : F ≠ g := HF.out.ne_ T9.out.res (by decide)
      clear hF h0 HR5 K9 O9
      obtain ⟨z0, z1, z2, z3, z4, z5⟩ := T9.out.cells
      obtain ⟨f0, f1, f2, f3, f4, f5⟩ := T9.out.frozen
      go_wp2
      exact bodyPost_ret (results_row_tmp1 (fn := Tryz.f31) rfl _ _ g 52 _ (0, 0) _ rfl (row6t T9.out.res rfl (.string ⟨#[]⟩) (.string ⟨#[]⟩) (.int .i64 0) (.string ⟨#[]⟩) (.bool false) (.slice none 0 0)) Tryz.underlying52 rfl cmdSize) rfl (by rw [HV.out]; exact ⟨⟨F, rfl, far6 HF.out HGF _ _ _ _ _ _⟩, T9.out.below6 _ _ _ _ _ _⟩)
    have HV := Lib.hid (show R = .ok k nm n tx f xs by rw [HR5.out, if_neg (by rw [h0]; simp)])
    have x0 := K9.out.cell 0
    have x1 := K9.out.cell 1
    have x2 := K9.out.cell 2
    have x3 := K9.out.cell 3
    have x4 := K9.out.cell 4
    have x5 := K9.out.cell 5
    clear h0 HR5
    obtain ⟨z0, z1, z2, z3, z4, z5⟩ := T9.out.cells
    obtain ⟨f0, f1, f2, f3, f4, f5⟩ := T9.out.frozen
    go_wp2
    exact bodyPost_ret (results_row_tmp1 (fn := Tryz.f31) rfl _ _ g 52 _ (0, 0) _ rfl (row6t T9.out.res rfl (.string (vB k)) (.string nm) (.int .i64 (n : Int)) (.string tx) (.bool f) (.slice A7 xs.length c7)) Tryz.underlying52 rfl cmdSize) rfl (by rw [HV.out]; exact ⟨⟨A7, c7, rfl, Reads.of_own (enc := cF) cF_len (own6t O9.out T9.out.res _ _ _ _ _ _)⟩, T9.out.below6 _ _ _ _ _ _⟩)
end Go.Proofs.YtanjcjnkppnhcaaGreatDoor
