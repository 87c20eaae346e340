/-
  cmd.Text: a command in words.
-/
import Derived.Test.YtanjcjnkppnhcaaGreatDoorQAV
import Derived.Test.YtanjcjnkppnhcaaGreatDoorQAW

namespace Go.Proofs.YtanjcjnkppnhcaaGreatDoor
open Go Go.RowKit

/-- A command in words. -/
def textK (k : Nat) (nm : ByteArray) (n : Int) (tx : ByteArray) (f : Bool) (l : List Fl) : List UInt8 :=
  (vB k).data.toList ++ (if hasNmK k = true ∧ nm ≠ ⟨#[]⟩ then 32 :: nm.data.toList else []) ++ (if hasNK k nm = true then 32 :: Lib.itoa n else []) ++ (if hasFK k = true ∧ f = true then [32, 45, 102] else []) ++
    (if hasTK k = true ∧ tx ≠ ⟨#[]⟩ then 32 :: tx.data.toList else []) ++ (if k = 14 then 10 :: stepsG l else [])
def SaidTo (L : List UInt8) (w : World) (e : Ending) (w' : World) : Prop := ∃ s : ByteArray, e = .returned (.string s) ∧ s.data.toList = L ∧ Below w.heap.size w w'
theorem numB_list (n : Int) : (numB n).data.toList = Lib.itoa n := by unfold numB; simp
theorem hasNK_e : hasNK 5 ⟨#[]⟩ = true := by rw [hasNK_5, ByteArray.toList_eq]; rfl
theorem hasNK_ne {nm : ByteArray} (h : nm.toList.isEmpty = false) : hasNK 5 nm = false := by rw [hasNK_5, h]
attribute [-go_sem] run_string_add_if in
set_option maxRecDepth 100000 in
set_option maxHeartbeats 8000000 in
theorem cmdText_0 (nm : ByteArray) (n : Int) (tx : ByteArray) (f : Bool) (A : Option Addr) (l : List Fl) (c : Nat) (w : World) (hnm : nm.size ≤ 1000) (htx : tx.size ≤ 1000) (hn0 : -9223372036854775808 ≤ n) (hn1 : n ≤ 9223372036854775807) (hl : Reads 3 cF w (.slice A l.length c) l) (hll : l.length ≤ 100) (hls : ∀ x ∈ l, StepOkG x) (hT : PowTab w) :
    Calls Tryz.prog 29 #[.agg #[.string ⟨#[97, 100, 100]⟩, .string nm, .int .i64 n, .string tx, .bool f, .slice A l.length c]] w (SaidTo (textK 0 nm n tx f l) w) := by
  have HB := Lib.hid ((Below.refl w.heap.size w).alloc (Nat.le_refl _) (.cells #[.string ⟨#[97, 100, 100]⟩, .string nm, .int .i64 n, .string tx, .bool f, .slice A l.length c] 52))
  have HZ := Lib.hid (Blk.new w 52 #[.string ⟨#[97, 100, 100]⟩, .string nm, .int .i64 n, .string tx, .bool f, .slice A l.length c])
  have HL := Lib.hid fun W (hW : Below w.heap.size w W) => hl.below hW
  have _keep := And.intro hnm (And.intro htx (And.intro hll hls))
  clear _keep
  have HT := Lib.hid fun W (hW : Below w.heap.size w W) => tabIs_below hT hW
  have H1 := Lib.hid fun W => (show Calls Tryz.prog 61 #[.string ⟨#[97, 100, 100]⟩] W fun e w' => e = .returned (.bool true) ∧ w' = W from hasName_any 0 (by decide) W)
  have H3 := Lib.hid fun W => (show Calls Tryz.prog 63 #[.string ⟨#[97, 100, 100]⟩] W fun e w' => e = .returned (.bool false) ∧ w' = W from hasForce_any 0 (by decide) W)
  have H4 := Lib.hid fun W => (show Calls Tryz.prog 64 #[.string ⟨#[97, 100, 100]⟩] W fun e w' => e = .returned (.bool false) ∧ w' = W from hasText_any 0 (by decide) W)
  have HN := Lib.hid fun W => (show Calls Tryz.prog 62 #[.agg #[.string ⟨#[97, 100, 100]⟩, .string nm, .int .i64 n, .string tx, .bool f, .slice A l.length c]] W fun e w' => e = .returned (.bool (hasNK 0 nm)) ∧ Below W.heap.size W w' from hasN_any 0 (by decide) nm n tx f A l.length c W)
  have IT := Lib.hid fun W (h : PowTab W) => itoa_all n hn0 hn1 W h
  have zn := numB_size hn0 hn1
  obtain ⟨g, hg⟩ : ∃ g, g = w.heap.size := ⟨_, rfl⟩
  rw [← hg] at HZ
  clear hn0 hn1 hl hll hls hT
  rcases emptyB nm with ⟨rfl, -⟩ | ⟨q1, q2, q3⟩
  · rw [show hasNK 0 ⟨#[]⟩ = false from rfl] at HN
    have zv : (ByteArray.mk #[97, 100, 100]).size = 3 := rfl
    have z32 : (ByteArray.mk #[32]).size = 1 := rfl
    have z10 : (ByteArray.mk #[10]).size = 1 := rfl
    have z45 : (ByteArray.mk #[32, 45, 102]).size = 3 := rfl
    have FIN := Lib.hid (show (ByteArray.mk #[97, 100, 100]).data.toList = textK 0 ⟨#[]⟩ n tx f l by
      unfold textK
      rw [if_neg (show ¬ (hasNmK 0 = true ∧ (⟨#[]⟩ : ByteArray) ≠ ⟨#[]⟩) from fun h => h.2 rfl), if_neg (show ¬ hasNK 0 ⟨#[]⟩ = true from fun h => by cases h), if_neg (show ¬ (hasFK 0 = true ∧ f = true) from fun h => by cases h.1), if_neg (show ¬ (hasTK 0 = true ∧ tx ≠ ⟨#[]⟩) from fun h => by cases h.1), if_neg (show ¬ 0 = 14 by decide)]
      simp [vB])
    clear zv z32 z10 z45  zn hnm htx
    go_enter Tryz.func29, Tryz.ntmps29
    go_wp2_with (go_at_call 61; refine (H1.out _).mono ?_; rintro e w0 ⟨rfl, rfl⟩)
    refine (HN.out _).mono ?_
    rintro e w1 ⟨rfl, d1⟩
    rw [← hg]
    have B1 := Lib.hid (HB.out.trans (d1.mono HB.out.size))
    have Z1 := Lib.hid (HZ.out.below d1 HZ.out.lt)
    clear d1 hg
    have z0 := Z1.out.cell 0
    have z1 := Z1.out.cell 1
    have z2 := Z1.out.cell 2
    have z3 := Z1.out.cell 3
    have z4 := Z1.out.cell 4
    have z5 := Z1.out.cell 5
    go_wp2_with (first | (go_at_call 63; refine (H3.out _).mono ?_; rintro e w0 ⟨rfl, rfl⟩) | (go_at_call 64; refine (H4.out _).mono ?_; rintro e w0 ⟨rfl, rfl⟩))
    go_ret
    exact ⟨_, rfl, FIN.out, B1.out⟩
  · rw [show hasNK 0 nm = false from rfl] at HN
    have zv : (ByteArray.mk #[97, 100, 100]).size = 3 := rfl
    have z32 : (ByteArray.mk #[32]).size = 1 := rfl
    have z10 : (ByteArray.mk #[10]).size = 1 := rfl
    have z45 : (ByteArray.mk #[32, 45, 102]).size = 3 := rfl
    obtain ⟨s1, e1, n1, p1⟩ := sum_namedT ⟨#[32]⟩ nm (by omega)
    obtain ⟨s2, e2, n2, p2⟩ := sum_namedT ⟨#[97, 100, 100]⟩ s1 (by omega)
    have FIN := Lib.hid (show s2.data.toList = textK 0 nm n tx f l by
      rw [e2, e1]
      unfold textK
      rw [if_pos (show hasNmK 0 = true ∧ nm ≠ ⟨#[]⟩ from ⟨rfl, q1⟩), if_neg (show ¬ hasNK 0 nm = true from fun h => by cases h), if_neg (show ¬ (hasFK 0 = true ∧ f = true) from fun h => by cases h.1), if_neg (show ¬ (hasTK 0 = true ∧ tx ≠ ⟨#[]⟩) from fun h => by cases h.1), if_neg (show ¬ 0 = 14 by decide)]
      simp [vB])
    clear zv z32 z10 z45 e1 n1 e2 n2 zn hnm htx
    clear q1
    go_enter Tryz.func29, Tryz.ntmps29
    go_wp2_with (go_at_call 61; refine (H1.out _).mono ?_; rintro e w0 ⟨rfl, rfl⟩)
    refine (HN.out _).mono ?_
    rintro e w1 ⟨rfl, d1⟩
    rw [← hg]
    have B1 := Lib.hid (HB.out.trans (d1.mono HB.out.size))
    have Z1 := Lib.hid (HZ.out.below d1 HZ.out.lt)
    clear d1 hg
    have z0 := Z1.out.cell 0
    have z1 := Z1.out.cell 1
    have z2 := Z1.out.cell 2
    have z3 := Z1.out.cell 3
    have z4 := Z1.out.cell 4
    have z5 := Z1.out.cell 5
    go_wp2_with (first | (go_at_call 63; refine (H3.out _).mono ?_; rintro e w0 ⟨rfl, rfl⟩) | (go_at_call 64; refine (H4.out _).mono ?_; rintro e w0 ⟨rfl, rfl⟩))
    go_ret
    exact ⟨_, rfl, FIN.out, B1.out⟩
attribute [-go_sem] run_string_add_if in
set_option maxRecDepth 100000 in
set_option maxHeartbeats 8000000 in
theorem cmdText_1 (nm : ByteArray) (n : Int) (tx : ByteArray) (f : Bool) (A : Option Addr) (l : List Fl) (c : Nat) (w : World) (hnm : nm.size ≤ 1000) (htx : tx.size ≤ 1000) (hn0 : -9223372036854775808 ≤ n) (hn1 : n ≤ 9223372036854775807) (hl : Reads 3 cF w (.slice A l.length c) l) (hll : l.length ≤ 100) (hls : ∀ x ∈ l, StepOkG x) (hT : PowTab w) :
    Calls Tryz.prog 29 #[.agg #[.string ⟨#[114, 109]⟩, .string nm, .int .i64 n, .string tx, .bool f, .slice A l.length c]] w (SaidTo (textK 1 nm n tx f l) w) := by
  have HB := Lib.hid ((Below.refl w.heap.size w).alloc (Nat.le_refl _) (.cells #[.string ⟨#[114, 109]⟩, .string nm, .int .i64 n, .string tx, .bool f, .slice A l.length c] 52))
  have HZ := Lib.hid (Blk.new w 52 #[.string ⟨#[114, 109]⟩, .string nm, .int .i64 n, .string tx, .bool f, .slice A l.length c])
  have HL := Lib.hid fun W (hW : Below w.heap.size w W) => hl.below hW
  have _keep := And.intro hnm (And.intro htx (And.intro hll hls))
  clear _keep
  have HT := Lib.hid fun W (hW : Below w.heap.size w W) => tabIs_below hT hW
  have H1 := Lib.hid fun W => (show Calls Tryz.prog 61 #[.string ⟨#[114, 109]⟩] W fun e w' => e = .returned (.bool true) ∧ w' = W from hasName_any 1 (by decide) W)
  have H3 := Lib.hid fun W => (show Calls Tryz.prog 63 #[.string ⟨#[114, 109]⟩] W fun e w' => e = .returned (.bool true) ∧ w' = W from hasForce_any 1 (by decide) W)
  have H4 := Lib.hid fun W => (show Calls Tryz.prog 64 #[.string ⟨#[114, 109]⟩] W fun e w' => e = .returned (.bool false) ∧ w' = W from hasText_any 1 (by decide) W)
  have HN := Lib.hid fun W => (show Calls Tryz.prog 62 #[.agg #[.string ⟨#[114, 109]⟩, .string nm, .int .i64 n, .string tx, .bool f, .slice A l.length c]] W fun e w' => e = .returned (.bool (hasNK 1 nm)) ∧ Below W.heap.size W w' from hasN_any 1 (by decide) nm n tx f A l.length c W)
  have IT := Lib.hid fun W (h : PowTab W) => itoa_all n hn0 hn1 W h
  have zn := numB_size hn0 hn1
  obtain ⟨g, hg⟩ : ∃ g, g = w.heap.size := ⟨_, rfl⟩
  rw [← hg] at HZ
  clear hn0 hn1 hl hll hls hT
  rcases emptyB nm with ⟨rfl, -⟩ | ⟨q1, q2, q3⟩
  · cases f
    · rw [show hasNK 1 ⟨#[]⟩ = false from rfl] at HN
      have zv : (ByteArray.mk #[114, 109]).size = 2 := rfl
      have z32 : (ByteArray.mk #[32]).size = 1 := rfl
      have z10 : (ByteArray.mk #[10]).size = 1 := rfl
      have z45 : (ByteArray.mk #[32, 45, 102]).size = 3 := rfl
      have FIN := Lib.hid (show (ByteArray.mk #[114, 109]).data.toList = textK 1 ⟨#[]⟩ n tx false l by
        unfold textK
        rw [if_neg (show ¬ (hasNmK 1 = true ∧ (⟨#[]⟩ : ByteArray) ≠ ⟨#[]⟩) from fun h => h.2 rfl), if_neg (show ¬ hasNK 1 ⟨#[]⟩ = true from fun h => by cases h), if_neg (show ¬ (hasFK 1 = true ∧ false = true) from fun h => by cases h.2), if_neg (show ¬ (hasTK 1 = true ∧ tx ≠ ⟨#[]⟩) from fun h => by cases h.1), if_neg (show ¬ 1 = 14 by decide)]
        simp [vB])
      clear zv z32 z10 z45  zn hnm htx
      go_enter Tryz.func29, Tryz.ntmps29
      go_wp2_with (go_at_call 61; refine (H1.out _).mono ?_; rintro e w0 ⟨rfl, rfl⟩)
      refine (HN.out _).mono ?_
      rintro e w1 ⟨rfl, d1⟩
      rw [← hg]
      have B1 := Lib.hid (HB.out.trans (d1.mono HB.out.size))
      have Z1 := Lib.hid (HZ.out.below d1 HZ.out.lt)
      clear d1 hg
      have z0 := Z1.out.cell 0
      have z1 := Z1.out.cell 1
      have z2 := Z1.out.cell 2
      have z3 := Z1.out.cell 3
      have z4 := Z1.out.cell 4
      have z5 := Z1.out.cell 5
      go_wp2_with (first | (go_at_call 63; refine (H3.out _).mono ?_; rintro e w0 ⟨rfl, rfl⟩) | (go_at_call 64; refine (H4.out _).mono ?_; rintro e w0 ⟨rfl, rfl⟩))
      go_ret
      exact ⟨_, rfl, FIN.out, B1.out⟩
    · rw [show hasNK 1 ⟨#[]⟩ = false from rfl] at HN
      have zv : (ByteArray.mk #[114, 109]).size = 2 := rfl
      have z32 : (ByteArray.mk #[32]).size = 1 := rfl
      have z10 : (ByteArray.mk #[10]).size = 1 := rfl
      have z45 : (ByteArray.mk #[32, 45, 102]).size = 3 := rfl
      obtain ⟨s1, e1, n1, p1⟩ := sum_namedT ⟨#[114, 109]⟩ ⟨#[32, 45, 102]⟩ (by omega)
      have FIN := Lib.hid (show s1.data.toList = textK 1 ⟨#[]⟩ n tx true l by
        rw [e1]
        unfold textK
        rw [if_neg (show ¬ (hasNmK 1 = true ∧ (⟨#[]⟩ : ByteArray) ≠ ⟨#[]⟩) from fun h => h.2 rfl), if_neg (show ¬ hasNK 1 ⟨#[]⟩ = true from fun h => by cases h), if_pos (show hasFK 1 = true ∧ true = true from ⟨rfl, rfl⟩), if_neg (show ¬ (hasTK 1 = true ∧ tx ≠ ⟨#[]⟩) from fun h => by cases h.1), if_neg (show ¬ 1 = 14 by decide)]
        simp [vB])
      clear zv z32 z10 z45 e1 n1 zn hnm htx
      go_enter Tryz.func29, Tryz.ntmps29
      go_wp2_with (go_at_call 61; refine (H1.out _).mono ?_; rintro e w0 ⟨rfl, rfl⟩)
      refine (HN.out _).mono ?_
      rintro e w1 ⟨rfl, d1⟩
      rw [← hg]
      have B1 := Lib.hid (HB.out.trans (d1.mono HB.out.size))
      have Z1 := Lib.hid (HZ.out.below d1 HZ.out.lt)
      clear d1 hg
      have z0 := Z1.out.cell 0
      have z1 := Z1.out.cell 1
      have z2 := Z1.out.cell 2
      have z3 := Z1.out.cell 3
      have z4 := Z1.out.cell 4
      have z5 := Z1.out.cell 5
      go_wp2_with (first | (go_at_call 63; refine (H3.out _).mono ?_; rintro e w0 ⟨rfl, rfl⟩) | (go_at_call 64; refine (H4.out _).mono ?_; rintro e w0 ⟨rfl, rfl⟩))
      go_ret
      exact ⟨_, rfl, FIN.out, B1.out⟩
  · cases f
    · rw [show hasNK 1 nm = false from rfl] at HN
      have zv : (ByteArray.mk #[114, 109]).size = 2 := rfl
      have z32 : (ByteArray.mk #[32]).size = 1 := rfl
      have z10 : (ByteArray.mk #[10]).size = 1 := rfl
      have z45 : (ByteArray.mk #[32, 45, 102]).size = 3 := rfl
      obtain ⟨s1, e1, n1, p1⟩ := sum_namedT ⟨#[32]⟩ nm (by omega)
      obtain ⟨s2, e2, n2, p2⟩ := sum_namedT ⟨#[114, 109]⟩ s1 (by omega)
      have FIN := Lib.hid (show s2.data.toList = textK 1 nm n tx false l by
        rw [e2, e1]
        unfold textK
        rw [if_pos (show hasNmK 1 = true ∧ nm ≠ ⟨#[]⟩ from ⟨rfl, q1⟩), if_neg (show ¬ hasNK 1 nm = true from fun h => by cases h), if_neg (show ¬ (hasFK 1 = true ∧ false = true) from fun h => by cases h.2), if_neg (show ¬ (hasTK 1 = true ∧ tx ≠ ⟨#[]⟩) from fun h => by cases h.1), if_neg (show ¬ 1 = 14 by decide)]
        simp [vB])
      clear zv z32 z10 z45 e1 n1 e2 n2 zn hnm htx
      clear q1
      go_enter Tryz.func29, Tryz.ntmps29
      go_wp2_with (go_at_call 61; refine (H1.out _).mono ?_; rintro e w0 ⟨rfl, rfl⟩)
      refine (HN.out _).mono ?_
      rintro e w1 ⟨rfl, d1⟩
      rw [← hg]
      have B1 := Lib.hid (HB.out.trans (d1.mono HB.out.size))
      have Z1 := Lib.hid (HZ.out.below d1 HZ.out.lt)
      clear d1 hg
      have z0 := Z1.out.cell 0
      have z1 := Z1.out.cell 1
      have z2 := Z1.out.cell 2
      have z3 := Z1.out.cell 3
      have z4 := Z1.out.cell 4
      have z5 := Z1.out.cell 5
      go_wp2_with (first | (go_at_call 63; refine (H3.out _).mono ?_; rintro e w0 ⟨rfl, rfl⟩) | (go_at_call 64; refine (H4.out _).mono ?_; rintro e w0 ⟨rfl, rfl⟩))
      go_ret
      exact ⟨_, rfl, FIN.out, B1.out⟩
    · rw [show hasNK 1 nm = false from rfl] at HN
      have zv : (ByteArray.mk #[114, 109]).size = 2 := rfl
      have z32 : (ByteArray.mk #[32]).size = 1 := rfl
      have z10 : (ByteArray.mk #[10]).size = 1 := rfl
      have z45 : (ByteArray.mk #[32, 45, 102]).size = 3 := rfl
      obtain ⟨s1, e1, n1, p1⟩ := sum_namedT ⟨#[32]⟩ nm (by omega)
      obtain ⟨s2, e2, n2, p2⟩ := sum_namedT ⟨#[114, 109]⟩ s1 (by omega)
      obtain ⟨s3, e3, n3, p3⟩ := sum_namedT s2 ⟨#[32, 45, 102]⟩ (by omega)
      have FIN := Lib.hid (show s3.data.toList = textK 1 nm n tx true l by
        rw [e3, e2, e1]
        unfold textK
        rw [if_pos (show hasNmK 1 = true ∧ nm ≠ ⟨#[]⟩ from ⟨rfl, q1⟩), if_neg (show ¬ hasNK 1 nm = true from fun h => by cases h), if_pos (show hasFK 1 = true ∧ true = true from ⟨rfl, rfl⟩), if_neg (show ¬ (hasTK 1 = true ∧ tx ≠ ⟨#[]⟩) from fun h => by cases h.1), if_neg (show ¬ 1 = 14 by decide)]
        simp [vB])
      clear zv z32 z10 z45 e1 n1 e2 n2 e3 n3 zn hnm htx
      clear q1
      go_enter Tryz.func29, Tryz.ntmps29
      go_wp2_with (go_at_call 61; refine (H1.out _).mono ?_; rintro e w0 ⟨rfl, rfl⟩)
      refine (HN.out _).mono ?_
      rintro e w1 ⟨rfl, d1⟩
      rw [← hg]
      have B1 := Lib.hid (HB.out.trans (d1.mono HB.out.size))
      have Z1 := Lib.hid (HZ.out.below d1 HZ.out.lt)
      clear d1 hg
      have z0 := Z1.out.cell 0
      have z1 := Z1.out.cell 1
      have z2 := Z1.out.cell 2
      have z3 := Z1.out.cell 3
      have z4 := Z1.out.cell 4
      have z5 := Z1.out.cell 5
      go_wp2_with (first | (go_at_call 63; refine (H3.out _).mono ?_; rintro e w0 ⟨rfl, rfl⟩) | (go_at_call 64; refine (H4.out _).mono ?_; rintro e w0 ⟨rfl, rfl⟩))
      go_ret
      exact ⟨_, rfl, FIN.out, B1.out⟩
attribute [-go_sem] run_string_add_if in
set_option maxRecDepth 100000 in
set_option maxHeartbeats 8000000 in
theorem cmdText_2 (nm : ByteArray) (n : Int) (tx : ByteArray) (f : Bool) (A : Option Addr) (l : List Fl) (c : Nat) (w : World) (hnm : nm.size ≤ 1000) (htx : tx.size ≤ 1000) (hn0 : -9223372036854775808 ≤ n) (hn1 : n ≤ 9223372036854775807) (hl : Reads 3 cF w (.slice A l.length c) l) (hll : l.length ≤ 100) (hls : ∀ x ∈ l, StepOkG x) (hT : PowTab w) :
    Calls Tryz.prog 29 #[.agg #[.string ⟨#[99, 111, 109, 109, 105, 116]⟩, .string nm, .int .i64 n, .string tx, .bool f, .slice A l.length c]] w (SaidTo (textK 2 nm n tx f l) w) := by
  have HB := Lib.hid ((Below.refl w.heap.size w).alloc (Nat.le_refl _) (.cells #[.string ⟨#[99, 111, 109, 109, 105, 116]⟩, .string nm, .int .i64 n, .string tx, .bool f, .slice A l.length c] 52))
  have HZ := Lib.hid (Blk.new w 52 #[.string ⟨#[99, 111, 109, 109, 105, 116]⟩, .string nm, .int .i64 n, .string tx, .bool f, .slice A l.length c])
  have HL := Lib.hid fun W (hW : Below w.heap.size w W) => hl.below hW
  have _keep := And.intro hnm (And.intro htx (And.intro hll hls))
  clear _keep
  have HT := Lib.hid fun W (hW : Below w.heap.size w W) => tabIs_below hT hW
  have H1 := Lib.hid fun W => (show Calls Tryz.prog 61 #[.string ⟨#[99, 111, 109, 109, 105, 116]⟩] W fun e w' => e = .returned (.bool false) ∧ w' = W from hasName_any 2 (by decide) W)
  have H3 := Lib.hid fun W => (show Calls Tryz.prog 63 #[.string ⟨#[99, 111, 109, 109, 105, 116]⟩] W fun e w' => e = .returned (.bool false) ∧ w' = W from hasForce_any 2 (by decide) W)
  have H4 := Lib.hid fun W => (show Calls Tryz.prog 64 #[.string ⟨#[99, 111, 109, 109, 105, 116]⟩] W fun e w' => e = .returned (.bool true) ∧ w' = W from hasText_any 2 (by decide) W)
  have HN := Lib.hid fun W => (show Calls Tryz.prog 62 #[.agg #[.string ⟨#[99, 111, 109, 109, 105, 116]⟩, .string nm, .int .i64 n, .string tx, .bool f, .slice A l.length c]] W fun e w' => e = .returned (.bool (hasNK 2 nm)) ∧ Below W.heap.size W w' from hasN_any 2 (by decide) nm n tx f A l.length c W)
  have IT := Lib.hid fun W (h : PowTab W) => itoa_all n hn0 hn1 W h
  have zn := numB_size hn0 hn1
  obtain ⟨g, hg⟩ : ∃ g, g = w.heap.size := ⟨_, rfl⟩
  rw [← hg] at HZ
  clear hn0 hn1 hl hll hls hT
  rcases emptyB tx with ⟨rfl, -⟩ | ⟨q4, q5, q6⟩
  · rw [show hasNK 2 nm = false from rfl] at HN
    have zv : (ByteArray.mk #[99, 111, 109, 109, 105, 116]).size = 6 := rfl
    have z32 : (ByteArray.mk #[32]).size = 1 := rfl
    have z10 : (ByteArray.mk #[10]).size = 1 := rfl
    have z45 : (ByteArray.mk #[32, 45, 102]).size = 3 := rfl
    have FIN := Lib.hid (show (ByteArray.mk #[99, 111, 109, 109, 105, 116]).data.toList = textK 2 nm n ⟨#[]⟩ f l by
      unfold textK
      rw [if_neg (show ¬ (hasNmK 2 = true ∧ nm ≠ ⟨#[]⟩) from fun h => by cases h.1), if_neg (show ¬ hasNK 2 nm = true from fun h => by cases h), if_neg (show ¬ (hasFK 2 = true ∧ f = true) from fun h => by cases h.1), if_neg (show ¬ (hasTK 2 = true ∧ (⟨#[]⟩ : ByteArray) ≠ ⟨#[]⟩) from fun h => h.2 rfl), if_neg (show ¬ 2 = 14 by decide)]
      simp [vB])
    clear zv z32 z10 z45  zn hnm htx
    go_enter Tryz.func29, Tryz.ntmps29
    go_wp2_with (go_at_call 61; refine (H1.out _).mono ?_; rintro e w0 ⟨rfl, rfl⟩)
    refine (HN.out _).mono ?_
    rintro e w1 ⟨rfl, d1⟩
    rw [← hg]
    have B1 := Lib.hid (HB.out.trans (d1.mono HB.out.size))
    have Z1 := Lib.hid (HZ.out.below d1 HZ.out.lt)
    clear d1 hg
    have z0 := Z1.out.cell 0
    have z1 := Z1.out.cell 1
    have z2 := Z1.out.cell 2
    have z3 := Z1.out.cell 3
    have z4 := Z1.out.cell 4
    have z5 := Z1.out.cell 5
    go_wp2_with (first | (go_at_call 63; refine (H3.out _).mono ?_; rintro e w0 ⟨rfl, rfl⟩) | (go_at_call 64; refine (H4.out _).mono ?_; rintro e w0 ⟨rfl, rfl⟩))
    go_ret
    exact ⟨_, rfl, FIN.out, B1.out⟩
  · rw [show hasNK 2 nm = false from rfl] at HN
    have zv : (ByteArray.mk #[99, 111, 109, 109, 105, 116]).size = 6 := rfl
    have z32 : (ByteArray.mk #[32]).size = 1 := rfl
    have z10 : (ByteArray.mk #[10]).size = 1 := rfl
    have z45 : (ByteArray.mk #[32, 45, 102]).size = 3 := rfl
    obtain ⟨s1, e1, n1, p1⟩ := sum_namedT ⟨#[32]⟩ tx (by omega)
    obtain ⟨s2, e2, n2, p2⟩ := sum_namedT ⟨#[99, 111, 109, 109, 105, 116]⟩ s1 (by omega)
    have FIN := Lib.hid (show s2.data.toList = textK 2 nm n tx f l by
      rw [e2, e1]
      unfold textK
      rw [if_neg (show ¬ (hasNmK 2 = true ∧ nm ≠ ⟨#[]⟩) from fun h => by cases h.1), if_neg (show ¬ hasNK 2 nm = true from fun h => by cases h), if_neg (show ¬ (hasFK 2 = true ∧ f = true) from fun h => by cases h.1), if_pos (show hasTK 2 = true ∧ tx ≠ ⟨#[]⟩ from ⟨rfl, q4⟩), if_neg (show ¬ 2 = 14 by decide)]
      simp [vB])
    clear zv z32 z10 z45 e1 n1 e2 n2 zn hnm htx
    clear q4
    go_enter Tryz.func29, Tryz.ntmps29
    go_wp2_with (go_at_call 61; refine (H1.out _).mono ?_; rintro e w0 ⟨rfl, rfl⟩)
    refine (HN.out _).mono ?_
    rintro e w1 ⟨rfl, d1⟩
    rw [← hg]
    have B1 := Lib.hid (HB.out.trans (d1.mono HB.out.size))
    have Z1 := Lib.hid (HZ.out.below d1 HZ.out.lt)
    clear d1 hg
    have z0 := Z1.out.cell 0
    have z1 := Z1.out.cell 1
    have z2 := Z1.out.cell 2
    have z3 := Z1.out.cell 3
    have z4 := Z1.out.cell 4
    have z5 := Z1.out.cell 5
    go_wp2_with (first | (go_at_call 63; refine (H3.out _).mono ?_; rintro e w0 ⟨rfl, rfl⟩) | (go_at_call 64; refine (H4.out _).mono ?_; rintro e w0 ⟨rfl, rfl⟩))
    go_ret
    exact ⟨_, rfl, FIN.out, B1.out⟩
attribute [-go_sem] run_string_add_if in
set_option maxRecDepth 100000 in
set_option maxHeartbeats 8000000 in
theorem cmdText_3 (nm : ByteArray) (n : Int) (tx : ByteArray) (f : Bool) (A : Option Addr) (l : List Fl) (c : Nat) (w : World) (hnm : nm.size ≤ 1000) (htx : tx.size ≤ 1000) (hn0 : -9223372036854775808 ≤ n) (hn1 : n ≤ 9223372036854775807) (hl : Reads 3 cF w (.slice A l.length c) l) (hll : l.length ≤ 100) (hls : ∀ x ∈ l, StepOkG x) (hT : PowTab w) :
    Calls Tryz.prog 29 #[.agg #[.string ⟨#[98, 114, 97, 110, 99, 104]⟩, .string nm, .int .i64 n, .string tx, .bool f, .slice A l.length c]] w (SaidTo (textK 3 nm n tx f l) w) := by
  have HB := Lib.hid ((Below.refl w.heap.size w).alloc (Nat.le_refl _) (.cells #[.string ⟨#[98, 114, 97, 110, 99, 104]⟩, .string nm, .int .i64 n, .string tx, .bool f, .slice A l.length c] 52))
  have HZ := Lib.hid (Blk.new w 52 #[.string ⟨#[98, 114, 97, 110, 99, 104]⟩, .string nm, .int .i64 n, .string tx, .bool f, .slice A l.length c])
  have HL := Lib.hid fun W (hW : Below w.heap.size w W) => hl.below hW
  have _keep := And.intro hnm (And.intro htx (And.intro hll hls))
  clear _keep
  have HT := Lib.hid fun W (hW : Below w.heap.size w W) => tabIs_below hT hW
  have H1 := Lib.hid fun W => (show Calls Tryz.prog 61 #[.string ⟨#[98, 114, 97, 110, 99, 104]⟩] W fun e w' => e = .returned (.bool true) ∧ w' = W from hasName_any 3 (by decide) W)
  have H3 := Lib.hid fun W => (show Calls Tryz.prog 63 #[.string ⟨#[98, 114, 97, 110, 99, 104]⟩] W fun e w' => e = .returned (.bool false) ∧ w' = W from hasForce_any 3 (by decide) W)
  have H4 := Lib.hid fun W => (show Calls Tryz.prog 64 #[.string ⟨#[98, 114, 97, 110, 99, 104]⟩] W fun e w' => e = .returned (.bool false) ∧ w' = W from hasText_any 3 (by decide) W)
  have HN := Lib.hid fun W => (show Calls Tryz.prog 62 #[.agg #[.string ⟨#[98, 114, 97, 110, 99, 104]⟩, .string nm, .int .i64 n, .string tx, .bool f, .slice A l.length c]] W fun e w' => e = .returned (.bool (hasNK 3 nm)) ∧ Below W.heap.size W w' from hasN_any 3 (by decide) nm n tx f A l.length c W)
  have IT := Lib.hid fun W (h : PowTab W) => itoa_all n hn0 hn1 W h
  have zn := numB_size hn0 hn1
  obtain ⟨g, hg⟩ : ∃ g, g = w.heap.size := ⟨_, rfl⟩
  rw [← hg] at HZ
  clear hn0 hn1 hl hll hls hT
  rcases emptyB nm with ⟨rfl, -⟩ | ⟨q1, q2, q3⟩
  · rw [show hasNK 3 ⟨#[]⟩ = false from rfl] at HN
    have zv : (ByteArray.mk #[98, 114, 97, 110, 99, 104]).size = 6 := rfl
    have z32 : (ByteArray.mk #[32]).size = 1 := rfl
    have z10 : (ByteArray.mk #[10]).size = 1 := rfl
    have z45 : (ByteArray.mk #[32, 45, 102]).size = 3 := rfl
    have FIN := Lib.hid (show (ByteArray.mk #[98, 114, 97, 110, 99, 104]).data.toList = textK 3 ⟨#[]⟩ n tx f l by
      unfold textK
      rw [if_neg (show ¬ (hasNmK 3 = true ∧ (⟨#[]⟩ : ByteArray) ≠ ⟨#[]⟩) from fun h => h.2 rfl), if_neg (show ¬ hasNK 3 ⟨#[]⟩ = true from fun h => by cases h), if_neg (show ¬ (hasFK 3 = true ∧ f = true) from fun h => by cases h.1), if_neg (show ¬ (hasTK 3 = true ∧ tx ≠ ⟨#[]⟩) from fun h => by cases h.1), if_neg (show ¬ 3 = 14 by decide)]
      simp [vB])
    clear zv z32 z10 z45  zn hnm htx
    go_enter Tryz.func29, Tryz.ntmps29
    go_wp2_with (go_at_call 61; refine (H1.out _).mono ?_; rintro e w0 ⟨rfl, rfl⟩)
    refine (HN.out _).mono ?_
    rintro e w1 ⟨rfl, d1⟩
    rw [← hg]
    have B1 := Lib.hid (HB.out.trans (d1.mono HB.out.size))
    have Z1 := Lib.hid (HZ.out.below d1 HZ.out.lt)
    clear d1 hg
    have z0 := Z1.out.cell 0
    have z1 := Z1.out.cell 1
    have z2 := Z1.out.cell 2
    have z3 := Z1.out.cell 3
    have z4 := Z1.out.cell 4
    have z5 := Z1.out.cell 5
    go_wp2_with (first | (go_at_call 63; refine (H3.out _).mono ?_; rintro e w0 ⟨rfl, rfl⟩) | (go_at_call 64; refine (H4.out _).mono ?_; rintro e w0 ⟨rfl, rfl⟩))
    go_ret
    exact ⟨_, rfl, FIN.out, B1.out⟩
  · rw [show hasNK 3 nm = false from rfl] at HN
    have zv : (ByteArray.mk #[98, 114, 97, 110, 99, 104]).size = 6 := rfl
    have z32 : (ByteArray.mk #[32]).size = 1 := rfl
    have z10 : (ByteArray.mk #[10]).size = 1 := rfl
    have z45 : (ByteArray.mk #[32, 45, 102]).size = 3 := rfl
    obtain ⟨s1, e1, n1, p1⟩ := sum_namedT ⟨#[32]⟩ nm (by omega)
    obtain ⟨s2, e2, n2, p2⟩ := sum_namedT ⟨#[98, 114, 97, 110, 99, 104]⟩ s1 (by omega)
    have FIN := Lib.hid (show s2.data.toList = textK 3 nm n tx f l by
      rw [e2, e1]
      unfold textK
      rw [if_pos (show hasNmK 3 = true ∧ nm ≠ ⟨#[]⟩ from ⟨rfl, q1⟩), if_neg (show ¬ hasNK 3 nm = true from fun h => by cases h), if_neg (show ¬ (hasFK 3 = true ∧ f = true) from fun h => by cases h.1), if_neg (show ¬ (hasTK 3 = true ∧ tx ≠ ⟨#[]⟩) from fun h => by cases h.1), if_neg (show ¬ 3 = 14 by decide)]
      simp [vB])
    clear zv z32 z10 z45 e1 n1 e2 n2 zn hnm htx
    clear q1
    go_enter Tryz.func29, Tryz.ntmps29
    go_wp2_with (go_at_call 61; refine (H1.out _).mono ?_; rintro e w0 ⟨rfl, rfl⟩)
    refine (HN.out _).mono ?_
    rintro e w1 ⟨rfl, d1⟩
    rw [← hg]
    have B1 := Lib.hid (HB.out.trans (d1.mono HB.out.size))
    have Z1 := Lib.hid (HZ.out.below d1 HZ.out.lt)
    clear d1 hg
    have z0 := Z1.out.cell 0
    have z1 := Z1.out.cell 1
    have z2 := Z1.out.cell 2
    have z3 := Z1.out.cell 3
    have z4 := Z1.out.cell 4
    have z5 := Z1.out.cell 5
    go_wp2_with (first | (go_at_call 63; refine (H3.out _).mono ?_; rintro e w0 ⟨rfl, rfl⟩) | (go_at_call 64; refine (H4.out _).mono ?_; rintro e w0 ⟨rfl, rfl⟩))
    go_ret
    exact ⟨_, rfl, FIN.out, B1.out⟩
attribute [-go_sem] run_string_add_if in
set_option maxRecDepth 100000 in
set_option maxHeartbeats 8000000 in
theorem cmdText_4 (nm : ByteArray) (n : Int) (tx : ByteArray) (f : Bool) (A : Option Addr) (l : List Fl) (c : Nat) (w : World) (hnm : nm.size ≤ 1000) (htx : tx.size ≤ 1000) (hn0 : -9223372036854775808 ≤ n) (hn1 : n ≤ 9223372036854775807) (hl : Reads 3 cF w (.slice A l.length c) l) (hll : l.length ≤ 100) (hls : ∀ x ∈ l, StepOkG x) (hT : PowTab w) :
    Calls Tryz.prog 29 #[.agg #[.string ⟨#[100, 101, 108, 101, 116, 101]⟩, .string nm, .int .i64 n, .string tx, .bool f, .slice A l.length c]] w (SaidTo (textK 4 nm n tx f l) w) := by
  have HB := Lib.hid ((Below.refl w.heap.size w).alloc (Nat.le_refl _) (.cells #[.string ⟨#[100, 101, 108, 101, 116, 101]⟩, .string nm, .int .i64 n, .string tx, .bool f, .slice A l.length c] 52))
  have HZ := Lib.hid (Blk.new w 52 #[.string ⟨#[100, 101, 108, 101, 116, 101]⟩, .string nm, .int .i64 n, .string tx, .bool f, .slice A l.length c])
  have HL := Lib.hid fun W (hW : Below w.heap.size w W) => hl.below hW
  have _keep := And.intro hnm (And.intro htx (And.intro hll hls))
  clear _keep
  have HT := Lib.hid fun W (hW : Below w.heap.size w W) => tabIs_below hT hW
  have H1 := Lib.hid fun W => (show Calls Tryz.prog 61 #[.string ⟨#[100, 101, 108, 101, 116, 101]⟩] W fun e w' => e = .returned (.bool true) ∧ w' = W from hasName_any 4 (by decide) W)
  have H3 := Lib.hid fun W => (show Calls Tryz.prog 63 #[.string ⟨#[100, 101, 108, 101, 116, 101]⟩] W fun e w' => e = .returned (.bool false) ∧ w' = W from hasForce_any 4 (by decide) W)
  have H4 := Lib.hid fun W => (show Calls Tryz.prog 64 #[.string ⟨#[100, 101, 108, 101, 116, 101]⟩] W fun e w' => e = .returned (.bool false) ∧ w' = W from hasText_any 4 (by decide) W)
  have HN := Lib.hid fun W => (show Calls Tryz.prog 62 #[.agg #[.string ⟨#[100, 101, 108, 101, 116, 101]⟩, .string nm, .int .i64 n, .string tx, .bool f, .slice A l.length c]] W fun e w' => e = .returned (.bool (hasNK 4 nm)) ∧ Below W.heap.size W w' from hasN_any 4 (by decide) nm n tx f A l.length c W)
  have IT := Lib.hid fun W (h : PowTab W) => itoa_all n hn0 hn1 W h
  have zn := numB_size hn0 hn1
  obtain ⟨g, hg⟩ : ∃ g, g = w.heap.size := ⟨_, rfl⟩
  rw [← hg] at HZ
  clear hn0 hn1 hl hll hls hT
  rcases emptyB nm with ⟨rfl, -⟩ | ⟨q1, q2, q3⟩
  · rw [show hasNK 4 ⟨#[]⟩ = false from rfl] at HN
    have zv : (ByteArray.mk #[100, 101, 108, 101, 116, 101]).size = 6 := rfl
    have z32 : (ByteArray.mk #[32]).size = 1 := rfl
    have z10 : (ByteArray.mk #[10]).size = 1 := rfl
    have z45 : (ByteArray.mk #[32, 45, 102]).size = 3 := rfl
    have FIN := Lib.hid (show (ByteArray.mk #[100, 101, 108, 101, 116, 101]).data.toList = textK 4 ⟨#[]⟩ n tx f l by
      unfold textK
      rw [if_neg (show ¬ (hasNmK 4 = true ∧ (⟨#[]⟩ : ByteArray) ≠ ⟨#[]⟩) from fun h => h.2 rfl), if_neg (show ¬ hasNK 4 ⟨#[]⟩ = true from fun h => by cases h), if_neg (show ¬ (hasFK 4 = true ∧ f = true) from fun h => by cases h.1), if_neg (show ¬ (hasTK 4 = true ∧ tx ≠ ⟨#[]⟩) from fun h => by cases h.1), if_neg (show ¬ 4 = 14 by decide)]
      simp [vB])
    clear zv z32 z10 z45  zn hnm htx
    go_enter Tryz.func29, Tryz.ntmps29
    go_wp2_with (go_at_call 61; refine (H1.out _).mono ?_; rintro e w0 ⟨rfl, rfl⟩)
    refine (HN.out _).mono ?_
    rintro e w1 ⟨rfl, d1⟩
    rw [← hg]
    have B1 := Lib.hid (HB.out.trans (d1.mono HB.out.size))
    have Z1 := Lib.hid (HZ.out.below d1 HZ.out.lt)
    clear d1 hg
    have z0 := Z1.out.cell 0
    have z1 := Z1.out.cell 1
    have z2 := Z1.out.cell 2
    have z3 := Z1.out.cell 3
    have z4 := Z1.out.cell 4
    have z5 := Z1.out.cell 5
    go_wp2_with (first | (go_at_call 63; refine (H3.out _).mono ?_; rintro e w0 ⟨rfl, rfl⟩) | (go_at_call 64; refine (H4.out _).mono ?_; rintro e w0 ⟨rfl, rfl⟩))
    go_ret
    exact ⟨_, rfl, FIN.out, B1.out⟩
  · rw [show hasNK 4 nm = false from rfl] at HN
    have zv : (ByteArray.mk #[100, 101, 108, 101, 116, 101]).size = 6 := rfl
    have z32 : (ByteArray.mk #[32]).size = 1 := rfl
    have z10 : (ByteArray.mk #[10]).size = 1 := rfl
    have z45 : (ByteArray.mk #[32, 45, 102]).size = 3 := rfl
    obtain ⟨s1, e1, n1, p1⟩ := sum_namedT ⟨#[32]⟩ nm (by omega)
    obtain ⟨s2, e2, n2, p2⟩ := sum_namedT ⟨#[100, 101, 108, 101, 116, 101]⟩ s1 (by omega)
    have FIN := Lib.hid (show s2.data.toList = textK 4 nm n tx f l by
      rw [e2, e1]
      unfold textK
      rw [if_pos (show hasNmK 4 = true ∧ nm ≠ ⟨#[]⟩ from ⟨rfl, q1⟩), if_neg (show ¬ hasNK 4 nm = true from fun h => by cases h), if_neg (show ¬ (hasFK 4 = true ∧ f = true) from fun h => by cases h.1), if_neg (show ¬ (hasTK 4 = true ∧ tx ≠ ⟨#[]⟩) from fun h => by cases h.1), if_neg (show ¬ 4 = 14 by decide)]
      simp [vB])
    clear zv z32 z10 z45 e1 n1 e2 n2 zn hnm htx
    clear q1
    go_enter Tryz.func29, Tryz.ntmps29
    go_wp2_with (go_at_call 61; refine (H1.out _).mono ?_; rintro e w0 ⟨rfl, rfl⟩)
    refine (HN.out _).mono ?_
    rintro e w1 ⟨rfl, d1⟩
    rw [← hg]
    have B1 := Lib.hid (HB.out.trans (d1.mono HB.out.size))
    have Z1 := Lib.hid (HZ.out.below d1 HZ.out.lt)
    clear d1 hg
    have z0 := Z1.out.cell 0
    have z1 := Z1.out.cell 1
    have z2 := Z1.out.cell 2
    have z3 := Z1.out.cell 3
    have z4 := Z1.out.cell 4
    have z5 := Z1.out.cell 5
    go_wp2_with (first | (go_at_call 63; refine (H3.out _).mono ?_; rintro e w0 ⟨rfl, rfl⟩) | (go_at_call 64; refine (H4.out _).mono ?_; rintro e w0 ⟨rfl, rfl⟩))
    go_ret
    exact ⟨_, rfl, FIN.out, B1.out⟩
attribute [-go_sem] run_string_add_if in
set_option maxRecDepth 100000 in
set_option maxHeartbeats 8000000 in
theorem cmdText_5 (nm : ByteArray) (n : Int) (tx : ByteArray) (f : Bool) (A : Option Addr) (l : List Fl) (c : Nat) (w : World) (hnm : nm.size ≤ 1000) (htx : tx.size ≤ 1000) (hn0 : -9223372036854775808 ≤ n) (hn1 : n ≤ 9223372036854775807) (hl : Reads 3 cF w (.slice A l.length c) l) (hll : l.length ≤ 100) (hls : ∀ x ∈ l, StepOkG x) (hT : PowTab w) :
    Calls Tryz.prog 29 #[.agg #[.string ⟨#[115, 119, 105, 116, 99, 104]⟩, .string nm, .int .i64 n, .string tx, .bool f, .slice A l.length c]] w (SaidTo (textK 5 nm n tx f l) w) := by
  have HB := Lib.hid ((Below.refl w.heap.size w).alloc (Nat.le_refl _) (.cells #[.string ⟨#[115, 119, 105, 116, 99, 104]⟩, .string nm, .int .i64 n, .string tx, .bool f, .slice A l.length c] 52))
  have HZ := Lib.hid (Blk.new w 52 #[.string ⟨#[115, 119, 105, 116, 99, 104]⟩, .string nm, .int .i64 n, .string tx, .bool f, .slice A l.length c])
  have HL := Lib.hid fun W (hW : Below w.heap.size w W) => hl.below hW
  have _keep := And.intro hnm (And.intro htx (And.intro hll hls))
  clear _keep
  have HT := Lib.hid fun W (hW : Below w.heap.size w W) => tabIs_below hT hW
  have H1 := Lib.hid fun W => (show Calls Tryz.prog 61 #[.string ⟨#[115, 119, 105, 116, 99, 104]⟩] W fun e w' => e = .returned (.bool true) ∧ w' = W from hasName_any 5 (by decide) W)
  have H3 := Lib.hid fun W => (show Calls Tryz.prog 63 #[.string ⟨#[115, 119, 105, 116, 99, 104]⟩] W fun e w' => e = .returned (.bool true) ∧ w' = W from hasForce_any 5 (by decide) W)
  have H4 := Lib.hid fun W => (show Calls Tryz.prog 64 #[.string ⟨#[115, 119, 105, 116, 99, 104]⟩] W fun e w' => e = .returned (.bool false) ∧ w' = W from hasText_any 5 (by decide) W)
  have HN := Lib.hid fun W => (show Calls Tryz.prog 62 #[.agg #[.string ⟨#[115, 119, 105, 116, 99, 104]⟩, .string nm, .int .i64 n, .string tx, .bool f, .slice A l.length c]] W fun e w' => e = .returned (.bool (hasNK 5 nm)) ∧ Below W.heap.size W w' from hasN_any 5 (by decide) nm n tx f A l.length c W)
  have IT := Lib.hid fun W (h : PowTab W) => itoa_all n hn0 hn1 W h
  have zn := numB_size hn0 hn1
  obtain ⟨g, hg⟩ : ∃ g, g = w.heap.size := ⟨_, rfl⟩
  rw [← hg] at HZ
  clear hn0 hn1 hl hll hls hT
  rcases emptyB nm with ⟨rfl, -⟩ | ⟨q1, q2, q3⟩
  · cases f
    · rw [hasNK_e] at HN
      have zv : (ByteArray.mk #[115, 119, 105, 116, 99, 104]).size = 6 := rfl
      have z32 : (ByteArray.mk #[32]).size = 1 := rfl
      have z10 : (ByteArray.mk #[10]).size = 1 := rfl
      have z45 : (ByteArray.mk #[32, 45, 102]).size = 3 := rfl
      obtain ⟨s1, e1, n1, p1⟩ := sum_namedT ⟨#[32]⟩ (numB n) (by omega)
      obtain ⟨s2, e2, n2, p2⟩ := sum_namedT ⟨#[115, 119, 105, 116, 99, 104]⟩ s1 (by omega)
      have FIN := Lib.hid (show s2.data.toList = textK 5 ⟨#[]⟩ n tx false l by
        rw [e2, e1]
        unfold textK
        rw [if_neg (show ¬ (hasNmK 5 = true ∧ (⟨#[]⟩ : ByteArray) ≠ ⟨#[]⟩) from fun h => h.2 rfl), if_pos hasNK_e, if_neg (show ¬ (hasFK 5 = true ∧ false = true) from fun h => by cases h.2), if_neg (show ¬ (hasTK 5 = true ∧ tx ≠ ⟨#[]⟩) from fun h => by cases h.1), if_neg (show ¬ 5 = 14 by decide)]
        simp [numB_list, vB])
      clear zv z32 z10 z45 e1 n1 e2 n2 zn hnm htx
      obtain ⟨nb, hnb⟩ : ∃ nb, nb = numB n := ⟨_, rfl⟩
      rw [← hnb] at IT p1
      clear hnb
      go_enter Tryz.func29, Tryz.ntmps29
      go_wp2_with (go_at_call 61; refine (H1.out _).mono ?_; rintro e w0 ⟨rfl, rfl⟩)
      refine (HN.out _).mono ?_
      rintro e w1 ⟨rfl, d1⟩
      rw [← hg]
      have B1 := Lib.hid (HB.out.trans (d1.mono HB.out.size))
      have Z1 := Lib.hid (HZ.out.below d1 HZ.out.lt)
      clear d1 hg
      have z0 := Z1.out.cell 0
      have z1 := Z1.out.cell 1
      have z2 := Z1.out.cell 2
      have z3 := Z1.out.cell 3
      have z4 := Z1.out.cell 4
      have z5 := Z1.out.cell 5
      go_wp2_with fail
      refine (IT.out _ (HT.out _ B1.out)).mono ?_
      rintro e w2 ⟨rfl, d2⟩
      have B2 := Lib.hid (B1.out.trans (d2.mono B1.out.size))
      have Z2 := Lib.hid (Z1.out.below d2 Z1.out.lt)
      clear d2 z0 z1 z2 z3 z4 z5
      have z0 := Z2.out.cell 0
      have z1 := Z2.out.cell 1
      have z2 := Z2.out.cell 2
      have z3 := Z2.out.cell 3
      have z4 := Z2.out.cell 4
      have z5 := Z2.out.cell 5
      go_wp2_with (first | (go_at_call 63; refine (H3.out _).mono ?_; rintro e w0 ⟨rfl, rfl⟩) | (go_at_call 64; refine (H4.out _).mono ?_; rintro e w0 ⟨rfl, rfl⟩))
      go_ret
      exact ⟨_, rfl, FIN.out, B2.out⟩
    · rw [hasNK_e] at HN
      have zv : (ByteArray.mk #[115, 119, 105, 116, 99, 104]).size = 6 := rfl
      have z32 : (ByteArray.mk #[32]).size = 1 := rfl
      have z10 : (ByteArray.mk #[10]).size = 1 := rfl
      have z45 : (ByteArray.mk #[32, 45, 102]).size = 3 := rfl
      obtain ⟨s1, e1, n1, p1⟩ := sum_namedT ⟨#[32]⟩ (numB n) (by omega)
      obtain ⟨s2, e2, n2, p2⟩ := sum_namedT ⟨#[115, 119, 105, 116, 99, 104]⟩ s1 (by omega)
      obtain ⟨s3, e3, n3, p3⟩ := sum_namedT s2 ⟨#[32, 45, 102]⟩ (by omega)
      have FIN := Lib.hid (show s3.data.toList = textK 5 ⟨#[]⟩ n tx true l by
        rw [e3, e2, e1]
        unfold textK
        rw [if_neg (show ¬ (hasNmK 5 = true ∧ (⟨#[]⟩ : ByteArray) ≠ ⟨#[]⟩) from fun h => h.2 rfl), if_pos hasNK_e, if_pos (show hasFK 5 = true ∧ true = true from ⟨rfl, rfl⟩), if_neg (show ¬ (hasTK 5 = true ∧ tx ≠ ⟨#[]⟩) from fun h => by cases h.1), if_neg (show ¬ 5 = 14 by decide)]
        simp [numB_list, vB])
      clear zv z32 z10 z45 e1 n1 e2 n2 e3 n3 zn hnm htx
      obtain ⟨nb, hnb⟩ : ∃ nb, nb = numB n := ⟨_, rfl⟩
      rw [← hnb] at IT p1
      clear hnb
      go_enter Tryz.func29, Tryz.ntmps29
      go_wp2_with (go_at_call 61; refine (H1.out _).mono ?_; rintro e w0 ⟨rfl, rfl⟩)
      refine (HN.out _).mono ?_
      rintro e w1 ⟨rfl, d1⟩
      rw [← hg]
      have B1 := Lib.hid (HB.out.trans (d1.mono HB.out.size))
      have Z1 := Lib.hid (HZ.out.below d1 HZ.out.lt)
      clear d1 hg
      have z0 := Z1.out.cell 0
      have z1 := Z1.out.cell 1
      have z2 := Z1.out.cell 2
      have z3 := Z1.out.cell 3
      have z4 := Z1.out.cell 4
      have z5 := Z1.out.cell 5
      go_wp2_with fail
      refine (IT.out _ (HT.out _ B1.out)).mono ?_
      rintro e w2 ⟨rfl, d2⟩
      have B2 := Lib.hid (B1.out.trans (d2.mono B1.out.size))
      have Z2 := Lib.hid (Z1.out.below d2 Z1.out.lt)
      clear d2 z0 z1 z2 z3 z4 z5
      have z0 := Z2.out.cell 0
      have z1 := Z2.out.cell 1
      have z2 := Z2.out.cell 2
      have z3 := Z2.out.cell 3
      have z4 := Z2.out.cell 4
      have z5 := Z2.out.cell 5
      go_wp2_with (first | (go_at_call 63; refine (H3.out _).mono ?_; rintro e w0 ⟨rfl, rfl⟩) | (go_at_call 64; refine (H4.out _).mono ?_; rintro e w0 ⟨rfl, rfl⟩))
      go_ret
      exact ⟨_, rfl, FIN.out, B2.out⟩
  · cases f
    · rw [hasNK_ne q2] at HN
      have zv : (ByteArray.mk #[115, 119, 105, 116, 99, 104]).size = 6 := rfl
      have z32 : (ByteArray.mk #[32]).size = 1 := rfl
      have z10 : (ByteArray.mk #[10]).size = 1 := rfl
      have z45 : (ByteArray.mk #[32, 45, 102]).size = 3 := rfl
      obtain ⟨s1, e1, n1, p1⟩ := sum_namedT ⟨#[32]⟩ nm (by omega)
      obtain ⟨s2, e2, n2, p2⟩ := sum_namedT ⟨#[115, 119, 105, 116, 99, 104]⟩ s1 (by omega)
      have FIN := Lib.hid (show s2.data.toList = textK 5 nm n tx false l by
        rw [e2, e1]
        unfold textK
        rw [if_pos (show hasNmK 5 = true ∧ nm ≠ ⟨#[]⟩ from ⟨rfl, q1⟩), if_neg (show ¬ hasNK 5 nm = true by rw [hasNK_ne q2]; decide), if_neg (show ¬ (hasFK 5 = true ∧ false = true) from fun h => by cases h.2), if_neg (show ¬ (hasTK 5 = true ∧ tx ≠ ⟨#[]⟩) from fun h => by cases h.1), if_neg (show ¬ 5 = 14 by decide)]
        simp [vB])
      clear zv z32 z10 z45 e1 n1 e2 n2 zn hnm htx
      clear q1
      go_enter Tryz.func29, Tryz.ntmps29
      go_wp2_with (go_at_call 61; refine (H1.out _).mono ?_; rintro e w0 ⟨rfl, rfl⟩)
      refine (HN.out _).mono ?_
      rintro e w1 ⟨rfl, d1⟩
      rw [← hg]
      have B1 := Lib.hid (HB.out.trans (d1.mono HB.out.size))
      have Z1 := Lib.hid (HZ.out.below d1 HZ.out.lt)
      clear d1 hg
      have z0 := Z1.out.cell 0
      have z1 := Z1.out.cell 1
      have z2 := Z1.out.cell 2
      have z3 := Z1.out.cell 3
      have z4 := Z1.out.cell 4
      have z5 := Z1.out.cell 5
      go_wp2_with (first | (go_at_call 63; refine (H3.out _).mono ?_; rintro e w0 ⟨rfl, rfl⟩) | (go_at_call 64; refine (H4.out _).mono ?_; rintro e w0 ⟨rfl, rfl⟩))
      go_ret
      exact ⟨_, rfl, FIN.out, B1.out⟩
    · rw [hasNK_ne q2] at HN
      have zv : (ByteArray.mk #[115, 119, 105, 116, 99, 104]).size = 6 := rfl
      have z32 : (ByteArray.mk #[32]).size = 1 := rfl
      have z10 : (ByteArray.mk #[10]).size = 1 := rfl
      have z45 : (ByteArray.mk #[32, 45, 102]).size = 3 := rfl
      obtain ⟨s1, e1, n1, p1⟩ := sum_namedT ⟨#[32]⟩ nm (by omega)
      obtain ⟨s2, e2, n2, p2⟩ := sum_namedT ⟨#[115, 119, 105, 116, 99, 104]⟩ s1 (by omega)
      obtain ⟨s3, e3, n3, p3⟩ := sum_namedT s2 ⟨#[32, 45, 102]⟩ (by omega)
      have FIN := Lib.hid (show s3.data.toList = textK 5 nm n tx true l by
        rw [e3, e2, e1]
        unfold textK
        rw [if_pos (show hasNmK 5 = true ∧ nm ≠ ⟨#[]⟩ from ⟨rfl, q1⟩), if_neg (show ¬ hasNK 5 nm = true by rw [hasNK_ne q2]; decide), if_pos (show hasFK 5 = true ∧ true = true from ⟨rfl, rfl⟩), if_neg (show ¬ (hasTK 5 = true ∧ tx ≠ ⟨#[]⟩) from fun h => by cases h.1), if_neg (show ¬ 5 = 14 by decide)]
        simp [vB])
      clear zv z32 z10 z45 e1 n1 e2 n2 e3 n3 zn hnm htx
      clear q1
      go_enter Tryz.func29, Tryz.ntmps29
      go_wp2_with (go_at_call 61; refine (H1.out _).mono ?_; rintro e w0 ⟨rfl, rfl⟩)
      refine (HN.out _).mono ?_
      rintro e w1 ⟨rfl, d1⟩
      rw [← hg]
      have B1 := Lib.hid (HB.out.trans (d1.mono HB.out.size))
      have Z1 := Lib.hid (HZ.out.below d1 HZ.out.lt)
      clear d1 hg
      have z0 := Z1.out.cell 0
      have z1 := Z1.out.cell 1
      have z2 := Z1.out.cell 2
      have z3 := Z1.out.cell 3
      have z4 := Z1.out.cell 4
      have z5 := Z1.out.cell 5
      go_wp2_with (first | (go_at_call 63; refine (H3.out _).mono ?_; rintro e w0 ⟨rfl, rfl⟩) | (go_at_call 64; refine (H4.out _).mono ?_; rintro e w0 ⟨rfl, rfl⟩))
      go_ret
      exact ⟨_, rfl, FIN.out, B1.out⟩
attribute [-go_sem] run_string_add_if in
set_option maxRecDepth 100000 in
set_option maxHeartbeats 8000000 in
theorem cmdText_6 (nm : ByteArray) (n : Int) (tx : ByteArray) (f : Bool) (A : Option Addr) (l : List Fl) (c : Nat) (w : World) (hnm : nm.size ≤ 1000) (htx : tx.size ≤ 1000) (hn0 : -9223372036854775808 ≤ n) (hn1 : n ≤ 9223372036854775807) (hl : Reads 3 cF w (.slice A l.length c) l) (hll : l.length ≤ 100) (hls : ∀ x ∈ l, StepOkG x) (hT : PowTab w) :
    Calls Tryz.prog 29 #[.agg #[.string ⟨#[114, 101, 115, 101, 116]⟩, .string nm, .int .i64 n, .string tx, .bool f, .slice A l.length c]] w (SaidTo (textK 6 nm n tx f l) w) := by
  have HB := Lib.hid ((Below.refl w.heap.size w).alloc (Nat.le_refl _) (.cells #[.string ⟨#[114, 101, 115, 101, 116]⟩, .string nm, .int .i64 n, .string tx, .bool f, .slice A l.length c] 52))
  have HZ := Lib.hid (Blk.new w 52 #[.string ⟨#[114, 101, 115, 101, 116]⟩, .string nm, .int .i64 n, .string tx, .bool f, .slice A l.length c])
  have HL := Lib.hid fun W (hW : Below w.heap.size w W) => hl.below hW
  have _keep := And.intro hnm (And.intro htx (And.intro hll hls))
  clear _keep
  have HT := Lib.hid fun W (hW : Below w.heap.size w W) => tabIs_below hT hW
  have H1 := Lib.hid fun W => (show Calls Tryz.prog 61 #[.string ⟨#[114, 101, 115, 101, 116]⟩] W fun e w' => e = .returned (.bool true) ∧ w' = W from hasName_any 6 (by decide) W)
  have H3 := Lib.hid fun W => (show Calls Tryz.prog 63 #[.string ⟨#[114, 101, 115, 101, 116]⟩] W fun e w' => e = .returned (.bool false) ∧ w' = W from hasForce_any 6 (by decide) W)
  have H4 := Lib.hid fun W => (show Calls Tryz.prog 64 #[.string ⟨#[114, 101, 115, 101, 116]⟩] W fun e w' => e = .returned (.bool false) ∧ w' = W from hasText_any 6 (by decide) W)
  have HN := Lib.hid fun W => (show Calls Tryz.prog 62 #[.agg #[.string ⟨#[114, 101, 115, 101, 116]⟩, .string nm, .int .i64 n, .string tx, .bool f, .slice A l.length c]] W fun e w' => e = .returned (.bool (hasNK 6 nm)) ∧ Below W.heap.size W w' from hasN_any 6 (by decide) nm n tx f A l.length c W)
  have IT := Lib.hid fun W (h : PowTab W) => itoa_all n hn0 hn1 W h
  have zn := numB_size hn0 hn1
  obtain ⟨g, hg⟩ : ∃ g, g = w.heap.size := ⟨_, rfl⟩
  rw [← hg] at HZ
  clear hn0 hn1 hl hll hls hT
  rcases emptyB nm with ⟨rfl, -⟩ | ⟨q1, q2, q3⟩
  · rw [show hasNK 6 ⟨#[]⟩ = true from rfl] at HN
    have zv : (ByteArray.mk #[114, 101, 115, 101, 116]).size = 5 := rfl
    have z32 : (ByteArray.mk #[32]).size = 1 := rfl
    have z10 : (ByteArray.mk #[10]).size = 1 := rfl
    have z45 : (ByteArray.mk #[32, 45, 102]).size = 3 := rfl
    obtain ⟨s1, e1, n1, p1⟩ := sum_namedT ⟨#[32]⟩ (numB n) (by omega)
    obtain ⟨s2, e2, n2, p2⟩ := sum_namedT ⟨#[114, 101, 115, 101, 116]⟩ s1 (by omega)
    have FIN := Lib.hid (show s2.data.toList = textK 6 ⟨#[]⟩ n tx f l by
      rw [e2, e1]
      unfold textK
      rw [if_neg (show ¬ (hasNmK 6 = true ∧ (⟨#[]⟩ : ByteArray) ≠ ⟨#[]⟩) from fun h => h.2 rfl), if_pos (show hasNK 6 ⟨#[]⟩ = true from rfl), if_neg (show ¬ (hasFK 6 = true ∧ f = true) from fun h => by cases h.1), if_neg (show ¬ (hasTK 6 = true ∧ tx ≠ ⟨#[]⟩) from fun h => by cases h.1), if_neg (show ¬ 6 = 14 by decide)]
      simp [numB_list, vB])
    clear zv z32 z10 z45 e1 n1 e2 n2 zn hnm htx
    obtain ⟨nb, hnb⟩ : ∃ nb, nb = numB n := ⟨_, rfl⟩
    rw [← hnb] at IT p1
    clear hnb
    go_enter Tryz.func29, Tryz.ntmps29
    go_wp2_with (go_at_call 61; refine (H1.out _).mono ?_; rintro e w0 ⟨rfl, rfl⟩)
    refine (HN.out _).mono ?_
    rintro e w1 ⟨rfl, d1⟩
    rw [← hg]
    have B1 := Lib.hid (HB.out.trans (d1.mono HB.out.size))
    have Z1 := Lib.hid (HZ.out.below d1 HZ.out.lt)
    clear d1 hg
    have z0 := Z1.out.cell 0
    have z1 := Z1.out.cell 1
    have z2 := Z1.out.cell 2
    have z3 := Z1.out.cell 3
    have z4 := Z1.out.cell 4
    have z5 := Z1.out.cell 5
    go_wp2_with fail
    refine (IT.out _ (HT.out _ B1.out)).mono ?_
    rintro e w2 ⟨rfl, d2⟩
    have B2 := Lib.hid (B1.out.trans (d2.mono B1.out.size))
    have Z2 := Lib.hid (Z1.out.below d2 Z1.out.lt)
    clear d2 z0 z1 z2 z3 z4 z5
    have z0 := Z2.out.cell 0
    have z1 := Z2.out.cell 1
    have z2 := Z2.out.cell 2
    have z3 := Z2.out.cell 3
    have z4 := Z2.out.cell 4
    have z5 := Z2.out.cell 5
    go_wp2_with (first | (go_at_call 63; refine (H3.out _).mono ?_; rintro e w0 ⟨rfl, rfl⟩) | (go_at_call 64; refine (H4.out _).mono ?_; rintro e w0 ⟨rfl, rfl⟩))
    go_ret
    exact ⟨_, rfl, FIN.out, B2.out⟩
  · rw [show hasNK 6 nm = true from rfl] at HN
    have zv : (ByteArray.mk #[114, 101, 115, 101, 116]).size = 5 := rfl
    have z32 : (ByteArray.mk #[32]).size = 1 := rfl
    have z10 : (ByteArray.mk #[10]).size = 1 := rfl
    have z45 : (ByteArray.mk #[32, 45, 102]).size = 3 := rfl
    obtain ⟨s1, e1, n1, p1⟩ := sum_namedT ⟨#[32]⟩ nm (by omega)
    obtain ⟨s2, e2, n2, p2⟩ := sum_namedT ⟨#[114, 101, 115, 101, 116]⟩ s1 (by omega)
    obtain ⟨s3, e3, n3, p3⟩ := sum_namedT ⟨#[32]⟩ (numB n) (by omega)
    obtain ⟨s4, e4, n4, p4⟩ := sum_namedT s2 s3 (by omega)
    have FIN := Lib.hid (show s4.data.toList = textK 6 nm n tx f l by
      rw [e4, e3, e2, e1]
      unfold textK
      rw [if_pos (show hasNmK 6 = true ∧ nm ≠ ⟨#[]⟩ from ⟨rfl, q1⟩), if_pos (show hasNK 6 nm = true from rfl), if_neg (show ¬ (hasFK 6 = true ∧ f = true) from fun h => by cases h.1), if_neg (show ¬ (hasTK 6 = true ∧ tx ≠ ⟨#[]⟩) from fun h => by cases h.1), if_neg (show ¬ 6 = 14 by decide)]
      simp [numB_list, vB])
    clear zv z32 z10 z45 e1 n1 e2 n2 e3 n3 e4 n4 zn hnm htx
    clear q1
    obtain ⟨nb, hnb⟩ : ∃ nb, nb = numB n := ⟨_, rfl⟩
    rw [← hnb] at IT p3
    clear hnb
    go_enter Tryz.func29, Tryz.ntmps29
    go_wp2_with (go_at_call 61; refine (H1.out _).mono ?_; rintro e w0 ⟨rfl, rfl⟩)
    refine (HN.out _).mono ?_
    rintro e w1 ⟨rfl, d1⟩
    rw [← hg]
    have B1 := Lib.hid (HB.out.trans (d1.mono HB.out.size))
    have Z1 := Lib.hid (HZ.out.below d1 HZ.out.lt)
    clear d1 hg
    have z0 := Z1.out.cell 0
    have z1 := Z1.out.cell 1
    have z2 := Z1.out.cell 2
    have z3 := Z1.out.cell 3
    have z4 := Z1.out.cell 4
    have z5 := Z1.out.cell 5
    go_wp2_with fail
    refine (IT.out _ (HT.out _ B1.out)).mono ?_
    rintro e w2 ⟨rfl, d2⟩
    have B2 := Lib.hid (B1.out.trans (d2.mono B1.out.size))
    have Z2 := Lib.hid (Z1.out.below d2 Z1.out.lt)
    clear d2 z0 z1 z2 z3 z4 z5
    have z0 := Z2.out.cell 0
    have z1 := Z2.out.cell 1
    have z2 := Z2.out.cell 2
    have z3 := Z2.out.cell 3
    have z4 := Z2.out.cell 4
    have z5 := Z2.out.cell 5
    go_wp2_with (first | (go_at_call 63; refine (H3.out _).mono ?_; rintro e w0 ⟨rfl, rfl⟩) | (go_at_call 64; refine (H4.out _).mono ?_; rintro e w0 ⟨rfl, rfl⟩))
    go_ret
    exact ⟨_, rfl, FIN.out, B2.out⟩
attribute [-go_sem] run_string_add_if in
set_option maxRecDepth 100000 in
set_option maxHeartbeats 8000000 in
theorem cmdText_7 (nm : ByteArray) (n : Int) (tx : ByteArray) (f : Bool) (A : Option Addr) (l : List Fl) (c : Nat) (w : World) (hnm : nm.size ≤ 1000) (htx : tx.size ≤ 1000) (hn0 : -9223372036854775808 ≤ n) (hn1 : n ≤ 9223372036854775807) (hl : Reads 3 cF w (.slice A l.length c) l) (hll : l.length ≤ 100) (hls : ∀ x ∈ l, StepOkG x) (hT : PowTab w) :
    Calls Tryz.prog 29 #[.agg #[.string ⟨#[109, 101, 114, 103, 101]⟩, .string nm, .int .i64 n, .string tx, .bool f, .slice A l.length c]] w (SaidTo (textK 7 nm n tx f l) w) := by
  have HB := Lib.hid ((Below.refl w.heap.size w).alloc (Nat.le_refl _) (.cells #[.string ⟨#[109, 101, 114, 103, 101]⟩, .string nm, .int .i64 n, .string tx, .bool f, .slice A l.length c] 52))
  have HZ := Lib.hid (Blk.new w 52 #[.string ⟨#[109, 101, 114, 103, 101]⟩, .string nm, .int .i64 n, .string tx, .bool f, .slice A l.length c])
  have HL := Lib.hid fun W (hW : Below w.heap.size w W) => hl.below hW
  have _keep := And.intro hnm (And.intro htx (And.intro hll hls))
  clear _keep
  have HT := Lib.hid fun W (hW : Below w.heap.size w W) => tabIs_below hT hW
  have H1 := Lib.hid fun W => (show Calls Tryz.prog 61 #[.string ⟨#[109, 101, 114, 103, 101]⟩] W fun e w' => e = .returned (.bool true) ∧ w' = W from hasName_any 7 (by decide) W)
  have H3 := Lib.hid fun W => (show Calls Tryz.prog 63 #[.string ⟨#[109, 101, 114, 103, 101]⟩] W fun e w' => e = .returned (.bool false) ∧ w' = W from hasForce_any 7 (by decide) W)
  have H4 := Lib.hid fun W => (show Calls Tryz.prog 64 #[.string ⟨#[109, 101, 114, 103, 101]⟩] W fun e w' => e = .returned (.bool false) ∧ w' = W from hasText_any 7 (by decide) W)
  have HN := Lib.hid fun W => (show Calls Tryz.prog 62 #[.agg #[.string ⟨#[109, 101, 114, 103, 101]⟩, .string nm, .int .i64 n, .string tx, .bool f, .slice A l.length c]] W fun e w' => e = .returned (.bool (hasNK 7 nm)) ∧ Below W.heap.size W w' from hasN_any 7 (by decide) nm n tx f A l.length c W)
  have IT := Lib.hid fun W (h : PowTab W) => itoa_all n hn0 hn1 W h
  have zn := numB_size hn0 hn1
  obtain ⟨g, hg⟩ : ∃ g, g = w.heap.size := ⟨_, rfl⟩
  rw [← hg] at HZ
  clear hn0 hn1 hl hll hls hT
  rcases emptyB nm with ⟨rfl, -⟩ | ⟨q1, q2, q3⟩
  · rw [show hasNK 7 ⟨#[]⟩ = false from rfl] at HN
    have zv : (ByteArray.mk #[109, 101, 114, 103, 101]).size = 5 := rfl
    have z32 : (ByteArray.mk #[32]).size = 1 := rfl
    have z10 : (ByteArray.mk #[10]).size = 1 := rfl
    have z45 : (ByteArray.mk #[32, 45, 102]).size = 3 := rfl
    have FIN := Lib.hid (show (ByteArray.mk #[109, 101, 114, 103, 101]).data.toList = textK 7 ⟨#[]⟩ n tx f l by
      unfold textK
      rw [if_neg (show ¬ (hasNmK 7 = true ∧ (⟨#[]⟩ : ByteArray) ≠ ⟨#[]⟩) from fun h => h.2 rfl), if_neg (show ¬ hasNK 7 ⟨#[]⟩ = true from fun h => by cases h), if_neg (show ¬ (hasFK 7 = true ∧ f = true) from fun h => by cases h.1), if_neg (show ¬ (hasTK 7 = true ∧ tx ≠ ⟨#[]⟩) from fun h => by cases h.1), if_neg (show ¬ 7 = 14 by decide)]
      simp [vB])
    clear zv z32 z10 z45  zn hnm htx
    go_enter Tryz.func29, Tryz.ntmps29
    go_wp2_with (go_at_call 61; refine (H1.out _).mono ?_; rintro e w0 ⟨rfl, rfl⟩)
    refine (HN.out _).mono ?_
    rintro e w1 ⟨rfl, d1⟩
    rw [← hg]
    have B1 := Lib.hid (HB.out.trans (d1.mono HB.out.size))
    have Z1 := Lib.hid (HZ.out.below d1 HZ.out.lt)
    clear d1 hg
    have z0 := Z1.out.cell 0
    have z1 := Z1.out.cell 1
    have z2 := Z1.out.cell 2
    have z3 := Z1.out.cell 3
    have z4 := Z1.out.cell 4
    have z5 := Z1.out.cell 5
    go_wp2_with (first | (go_at_call 63; refine (H3.out _).mono ?_; rintro e w0 ⟨rfl, rfl⟩) | (go_at_call 64; refine (H4.out _).mono ?_; rintro e w0 ⟨rfl, rfl⟩))
    go_ret
    exact ⟨_, rfl, FIN.out, B1.out⟩
  · rw [show hasNK 7 nm = false from rfl] at HN
    have zv : (ByteArray.mk #[109, 101, 114, 103, 101]).size = 5 := rfl
    have z32 : (ByteArray.mk #[32]).size = 1 := rfl
    have z10 : (ByteArray.mk #[10]).size = 1 := rfl
    have z45 : (ByteArray.mk #[32, 45, 102]).size = 3 := rfl
    obtain ⟨s1, e1, n1, p1⟩ := sum_namedT ⟨#[32]⟩ nm (by omega)
    obtain ⟨s2, e2, n2, p2⟩ := sum_namedT ⟨#[109, 101, 114, 103, 101]⟩ s1 (by omega)
    have FIN := Lib.hid (show s2.data.toList = textK 7 nm n tx f l by
      rw [e2, e1]
      unfold textK
      rw [if_pos (show hasNmK 7 = true ∧ nm ≠ ⟨#[]⟩ from ⟨rfl, q1⟩), if_neg (show ¬ hasNK 7 nm = true from fun h => by cases h), if_neg (show ¬ (hasFK 7 = true ∧ f = true) from fun h => by cases h.1), if_neg (show ¬ (hasTK 7 = true ∧ tx ≠ ⟨#[]⟩) from fun h => by cases h.1), if_neg (show ¬ 7 = 14 by decide)]
      simp [vB])
    clear zv z32 z10 z45 e1 n1 e2 n2 zn hnm htx
    clear q1
    go_enter Tryz.func29, Tryz.ntmps29
    go_wp2_with (go_at_call 61; refine (H1.out _).mono ?_; rintro e w0 ⟨rfl, rfl⟩)
    refine (HN.out _).mono ?_
    rintro e w1 ⟨rfl, d1⟩
    rw [← hg]
    have B1 := Lib.hid (HB.out.trans (d1.mono HB.out.size))
    have Z1 := Lib.hid (HZ.out.below d1 HZ.out.lt)
    clear d1 hg
    have z0 := Z1.out.cell 0
    have z1 := Z1.out.cell 1
    have z2 := Z1.out.cell 2
    have z3 := Z1.out.cell 3
    have z4 := Z1.out.cell 4
    have z5 := Z1.out.cell 5
    go_wp2_with (first | (go_at_call 63; refine (H3.out _).mono ?_; rintro e w0 ⟨rfl, rfl⟩) | (go_at_call 64; refine (H4.out _).mono ?_; rintro e w0 ⟨rfl, rfl⟩))
    go_ret
    exact ⟨_, rfl, FIN.out, B1.out⟩
attribute [-go_sem] run_string_add_if in
set_option maxRecDepth 100000 in
set_option maxHeartbeats 8000000 in
theorem cmdText_8 (nm : ByteArray) (n : Int) (tx : ByteArray) (f : Bool) (A : Option Addr) (l : List Fl) (c : Nat) (w : World) (hnm : nm.size ≤ 1000) (htx : tx.size ≤ 1000) (hn0 : -9223372036854775808 ≤ n) (hn1 : n ≤ 9223372036854775807) (hl : Reads 3 cF w (.slice A l.length c) l) (hll : l.length ≤ 100) (hls : ∀ x ∈ l, StepOkG x) (hT : PowTab w) :
    Calls Tryz.prog 29 #[.agg #[.string ⟨#[112, 105, 99, 107]⟩, .string nm, .int .i64 n, .string tx, .bool f, .slice A l.length c]] w (SaidTo (textK 8 nm n tx f l) w) := by
  have HB := Lib.hid ((Below.refl w.heap.size w).alloc (Nat.le_refl _) (.cells #[.string ⟨#[112, 105, 99, 107]⟩, .string nm, .int .i64 n, .string tx, .bool f, .slice A l.length c] 52))
  have HZ := Lib.hid (Blk.new w 52 #[.string ⟨#[112, 105, 99, 107]⟩, .string nm, .int .i64 n, .string tx, .bool f, .slice A l.length c])
  have HL := Lib.hid fun W (hW : Below w.heap.size w W) => hl.below hW
  have _keep := And.intro hnm (And.intro htx (And.intro hll hls))
  clear _keep
  have HT := Lib.hid fun W (hW : Below w.heap.size w W) => tabIs_below hT hW
  have H1 := Lib.hid fun W => (show Calls Tryz.prog 61 #[.string ⟨#[112, 105, 99, 107]⟩] W fun e w' => e = .returned (.bool false) ∧ w' = W from hasName_any 8 (by decide) W)
  have H3 := Lib.hid fun W => (show Calls Tryz.prog 63 #[.string ⟨#[112, 105, 99, 107]⟩] W fun e w' => e = .returned (.bool false) ∧ w' = W from hasForce_any 8 (by decide) W)
  have H4 := Lib.hid fun W => (show Calls Tryz.prog 64 #[.string ⟨#[112, 105, 99, 107]⟩] W fun e w' => e = .returned (.bool false) ∧ w' = W from hasText_any 8 (by decide) W)
  have HN := Lib.hid fun W => (show Calls Tryz.prog 62 #[.agg #[.string ⟨#[112, 105, 99, 107]⟩, .string nm, .int .i64 n, .string tx, .bool f, .slice A l.length c]] W fun e w' => e = .returned (.bool (hasNK 8 nm)) ∧ Below W.heap.size W w' from hasN_any 8 (by decide) nm n tx f A l.length c W)
  have IT := Lib.hid fun W (h : PowTab W) => itoa_all n hn0 hn1 W h
  have zn := numB_size hn0 hn1
  obtain ⟨g, hg⟩ : ∃ g, g = w.heap.size := ⟨_, rfl⟩
  rw [← hg] at HZ
  clear hn0 hn1 hl hll hls hT
  rw [show hasNK 8 nm = true from rfl] at HN
  have zv : (ByteArray.mk #[112, 105, 99, 107]).size = 4 := rfl
  have z32 : (ByteArray.mk #[32]).size = 1 := rfl
  have z10 : (ByteArray.mk #[10]).size = 1 := rfl
  have z45 : (ByteArray.mk #[32, 45, 102]).size = 3 := rfl
  obtain ⟨s1, e1, n1, p1⟩ := sum_namedT ⟨#[32]⟩ (numB n) (by omega)
  obtain ⟨s2, e2, n2, p2⟩ := sum_namedT ⟨#[112, 105, 99, 107]⟩ s1 (by omega)
  have FIN := Lib.hid (show s2.data.toList = textK 8 nm n tx f l by
    rw [e2, e1]
    unfold textK
    rw [if_neg (show ¬ (hasNmK 8 = true ∧ nm ≠ ⟨#[]⟩) from fun h => by cases h.1), if_pos (show hasNK 8 nm = true from rfl), if_neg (show ¬ (hasFK 8 = true ∧ f = true) from fun h => by cases h.1), if_neg (show ¬ (hasTK 8 = true ∧ tx ≠ ⟨#[]⟩) from fun h => by cases h.1), if_neg (show ¬ 8 = 14 by decide)]
    simp [numB_list, vB])
  clear zv z32 z10 z45 e1 n1 e2 n2 zn hnm htx
  obtain ⟨nb, hnb⟩ : ∃ nb, nb = numB n := ⟨_, rfl⟩
  rw [← hnb] at IT p1
  clear hnb
  go_enter Tryz.func29, Tryz.ntmps29
  go_wp2_with (go_at_call 61; refine (H1.out _).mono ?_; rintro e w0 ⟨rfl, rfl⟩)
  refine (HN.out _).mono ?_
  rintro e w1 ⟨rfl, d1⟩
  rw [← hg]
  have B1 := Lib.hid (HB.out.trans (d1.mono HB.out.size))
  have Z1 := Lib.hid (HZ.out.below d1 HZ.out.lt)
  clear d1 hg
  have z0 := Z1.out.cell 0
  have z1 := Z1.out.cell 1
  have z2 := Z1.out.cell 2
  have z3 := Z1.out.cell 3
  have z4 := Z1.out.cell 4
  have z5 := Z1.out.cell 5
  go_wp2_with fail
  refine (IT.out _ (HT.out _ B1.out)).mono ?_
  rintro e w2 ⟨rfl, d2⟩
  have B2 := Lib.hid (B1.out.trans (d2.mono B1.out.size))
  have Z2 := Lib.hid (Z1.out.below d2 Z1.out.lt)
  clear d2 z0 z1 z2 z3 z4 z5
  have z0 := Z2.out.cell 0
  have z1 := Z2.out.cell 1
  have z2 := Z2.out.cell 2
  have z3 := Z2.out.cell 3
  have z4 := Z2.out.cell 4
  have z5 := Z2.out.cell 5
  go_wp2_with (first | (go_at_call 63; refine (H3.out _).mono ?_; rintro e w0 ⟨rfl, rfl⟩) | (go_at_call 64; refine (H4.out _).mono ?_; rintro e w0 ⟨rfl, rfl⟩))
  go_ret
  exact ⟨_, rfl, FIN.out, B2.out⟩
attribute [-go_sem] run_string_add_if in
set_option maxRecDepth 100000 in
set_option maxHeartbeats 8000000 in
theorem cmdText_9 (nm : ByteArray) (n : Int) (tx : ByteArray) (f : Bool) (A : Option Addr) (l : List Fl) (c : Nat) (w : World) (hnm : nm.size ≤ 1000) (htx : tx.size ≤ 1000) (hn0 : -9223372036854775808 ≤ n) (hn1 : n ≤ 9223372036854775807) (hl : Reads 3 cF w (.slice A l.length c) l) (hll : l.length ≤ 100) (hls : ∀ x ∈ l, StepOkG x) (hT : PowTab w) :
    Calls Tryz.prog 29 #[.agg #[.string ⟨#[114, 101, 118, 101, 114, 116]⟩, .string nm, .int .i64 n, .string tx, .bool f, .slice A l.length c]] w (SaidTo (textK 9 nm n tx f l) w) := by
  have HB := Lib.hid ((Below.refl w.heap.size w).alloc (Nat.le_refl _) (.cells #[.string ⟨#[114, 101, 118, 101, 114, 116]⟩, .string nm, .int .i64 n, .string tx, .bool f, .slice A l.length c] 52))
  have HZ := Lib.hid (Blk.new w 52 #[.string ⟨#[114, 101, 118, 101, 114, 116]⟩, .string nm, .int .i64 n, .string tx, .bool f, .slice A l.length c])
  have HL := Lib.hid fun W (hW : Below w.heap.size w W) => hl.below hW
  have _keep := And.intro hnm (And.intro htx (And.intro hll hls))
  clear _keep
  have HT := Lib.hid fun W (hW : Below w.heap.size w W) => tabIs_below hT hW
  have H1 := Lib.hid fun W => (show Calls Tryz.prog 61 #[.string ⟨#[114, 101, 118, 101, 114, 116]⟩] W fun e w' => e = .returned (.bool false) ∧ w' = W from hasName_any 9 (by decide) W)
  have H3 := Lib.hid fun W => (show Calls Tryz.prog 63 #[.string ⟨#[114, 101, 118, 101, 114, 116]⟩] W fun e w' => e = .returned (.bool false) ∧ w' = W from hasForce_any 9 (by decide) W)
  have H4 := Lib.hid fun W => (show Calls Tryz.prog 64 #[.string ⟨#[114, 101, 118, 101, 114, 116]⟩] W fun e w' => e = .returned (.bool false) ∧ w' = W from hasText_any 9 (by decide) W)
  have HN := Lib.hid fun W => (show Calls Tryz.prog 62 #[.agg #[.string ⟨#[114, 101, 118, 101, 114, 116]⟩, .string nm, .int .i64 n, .string tx, .bool f, .slice A l.length c]] W fun e w' => e = .returned (.bool (hasNK 9 nm)) ∧ Below W.heap.size W w' from hasN_any 9 (by decide) nm n tx f A l.length c W)
  have IT := Lib.hid fun W (h : PowTab W) => itoa_all n hn0 hn1 W h
  have zn := numB_size hn0 hn1
  obtain ⟨g, hg⟩ : ∃ g, g = w.heap.size := ⟨_, rfl⟩
  rw [← hg] at HZ
  clear hn0 hn1 hl hll hls hT
  rw [show hasNK 9 nm = true from rfl] at HN
  have zv : (ByteArray.mk #[114, 101, 118, 101, 114, 116]).size = 6 := rfl
  have z32 : (ByteArray.mk #[32]).size = 1 := rfl
  have z10 : (ByteArray.mk #[10]).size = 1 := rfl
  have z45 : (ByteArray.mk #[32, 45, 102]).size = 3 := rfl
  obtain ⟨s1, e1, n1, p1⟩ := sum_namedT ⟨#[32]⟩ (numB n) (by omega)
  obtain ⟨s2, e2, n2, p2⟩ := sum_namedT ⟨#[114, 101, 118, 101, 114, 116]⟩ s1 (by omega)
  have FIN := Lib.hid (show s2.data.toList = textK 9 nm n tx f l by
    rw [e2, e1]
    unfold textK
    rw [if_neg (show ¬ (hasNmK 9 = true ∧ nm ≠ ⟨#[]⟩) from fun h => by cases h.1), if_pos (show hasNK 9 nm = true from rfl), if_neg (show ¬ (hasFK 9 = true ∧ f = true) from fun h => by cases h.1), if_neg (show ¬ (hasTK 9 = true ∧ tx ≠ ⟨#[]⟩) from fun h => by cases h.1), if_neg (show ¬ 9 = 14 by decide)]
    simp [numB_list, vB])
  clear zv z32 z10 z45 e1 n1 e2 n2 zn hnm htx
  obtain ⟨nb, hnb⟩ : ∃ nb, nb = numB n := ⟨_, rfl⟩
  rw [← hnb] at IT p1
  clear hnb
  go_enter Tryz.func29, Tryz.ntmps29
  go_wp2_with (go_at_call 61; refine (H1.out _).mono ?_; rintro e w0 ⟨rfl, rfl⟩)
  refine (HN.out _).mono ?_
  rintro e w1 ⟨rfl, d1⟩
  rw [← hg]
  have B1 := Lib.hid (HB.out.trans (d1.mono HB.out.size))
  have Z1 := Lib.hid (HZ.out.below d1 HZ.out.lt)
  clear d1 hg
  have z0 := Z1.out.cell 0
  have z1 := Z1.out.cell 1
  have z2 := Z1.out.cell 2
  have z3 := Z1.out.cell 3
  have z4 := Z1.out.cell 4
  have z5 := Z1.out.cell 5
  go_wp2_with fail
  refine (IT.out _ (HT.out _ B1.out)).mono ?_
  rintro e w2 ⟨rfl, d2⟩
  have B2 := Lib.hid (B1.out.trans (d2.mono B1.out.size))
  have Z2 := Lib.hid (Z1.out.below d2 Z1.out.lt)
  clear d2 z0 z1 z2 z3 z4 z5
  have z0 := Z2.out.cell 0
  have z1 := Z2.out.cell 1
  have z2 := Z2.out.cell 2
  have z3 := Z2.out.cell 3
  have z4 := Z2.out.cell 4
  have z5 := Z2.out.cell 5
  go_wp2_with (first | (go_at_call 63; refine (H3.out _).mono ?_; rintro e w0 ⟨rfl, rfl⟩) | (go_at_call 64; refine (H4.out _).mono ?_; rintro e w0 ⟨rfl, rfl⟩))
  go_ret
  exact ⟨_, rfl, FIN.out, B2.out⟩
attribute [-go_sem] run_string_add_if in
set_option maxRecDepth 100000 in
set_option maxHeartbeats 8000000 in
theorem cmdText_10 (nm : ByteArray) (n : Int) (tx : ByteArray) (f : Bool) (A : Option Addr) (l : List Fl) (c : Nat) (w : World) (hnm : nm.size ≤ 1000) (htx : tx.size ≤ 1000) (hn0 : -9223372036854775808 ≤ n) (hn1 : n ≤ 9223372036854775807) (hl : Reads 3 cF w (.slice A l.length c) l) (hll : l.length ≤ 100) (hls : ∀ x ∈ l, StepOkG x) (hT : PowTab w) :
    Calls Tryz.prog 29 #[.agg #[.string ⟨#[115, 116, 97, 115, 104]⟩, .string nm, .int .i64 n, .string tx, .bool f, .slice A l.length c]] w (SaidTo (textK 10 nm n tx f l) w) := by
  have HB := Lib.hid ((Below.refl w.heap.size w).alloc (Nat.le_refl _) (.cells #[.string ⟨#[115, 116, 97, 115, 104]⟩, .string nm, .int .i64 n, .string tx, .bool f, .slice A l.length c] 52))
  have HZ := Lib.hid (Blk.new w 52 #[.string ⟨#[115, 116, 97, 115, 104]⟩, .string nm, .int .i64 n, .string tx, .bool f, .slice A l.length c])
  have HL := Lib.hid fun W (hW : Below w.heap.size w W) => hl.below hW
  have _keep := And.intro hnm (And.intro htx (And.intro hll hls))
  clear _keep
  have HT := Lib.hid fun W (hW : Below w.heap.size w W) => tabIs_below hT hW
  have H1 := Lib.hid fun W => (show Calls Tryz.prog 61 #[.string ⟨#[115, 116, 97, 115, 104]⟩] W fun e w' => e = .returned (.bool false) ∧ w' = W from hasName_any 10 (by decide) W)
  have H3 := Lib.hid fun W => (show Calls Tryz.prog 63 #[.string ⟨#[115, 116, 97, 115, 104]⟩] W fun e w' => e = .returned (.bool false) ∧ w' = W from hasForce_any 10 (by decide) W)
  have H4 := Lib.hid fun W => (show Calls Tryz.prog 64 #[.string ⟨#[115, 116, 97, 115, 104]⟩] W fun e w' => e = .returned (.bool true) ∧ w' = W from hasText_any 10 (by decide) W)
  have HN := Lib.hid fun W => (show Calls Tryz.prog 62 #[.agg #[.string ⟨#[115, 116, 97, 115, 104]⟩, .string nm, .int .i64 n, .string tx, .bool f, .slice A l.length c]] W fun e w' => e = .returned (.bool (hasNK 10 nm)) ∧ Below W.heap.size W w' from hasN_any 10 (by decide) nm n tx f A l.length c W)
  have IT := Lib.hid fun W (h : PowTab W) => itoa_all n hn0 hn1 W h
  have zn := numB_size hn0 hn1
  obtain ⟨g, hg⟩ : ∃ g, g = w.heap.size := ⟨_, rfl⟩
  rw [← hg] at HZ
  clear hn0 hn1 hl hll hls hT
  rcases emptyB tx with ⟨rfl, -⟩ | ⟨q4, q5, q6⟩
  · rw [show hasNK 10 nm = false from rfl] at HN
    have zv : (ByteArray.mk #[115, 116, 97, 115, 104]).size = 5 := rfl
    have z32 : (ByteArray.mk #[32]).size = 1 := rfl
    have z10 : (ByteArray.mk #[10]).size = 1 := rfl
    have z45 : (ByteArray.mk #[32, 45, 102]).size = 3 := rfl
    have FIN := Lib.hid (show (ByteArray.mk #[115, 116, 97, 115, 104]).data.toList = textK 10 nm n ⟨#[]⟩ f l by
      unfold textK
      rw [if_neg (show ¬ (hasNmK 10 = true ∧ nm ≠ ⟨#[]⟩) from fun h => by cases h.1), if_neg (show ¬ hasNK 10 nm = true from fun h => by cases h), if_neg (show ¬ (hasFK 10 = true ∧ f = true) from fun h => by cases h.1), if_neg (show ¬ (hasTK 10 = true ∧ (⟨#[]⟩ : ByteArray) ≠ ⟨#[]⟩) from fun h => h.2 rfl), if_neg (show ¬ 10 = 14 by decide)]
      simp [vB])
    clear zv z32 z10 z45  zn hnm htx
    go_enter Tryz.func29, Tryz.ntmps29
    go_wp2_with (go_at_call 61; refine (H1.out _).mono ?_; rintro e w0 ⟨rfl, rfl⟩)
    refine (HN.out _).mono ?_
    rintro e w1 ⟨rfl, d1⟩
    rw [← hg]
    have B1 := Lib.hid (HB.out.trans (d1.mono HB.out.size))
    have Z1 := Lib.hid (HZ.out.below d1 HZ.out.lt)
    clear d1 hg
    have z0 := Z1.out.cell 0
    have z1 := Z1.out.cell 1
    have z2 := Z1.out.cell 2
    have z3 := Z1.out.cell 3
    have z4 := Z1.out.cell 4
    have z5 := Z1.out.cell 5
    go_wp2_with (first | (go_at_call 63; refine (H3.out _).mono ?_; rintro e w0 ⟨rfl, rfl⟩) | (go_at_call 64; refine (H4.out _).mono ?_; rintro e w0 ⟨rfl, rfl⟩))
    go_ret
    exact ⟨_, rfl, FIN.out, B1.out⟩
  · rw [show hasNK 10 nm = false from rfl] at HN
    have zv : (ByteArray.mk #[115, 116, 97, 115, 104]).size = 5 := rfl
    have z32 : (ByteArray.mk #[32]).size = 1 := rfl
    have z10 : (ByteArray.mk #[10]).size = 1 := rfl
    have z45 : (ByteArray.mk #[32, 45, 102]).size = 3 := rfl
    obtain ⟨s1, e1, n1, p1⟩ := sum_namedT ⟨#[32]⟩ tx (by omega)
    obtain ⟨s2, e2, n2, p2⟩ := sum_namedT ⟨#[115, 116, 97, 115, 104]⟩ s1 (by omega)
    have FIN := Lib.hid (show s2.data.toList = textK 10 nm n tx f l by
      rw [e2, e1]
      unfold textK
      rw [if_neg (show ¬ (hasNmK 10 = true ∧ nm ≠ ⟨#[]⟩) from fun h => by cases h.1), if_neg (show ¬ hasNK 10 nm = true from fun h => by cases h), if_neg (show ¬ (hasFK 10 = true ∧ f = true) from fun h => by cases h.1), if_pos (show hasTK 10 = true ∧ tx ≠ ⟨#[]⟩ from ⟨rfl, q4⟩), if_neg (show ¬ 10 = 14 by decide)]
      simp [vB])
    clear zv z32 z10 z45 e1 n1 e2 n2 zn hnm htx
    clear q4
    go_enter Tryz.func29, Tryz.ntmps29
    go_wp2_with (go_at_call 61; refine (H1.out _).mono ?_; rintro e w0 ⟨rfl, rfl⟩)
    refine (HN.out _).mono ?_
    rintro e w1 ⟨rfl, d1⟩
    rw [← hg]
    have B1 := Lib.hid (HB.out.trans (d1.mono HB.out.size))
    have Z1 := Lib.hid (HZ.out.below d1 HZ.out.lt)
    clear d1 hg
    have z0 := Z1.out.cell 0
    have z1 := Z1.out.cell 1
    have z2 := Z1.out.cell 2
    have z3 := Z1.out.cell 3
    have z4 := Z1.out.cell 4
    have z5 := Z1.out.cell 5
    go_wp2_with (first | (go_at_call 63; refine (H3.out _).mono ?_; rintro e w0 ⟨rfl, rfl⟩) | (go_at_call 64; refine (H4.out _).mono ?_; rintro e w0 ⟨rfl, rfl⟩))
    go_ret
    exact ⟨_, rfl, FIN.out, B1.out⟩
attribute [-go_sem] run_string_add_if in
set_option maxRecDepth 100000 in
set_option maxHeartbeats 8000000 in
theorem cmdText_11 (nm : ByteArray) (n : Int) (tx : ByteArray) (f : Bool) (A : Option Addr) (l : List Fl) (c : Nat) (w : World) (hnm : nm.size ≤ 1000) (htx : tx.size ≤ 1000) (hn0 : -9223372036854775808 ≤ n) (hn1 : n ≤ 9223372036854775807) (hl : Reads 3 cF w (.slice A l.length c) l) (hll : l.length ≤ 100) (hls : ∀ x ∈ l, StepOkG x) (hT : PowTab w) :
    Calls Tryz.prog 29 #[.agg #[.string ⟨#[112, 111, 112]⟩, .string nm, .int .i64 n, .string tx, .bool f, .slice A l.length c]] w (SaidTo (textK 11 nm n tx f l) w) := by
  have HB := Lib.hid ((Below.refl w.heap.size w).alloc (Nat.le_refl _) (.cells #[.string ⟨#[112, 111, 112]⟩, .string nm, .int .i64 n, .string tx, .bool f, .slice A l.length c] 52))
  have HZ := Lib.hid (Blk.new w 52 #[.string ⟨#[112, 111, 112]⟩, .string nm, .int .i64 n, .string tx, .bool f, .slice A l.length c])
  have HL := Lib.hid fun W (hW : Below w.heap.size w W) => hl.below hW
  have _keep := And.intro hnm (And.intro htx (And.intro hll hls))
  clear _keep
  have HT := Lib.hid fun W (hW : Below w.heap.size w W) => tabIs_below hT hW
  have H1 := Lib.hid fun W => (show Calls Tryz.prog 61 #[.string ⟨#[112, 111, 112]⟩] W fun e w' => e = .returned (.bool false) ∧ w' = W from hasName_any 11 (by decide) W)
  have H3 := Lib.hid fun W => (show Calls Tryz.prog 63 #[.string ⟨#[112, 111, 112]⟩] W fun e w' => e = .returned (.bool false) ∧ w' = W from hasForce_any 11 (by decide) W)
  have H4 := Lib.hid fun W => (show Calls Tryz.prog 64 #[.string ⟨#[112, 111, 112]⟩] W fun e w' => e = .returned (.bool false) ∧ w' = W from hasText_any 11 (by decide) W)
  have HN := Lib.hid fun W => (show Calls Tryz.prog 62 #[.agg #[.string ⟨#[112, 111, 112]⟩, .string nm, .int .i64 n, .string tx, .bool f, .slice A l.length c]] W fun e w' => e = .returned (.bool (hasNK 11 nm)) ∧ Below W.heap.size W w' from hasN_any 11 (by decide) nm n tx f A l.length c W)
  have IT := Lib.hid fun W (h : PowTab W) => itoa_all n hn0 hn1 W h
  have zn := numB_size hn0 hn1
  obtain ⟨g, hg⟩ : ∃ g, g = w.heap.size := ⟨_, rfl⟩
  rw [← hg] at HZ
  clear hn0 hn1 hl hll hls hT
  rw [show hasNK 11 nm = true from rfl] at HN
  have zv : (ByteArray.mk #[112, 111, 112]).size = 3 := rfl
  have z32 : (ByteArray.mk #[32]).size = 1 := rfl
  have z10 : (ByteArray.mk #[10]).size = 1 := rfl
  have z45 : (ByteArray.mk #[32, 45, 102]).size = 3 := rfl
  obtain ⟨s1, e1, n1, p1⟩ := sum_namedT ⟨#[32]⟩ (numB n) (by omega)
  obtain ⟨s2, e2, n2, p2⟩ := sum_namedT ⟨#[112, 111, 112]⟩ s1 (by omega)
  have FIN := Lib.hid (show s2.data.toList = textK 11 nm n tx f l by
    rw [e2, e1]
    unfold textK
    rw [if_neg (show ¬ (hasNmK 11 = true ∧ nm ≠ ⟨#[]⟩) from fun h => by cases h.1), if_pos (show hasNK 11 nm = true from rfl), if_neg (show ¬ (hasFK 11 = true ∧ f = true) from fun h => by cases h.1), if_neg (show ¬ (hasTK 11 = true ∧ tx ≠ ⟨#[]⟩) from fun h => by cases h.1), if_neg (show ¬ 11 = 14 by decide)]
    simp [numB_list, vB])
  clear zv z32 z10 z45 e1 n1 e2 n2 zn hnm htx
  obtain ⟨nb, hnb⟩ : ∃ nb, nb = numB n := ⟨_, rfl⟩
  rw [← hnb] at IT p1
  clear hnb
  go_enter Tryz.func29, Tryz.ntmps29
  go_wp2_with (go_at_call 61; refine (H1.out _).mono ?_; rintro e w0 ⟨rfl, rfl⟩)
  refine (HN.out _).mono ?_
  rintro e w1 ⟨rfl, d1⟩
  rw [← hg]
  have B1 := Lib.hid (HB.out.trans (d1.mono HB.out.size))
  have Z1 := Lib.hid (HZ.out.below d1 HZ.out.lt)
  clear d1 hg
  have z0 := Z1.out.cell 0
  have z1 := Z1.out.cell 1
  have z2 := Z1.out.cell 2
  have z3 := Z1.out.cell 3
  have z4 := Z1.out.cell 4
  have z5 := Z1.out.cell 5
  go_wp2_with fail
  refine (IT.out _ (HT.out _ B1.out)).mono ?_
  rintro e w2 ⟨rfl, d2⟩
  have B2 := Lib.hid (B1.out.trans (d2.mono B1.out.size))
  have Z2 := Lib.hid (Z1.out.below d2 Z1.out.lt)
  clear d2 z0 z1 z2 z3 z4 z5
  have z0 := Z2.out.cell 0
  have z1 := Z2.out.cell 1
  have z2 := Z2.out.cell 2
  have z3 := Z2.out.cell 3
  have z4 := Z2.out.cell 4
  have z5 := Z2.out.cell 5
  go_wp2_with (first | (go_at_call 63; refine (H3.out _).mono ?_; rintro e w0 ⟨rfl, rfl⟩) | (go_at_call 64; refine (H4.out _).mono ?_; rintro e w0 ⟨rfl, rfl⟩))
  go_ret
  exact ⟨_, rfl, FIN.out, B2.out⟩
attribute [-go_sem] run_string_add_if in
set_option maxRecDepth 100000 in
set_option maxHeartbeats 8000000 in
theorem cmdText_12 (nm : ByteArray) (n : Int) (tx : ByteArray) (f : Bool) (A : Option Addr) (l : List Fl) (c : Nat) (w : World) (hnm : nm.size ≤ 1000) (htx : tx.size ≤ 1000) (hn0 : -9223372036854775808 ≤ n) (hn1 : n ≤ 9223372036854775807) (hl : Reads 3 cF w (.slice A l.length c) l) (hll : l.length ≤ 100) (hls : ∀ x ∈ l, StepOkG x) (hT : PowTab w) :
    Calls Tryz.prog 29 #[.agg #[.string ⟨#[97, 112, 112, 108, 121]⟩, .string nm, .int .i64 n, .string tx, .bool f, .slice A l.length c]] w (SaidTo (textK 12 nm n tx f l) w) := by
  have HB := Lib.hid ((Below.refl w.heap.size w).alloc (Nat.le_refl _) (.cells #[.string ⟨#[97, 112, 112, 108, 121]⟩, .string nm, .int .i64 n, .string tx, .bool f, .slice A l.length c] 52))
  have HZ := Lib.hid (Blk.new w 52 #[.string ⟨#[97, 112, 112, 108, 121]⟩, .string nm, .int .i64 n, .string tx, .bool f, .slice A l.length c])
  have HL := Lib.hid fun W (hW : Below w.heap.size w W) => hl.below hW
  have _keep := And.intro hnm (And.intro htx (And.intro hll hls))
  clear _keep
  have HT := Lib.hid fun W (hW : Below w.heap.size w W) => tabIs_below hT hW
  have H1 := Lib.hid fun W => (show Calls Tryz.prog 61 #[.string ⟨#[97, 112, 112, 108, 121]⟩] W fun e w' => e = .returned (.bool false) ∧ w' = W from hasName_any 12 (by decide) W)
  have H3 := Lib.hid fun W => (show Calls Tryz.prog 63 #[.string ⟨#[97, 112, 112, 108, 121]⟩] W fun e w' => e = .returned (.bool false) ∧ w' = W from hasForce_any 12 (by decide) W)
  have H4 := Lib.hid fun W => (show Calls Tryz.prog 64 #[.string ⟨#[97, 112, 112, 108, 121]⟩] W fun e w' => e = .returned (.bool false) ∧ w' = W from hasText_any 12 (by decide) W)
  have HN := Lib.hid fun W => (show Calls Tryz.prog 62 #[.agg #[.string ⟨#[97, 112, 112, 108, 121]⟩, .string nm, .int .i64 n, .string tx, .bool f, .slice A l.length c]] W fun e w' => e = .returned (.bool (hasNK 12 nm)) ∧ Below W.heap.size W w' from hasN_any 12 (by decide) nm n tx f A l.length c W)
  have IT := Lib.hid fun W (h : PowTab W) => itoa_all n hn0 hn1 W h
  have zn := numB_size hn0 hn1
  obtain ⟨g, hg⟩ : ∃ g, g = w.heap.size := ⟨_, rfl⟩
  rw [← hg] at HZ
  clear hn0 hn1 hl hll hls hT
  rw [show hasNK 12 nm = true from rfl] at HN
  have zv : (ByteArray.mk #[97, 112, 112, 108, 121]).size = 5 := rfl
  have z32 : (ByteArray.mk #[32]).size = 1 := rfl
  have z10 : (ByteArray.mk #[10]).size = 1 := rfl
  have z45 : (ByteArray.mk #[32, 45, 102]).size = 3 := rfl
  obtain ⟨s1, e1, n1, p1⟩ := sum_namedT ⟨#[32]⟩ (numB n) (by omega)
  obtain ⟨s2, e2, n2, p2⟩ := sum_namedT ⟨#[97, 112, 112, 108, 121]⟩ s1 (by omega)
  have FIN := Lib.hid (show s2.data.toList = textK 12 nm n tx f l by
    rw [e2, e1]
    unfold textK
    rw [if_neg (show ¬ (hasNmK 12 = true ∧ nm ≠ ⟨#[]⟩) from fun h => by cases h.1), if_pos (show hasNK 12 nm = true from rfl), if_neg (show ¬ (hasFK 12 = true ∧ f = true) from fun h => by cases h.1), if_neg (show ¬ (hasTK 12 = true ∧ tx ≠ ⟨#[]⟩) from fun h => by cases h.1), if_neg (show ¬ 12 = 14 by decide)]
    simp [numB_list, vB])
  clear zv z32 z10 z45 e1 n1 e2 n2 zn hnm htx
  obtain ⟨nb, hnb⟩ : ∃ nb, nb = numB n := ⟨_, rfl⟩
  rw [← hnb] at IT p1
  clear hnb
  go_enter Tryz.func29, Tryz.ntmps29
  go_wp2_with (go_at_call 61; refine (H1.out _).mono ?_; rintro e w0 ⟨rfl, rfl⟩)
  refine (HN.out _).mono ?_
  rintro e w1 ⟨rfl, d1⟩
  rw [← hg]
  have B1 := Lib.hid (HB.out.trans (d1.mono HB.out.size))
  have Z1 := Lib.hid (HZ.out.below d1 HZ.out.lt)
  clear d1 hg
  have z0 := Z1.out.cell 0
  have z1 := Z1.out.cell 1
  have z2 := Z1.out.cell 2
  have z3 := Z1.out.cell 3
  have z4 := Z1.out.cell 4
  have z5 := Z1.out.cell 5
  go_wp2_with fail
  refine (IT.out _ (HT.out _ B1.out)).mono ?_
  rintro e w2 ⟨rfl, d2⟩
  have B2 := Lib.hid (B1.out.trans (d2.mono B1.out.size))
  have Z2 := Lib.hid (Z1.out.below d2 Z1.out.lt)
  clear d2 z0 z1 z2 z3 z4 z5
  have z0 := Z2.out.cell 0
  have z1 := Z2.out.cell 1
  have z2 := Z2.out.cell 2
  have z3 := Z2.out.cell 3
  have z4 := Z2.out.cell 4
  have z5 := Z2.out.cell 5
  go_wp2_with (first | (go_at_call 63; refine (H3.out _).mono ?_; rintro e w0 ⟨rfl, rfl⟩) | (go_at_call 64; refine (H4.out _).mono ?_; rintro e w0 ⟨rfl, rfl⟩))
  go_ret
  exact ⟨_, rfl, FIN.out, B2.out⟩
attribute [-go_sem] run_string_add_if in
set_option maxRecDepth 100000 in
set_option maxHeartbeats 8000000 in
theorem cmdText_13 (nm : ByteArray) (n : Int) (tx : ByteArray) (f : Bool) (A : Option Addr) (l : List Fl) (c : Nat) (w : World) (hnm : nm.size ≤ 1000) (htx : tx.size ≤ 1000) (hn0 : -9223372036854775808 ≤ n) (hn1 : n ≤ 9223372036854775807) (hl : Reads 3 cF w (.slice A l.length c) l) (hll : l.length ≤ 100) (hls : ∀ x ∈ l, StepOkG x) (hT : PowTab w) :
    Calls Tryz.prog 29 #[.agg #[.string ⟨#[115, 104, 101, 108, 118, 101]⟩, .string nm, .int .i64 n, .string tx, .bool f, .slice A l.length c]] w (SaidTo (textK 13 nm n tx f l) w) := by
  have HB := Lib.hid ((Below.refl w.heap.size w).alloc (Nat.le_refl _) (.cells #[.string ⟨#[115, 104, 101, 108, 118, 101]⟩, .string nm, .int .i64 n, .string tx, .bool f, .slice A l.length c] 52))
  have HZ := Lib.hid (Blk.new w 52 #[.string ⟨#[115, 104, 101, 108, 118, 101]⟩, .string nm, .int .i64 n, .string tx, .bool f, .slice A l.length c])
  have HL := Lib.hid fun W (hW : Below w.heap.size w W) => hl.below hW
  have _keep := And.intro hnm (And.intro htx (And.intro hll hls))
  clear _keep
  have HT := Lib.hid fun W (hW : Below w.heap.size w W) => tabIs_below hT hW
  have H1 := Lib.hid fun W => (show Calls Tryz.prog 61 #[.string ⟨#[115, 104, 101, 108, 118, 101]⟩] W fun e w' => e = .returned (.bool false) ∧ w' = W from hasName_any 13 (by decide) W)
  have H3 := Lib.hid fun W => (show Calls Tryz.prog 63 #[.string ⟨#[115, 104, 101, 108, 118, 101]⟩] W fun e w' => e = .returned (.bool false) ∧ w' = W from hasForce_any 13 (by decide) W)
  have H4 := Lib.hid fun W => (show Calls Tryz.prog 64 #[.string ⟨#[115, 104, 101, 108, 118, 101]⟩] W fun e w' => e = .returned (.bool false) ∧ w' = W from hasText_any 13 (by decide) W)
  have HN := Lib.hid fun W => (show Calls Tryz.prog 62 #[.agg #[.string ⟨#[115, 104, 101, 108, 118, 101]⟩, .string nm, .int .i64 n, .string tx, .bool f, .slice A l.length c]] W fun e w' => e = .returned (.bool (hasNK 13 nm)) ∧ Below W.heap.size W w' from hasN_any 13 (by decide) nm n tx f A l.length c W)
  have IT := Lib.hid fun W (h : PowTab W) => itoa_all n hn0 hn1 W h
  have zn := numB_size hn0 hn1
  obtain ⟨g, hg⟩ : ∃ g, g = w.heap.size := ⟨_, rfl⟩
  rw [← hg] at HZ
  clear hn0 hn1 hl hll hls hT
  rw [show hasNK 13 nm = true from rfl] at HN
  have zv : (ByteArray.mk #[115, 104, 101, 108, 118, 101]).size = 6 := rfl
  have z32 : (ByteArray.mk #[32]).size = 1 := rfl
  have z10 : (ByteArray.mk #[10]).size = 1 := rfl
  have z45 : (ByteArray.mk #[32, 45, 102]).size = 3 := rfl
  obtain ⟨s1, e1, n1, p1⟩ := sum_namedT ⟨#[32]⟩ (numB n) (by omega)
  obtain ⟨s2, e2, n2, p2⟩ := sum_namedT ⟨#[115, 104, 101, 108, 118, 101]⟩ s1 (by omega)
  have FIN := Lib.hid (show s2.data.toList = textK 13 nm n tx f l by
    rw [e2, e1]
    unfold textK
    rw [if_neg (show ¬ (hasNmK 13 = true ∧ nm ≠ ⟨#[]⟩) from fun h => by cases h.1), if_pos (show hasNK 13 nm = true from rfl), if_neg (show ¬ (hasFK 13 = true ∧ f = true) from fun h => by cases h.1), if_neg (show ¬ (hasTK 13 = true ∧ tx ≠ ⟨#[]⟩) from fun h => by cases h.1), if_neg (show ¬ 13 = 14 by decide)]
    simp [numB_list, vB])
  clear zv z32 z10 z45 e1 n1 e2 n2 zn hnm htx
  obtain ⟨nb, hnb⟩ : ∃ nb, nb = numB n := ⟨_, rfl⟩
  rw [← hnb] at IT p1
  clear hnb
  go_enter Tryz.func29, Tryz.ntmps29
  go_wp2_with (go_at_call 61; refine (H1.out _).mono ?_; rintro e w0 ⟨rfl, rfl⟩)
  refine (HN.out _).mono ?_
  rintro e w1 ⟨rfl, d1⟩
  rw [← hg]
  have B1 := Lib.hid (HB.out.trans (d1.mono HB.out.size))
  have Z1 := Lib.hid (HZ.out.below d1 HZ.out.lt)
  clear d1 hg
  have z0 := Z1.out.cell 0
  have z1 := Z1.out.cell 1
  have z2 := Z1.out.cell 2
  have z3 := Z1.out.cell 3
  have z4 := Z1.out.cell 4
  have z5 := Z1.out.cell 5
  go_wp2_with fail
  refine (IT.out _ (HT.out _ B1.out)).mono ?_
  rintro e w2 ⟨rfl, d2⟩
  have B2 := Lib.hid (B1.out.trans (d2.mono B1.out.size))
  have Z2 := Lib.hid (Z1.out.below d2 Z1.out.lt)
  clear d2 z0 z1 z2 z3 z4 z5
  have z0 := Z2.out.cell 0
  have z1 := Z2.out.cell 1
  have z2 := Z2.out.cell 2
  have z3 := Z2.out.cell 3
  have z4 := Z2.out.cell 4
  have z5 := Z2.out.cell 5
  go_wp2_with (first | (go_at_call 63; refine (H3.out _).mono ?_; rintro e w0 ⟨rfl, rfl⟩) | (go_at_call 64; refine (H4.out _).mono ?_; rintro e w0 ⟨rfl, rfl⟩))
  go_ret
  exact ⟨_, rfl, FIN.out, B2.out⟩
attribute [-go_sem] run_string_add_if in
set_option maxRecDepth 100000 in
set_option maxHeartbeats 8000000 in
theorem cmdText_14 (nm : ByteArray) (n : Int) (tx : ByteArray) (f : Bool) (A : Option Addr) (l : List Fl) (c : Nat) (w : World) (hnm : nm.size ≤ 1000) (htx : tx.size ≤ 1000) (hn0 : -9223372036854775808 ≤ n) (hn1 : n ≤ 9223372036854775807) (hl : Reads 3 cF w (.slice A l.length c) l) (hll : l.length ≤ 100) (hls : ∀ x ∈ l, StepOkG x) (hT : PowTab w) :
    Calls Tryz.prog 29 #[.agg #[.string ⟨#[114, 101, 98, 97, 115, 101]⟩, .string nm, .int .i64 n, .string tx, .bool f, .slice A l.length c]] w (SaidTo (textK 14 nm n tx f l) w) := by
  have HB := Lib.hid ((Below.refl w.heap.size w).alloc (Nat.le_refl _) (.cells #[.string ⟨#[114, 101, 98, 97, 115, 101]⟩, .string nm, .int .i64 n, .string tx, .bool f, .slice A l.length c] 52))
  have HZ := Lib.hid (Blk.new w 52 #[.string ⟨#[114, 101, 98, 97, 115, 101]⟩, .string nm, .int .i64 n, .string tx, .bool f, .slice A l.length c])
  have HL := Lib.hid fun W (hW : Below w.heap.size w W) => hl.below hW
  have _keep := And.intro hnm (And.intro htx (And.intro hll hls))
  clear _keep
  have HT := Lib.hid fun W (hW : Below w.heap.size w W) => tabIs_below hT hW
  have H1 := Lib.hid fun W => (show Calls Tryz.prog 61 #[.string ⟨#[114, 101, 98, 97, 115, 101]⟩] W fun e w' => e = .returned (.bool false) ∧ w' = W from hasName_any 14 (by decide) W)
  have H3 := Lib.hid fun W => (show Calls Tryz.prog 63 #[.string ⟨#[114, 101, 98, 97, 115, 101]⟩] W fun e w' => e = .returned (.bool false) ∧ w' = W from hasForce_any 14 (by decide) W)
  have H4 := Lib.hid fun W => (show Calls Tryz.prog 64 #[.string ⟨#[114, 101, 98, 97, 115, 101]⟩] W fun e w' => e = .returned (.bool false) ∧ w' = W from hasText_any 14 (by decide) W)
  have HN := Lib.hid fun W => (show Calls Tryz.prog 62 #[.agg #[.string ⟨#[114, 101, 98, 97, 115, 101]⟩, .string nm, .int .i64 n, .string tx, .bool f, .slice A l.length c]] W fun e w' => e = .returned (.bool (hasNK 14 nm)) ∧ Below W.heap.size W w' from hasN_any 14 (by decide) nm n tx f A l.length c W)
  have IT := Lib.hid fun W (h : PowTab W) => itoa_all n hn0 hn1 W h
  have TX := Lib.hid fun W (hW : Below w.heap.size w W) => text_all W _ l (HL.out W hW) hll hls (HT.out W hW)
  have zn := numB_size hn0 hn1
  obtain ⟨g, hg⟩ : ∃ g, g = w.heap.size := ⟨_, rfl⟩
  rw [← hg] at HZ
  have zl := stepsG_le hls
  have zl2 : (ByteArray.mk (stepsG l).toArray).size ≤ 300000 := by show (stepsG l).toArray.size ≤ _; simp only [List.size_toArray]; omega
  clear hn0 hn1 hl hll hls hT zl
  rw [show hasNK 14 nm = true from rfl] at HN
  have zv : (ByteArray.mk #[114, 101, 98, 97, 115, 101]).size = 6 := rfl
  have z32 : (ByteArray.mk #[32]).size = 1 := rfl
  have z10 : (ByteArray.mk #[10]).size = 1 := rfl
  have z45 : (ByteArray.mk #[32, 45, 102]).size = 3 := rfl
  obtain ⟨s1, e1, n1, p1⟩ := sum_namedT ⟨#[32]⟩ (numB n) (by omega)
  obtain ⟨s2, e2, n2, p2⟩ := sum_namedT ⟨#[114, 101, 98, 97, 115, 101]⟩ s1 (by omega)
  obtain ⟨s3, e3, n3, p3⟩ := sum_namedT ⟨#[10]⟩ (ByteArray.mk (stepsG l).toArray) (by omega)
  obtain ⟨s4, e4, n4, p4⟩ := sum_namedT s2 s3 (by omega)
  have FIN := Lib.hid (show s4.data.toList = textK 14 nm n tx f l by
    rw [e4, e3, e2, e1]
    unfold textK
    rw [if_neg (show ¬ (hasNmK 14 = true ∧ nm ≠ ⟨#[]⟩) from fun h => by cases h.1), if_pos (show hasNK 14 nm = true from rfl), if_neg (show ¬ (hasFK 14 = true ∧ f = true) from fun h => by cases h.1), if_neg (show ¬ (hasTK 14 = true ∧ tx ≠ ⟨#[]⟩) from fun h => by cases h.1), if_pos rfl]
    simp [numB_list, vB])
  clear zv z32 z10 z45 e1 n1 e2 n2 e3 n3 e4 n4 zn hnm htx zl2
  obtain ⟨st, hst⟩ : ∃ st, st = ByteArray.mk (stepsG l).toArray := ⟨_, rfl⟩
  rw [← hst] at TX p3
  clear hst
  obtain ⟨nb, hnb⟩ : ∃ nb, nb = numB n := ⟨_, rfl⟩
  rw [← hnb] at IT p1
  clear hnb
  go_enter Tryz.func29, Tryz.ntmps29
  go_wp2_with (go_at_call 61; refine (H1.out _).mono ?_; rintro e w0 ⟨rfl, rfl⟩)
  refine (HN.out _).mono ?_
  rintro e w1 ⟨rfl, d1⟩
  rw [← hg]
  have B1 := Lib.hid (HB.out.trans (d1.mono HB.out.size))
  have Z1 := Lib.hid (HZ.out.below d1 HZ.out.lt)
  clear d1 hg
  have z0 := Z1.out.cell 0
  have z1 := Z1.out.cell 1
  have z2 := Z1.out.cell 2
  have z3 := Z1.out.cell 3
  have z4 := Z1.out.cell 4
  have z5 := Z1.out.cell 5
  go_wp2_with fail
  refine (IT.out _ (HT.out _ B1.out)).mono ?_
  rintro e w2 ⟨rfl, d2⟩
  have B2 := Lib.hid (B1.out.trans (d2.mono B1.out.size))
  have Z2 := Lib.hid (Z1.out.below d2 Z1.out.lt)
  clear d2 z0 z1 z2 z3 z4 z5
  have z0 := Z2.out.cell 0
  have z1 := Z2.out.cell 1
  have z2 := Z2.out.cell 2
  have z3 := Z2.out.cell 3
  have z4 := Z2.out.cell 4
  have z5 := Z2.out.cell 5
  go_wp2_with (first | (go_at_call 63; refine (H3.out _).mono ?_; rintro e w0 ⟨rfl, rfl⟩) | (go_at_call 64; refine (H4.out _).mono ?_; rintro e w0 ⟨rfl, rfl⟩))
  refine (TX.out _ B2.out).mono ?_
  rintro e w9 ⟨rfl, d9⟩
  have B9 := Lib.hid (B2.out.trans (d9.mono B2.out.size))
  go_wp2
  go_ret
  exact ⟨_, rfl, FIN.out, B9.out⟩
attribute [-go_sem] run_string_add_if in
set_option maxRecDepth 100000 in
set_option maxHeartbeats 8000000 in
theorem cmdText_15 (nm : ByteArray) (n : Int) (tx : ByteArray) (f : Bool) (A : Option Addr) (l : List Fl) (c : Nat) (w : World) (hnm : nm.size ≤ 1000) (htx : tx.size ≤ 1000) (hn0 : -9223372036854775808 ≤ n) (hn1 : n ≤ 9223372036854775807) (hl : Reads 3 cF w (.slice A l.length c) l) (hll : l.length ≤ 100) (hls : ∀ x ∈ l, StepOkG x) (hT : PowTab w) :
    Calls Tryz.prog 29 #[.agg #[.string ⟨#[99, 111, 110, 116, 105, 110, 117, 101]⟩, .string nm, .int .i64 n, .string tx, .bool f, .slice A l.length c]] w (SaidTo (textK 15 nm n tx f l) w) := by
  have HB := Lib.hid ((Below.refl w.heap.size w).alloc (Nat.le_refl _) (.cells #[.string ⟨#[99, 111, 110, 116, 105, 110, 117, 101]⟩, .string nm, .int .i64 n, .string tx, .bool f, .slice A l.length c] 52))
  have HZ := Lib.hid (Blk.new w 52 #[.string ⟨#[99, 111, 110, 116, 105, 110, 117, 101]⟩, .string nm, .int .i64 n, .string tx, .bool f, .slice A l.length c])
  have HL := Lib.hid fun W (hW : Below w.heap.size w W) => hl.below hW
  have _keep := And.intro hnm (And.intro htx (And.intro hll hls))
  clear _keep
  have HT := Lib.hid fun W (hW : Below w.heap.size w W) => tabIs_below hT hW
  have H1 := Lib.hid fun W => (show Calls Tryz.prog 61 #[.string ⟨#[99, 111, 110, 116, 105, 110, 117, 101]⟩] W fun e w' => e = .returned (.bool false) ∧ w' = W from hasName_any 15 (by decide) W)
  have H3 := Lib.hid fun W => (show Calls Tryz.prog 63 #[.string ⟨#[99, 111, 110, 116, 105, 110, 117, 101]⟩] W fun e w' => e = .returned (.bool false) ∧ w' = W from hasForce_any 15 (by decide) W)
  have H4 := Lib.hid fun W => (show Calls Tryz.prog 64 #[.string ⟨#[99, 111, 110, 116, 105, 110, 117, 101]⟩] W fun e w' => e = .returned (.bool false) ∧ w' = W from hasText_any 15 (by decide) W)
  have HN := Lib.hid fun W => (show Calls Tryz.prog 62 #[.agg #[.string ⟨#[99, 111, 110, 116, 105, 110, 117, 101]⟩, .string nm, .int .i64 n, .string tx, .bool f, .slice A l.length c]] W fun e w' => e = .returned (.bool (hasNK 15 nm)) ∧ Below W.heap.size W w' from hasN_any 15 (by decide) nm n tx f A l.length c W)
  have IT := Lib.hid fun W (h : PowTab W) => itoa_all n hn0 hn1 W h
  have zn := numB_size hn0 hn1
  obtain ⟨g, hg⟩ : ∃ g, g = w.heap.size := ⟨_, rfl⟩
  rw [← hg] at HZ
  clear hn0 hn1 hl hll hls hT
  rw [show hasNK 15 nm = false from rfl] at HN
  have zv : (ByteArray.mk #[99, 111, 110, 116, 105, 110, 117, 101]).size = 8 := rfl
  have z32 : (ByteArray.mk #[32]).size = 1 := rfl
  have z10 : (ByteArray.mk #[10]).size = 1 := rfl
  have z45 : (ByteArray.mk #[32, 45, 102]).size = 3 := rfl
  have FIN := Lib.hid (show (ByteArray.mk #[99, 111, 110, 116, 105, 110, 117, 101]).data.toList = textK 15 nm n tx f l by
    unfold textK
    rw [if_neg (show ¬ (hasNmK 15 = true ∧ nm ≠ ⟨#[]⟩) from fun h => by cases h.1), if_neg (show ¬ hasNK 15 nm = true from fun h => by cases h), if_neg (show ¬ (hasFK 15 = true ∧ f = true) from fun h => by cases h.1), if_neg (show ¬ (hasTK 15 = true ∧ tx ≠ ⟨#[]⟩) from fun h => by cases h.1), if_neg (show ¬ 15 = 14 by decide)]
    simp [vB])
  clear zv z32 z10 z45  zn hnm htx
  go_enter Tryz.func29, Tryz.ntmps29
  go_wp2_with (go_at_call 61; refine (H1.out _).mono ?_; rintro e w0 ⟨rfl, rfl⟩)
  refine (HN.out _).mono ?_
  rintro e w1 ⟨rfl, d1⟩
  rw [← hg]
  have B1 := Lib.hid (HB.out.trans (d1.mono HB.out.size))
  have Z1 := Lib.hid (HZ.out.below d1 HZ.out.lt)
  clear d1 hg
  have z0 := Z1.out.cell 0
  have z1 := Z1.out.cell 1
  have z2 := Z1.out.cell 2
  have z3 := Z1.out.cell 3
  have z4 := Z1.out.cell 4
  have z5 := Z1.out.cell 5
  go_wp2_with (first | (go_at_call 63; refine (H3.out _).mono ?_; rintro e w0 ⟨rfl, rfl⟩) | (go_at_call 64; refine (H4.out _).mono ?_; rintro e w0 ⟨rfl, rfl⟩))
  go_ret
  exact ⟨_, rfl, FIN.out, B1.out⟩
attribute [-go_sem] run_string_add_if in
set_option maxRecDepth 100000 in
set_option maxHeartbeats 8000000 in
theorem cmdText_16 (nm : ByteArray) (n : Int) (tx : ByteArray) (f : Bool) (A : Option Addr) (l : List Fl) (c : Nat) (w : World) (hnm : nm.size ≤ 1000) (htx : tx.size ≤ 1000) (hn0 : -9223372036854775808 ≤ n) (hn1 : n ≤ 9223372036854775807) (hl : Reads 3 cF w (.slice A l.length c) l) (hll : l.length ≤ 100) (hls : ∀ x ∈ l, StepOkG x) (hT : PowTab w) :
    Calls Tryz.prog 29 #[.agg #[.string ⟨#[115, 107, 105, 112]⟩, .string nm, .int .i64 n, .string tx, .bool f, .slice A l.length c]] w (SaidTo (textK 16 nm n tx f l) w) := by
  have HB := Lib.hid ((Below.refl w.heap.size w).alloc (Nat.le_refl _) (.cells #[.string ⟨#[115, 107, 105, 112]⟩, .string nm, .int .i64 n, .string tx, .bool f, .slice A l.length c] 52))
  have HZ := Lib.hid (Blk.new w 52 #[.string ⟨#[115, 107, 105, 112]⟩, .string nm, .int .i64 n, .string tx, .bool f, .slice A l.length c])
  have HL := Lib.hid fun W (hW : Below w.heap.size w W) => hl.below hW
  have _keep := And.intro hnm (And.intro htx (And.intro hll hls))
  clear _keep
  have HT := Lib.hid fun W (hW : Below w.heap.size w W) => tabIs_below hT hW
  have H1 := Lib.hid fun W => (show Calls Tryz.prog 61 #[.string ⟨#[115, 107, 105, 112]⟩] W fun e w' => e = .returned (.bool false) ∧ w' = W from hasName_any 16 (by decide) W)
  have H3 := Lib.hid fun W => (show Calls Tryz.prog 63 #[.string ⟨#[115, 107, 105, 112]⟩] W fun e w' => e = .returned (.bool false) ∧ w' = W from hasForce_any 16 (by decide) W)
  have H4 := Lib.hid fun W => (show Calls Tryz.prog 64 #[.string ⟨#[115, 107, 105, 112]⟩] W fun e w' => e = .returned (.bool false) ∧ w' = W from hasText_any 16 (by decide) W)
  have HN := Lib.hid fun W => (show Calls Tryz.prog 62 #[.agg #[.string ⟨#[115, 107, 105, 112]⟩, .string nm, .int .i64 n, .string tx, .bool f, .slice A l.length c]] W fun e w' => e = .returned (.bool (hasNK 16 nm)) ∧ Below W.heap.size W w' from hasN_any 16 (by decide) nm n tx f A l.length c W)
  have IT := Lib.hid fun W (h : PowTab W) => itoa_all n hn0 hn1 W h
  have zn := numB_size hn0 hn1
  obtain ⟨g, hg⟩ : ∃ g, g = w.heap.size := ⟨_, rfl⟩
  rw [← hg] at HZ
  clear hn0 hn1 hl hll hls hT
  rw [show hasNK 16 nm = false from rfl] at HN
  have zv : (ByteArray.mk #[115, 107, 105, 112]).size = 4 := rfl
  have z32 : (ByteArray.mk #[32]).size = 1 := rfl
  have z10 : (ByteArray.mk #[10]).size = 1 := rfl
  have z45 : (ByteArray.mk #[32, 45, 102]).size = 3 := rfl
  have FIN := Lib.hid (show (ByteArray.mk #[115, 107, 105, 112]).data.toList = textK 16 nm n tx f l by
    unfold textK
    rw [if_neg (show ¬ (hasNmK 16 = true ∧ nm ≠ ⟨#[]⟩) from fun h => by cases h.1), if_neg (show ¬ hasNK 16 nm = true from fun h => by cases h), if_neg (show ¬ (hasFK 16 = true ∧ f = true) from fun h => by cases h.1), if_neg (show ¬ (hasTK 16 = true ∧ tx ≠ ⟨#[]⟩) from fun h => by cases h.1), if_neg (show ¬ 16 = 14 by decide)]
    simp [vB])
  clear zv z32 z10 z45  zn hnm htx
  go_enter Tryz.func29, Tryz.ntmps29
  go_wp2_with (go_at_call 61; refine (H1.out _).mono ?_; rintro e w0 ⟨rfl, rfl⟩)
  refine (HN.out _).mono ?_
  rintro e w1 ⟨rfl, d1⟩
  rw [← hg]
  have B1 := Lib.hid (HB.out.trans (d1.mono HB.out.size))
  have Z1 := Lib.hid (HZ.out.below d1 HZ.out.lt)
  clear d1 hg
  have z0 := Z1.out.cell 0
  have z1 := Z1.out.cell 1
  have z2 := Z1.out.cell 2
  have z3 := Z1.out.cell 3
  have z4 := Z1.out.cell 4
  have z5 := Z1.out.cell 5
  go_wp2_with (first | (go_at_call 63; refine (H3.out _).mono ?_; rintro e w0 ⟨rfl, rfl⟩) | (go_at_call 64; refine (H4.out _).mono ?_; rintro e w0 ⟨rfl, rfl⟩))
  go_ret
  exact ⟨_, rfl, FIN.out, B1.out⟩
attribute [-go_sem] run_string_add_if in
set_option maxRecDepth 100000 in
set_option maxHeartbeats 8000000 in
theorem cmdText_17 (nm : ByteArray) (n : Int) (tx : ByteArray) (f : Bool) (A : Option Addr) (l : List Fl) (c : Nat) (w : World) (hnm : nm.size ≤ 1000) (htx : tx.size ≤ 1000) (hn0 : -9223372036854775808 ≤ n) (hn1 : n ≤ 9223372036854775807) (hl : Reads 3 cF w (.slice A l.length c) l) (hll : l.length ≤ 100) (hls : ∀ x ∈ l, StepOkG x) (hT : PowTab w) :
    Calls Tryz.prog 29 #[.agg #[.string ⟨#[97, 98, 111, 114, 116]⟩, .string nm, .int .i64 n, .string tx, .bool f, .slice A l.length c]] w (SaidTo (textK 17 nm n tx f l) w) := by
  have HB := Lib.hid ((Below.refl w.heap.size w).alloc (Nat.le_refl _) (.cells #[.string ⟨#[97, 98, 111, 114, 116]⟩, .string nm, .int .i64 n, .string tx, .bool f, .slice A l.length c] 52))
  have HZ := Lib.hid (Blk.new w 52 #[.string ⟨#[97, 98, 111, 114, 116]⟩, .string nm, .int .i64 n, .string tx, .bool f, .slice A l.length c])
  have HL := Lib.hid fun W (hW : Below w.heap.size w W) => hl.below hW
  have _keep := And.intro hnm (And.intro htx (And.intro hll hls))
  clear _keep
  have HT := Lib.hid fun W (hW : Below w.heap.size w W) => tabIs_below hT hW
  have H1 := Lib.hid fun W => (show Calls Tryz.prog 61 #[.string ⟨#[97, 98, 111, 114, 116]⟩] W fun e w' => e = .returned (.bool false) ∧ w' = W from hasName_any 17 (by decide) W)
  have H3 := Lib.hid fun W => (show Calls Tryz.prog 63 #[.string ⟨#[97, 98, 111, 114, 116]⟩] W fun e w' => e = .returned (.bool false) ∧ w' = W from hasForce_any 17 (by decide) W)
  have H4 := Lib.hid fun W => (show Calls Tryz.prog 64 #[.string ⟨#[97, 98, 111, 114, 116]⟩] W fun e w' => e = .returned (.bool false) ∧ w' = W from hasText_any 17 (by decide) W)
  have HN := Lib.hid fun W => (show Calls Tryz.prog 62 #[.agg #[.string ⟨#[97, 98, 111, 114, 116]⟩, .string nm, .int .i64 n, .string tx, .bool f, .slice A l.length c]] W fun e w' => e = .returned (.bool (hasNK 17 nm)) ∧ Below W.heap.size W w' from hasN_any 17 (by decide) nm n tx f A l.length c W)
  have IT := Lib.hid fun W (h : PowTab W) => itoa_all n hn0 hn1 W h
  have zn := numB_size hn0 hn1
  obtain ⟨g, hg⟩ : ∃ g, g = w.heap.size := ⟨_, rfl⟩
  rw [← hg] at HZ
  clear hn0 hn1 hl hll hls hT
  rw [show hasNK 17 nm = false from rfl] at HN
  have zv : (ByteArray.mk #[97, 98, 111, 114, 116]).size = 5 := rfl
  have z32 : (ByteArray.mk #[32]).size = 1 := rfl
  have z10 : (ByteArray.mk #[10]).size = 1 := rfl
  have z45 : (ByteArray.mk #[32, 45, 102]).size = 3 := rfl
  have FIN := Lib.hid (show (ByteArray.mk #[97, 98, 111, 114, 116]).data.toList = textK 17 nm n tx f l by
    unfold textK
    rw [if_neg (show ¬ (hasNmK 17 = true ∧ nm ≠ ⟨#[]⟩) from fun h => by cases h.1), if_neg (show ¬ hasNK 17 nm = true from fun h => by cases h), if_neg (show ¬ (hasFK 17 = true ∧ f = true) from fun h => by cases h.1), if_neg (show ¬ (hasTK 17 = true ∧ tx ≠ ⟨#[]⟩) from fun h => by cases h.1), if_neg (show ¬ 17 = 14 by decide)]
    simp [vB])
  clear zv z32 z10 z45  zn hnm htx
  go_enter Tryz.func29, Tryz.ntmps29
  go_wp2_with (go_at_call 61; refine (H1.out _).mono ?_; rintro e w0 ⟨rfl, rfl⟩)
  refine (HN.out _).mono ?_
  rintro e w1 ⟨rfl, d1⟩
  rw [← hg]
  have B1 := Lib.hid (HB.out.trans (d1.mono HB.out.size))
  have Z1 := Lib.hid (HZ.out.below d1 HZ.out.lt)
  clear d1 hg
  have z0 := Z1.out.cell 0
  have z1 := Z1.out.cell 1
  have z2 := Z1.out.cell 2
  have z3 := Z1.out.cell 3
  have z4 := Z1.out.cell 4
  have z5 := Z1.out.cell 5
  go_wp2_with (first | (go_at_call 63; refine (H3.out _).mono ?_; rintro e w0 ⟨rfl, rfl⟩) | (go_at_call 64; refine (H4.out _).mono ?_; rintro e w0 ⟨rfl, rfl⟩))
  go_ret
  exact ⟨_, rfl, FIN.out, B1.out⟩
attribute [-go_sem] run_string_add_if in
set_option maxRecDepth 100000 in
set_option maxHeartbeats 8000000 in
theorem cmdText_18 (nm : ByteArray) (n : Int) (tx : ByteArray) (f : Bool) (A : Option Addr) (l : List Fl) (c : Nat) (w : World) (hnm : nm.size ≤ 1000) (htx : tx.size ≤ 1000) (hn0 : -9223372036854775808 ≤ n) (hn1 : n ≤ 9223372036854775807) (hl : Reads 3 cF w (.slice A l.length c) l) (hll : l.length ≤ 100) (hls : ∀ x ∈ l, StepOkG x) (hT : PowTab w) :
    Calls Tryz.prog 29 #[.agg #[.string ⟨#[117, 110, 100, 111]⟩, .string nm, .int .i64 n, .string tx, .bool f, .slice A l.length c]] w (SaidTo (textK 18 nm n tx f l) w) := by
  have HB := Lib.hid ((Below.refl w.heap.size w).alloc (Nat.le_refl _) (.cells #[.string ⟨#[117, 110, 100, 111]⟩, .string nm, .int .i64 n, .string tx, .bool f, .slice A l.length c] 52))
  have HZ := Lib.hid (Blk.new w 52 #[.string ⟨#[117, 110, 100, 111]⟩, .string nm, .int .i64 n, .string tx, .bool f, .slice A l.length c])
  have HL := Lib.hid fun W (hW : Below w.heap.size w W) => hl.below hW
  have _keep := And.intro hnm (And.intro htx (And.intro hll hls))
  clear _keep
  have HT := Lib.hid fun W (hW : Below w.heap.size w W) => tabIs_below hT hW
  have H1 := Lib.hid fun W => (show Calls Tryz.prog 61 #[.string ⟨#[117, 110, 100, 111]⟩] W fun e w' => e = .returned (.bool false) ∧ w' = W from hasName_any 18 (by decide) W)
  have H3 := Lib.hid fun W => (show Calls Tryz.prog 63 #[.string ⟨#[117, 110, 100, 111]⟩] W fun e w' => e = .returned (.bool false) ∧ w' = W from hasForce_any 18 (by decide) W)
  have H4 := Lib.hid fun W => (show Calls Tryz.prog 64 #[.string ⟨#[117, 110, 100, 111]⟩] W fun e w' => e = .returned (.bool false) ∧ w' = W from hasText_any 18 (by decide) W)
  have HN := Lib.hid fun W => (show Calls Tryz.prog 62 #[.agg #[.string ⟨#[117, 110, 100, 111]⟩, .string nm, .int .i64 n, .string tx, .bool f, .slice A l.length c]] W fun e w' => e = .returned (.bool (hasNK 18 nm)) ∧ Below W.heap.size W w' from hasN_any 18 (by decide) nm n tx f A l.length c W)
  have IT := Lib.hid fun W (h : PowTab W) => itoa_all n hn0 hn1 W h
  have zn := numB_size hn0 hn1
  obtain ⟨g, hg⟩ : ∃ g, g = w.heap.size := ⟨_, rfl⟩
  rw [← hg] at HZ
  clear hn0 hn1 hl hll hls hT
  rw [show hasNK 18 nm = false from rfl] at HN
  have zv : (ByteArray.mk #[117, 110, 100, 111]).size = 4 := rfl
  have z32 : (ByteArray.mk #[32]).size = 1 := rfl
  have z10 : (ByteArray.mk #[10]).size = 1 := rfl
  have z45 : (ByteArray.mk #[32, 45, 102]).size = 3 := rfl
  have FIN := Lib.hid (show (ByteArray.mk #[117, 110, 100, 111]).data.toList = textK 18 nm n tx f l by
    unfold textK
    rw [if_neg (show ¬ (hasNmK 18 = true ∧ nm ≠ ⟨#[]⟩) from fun h => by cases h.1), if_neg (show ¬ hasNK 18 nm = true from fun h => by cases h), if_neg (show ¬ (hasFK 18 = true ∧ f = true) from fun h => by cases h.1), if_neg (show ¬ (hasTK 18 = true ∧ tx ≠ ⟨#[]⟩) from fun h => by cases h.1), if_neg (show ¬ 18 = 14 by decide)]
    simp [vB])
  clear zv z32 z10 z45  zn hnm htx
  go_enter Tryz.func29, Tryz.ntmps29
  go_wp2_with (go_at_call 61; refine (H1.out _).mono ?_; rintro e w0 ⟨rfl, rfl⟩)
  refine (HN.out _).mono ?_
  rintro e w1 ⟨rfl, d1⟩
  rw [← hg]
  have B1 := Lib.hid (HB.out.trans (d1.mono HB.out.size))
  have Z1 := Lib.hid (HZ.out.below d1 HZ.out.lt)
  clear d1 hg
  have z0 := Z1.out.cell 0
  have z1 := Z1.out.cell 1
  have z2 := Z1.out.cell 2
  have z3 := Z1.out.cell 3
  have z4 := Z1.out.cell 4
  have z5 := Z1.out.cell 5
  go_wp2_with (first | (go_at_call 63; refine (H3.out _).mono ?_; rintro e w0 ⟨rfl, rfl⟩) | (go_at_call 64; refine (H4.out _).mono ?_; rintro e w0 ⟨rfl, rfl⟩))
  go_ret
  exact ⟨_, rfl, FIN.out, B1.out⟩
attribute [-go_sem] run_string_add_if in
set_option maxRecDepth 100000 in
set_option maxHeartbeats 8000000 in
theorem cmdText_19 (nm : ByteArray) (n : Int) (tx : ByteArray) (f : Bool) (A : Option Addr) (l : List Fl) (c : Nat) (w : World) (hnm : nm.size ≤ 1000) (htx : tx.size ≤ 1000) (hn0 : -9223372036854775808 ≤ n) (hn1 : n ≤ 9223372036854775807) (hl : Reads 3 cF w (.slice A l.length c) l) (hll : l.length ≤ 100) (hls : ∀ x ∈ l, StepOkG x) (hT : PowTab w) :
    Calls Tryz.prog 29 #[.agg #[.string ⟨#[114, 101, 100, 111]⟩, .string nm, .int .i64 n, .string tx, .bool f, .slice A l.length c]] w (SaidTo (textK 19 nm n tx f l) w) := by
  have HB := Lib.hid ((Below.refl w.heap.size w).alloc (Nat.le_refl _) (.cells #[.string ⟨#[114, 101, 100, 111]⟩, .string nm, .int .i64 n, .string tx, .bool f, .slice A l.length c] 52))
  have HZ := Lib.hid (Blk.new w 52 #[.string ⟨#[114, 101, 100, 111]⟩, .string nm, .int .i64 n, .string tx, .bool f, .slice A l.length c])
  have HL := Lib.hid fun W (hW : Below w.heap.size w W) => hl.below hW
  have _keep := And.intro hnm (And.intro htx (And.intro hll hls))
  clear _keep
  have HT := Lib.hid fun W (hW : Below w.heap.size w W) => tabIs_below hT hW
  have H1 := Lib.hid fun W => (show Calls Tryz.prog 61 #[.string ⟨#[114, 101, 100, 111]⟩] W fun e w' => e = .returned (.bool false) ∧ w' = W from hasName_any 19 (by decide) W)
  have H3 := Lib.hid fun W => (show Calls Tryz.prog 63 #[.string ⟨#[114, 101, 100, 111]⟩] W fun e w' => e = .returned (.bool false) ∧ w' = W from hasForce_any 19 (by decide) W)
  have H4 := Lib.hid fun W => (show Calls Tryz.prog 64 #[.string ⟨#[114, 101, 100, 111]⟩] W fun e w' => e = .returned (.bool false) ∧ w' = W from hasText_any 19 (by decide) W)
  have HN := Lib.hid fun W => (show Calls Tryz.prog 62 #[.agg #[.string ⟨#[114, 101, 100, 111]⟩, .string nm, .int .i64 n, .string tx, .bool f, .slice A l.length c]] W fun e w' => e = .returned (.bool (hasNK 19 nm)) ∧ Below W.heap.size W w' from hasN_any 19 (by decide) nm n tx f A l.length c W)
  have IT := Lib.hid fun W (h : PowTab W) => itoa_all n hn0 hn1 W h
  have zn := numB_size hn0 hn1
  obtain ⟨g, hg⟩ : ∃ g, g = w.heap.size := ⟨_, rfl⟩
  rw [← hg] at HZ
  clear hn0 hn1 hl hll hls hT
  rw [show hasNK 19 nm = false from rfl] at HN
  have zv : (ByteArray.mk #[114, 101, 100, 111]).size = 4 := rfl
  have z32 : (ByteArray.mk #[32]).size = 1 := rfl
  have z10 : (ByteArray.mk #[10]).size = 1 := rfl
  have z45 : (ByteArray.mk #[32, 45, 102]).size = 3 := rfl
  have FIN := Lib.hid (show (ByteArray.mk #[114, 101, 100, 111]).data.toList = textK 19 nm n tx f l by
    unfold textK
    rw [if_neg (show ¬ (hasNmK 19 = true ∧ nm ≠ ⟨#[]⟩) from fun h => by cases h.1), if_neg (show ¬ hasNK 19 nm = true from fun h => by cases h), if_neg (show ¬ (hasFK 19 = true ∧ f = true) from fun h => by cases h.1), if_neg (show ¬ (hasTK 19 = true ∧ tx ≠ ⟨#[]⟩) from fun h => by cases h.1), if_neg (show ¬ 19 = 14 by decide)]
    simp [vB])
  clear zv z32 z10 z45  zn hnm htx
  go_enter Tryz.func29, Tryz.ntmps29
  go_wp2_with (go_at_call 61; refine (H1.out _).mono ?_; rintro e w0 ⟨rfl, rfl⟩)
  refine (HN.out _).mono ?_
  rintro e w1 ⟨rfl, d1⟩
  rw [← hg]
  have B1 := Lib.hid (HB.out.trans (d1.mono HB.out.size))
  have Z1 := Lib.hid (HZ.out.below d1 HZ.out.lt)
  clear d1 hg
  have z0 := Z1.out.cell 0
  have z1 := Z1.out.cell 1
  have z2 := Z1.out.cell 2
  have z3 := Z1.out.cell 3
  have z4 := Z1.out.cell 4
  have z5 := Z1.out.cell 5
  go_wp2_with (first | (go_at_call 63; refine (H3.out _).mono ?_; rintro e w0 ⟨rfl, rfl⟩) | (go_at_call 64; refine (H4.out _).mono ?_; rintro e w0 ⟨rfl, rfl⟩))
  go_ret
  exact ⟨_, rfl, FIN.out, B1.out⟩
theorem cmdText_any (k : Nat) (hk : k < 20) (nm : ByteArray) (n : Int) (tx : ByteArray) (f : Bool) (A : Option Addr) (l : List Fl) (c : Nat) (w : World) (hnm : nm.size ≤ 1000) (htx : tx.size ≤ 1000) (hn0 : -9223372036854775808 ≤ n) (hn1 : n ≤ 9223372036854775807) (hl : Reads 3 cF w (.slice A l.length c) l) (hll : l.length ≤ 100) (hls : ∀ x ∈ l, StepOkG x) (hT : PowTab w) :
    Calls Tryz.prog 29 #[cmdV k nm n tx f A l.length c] w (SaidTo (textK k nm n tx f l) w) := by
  rcases k20 hk with rfl | rfl | rfl | rfl | rfl | rfl | rfl | rfl | rfl | rfl | rfl | rfl | rfl | rfl | rfl | rfl | rfl | rfl | rfl | rfl
  · exact cmdText_0 nm n tx f A l c w hnm htx hn0 hn1 hl hll hls hT
  · exact cmdText_1 nm n tx f A l c w hnm htx hn0 hn1 hl hll hls hT
  · exact cmdText_2 nm n tx f A l c w hnm htx hn0 hn1 hl hll hls hT
  · exact cmdText_3 nm n tx f A l c w hnm htx hn0 hn1 hl hll hls hT
  · exact cmdText_4 nm n tx f A l c w hnm htx hn0 hn1 hl hll hls hT
  · exact cmdText_5 nm n tx f A l c w hnm htx hn0 hn1 hl hll hls hT
  · exact cmdText_6 nm n tx f A l c w hnm htx hn0 hn1 hl hll hls hT
  · exact cmdText_7 nm n tx f A l c w hnm htx hn0 hn1 hl hll hls hT
  · exact cmdText_8 nm n tx f A l c w hnm htx hn0 hn1 hl hll hls hT
  · exact cmdText_9 nm n tx f A l c w hnm htx hn0 hn1 hl hll hls hT
  · exact cmdText_10 nm n tx f A l c w hnm htx hn0 hn1 hl hll hls hT
  · exact cmdText_11 nm n tx f A l c w hnm htx hn0 hn1 hl hll hls hT
  · exact cmdText_12 nm n tx f A l c w hnm htx hn0 hn1 hl hll hls hT
  · exact cmdText_13 nm n tx f A l c w hnm htx hn0 hn1 hl hll hls hT
  · exact cmdText_14 nm n tx f A l c w hnm htx hn0 hn1 hl hll hls hT
  · exact cmdText_15 nm n tx f A l c w hnm htx hn0 hn1 hl hll hls hT
  · exact cmdText_16 nm n tx f A l c w hnm htx hn0 hn1 hl hll hls hT
  · exact cmdText_17 nm n tx f A l c w hnm htx hn0 hn1 hl hll hls hT
  · exact cmdText_18 nm n tx f A l c w hnm htx hn0 hn1 hl hll hls hT
  · exact cmdText_19 nm n tx f A l c w hnm htx hn0 hn1 hl hll hls hT
end Go.Proofs.YtanjcjnkppnhcaaGreatDoor
