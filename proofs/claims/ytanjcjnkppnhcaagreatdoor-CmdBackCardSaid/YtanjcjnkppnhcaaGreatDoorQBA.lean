/-
  cmd: the words behind a verb.
-/
import Derived.Test.YtanjcjnkppnhcaaGreatDoorQAZ

namespace Go.Proofs.YtanjcjnkppnhcaaGreatDoor
open Go Go.RowKit

def dig0 (x : ByteArray) : Bool := match x.data.toList with | c :: _ => digB c | [] => false
def num1 (x : ByteArray) : Option Nat := if (numP x.data.toList).2 = true then some (numP x.data.toList).1 else none
/-- The words behind the k-th verb: a name, a number. -/
def readW (k : Nat) (ss : List ByteArray) : Option (ByteArray × Nat) :=
  if k = 0 ∧ ss.length = 0 then some (⟨#[]⟩, 0)
  else if [0, 1, 3, 4, 7].contains k = true then (match ss with | [x] => some (x, 0) | _ => none)
  else if k = 5 then (match ss with | [x] => if dig0 x = true then (num1 x).map (fun n => (⟨#[]⟩, n)) else some (x, 0) | _ => none)
  else if k = 6 then (match ss with | [x, y] => (num1 y).map (fun n => (x, n)) | _ => none)
  else if [8, 9, 11, 12, 13, 14].contains k = true then (match ss with | [x] => (num1 x).map (fun n => (⟨#[]⟩, n)) | _ => none)
  else if ss.length = 0 then some (⟨#[]⟩, 0) else none
theorem readW_no_1 : ∀ {ss : List ByteArray}, ss.length ≠ 1 → readW 1 ss = none
  | [], _ => rfl
  | [_], h => absurd rfl h
  | _ :: _ :: _, _ => rfl
theorem readW_no_3 : ∀ {ss : List ByteArray}, ss.length ≠ 1 → readW 3 ss = none
  | [], _ => rfl
  | [_], h => absurd rfl h
  | _ :: _ :: _, _ => rfl
theorem readW_no_4 : ∀ {ss : List ByteArray}, ss.length ≠ 1 → readW 4 ss = none
  | [], _ => rfl
  | [_], h => absurd rfl h
  | _ :: _ :: _, _ => rfl
theorem readW_no_5 : ∀ {ss : List ByteArray}, ss.length ≠ 1 → readW 5 ss = none
  | [], _ => rfl
  | [_], h => absurd rfl h
  | _ :: _ :: _, _ => rfl
theorem readW_no_7 : ∀ {ss : List ByteArray}, ss.length ≠ 1 → readW 7 ss = none
  | [], _ => rfl
  | [_], h => absurd rfl h
  | _ :: _ :: _, _ => rfl
theorem readW_no_8 : ∀ {ss : List ByteArray}, ss.length ≠ 1 → readW 8 ss = none
  | [], _ => rfl
  | [_], h => absurd rfl h
  | _ :: _ :: _, _ => rfl
theorem readW_no_9 : ∀ {ss : List ByteArray}, ss.length ≠ 1 → readW 9 ss = none
  | [], _ => rfl
  | [_], h => absurd rfl h
  | _ :: _ :: _, _ => rfl
theorem readW_no_11 : ∀ {ss : List ByteArray}, ss.length ≠ 1 → readW 11 ss = none
  | [], _ => rfl
  | [_], h => absurd rfl h
  | _ :: _ :: _, _ => rfl
theorem readW_no_12 : ∀ {ss : List ByteArray}, ss.length ≠ 1 → readW 12 ss = none
  | [], _ => rfl
  | [_], h => absurd rfl h
  | _ :: _ :: _, _ => rfl
theorem readW_no_13 : ∀ {ss : List ByteArray}, ss.length ≠ 1 → readW 13 ss = none
  | [], _ => rfl
  | [_], h => absurd rfl h
  | _ :: _ :: _, _ => rfl
theorem readW_no_14 : ∀ {ss : List ByteArray}, ss.length ≠ 1 → readW 14 ss = none
  | [], _ => rfl
  | [_], h => absurd rfl h
  | _ :: _ :: _, _ => rfl
theorem readW_no_0 : ∀ {ss : List ByteArray}, ss.length ≠ 1 → ss.length ≠ 0 → readW 0 ss = none
  | [], _, h => absurd rfl h
  | [_], h, _ => absurd rfl h
  | _ :: _ :: _, _, _ => rfl
theorem readW_no_6 : ∀ {ss : List ByteArray}, ss.length ≠ 2 → readW 6 ss = none
  | [], _ => rfl
  | [_], _ => rfl
  | [_, _], h => absurd rfl h
  | _ :: _ :: _ :: _, _ => rfl
theorem two_of : ∀ {ss : List ByteArray}, ss.length = 2 → ∃ x y, ss = [x, y]
  | [x, y], _ => ⟨x, y, rfl⟩
  | [], h => by cases h
  | [_], h => by cases h
  | _ :: _ :: _ :: _, h => by simp at h
theorem readW_5_name {x : ByteArray} (h : dig0 x = false) : readW 5 [x] = some (x, 0) := by
  show (if dig0 x = true then (num1 x).map (fun n => ((⟨#[]⟩ : ByteArray), n)) else some (x, 0)) = _
  rw [h, if_neg (by simp)]
theorem readW_5_num {x : ByteArray} (h : dig0 x = true) : readW 5 [x] = (num1 x).map (fun n => (⟨#[]⟩, n)) := by
  show (if dig0 x = true then (num1 x).map (fun n => ((⟨#[]⟩ : ByteArray), n)) else some (x, 0)) = _
  rw [h, if_pos rfl]
theorem readW_some_2 {ss : List ByteArray} (h : ss.length = 0) : readW 2 ss = some (⟨#[]⟩, 0) := by
  obtain rfl := List.eq_nil_of_length_eq_zero h
  rfl
theorem readW_no_2 : ∀ {ss : List ByteArray}, ss.length ≠ 0 → readW 2 ss = none
  | [], h => absurd rfl h
  | _ :: _, _ => rfl
theorem readW_some_10 {ss : List ByteArray} (h : ss.length = 0) : readW 10 ss = some (⟨#[]⟩, 0) := by
  obtain rfl := List.eq_nil_of_length_eq_zero h
  rfl
theorem readW_no_10 : ∀ {ss : List ByteArray}, ss.length ≠ 0 → readW 10 ss = none
  | [], h => absurd rfl h
  | _ :: _, _ => rfl
theorem readW_some_15 {ss : List ByteArray} (h : ss.length = 0) : readW 15 ss = some (⟨#[]⟩, 0) := by
  obtain rfl := List.eq_nil_of_length_eq_zero h
  rfl
theorem readW_no_15 : ∀ {ss : List ByteArray}, ss.length ≠ 0 → readW 15 ss = none
  | [], h => absurd rfl h
  | _ :: _, _ => rfl
theorem readW_some_16 {ss : List ByteArray} (h : ss.length = 0) : readW 16 ss = some (⟨#[]⟩, 0) := by
  obtain rfl := List.eq_nil_of_length_eq_zero h
  rfl
theorem readW_no_16 : ∀ {ss : List ByteArray}, ss.length ≠ 0 → readW 16 ss = none
  | [], h => absurd rfl h
  | _ :: _, _ => rfl
theorem readW_some_17 {ss : List ByteArray} (h : ss.length = 0) : readW 17 ss = some (⟨#[]⟩, 0) := by
  obtain rfl := List.eq_nil_of_length_eq_zero h
  rfl
theorem readW_no_17 : ∀ {ss : List ByteArray}, ss.length ≠ 0 → readW 17 ss = none
  | [], h => absurd rfl h
  | _ :: _, _ => rfl
theorem readW_some_18 {ss : List ByteArray} (h : ss.length = 0) : readW 18 ss = some (⟨#[]⟩, 0) := by
  obtain rfl := List.eq_nil_of_length_eq_zero h
  rfl
theorem readW_no_18 : ∀ {ss : List ByteArray}, ss.length ≠ 0 → readW 18 ss = none
  | [], h => absurd rfl h
  | _ :: _, _ => rfl
theorem readW_some_19 {ss : List ByteArray} (h : ss.length = 0) : readW 19 ss = some (⟨#[]⟩, 0) := by
  obtain rfl := List.eq_nil_of_length_eq_zero h
  rfl
theorem readW_no_19 : ∀ {ss : List ByteArray}, ss.length ≠ 0 → readW 19 ss = none
  | [], h => absurd rfl h
  | _ :: _, _ => rfl
def RWTo (k : Nat) (f : Bool) (b : Nat) (o : Option (ByteArray × Nat)) (w : World) (e : Ending) (w' : World) : Prop :=
  ((∃ nm n, o = some (nm, n) ∧ e = .returned (.bool true) ∧ Blk w' b 52 (fields6 (vB k) nm (n : Int) ⟨#[]⟩ f)) ∨ (o = none ∧ e = .returned (.bool false))) ∧ Below b w w'
theorem words_set {w : World} {A : Option Addr} {ss : List ByteArray} (h : WordsAt w A ss) {b i : Nat} {u : Value} (hb : ∀ ad, A = some ad → ad.block ≠ b) : WordsAt (w.setCell ⟨b, i, none⟩ u) A ss :=
  ⟨fun ad ha k x hx => by
    have h1 := h.1 ad ha k x hx
    rw [World.cell?_setCell_other w ⟨b, i, none⟩ _ u (fun e => hb ad ha (by
      have := congrArg Addr.block e
      rw [show (ad.add k).block = ad.block by unfold Addr.add; split <;> rfl] at this
      first | exact this | exact this.symm))]
    exact h1, h.2⟩
theorem words_take {w : World} {A : Option Addr} {ss : List ByteArray} (h : WordsAt w A ss) (n : Nat) : WordsAt w A (ss.take n) :=
  ⟨fun ad ha k x hx => h.1 ad ha k x (by rw [List.getElem?_take] at hx; split at hx; exact hx; cases hx), fun e => h.2 (fun e2 => e (by rw [e2]; simp))⟩
theorem one_of {w : World} {A : Option Addr} {x : ByteArray} {ss : List ByteArray} (h : WordsAt w A (x :: ss)) : ∃ ad, A = some ad ∧ w.cell? ad = some (.string x) := by
  cases A with
  | none => exact absurd rfl (h.2 (by simp))
  | some ad => exact ⟨ad, rfl, by
      have := h.1 ad rfl 0 x rfl
      rwa [show ad.add 0 = ad by unfold Addr.add; simp] at this⟩
theorem byte0 {x : ByteArray} (h : x ≠ ⟨#[]⟩) : ∃ c l, x.data.toList = c :: l ∧ 0 < x.size ∧ ∀ (hz : 0 < x.size), x[0] = c := by
  cases hx : x.data.toList with
  | nil => exact absurd (bytesB_eq (by rw [hx])) h
  | cons c l =>
    have hz : 0 < x.size := by rw [← size_listB, hx]; simp
    refine ⟨c, l, rfl, hz, fun _ => ?_⟩
    have h2 := head_of hz
    rw [hx] at h2
    exact (Option.some.inj h2).symm
set_option maxRecDepth 100000 in
set_option maxHeartbeats 4000000 in
theorem rw_0 (w : World) (b : Nat) (f : Bool) (A : Option Addr) (c : Nat) (ss : List ByteArray) (hb : Blk w b 52 (fields6 ⟨#[97, 100, 100]⟩ ⟨#[]⟩ 0 ⟨#[]⟩ f)) (hw : WordsAt w A ss) (hs : ss.length ≤ 1000000) (hz : ∀ x ∈ ss, x.size ≤ 9223372036854775807 ∧ x ≠ ⟨#[]⟩) (hA : ∀ ad, A = some ad → ad.block ≠ b) (hcap : ss.length ≤ c) :
    Calls Tryz.prog 98 #[.pointer (some ⟨b, 0, none⟩), .slice A ss.length c] w (RWTo 0 f b (readW 0 ss) w) := by
  have c0 := hb.cell 0
  have n0 : (0 : Int) ≤ (ss.length : Int) := Int.natCast_nonneg _
  have n9 : (ss.length : Int) ≤ 1000000 := by omega
  have _keep := And.intro hw (And.intro hz (And.intro hA hcap))
  clear _keep
  by_cases hl0 : ss.length = 0
  · obtain rfl : ss = [] := List.eq_nil_of_length_eq_zero hl0
    have HK := Lib.hid hb
    clear hb hw hs hz hA hcap hl0 n9 n0
    simp only [List.length_nil]
    go_enter Tryz.func98, Tryz.ntmps98
    go_wp2
    go_ret
    exact ⟨.inl ⟨_, 0, rfl, rfl, HK.out⟩, Below.refl _ _⟩
  have h0i : ((ss.length : Int) == 0) = false := by rw [beq_eq_false_iff_ne]; omega
  have h0j : ¬ (ss.length : Int) = 0 := by omega
  have HL0 := Lib.hid hl0
  clear hl0
  have HK := Lib.hid hb
  have RN := Lib.hid (readName_any w b ⟨#[97, 100, 100]⟩ ⟨#[]⟩ 0 ⟨#[]⟩ f A c ss hb hw hs)
  clear hb hw hs hz hA hcap
  go_enter Tryz.func98, Tryz.ntmps98
  go_wp2_with fail
  refine RN.out.mono ?_
  rintro e w1 (⟨x, rfl, rfl, k1, d1, -⟩ | ⟨hl, rfl, rfl⟩)
  · have K1 := Lib.hid k1
    have D1 := Lib.hid d1
    clear k1 d1
    go_wp2
    go_ret
    exact ⟨.inl ⟨x, 0, rfl, rfl, K1.out⟩, D1.out⟩
  · have HV := Lib.hid (show readW 0 ss = none from readW_no_0 hl HL0.out)
    clear hl
    go_wp2
    go_ret
    exact ⟨.inr ⟨HV.out, rfl⟩, Below.refl _ _⟩
set_option maxRecDepth 100000 in
set_option maxHeartbeats 4000000 in
theorem rw_1 (w : World) (b : Nat) (f : Bool) (A : Option Addr) (c : Nat) (ss : List ByteArray) (hb : Blk w b 52 (fields6 ⟨#[114, 109]⟩ ⟨#[]⟩ 0 ⟨#[]⟩ f)) (hw : WordsAt w A ss) (hs : ss.length ≤ 1000000) (hz : ∀ x ∈ ss, x.size ≤ 9223372036854775807 ∧ x ≠ ⟨#[]⟩) (hA : ∀ ad, A = some ad → ad.block ≠ b) (hcap : ss.length ≤ c) :
    Calls Tryz.prog 98 #[.pointer (some ⟨b, 0, none⟩), .slice A ss.length c] w (RWTo 1 f b (readW 1 ss) w) := by
  have c0 := hb.cell 0
  have n0 : (0 : Int) ≤ (ss.length : Int) := Int.natCast_nonneg _
  have n9 : (ss.length : Int) ≤ 1000000 := by omega
  have _keep := And.intro hw (And.intro hz (And.intro hA hcap))
  clear _keep
  have HK := Lib.hid hb
  have RN := Lib.hid (readName_any w b ⟨#[114, 109]⟩ ⟨#[]⟩ 0 ⟨#[]⟩ f A c ss hb hw hs)
  clear hb hw hs hz hA hcap
  go_enter Tryz.func98, Tryz.ntmps98
  go_wp2_with fail
  refine RN.out.mono ?_
  rintro e w1 (⟨x, rfl, rfl, k1, d1, -⟩ | ⟨hl, rfl, rfl⟩)
  · have K1 := Lib.hid k1
    have D1 := Lib.hid d1
    clear k1 d1
    go_wp2
    go_ret
    exact ⟨.inl ⟨x, 0, rfl, rfl, K1.out⟩, D1.out⟩
  · have HV := Lib.hid (show readW 1 ss = none from readW_no_1 hl)
    clear hl
    go_wp2
    go_ret
    exact ⟨.inr ⟨HV.out, rfl⟩, Below.refl _ _⟩
set_option maxRecDepth 100000 in
set_option maxHeartbeats 4000000 in
theorem rw_2 (w : World) (b : Nat) (f : Bool) (A : Option Addr) (c : Nat) (ss : List ByteArray) (hb : Blk w b 52 (fields6 ⟨#[99, 111, 109, 109, 105, 116]⟩ ⟨#[]⟩ 0 ⟨#[]⟩ f)) (hw : WordsAt w A ss) (hs : ss.length ≤ 1000000) (hz : ∀ x ∈ ss, x.size ≤ 9223372036854775807 ∧ x ≠ ⟨#[]⟩) (hA : ∀ ad, A = some ad → ad.block ≠ b) (hcap : ss.length ≤ c) :
    Calls Tryz.prog 98 #[.pointer (some ⟨b, 0, none⟩), .slice A ss.length c] w (RWTo 2 f b (readW 2 ss) w) := by
  have c0 := hb.cell 0
  have n0 : (0 : Int) ≤ (ss.length : Int) := Int.natCast_nonneg _
  have n9 : (ss.length : Int) ≤ 1000000 := by omega
  have _keep := And.intro hw (And.intro hz (And.intro hA hcap))
  clear _keep
  by_cases hl0 : ss.length = 0
  · have HV := Lib.hid (readW_some_2 hl0)
    have HK := Lib.hid hb
    have h0i : ((ss.length : Int) == 0) = true := by rw [hl0]; rfl
    have h0j : (ss.length : Int) = 0 := by omega
    clear hb hw hs hz hA hcap hl0 n9 n0
    go_enter Tryz.func98, Tryz.ntmps98
    go_wp2
    go_ret
    exact ⟨.inl ⟨_, 0, HV.out, rfl, HK.out⟩, Below.refl _ _⟩
  · have HV := Lib.hid (readW_no_2 hl0)
    have h0i : ((ss.length : Int) == 0) = false := by rw [beq_eq_false_iff_ne]; omega
    have h0j : ¬ (ss.length : Int) = 0 := by omega
    clear hb hw hs hz hA hcap hl0
    go_enter Tryz.func98, Tryz.ntmps98
    go_wp2
    go_ret
    exact ⟨.inr ⟨HV.out, rfl⟩, Below.refl _ _⟩
set_option maxRecDepth 100000 in
set_option maxHeartbeats 4000000 in
theorem rw_3 (w : World) (b : Nat) (f : Bool) (A : Option Addr) (c : Nat) (ss : List ByteArray) (hb : Blk w b 52 (fields6 ⟨#[98, 114, 97, 110, 99, 104]⟩ ⟨#[]⟩ 0 ⟨#[]⟩ f)) (hw : WordsAt w A ss) (hs : ss.length ≤ 1000000) (hz : ∀ x ∈ ss, x.size ≤ 9223372036854775807 ∧ x ≠ ⟨#[]⟩) (hA : ∀ ad, A = some ad → ad.block ≠ b) (hcap : ss.length ≤ c) :
    Calls Tryz.prog 98 #[.pointer (some ⟨b, 0, none⟩), .slice A ss.length c] w (RWTo 3 f b (readW 3 ss) w) := by
  have c0 := hb.cell 0
  have n0 : (0 : Int) ≤ (ss.length : Int) := Int.natCast_nonneg _
  have n9 : (ss.length : Int) ≤ 1000000 := by omega
  have _keep := And.intro hw (And.intro hz (And.intro hA hcap))
  clear _keep
  have HK := Lib.hid hb
  have RN := Lib.hid (readName_any w b ⟨#[98, 114, 97, 110, 99, 104]⟩ ⟨#[]⟩ 0 ⟨#[]⟩ f A c ss hb hw hs)
  clear hb hw hs hz hA hcap
  go_enter Tryz.func98, Tryz.ntmps98
  go_wp2_with fail
  refine RN.out.mono ?_
  rintro e w1 (⟨x, rfl, rfl, k1, d1, -⟩ | ⟨hl, rfl, rfl⟩)
  · have K1 := Lib.hid k1
    have D1 := Lib.hid d1
    clear k1 d1
    go_wp2
    go_ret
    exact ⟨.inl ⟨x, 0, rfl, rfl, K1.out⟩, D1.out⟩
  · have HV := Lib.hid (show readW 3 ss = none from readW_no_3 hl)
    clear hl
    go_wp2
    go_ret
    exact ⟨.inr ⟨HV.out, rfl⟩, Below.refl _ _⟩
set_option maxRecDepth 100000 in
set_option maxHeartbeats 4000000 in
theorem rw_4 (w : World) (b : Nat) (f : Bool) (A : Option Addr) (c : Nat) (ss : List ByteArray) (hb : Blk w b 52 (fields6 ⟨#[100, 101, 108, 101, 116, 101]⟩ ⟨#[]⟩ 0 ⟨#[]⟩ f)) (hw : WordsAt w A ss) (hs : ss.length ≤ 1000000) (hz : ∀ x ∈ ss, x.size ≤ 9223372036854775807 ∧ x ≠ ⟨#[]⟩) (hA : ∀ ad, A = some ad → ad.block ≠ b) (hcap : ss.length ≤ c) :
    Calls Tryz.prog 98 #[.pointer (some ⟨b, 0, none⟩), .slice A ss.length c] w (RWTo 4 f b (readW 4 ss) w) := by
  have c0 := hb.cell 0
  have n0 : (0 : Int) ≤ (ss.length : Int) := Int.natCast_nonneg _
  have n9 : (ss.length : Int) ≤ 1000000 := by omega
  have _keep := And.intro hw (And.intro hz (And.intro hA hcap))
  clear _keep
  have HK := Lib.hid hb
  have RN := Lib.hid (readName_any w b ⟨#[100, 101, 108, 101, 116, 101]⟩ ⟨#[]⟩ 0 ⟨#[]⟩ f A c ss hb hw hs)
  clear hb hw hs hz hA hcap
  go_enter Tryz.func98, Tryz.ntmps98
  go_wp2_with fail
  refine RN.out.mono ?_
  rintro e w1 (⟨x, rfl, rfl, k1, d1, -⟩ | ⟨hl, rfl, rfl⟩)
  · have K1 := Lib.hid k1
    have D1 := Lib.hid d1
    clear k1 d1
    go_wp2
    go_ret
    exact ⟨.inl ⟨x, 0, rfl, rfl, K1.out⟩, D1.out⟩
  · have HV := Lib.hid (show readW 4 ss = none from readW_no_4 hl)
    clear hl
    go_wp2
    go_ret
    exact ⟨.inr ⟨HV.out, rfl⟩, Below.refl _ _⟩
set_option maxRecDepth 100000 in
set_option maxHeartbeats 4000000 in
theorem rw_5 (w : World) (b : Nat) (f : Bool) (A : Option Addr) (c : Nat) (ss : List ByteArray) (hb : Blk w b 52 (fields6 ⟨#[115, 119, 105, 116, 99, 104]⟩ ⟨#[]⟩ 0 ⟨#[]⟩ f)) (hw : WordsAt w A ss) (hs : ss.length ≤ 1000000) (hz : ∀ x ∈ ss, x.size ≤ 9223372036854775807 ∧ x ≠ ⟨#[]⟩) (hA : ∀ ad, A = some ad → ad.block ≠ b) (hcap : ss.length ≤ c) :
    Calls Tryz.prog 98 #[.pointer (some ⟨b, 0, none⟩), .slice A ss.length c] w (RWTo 5 f b (readW 5 ss) w) := by
  have c0 := hb.cell 0
  have n0 : (0 : Int) ≤ (ss.length : Int) := Int.natCast_nonneg _
  have n9 : (ss.length : Int) ≤ 1000000 := by omega
  have _keep := And.intro hw (And.intro hz (And.intro hA hcap))
  clear _keep
  by_cases hl1 : ss.length = 1
  case neg =>
    have h1i : ((ss.length : Int) == 1) = false := by rw [beq_eq_false_iff_ne]; omega
    have h1j : ¬ (ss.length : Int) = 1 := by omega
    have RN := Lib.hid (readNumber_any w b ⟨#[115, 119, 105, 116, 99, 104]⟩ ⟨#[]⟩ 0 ⟨#[]⟩ f A c ss hb hw hs (fun x hx => (hz x hx).1))
    have HV := Lib.hid (readW_no_5 hl1)
    have HL := Lib.hid hl1
    clear hb hw hs hz hA hcap hl1
    go_enter Tryz.func98, Tryz.ntmps98
    go_wp2_with fail
    refine RN.out.mono ?_
    rintro e w1 (⟨x, rfl, rfl, k1, d1⟩ | ⟨hl, rfl, rfl⟩)
    · exact absurd rfl HL.out
    · clear hl
      go_wp2
      go_ret
      exact ⟨.inr ⟨HV.out, rfl⟩, Below.refl _ _⟩
  obtain ⟨x, rfl⟩ : ∃ x, ss = [x] := List.length_eq_one_iff.1 hl1
  obtain ⟨ad, rfl, cx⟩ := one_of hw
  obtain ⟨hzx, hnx⟩ := hz x (by simp)
  obtain ⟨ch, ct, hx, hx0, hxq⟩ := byte0 hnx
  have HXB := Lib.hid (hxq hx0)
  have hx0i : (0 : Int) < (x.size : Int) := by omega
  have HD := Lib.hid (show dig0 x = digB x[0] by unfold dig0; rw [hx, HXB.out])
  have RN := Lib.hid (readName_any w b ⟨#[115, 119, 105, 116, 99, 104]⟩ ⟨#[]⟩ 0 ⟨#[]⟩ f (some ad) c [x] hb hw hs)
  have RM := Lib.hid (readNumber_any w b ⟨#[115, 119, 105, 116, 99, 104]⟩ ⟨#[]⟩ 0 ⟨#[]⟩ f (some ad) c [x] hb hw hs (fun x hx => (hz x hx).1))
  simp only [List.length_singleton] at RN RM n0 n9 ⊢
  have hc1 : (0 : Int) ≤ (x[0].toNat : Int) := Int.natCast_nonneg _
  clear hb hw hs hz hA hcap hl1 hnx hx hxq hzx HXB
  by_cases hd : (x[0].toNat : Int) < 48
  · have HV := Lib.hid (readW_5_name (x := x) (by rw [HD.out]; unfold digB; simp; omega))
    clear HD
    go_enter Tryz.func98, Tryz.ntmps98
    go_wp2_with fail
    refine RN.out.mono ?_
    rintro e w1 (⟨y, hy, rfl, k1, d1, -⟩ | ⟨hl, rfl, rfl⟩)
    · obtain rfl : x = y := by simpa using hy
      have K1 := Lib.hid k1
      have D1 := Lib.hid d1
      clear k1 d1
      go_wp2
      go_ret
      exact ⟨.inl ⟨x, 0, HV.out, rfl, K1.out⟩, D1.out⟩
    · exact absurd rfl hl
  by_cases hd2 : (57 : Int) < (x[0].toNat : Int)
  · have HV := Lib.hid (readW_5_name (x := x) (by rw [HD.out]; unfold digB; simp; omega))
    clear HD
    go_enter Tryz.func98, Tryz.ntmps98
    go_wp2_with fail
    refine RN.out.mono ?_
    rintro e w1 (⟨y, hy, rfl, k1, d1, -⟩ | ⟨hl, rfl, rfl⟩)
    · obtain rfl : x = y := by simpa using hy
      have K1 := Lib.hid k1
      have D1 := Lib.hid d1
      clear k1 d1
      go_wp2
      go_ret
      exact ⟨.inl ⟨x, 0, HV.out, rfl, K1.out⟩, D1.out⟩
    · exact absurd rfl hl
  have HV := Lib.hid (readW_5_num (x := x) (by rw [HD.out]; unfold digB; simp; omega))
  clear HD
  go_enter Tryz.func98, Tryz.ntmps98
  go_wp2_with fail
  refine RM.out.mono ?_
  rintro e w1 (⟨y, hy, rfl, k1, d1⟩ | ⟨hl, rfl, rfl⟩)
  · obtain rfl : x = y := by simpa using hy
    have K1 := Lib.hid k1
    have D1 := Lib.hid d1
    clear k1 d1
    unfold num1 at HV
    generalize numP x.data.toList = p at *
    obtain ⟨pn, pb⟩ := p
    cases pb
    · go_wp2
      go_ret
      exact ⟨.inr ⟨HV.out, rfl⟩, D1.out⟩
    · go_wp2
      go_ret
      exact ⟨.inl ⟨_, pn, HV.out, rfl, K1.out⟩, D1.out⟩
  · exact absurd rfl hl
set_option maxRecDepth 100000 in
set_option maxHeartbeats 4000000 in
theorem rw_6 (w : World) (b : Nat) (f : Bool) (A : Option Addr) (c : Nat) (ss : List ByteArray) (hb : Blk w b 52 (fields6 ⟨#[114, 101, 115, 101, 116]⟩ ⟨#[]⟩ 0 ⟨#[]⟩ f)) (hw : WordsAt w A ss) (hs : ss.length ≤ 1000000) (hz : ∀ x ∈ ss, x.size ≤ 9223372036854775807 ∧ x ≠ ⟨#[]⟩) (hA : ∀ ad, A = some ad → ad.block ≠ b) (hcap : ss.length ≤ c) :
    Calls Tryz.prog 98 #[.pointer (some ⟨b, 0, none⟩), .slice A ss.length c] w (RWTo 6 f b (readW 6 ss) w) := by
  have c0 := hb.cell 0
  have n0 : (0 : Int) ≤ (ss.length : Int) := Int.natCast_nonneg _
  have n9 : (ss.length : Int) ≤ 1000000 := by omega
  have _keep := And.intro hw (And.intro hz (And.intro hA hcap))
  clear _keep
  by_cases hl2 : ss.length = 2
  case neg =>
    have h1i : ((ss.length : Int) != 2) = true := by simp; omega
    have h1j : ¬ (ss.length : Int) = 2 := by omega
    have HV := Lib.hid (readW_no_6 hl2)
    clear hb hw hs hz hA hcap hl2
    go_enter Tryz.func98, Tryz.ntmps98
    go_wp2
    go_ret
    exact ⟨.inr ⟨HV.out, rfl⟩, Below.refl _ _⟩
  obtain ⟨x, y, rfl⟩ := two_of hl2
  obtain ⟨ad, rfl, cx⟩ := one_of hw
  have hcy := hw.1 ad rfl 1 y rfl
  have HAA := Lib.hid (hA ad rfl)
  have HZY := Lib.hid (hz y (by simp)).1
  have RN := Lib.hid fun c => readName_any w b ⟨#[114, 101, 115, 101, 116]⟩ ⟨#[]⟩ 0 ⟨#[]⟩ f (some ad) c [x] hb (words_take hw 1) (by simp)
  have hW2 : WordsAt w (some (ad.add 1)) [y] := ⟨fun ad2 e k z hk => by
    obtain rfl := Option.some.inj e
    match k, hk with
    | 0, hk => simp at hk; subst hk; simpa [Addr.add] using hcy, fun _ e => by cases e⟩
  have HW2 := Lib.hid hW2
  have hc2 : 2 ≤ c := by simpa using hcap
  have hP : (if c = 1 then some ad else (some ad).map (·.add 1)) = some (ad.add 1) := by rw [if_neg (by omega)]; rfl
  have hc1 : ¬ c = 1 := by omega
  have hci : (2 : Int) ≤ (c : Int) := by omega
  simp only [List.length_cons, List.length_nil] at RN ⊢
  clear hb hs hz hA hl2 hw hW2 n0 n9 cx hcy hcap
  go_enter Tryz.func98, Tryz.ntmps98
  go_wp2_with fail
  refine (RN.out _).mono ?_
  rintro e w1 (⟨z, hz, rfl, k1, d1, hw1⟩ | ⟨hl, rfl, rfl⟩)
  case inr => exact absurd rfl hl
  obtain rfl : x = z := by simpa using hz
  have K1 := Lib.hid k1
  have D1 := Lib.hid d1
  have W1 := Lib.hid (show WordsAt w1 (some (ad.add 1)) [y] by rw [hw1]; exact words_set HW2.out (fun ad2 e => by obtain rfl := Option.some.inj e; rw [show (ad.add 1).block = ad.block by unfold Addr.add; simp]; exact HAA.out))
  have RM := Lib.hid fun c => readNumber_any w1 b ⟨#[114, 101, 115, 101, 116]⟩ x 0 ⟨#[]⟩ f (some (ad.add 1)) c [y] k1 W1.out (by simp) (fun z hz => by rw [List.mem_singleton.1 hz]; exact HZY.out)
  simp only [List.length_singleton] at RM
  clear k1 d1 hw1 hz
  go_wp2_with fail
  refine (RM.out _).mono ?_
  rintro e w2 (⟨z, hz, rfl, k2, d2⟩ | ⟨hl, rfl, rfl⟩)
  case inr => exact absurd rfl hl
  obtain rfl : y = z := by simpa using hz
  have K2 := Lib.hid k2
  have D2 := Lib.hid (D1.out.trans d2)
  have HV := Lib.hid (show readW 6 [x, y] = (num1 y).map (fun n => (x, n)) from rfl)
  clear k2 d2 hz
  unfold num1 at HV
  generalize numP y.data.toList = p at *
  obtain ⟨pn, pb⟩ := p
  cases pb
  · go_wp2
    go_ret
    exact ⟨.inr ⟨HV.out, rfl⟩, D2.out⟩
  · go_wp2
    go_ret
    exact ⟨.inl ⟨_, pn, HV.out, rfl, K2.out⟩, D2.out⟩
set_option maxRecDepth 100000 in
set_option maxHeartbeats 4000000 in
theorem rw_7 (w : World) (b : Nat) (f : Bool) (A : Option Addr) (c : Nat) (ss : List ByteArray) (hb : Blk w b 52 (fields6 ⟨#[109, 101, 114, 103, 101]⟩ ⟨#[]⟩ 0 ⟨#[]⟩ f)) (hw : WordsAt w A ss) (hs : ss.length ≤ 1000000) (hz : ∀ x ∈ ss, x.size ≤ 9223372036854775807 ∧ x ≠ ⟨#[]⟩) (hA : ∀ ad, A = some ad → ad.block ≠ b) (hcap : ss.length ≤ c) :
    Calls Tryz.prog 98 #[.pointer (some ⟨b, 0, none⟩), .slice A ss.length c] w (RWTo 7 f b (readW 7 ss) w) := by
  have c0 := hb.cell 0
  have n0 : (0 : Int) ≤ (ss.length : Int) := Int.natCast_nonneg _
  have n9 : (ss.length : Int) ≤ 1000000 := by omega
  have _keep := And.intro hw (And.intro hz (And.intro hA hcap))
  clear _keep
  have HK := Lib.hid hb
  have RN := Lib.hid (readName_any w b ⟨#[109, 101, 114, 103, 101]⟩ ⟨#[]⟩ 0 ⟨#[]⟩ f A c ss hb hw hs)
  clear hb hw hs hz hA hcap
  go_enter Tryz.func98, Tryz.ntmps98
  go_wp2_with fail
  refine RN.out.mono ?_
  rintro e w1 (⟨x, rfl, rfl, k1, d1, -⟩ | ⟨hl, rfl, rfl⟩)
  · have K1 := Lib.hid k1
    have D1 := Lib.hid d1
    clear k1 d1
    go_wp2
    go_ret
    exact ⟨.inl ⟨x, 0, rfl, rfl, K1.out⟩, D1.out⟩
  · have HV := Lib.hid (show readW 7 ss = none from readW_no_7 hl)
    clear hl
    go_wp2
    go_ret
    exact ⟨.inr ⟨HV.out, rfl⟩, Below.refl _ _⟩
set_option maxRecDepth 100000 in
set_option maxHeartbeats 4000000 in
theorem rw_8 (w : World) (b : Nat) (f : Bool) (A : Option Addr) (c : Nat) (ss : List ByteArray) (hb : Blk w b 52 (fields6 ⟨#[112, 105, 99, 107]⟩ ⟨#[]⟩ 0 ⟨#[]⟩ f)) (hw : WordsAt w A ss) (hs : ss.length ≤ 1000000) (hz : ∀ x ∈ ss, x.size ≤ 9223372036854775807 ∧ x ≠ ⟨#[]⟩) (hA : ∀ ad, A = some ad → ad.block ≠ b) (hcap : ss.length ≤ c) :
    Calls Tryz.prog 98 #[.pointer (some ⟨b, 0, none⟩), .slice A ss.length c] w (RWTo 8 f b (readW 8 ss) w) := by
  have c0 := hb.cell 0
  have n0 : (0 : Int) ≤ (ss.length : Int) := Int.natCast_nonneg _
  have n9 : (ss.length : Int) ≤ 1000000 := by omega
  have _keep := And.intro hw (And.intro hz (And.intro hA hcap))
  clear _keep
  have HK := Lib.hid hb
  have RN := Lib.hid (readNumber_any w b ⟨#[112, 105, 99, 107]⟩ ⟨#[]⟩ 0 ⟨#[]⟩ f A c ss hb hw hs (fun x hx => (hz x hx).1))
  clear hb hw hs hz hA hcap
  go_enter Tryz.func98, Tryz.ntmps98
  go_wp2_with fail
  refine RN.out.mono ?_
  rintro e w1 (⟨x, rfl, rfl, k1, d1⟩ | ⟨hl, rfl, rfl⟩)
  · have K1 := Lib.hid k1
    have D1 := Lib.hid d1
    have HV := Lib.hid (show readW 8 [x] = (num1 x).map (fun n => (⟨#[]⟩, n)) from rfl)
    clear k1 d1
    unfold num1 at HV
    generalize numP x.data.toList = p at *
    obtain ⟨pn, pb⟩ := p
    cases pb
    · go_wp2
      go_ret
      exact ⟨.inr ⟨HV.out, rfl⟩, D1.out⟩
    · go_wp2
      go_ret
      exact ⟨.inl ⟨_, pn, HV.out, rfl, K1.out⟩, D1.out⟩
  · have HV := Lib.hid (readW_no_8 hl)
    clear hl
    go_wp2
    go_ret
    exact ⟨.inr ⟨HV.out, rfl⟩, Below.refl _ _⟩
set_option maxRecDepth 100000 in
set_option maxHeartbeats 4000000 in
theorem rw_9 (w : World) (b : Nat) (f : Bool) (A : Option Addr) (c : Nat) (ss : List ByteArray) (hb : Blk w b 52 (fields6 ⟨#[114, 101, 118, 101, 114, 116]⟩ ⟨#[]⟩ 0 ⟨#[]⟩ f)) (hw : WordsAt w A ss) (hs : ss.length ≤ 1000000) (hz : ∀ x ∈ ss, x.size ≤ 9223372036854775807 ∧ x ≠ ⟨#[]⟩) (hA : ∀ ad, A = some ad → ad.block ≠ b) (hcap : ss.length ≤ c) :
    Calls Tryz.prog 98 #[.pointer (some ⟨b, 0, none⟩), .slice A ss.length c] w (RWTo 9 f b (readW 9 ss) w) := by
  have c0 := hb.cell 0
  have n0 : (0 : Int) ≤ (ss.length : Int) := Int.natCast_nonneg _
  have n9 : (ss.length : Int) ≤ 1000000 := by omega
  have _keep := And.intro hw (And.intro hz (And.intro hA hcap))
  clear _keep
  have HK := Lib.hid hb
  have RN := Lib.hid (readNumber_any w b ⟨#[114, 101, 118, 101, 114, 116]⟩ ⟨#[]⟩ 0 ⟨#[]⟩ f A c ss hb hw hs (fun x hx => (hz x hx).1))
  clear hb hw hs hz hA hcap
  go_enter Tryz.func98, Tryz.ntmps98
  go_wp2_with fail
  refine RN.out.mono ?_
  rintro e w1 (⟨x, rfl, rfl, k1, d1⟩ | ⟨hl, rfl, rfl⟩)
  · have K1 := Lib.hid k1
    have D1 := Lib.hid d1
    have HV := Lib.hid (show readW 9 [x] = (num1 x).map (fun n => (⟨#[]⟩, n)) from rfl)
    clear k1 d1
    unfold num1 at HV
    generalize numP x.data.toList = p at *
    obtain ⟨pn, pb⟩ := p
    cases pb
    · go_wp2
      go_ret
      exact ⟨.inr ⟨HV.out, rfl⟩, D1.out⟩
    · go_wp2
      go_ret
      exact ⟨.inl ⟨_, pn, HV.out, rfl, K1.out⟩, D1.out⟩
  · have HV := Lib.hid (readW_no_9 hl)
    clear hl
    go_wp2
    go_ret
    exact ⟨.inr ⟨HV.out, rfl⟩, Below.refl _ _⟩
set_option maxRecDepth 100000 in
set_option maxHeartbeats 4000000 in
theorem rw_10 (w : World) (b : Nat) (f : Bool) (A : Option Addr) (c : Nat) (ss : List ByteArray) (hb : Blk w b 52 (fields6 ⟨#[115, 116, 97, 115, 104]⟩ ⟨#[]⟩ 0 ⟨#[]⟩ f)) (hw : WordsAt w A ss) (hs : ss.length ≤ 1000000) (hz : ∀ x ∈ ss, x.size ≤ 9223372036854775807 ∧ x ≠ ⟨#[]⟩) (hA : ∀ ad, A = some ad → ad.block ≠ b) (hcap : ss.length ≤ c) :
    Calls Tryz.prog 98 #[.pointer (some ⟨b, 0, none⟩), .slice A ss.length c] w (RWTo 10 f b (readW 10 ss) w) := by
  have c0 := hb.cell 0
  have n0 : (0 : Int) ≤ (ss.length : Int) := Int.natCast_nonneg _
  have n9 : (ss.length : Int) ≤ 1000000 := by omega
  have _keep := And.intro hw (And.intro hz (And.intro hA hcap))
  clear _keep
  by_cases hl0 : ss.length = 0
  · have HV := Lib.hid (readW_some_10 hl0)
    have HK := Lib.hid hb
    have h0i : ((ss.length : Int) == 0) = true := by rw [hl0]; rfl
    have h0j : (ss.length : Int) = 0 := by omega
    clear hb hw hs hz hA hcap hl0 n9 n0
    go_enter Tryz.func98, Tryz.ntmps98
    go_wp2
    go_ret
    exact ⟨.inl ⟨_, 0, HV.out, rfl, HK.out⟩, Below.refl _ _⟩
  · have HV := Lib.hid (readW_no_10 hl0)
    have h0i : ((ss.length : Int) == 0) = false := by rw [beq_eq_false_iff_ne]; omega
    have h0j : ¬ (ss.length : Int) = 0 := by omega
    clear hb hw hs hz hA hcap hl0
    go_enter Tryz.func98, Tryz.ntmps98
    go_wp2
    go_ret
    exact ⟨.inr ⟨HV.out, rfl⟩, Below.refl _ _⟩
set_option maxRecDepth 100000 in
set_option maxHeartbeats 4000000 in
theorem rw_11 (w : World) (b : Nat) (f : Bool) (A : Option Addr) (c : Nat) (ss : List ByteArray) (hb : Blk w b 52 (fields6 ⟨#[112, 111, 112]⟩ ⟨#[]⟩ 0 ⟨#[]⟩ f)) (hw : WordsAt w A ss) (hs : ss.length ≤ 1000000) (hz : ∀ x ∈ ss, x.size ≤ 9223372036854775807 ∧ x ≠ ⟨#[]⟩) (hA : ∀ ad, A = some ad → ad.block ≠ b) (hcap : ss.length ≤ c) :
    Calls Tryz.prog 98 #[.pointer (some ⟨b, 0, none⟩), .slice A ss.length c] w (RWTo 11 f b (readW 11 ss) w) := by
  have c0 := hb.cell 0
  have n0 : (0 : Int) ≤ (ss.length : Int) := Int.natCast_nonneg _
  have n9 : (ss.length : Int) ≤ 1000000 := by omega
  have _keep := And.intro hw (And.intro hz (And.intro hA hcap))
  clear _keep
  have HK := Lib.hid hb
  have RN := Lib.hid (readNumber_any w b ⟨#[112, 111, 112]⟩ ⟨#[]⟩ 0 ⟨#[]⟩ f A c ss hb hw hs (fun x hx => (hz x hx).1))
  clear hb hw hs hz hA hcap
  go_enter Tryz.func98, Tryz.ntmps98
  go_wp2_with fail
  refine RN.out.mono ?_
  rintro e w1 (⟨x, rfl, rfl, k1, d1⟩ | ⟨hl, rfl, rfl⟩)
  · have K1 := Lib.hid k1
    have D1 := Lib.hid d1
    have HV := Lib.hid (show readW 11 [x] = (num1 x).map (fun n => (⟨#[]⟩, n)) from rfl)
    clear k1 d1
    unfold num1 at HV
    generalize numP x.data.toList = p at *
    obtain ⟨pn, pb⟩ := p
    cases pb
    · go_wp2
      go_ret
      exact ⟨.inr ⟨HV.out, rfl⟩, D1.out⟩
    · go_wp2
      go_ret
      exact ⟨.inl ⟨_, pn, HV.out, rfl, K1.out⟩, D1.out⟩
  · have HV := Lib.hid (readW_no_11 hl)
    clear hl
    go_wp2
    go_ret
    exact ⟨.inr ⟨HV.out, rfl⟩, Below.refl _ _⟩
set_option maxRecDepth 100000 in
set_option maxHeartbeats 4000000 in
theorem rw_12 (w : World) (b : Nat) (f : Bool) (A : Option Addr) (c : Nat) (ss : List ByteArray) (hb : Blk w b 52 (fields6 ⟨#[97, 112, 112, 108, 121]⟩ ⟨#[]⟩ 0 ⟨#[]⟩ f)) (hw : WordsAt w A ss) (hs : ss.length ≤ 1000000) (hz : ∀ x ∈ ss, x.size ≤ 9223372036854775807 ∧ x ≠ ⟨#[]⟩) (hA : ∀ ad, A = some ad → ad.block ≠ b) (hcap : ss.length ≤ c) :
    Calls Tryz.prog 98 #[.pointer (some ⟨b, 0, none⟩), .slice A ss.length c] w (RWTo 12 f b (readW 12 ss) w) := by
  have c0 := hb.cell 0
  have n0 : (0 : Int) ≤ (ss.length : Int) := Int.natCast_nonneg _
  have n9 : (ss.length : Int) ≤ 1000000 := by omega
  have _keep := And.intro hw (And.intro hz (And.intro hA hcap))
  clear _keep
  have HK := Lib.hid hb
  have RN := Lib.hid (readNumber_any w b ⟨#[97, 112, 112, 108, 121]⟩ ⟨#[]⟩ 0 ⟨#[]⟩ f A c ss hb hw hs (fun x hx => (hz x hx).1))
  clear hb hw hs hz hA hcap
  go_enter Tryz.func98, Tryz.ntmps98
  go_wp2_with fail
  refine RN.out.mono ?_
  rintro e w1 (⟨x, rfl, rfl, k1, d1⟩ | ⟨hl, rfl, rfl⟩)
  · have K1 := Lib.hid k1
    have D1 := Lib.hid d1
    have HV := Lib.hid (show readW 12 [x] = (num1 x).map (fun n => (⟨#[]⟩, n)) from rfl)
    clear k1 d1
    unfold num1 at HV
    generalize numP x.data.toList = p at *
    obtain ⟨pn, pb⟩ := p
    cases pb
    · go_wp2
      go_ret
      exact ⟨.inr ⟨HV.out, rfl⟩, D1.out⟩
    · go_wp2
      go_ret
      exact ⟨.inl ⟨_, pn, HV.out, rfl, K1.out⟩, D1.out⟩
  · have HV := Lib.hid (readW_no_12 hl)
    clear hl
    go_wp2
    go_ret
    exact ⟨.inr ⟨HV.out, rfl⟩, Below.refl _ _⟩
set_option maxRecDepth 100000 in
set_option maxHeartbeats 4000000 in
theorem rw_13 (w : World) (b : Nat) (f : Bool) (A : Option Addr) (c : Nat) (ss : List ByteArray) (hb : Blk w b 52 (fields6 ⟨#[115, 104, 101, 108, 118, 101]⟩ ⟨#[]⟩ 0 ⟨#[]⟩ f)) (hw : WordsAt w A ss) (hs : ss.length ≤ 1000000) (hz : ∀ x ∈ ss, x.size ≤ 9223372036854775807 ∧ x ≠ ⟨#[]⟩) (hA : ∀ ad, A = some ad → ad.block ≠ b) (hcap : ss.length ≤ c) :
    Calls Tryz.prog 98 #[.pointer (some ⟨b, 0, none⟩), .slice A ss.length c] w (RWTo 13 f b (readW 13 ss) w) := by
  have c0 := hb.cell 0
  have n0 : (0 : Int) ≤ (ss.length : Int) := Int.natCast_nonneg _
  have n9 : (ss.length : Int) ≤ 1000000 := by omega
  have _keep := And.intro hw (And.intro hz (And.intro hA hcap))
  clear _keep
  have HK := Lib.hid hb
  have RN := Lib.hid (readNumber_any w b ⟨#[115, 104, 101, 108, 118, 101]⟩ ⟨#[]⟩ 0 ⟨#[]⟩ f A c ss hb hw hs (fun x hx => (hz x hx).1))
  clear hb hw hs hz hA hcap
  go_enter Tryz.func98, Tryz.ntmps98
  go_wp2_with fail
  refine RN.out.mono ?_
  rintro e w1 (⟨x, rfl, rfl, k1, d1⟩ | ⟨hl, rfl, rfl⟩)
  · have K1 := Lib.hid k1
    have D1 := Lib.hid d1
    have HV := Lib.hid (show readW 13 [x] = (num1 x).map (fun n => (⟨#[]⟩, n)) from rfl)
    clear k1 d1
    unfold num1 at HV
    generalize numP x.data.toList = p at *
    obtain ⟨pn, pb⟩ := p
    cases pb
    · go_wp2
      go_ret
      exact ⟨.inr ⟨HV.out, rfl⟩, D1.out⟩
    · go_wp2
      go_ret
      exact ⟨.inl ⟨_, pn, HV.out, rfl, K1.out⟩, D1.out⟩
  · have HV := Lib.hid (readW_no_13 hl)
    clear hl
    go_wp2
    go_ret
    exact ⟨.inr ⟨HV.out, rfl⟩, Below.refl _ _⟩
set_option maxRecDepth 100000 in
set_option maxHeartbeats 4000000 in
theorem rw_14 (w : World) (b : Nat) (f : Bool) (A : Option Addr) (c : Nat) (ss : List ByteArray) (hb : Blk w b 52 (fields6 ⟨#[114, 101, 98, 97, 115, 101]⟩ ⟨#[]⟩ 0 ⟨#[]⟩ f)) (hw : WordsAt w A ss) (hs : ss.length ≤ 1000000) (hz : ∀ x ∈ ss, x.size ≤ 9223372036854775807 ∧ x ≠ ⟨#[]⟩) (hA : ∀ ad, A = some ad → ad.block ≠ b) (hcap : ss.length ≤ c) :
    Calls Tryz.prog 98 #[.pointer (some ⟨b, 0, none⟩), .slice A ss.length c] w (RWTo 14 f b (readW 14 ss) w) := by
  have c0 := hb.cell 0
  have n0 : (0 : Int) ≤ (ss.length : Int) := Int.natCast_nonneg _
  have n9 : (ss.length : Int) ≤ 1000000 := by omega
  have _keep := And.intro hw (And.intro hz (And.intro hA hcap))
  clear _keep
  have HK := Lib.hid hb
  have RN := Lib.hid (readNumber_any w b ⟨#[114, 101, 98, 97, 115, 101]⟩ ⟨#[]⟩ 0 ⟨#[]⟩ f A c ss hb hw hs (fun x hx => (hz x hx).1))
  clear hb hw hs hz hA hcap
  go_enter Tryz.func98, Tryz.ntmps98
  go_wp2_with fail
  refine RN.out.mono ?_
  rintro e w1 (⟨x, rfl, rfl, k1, d1⟩ | ⟨hl, rfl, rfl⟩)
  · have K1 := Lib.hid k1
    have D1 := Lib.hid d1
    have HV := Lib.hid (show readW 14 [x] = (num1 x).map (fun n => (⟨#[]⟩, n)) from rfl)
    clear k1 d1
    unfold num1 at HV
    generalize numP x.data.toList = p at *
    obtain ⟨pn, pb⟩ := p
    cases pb
    · go_wp2
      go_ret
      exact ⟨.inr ⟨HV.out, rfl⟩, D1.out⟩
    · go_wp2
      go_ret
      exact ⟨.inl ⟨_, pn, HV.out, rfl, K1.out⟩, D1.out⟩
  · have HV := Lib.hid (readW_no_14 hl)
    clear hl
    go_wp2
    go_ret
    exact ⟨.inr ⟨HV.out, rfl⟩, Below.refl _ _⟩
set_option maxRecDepth 100000 in
set_option maxHeartbeats 4000000 in
theorem rw_15 (w : World) (b : Nat) (f : Bool) (A : Option Addr) (c : Nat) (ss : List ByteArray) (hb : Blk w b 52 (fields6 ⟨#[99, 111, 110, 116, 105, 110, 117, 101]⟩ ⟨#[]⟩ 0 ⟨#[]⟩ f)) (hw : WordsAt w A ss) (hs : ss.length ≤ 1000000) (hz : ∀ x ∈ ss, x.size ≤ 9223372036854775807 ∧ x ≠ ⟨#[]⟩) (hA : ∀ ad, A = some ad → ad.block ≠ b) (hcap : ss.length ≤ c) :
    Calls Tryz.prog 98 #[.pointer (some ⟨b, 0, none⟩), .slice A ss.length c] w (RWTo 15 f b (readW 15 ss) w) := by
  have c0 := hb.cell 0
  have n0 : (0 : Int) ≤ (ss.length : Int) := Int.natCast_nonneg _
  have n9 : (ss.length : Int) ≤ 1000000 := by omega
  have _keep := And.intro hw (And.intro hz (And.intro hA hcap))
  clear _keep
  by_cases hl0 : ss.length = 0
  · have HV := Lib.hid (readW_some_15 hl0)
    have HK := Lib.hid hb
    have h0i : ((ss.length : Int) == 0) = true := by rw [hl0]; rfl
    have h0j : (ss.length : Int) = 0 := by omega
    clear hb hw hs hz hA hcap hl0 n9 n0
    go_enter Tryz.func98, Tryz.ntmps98
    go_wp2
    go_ret
    exact ⟨.inl ⟨_, 0, HV.out, rfl, HK.out⟩, Below.refl _ _⟩
  · have HV := Lib.hid (readW_no_15 hl0)
    have h0i : ((ss.length : Int) == 0) = false := by rw [beq_eq_false_iff_ne]; omega
    have h0j : ¬ (ss.length : Int) = 0 := by omega
    clear hb hw hs hz hA hcap hl0
    go_enter Tryz.func98, Tryz.ntmps98
    go_wp2
    go_ret
    exact ⟨.inr ⟨HV.out, rfl⟩, Below.refl _ _⟩
set_option maxRecDepth 100000 in
set_option maxHeartbeats 4000000 in
theorem rw_16 (w : World) (b : Nat) (f : Bool) (A : Option Addr) (c : Nat) (ss : List ByteArray) (hb : Blk w b 52 (fields6 ⟨#[115, 107, 105, 112]⟩ ⟨#[]⟩ 0 ⟨#[]⟩ f)) (hw : WordsAt w A ss) (hs : ss.length ≤ 1000000) (hz : ∀ x ∈ ss, x.size ≤ 9223372036854775807 ∧ x ≠ ⟨#[]⟩) (hA : ∀ ad, A = some ad → ad.block ≠ b) (hcap : ss.length ≤ c) :
    Calls Tryz.prog 98 #[.pointer (some ⟨b, 0, none⟩), .slice A ss.length c] w (RWTo 16 f b (readW 16 ss) w) := by
  have c0 := hb.cell 0
  have n0 : (0 : Int) ≤ (ss.length : Int) := Int.natCast_nonneg _
  have n9 : (ss.length : Int) ≤ 1000000 := by omega
  have _keep := And.intro hw (And.intro hz (And.intro hA hcap))
  clear _keep
  by_cases hl0 : ss.length = 0
  · have HV := Lib.hid (readW_some_16 hl0)
    have HK := Lib.hid hb
    have h0i : ((ss.length : Int) == 0) = true := by rw [hl0]; rfl
    have h0j : (ss.length : Int) = 0 := by omega
    clear hb hw hs hz hA hcap hl0 n9 n0
    go_enter Tryz.func98, Tryz.ntmps98
    go_wp2
    go_ret
    exact ⟨.inl ⟨_, 0, HV.out, rfl, HK.out⟩, Below.refl _ _⟩
  · have HV := Lib.hid (readW_no_16 hl0)
    have h0i : ((ss.length : Int) == 0) = false := by rw [beq_eq_false_iff_ne]; omega
    have h0j : ¬ (ss.length : Int) = 0 := by omega
    clear hb hw hs hz hA hcap hl0
    go_enter Tryz.func98, Tryz.ntmps98
    go_wp2
    go_ret
    exact ⟨.inr ⟨HV.out, rfl⟩, Below.refl _ _⟩
set_option maxRecDepth 100000 in
set_option maxHeartbeats 4000000 in
theorem rw_17 (w : World) (b : Nat) (f : Bool) (A : Option Addr) (c : Nat) (ss : List ByteArray) (hb : Blk w b 52 (fields6 ⟨#[97, 98, 111, 114, 116]⟩ ⟨#[]⟩ 0 ⟨#[]⟩ f)) (hw : WordsAt w A ss) (hs : ss.length ≤ 1000000) (hz : ∀ x ∈ ss, x.size ≤ 9223372036854775807 ∧ x ≠ ⟨#[]⟩) (hA : ∀ ad, A = some ad → ad.block ≠ b) (hcap : ss.length ≤ c) :
    Calls Tryz.prog 98 #[.pointer (some ⟨b, 0, none⟩), .slice A ss.length c] w (RWTo 17 f b (readW 17 ss) w) := by
  have c0 := hb.cell 0
  have n0 : (0 : Int) ≤ (ss.length : Int) := Int.natCast_nonneg _
  have n9 : (ss.length : Int) ≤ 1000000 := by omega
  have _keep := And.intro hw (And.intro hz (And.intro hA hcap))
  clear _keep
  by_cases hl0 : ss.length = 0
  · have HV := Lib.hid (readW_some_17 hl0)
    have HK := Lib.hid hb
    have h0i : ((ss.length : Int) == 0) = true := by rw [hl0]; rfl
    have h0j : (ss.length : Int) = 0 := by omega
    clear hb hw hs hz hA hcap hl0 n9 n0
    go_enter Tryz.func98, Tryz.ntmps98
    go_wp2
    go_ret
    exact ⟨.inl ⟨_, 0, HV.out, rfl, HK.out⟩, Below.refl _ _⟩
  · have HV := Lib.hid (readW_no_17 hl0)
    have h0i : ((ss.length : Int) == 0) = false := by rw [beq_eq_false_iff_ne]; omega
    have h0j : ¬ (ss.length : Int) = 0 := by omega
    clear hb hw hs hz hA hcap hl0
    go_enter Tryz.func98, Tryz.ntmps98
    go_wp2
    go_ret
    exact ⟨.inr ⟨HV.out, rfl⟩, Below.refl _ _⟩
set_option maxRecDepth 100000 in
set_option maxHeartbeats 4000000 in
theorem rw_18 (w : World) (b : Nat) (f : Bool) (A : Option Addr) (c : Nat) (ss : List ByteArray) (hb : Blk w b 52 (fields6 ⟨#[117, 110, 100, 111]⟩ ⟨#[]⟩ 0 ⟨#[]⟩ f)) (hw : WordsAt w A ss) (hs : ss.length ≤ 1000000) (hz : ∀ x ∈ ss, x.size ≤ 9223372036854775807 ∧ x ≠ ⟨#[]⟩) (hA : ∀ ad, A = some ad → ad.block ≠ b) (hcap : ss.length ≤ c) :
    Calls Tryz.prog 98 #[.pointer (some ⟨b, 0, none⟩), .slice A ss.length c] w (RWTo 18 f b (readW 18 ss) w) := by
  have c0 := hb.cell 0
  have n0 : (0 : Int) ≤ (ss.length : Int) := Int.natCast_nonneg _
  have n9 : (ss.length : Int) ≤ 1000000 := by omega
  have _keep := And.intro hw (And.intro hz (And.intro hA hcap))
  clear _keep
  by_cases hl0 : ss.length = 0
  · have HV := Lib.hid (readW_some_18 hl0)
    have HK := Lib.hid hb
    have h0i : ((ss.length : Int) == 0) = true := by rw [hl0]; rfl
    have h0j : (ss.length : Int) = 0 := by omega
    clear hb hw hs hz hA hcap hl0 n9 n0
    go_enter Tryz.func98, Tryz.ntmps98
    go_wp2
    go_ret
    exact ⟨.inl ⟨_, 0, HV.out, rfl, HK.out⟩, Below.refl _ _⟩
  · have HV := Lib.hid (readW_no_18 hl0)
    have h0i : ((ss.length : Int) == 0) = false := by rw [beq_eq_false_iff_ne]; omega
    have h0j : ¬ (ss.length : Int) = 0 := by omega
    clear hb hw hs hz hA hcap hl0
    go_enter Tryz.func98, Tryz.ntmps98
    go_wp2
    go_ret
    exact ⟨.inr ⟨HV.out, rfl⟩, Below.refl _ _⟩
set_option maxRecDepth 100000 in
set_option maxHeartbeats 4000000 in
theorem rw_19 (w : World) (b : Nat) (f : Bool) (A : Option Addr) (c : Nat) (ss : List ByteArray) (hb : Blk w b 52 (fields6 ⟨#[114, 101, 100, 111]⟩ ⟨#[]⟩ 0 ⟨#[]⟩ f)) (hw : WordsAt w A ss) (hs : ss.length ≤ 1000000) (hz : ∀ x ∈ ss, x.size ≤ 9223372036854775807 ∧ x ≠ ⟨#[]⟩) (hA : ∀ ad, A = some ad → ad.block ≠ b) (hcap : ss.length ≤ c) :
    Calls Tryz.prog 98 #[.pointer (some ⟨b, 0, none⟩), .slice A ss.length c] w (RWTo 19 f b (readW 19 ss) w) := by
  have c0 := hb.cell 0
  have n0 : (0 : Int) ≤ (ss.length : Int) := Int.natCast_nonneg _
  have n9 : (ss.length : Int) ≤ 1000000 := by omega
  have _keep := And.intro hw (And.intro hz (And.intro hA hcap))
  clear _keep
  by_cases hl0 : ss.length = 0
  · have HV := Lib.hid (readW_some_19 hl0)
    have HK := Lib.hid hb
    have h0i : ((ss.length : Int) == 0) = true := by rw [hl0]; rfl
    have h0j : (ss.length : Int) = 0 := by omega
    clear hb hw hs hz hA hcap hl0 n9 n0
    go_enter Tryz.func98, Tryz.ntmps98
    go_wp2
    go_ret
    exact ⟨.inl ⟨_, 0, HV.out, rfl, HK.out⟩, Below.refl _ _⟩
  · have HV := Lib.hid (readW_no_19 hl0)
    have h0i : ((ss.length : Int) == 0) = false := by rw [beq_eq_false_iff_ne]; omega
    have h0j : ¬ (ss.length : Int) = 0 := by omega
    clear hb hw hs hz hA hcap hl0
    go_enter Tryz.func98, Tryz.ntmps98
    go_wp2
    go_ret
    exact ⟨.inr ⟨HV.out, rfl⟩, Below.refl _ _⟩
theorem readWords_any (k : Nat) (hk : k < 20) (w : World) (b : Nat) (f : Bool) (A : Option Addr) (c : Nat) (ss : List ByteArray) (hb : Blk w b 52 (fields6 (vB k) ⟨#[]⟩ 0 ⟨#[]⟩ f)) (hw : WordsAt w A ss) (hs : ss.length ≤ 1000000) (hz : ∀ x ∈ ss, x.size ≤ 9223372036854775807 ∧ x ≠ ⟨#[]⟩) (hA : ∀ ad, A = some ad → ad.block ≠ b) (hcap : ss.length ≤ c) :
    Calls Tryz.prog 98 #[.pointer (some ⟨b, 0, none⟩), .slice A ss.length c] w (RWTo k f b (readW k ss) w) := by
  rcases k20 hk with rfl | rfl | rfl | rfl | rfl | rfl | rfl | rfl | rfl | rfl | rfl | rfl | rfl | rfl | rfl | rfl | rfl | rfl | rfl | rfl
  · exact rw_0 w b f A c ss hb hw hs hz hA hcap
  · exact rw_1 w b f A c ss hb hw hs hz hA hcap
  · exact rw_2 w b f A c ss hb hw hs hz hA hcap
  · exact rw_3 w b f A c ss hb hw hs hz hA hcap
  · exact rw_4 w b f A c ss hb hw hs hz hA hcap
  · exact rw_5 w b f A c ss hb hw hs hz hA hcap
  · exact rw_6 w b f A c ss hb hw hs hz hA hcap
  · exact rw_7 w b f A c ss hb hw hs hz hA hcap
  · exact rw_8 w b f A c ss hb hw hs hz hA hcap
  · exact rw_9 w b f A c ss hb hw hs hz hA hcap
  · exact rw_10 w b f A c ss hb hw hs hz hA hcap
  · exact rw_11 w b f A c ss hb hw hs hz hA hcap
  · exact rw_12 w b f A c ss hb hw hs hz hA hcap
  · exact rw_13 w b f A c ss hb hw hs hz hA hcap
  · exact rw_14 w b f A c ss hb hw hs hz hA hcap
  · exact rw_15 w b f A c ss hb hw hs hz hA hcap
  · exact rw_16 w b f A c ss hb hw hs hz hA hcap
  · exact rw_17 w b f A c ss hb hw hs hz hA hcap
  · exact rw_18 w b f A c ss hb hw hs hz hA hcap
  · exact rw_19 w b f A c ss hb hw hs hz hA hcap
end Go.Proofs.YtanjcjnkppnhcaaGreatDoor
