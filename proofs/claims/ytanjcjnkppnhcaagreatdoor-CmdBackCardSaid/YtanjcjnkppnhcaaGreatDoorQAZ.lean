/-
  words of a text: cut at each blank.
  DERIVED: THE SHELF's CONTRACTS AT THIS DUMP, IN PLAIN WORDS (tools/lay-plain.mjs out of 'TryzShelf.lean', which tools/lay-shelf.mjs wrote): THE SAME DECLARATIONS UNDER THE SAME NAMES: 'import', 'namespace', 'open', 'def', 'theorem' AND NOTHING ELSE: no command of the shelf's: FOR A HAND-IN. Each laying: the table of numbers ('.._ren') and one theorem, a field a fact of the dump's own or the kernel's comparison; each contract: ONE APPLICATION.
  cmd: what is said behind a verb: words, a name, a number.
-/
import Derived.Lib.Split
import Derived.Lib.IndexBytes
import Derived.Lib.IndexLaws
import Derived.Shelf.Strings.Builder1
import Derived.Shelf.Strings.Trim
import Derived.Shelf.Small.Utf8
import Derived.Shelf.Small.Strs
import Derived.Shelf.Strings.BuilderF
import Derived.Shelf.Strings.BuilderK
import Derived.Shelf.Utf8.RuneCount
import Derived.Shelf.Strconv.Itoa0
import Derived.Shelf.Strconv.Itoa1
import Derived.Shelf.LaysM
import Derived.Shelf.Strconv.Itoa2
import Derived.Shelf.Strconv.Itoa3
import Derived.Shelf.Strings.Search1
import Derived.Shelf.Strings.Search2
import Derived.Shelf.Strings.Search3
import Derived.Shelf.Strings.Cut
import Derived.Shelf.Strings.Count
import Derived.Shelf.Strings.Shaped
import Derived.Shelf.Strings.Prefix
import Derived.Shelf.Strings.Split
import Derived.Shelf.Strings.SplitShaped
import Derived.Shelf.Unicode.Decode
import Derived.Shelf.Strings.Runes
import Derived.Shelf.Strings.RuneCount
import Derived.Shelf.Strings.AsciiSet
import Derived.Shelf.Strings.Explode
import Derived.Shelf.Unicode.DecodeSlow
import Derived.Shelf.Unicode.DecodeAny
import Derived.Shelf.Unicode.DecodeLast
import Derived.Shelf.Strings.BuilderCap
import Derived.Shelf.Slices.Turned
import Derived.Test.YtanjcjnkppnhcaaGreatDoorProg
import Derived.Test.YtanjcjnkppnhcaaGreatDoorQAY

namespace Go.Proofs.YtanjcjnkppnhcaaGreatDoor
open Go

/-- A text's words with single blanks between. -/
def fls : List UInt8 → List (List UInt8)
  | [] => [[]]
  | c :: l => if c = 32 then [] :: fls l else match fls l with
    | [] => [[c]]
    | x :: xs => (c :: x) :: xs
theorem fls_ne : ∀ l : List UInt8, fls l ≠ []
  | [] => by simp [fls]
  | c :: l => by
    unfold fls
    split
    · simp
    · split <;> simp
theorem fls_none : ∀ {l : List UInt8}, (∀ k : Nat, l[k]? ≠ some 32) → fls l = [l]
  | [], _ => rfl
  | c :: l, h => by
    have hc : ¬ c = 32 := fun e => h 0 (by rw [e]; rfl)
    have ih := fls_none (l := l) fun k hk => h (k + 1) (by simpa using hk)
    unfold fls
    rw [if_neg hc, ih]
theorem fls_hit : ∀ {l : List UInt8} {i : Nat}, l[i]? = some 32 → (∀ k : Nat, k < i → l[k]? ≠ some 32) → fls l = l.take i :: fls (l.drop (i + 1))
  | [], _, h, _ => by simp at h
  | c :: l, 0, h, _ => by
    have hc : c = 32 := by simpa using h
    conv => lhs; unfold fls
    rw [if_pos hc]
    simp
  | c :: l, i + 1, h, hb => by
    have hc : ¬ c = 32 := fun e => hb 0 (by omega) (by rw [e]; rfl)
    have ih := fls_hit (l := l) (i := i) (by simpa using h) fun k hk hh => hb (k + 1) (by omega) (by simpa using hh)
    conv => lhs; unfold fls
    rw [if_neg hc, ih]
    simp
theorem fls_le : ∀ {l x : List UInt8}, x ∈ fls l → x.length ≤ l.length
  | [], x, h => by simp [fls] at h; subst h; simp
  | c :: l, x, h => by
    unfold fls at h
    split at h
    · rcases List.mem_cons.1 h with rfl | h
      · simp
      · have := fls_le h; simp; omega
    · cases hl : fls l with
      | nil => rw [hl] at h; simp at h; subst h; simp
      | cons y ys =>
        rw [hl] at h
        rcases List.mem_cons.1 h with rfl | h
        · have := fls_le (l := l) (x := y) (by rw [hl]; exact List.mem_cons_self); simp; omega
        · have := fls_le (l := l) (x := x) (by rw [hl]; exact List.mem_cons_of_mem _ h); simp; omega
theorem fls_len : ∀ l : List UInt8, (fls l).length ≤ l.length + 1
  | [] => by simp [fls]
  | c :: l => by
    have := fls_len l
    unfold fls
    split
    · simp; omega
    · split
      · simp
      · rename_i h; rw [h] at this; simp at this ⊢; omega
theorem split_fls : ∀ (n : Nat) (l : List UInt8), l.length ≤ n → Lib.split l [32] = fls l
  | n, l, hn => by
    rcases Int.lt_or_le (Lib.indexByte l 32) 0 with hx | hx
    · have hm : Lib.indexByte l 32 = -1 := by have := Lib.indexByte_ge l 32; omega
      rw [fls_none (Lib.indexByte_none hm)]
      unfold Lib.split
      rw [Lib.count_miss (by rw [Lib.index_one]; exact hm)]
      rfl
    · obtain ⟨i, hi⟩ : ∃ i : Nat, Lib.indexByte l 32 = i := ⟨(Lib.indexByte l 32).toNat, by omega⟩
      obtain ⟨h1, h2⟩ := Lib.indexByte_some hi
      rw [fls_hit h1 h2]
      have hx2 : Lib.index l [32] = i := by rw [Lib.index_one]; exact hi
      have hl := (List.getElem?_eq_some_iff.1 h1).1
      match n, hn with
      | 0, hn => omega
      | n + 1, hn =>
        have ih := split_fls n (l.drop (i + 1)) (by rw [List.length_drop]; omega)
        unfold Lib.split at ih ⊢
        rw [Lib.count_hit (by simp) hx2]
        rw [show 1 + Lib.count (l.drop (i + [(32 : UInt8)].length)) [32] = Lib.count (l.drop (i + 1)) [32] + 1 by rw [Nat.add_comm]; rfl]
        unfold Lib.splitK
        rw [if_neg (by rw [hx2]; simp), hx2]
        simp only [Int.toNat_natCast, Nat.add_zero, List.length_singleton]
        rw [ih]
theorem count_fls : ∀ (n : Nat) (l : List UInt8), l.length ≤ n → (fls l).length = Lib.count l [32] + 1
  | n, l, hn => by
    rcases Int.lt_or_le (Lib.indexByte l 32) 0 with hx | hx
    · have hm : Lib.indexByte l 32 = -1 := by have := Lib.indexByte_ge l 32; omega
      rw [fls_none (Lib.indexByte_none hm), Lib.count_miss (by rw [Lib.index_one]; exact hm)]
      rfl
    · obtain ⟨i, hi⟩ : ∃ i : Nat, Lib.indexByte l 32 = i := ⟨(Lib.indexByte l 32).toNat, by omega⟩
      obtain ⟨h1, h2⟩ := Lib.indexByte_some hi
      rw [fls_hit h1 h2]
      have hx2 : Lib.index l [32] = i := by rw [Lib.index_one]; exact hi
      have hl := (List.getElem?_eq_some_iff.1 h1).1
      match n, hn with
      | 0, hn => omega
      | n + 1, hn =>
        have ih := count_fls n (l.drop (i + 1)) (by rw [List.length_drop]; omega)
        rw [Lib.count_hit (by simp) hx2, List.length_cons, ih]
        show Lib.count (l.drop (i + 1)) [32] + 1 + 1 = 1 + Lib.count (l.drop (i + 1)) [32] + 1
        omega
theorem splitB_fls (s : ByteArray) : (Lib.splitB ⟨#[32]⟩ 0 (Lib.countB s ⟨#[32]⟩) s).map (·.data.toList) = fls s.data.toList := by
  rw [Lib.splitB_data]
  exact split_fls _ _ (Nat.le_refl _)
theorem splitB_len32 (s : ByteArray) : (Lib.splitB ⟨#[32]⟩ 0 (Lib.countB s ⟨#[32]⟩) s).length = Lib.countB s ⟨#[32]⟩ + 1 := by
  have h := congrArg List.length (splitB_fls s)
  rw [List.length_map, count_fls _ _ (Nat.le_refl _)] at h
  exact h
end Go.Proofs.YtanjcjnkppnhcaaGreatDoor

namespace Go.Proofs
open Go.Shelf
def Tryz.lays145_ren : Go.Shelf.Ren := ⟨fun | 145 => 65 | 220 => 96 | 219 => 117 | 217 => 138 | 225 => 139 | 224 => 140 | 267 => 141 | 266 => 153 | 314 => 154 | n => n, fun | 9 => 9 | 4 => 4 | 59 => 104 | 3 => 3 | 5 => 5 | 46 => 186 | 146 => 194 | 51 => 190 | n => n, fun | 1 => 1 | n => n⟩
theorem Tryz.lays145 : Go.Proofs.Lays.n145 Tryz.prog Tryz.lays145_ren := {
  mixed := by kernel_rfl
  f145 := Tryz.func65.trans (congrArg some (by kernel_rfl))
  f217 := Tryz.func138.trans (congrArg some (by kernel_rfl))
  f219 := Tryz.func117.trans (congrArg some (by kernel_rfl))
  f220 := Tryz.func96.trans (congrArg some (by kernel_rfl))
  f224 := Tryz.func140.trans (congrArg some (by kernel_rfl))
  f225 := Tryz.func139.trans (congrArg some (by kernel_rfl))
  f266 := Tryz.func153.trans (congrArg some (by kernel_rfl))
  f267 := Tryz.func141.trans (congrArg some (by kernel_rfl))
  f314 := Tryz.func154.trans (congrArg some (by kernel_rfl))
  t3 := Tryz.underlying3
  a3 := Tryz.isAgg3
  z3 := Tryz.sizeOf3
  v3 := Tryz.zeroValue3
  t4 := Tryz.underlying4
  a4 := Tryz.isAgg4
  z4 := Tryz.sizeOf4
  v4 := Tryz.zeroValue4
  t5 := Tryz.underlying5
  a5 := Tryz.isAgg5
  z5 := Tryz.sizeOf5
  v5 := Tryz.zeroValue5
  t9 := Tryz.underlying9
  a9 := Tryz.isAgg9
  z9 := Tryz.sizeOf9
  v9 := Tryz.zeroValue9
  t46 := Tryz.underlying186
  a46 := Tryz.isAgg186
  z46 := Tryz.sizeOf186
  v46 := Tryz.zeroValue186
  t51 := Tryz.underlying190
  a51 := Tryz.isAgg190
  z51 := Tryz.sizeOf190
  v51 := Tryz.zeroValue190
  t59 := Tryz.underlying104
  a59 := Tryz.isAgg104
  z59 := Tryz.sizeOf104
  v59 := Tryz.zeroValue104
  t146 := Tryz.underlying194
  a146 := Tryz.isAgg194
  z146 := Tryz.sizeOf194
  v146 := Tryz.zeroValue194
  g1 := by kernel_rfl }
open Go.RowKit Go.Lib in
/-- strings.Cut: "Cut slices s around the first instance of sep, returning the text before and after sep. The found result reports whether sep appears in s. If sep does not appear in s, cut returns s, "", false.": IT RETURNS 'Lib.cut s sep'; the world is as it was but for the count of draws. (LAID: no walk: one application.) -/
theorem Tryz.strings_Cut (s sep : ByteArray) (m : Int) (w : World) (hs : s.size < 4294967281) (hm : w.cell? ⟨1, 0, none⟩ = some (.int .i64 m)) :
    Calls Tryz.prog 65 #[.string s, .string sep] w fun e w' => e = .returned (.tuple #[.string ⟨(Lib.cut s.data.toList sep.data.toList).1.toArray⟩, .string ⟨(Lib.cut s.data.toList sep.data.toList).2.1.toArray⟩, .bool (Lib.cut s.data.toList sep.data.toList).2.2]) ∧ ∃ n, w' = w.drewN n := Any.strings_Cut Tryz.lays145 s sep m w hs hm
end Go.Proofs

namespace Go.Proofs.YtanjcjnkppnhcaaGreatDoor
open Go Go.RowKit

/-- A text at its first byte c; whether it is there. -/
def cutL (c : UInt8) : List UInt8 → List UInt8 × List UInt8 × Bool
  | [] => ([], [], false)
  | a :: l => if a = c then ([], l, true) else (a :: (cutL c l).1, (cutL c l).2.1, (cutL c l).2.2)
theorem cutL_none (c : UInt8) : ∀ l : List UInt8, Lib.indexByte l c = -1 → cutL c l = (l, [], false)
  | [], _ => rfl
  | a :: l, h => by
    rw [Lib.indexByte] at h
    by_cases ha : a = c
    · rw [if_pos (by simpa using ha)] at h; omega
    · rw [if_neg (by simpa using ha)] at h
      have hge := Lib.indexByte_ge l c
      by_cases h1 : Lib.indexByte l c = -1
      · unfold cutL; rw [if_neg ha, cutL_none c l h1]
      · rw [if_neg (by simpa using h1)] at h; omega
theorem cutL_some (c : UInt8) : ∀ (l : List UInt8) (i : Nat), Lib.indexByte l c = i → cutL c l = (l.take i, l.drop (i + 1), true)
  | [], i, h => by rw [Lib.indexByte] at h; omega
  | a :: l, i, h => by
    rw [Lib.indexByte] at h
    by_cases ha : a = c
    · rw [if_pos (by simpa using ha)] at h
      obtain rfl : i = 0 := by omega
      unfold cutL; rw [if_pos ha]; simp
    · rw [if_neg (by simpa using ha)] at h
      by_cases h1 : Lib.indexByte l c = -1
      · rw [if_pos (by simpa using h1)] at h; omega
      · rw [if_neg (by simpa using h1)] at h
        have hge := Lib.indexByte_ge l c
        match i with
        | 0 => omega
        | j + 1 =>
          unfold cutL
          rw [if_neg ha, cutL_some c l j (by omega)]
          simp
theorem cut_cutL (l : List UInt8) (c : UInt8) : Lib.cut l [c] = cutL c l := by
  unfold Lib.cut
  rw [Lib.index_one]
  have hge := Lib.indexByte_ge l c
  by_cases h : Lib.indexByte l c = -1
  · rw [if_neg (by omega), cutL_none c l h]
  · obtain ⟨i, hi⟩ : ∃ i : Nat, Lib.indexByte l c = i := ⟨(Lib.indexByte l c).toNat, by omega⟩
    rw [if_pos (by omega), cutL_some c l i hi, hi]
    simp
theorem cut_one (s : ByteArray) (c : UInt8) (m : Int) (w : World) (hs : s.size < 4294967281) (hm : w.cell? ⟨1, 0, none⟩ = some (.int .i64 m)) :
    Calls Tryz.prog 65 #[.string s, .string ⟨#[c]⟩] w fun e w' => e = .returned (.tuple #[.string (mkW (cutL c s.data.toList).1), .string (mkW (cutL c s.data.toList).2.1), .bool (cutL c s.data.toList).2.2]) ∧ ∃ n, w' = w.drewN n := by
  have := Tryz.strings_Cut s ⟨#[c]⟩ m w hs hm
  rw [show (⟨#[c]⟩ : ByteArray).data.toList = [c] from rfl, cut_cutL] at this
  exact this
theorem cutL_len (c : UInt8) : ∀ l : List UInt8, (cutL c l).1.length ≤ l.length ∧ (cutL c l).2.1.length ≤ l.length
  | [] => ⟨Nat.le_refl _, Nat.le_refl _⟩
  | a :: l => by
    have ih := cutL_len c l
    unfold cutL
    split
    · exact ⟨Nat.zero_le _, by simp⟩
    · exact ⟨by simp; omega, by simp; omega⟩
/-- Is a text among others? -/
def hasB (v : ByteArray) (ss : List ByteArray) : Bool := ss.any fun x => decide (x = v)
theorem contains_any (w : World) (A : Option Addr) (c : Nat) (ss : List ByteArray) (v : ByteArray) (hs : ss.length ≤ 1000000) (h : ∀ ad, A = some ad → ∀ k x, ss[k]? = some x → w.cell? (ad.add k) = some (.string x)) (hA : ss ≠ [] → A ≠ none) :
    Calls Tryz.prog 97 #[.slice A ss.length c, .string v] w fun e w' => e = .returned (.bool (hasB v ss)) ∧ w' = w := by
  have IX := Lib.hid (index_any w A c ss v hs h hA)
  have HV := Lib.hid (show decide (0 ≤ goP ss v 0) = hasB v ss from by
    unfold hasB
    rcases goP_spec ss v 0 with ⟨h1, h2⟩ | ⟨j, h1, h2⟩
    · rw [h1, decide_eq_false (by omega)]
      exact (List.any_eq_false.2 fun x hx => by simpa using h2 x hx).symm
    · rw [h1, decide_eq_true (by omega)]
      exact (List.any_eq_true.2 ⟨v, List.mem_of_getElem? h2, by simp⟩).symm)
  clear h hA
  go_enter Tryz.func97, Tryz.ntmps97
  go_wp2_with fail
  refine IX.out.mono ?_
  rintro e w1 ⟨rfl, rfl⟩
  go_wp2
  go_ret
  exact ⟨ret_bb HV.out, rfl⟩
/-- Words, one a cell. -/
def WordsAt (w : World) (A : Option Addr) (ss : List ByteArray) : Prop := (∀ ad, A = some ad → ∀ k x, ss[k]? = some x → w.cell? (ad.add k) = some (.string x)) ∧ (ss ≠ [] → A ≠ none)
theorem WordsAt.below {w w' : World} {A : Option Addr} {ss : List ByteArray} {B : Nat} (h : WordsAt w A ss) (hb : Below B w w') (hB : ∀ ad, A = some ad → ad.block < B) : WordsAt w' A ss :=
  ⟨fun ad ha k x hx => by
    have h1 := h.1 ad ha k x hx
    have h2 : (ad.add k).block < B := by rw [show (ad.add k).block = ad.block by unfold Addr.add; split <;> rfl]; exact hB ad ha
    rw [hb.cell h2]; exact h1, h.2⟩
/-- Field i of the command is set. -/
abbrev fields6 (v nm : ByteArray) (n : Int) (tx : ByteArray) (f : Bool) : Array Value := #[.string v, .string nm, .int .i64 n, .string tx, .bool f, .slice none 0 0]
theorem set_name {w : World} {b : Nat} {v nm : ByteArray} {n : Int} {tx : ByteArray} {f : Bool} (h : Blk w b 52 (fields6 v nm n tx f)) (x : ByteArray) : Blk (w.setCell ⟨b, 1, none⟩ (.string x)) b 52 (fields6 v x n tx f) := by
  have := h.set_ 1 (.string x)
  simpa using this
theorem set_num {w : World} {b : Nat} {v nm : ByteArray} {n : Int} {tx : ByteArray} {f : Bool} (h : Blk w b 52 (fields6 v nm n tx f)) (x : Int) : Blk (w.setCell ⟨b, 2, none⟩ (.int .i64 x)) b 52 (fields6 v nm x tx f) := by
  have := h.set_ 2 (.int .i64 x)
  simpa using this
theorem set_text {w : World} {b : Nat} {v nm : ByteArray} {n : Int} {tx : ByteArray} {f : Bool} (h : Blk w b 52 (fields6 v nm n tx f)) (x : ByteArray) : Blk (w.setCell ⟨b, 3, none⟩ (.string x)) b 52 (fields6 v nm n x f) := by
  have := h.set_ 3 (.string x)
  simpa using this
theorem set_force {w : World} {b : Nat} {v nm : ByteArray} {n : Int} {tx : ByteArray} {f : Bool} (h : Blk w b 52 (fields6 v nm n tx f)) (x : Bool) : Blk (w.setCell ⟨b, 4, none⟩ (.bool x)) b 52 (fields6 v nm n tx x) := by
  have := h.set_ 4 (.bool x)
  simpa using this
set_option maxHeartbeats 4000000 in
theorem readName_any (w : World) (b : Nat) (v nm : ByteArray) (n : Int) (tx : ByteArray) (f : Bool) (A : Option Addr) (c : Nat) (ss : List ByteArray) (hb : Blk w b 52 (fields6 v nm n tx f)) (hw : WordsAt w A ss) (hs : ss.length ≤ 1000000) :
    Calls Tryz.prog 118 #[.pointer (some ⟨b, 0, none⟩), .slice A ss.length c] w fun e w' => (∃ x, ss = [x] ∧ e = .returned (.bool true) ∧ Blk w' b 52 (fields6 v x n tx f) ∧ Below b w w' ∧ w' = w.setCell ⟨b, 1, none⟩ (.string x)) ∨ (ss.length ≠ 1 ∧ e = .returned (.bool false) ∧ w' = w) := by
  have n0 : (0 : Int) ≤ (ss.length : Int) := Int.natCast_nonneg _
  have n9 : (ss.length : Int) ≤ 1000000 := by omega
  by_cases h1 : ss.length = 1
  · obtain ⟨x, rfl⟩ : ∃ x, ss = [x] := List.length_eq_one_iff.1 h1
    obtain ⟨ad, rfl⟩ : ∃ ad, A = some ad := by
      cases A with
      | none => exact absurd rfl (hw.2 (by simp))
      | some ad => exact ⟨ad, rfl⟩
    have c0 : w.cell? ad = some (.string x) := by
      have := hw.1 ad rfl 0 x rfl
      rwa [show ad.add 0 = ad by unfold Addr.add; simp] at this
    have HK := Lib.hid hb
    have c1 := hb.cell 1
    have f1 := hb.frozen 1
    clear hb hw hs h1 n0 n9
    simp only [List.length_singleton]
    go_enter Tryz.func118, Tryz.ntmps118
    go_wp2
    go_ret
    exact .inl ⟨x, rfl, rfl, set_name HK.out x, (Below.refl b w).setCell (p := ⟨b, 1, none⟩) (Nat.le_refl b) _, rfl⟩
  · have h1i : ((ss.length : Int) != 1) = true := by simp; omega
    have h1j : ¬ (ss.length : Int) = 1 := by omega
    have H1 := Lib.hid h1
    clear hb hw hs h1
    go_enter Tryz.func118, Tryz.ntmps118
    go_wp2
    go_ret
    exact .inr ⟨H1.out, rfl, rfl⟩
set_option maxHeartbeats 4000000 in
theorem readNumber_any (w : World) (b : Nat) (v nm : ByteArray) (n : Int) (tx : ByteArray) (f : Bool) (A : Option Addr) (c : Nat) (ss : List ByteArray) (hb : Blk w b 52 (fields6 v nm n tx f)) (hw : WordsAt w A ss) (hs : ss.length ≤ 1000000) (hz : ∀ x ∈ ss, x.size ≤ 9223372036854775807) :
    Calls Tryz.prog 119 #[.pointer (some ⟨b, 0, none⟩), .slice A ss.length c] w fun e w' => (∃ x, ss = [x] ∧ e = .returned (.bool (numP x.data.toList).2) ∧ Blk w' b 52 (fields6 v nm ((numP x.data.toList).1 : Int) tx f) ∧ Below b w w') ∨ (ss.length ≠ 1 ∧ e = .returned (.bool false) ∧ w' = w) := by
  have n0 : (0 : Int) ≤ (ss.length : Int) := Int.natCast_nonneg _
  have n9 : (ss.length : Int) ≤ 1000000 := by omega
  by_cases h1 : ss.length = 1
  · obtain ⟨x, rfl⟩ : ∃ x, ss = [x] := List.length_eq_one_iff.1 h1
    obtain ⟨ad, rfl⟩ : ∃ ad, A = some ad := by
      cases A with
      | none => exact absurd rfl (hw.2 (by simp))
      | some ad => exact ⟨ad, rfl⟩
    have c0 : w.cell? ad = some (.string x) := by
      have := hw.1 ad rfl 0 x rfl
      rwa [show ad.add 0 = ad by unfold Addr.add; simp] at this
    have HK := Lib.hid hb
    have NB := Lib.hid (number_any x w (hz x (by simp)))
    have c1 := hb.cell 2
    have f1 := hb.frozen 2
    clear hb hw hs h1 n0 n9 hz
    simp only [List.length_singleton]
    obtain ⟨p, q⟩ : ∃ p, p = numP x.data.toList := ⟨_, rfl⟩
    rw [← q] at NB
    have HQ := Lib.hid q
    clear q
    obtain ⟨pn, pb⟩ := p
    dsimp only at NB
    go_enter Tryz.func119, Tryz.ntmps119
    go_wp2_with fail
    refine NB.out.mono ?_
    rintro e w1 ⟨rfl, rfl⟩
    go_wp2
    go_ret
    exact .inl ⟨x, rfl, by rw [← HQ.out]; rfl, by rw [← HQ.out]; exact set_num HK.out pn, (Below.refl b _).setCell (p := ⟨b, 2, none⟩) (Nat.le_refl b) _⟩
  · have h1i : ((ss.length : Int) != 1) = true := by simp; omega
    have h1j : ¬ (ss.length : Int) = 1 := by omega
    have H1 := Lib.hid h1
    clear hb hw hs h1
    go_enter Tryz.func119, Tryz.ntmps119
    go_wp2
    go_ret
    exact .inr ⟨H1.out, rfl, rfl⟩
end Go.Proofs.YtanjcjnkppnhcaaGreatDoor
