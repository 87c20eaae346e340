/-
  The sum in plain words: a block's words, its schedule, its rounds.
-/
import Derived.Test.YtpkikibcfkdodaaHRot
namespace Go.Proofs.Ytpkikibcfkdodaa
open Go Go.RowKit

abbrev M32 : Nat := 4294967296
/-- A word of four bytes. -/
def word (a b c d : Nat) : Nat := ((a * 16777216 ||| b * 65536) ||| c * 256) ||| d
theorem word_lt {a b c d : Nat} (ha : a < 256) (hb : b < 256) (hc : c < 256) (hd : d < 256) : word a b c d < M32 :=
  Nat.or_lt_two_pow (n := 32) (Nat.or_lt_two_pow (Nat.or_lt_two_pow (by omega) (by omega)) (by omega)) (by omega)
theorem word_go {a b c d : Nat} (ha : a < 256) (hb : b < 256) (hc : c < 256) (hd : d < 256) :
    bits .or .u32 (bits .or .u32 (bits .or .u32 ((a : Int) * 16777216) ((b : Int) * 65536)) ((c : Int) * 256)) (d : Int) = (word a b c d : Int) := by
  have h1 : a * 16777216 ||| b * 65536 < 2 ^ 32 := Nat.or_lt_two_pow (by omega) (by omega)
  have h2 : (a * 16777216 ||| b * 65536) ||| c * 256 < 2 ^ 32 := Nat.or_lt_two_pow h1 (by omega)
  rw [show (a : Int) * 16777216 = ((a * 16777216 : Nat) : Int) by omega, show (b : Int) * 65536 = ((b * 65536 : Nat) : Int) by omega, show (c : Int) * 256 = ((c * 256 : Nat) : Int) by omega,
    u32_or_nat _ _ (by omega) (by omega), u32_or_nat _ _ h1 (by omega), u32_or_nat _ _ h2 (by omega)]
  rfl
def byteAt (m : List UInt8) (i : Nat) : Nat := ((m[i]?).getD 0).toNat
theorem byteAt_lt (m : List UInt8) (i : Nat) : byteAt m i < 256 := by unfold byteAt; exact UInt8.toNat_lt _
/-- The first n words of a block. -/
def wordsOf (m : List UInt8) : Nat → List Nat
  | 0 => []
  | n + 1 => wordsOf m n ++ [word (byteAt m (4 * n)) (byteAt m (4 * n + 1)) (byteAt m (4 * n + 2)) (byteAt m (4 * n + 3))]
theorem wordsOf_len (m : List UInt8) : ∀ n, (wordsOf m n).length = n
  | 0 => rfl
  | n + 1 => by rw [wordsOf, List.length_append, wordsOf_len m n]; rfl
def at0 (l : List Nat) (i : Nat) : Nat := (l[i]?).getD 0
/-- One word more. -/
def nextW (l : List Nat) : Nat := (((at0 l (l.length - 16) + turn2 7 18 3 (at0 l (l.length - 15))) % M32 + at0 l (l.length - 7)) % M32 + turn2 17 19 10 (at0 l (l.length - 2))) % M32
def sched (l : List Nat) : Nat → List Nat
  | 0 => l
  | n + 1 => sched l n ++ [nextW (sched l n)]
theorem sched_len (l : List Nat) : ∀ n, (sched l n).length = l.length + n
  | 0 => rfl
  | n + 1 => by rw [sched, List.length_append, sched_len l n]; rfl
def Words (l : List Nat) : Prop := ∀ x ∈ l, x < M32
theorem Words.at {l : List Nat} (h : Words l) (i : Nat) : at0 l i < M32 := by
  unfold at0
  cases e : l[i]? with
  | none => simp
  | some x => exact h x (List.mem_of_getElem? e)
theorem Words.snoc {l : List Nat} {x : Nat} (h : Words l) (hx : x < M32) : Words (l ++ [x]) := by
  intro y hy
  rcases List.mem_append.1 hy with hy | hy
  · exact h y hy
  · rw [List.mem_singleton.1 hy]; exact hx
theorem wordsOf_words (m : List UInt8) : ∀ n, Words (wordsOf m n)
  | 0 => fun x hx => by cases hx
  | n + 1 => (wordsOf_words m n).snoc (word_lt (byteAt_lt _ _) (byteAt_lt _ _) (byteAt_lt _ _) (byteAt_lt _ _))
theorem nextW_lt (l : List Nat) : nextW l < M32 := Nat.mod_lt _ (by decide)
theorem sched_words {l : List Nat} (h : Words l) : ∀ n, Words (sched l n)
  | 0 => h
  | n + 1 => (sched_words h n).snoc (nextW_lt _)

/-- The eight words of a state. -/
structure St8 where
  a : Nat
  b : Nat
  c : Nat
  d : Nat
  e : Nat
  f : Nat
  g : Nat
  h : Nat
def St8.ok (s : St8) : Prop := s.a < M32 ∧ s.b < M32 ∧ s.c < M32 ∧ s.d < M32 ∧ s.e < M32 ∧ s.f < M32 ∧ s.g < M32 ∧ s.h < M32
def St8.cells (s : St8) : Array Value := #[.int .u32 s.a, .int .u32 s.b, .int .u32 s.c, .int .u32 s.d, .int .u32 s.e, .int .u32 s.f, .int .u32 s.g, .int .u32 s.h]
def chF (e f g : Nat) : Nat := (e &&& f) ^^^ ((4294967295 - e) &&& g)
def majF (a b c : Nat) : Nat := (a &&& b) ^^^ (a &&& c) ^^^ (b &&& c)
def t1F (s : St8) (k w : Nat) : Nat := ((((s.h + turn3 6 11 25 s.e) % M32 + chF s.e s.f s.g) % M32 + k) % M32 + w) % M32
def t2F (s : St8) : Nat := (turn3 2 13 22 s.a + majF s.a s.b s.c) % M32
def round1 (s : St8) (k w : Nat) : St8 := ⟨(t1F s k w + t2F s) % M32, s.a, s.b, s.c, (s.d + t1F s k w) % M32, s.e, s.f, s.g⟩
def rounds (s : St8) (k w : List Nat) : Nat → St8
  | 0 => s
  | n + 1 => round1 (rounds s k w n) (at0 k n) (at0 w n)
def plus8 (s t : St8) : St8 := ⟨(s.a + t.a) % M32, (s.b + t.b) % M32, (s.c + t.c) % M32, (s.d + t.d) % M32, (s.e + t.e) % M32, (s.f + t.f) % M32, (s.g + t.g) % M32, (s.h + t.h) % M32⟩
/-- A block done. -/
def blockF (s : St8) (k : List Nat) (m : List UInt8) : St8 := plus8 s (rounds s k (sched (wordsOf m 16) 48) 64)
theorem round1_ok {s : St8} (h : s.ok) (k w : Nat) : (round1 s k w).ok := by
  obtain ⟨h1, h2, h3, h4, h5, h6, h7, h8⟩ := h
  exact ⟨Nat.mod_lt _ (by decide), h1, h2, h3, Nat.mod_lt _ (by decide), h5, h6, h7⟩
theorem rounds_ok {s : St8} (h : s.ok) (k w : List Nat) : ∀ n, (rounds s k w n).ok
  | 0 => h
  | n + 1 => round1_ok (rounds_ok h k w n) _ _
theorem plus8_ok (s t : St8) : (plus8 s t).ok := ⟨Nat.mod_lt _ (by decide), Nat.mod_lt _ (by decide), Nat.mod_lt _ (by decide), Nat.mod_lt _ (by decide), Nat.mod_lt _ (by decide), Nat.mod_lt _ (by decide), Nat.mod_lt _ (by decide), Nat.mod_lt _ (by decide)⟩

/-- An array of words, the first of which are l, the others 0. -/
def arr (n : Nat) (l : List Nat) : Array Value := ((l ++ List.replicate (n - l.length) 0).map fun x : Nat => Value.int .u32 (x : Int)).toArray
theorem arr_size {n : Nat} {l : List Nat} (h : l.length ≤ n) : (arr n l).size = n := by
  unfold arr; simp; omega
theorem arr_at {n : Nat} {l : List Nat} {i : Nat} (h : i < l.length) : (arr n l)[i]? = some (.int .u32 (at0 l i)) := by
  unfold arr at0
  rw [List.getElem?_toArray, List.getElem?_map, List.getElem?_append_left h, List.getElem?_eq_getElem h]; rfl
theorem arr_zero {n : Nat} {l : List Nat} {i : Nat} (h : l.length ≤ i) (hi : i < n) : (arr n l)[i]? = some (.int .u32 0) := by
  unfold arr
  rw [List.getElem?_toArray, List.getElem?_map, List.getElem?_append_right h, List.getElem?_replicate, if_pos (by omega)]; rfl
theorem arr_set {n : Nat} {l : List Nat} {x : Nat} (h : l.length < n) : (arr n l).setIfInBounds l.length (.int .u32 x) = arr n (l ++ [x]) := by
  apply Array.ext_getElem?
  intro j
  have hs := arr_size (n := n) (l := l) (by omega)
  by_cases hj : j = l.length
  · subst hj
    rw [Array.getElem?_setIfInBounds_self, if_pos (by omega)]
    have := arr_at (n := n) (l := l ++ [x]) (i := l.length) (by simp)
    rw [this]
    unfold at0
    simp
  · rw [Array.getElem?_setIfInBounds_ne (by omega)]
    by_cases h1 : j < l.length
    · rw [arr_at h1, arr_at (by simp; omega)]
      unfold at0
      rw [List.getElem?_append_left h1]
    · by_cases h2 : j < n
      · rw [arr_zero (by omega) h2, arr_zero (by simp; omega) h2]
      · rw [Array.getElem?_eq_none (by omega), Array.getElem?_eq_none (by rw [arr_size (by simp; omega)]; omega)]
#print axioms arr_set
end Go.Proofs.Ytpkikibcfkdodaa
