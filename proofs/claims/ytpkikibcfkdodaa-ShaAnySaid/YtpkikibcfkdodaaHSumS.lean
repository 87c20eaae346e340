/-
  The sum of some bytes in plain words.
-/
import Derived.Test.YtpkikibcfkdodaaHStart
import Derived.Test.YtpkikibcfkdodaaHPad
namespace Go.Proofs.Ytpkikibcfkdodaa
open Go Go.RowKit
def kw : List Nat := [1116352408, 1899447441, 3049323471, 3921009573, 961987163, 1508970993, 2453635748, 2870763221, 3624381080, 310598401, 607225278, 1426881987, 1925078388, 2162078206, 2614888103, 3248222580, 3835390401, 4022224774, 264347078, 604807628, 770255983, 1249150122, 1555081692, 1996064986, 2554220882, 2821834349, 2952996808, 3210313671, 3336571891, 3584528711, 113926993, 338241895, 666307205, 773529912, 1294757372, 1396182291, 1695183700, 1986661051, 2177026350, 2456956037, 2730485921, 2820302411, 3259730800, 3345764771, 3516065817, 3600352804, 4094571909, 275423344, 430227734, 506948616, 659060556, 883997877, 958139571, 1322822218, 1537002063, 1747873779, 1955562222, 2024104815, 2227730452, 2361852424, 2428436474, 2756734187, 3204031479, 3329325298]
theorem kw_len : kw.length = 64 := by kernel_rfl
theorem kw_words : Words kw := by unfold Words kw; decide
/-- The state behind the first n blocks of l. -/
def hashN (s : St8) (l : List UInt8) : Nat → St8
  | 0 => s
  | n + 1 => blockF (hashN s l n) kw ((l.drop (64 * n)).take 64)
theorem hashN_ok {s : St8} (h : s.ok) (l : List UInt8) : ∀ n, (hashN s l n).ok
  | 0 => h
  | _ + 1 => plus8_ok _ _
/-- The state behind all. -/
def sumS (l : List UInt8) : St8 :=
  hashN (hashN iv l (l.length / 64)) (padF (l.drop (64 * (l.length / 64))) l.length) (sizeF (l.drop (64 * (l.length / 64))).length / 64)
def bytes4 (x : Nat) : List UInt8 := [UInt8.ofNat (x / 16777216), UInt8.ofNat (x / 65536), UInt8.ofNat (x / 256), UInt8.ofNat x]
def idOf (s : St8) : List UInt8 := s.list.flatMap bytes4
def sumF (l : List UInt8) : List UInt8 := idOf (sumS l)
theorem abc : sumF [97, 98, 99] = [186, 120, 22, 191, 143, 1, 207, 234, 65, 65, 64, 222, 93, 174, 34, 35, 176, 3, 97, 163, 150, 23, 122, 156, 180, 16, 255, 97, 242, 0, 21, 173] := by decide +kernel
#print axioms abc
end Go.Proofs.Ytpkikibcfkdodaa
