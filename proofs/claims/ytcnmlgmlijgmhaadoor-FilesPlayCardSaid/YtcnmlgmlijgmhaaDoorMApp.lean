/-
  Rows of any elements, cell by cell.
-/
import Derived.Test.YtcnmlgmlijgmhaaDoorSApp
import Derived.Laws.AppendOwnNone
import Derived.Lib.AppendZeros
namespace Go.Proofs.YtcnmlgmlijgmhaaDoor
open Go Go.RowKit

theorem addr_block (ad : Addr) (n : Nat) : (ad.add n).block = ad.block := by unfold Addr.add; split <;> rfl
theorem addr_off (ad : Addr) (n : Nat) : (ad.add n).off = ad.off + n := by unfold Addr.add; split <;> simp_all
theorem adr_flat (ad : Addr) (i k j : Nat) : adr ad i k j = ad.add (i * k + j) := by
  cases j with
  | zero => rfl
  | succ j =>
    have h : ad.add (i * k + (j + 1)) = ⟨ad.block, ad.off + (i * k + (j + 1)), none⟩ := by unfold Addr.add; rw [if_neg (by omega)]
    rw [h]
    show (⟨(ad.add (i * k)).block, (ad.add (i * k)).off + (j + 1), none⟩ : Addr) = _
    rw [addr_block, addr_off]
    congr 1
    omega
theorem reads_flat {α : Type} {k : Nat} {enc : α → List Value} {w : World} {ad : Addr} {n c : Nat} {l : List α} (hk : ∀ x, (enc x).length = k) (h0 : 0 < k) (h : Reads k enc w (.slice (some ad) n c) l) : ∀ (j : Nat) (u : Value), (l.flatMap enc)[j]? = some u → w.cell? (ad.add j) = some u := fun j u hu => by
  have hj := (List.getElem?_eq_some_iff.1 hu).1
  rw [flat_len hk] at hj
  have hi : j / k < l.length := Nat.div_lt_of_lt_mul (by rw [Nat.mul_comm]; exact hj)
  have hm : j % k < k := Nat.mod_lt _ h0
  have hd : j / k * k + j % k = j := Nat.div_add_mod' j k
  obtain ⟨ad', ha, hc⟩ := h.at_ (List.getElem?_eq_getElem hi)
  obtain rfl := Option.some.inj ha
  have := hc (j % k) u (by rw [← flat_at hk l (j / k) (j % k) _ (List.getElem?_eq_getElem hi) hm, hd]; exact hu)
  rw [adr_flat, hd] at this
  exact this
def OwnTo {α : Type} (ty : TypeId) (k : Nat) (enc : α → List Value) (l : List α) (w : World) (e : Ending) (w' : World) : Prop :=
  ∃ u, e = .returned u ∧ w'.ownsRow w.heap.size ty k u l.length (l.flatMap enc) ∧ Below w.heap.size w w'
end Go.Proofs.YtcnmlgmlijgmhaaDoor
