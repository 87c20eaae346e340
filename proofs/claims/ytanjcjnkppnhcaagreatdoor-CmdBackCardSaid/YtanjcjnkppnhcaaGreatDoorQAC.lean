/-
  rectoref17.Verb: a step's verb's place.
  append of one list of strings to a row of the call's own, whatever the other slice is; a struct behind a row of one's own.
  index.Of, index.Stage: a tree as entries, and the entries of a stage as a tree.
  appends of steps to a row of the call's own.
  todo: what is behind a step's commit; a line as a step.
  todo: a line as a step.
  lines of a text: cut at each end of line.
-/
import Derived.Test.YtanjcjnkppnhcaaGreatDoorQAB
import Derived.Test.YtanjcjnkppnhcaaGreatDoorQAA
import Derived.Laws.AppendOwnNone
import Derived.Lib.AppendZerosOnto
import Derived.Lib.Split
import Derived.Lib.IndexBytes
import Derived.Lib.IndexLaws

namespace Go.Proofs.YtanjcjnkppnhcaaGreatDoor
open Go Go.RowKit

def verbL : List ByteArray := [⟨#[112, 105, 99, 107]⟩, ⟨#[114, 101, 119, 111, 114, 100]⟩, ⟨#[101, 100, 105, 116]⟩, ⟨#[115, 113, 117, 97, 115, 104]⟩, ⟨#[102, 105, 120, 117, 112]⟩, ⟨#[100, 114, 111, 112]⟩]
theorem verb_known : ∀ x ∈ verbL, knownV x = true := by decide +kernel
theorem eq_of_toListB {v : ByteArray} {l : List UInt8} (h : v.toList = l) : v = mkW l := bytesB_eq (by rw [list_mkW, ← h, ByteArray.toList_eq])
theorem known_verb {v : ByteArray} (h : knownV v = true) : v ∈ verbL := by
  unfold knownV at h
  simp only [Bool.or_eq_true, beq_iff_eq] at h
  unfold verbL
  rcases h with ((((h | h) | h) | h) | h) | h <;> (rw [eq_of_toListB h]; simp [mkW])
def OneB (v : ByteArray) (w : World) (e : Ending) (w' : World) : Prop := ∃ n : Int, e = .returned (.int .i64 n) ∧ decide (n < 0) = !knownV v ∧ -1 ≤ n ∧ Below w.heap.size w w'
set_option maxRecDepth 100000 in
set_option maxHeartbeats 2000000 in
theorem refVerb_any (v : ByteArray) (w : World) : Calls Tryz.prog 14 #[.string v] w (OneB v w) := by
  have hB := (Below.refl w.heap.size w).alloc (Nat.le_refl _) (.cells #[.string ⟨#[112, 105, 99, 107]⟩, .string ⟨#[114, 101, 119, 111, 114, 100]⟩, .string ⟨#[101, 100, 105, 116]⟩, .string ⟨#[115, 113, 117, 97, 115, 104]⟩, .string ⟨#[102, 105, 120, 117, 112]⟩, .string ⟨#[100, 114, 111, 112]⟩] 9)
  have HK := Blk.new w 9 #[.string ⟨#[112, 105, 99, 107]⟩, .string ⟨#[114, 101, 119, 111, 114, 100]⟩, .string ⟨#[101, 100, 105, 116]⟩, .string ⟨#[115, 113, 117, 97, 115, 104]⟩, .string ⟨#[102, 105, 120, 117, 112]⟩, .string ⟨#[100, 114, 111, 112]⟩]
  have HC : ∀ (k : Nat) (x : ByteArray), verbL[k]? = some x → (w.alloc (.cells #[.string ⟨#[112, 105, 99, 107]⟩, .string ⟨#[114, 101, 119, 111, 114, 100]⟩, .string ⟨#[101, 100, 105, 116]⟩, .string ⟨#[115, 113, 117, 97, 115, 104]⟩, .string ⟨#[102, 105, 120, 117, 112]⟩, .string ⟨#[100, 114, 111, 112]⟩] 9)).cell? ⟨w.heap.size, k, none⟩ = some (.string x) := fun k x hx => by
    rw [HK.cell]
    have : (#[Value.string ⟨#[112, 105, 99, 107]⟩, .string ⟨#[114, 101, 119, 111, 114, 100]⟩, .string ⟨#[101, 100, 105, 116]⟩, .string ⟨#[115, 113, 117, 97, 115, 104]⟩, .string ⟨#[102, 105, 120, 117, 112]⟩, .string ⟨#[100, 114, 111, 112]⟩] : Array Value) = (verbL.map Value.string).toArray := rfl
    rw [this, List.getElem?_toArray, List.getElem?_map, hx]
    rfl
  have HB := Lib.hid hB
  have HC := Lib.hid HC
  clear hB HK
  go_enter Tryz.func14, Tryz.ntmps14
  go_wp2_with fail
  generalize w.alloc (.cells #[.string ⟨#[112, 105, 99, 107]⟩, .string ⟨#[114, 101, 119, 111, 114, 100]⟩, .string ⟨#[101, 100, 105, 116]⟩, .string ⟨#[115, 113, 117, 97, 115, 104]⟩, .string ⟨#[102, 105, 120, 117, 112]⟩, .string ⟨#[100, 114, 111, 112]⟩] 9) = W at *
  obtain ⟨g, hg⟩ : ∃ g, g = w.heap.size := ⟨_, rfl⟩
  rw [← hg] at HC ⊢
  clear hg
  go_loopw [4] (fun s4 wr => ∃ k : Nat, k ≤ 6 ∧ s4 = .int .i64 k ∧ Hid (∀ j x, j < k → verbL[j]? = some x → x ≠ v) ∧ Hid (wr = W)) (fun s4 _ => 6 - (intOf s4).toNat)
  case atStart => exact ⟨0, Nat.zero_le _, rfl, Lib.hid (fun j x hj => absurd hj (Nat.not_lt_zero _)), Lib.hid rfl⟩
  case round =>
    obtain ⟨k, hk, rfl, HN, HW⟩ := hrel
    have k0 : (0 : Int) ≤ (k : Int) := Int.natCast_nonneg _
    by_cases hlt : k < 6
    · have hli : (k : Int) < 6 := by omega
      obtain ⟨x, hx⟩ : ∃ x, verbL[k]? = some x := ⟨_, List.getElem?_eq_getElem (show k < verbL.length from hlt)⟩
      have c0 : wr.cell? ⟨g, k, none⟩ = some (.string x) := by rw [HW.out]; exact HC.out k x hx
      by_cases hv : x = v
      · subst hv
        have HV := Lib.hid (verb_known x (List.mem_of_getElem? hx))
        clear hx
        go_wp2
        go_ret
        exact ⟨k, rfl, by rw [HV.out]; simp, by omega, by rw [HW.out]; exact HB.out⟩
      · have e1 : (x.toList == v.toList) = false := by
          rw [beq_eq_false_iff_ne]
          exact fun e => hv (bytesB_eq (by rw [← ByteArray.toList_eq, e, ByteArray.toList_eq]))
        have HN2 := Lib.hid (show ∀ j y, j < k + 1 → verbL[j]? = some y → y ≠ v from fun j y hj hy => by
          by_cases h : j < k
          · exact HN.out j y h hy
          · obtain rfl : j = k := by omega
            rw [hx] at hy
            cases hy
            exact hv)
        clear hx
        go_wp2
        go_roundw
        case rel => exact ⟨k + 1, by omega, by go_num, HN2, HW⟩
        case measure => simp [intOf]; omega
    · obtain rfl : k = 6 := by omega
      have HV := Lib.hid (show knownV v = false from by
        cases hv : knownV v with
        | false => rfl
        | true =>
          obtain ⟨j, hj, he⟩ := List.getElem_of_mem (known_verb hv)
          exact absurd he (HN.out j _ hj (List.getElem?_eq_getElem hj)))
      go_wp2
      go_ret
      exact ⟨-1, rfl, by rw [HV.out]; rfl, by omega, by rw [HW.out]; exact HB.out⟩
end Go.Proofs.YtanjcjnkppnhcaaGreatDoor

namespace Go.Proofs.YtanjcjnkppnhcaaGreatDoor
open Go.RowKit

theorem run_append_strs (w : World) (ty : TypeId) (base n : Nat) (v : Value) (xs ys : List ByteArray) (hown : w.ownsRow base 9 1 v n (xs.map Value.string)) (A : Option Addr) (m c : Nat) (h : Strs w (.slice A m c) ys) (hl : n + m ≤ 1000000) (hbase : base ≤ w.heap.size) :
    ∃ A' m' c' w', (Builtin.append_ #[43, 43] ty #[v, .slice A m c]).run Tryz.prog w = .ok (.slice A' m' c') w' ∧ w'.ownsRow base 9 1 (.slice A' m' c') (n + m) ((xs ++ ys).map Value.string) ∧ Below base w w' ∧ w.grownBy w' v.ownBlock := by
  obtain ⟨i0, hi, hz0, hz1, hz2⟩ := info_parts strInfo
  obtain ⟨A0, c0, hv, h1, h2, h3, h4⟩ := h
  injection hv with e1 e2 e3
  subst e1; subst e3
  cases A with
  | none =>
    have hc := h3 rfl
    subst hc
    have hm : m = 0 := by omega
    subst hm
    have : ys = [] := List.eq_nil_of_length_eq_zero (by omega)
    subst this
    obtain ⟨A', c', rfl⟩ := own_form hown
    have hr := run_append_owned_none (P := Tryz.prog) (w := w) base 43 ty 9 i0 1 Tryz.underlying43 hi _ n _ hown
    exact ⟨A', _, c', w, hr, by simpa using hown, Below.refl _ _, World.grownBy.refl _ _⟩
  | some ad =>
    obtain ⟨v', w', hr, ho, hg, _⟩ := run_append_own (P := Tryz.prog) w base 43 ty 9 i0 (.string { data := #[] }) 1 16 Tryz.underlying43 hi hz0 hz1 hz2 rfl (by decide) v n (xs.map Value.string) hown ad m c (ys.map Value.string) (by simp [e2]) (by
      intro j u hu
      rw [List.getElem?_map] at hu
      cases hs : ys[j]? with
      | none => rw [hs] at hu; cases hu
      | some s => rw [hs] at hu; cases hu; exact h4 ad rfl j s hs) (by intro u hu; obtain ⟨x, _, rfl⟩ := List.mem_map.1 hu; rfl) (by unfold maxLen; omega) (by omega) hbase
    obtain ⟨A', c', rfl⟩ := own_form ho
    exact ⟨A', _, c', w', hr, by simpa using ho, (Below.refl base w).grown hg hbase fun k hk => (hown.lt k hk).1, hg⟩

theorem wp_append_strs (w : World) {o : Oper} {a : Act} {K : Act → World → Prop} {Q : Exit → Act → World → Prop} (s x : Operand)
    (ho : o.op = .call { callee := .builtin .append, args := #[s, x], argTypes := #[43, 43] })
    (base n : Nat) (v : Value) (xs ys : List ByteArray) (hs : a.eval s = v) (hown : w.ownsRow base 9 1 v n (xs.map Value.string)) (A : Option Addr) (m c : Nat) (hx : a.eval x = .slice A m c) (h : Strs w (.slice A m c) ys) (hl : n + m ≤ 1000000) (hbase : base ≤ w.heap.size)
    (hk : ∀ A' m' c' w', w'.ownsRow base 9 1 (.slice A' m' c') (n + m) ((xs ++ ys).map Value.string) → Below base w w' → w.grownBy w' v.ownBlock → K (a.put o.dst (.slice A' m' c')) w') : o.wp Tryz.prog a w K Q := by
  obtain ⟨A', m', c', w', hr, h2, h3, h4⟩ := run_append_strs w o.type base n v xs ys hown A m c h hl hbase
  unfold Oper.wp execOp
  simp only [ho, resolve, invoke, builtin, Sem.run_bind, Sem.run_pure, Result.andThen_ok, List.map_toArray, List.map_cons, List.map_nil, hs, hx, hr]
  exact hk A' m' c' w' h2 h3 h4

theorem wpList_append_strs (w : World) {ops : Array Oper} {rest : List Oper} {o : Oper} {a : Act} {Q : Exit → Act → World → Prop} (hgd : o.guard = none) (s x : Operand)
    (ho : o.op = .call { callee := .builtin .append, args := #[s, x], argTypes := #[43, 43] })
    (base n : Nat) (v : Value) (xs ys : List ByteArray) (hs : a.eval s = v) (hown : w.ownsRow base 9 1 v n (xs.map Value.string)) (A : Option Addr) (m c : Nat) (hx : a.eval x = .slice A m c) (h : Strs w (.slice A m c) ys) (hl : n + m ≤ 1000000) (hbase : base ≤ w.heap.size)
    (hk : ∀ A' m' c' w', w'.ownsRow base 9 1 (.slice A' m' c') (n + m) ((xs ++ ys).map Value.string) → Below base w w' → w.grownBy w' v.ownBlock → wpList Tryz.prog ops Q rest (a.put o.dst (.slice A' m' c')) w') : wpList Tryz.prog ops Q (o :: rest) a w :=
  wpList_plain hgd fun _ hK => wp_append_strs w s x ho base n v xs ys hs hown A m c hx h hl hbase fun A' m' c' w' h2 h3 h4 => hK _ _ (hk A' m' c' w' h2 h3 h4)

end Go.Proofs.YtanjcjnkppnhcaaGreatDoor

namespace Go.Proofs.YtanjcjnkppnhcaaGreatDoor
open Go.RowKit

theorem flat_snoc {α : Type} (enc : α → List Value) (l : List α) (x : α) : (l ++ [x]).flatMap enc = l.flatMap enc ++ enc x := by simp
/-- A row of the call's own. -/
def OwnTo {α : Type} (ty : TypeId) (k : Nat) (enc : α → List Value) (l : List α) (w : World) (e : Ending) (w' : World) : Prop :=
  ∃ u, e = .returned u ∧ w'.ownsRow w.heap.size ty k u l.length (l.flatMap enc) ∧ Below w.heap.size w w'
theorem take_snoc {α : Type} {l : List α} {i : Nat} {x : α} (h : l[i]? = some x) : l.take (i + 1) = l.take i ++ [x] := by
  obtain ⟨hi, rfl⟩ := List.getElem?_eq_some_iff.1 h
  exact List.take_succ_eq_append_getElem hi

end Go.Proofs.YtanjcjnkppnhcaaGreatDoor

namespace Go.Proofs.YtanjcjnkppnhcaaGreatDoor
open Go Go.RowKit

theorem addr_block (ad : Addr) (n : Nat) : (ad.add n).block = ad.block := by unfold Addr.add; split <;> rfl
theorem addr_off (ad : Addr) (n : Nat) : (ad.add n).off = ad.off + n := by unfold Addr.add; split <;> simp_all
theorem adr_flat (ad : Addr) (i k j : Nat) : adr ad i k j = ad.add (i * k + j) := by
  cases j with
  | zero => rfl
  | succ j =>
    have h : ad.add (i * k + (j + 1)) = ⟨ad.block, ad.off + (i * k + (j + 1)), none⟩ := by unfold Addr.add; rw [if_neg (by omega)]
    rw [h]
    show (⟨(ad.add (i * k)).block, (ad.add (i * k)).off + (j + 1), none⟩ : Addr) = _
    rw [addr_block, addr_off]
    congr 1
    omega
theorem reads_flat {α : Type} {k : Nat} {enc : α → List Value} {w : World} {ad : Addr} {n c : Nat} {l : List α} (hk : ∀ x, (enc x).length = k) (h0 : 0 < k) (h : Reads k enc w (.slice (some ad) n c) l) : ∀ (j : Nat) (u : Value), (l.flatMap enc)[j]? = some u → w.cell? (ad.add j) = some u := fun j u hu => by
  have hj := (List.getElem?_eq_some_iff.1 hu).1
  rw [flat_len hk] at hj
  have hi : j / k < l.length := Nat.div_lt_of_lt_mul (by rw [Nat.mul_comm]; exact hj)
  have hm : j % k < k := Nat.mod_lt _ h0
  have hd : j / k * k + j % k = j := Nat.div_add_mod' j k
  obtain ⟨ad', ha, hc⟩ := h.at_ (List.getElem?_eq_getElem hi)
  obtain rfl := Option.some.inj ha
  have := hc (j % k) u (by rw [← flat_at hk l (j / k) (j % k) _ (List.getElem?_eq_getElem hi) hm, hd]; exact hu)
  rw [adr_flat, hd] at this
  exact this
theorem cF_one (l : List Fl) : ∀ u ∈ l.flatMap cF, u.oneCell' = true := fun u hu => by
  obtain ⟨f, _, hf⟩ := List.mem_flatMap.1 hu
  simp [cF] at hf
  rcases hf with rfl | rfl | rfl <;> rfl

theorem run_append_steps (w : World) (ty : TypeId) (base : Nat) (v : Value) (xs ys : List Fl) (hown : w.ownsRow base 41 3 v xs.length (xs.flatMap cF)) (A : Option Addr) (m c : Nat) (h : Reads 3 cF w (.slice A m c) ys) (hl : xs.length + ys.length ≤ 1000000) (hbase : base ≤ w.heap.size) :
    ∃ A' c' w', (Builtin.append_ #[23, 23] ty #[v, .slice A m c]).run Tryz.prog w = .ok (.slice A' (xs ++ ys).length c') w' ∧ w'.ownsRow base 41 3 (.slice A' (xs ++ ys).length c') (xs ++ ys).length ((xs ++ ys).flatMap cF) ∧ Below base w w' ∧ w.grownBy w' v.ownBlock := by
  obtain ⟨i0, hi, hz0, hz1, hz2⟩ := info_parts fileInfo
  obtain ⟨hm, hmc, hcm⟩ := h.len
  cases A with
  | none =>
    obtain ⟨A', c', hv, h1, h2, h3, h4⟩ := h
    injection hv with e1 e2 e3
    subst e1; subst e3
    have hc := h3 rfl
    subst hc
    have hm0 : m = 0 := by omega
    subst hm0
    have : ys = [] := List.eq_nil_of_length_eq_zero (by omega)
    subst this
    obtain ⟨A', c', rfl⟩ := own_form hown
    have hr := run_append_owned_none (P := Tryz.prog) (w := w) base 23 ty 41 i0 3 Tryz.underlying23 hi _ _ _ hown
    rw [List.append_nil]
    exact ⟨A', c', w, hr, hown, Below.refl _ _, World.grownBy.refl _ _⟩
  | some ad =>
    obtain ⟨v', w', hr, ho, hg, _⟩ := run_append_own (P := Tryz.prog) w base 23 ty 41 i0 (.agg #[.string ⟨#[]⟩, .int .i64 0, .string ⟨#[]⟩]) 3 40 Tryz.underlying23 hi hz0 hz1 hz2 rfl (by decide) v xs.length (xs.flatMap cF) hown ad m c (ys.flatMap cF) (by rw [flat_len cF_len, hm]) (reads_flat cF_len (by decide) h) (cF_one ys) (by unfold maxLen; omega) (by omega) hbase
    have ho2 : w'.ownsRow base 41 3 v' (xs ++ ys).length ((xs ++ ys).flatMap cF) := by rw [List.length_append, List.flatMap_append, ← hm]; exact ho
    obtain ⟨A', c', rfl⟩ := own_form ho2
    exact ⟨A', c', w', hr, ho2, (Below.refl base w).grown hg hbase fun k hk => (hown.lt k hk).1, hg⟩

theorem wpList_append_steps (w : World) {ops : Array Oper} {rest : List Oper} {o : Oper} {a : Act} {Q : Exit → Act → World → Prop} (hgd : o.guard = none) (s x : Operand)
    (ho : o.op = .call { callee := .builtin .append, args := #[s, x], argTypes := #[23, 23] })
    (base : Nat) (v : Value) (xs ys : List Fl) (hs : a.eval s = v) (hown : w.ownsRow base 41 3 v xs.length (xs.flatMap cF)) (A : Option Addr) (m c : Nat) (hx : a.eval x = .slice A m c) (h : Reads 3 cF w (.slice A m c) ys) (hl : xs.length + ys.length ≤ 1000000) (hbase : base ≤ w.heap.size)
    (hk : ∀ A' c' w', w'.ownsRow base 41 3 (.slice A' (xs ++ ys).length c') (xs ++ ys).length ((xs ++ ys).flatMap cF) → Below base w w' → w.grownBy w' v.ownBlock → wpList Tryz.prog ops Q rest (a.put o.dst (.slice A' (xs ++ ys).length c')) w') : wpList Tryz.prog ops Q (o :: rest) a w := by
  obtain ⟨A', c', w', hr, h2, h3, h4⟩ := run_append_steps w o.type base v xs ys hown A m c h hl hbase
  exact Lib.wpList_append_run w hgd s x _ _ ho _ _ hs hx _ _ hr (hk A' c' w' h2 h3 h4)
end Go.Proofs.YtanjcjnkppnhcaaGreatDoor

namespace Go.Proofs.YtanjcjnkppnhcaaGreatDoor
open Go Go.RowKit

/-- What is behind a step's commit: its text, or what is wrong. -/
def textP (v : ByteArray) (r : List UInt8) : List UInt8 × Int :=
  if (v.toList == [114, 101, 119, 111, 114, 100]) = false then (if Lib.trimB r 32 = [] then ([], 0) else ([], 2))
  else if Lib.trimPrefix r [32] = [] then ([], 2) else if 256 < (Lib.trimPrefix r [32]).length then ([], 4) else (Lib.trimPrefix r [32], 0)
theorem not_nilB {s : ByteArray} (h : s.data.toList ≠ []) : ¬ s.toList = [] ∧ s.toList.isEmpty = false := by
  have q1 : ¬ s.toList = [] := by rw [ByteArray.toList_eq]; exact h
  refine ⟨q1, ?_⟩
  cases hl : s.toList with
  | nil => exact absurd hl q1
  | cons a l => rfl
theorem ret_t {a b : List UInt8 × Int} (h : a = b) : Ending.returned (.tuple #[.string (mkW a.1), .int .i64 a.2]) = .returned (.tuple #[.string (mkW b.1), .int .i64 b.2]) := by rw [h]
set_option maxRecDepth 100000 in
set_option maxHeartbeats 2000000 in
theorem text_any (v r : ByteArray) (w : World) (hr : r.size ≤ 9223372036854775807) : Calls Tryz.prog 77 #[.string v, .string r] w fun e w' => e = .returned (.tuple #[.string (mkW (textP v r.data.toList).1), .int .i64 (textP v r.data.toList).2]) ∧ ∃ q, w' = w.drewN q := by
  have TP := Lib.hid (Tryz.strings_TrimPrefix r ⟨#[32]⟩ w)
  have TR := Lib.hid (Tryz.strings_Trim_one r 32 (by decide) w hr)
  obtain ⟨x, hx⟩ : ∃ x : ByteArray, x = ⟨(Lib.trimPrefix r.data.toList (⟨#[32]⟩ : ByteArray).data.toList).toArray⟩ := ⟨_, rfl⟩
  obtain ⟨y, hy⟩ : ∃ y : ByteArray, y = ⟨(Lib.trimB r.data.toList 32).toArray⟩ := ⟨_, rfl⟩
  have HX : x.data.toList = Lib.trimPrefix r.data.toList [32] := by rw [hx]
  have HY : y.data.toList = Lib.trimB r.data.toList 32 := by rw [hy]
  rw [← hx] at TP
  rw [← hy] at TR
  have HT := Lib.hid (show textP v r.data.toList = if (v.toList == [114, 101, 119, 111, 114, 100]) = false then (if y.data.toList = [] then ([], 0) else ([], 2)) else if x.data.toList = [] then ([], 2) else if 256 < x.data.toList.length then ([], 4) else (x.data.toList, 0) by unfold textP; rw [HX, HY])
  clear hx hy HX HY
  cases hv : (v.toList == [114, 101, 119, 111, 114, 100]) with
  | false =>
    by_cases h0 : y.data.toList = []
    · have HV := Lib.hid (show textP v r.data.toList = ([], 0) by rw [HT.out, if_pos hv, if_pos h0])
      obtain rfl : y = ⟨#[]⟩ := bytesB_eq h0
      clear h0
      go_enter Tryz.func77, Tryz.ntmps77
      go_wp2_with (first
        | (go_at_call 105; refine TP.out.mono ?_; rintro e w1 ⟨rfl, rfl⟩)
        | (go_at_call 106; refine TR.out.mono ?_; rintro e w2 ⟨rfl, hw2⟩))
      go_ret2
      exact ⟨ret_t HV.out.symm, hw2.elim (fun h => ⟨0, h⟩) fun h => ⟨1, h⟩⟩
    · have HV := Lib.hid (show textP v r.data.toList = ([], 2) by rw [HT.out, if_pos hv, if_neg h0])
      obtain ⟨n1, n2⟩ := not_nilB h0
      clear h0
      go_enter Tryz.func77, Tryz.ntmps77
      go_wp2_with (first
        | (go_at_call 105; refine TP.out.mono ?_; rintro e w1 ⟨rfl, rfl⟩)
        | (go_at_call 106; refine TR.out.mono ?_; rintro e w2 ⟨rfl, hw2⟩))
      go_ret2
      exact ⟨ret_t HV.out.symm, hw2.elim (fun h => ⟨0, h⟩) fun h => ⟨1, h⟩⟩
  | true =>
    have hv2 : ¬ (v.toList == [114, 101, 119, 111, 114, 100]) = false := by rw [hv]; simp
    by_cases h0 : x.data.toList = []
    · have HV := Lib.hid (show textP v r.data.toList = ([], 2) by rw [HT.out, if_neg hv2, if_pos h0])
      obtain rfl : x = ⟨#[]⟩ := bytesB_eq h0
      clear h0 hv2
      go_enter Tryz.func77, Tryz.ntmps77
      go_wp2_with (first
        | (go_at_call 105; refine TP.out.mono ?_; rintro e w1 ⟨rfl, rfl⟩))
      go_ret2
      exact ⟨ret_t HV.out.symm, 0, rfl⟩
    · obtain ⟨n1, n2⟩ := not_nilB h0
      by_cases hl : 256 < x.size
      · have HV := Lib.hid (show textP v r.data.toList = ([], 4) by rw [HT.out, if_neg hv2, if_neg h0, if_pos (by rw [size_listB]; exact hl)])
        have hli : (256 : Int) < (x.size : Int) := by omega
        clear h0 hv2 hl
        go_enter Tryz.func77, Tryz.ntmps77
        go_wp2_with (first
          | (go_at_call 105; refine TP.out.mono ?_; rintro e w1 ⟨rfl, rfl⟩))
        go_ret2
        exact ⟨ret_t HV.out.symm, 0, rfl⟩
      · have HV := Lib.hid (show textP v r.data.toList = (x.data.toList, 0) by rw [HT.out, if_neg hv2, if_neg h0, if_neg (by rw [size_listB]; exact hl)])
        have hli : ¬ (256 : Int) < (x.size : Int) := by omega
        clear h0 hv2 hl
        go_enter Tryz.func77, Tryz.ntmps77
        go_wp2_with (first
          | (go_at_call 105; refine TP.out.mono ?_; rintro e w1 ⟨rfl, rfl⟩))
        go_ret2
        exact ⟨by rw [HV.out, mkW_list]; rfl, 0, rfl⟩
end Go.Proofs.YtanjcjnkppnhcaaGreatDoor

namespace Go.Proofs.YtanjcjnkppnhcaaGreatDoor
open Go Go.RowKit

abbrev flZero : Fl := (⟨#[]⟩, 0, ⟨#[]⟩)
/-- A line as a step; whether there is one; what is wrong. -/
def lineP (s : List UInt8) : Fl × Bool × Int :=
  if (wordP s).1 = [] ∨ (wordP s).1.head? = some 35 then (flZero, false, 0)
  else if (wordP (wordP s).2).1 = [] then (flZero, false, 2)
  else if knownV (mkW (wordP s).1) = false then (flZero, false, 5)
  else if (numP (wordP (wordP s).2).1).2 = false ∨ (numP (wordP (wordP s).2).1).1 = 0 then (flZero, false, 1)
  else if (textP (mkW (wordP s).1) (wordP (wordP s).2).2).2 ≠ 0 then (flZero, false, (textP (mkW (wordP s).1) (wordP (wordP s).2).2).2)
  else ((mkW (wordP s).1, ((numP (wordP (wordP s).2).1).1 : Int), mkW (textP (mkW (wordP s).1) (wordP (wordP s).2).2).1), true, 0)
def LineTo (o : Fl × Bool × Int) (w : World) (e : Ending) (w' : World) : Prop := e = .returned (.tuple #[.agg #[.string o.1.1, .int .i64 o.1.2.1, .string o.1.2.2], .bool o.2.1, .int .i64 o.2.2]) ∧ Below w.heap.size w w'
theorem results_cell_tmp2 {fn : Func} {p u v : Tmp} {ty : TypeId} (h : fn.results = #[.cell p ty, .tmp u, .tmp v]) (tmps : Array Value) (P : Program) (w : World) :
    (results fn tmps).run P w =
      ((asAddr (tmps.getD p undef)).run P w).andThen fun a w1 => ((loadVar ty a).run P w1).andThen fun x w2 => .ok (.tuple #[x, tmps.getD u undef, tmps.getD v undef]) w2 := by
  simp only [results, h]
  simp [Sem.run_bind, Result.andThen]
theorem results_row_tmp2 {P : Program} {fn : Func} {p u v : Tmp} {ty : TypeId} (h : fn.results = #[.cell p ty, .tmp u, .tmp v]) (tmps : Array Value) (w : World) (g : Nat) (t : TypeId) (cs : Array Value) (fr : Nat × Nat) (d : TypeDesc)
    (hp : tmps.getD p undef = .pointer (some ⟨g, 0, none⟩)) (hg : w.heap[g]? = some (.cells cs t fr))
    (hu : P.underlying ty = some d) (hd : (match d with | .struct _ | .array _ _ => true | _ => false) = true) (hi : (P.info? ty).map (·.size) = some cs.size) :
    (results fn tmps).run P w = .ok (.tuple #[.agg cs, tmps.getD u undef, tmps.getD v undef]) w := by
  rw [results_cell_tmp2 h, hp]
  simp [asAddr, run_loadVar_row w g t ty cs fr d hg hu hd hi, Result.andThen]
theorem stepSize : (Tryz.prog.info? 41).map (·.size) = some 3 := by kernel_rfl
theorem row3s {w : World} {g : Nat} {cs : Array Value} (h : Blk w g 41 cs) (hs : cs.size = 3) (a b c : Value) : Blk (((w.setCell ⟨g, 0, none⟩ a).setCell ⟨g, 1, none⟩ b).setCell ⟨g, 2, none⟩ c) g 41 #[a, b, c] := by
  have := ((h.set_ 0 a).set_ 1 b).set_ 2 c
  match cs, hs with
  | ⟨[x, y, z]⟩, _ => simpa using this
theorem below3s {B : Nat} {w w' : World} {g : Nat} (h : Below B w w') (hg : B ≤ g) (a b c : Value) : Below B w (((w'.setCell ⟨g, 0, none⟩ a).setCell ⟨g, 1, none⟩ b).setCell ⟨g, 2, none⟩ c) :=
  ((h.setCell (p := ⟨g, 0, none⟩) hg a).setCell (p := ⟨g, 1, none⟩) hg b).setCell (p := ⟨g, 2, none⟩) hg c
theorem word_len (l : List UInt8) : (wordP l).1.length ≤ l.length ∧ (wordP l).2.length ≤ l.length := by
  have := trim_len l 32
  unfold wordP
  split
  · exact ⟨this, Nat.zero_le _⟩
  · exact ⟨by rw [List.length_take]; omega, by rw [List.length_drop]; omega⟩
theorem head_of {s : ByteArray} (h : 0 < s.size) : s.data.toList.head? = some s[0] := by
  rw [List.head?_eq_getElem?]
  exact List.getElem?_eq_getElem (by rw [size_listB]; exact h)
set_option maxRecDepth 100000 in
set_option maxHeartbeats 4000000 in
theorem line_any (s : ByteArray) (w : World) (hs : s.size ≤ 9223372036854775807) : Calls Tryz.prog 37 #[.string s] w (LineTo (lineP s.data.toList) w) := by
  obtain ⟨v, hv⟩ : ∃ v, v = mkW (wordP s.data.toList).1 := ⟨_, rfl⟩
  obtain ⟨r, hr⟩ : ∃ r, r = mkW (wordP s.data.toList).2 := ⟨_, rfl⟩
  obtain ⟨m, hm⟩ : ∃ m, m = mkW (wordP r.data.toList).1 := ⟨_, rfl⟩
  obtain ⟨r2, hr2⟩ : ∃ z, z = mkW (wordP r.data.toList).2 := ⟨_, rfl⟩
  have ev : (wordP s.data.toList).1 = v.data.toList := by rw [hv, list_mkW]
  have er : (wordP s.data.toList).2 = r.data.toList := by rw [hr, list_mkW]
  have em : (wordP r.data.toList).1 = m.data.toList := by rw [hm, list_mkW]
  have er2 : (wordP r.data.toList).2 = r2.data.toList := by rw [hr2, list_mkW]
  have lr : r.size ≤ 9223372036854775807 := by have := (word_len s.data.toList).2; rw [er, size_listB, size_listB] at this; omega
  have lm : m.size ≤ 9223372036854775807 := by have := (word_len r.data.toList).1; rw [em, size_listB, size_listB] at this; omega
  have lr2 : r2.size ≤ 9223372036854775807 := by have := (word_len r.data.toList).2; rw [er2, size_listB, size_listB] at this; omega
  have W1 := Lib.hid fun W => word_any s W hs
  have W2 := Lib.hid fun W => word_any r W lr
  rw [← hv, ← hr] at W1
  rw [← hm, ← hr2] at W2
  have KV := Lib.hid fun W => knownV_any v W
  have NM := Lib.hid fun W => number_any m W lm
  have TX := Lib.hid fun W => text_any v r2 W lr2
  obtain ⟨n, hn⟩ : ∃ n, n = numP m.data.toList := ⟨_, rfl⟩
  obtain ⟨x, hx⟩ : ∃ x, x = textP v r2.data.toList := ⟨_, rfl⟩
  rw [← hn] at NM
  rw [← hx] at TX
  have HL := Lib.hid (show lineP s.data.toList = if v.data.toList = [] ∨ v.data.toList.head? = some 35 then (flZero, false, 0) else if m.data.toList = [] then (flZero, false, 2) else if knownV v = false then (flZero, false, 5)
      else if n.2 = false ∨ n.1 = 0 then (flZero, false, 1) else if x.2 ≠ 0 then (flZero, false, x.2) else ((v, (n.1 : Int), mkW x.1), true, 0) by
    unfold lineP
    rw [er, ev, em, er2, mkW_list, ← hn, ← hx])
  clear hv hr hm hr2 ev er em er2 lr lm lr2 hn hx hs
  have G0 := Lib.hid (Blk.new w 41 #[.string ⟨#[]⟩, .int .i64 0, .string ⟨#[]⟩])
  have B1 := Lib.hid ((Below.refl w.heap.size w).alloc (Nat.le_refl _) (.cells #[.string ⟨#[]⟩, .int .i64 0, .string ⟨#[]⟩] 41))
  obtain ⟨g, hg⟩ : ∃ g, g = w.heap.size := ⟨_, rfl⟩
  have HG := Lib.hid hg
  rw [← hg] at G0
  go_enter Tryz.func37, Tryz.ntmps37
  go_wp2_with fail
  rw [← hg]
  clear hg
  refine (W1.out _).mono ?_
  rintro e w2 ⟨rfl, q, rfl⟩
  have X2 := Lib.hid (show Blk ((w.alloc (.cells #[.string ⟨#[]⟩, .int .i64 0, .string ⟨#[]⟩] 41)).drewN q) g 41 _ from G0.out)
  have B2 := Lib.hid (below_drewN B1.out q)
  clear G0 B1
  generalize (w.alloc (.cells #[.string ⟨#[]⟩, .int .i64 0, .string ⟨#[]⟩] 41)).drewN q = w2 at *
  by_cases h1 : v.data.toList = []
  · have HV := Lib.hid (show lineP s.data.toList = (flZero, false, 0) by rw [HL.out, if_pos (.inl h1)])
    obtain rfl : v = ⟨#[]⟩ := bytesB_eq h1
    clear h1 HL
    have c0 := X2.out.cell 0
    have f0 := X2.out.frozen 0
    have c1 := X2.out.cell 1
    have f1 := X2.out.frozen 1
    have c2 := X2.out.cell 2
    have f2 := X2.out.frozen 2
    go_wp2
    exact bodyPost_ret (results_row_tmp2 (fn := Tryz.f37) rfl _ _ g 41 _ (0, 0) _ rfl (row3s X2.out rfl (.string ⟨#[]⟩) (.int .i64 0) (.string ⟨#[]⟩)) Tryz.underlying41 rfl stepSize) rfl ⟨by rw [HV.out]; rfl, below3s B2.out (by rw [HG.out]; exact Nat.le_refl _) _ _ _⟩
  obtain ⟨n1, n2⟩ := not_nilB h1
  have hv0 : 0 < v.size := by
    rcases Nat.eq_zero_or_pos v.size with h | h
    · exact absurd (congrArg (fun b : ByteArray => b.data.toList) (nil_ofB h)) h1
    · exact h
  have hv0i : (0 : Int) < (v.size : Int) := by omega
  have hd := head_of hv0
  by_cases h35 : v[0] = 35
  · have HV := Lib.hid (show lineP s.data.toList = (flZero, false, 0) by rw [HL.out, if_pos (.inr (by rw [hd, h35]))])
    have b1 : ((v[0].toNat : Int) == 35) = true := by rw [h35]; rfl
    have b2 : (v[0].toNat : Int) = 35 := by rw [h35]; rfl
    clear h35 HL hd h1
    have c0 := X2.out.cell 0
    have f0 := X2.out.frozen 0
    have c1 := X2.out.cell 1
    have f1 := X2.out.frozen 1
    have c2 := X2.out.cell 2
    have f2 := X2.out.frozen 2
    go_wp2
    exact bodyPost_ret (results_row_tmp2 (fn := Tryz.f37) rfl _ _ g 41 _ (0, 0) _ rfl (row3s X2.out rfl (.string ⟨#[]⟩) (.int .i64 0) (.string ⟨#[]⟩)) Tryz.underlying41 rfl stepSize) rfl ⟨by rw [HV.out]; rfl, below3s B2.out (by rw [HG.out]; exact Nat.le_refl _) _ _ _⟩
  have HQ := Lib.hid (show ¬ (v.data.toList = [] ∨ v.data.toList.head? = some 35) from fun e => e.elim h1 fun e => h35 (by rw [hd] at e; exact Option.some.inj e))
  have b2 : ¬ (v[0].toNat : Int) = 35 := fun e => h35 (UInt8.toNat_inj.1 (by show v[0].toNat = 35; omega))
  have b1 : ((v[0].toNat : Int) == 35) = false := by simpa using b2
  clear h35 hd h1
  go_wp2_with fail
  clear b1 b2 n1 n2
  refine (W2.out _).mono ?_
  rintro e w3 ⟨rfl, q3, rfl⟩
  have X3 := Lib.hid (show Blk (w2.drewN q3) g 41 _ from X2.out)
  have B3 := Lib.hid (below_drewN B2.out q3)
  clear X2 B2
  generalize w2.drewN q3 = w3 at *
  by_cases h2 : m.data.toList = []
  · have HV := Lib.hid (show lineP s.data.toList = (flZero, false, 2) by rw [HL.out, if_neg HQ.out, if_pos h2])
    obtain rfl : m = ⟨#[]⟩ := bytesB_eq h2
    clear h2 HL
    have c0 := X3.out.cell 0
    have f0 := X3.out.frozen 0
    have c1 := X3.out.cell 1
    have f1 := X3.out.frozen 1
    have c2 := X3.out.cell 2
    have f2 := X3.out.frozen 2
    go_wp2
    exact bodyPost_ret (results_row_tmp2 (fn := Tryz.f37) rfl _ _ g 41 _ (0, 0) _ rfl (row3s X3.out rfl (.string ⟨#[]⟩) (.int .i64 0) (.string ⟨#[]⟩)) Tryz.underlying41 rfl stepSize) rfl ⟨by rw [HV.out]; rfl, below3s B3.out (by rw [HG.out]; exact Nat.le_refl _) _ _ _⟩
  have HM := Lib.hid h2
  obtain ⟨n1, n2⟩ := not_nilB h2
  clear h2
  go_wp2_with fail
  clear n1 n2
  refine (KV.out _).mono ?_
  rintro e w4 ⟨rfl, rfl⟩
  cases h3 : knownV v with
  | false =>
    have HV := Lib.hid (show lineP s.data.toList = (flZero, false, 5) by rw [HL.out, if_neg HQ.out, if_neg HM.out, if_pos h3])
    clear h3 HL
    have c0 := X3.out.cell 0
    have f0 := X3.out.frozen 0
    have c1 := X3.out.cell 1
    have f1 := X3.out.frozen 1
    have c2 := X3.out.cell 2
    have f2 := X3.out.frozen 2
    go_wp2
    exact bodyPost_ret (results_row_tmp2 (fn := Tryz.f37) rfl _ _ g 41 _ (0, 0) _ rfl (row3s X3.out rfl (.string ⟨#[]⟩) (.int .i64 0) (.string ⟨#[]⟩)) Tryz.underlying41 rfl stepSize) rfl ⟨by rw [HV.out]; rfl, below3s B3.out (by rw [HG.out]; exact Nat.le_refl _) _ _ _⟩
  | true =>
    have HK := Lib.hid (show ¬ knownV v = false by rw [h3]; simp)
    clear h3
    go_wp2_with fail
    refine (NM.out _).mono ?_
    rintro e w5 ⟨rfl, rfl⟩
    obtain ⟨nv, nb⟩ := n
    dsimp only at HL NM ⊢
    by_cases h4 : nb = false ∨ nv = 0
    · have HV := Lib.hid (show lineP s.data.toList = (flZero, false, 1) by rw [HL.out, if_neg HQ.out, if_neg HM.out, if_neg HK.out, if_pos h4])
      clear HL NM
      cases nb with
      | false =>
        clear h4
        have c0 := X3.out.cell 0
        have f0 := X3.out.frozen 0
        have c1 := X3.out.cell 1
        have f1 := X3.out.frozen 1
        have c2 := X3.out.cell 2
        have f2 := X3.out.frozen 2
        go_wp2
        exact bodyPost_ret (results_row_tmp2 (fn := Tryz.f37) rfl _ _ g 41 _ (0, 0) _ rfl (row3s X3.out rfl (.string ⟨#[]⟩) (.int .i64 0) (.string ⟨#[]⟩)) Tryz.underlying41 rfl stepSize) rfl ⟨by rw [HV.out]; rfl, below3s B3.out (by rw [HG.out]; exact Nat.le_refl _) _ _ _⟩
      | true =>
        obtain rfl : nv = 0 := h4.elim (fun e => by cases e) id
        clear h4
        have c0 := X3.out.cell 0
        have f0 := X3.out.frozen 0
        have c1 := X3.out.cell 1
        have f1 := X3.out.frozen 1
        have c2 := X3.out.cell 2
        have f2 := X3.out.frozen 2
        go_wp2
        exact bodyPost_ret (results_row_tmp2 (fn := Tryz.f37) rfl _ _ g 41 _ (0, 0) _ rfl (row3s X3.out rfl (.string ⟨#[]⟩) (.int .i64 0) (.string ⟨#[]⟩)) Tryz.underlying41 rfl stepSize) rfl ⟨by rw [HV.out]; rfl, below3s B3.out (by rw [HG.out]; exact Nat.le_refl _) _ _ _⟩
    · have HN := Lib.hid h4
      obtain rfl : nb = true := by cases nb; exact absurd (.inl rfl) h4; rfl
      have hn0 : ¬ (nv : Int) = 0 := fun e => h4 (.inr (by omega))
      have hn1 : ((nv : Int) == 0) = false := by simpa using hn0
      clear h4
      go_wp2_with fail
      clear hn0 hn1
      refine (TX.out _).mono ?_
      rintro e w6 ⟨rfl, q6, rfl⟩
      have X6 := Lib.hid (show Blk (w5.drewN q6) g 41 _ from X3.out)
      have B6 := Lib.hid (below_drewN B3.out q6)
      clear X3 B3
      generalize w5.drewN q6 = w6 at *
      obtain ⟨xt, xe⟩ := x
      dsimp only at HL TX ⊢
      by_cases h5 : xe = 0
      · subst h5
        have HV := Lib.hid (show lineP s.data.toList = ((v, (nv : Int), mkW xt), true, 0) by rw [HL.out, if_neg HQ.out, if_neg HM.out, if_neg HK.out, if_neg HN.out, if_neg (by simp)])
        clear HL TX
        have c0 := X6.out.cell 0
        have f0 := X6.out.frozen 0
        have c1 := X6.out.cell 1
        have f1 := X6.out.frozen 1
        have c2 := X6.out.cell 2
        have f2 := X6.out.frozen 2
        go_wp2
        exact bodyPost_ret (results_row_tmp2 (fn := Tryz.f37) rfl _ _ g 41 _ (0, 0) _ rfl (row3s X6.out rfl (.string v) (.int .i64 (nv : Int)) (.string (mkW xt))) Tryz.underlying41 rfl stepSize) rfl ⟨by rw [HV.out]; rfl, below3s B6.out (by rw [HG.out]; exact Nat.le_refl _) _ _ _⟩
      · have HV := Lib.hid (show lineP s.data.toList = (flZero, false, xe) by rw [HL.out, if_neg HQ.out, if_neg HM.out, if_neg HK.out, if_neg HN.out, if_pos h5])
        have h5b : (xe == 0) = false := by simpa using h5
        clear HL TX
        have c0 := X6.out.cell 0
        have f0 := X6.out.frozen 0
        have c1 := X6.out.cell 1
        have f1 := X6.out.frozen 1
        have c2 := X6.out.cell 2
        have f2 := X6.out.frozen 2
        go_wp2
        exact bodyPost_ret (results_row_tmp2 (fn := Tryz.f37) rfl _ _ g 41 _ (0, 0) _ rfl (row3s X6.out rfl (.string ⟨#[]⟩) (.int .i64 0) (.string ⟨#[]⟩)) Tryz.underlying41 rfl stepSize) rfl ⟨by rw [HV.out]; rfl, below3s B6.out (by rw [HG.out]; exact Nat.le_refl _) _ _ _⟩
end Go.Proofs.YtanjcjnkppnhcaaGreatDoor

namespace Go.Proofs.YtanjcjnkppnhcaaGreatDoor
open Go

/-- A text's lines, without their ends. -/
def nls : List UInt8 → List (List UInt8)
  | [] => [[]]
  | c :: l => if c = 10 then [] :: nls l else match nls l with
    | [] => [[c]]
    | x :: xs => (c :: x) :: xs
theorem nls_ne : ∀ l : List UInt8, nls l ≠ []
  | [] => by simp [nls]
  | c :: l => by
    unfold nls
    split
    · simp
    · split <;> simp
theorem nls_none : ∀ {l : List UInt8}, (∀ k : Nat, l[k]? ≠ some 10) → nls l = [l]
  | [], _ => rfl
  | c :: l, h => by
    have hc : ¬ c = 10 := fun e => h 0 (by rw [e]; rfl)
    have ih := nls_none (l := l) fun k hk => h (k + 1) (by simpa using hk)
    unfold nls
    rw [if_neg hc, ih]
theorem nls_hit : ∀ {l : List UInt8} {i : Nat}, l[i]? = some 10 → (∀ k : Nat, k < i → l[k]? ≠ some 10) → nls l = l.take i :: nls (l.drop (i + 1))
  | [], _, h, _ => by simp at h
  | c :: l, 0, h, _ => by
    have hc : c = 10 := by simpa using h
    conv => lhs; unfold nls
    rw [if_pos hc]
    simp
  | c :: l, i + 1, h, hb => by
    have hc : ¬ c = 10 := fun e => hb 0 (by omega) (by rw [e]; rfl)
    have ih := nls_hit (l := l) (i := i) (by simpa using h) fun k hk hh => hb (k + 1) (by omega) (by simpa using hh)
    conv => lhs; unfold nls
    rw [if_neg hc, ih]
    simp
theorem nls_le : ∀ {l x : List UInt8}, x ∈ nls l → x.length ≤ l.length
  | [], x, h => by simp [nls] at h; subst h; simp
  | c :: l, x, h => by
    unfold nls at h
    split at h
    · rcases List.mem_cons.1 h with rfl | h
      · simp
      · have := nls_le h; simp; omega
    · cases hl : nls l with
      | nil => rw [hl] at h; simp at h; subst h; simp
      | cons y ys =>
        rw [hl] at h
        rcases List.mem_cons.1 h with rfl | h
        · have := nls_le (l := l) (x := y) (by rw [hl]; exact List.mem_cons_self); simp; omega
        · have := nls_le (l := l) (x := x) (by rw [hl]; exact List.mem_cons_of_mem _ h); simp; omega
theorem nls_len : ∀ l : List UInt8, (nls l).length ≤ l.length + 1
  | [] => by simp [nls]
  | c :: l => by
    have := nls_len l
    unfold nls
    split
    · simp; omega
    · split
      · simp
      · rename_i h; rw [h] at this; simp at this ⊢; omega
theorem split_nls : ∀ (n : Nat) (l : List UInt8), l.length ≤ n → Lib.split l [10] = nls l
  | n, l, hn => by
    rcases Int.lt_or_le (Lib.indexByte l 10) 0 with hx | hx
    · have hm : Lib.indexByte l 10 = -1 := by have := Lib.indexByte_ge l 10; omega
      rw [nls_none (Lib.indexByte_none hm)]
      unfold Lib.split
      rw [Lib.count_miss (by rw [Lib.index_one]; exact hm)]
      rfl
    · obtain ⟨i, hi⟩ : ∃ i : Nat, Lib.indexByte l 10 = i := ⟨(Lib.indexByte l 10).toNat, by omega⟩
      obtain ⟨h1, h2⟩ := Lib.indexByte_some hi
      rw [nls_hit h1 h2]
      have hx2 : Lib.index l [10] = i := by rw [Lib.index_one]; exact hi
      have hl := (List.getElem?_eq_some_iff.1 h1).1
      match n, hn with
      | 0, hn => omega
      | n + 1, hn =>
        have ih := split_nls n (l.drop (i + 1)) (by rw [List.length_drop]; omega)
        unfold Lib.split at ih ⊢
        rw [Lib.count_hit (by simp) hx2]
        rw [show 1 + Lib.count (l.drop (i + [(10 : UInt8)].length)) [10] = Lib.count (l.drop (i + 1)) [10] + 1 by rw [Nat.add_comm]; rfl]
        unfold Lib.splitK
        rw [if_neg (by rw [hx2]; simp), hx2]
        simp only [Int.toNat_natCast, Nat.add_zero, List.length_singleton]
        rw [ih]
theorem count_nls : ∀ (n : Nat) (l : List UInt8), l.length ≤ n → (nls l).length = Lib.count l [10] + 1
  | n, l, hn => by
    rcases Int.lt_or_le (Lib.indexByte l 10) 0 with hx | hx
    · have hm : Lib.indexByte l 10 = -1 := by have := Lib.indexByte_ge l 10; omega
      rw [nls_none (Lib.indexByte_none hm), Lib.count_miss (by rw [Lib.index_one]; exact hm)]
      rfl
    · obtain ⟨i, hi⟩ : ∃ i : Nat, Lib.indexByte l 10 = i := ⟨(Lib.indexByte l 10).toNat, by omega⟩
      obtain ⟨h1, h2⟩ := Lib.indexByte_some hi
      rw [nls_hit h1 h2]
      have hx2 : Lib.index l [10] = i := by rw [Lib.index_one]; exact hi
      have hl := (List.getElem?_eq_some_iff.1 h1).1
      match n, hn with
      | 0, hn => omega
      | n + 1, hn =>
        have ih := count_nls n (l.drop (i + 1)) (by rw [List.length_drop]; omega)
        rw [Lib.count_hit (by simp) hx2, List.length_cons, ih]
        show Lib.count (l.drop (i + 1)) [10] + 1 + 1 = 1 + Lib.count (l.drop (i + 1)) [10] + 1
        omega
theorem splitB_nls (s : ByteArray) : (Lib.splitB ⟨#[10]⟩ 0 (Lib.countB s ⟨#[10]⟩) s).map (·.data.toList) = nls s.data.toList := by
  rw [Lib.splitB_data]
  exact split_nls _ _ (Nat.le_refl _)
theorem splitB_len (s : ByteArray) : (Lib.splitB ⟨#[10]⟩ 0 (Lib.countB s ⟨#[10]⟩) s).length = Lib.countB s ⟨#[10]⟩ + 1 := by
  have h := congrArg List.length (splitB_nls s)
  rw [List.length_map, count_nls _ _ (Nat.le_refl _)] at h
  exact h
end Go.Proofs.YtanjcjnkppnhcaaGreatDoor
