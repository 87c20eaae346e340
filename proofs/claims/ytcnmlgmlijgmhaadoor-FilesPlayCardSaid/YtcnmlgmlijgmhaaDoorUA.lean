/-
  The document's rows of files: get, clash, used.
  The document's rows: appends.
  The document's rows: cut, put.
  The document's rows: an op laid.
  The document's disk: sync, power.
-/
import Derived.Test.YtcnmlgmlijgmhaaDoorSgA

namespace Go.Proofs.YtcnmlgmlijgmhaaDoor
open Go Go.RowKit Go.Shelf Go.Maps

/-- A file of the document's: path, bytes, mode, time, inode. -/
abbrev On := ByteArray × ByteArray × Int × Int × Int
def cN (o : On) : List Value := [.string o.1, .string o.2.1, .int .i64 o.2.2.1, .int .i64 o.2.2.2.1, .int .i64 o.2.2.2.2]
theorem cN_len (o : On) : (cN o).length = 5 := rfl
def on (x : ByteArray × FV) : On := (x.1, x.2.data, x.2.mode, x.2.time, x.2.inode)
theorem Ones.at_ {w : World} {A : Option Addr} {n c : Nat} {l : Tr} (h : Reads 5 cN w (.slice A n c) (l.map on)) {i : Nat} {p : ByteArray} {f : FV} (hi : l[i]? = some (p, f)) :
    ∃ ad : Addr, A = some ad ∧ w.cell? (ad.add (i * 5)) = some (.string p) ∧ w.cell? ⟨(ad.add (i * 5)).block, (ad.add (i * 5)).off + 1, none⟩ = some (.string f.data) ∧ w.cell? ⟨(ad.add (i * 5)).block, (ad.add (i * 5)).off + 2, none⟩ = some (.int .i64 f.mode) ∧
      w.cell? ⟨(ad.add (i * 5)).block, (ad.add (i * 5)).off + 3, none⟩ = some (.int .i64 f.time) ∧ w.cell? ⟨(ad.add (i * 5)).block, (ad.add (i * 5)).off + 4, none⟩ = some (.int .i64 f.inode) := by
  obtain ⟨ad, rfl, hc⟩ := h.at_ (i := i) (x := on (p, f)) (by rw [List.getElem?_map, hi]; rfl)
  exact ⟨ad, rfl, hc 0 _ rfl, hc 1 _ rfl, hc 2 _ rfl, hc 3 _ rfl, hc 4 _ rfl⟩
theorem ba_ne {a b : ByteArray} (h : a ≠ b) : (a.toList == b.toList) = false := by
  rw [beq_eq_false_iff_ne]
  exact fun e => h (by rw [ByteArray.toList_eq, ByteArray.toList_eq] at e; exact bytes_ext e)
/-- Where a path stands. -/
def idxT (T : Tr) (p : ByteArray) : Nat := T.findIdx fun x => decide (x.1 = p)
def idxV (T : Tr) (p : ByteArray) : Int := if idxT T p < T.length then (idxT T p : Int) else -1
theorem idx_at {T : Tr} {p : ByteArray} {i : Nat} {f : FV} (h : T[i]? = some (p, f)) (hb : ∀ j x, j < i → T[j]? = some x → x.1 ≠ p) : idxV T p = i ∧ getT T p = some f := by
  obtain ⟨hi, he⟩ := List.getElem?_eq_some_iff.1 h
  have h1 : idxT T p = i := by
    unfold idxT
    rw [List.findIdx_eq hi]
    refine ⟨by rw [he]; simp, fun j hj => ?_⟩
    have := hb j _ hj (List.getElem?_eq_getElem (by omega))
    simpa using this
  refine ⟨by unfold idxV; rw [h1, if_pos hi], ?_⟩
  unfold getT
  have : T.find? (fun x => decide (x.1 = p)) = some (p, f) := by
    rw [List.find?_eq_some_iff_getElem]
    exact ⟨by simp, i, hi, he, fun j hj => by have := hb j _ hj (List.getElem?_eq_getElem (by omega)); simpa using this⟩
  rw [this]; rfl
theorem idx_none {T : Tr} {p : ByteArray} (hb : ∀ (j : Nat) (x : ByteArray × FV), T[j]? = some x → x.1 ≠ p) : idxV T p = -1 ∧ getT T p = none := by
  have h0 : ∀ x ∈ T, ¬ decide (x.1 = p) = true := fun x hx => by
    obtain ⟨j, hj⟩ := List.getElem?_of_mem hx
    simpa using hb j x hj
  refine ⟨?_, ?_⟩
  · unfold idxV idxT
    rw [List.findIdx_eq_length_of_false (fun x hx => by simpa using h0 x hx), if_neg (by omega)]
  · unfold getT
    rw [List.find?_eq_none.2 h0]; rfl
theorem idx_cases (T : Tr) (p : ByteArray) : (∃ i f, T[i]? = some (p, f) ∧ idxV T p = (i : Nat) ∧ getT T p = some f) ∨ (idxV T p = -1 ∧ getT T p = none) := by
  by_cases h : idxT T p < T.length
  · left
    have h1 := List.findIdx_getElem (w := h)
    have he : (T[idxT T p]'h).1 = p := by unfold idxT; simpa using h1
    obtain ⟨⟨q, f⟩, hx⟩ : ∃ z, z = T[idxT T p]'h := ⟨_, rfl⟩
    rw [← hx] at he
    simp only at he
    subst he
    have hg : T[idxT T q]? = some (q, f) := by rw [List.getElem?_eq_getElem h, ← hx]
    have := idx_at hg (fun j x hj hx => by
      have := List.not_of_lt_findIdx hj
      obtain ⟨hj', rfl⟩ := List.getElem?_eq_some_iff.1 hx
      simpa using this)
    exact ⟨_, f, hg, this.1, this.2⟩
  · right
    refine idx_none fun j x hx e => h ?_
    have hm := List.mem_of_getElem? hx
    exact List.findIdx_lt_length_of_exists ⟨x, hm, by simp [e]⟩

set_option maxRecDepth 100000 in
set_option maxHeartbeats 4000000 in
theorem get_any (w : World) (v : Value) (T : Tr) (p : ByteArray) (h : Reads 5 cN w v (T.map on)) (hl : T.length ≤ 100000) :
    Calls Tryd.prog 44 #[v, .string p] w fun e w' => e = .returned (.int .i64 (idxV T p)) ∧ w = w' := by
  obtain ⟨A, c, rfl⟩ := h.form
  rw [List.length_map] at h ⊢
  have H := Lib.hid h
  clear h
  go_enter Tryd.func44, Tryd.ntmps44
  go_wp2_with fail
  go_loopw [5] (fun s5 wr => ∃ i : Nat, i ≤ T.length ∧ s5 = .int .i64 i ∧ Hid (wr = w) ∧ Hid (∀ j x, j < i → T[j]? = some x → x.1 ≠ p)) (fun s5 _ => T.length - (intOf s5).toNat)
  case atStart => exact ⟨0, Nat.zero_le _, rfl, Lib.hid rfl, Lib.hid (fun j x hj => by omega)⟩
  case round =>
    obtain ⟨i, hi, rfl, hw, hb⟩ := hrel
    obtain rfl := hw.out
    have i0 : (0 : Int) ≤ (i : Int) := Int.natCast_nonneg _
    by_cases hlt : i < T.length
    · have i1 : (i : Int) < (T.length : Int) := by omega
      obtain ⟨⟨q, f⟩, hx⟩ : ∃ x, T[i]? = some x := ⟨_, List.getElem?_eq_getElem hlt⟩
      obtain ⟨ad, rfl, k0, _, _, _, _⟩ := Ones.at_ H.out hx
      by_cases hq : q = p
      · subst hq
        have hqb : (q.toList == q.toList) = true := beq_self_eq_true _
        have HR := Lib.hid (idx_at hx hb.out).1
        clear hx
        go_wp2
        go_ret
        exact ⟨by rw [HR.out]; rfl, rfl⟩
      · have hqb := ba_ne hq
        have HB : Hid (∀ j x, j < i + 1 → T[j]? = some x → x.1 ≠ p) := Lib.hid fun j x hj hx2 => by
          by_cases e : j = i
          · subst e; rw [hx] at hx2; cases hx2; exact hq
          · exact hb.out j x (by omega) hx2
        clear hx hq
        go_wp2_with fail
        go_roundw
        case rel => exact ⟨i + 1, by omega, by go_num, Lib.hid trivial, HB⟩
        case measure => simp [intOf]; omega
    · have hie : i = T.length := by omega
      subst hie
      have HR := Lib.hid (idx_none (fun j x hx => hb.out j x (List.getElem?_eq_some_iff.1 hx).1 hx)).1
      go_wp2
      go_ret
      exact ⟨by rw [HR.out]; rfl, rfl⟩
theorem any_take {T : Tr} {q : ByteArray × FV → Bool} (h : ∀ (j : Nat) (x : ByteArray × FV), T[j]? = some x → q x = false) : T.any q = false := by
  rw [List.any_eq_false]
  intro x hx
  obtain ⟨j, hj⟩ := List.getElem?_of_mem hx
  simp [h j x hj]
set_option maxRecDepth 100000 in
set_option maxHeartbeats 4000000 in
theorem clash46_any (w : World) (v : Value) (T : Tr) (p but : ByteArray) (h : Reads 5 cN w v (T.map on)) (hl : T.length ≤ 100000) (hT : Short T) (hp : p.size ≤ 1000000) :
    Calls Tryd.prog 46 #[v, .string p, .string but] w fun e w' => e = .returned (.bool (T.any (badX but p))) ∧ w = w' := by
  obtain ⟨A, c, rfl⟩ := h.form
  rw [List.length_map] at h ⊢
  have H := Lib.hid h
  have HT := Lib.hid hT
  have HP := Lib.hid hp
  clear h hT hp
  go_enter Tryd.func46, Tryd.ntmps46
  go_wp2_with fail
  go_loopw [7] (fun s7 wr => ∃ i : Nat, i ≤ T.length ∧ s7 = .int .i64 i ∧ Hid (wr = w) ∧ Hid (∀ (j : Nat) (x : ByteArray × FV), j < i → T[j]? = some x → badX but p x = false)) (fun s7 _ => T.length - (intOf s7).toNat)
  case atStart => exact ⟨0, Nat.zero_le _, rfl, Lib.hid rfl, Lib.hid (fun j x hj => by omega)⟩
  case round =>
    obtain ⟨i, hi, rfl, hw, hb⟩ := hrel
    obtain rfl := hw.out
    have i0 : (0 : Int) ≤ (i : Int) := Int.natCast_nonneg _
    by_cases hlt : i < T.length
    · have i1 : (i : Int) < (T.length : Int) := by omega
      obtain ⟨⟨q, f⟩, hx⟩ : ∃ x, T[i]? = some x := ⟨_, List.getElem?_eq_getElem hlt⟩
      obtain ⟨ad, rfl, k0, _, _, _, _⟩ := Ones.at_ H.out hx
      have CL := Lib.hid (refClash_any q p wr (Nat.le_trans (HT.out _ (List.mem_of_getElem? hx)) (by show 1000 ≤ 1000000; omega)) HP.out)
      by_cases hq : q = but
      · subst hq
        have hqb : (q.toList == q.toList) = true := beq_self_eq_true _
        have HB : Hid (∀ (j : Nat) (x : ByteArray × FV), j < i + 1 → T[j]? = some x → badX q p x = false) := Lib.hid fun j x hj hx2 => by
          by_cases e : j = i
          · subst e; rw [hx] at hx2; cases hx2; simp [badX]
          · exact hb.out j x (by omega) hx2
        clear hx
        go_wp2_with fail
        go_roundw
        case rel => exact ⟨i + 1, by omega, by go_num, Lib.hid trivial, HB⟩
        case measure => simp [intOf]; omega
      · have hqb := ba_ne hq
        have hdq : decide (q = but) = false := decide_eq_false hq
        cases hcl : cls q.data.toList p.data.toList with
        | true =>
          rw [hcl] at CL
          have HR := Lib.hid (show T.any (badX but p) = true from List.any_eq_true.2 ⟨_, List.mem_of_getElem? hx, by unfold badX; rw [hdq, hcl]; rfl⟩)
          clear hx hq hdq hcl
          go_wp2_with (go_at_call 73; refine CL.out.mono ?_; rintro e w' ⟨rfl, rfl⟩)
          go_ret
          exact ⟨by rw [HR.out]; rfl, rfl⟩
        | false =>
          rw [hcl] at CL
          have HB : Hid (∀ (j : Nat) (x : ByteArray × FV), j < i + 1 → T[j]? = some x → badX but p x = false) := Lib.hid fun j x hj hx2 => by
            by_cases e : j = i
            · subst e; rw [hx] at hx2; cases hx2; unfold badX; rw [hcl]; simp
            · exact hb.out j x (by omega) hx2
          clear hx hq hdq hcl
          go_wp2_with (go_at_call 73; refine CL.out.mono ?_; rintro e w' ⟨rfl, rfl⟩)
          go_roundw
          case rel => exact ⟨i + 1, by omega, by go_num, Lib.hid trivial, HB⟩
          case measure => simp [intOf]; omega
    · have hie : i = T.length := by omega
      subst hie
      have HR := Lib.hid (show T.any (badX but p) = false from any_take fun j x hx => hb.out j x (List.getElem?_eq_some_iff.1 hx).1 hx)
      go_wp2
      go_ret
      exact ⟨by rw [HR.out]; rfl, rfl⟩
def usedN (T : Tr) (i : Nat) : Nat := usedV (T.take i)
theorem usedN_step {T : Tr} {i : Nat} {p : ByteArray} {f : FV} (h : T[i]? = some (p, f)) : usedN T (i + 1) = usedN T i + f.data.size := by
  unfold usedN usedV
  rw [List.take_add_one, h]
  simp
theorem usedN_le (T : Tr) (i : Nat) : usedN T i ≤ usedV T := by
  unfold usedN
  have e := congrArg usedV (List.take_append_drop i T)
  unfold usedV at e ⊢
  rw [List.map_append, List.sum_append] at e
  omega
set_option maxRecDepth 100000 in
set_option maxHeartbeats 4000000 in
theorem used54_any (w : World) (v : Value) (T : Tr) (h : Reads 5 cN w v (T.map on)) (hl : T.length ≤ 100000) (hu : usedV T ≤ 1000000000000) :
    Calls Tryd.prog 54 #[v] w fun e w' => e = .returned (.int .i64 (usedV T)) ∧ w = w' := by
  obtain ⟨A, c, rfl⟩ := h.form
  rw [List.length_map] at h ⊢
  have H := Lib.hid h
  have HU := Lib.hid hu
  clear h hu
  go_enter Tryd.func54, Tryd.ntmps54
  go_wp2_with fail
  go_loopw [3, 4] (fun s3 s4 wr => ∃ i : Nat, i ≤ T.length ∧ s4 = .int .i64 i ∧ s3 = .int .i64 (usedN T i : Nat) ∧ Hid (wr = w)) (fun _ s4 _ => T.length - (intOf s4).toNat)
  case atStart => exact ⟨0, Nat.zero_le _, rfl, rfl, Lib.hid rfl⟩
  case round =>
    obtain ⟨i, hi, rfl, rfl, hw⟩ := hrel
    obtain rfl := hw.out
    have i0 : (0 : Int) ≤ (i : Int) := Int.natCast_nonneg _
    by_cases hlt : i < T.length
    · have i1 : (i : Int) < (T.length : Int) := by omega
      obtain ⟨⟨q, f⟩, hx⟩ : ∃ x, T[i]? = some x := ⟨_, List.getElem?_eq_getElem hlt⟩
      obtain ⟨ad, rfl, k0, k1, _, _, _⟩ := Ones.at_ H.out hx
      have hst := usedN_step hx
      have hle := usedN_le T (i + 1)
      have hb1 : ((usedN T i : Nat) : Int) + (f.data.size : Int) ≤ 1000000000000 := by have := HU.out; omega
      obtain ⟨m, hm⟩ : ∃ m : Nat, m = usedN T i := ⟨_, rfl⟩
      rw [← hm] at hb1 ⊢
      have HS := Lib.hid (show usedN T (i + 1) = m + f.data.size by rw [hst, hm])
      clear hx hst hle hm
      go_wp2_with fail
      go_roundw
      case rel => exact ⟨i + 1, by omega, by go_num, by rw [HS.out]; go_num, Lib.hid trivial⟩
      case measure => simp [intOf]; omega
    · have hie : i = T.length := by omega
      subst hie
      have HR := Lib.hid (show usedN T T.length = usedV T by unfold usedN; rw [List.take_length])
      rw [HR.out]
      go_wp2
      go_ret
      exact ⟨rfl, rfl⟩
end Go.Proofs.YtcnmlgmlijgmhaaDoor

namespace Go.Proofs.YtcnmlgmlijgmhaaDoor
open Go Go.RowKit Go.Shelf Go.Maps

abbrev aN (o : On) : Array Value := #[.string o.1, .string o.2.1, .int .i64 o.2.2.1, .int .i64 o.2.2.2.1, .int .i64 o.2.2.2.2]
/-- A pending op of the document's. -/
abbrev Od := Int × On × ByteArray × ByteArray
def cD (o : Od) : List Value := [.int .i64 o.1, .string o.2.1.1, .string o.2.1.2.1, .int .i64 o.2.1.2.2.1, .int .i64 o.2.1.2.2.2.1, .int .i64 o.2.1.2.2.2.2, .string o.2.2.1, .string o.2.2.2]
theorem cD_len (o : Od) : (cD o).length = 8 := rfl
abbrev aD (o : Od) : Array Value := #[.int .i64 o.1, .string o.2.1.1, .string o.2.1.2.1, .int .i64 o.2.1.2.2.1, .int .i64 o.2.1.2.2.2.1, .int .i64 o.2.1.2.2.2.2, .string o.2.2.1, .string o.2.2.2]
theorem oneInfo : (Tryd.prog.info? 87).map (fun i => (i.zero, i.size, i.bytes)) = some (some (.agg #[.string ⟨#[]⟩, .string ⟨#[]⟩, .int .i64 0, .int .i64 0, .int .i64 0]), 5, 56) := by kernel_rfl
theorem cN_one (l : List On) : ∀ u ∈ l.flatMap cN, u.oneCell' = true := fun u hu => by
  obtain ⟨f, _, hf⟩ := List.mem_flatMap.1 hu
  simp [cN] at hf
  rcases hf with rfl | rfl | rfl | rfl | rfl <;> rfl
theorem run_append_ones (w : World) (ty : TypeId) (base : Nat) (v : Value) (xs ys : List On) (hown : w.ownsRow base 87 5 v xs.length (xs.flatMap cN)) (A : Option Addr) (m c : Nat) (h : Reads 5 cN w (.slice A m c) ys) (hl : xs.length + ys.length ≤ 1000000) (hbase : base ≤ w.heap.size) :
    ∃ A' c' w', (Builtin.append_ #[27, 27] ty #[v, .slice A m c]).run Tryd.prog w = .ok (.slice A' (xs ++ ys).length c') w' ∧ w'.ownsRow base 87 5 (.slice A' (xs ++ ys).length c') (xs ++ ys).length ((xs ++ ys).flatMap cN) ∧ Below base w w' ∧ w.grownBy w' v.ownBlock := by
  obtain ⟨i0, hi, hz0, hz1, hz2⟩ := info_parts oneInfo
  obtain ⟨hm, hmc, hcm⟩ := h.len
  cases A with
  | none =>
    obtain ⟨A', c', hv, h1, h2, h3, h4⟩ := h
    injection hv with e1 e2 e3
    subst e1; subst e3
    have hc := h3 rfl
    subst hc
    have hm0 : m = 0 := by omega
    subst hm0
    have : ys = [] := List.eq_nil_of_length_eq_zero (by omega)
    subst this
    obtain ⟨A', c', rfl⟩ := own_form hown
    have hr := run_append_owned_none (P := Tryd.prog) (w := w) base 27 ty 87 i0 5 Tryd.underlying27 hi _ _ _ hown
    rw [List.append_nil]
    exact ⟨A', c', w, hr, hown, Below.refl _ _, World.grownBy.refl _ _⟩
  | some ad =>
    obtain ⟨v', w', hr, ho, hg, _⟩ := run_append_own (P := Tryd.prog) w base 27 ty 87 i0 (.agg #[.string ⟨#[]⟩, .string ⟨#[]⟩, .int .i64 0, .int .i64 0, .int .i64 0]) 5 56 Tryd.underlying27 hi hz0 hz1 hz2 rfl (by decide) v xs.length (xs.flatMap cN) hown ad m c (ys.flatMap cN) (by rw [flat_len cN_len, hm]) (reads_flat cN_len (by decide) h) (cN_one ys) (by unfold maxLen; omega) (by omega) hbase
    have ho2 : w'.ownsRow base 87 5 v' (xs ++ ys).length ((xs ++ ys).flatMap cN) := by rw [List.length_append, List.flatMap_append, ← hm]; exact ho
    obtain ⟨A', c', rfl⟩ := own_form ho2
    exact ⟨A', c', w', hr, ho2, (Below.refl base w).grown hg hbase fun k hk => (hown.lt k hk).1, hg⟩
theorem wp_append_ones (w : World) {o : Oper} {a : Act} {K : Act → World → Prop} {Q : Exit → Act → World → Prop} (s x : Operand)
    (ho : o.op = .call { callee := .builtin .append, args := #[s, x], argTypes := #[27, 27] })
    (base : Nat) (v : Value) (xs ys : List On) (hs : a.eval s = v) (hown : w.ownsRow base 87 5 v xs.length (xs.flatMap cN)) (A : Option Addr) (m c : Nat) (hx : a.eval x = .slice A m c) (h : Reads 5 cN w (.slice A m c) ys) (hl : xs.length + ys.length ≤ 1000000) (hbase : base ≤ w.heap.size)
    (hk : ∀ A' c' w', w'.ownsRow base 87 5 (.slice A' (xs ++ ys).length c') (xs ++ ys).length ((xs ++ ys).flatMap cN) → Below base w w' → w.grownBy w' v.ownBlock → K (a.put o.dst (.slice A' (xs ++ ys).length c')) w') : o.wp Tryd.prog a w K Q := by
  obtain ⟨A', c', w', hr, h2, h3, h4⟩ := run_append_ones w o.type base v xs ys hown A m c h hl hbase
  unfold Oper.wp execOp
  simp only [ho, resolve, invoke, builtin, Sem.run_bind, Sem.run_pure, Result.andThen_ok, List.map_toArray, List.map_cons, List.map_nil, hs, hx, hr]
  exact hk A' c' w' h2 h3 h4
theorem wpList_append_ones (w : World) {ops : Array Oper} {rest : List Oper} {o : Oper} {a : Act} {Q : Exit → Act → World → Prop} (hgd : o.guard = none) (s x : Operand)
    (ho : o.op = .call { callee := .builtin .append, args := #[s, x], argTypes := #[27, 27] })
    (base : Nat) (v : Value) (xs ys : List On) (hs : a.eval s = v) (hown : w.ownsRow base 87 5 v xs.length (xs.flatMap cN)) (A : Option Addr) (m c : Nat) (hx : a.eval x = .slice A m c) (h : Reads 5 cN w (.slice A m c) ys) (hl : xs.length + ys.length ≤ 1000000) (hbase : base ≤ w.heap.size)
    (hk : ∀ A' c' w', w'.ownsRow base 87 5 (.slice A' (xs ++ ys).length c') (xs ++ ys).length ((xs ++ ys).flatMap cN) → Below base w w' → w.grownBy w' v.ownBlock → wpList Tryd.prog ops Q rest (a.put o.dst (.slice A' (xs ++ ys).length c')) w') : wpList Tryd.prog ops Q (o :: rest) a w :=
  wpList_plain hgd fun _ hK => wp_append_ones w s x ho base v xs ys hs hown A m c hx h hl hbase fun A' c' w' h2 h3 h4 => hK _ _ (hk A' c' w' h2 h3 h4)
theorem step_append_ones (w : World) {ops : Array Oper} {o : Oper} {a : Act} {K : Act → World → Prop} {Q : Exit → Act → World → Prop} {E : Prop} (hgd : o.guard = none) (s x : Operand)
    (ho : o.op = .call { callee := .builtin .append, args := #[s, x], argTypes := #[27, 27] })
    (base : Nat) (v : Value) (xs ys : List On) (hs : a.eval s = v) (hown : w.ownsRow base 87 5 v xs.length (xs.flatMap cN)) (A : Option Addr) (m c : Nat) (hx : a.eval x = .slice A m c) (h : Reads 5 cN w (.slice A m c) ys) (hl : xs.length + ys.length ≤ 1000000) (hbase : base ≤ w.heap.size) (n : Nat) (hn : n = (xs ++ ys).length)
    (hk : ∀ A' c' w', w'.ownsRow base 87 5 (.slice A' n c') (xs ++ ys).length ((xs ++ ys).flatMap cN) → Below base w w' → w.grownBy w' v.ownBlock → K (a.put o.dst (.slice A' n c')) w') :
    if Region.wanted o (yielded ops a.tmps) = true then Oper.wp Tryd.prog o a w K Q else E := by
  have hw : Region.wanted o (yielded ops a.tmps) = true := by simp [Region.wanted, hgd]
  subst hn
  rw [if_pos hw]
  exact wp_append_ones w s x ho base v xs ys hs hown A m c hx h hl hbase hk
theorem reads_one_ones {w : World} {g : Nat} (x : On) (z : Blk w g 87 (aN x)) : Reads 5 cN w (.slice (some ⟨g, 0, none⟩) 1 1) [x] := by
  refine ⟨some ⟨g, 0, none⟩, 1, rfl, Nat.le_refl _, by decide, by simp, fun ad hA i y hy j u hu => ?_⟩
  obtain rfl := Option.some.inj hA
  have hi : i = 0 := by
    have := (List.getElem?_eq_some_iff.1 hy).1
    simp at this
    exact this
  subst hi
  obtain rfl : x = y := by simpa using hy
  have hc : w.cell? ⟨g, j, none⟩ = (aN x)[j]? := z.cell j
  have he : (aN x)[j]? = (cN x)[j]? := by simp [cN, aN]
  cases j with
  | zero => unfold adr; rw [add_zero_addr]; exact hc.trans (he.trans hu)
  | succ j => unfold adr; rw [add_zero_addr]; exact (show w.cell? ⟨g, 0 * 5 + (j + 1), none⟩ = _ by rw [Nat.zero_mul, Nat.zero_add]; exact hc.trans (he.trans hu))
theorem own_made_ones (w : World) : (w.alloc (.cells #[] 87)).ownsRow w.heap.size 87 5 (.slice (some ⟨w.heap.size, 0, none⟩) 0 0) ([] : List On).length (([] : List On).flatMap cN) :=
  World.ownsRow_made w #[] 0 (Nat.le_refl _) (Nat.zero_le _) rfl
theorem odInfo : (Tryd.prog.info? 90).map (fun i => (i.zero, i.size, i.bytes)) = some (some (.agg #[.int .i64 0, .string ⟨#[]⟩, .string ⟨#[]⟩, .int .i64 0, .int .i64 0, .int .i64 0, .string ⟨#[]⟩, .string ⟨#[]⟩]), 8, 96) := by kernel_rfl
theorem cD_one (l : List Od) : ∀ u ∈ l.flatMap cD, u.oneCell' = true := fun u hu => by
  obtain ⟨f, _, hf⟩ := List.mem_flatMap.1 hu
  simp [cD] at hf
  rcases hf with rfl | rfl | rfl | rfl | rfl | rfl | rfl | rfl <;> rfl
theorem run_append_ods (w : World) (ty : TypeId) (base : Nat) (v : Value) (xs ys : List Od) (hown : w.ownsRow base 90 8 v xs.length (xs.flatMap cD)) (A : Option Addr) (m c : Nat) (h : Reads 8 cD w (.slice A m c) ys) (hl : xs.length + ys.length ≤ 1000000) (hbase : base ≤ w.heap.size) :
    ∃ A' c' w', (Builtin.append_ #[28, 28] ty #[v, .slice A m c]).run Tryd.prog w = .ok (.slice A' (xs ++ ys).length c') w' ∧ w'.ownsRow base 90 8 (.slice A' (xs ++ ys).length c') (xs ++ ys).length ((xs ++ ys).flatMap cD) ∧ Below base w w' ∧ w.grownBy w' v.ownBlock := by
  obtain ⟨i0, hi, hz0, hz1, hz2⟩ := info_parts odInfo
  obtain ⟨hm, hmc, hcm⟩ := h.len
  cases A with
  | none =>
    obtain ⟨A', c', hv, h1, h2, h3, h4⟩ := h
    injection hv with e1 e2 e3
    subst e1; subst e3
    have hc := h3 rfl
    subst hc
    have hm0 : m = 0 := by omega
    subst hm0
    have : ys = [] := List.eq_nil_of_length_eq_zero (by omega)
    subst this
    obtain ⟨A', c', rfl⟩ := own_form hown
    have hr := run_append_owned_none (P := Tryd.prog) (w := w) base 28 ty 90 i0 8 Tryd.underlying28 hi _ _ _ hown
    rw [List.append_nil]
    exact ⟨A', c', w, hr, hown, Below.refl _ _, World.grownBy.refl _ _⟩
  | some ad =>
    obtain ⟨v', w', hr, ho, hg, _⟩ := run_append_own (P := Tryd.prog) w base 28 ty 90 i0 (.agg #[.int .i64 0, .string ⟨#[]⟩, .string ⟨#[]⟩, .int .i64 0, .int .i64 0, .int .i64 0, .string ⟨#[]⟩, .string ⟨#[]⟩]) 8 96 Tryd.underlying28 hi hz0 hz1 hz2 rfl (by decide) v xs.length (xs.flatMap cD) hown ad m c (ys.flatMap cD) (by rw [flat_len cD_len, hm]) (reads_flat cD_len (by decide) h) (cD_one ys) (by unfold maxLen; omega) (by omega) hbase
    have ho2 : w'.ownsRow base 90 8 v' (xs ++ ys).length ((xs ++ ys).flatMap cD) := by rw [List.length_append, List.flatMap_append, ← hm]; exact ho
    obtain ⟨A', c', rfl⟩ := own_form ho2
    exact ⟨A', c', w', hr, ho2, (Below.refl base w).grown hg hbase fun k hk => (hown.lt k hk).1, hg⟩
theorem wp_append_ods (w : World) {o : Oper} {a : Act} {K : Act → World → Prop} {Q : Exit → Act → World → Prop} (s x : Operand)
    (ho : o.op = .call { callee := .builtin .append, args := #[s, x], argTypes := #[28, 28] })
    (base : Nat) (v : Value) (xs ys : List Od) (hs : a.eval s = v) (hown : w.ownsRow base 90 8 v xs.length (xs.flatMap cD)) (A : Option Addr) (m c : Nat) (hx : a.eval x = .slice A m c) (h : Reads 8 cD w (.slice A m c) ys) (hl : xs.length + ys.length ≤ 1000000) (hbase : base ≤ w.heap.size)
    (hk : ∀ A' c' w', w'.ownsRow base 90 8 (.slice A' (xs ++ ys).length c') (xs ++ ys).length ((xs ++ ys).flatMap cD) → Below base w w' → w.grownBy w' v.ownBlock → K (a.put o.dst (.slice A' (xs ++ ys).length c')) w') : o.wp Tryd.prog a w K Q := by
  obtain ⟨A', c', w', hr, h2, h3, h4⟩ := run_append_ods w o.type base v xs ys hown A m c h hl hbase
  unfold Oper.wp execOp
  simp only [ho, resolve, invoke, builtin, Sem.run_bind, Sem.run_pure, Result.andThen_ok, List.map_toArray, List.map_cons, List.map_nil, hs, hx, hr]
  exact hk A' c' w' h2 h3 h4
theorem wpList_append_ods (w : World) {ops : Array Oper} {rest : List Oper} {o : Oper} {a : Act} {Q : Exit → Act → World → Prop} (hgd : o.guard = none) (s x : Operand)
    (ho : o.op = .call { callee := .builtin .append, args := #[s, x], argTypes := #[28, 28] })
    (base : Nat) (v : Value) (xs ys : List Od) (hs : a.eval s = v) (hown : w.ownsRow base 90 8 v xs.length (xs.flatMap cD)) (A : Option Addr) (m c : Nat) (hx : a.eval x = .slice A m c) (h : Reads 8 cD w (.slice A m c) ys) (hl : xs.length + ys.length ≤ 1000000) (hbase : base ≤ w.heap.size)
    (hk : ∀ A' c' w', w'.ownsRow base 90 8 (.slice A' (xs ++ ys).length c') (xs ++ ys).length ((xs ++ ys).flatMap cD) → Below base w w' → w.grownBy w' v.ownBlock → wpList Tryd.prog ops Q rest (a.put o.dst (.slice A' (xs ++ ys).length c')) w') : wpList Tryd.prog ops Q (o :: rest) a w :=
  wpList_plain hgd fun _ hK => wp_append_ods w s x ho base v xs ys hs hown A m c hx h hl hbase fun A' c' w' h2 h3 h4 => hK _ _ (hk A' c' w' h2 h3 h4)
theorem step_append_ods (w : World) {ops : Array Oper} {o : Oper} {a : Act} {K : Act → World → Prop} {Q : Exit → Act → World → Prop} {E : Prop} (hgd : o.guard = none) (s x : Operand)
    (ho : o.op = .call { callee := .builtin .append, args := #[s, x], argTypes := #[28, 28] })
    (base : Nat) (v : Value) (xs ys : List Od) (hs : a.eval s = v) (hown : w.ownsRow base 90 8 v xs.length (xs.flatMap cD)) (A : Option Addr) (m c : Nat) (hx : a.eval x = .slice A m c) (h : Reads 8 cD w (.slice A m c) ys) (hl : xs.length + ys.length ≤ 1000000) (hbase : base ≤ w.heap.size) (n : Nat) (hn : n = (xs ++ ys).length)
    (hk : ∀ A' c' w', w'.ownsRow base 90 8 (.slice A' n c') (xs ++ ys).length ((xs ++ ys).flatMap cD) → Below base w w' → w.grownBy w' v.ownBlock → K (a.put o.dst (.slice A' n c')) w') :
    if Region.wanted o (yielded ops a.tmps) = true then Oper.wp Tryd.prog o a w K Q else E := by
  have hw : Region.wanted o (yielded ops a.tmps) = true := by simp [Region.wanted, hgd]
  subst hn
  rw [if_pos hw]
  exact wp_append_ods w s x ho base v xs ys hs hown A m c hx h hl hbase hk
theorem reads_one_ods {w : World} {g : Nat} (x : Od) (z : Blk w g 90 (aD x)) : Reads 8 cD w (.slice (some ⟨g, 0, none⟩) 1 1) [x] := by
  refine ⟨some ⟨g, 0, none⟩, 1, rfl, Nat.le_refl _, by decide, by simp, fun ad hA i y hy j u hu => ?_⟩
  obtain rfl := Option.some.inj hA
  have hi : i = 0 := by
    have := (List.getElem?_eq_some_iff.1 hy).1
    simp at this
    exact this
  subst hi
  obtain rfl : x = y := by simpa using hy
  have hc : w.cell? ⟨g, j, none⟩ = (aD x)[j]? := z.cell j
  have he : (aD x)[j]? = (cD x)[j]? := by simp [cD, aD]
  cases j with
  | zero => unfold adr; rw [add_zero_addr]; exact hc.trans (he.trans hu)
  | succ j => unfold adr; rw [add_zero_addr]; exact (show w.cell? ⟨g, 0 * 8 + (j + 1), none⟩ = _ by rw [Nat.zero_mul, Nat.zero_add]; exact hc.trans (he.trans hu))
theorem own_made_ods (w : World) : (w.alloc (.cells #[] 90)).ownsRow w.heap.size 90 8 (.slice (some ⟨w.heap.size, 0, none⟩) 0 0) ([] : List Od).length (([] : List Od).flatMap cD) :=
  World.ownsRow_made w #[] 0 (Nat.le_refl _) (Nat.zero_le _) rfl
end Go.Proofs.YtcnmlgmlijgmhaaDoor

namespace Go.Proofs.YtcnmlgmlijgmhaaDoor
open Go Go.RowKit Go.Shelf Go.Maps

abbrev OOwn (w : World) (B : Nat) (v : Value) (l : Tr) : Prop := w.ownsRow B 87 5 v l.length ((l.map on).flatMap cN)
theorem OOwn.reads {w : World} {B : Nat} {v : Value} {l : Tr} (h : OOwn w B v l) : Reads 5 cN w v (l.map on) := Reads.of_own cN_len (by rw [List.length_map]; exact h)
theorem delT_take {T : Tr} {i : Nat} {q p : ByteArray} {f : FV} (h : T[i]? = some (q, f)) : delT (T.take (i + 1)) p = delT (T.take i) p ++ (if q = p then [] else [(q, f)]) := by
  unfold delT
  rw [List.take_add_one, h, List.filter_append]
  by_cases e : q = p
  · simp [e]
  · simp [e]
theorem delT_len (T : Tr) (p : ByteArray) : (delT T p).length ≤ T.length := List.length_filter_le ..
set_option maxRecDepth 100000 in
set_option maxHeartbeats 4000000 in
theorem cut52_any (w : World) (v : Value) (T : Tr) (p : ByteArray) (h : Reads 5 cN w v (T.map on)) (hl : T.length ≤ 100000) :
    Calls Tryd.prog 52 #[v, .string p] w fun e w' => ∃ u, e = .returned u ∧ OOwn w' w.heap.size u (delT T p) ∧ Below w.heap.size w w' := by
  obtain ⟨A, c, rfl⟩ := h.form
  rw [List.length_map] at h ⊢
  have H := Lib.hid h
  clear h
  go_enter Tryd.func52, Tryd.ntmps52
  go_wp2_with fail
  go_loopw [5, 6] (fun s5 s6 wr => ∃ i : Nat, i ≤ T.length ∧ s6 = .int .i64 i ∧ Hid (OOwn wr w.heap.size s5 (delT (T.take i) p)) ∧ Hid (Below w.heap.size w wr)) (fun _ s6 _ => T.length - (intOf s6).toNat)
  case atStart => exact ⟨0, Nat.zero_le _, rfl, Lib.hid ⟨by simp [delT], .inl ⟨rfl, by simp [delT]⟩⟩, Lib.hid (Below.refl _ _)⟩
  case round =>
    obtain ⟨i, hi, rfl, hown, hb⟩ := hrel
    have i0 : (0 : Int) ≤ (i : Int) := Int.natCast_nonneg _
    by_cases hlt : i < T.length
    · have i1 : (i : Int) < (T.length : Int) := by omega
      obtain ⟨⟨q, f⟩, hx⟩ : ∃ x, T[i]? = some x := ⟨_, List.getElem?_eq_getElem hlt⟩
      obtain ⟨ad, rfl, k0, k1, k2, k3, k4⟩ := Ones.at_ (H.out.below hb.out) hx
      have hst := delT_take (p := p) hx
      by_cases hq : q = p
      · rw [if_pos hq, List.append_nil] at hst
        have HS := Lib.hid hst
        subst hq
        have hqb : (q.toList == q.toList) = true := beq_self_eq_true _
        clear hx hst
        go_wp2_with fail
        go_roundw
        case rel => exact ⟨i + 1, by omega, by go_num, Lib.hid (by rw [HS.out]; exact hown.out), hb⟩
        case measure => simp [intOf]; omega
      · rw [if_neg hq] at hst
        have HS := Lib.hid hst
        have hqb := ba_ne hq
        have O1 : (wr.alloc (.cells (aN (on (q, f))) 87)).ownsRow w.heap.size 87 5 u5 ((delT (T.take i) p).map on).length (((delT (T.take i) p).map on).flatMap cN) := (show wr.ownsRow w.heap.size 87 5 u5 _ _ by rw [List.length_map]; exact hown.out).alloc _
        have R1 := reads_one_ones (on (q, f)) (Blk.new wr 87 (aN (on (q, f))))
        have B1 := hb.out.alloc hb.out.size (.cells (aN (on (q, f))) 87)
        have hlen : ((delT (T.take i) p).map on).length + [on (q, f)].length ≤ 1000000 := by
          have := delT_len (T.take i) p
          rw [List.length_take] at this
          simp only [List.length_map, List.length_cons, List.length_nil]
          omega
        have S1 := B1.size
        clear hx hst hq
        go_wp2_with (at_builtin; refine wpList_append_ones _ rfl _ _ rfl w.heap.size _ _ [on (q, f)] rfl O1 _ 1 1 rfl R1 hlen S1 ?_; intro A2 c2 w2 o2 b2 g2; have HO := Lib.hid o2; have HB := Lib.hid (B1.trans b2); clear O1 R1 B1 S1 o2 b2 g2)
        go_roundw
        case rel =>
          refine ⟨i + 1, by omega, by go_num, Lib.hid ?_, HB⟩
          rw [HS.out]
          have := HO.out
          rw [show (delT (T.take i) p).map on ++ [on (q, f)] = (delT (T.take i) p ++ [(q, f)]).map on by simp] at this
          rw [List.length_map] at this
          show World.ownsRow _ _ _ _ _ _ _
          rw [show List.length (delT (T.take i) p) + 1 = List.length (delT (T.take i) p ++ [(q, f)]) by simp]
          exact this
        case measure => simp [intOf]; omega
    · have hie : i = T.length := by omega
      subst hie
      rw [List.take_length] at hown
      go_wp2
      go_ret
      exact ⟨_, rfl, hown.out, hb.out⟩
section
variable {α : Type} {k : Nat} {enc : α → List Value} {w : World} {A : Option Addr} {n c : Nat} {l : List α}
theorem Reads.front (h : Reads k enc w (.slice A n c) l) {i : Nat} (hi : i ≤ n) : Reads k enc w (.slice A i c) (l.take i) := by
  obtain ⟨hn, hnc, hcm⟩ := h.len
  obtain ⟨A', c', hv, h1, h2, h3, h4⟩ := h
  injection hv with e1 e2 e3
  subst e1; subst e3
  refine ⟨A, c, by rw [List.length_take, Nat.min_eq_left (by omega)], by rw [List.length_take]; omega, hcm, h3, fun ad ha j x hx => h4 ad ha j x ?_⟩
  rw [List.getElem?_take] at hx
  split at hx
  · exact hx
  · cases hx
theorem Reads.cut (h : Reads k enc w (.slice A n c) l) {i : Nat} (hi : i ≤ n) : Reads k enc w (.slice (if c = i then A else A.map (·.add (i * k))) (n - i) (c - i)) (l.drop i) := by
  obtain ⟨hn, hnc, hcm⟩ := h.len
  obtain ⟨A', c', hv, h1, h2, h3, h4⟩ := h
  injection hv with e1 e2 e3
  subst e1; subst e3
  refine ⟨_, c - i, by rw [List.length_drop, hn], by rw [List.length_drop]; omega, by omega, ?_, ?_⟩
  · intro hA
    by_cases hc : c = i
    · omega
    · rw [if_neg hc] at hA
      have : A = none := by cases A with | none => rfl | some a => simp at hA
      have := h3 this
      omega
  · intro ad ha j x hx u v hv
    rw [List.getElem?_drop] at hx
    have hj := (List.getElem?_eq_some_iff.1 hx).1
    by_cases hc : c = i
    · omega
    · rw [if_neg hc] at ha
      cases A with
      | none => simp at ha
      | some a =>
        simp at ha
        subst ha
        have := h4 a rfl (i + j) x hx u v hv
        rw [adr_flat] at this ⊢
        have e : (a.add (i * k)).add (j * k + u) = a.add ((i + j) * k + u) := by
          rw [Nat.add_mul, Nat.add_assoc]
          generalize i * k = p
          generalize j * k + u = q
          unfold Addr.add
          by_cases hp : p = 0
          · subst hp; simp
          · by_cases hq : q = 0
            · subst hq; simp [hp]
            · simp [hp, hq, Nat.add_assoc]
        rw [e]
        exact this
end

theorem less_before : ∀ a b : List UInt8, bytesBefore a b = Op.bytesLess a b
  | [], [] => rfl
  | [], _ :: _ => rfl
  | _ :: _, [] => rfl
  | a :: x, b :: y => by
    show (decide (a < b) || (a == b && bytesBefore x y)) = _
    rw [less_before x y]
    rfl
theorem less_total : ∀ a b : List UInt8, a ≠ b → Op.bytesLess a b = !(Op.bytesLess b a)
  | [], [], h => absurd rfl h
  | [], _ :: _, _ => rfl
  | _ :: _, [], _ => rfl
  | a :: x, b :: y, h => by
    rw [← less_before, ← less_before]
    show (decide (a < b) || (a == b && bytesBefore x y)) = !(decide (b < a) || (b == a && bytesBefore y x))
    by_cases e : a = b
    · subst e
      have hxy : x ≠ y := fun e => h (by rw [e])
      have ih := less_total x y hxy
      rw [← less_before, ← less_before] at ih
      have hn : ¬ a < a := fun h => by rw [UInt8.lt_iff_toNat_lt] at h; omega
      simp [hn, ih]
    · have e1 : (a == b) = false := by simpa using e
      have e2 : (b == a) = false := by simpa using Ne.symm e
      have hne : a.toNat ≠ b.toNat := fun h => e (UInt8.toNat_inj.1 h)
      rw [e1, e2]
      by_cases hl : a < b
      · have hl2 : ¬ b < a := by rw [UInt8.lt_iff_toNat_lt] at hl ⊢; omega
        simp [hl, hl2]
      · have hl2 : b < a := by rw [UInt8.lt_iff_toNat_lt] at hl ⊢; omega
        simp [hl, hl2]
/-- How far a put goes. -/
def insK (x : ByteArray) : Tr → Nat
  | [] => 0
  | y :: r => if Op.bytesLess y.1.toList x.toList then insK x r + 1 else 0
theorem insK_le (x : ByteArray) : ∀ T : Tr, insK x T ≤ T.length
  | [] => Nat.le_refl _
  | y :: r => by
    unfold insK
    have := insK_le x r
    split <;> simp <;> omega
theorem insT_at (p : ByteArray) (f : FV) : ∀ {T : Tr}, (∀ y ∈ T, y.1 ≠ p) → insT (p, f) T = T.take (insK p T) ++ (p, f) :: T.drop (insK p T)
  | [], _ => rfl
  | y :: r, h => by
    have hy : y.1.toList ≠ p.toList := fun e => h y (List.mem_cons_self ..) (by rw [ByteArray.toList_eq, ByteArray.toList_eq] at e; exact bytes_ext e)
    have hb : (kS p).before (kS y.1) = !(Op.bytesLess y.1.toList p.toList) := by
      rw [less_total _ _ hy, Bool.not_not]
      show bytesBefore p.data.toList y.1.data.toList = _
      rw [less_before, ByteArray.toList_eq, ByteArray.toList_eq]
    unfold insT insK
    rw [hb]
    cases hc : Op.bytesLess y.1.toList p.toList with
    | true => simp [insT_at p f (fun z hz => h z (List.mem_cons_of_mem _ hz))]
    | false => simp
theorem delT_ne {T : Tr} {p : ByteArray} : ∀ y ∈ delT T p, y.1 ≠ p := fun y hy => by simpa using (List.mem_filter.1 hy).2
theorem insK_step {p q : ByteArray} {g : FV} {U : Tr} {i : Nat} (hx : U[i]? = some (q, g)) : insK p (U.drop i) = if Op.bytesLess q.toList p.toList then insK p (U.drop (i + 1)) + 1 else 0 := by
  obtain ⟨hi, e⟩ := List.getElem?_eq_some_iff.1 hx
  rw [List.drop_eq_getElem_cons hi, e]
  rfl
abbrev aF (p : ByteArray) (f : FV) : Array Value := #[.string p, .string f.data, .int .i64 f.mode, .int .i64 f.time, .int .i64 f.inode]
set_option maxRecDepth 100000 in
set_option maxHeartbeats 4000000 in
theorem put50_any (w : World) (v : Value) (T : Tr) (p : ByteArray) (f : FV) (h : Reads 5 cN w v (T.map on)) (hl : T.length ≤ 100000) :
    Calls Tryd.prog 50 #[v, .agg (aF p f)] w fun e w' => ∃ u, e = .returned u ∧ OOwn w' w.heap.size u (putT T p f) ∧ Below w.heap.size w w' := by
  have h1 := h.alloc (.cells (aF p f) 87)
  have K1 := Lib.hid (Blk.new w 87 (aF p f))
  have c0 := K1.out.cell 0
  have B1 := Lib.hid ((Below.refl w.heap.size w).alloc (Nat.le_refl _) (.cells (aF p f) 87))
  have CT := Lib.hid (cut52_any _ v T p h1 hl)
  obtain ⟨X, hX⟩ : ∃ X, X = w.heap.size := ⟨_, rfl⟩
  clear h h1
  go_enter Tryd.func50, Tryd.ntmps50
  go_wp2_with (go_at_call 52; refine CT.out.mono ?_; rintro e w2 ⟨u, rfl, own, b2⟩; have HO := Lib.hid (ownsRow_base_a own (show w.heap.size ≤ _ by simp)); have B2 := Lib.hid (B1.out.trans (b2.mono B1.out.size)); have K2 := Lib.hid (K1.out.below b2 K1.out.lt); clear own b2 CT c0)
  obtain ⟨A, c, rfl⟩ := own_form HO.out
  obtain ⟨U, hU⟩ : ∃ U, U = delT T p := ⟨_, rfl⟩
  have hUl : U.length ≤ 100000 := by rw [hU]; exact Nat.le_trans (delT_len _ _) hl
  rw [← hU] at HO ⊢
  have HUU := Lib.hid hU
  clear hU hl
  have hlu : (U.length : Int) ≤ 100000 := by omega
  go_loopw [5] (fun s5 wr => ∃ i : Nat, i ≤ U.length ∧ s5 = .int .i64 i ∧ Hid (Below w2.heap.size w2 wr) ∧ Hid (i + insK p (U.drop i) = insK p U)) (fun s5 _ => U.length - (intOf s5).toNat)
  case atStart => exact ⟨0, Nat.zero_le _, rfl, Lib.hid (Below.refl _ _), Lib.hid (by simp)⟩
  case round =>
    obtain ⟨i, hi, rfl, hb, hk⟩ := hrel
    have i0 : (0 : Int) ≤ (i : Int) := Int.natCast_nonneg _
    go_upto_region 3 with fail
    go_cut [24] (fun s24 wx => ∃ g : Bool, s24 = .bool g ∧ Hid (Below w2.heap.size w2 wx) ∧ Hid (g = true → i < U.length ∧ i + 1 + insK p (U.drop (i + 1)) = insK p U) ∧ Hid (g = false → i = insK p U))
    case first =>
      by_cases hlt : i < U.length
      · have i1 : (i : Int) < (U.length : Int) := by omega
        obtain ⟨⟨q, g⟩, hx⟩ : ∃ x, U[i]? = some x := ⟨_, List.getElem?_eq_getElem hlt⟩
        obtain ⟨ad, rfl, k0, _, _, _, _⟩ := Ones.at_ ((OOwn.reads HO.out).below hb.out) hx
        have kp := (K2.out.below hb.out K2.out.lt).cell 0
        have hst := insK_step (p := p) hx
        obtain ⟨r, hr⟩ : ∃ r, r = Op.bytesLess q.toList p.toList := ⟨_, rfl⟩
        rw [← hr] at hst
        have HS := Lib.hid hst
        have HL := Lib.hid hlt
        clear hx hst hlt
        go_quiet (fail)
        rw [← hr]
        go_wp2_with fail
        go_meet
        refine ⟨r, rfl, Lib.hid (below_drewE hb.out _), Lib.hid fun e => ⟨HL.out, ?_⟩, Lib.hid fun e => ?_⟩
        · have h1 := HS.out
          have h2 := hk.out
          rw [e, if_pos rfl] at h1
          omega
        · have h1 := HS.out
          have h2 := hk.out
          rw [e, if_neg (by simp)] at h1
          omega
      · have hd : decide ((i : Int) < (U.length : Int)) = false := decide_eq_false (by omega)
        have hdn : ¬ (i : Int) < (U.length : Int) := by omega
        have HE := Lib.hid (show i = insK p U by have := hk.out; rw [List.drop_eq_nil_of_le (by omega)] at this; exact this)
        clear hlt
        go_quiet (fail)
        go_wp2_with fail
        go_meet
        exact ⟨false, rfl, Lib.hid (below_drewE hb.out _), Lib.hid (fun e => by cases e), Lib.hid fun _ => HE.out⟩
    obtain ⟨g, rfl, hb2, ht, hf⟩ := hcut
    cases g with
    | true =>
      have HT := Lib.hid (ht.out rfl)
      have hi9 : (i : Int) < 100000 := by have := HT.out.1; omega
      clear ht hf
      go_wp2_with fail
      go_roundw
      case rel => exact ⟨i + 1, by have := HT.out.1; omega, by go_num, hb2, Lib.hid HT.out.2⟩
      case measure => have := HT.out.1; simp [intOf]; omega
    | false =>
      have HE := Lib.hid (hf.out rfl)
      clear ht hf hk
      have hik : i ≤ U.length := by have := insK_le p U; have := HE.out; omega
      have hikz : (i : Int) ≤ (U.length : Int) := by omega
      have hWs := Lib.hid (show w.heap.size ≤ wc.heap.size from Nat.le_trans B2.out.size hb2.out.size)
      have BW := Lib.hid (B2.out.trans (hb2.out.mono B2.out.size))
      have KX := Lib.hid (K2.out.below hb2.out K2.out.lt)
      have OU := Lib.hid (show OOwn wc w.heap.size (.slice A U.length c) U from own_keep HO.out hb2.out)
      obtain ⟨X, hX2⟩ : ∃ X, X = w.heap.size := ⟨_, rfl⟩
      rw [← hX2] at KX ⊢
      have HXX := Lib.hid hX2
      clear hX2 hX hi
      go_upto_region 5 with fail
      generalize hwc : wc = wz at *
      clear hwc
      have hoc := own_len OU.out
      have hic : (i : Int) ≤ (c : Int) := by omega
      have huc : (U.length : Int) ≤ (c : Int) := by omega
      clear hoc
      have RU := (OOwn.reads OU.out)
      have RF : Reads 5 cN wz.drew (.slice A i c) ((U.take i).map on) := by
        have := Reads.front (n := U.length) RU hik
        rw [← List.map_take] at this
        exact this
      have hn1 : i = ([] ++ (U.take i).map on).length := by simp; omega
      have HN1 := Lib.hid hn1
      have hn2 : i + 1 = (([] ++ (U.take i).map on) ++ [on (p, f)]).length := by simp; omega
      have HN2 := Lib.hid hn2
      have Bz := Lib.hid (show Below wz.heap.size wz wz.drew from (Below.refl _ wz).drew)
      have Kd : Blk wz.drew X 87 (aF p f) := KX.out
      have ZZ := Lib.hid fun W (hx : Blk W X 87 (aF p f)) => (⟨hx.cell 0, hx.cell 1, hx.cell 2, hx.cell 3, hx.cell 4⟩ : W.cell? ⟨X, 0, none⟩ = some (.string p) ∧ W.cell? ⟨X, 1, none⟩ = some (.string f.data) ∧ W.cell? ⟨X, 2, none⟩ = some (.int .i64 f.mode) ∧ W.cell? ⟨X, 3, none⟩ = some (.int .i64 f.time) ∧ W.cell? ⟨X, 4, none⟩ = some (.int .i64 f.inode))
      have z0 := ZZ.out wz.drew Kd
      have Xl := Lib.hid (show X < wz.heap.size from KX.out.lt)
      -- the made row first, alone
      have Ba := Bz.out.alloc Bz.out.size (.cells #[] 87)
      have Oa := own_made_ones wz.drew
      have Ra := RF.alloc (.cells #[] 87)
      -- the made row, then the element
      have Bb := Ba.alloc Ba.size (.cells (aF p f) 87)
      have Ob := Oa.alloc (.cells (aF p f) 87)
      have Rb := Ra.alloc (.cells (aF p f) 87)
      -- the element, then the made row
      have Bs := Bz.out.alloc Bz.out.size (.cells (aF p f) 87)
      have Bc := Bs.alloc Bs.size (.cells #[] 87)
      have Oc : ((wz.drew.alloc (.cells (aF p f) 87)).alloc (.cells #[] 87)).ownsRow wz.heap.size 87 5 (.slice (some ⟨wz.heap.size + 1, 0, none⟩) 0 0) ([] : List On).length (([] : List On).flatMap cN) := by
        have := ownsRow_base_a (own_made_ones (wz.drew.alloc (.cells (aF p f) 87))) (show wz.heap.size ≤ _ by simp)
        simpa using this
      have Rc := (RF.alloc (.cells (aF p f) 87)).alloc (.cells #[] 87)
      have hl1 : ([] : List On).length + ((U.take i).map on).length ≤ 1000000 := by simp; omega
      have hl2 : ([] ++ (U.take i).map on).length + [on (p, f)].length ≤ 1000000 := by simp; omega
      have hsa := Ba.size
      have hsb := Bb.size
      have hsc := Bc.size
      have HRU := Lib.hid RU
      have HIK := Lib.hid hik
      clear hn1 hn2 RU RF hb2 Kd
      go_region_held3 (fun w' => w'.cell? ⟨X, 0, none⟩ = some (.string p) ∧ w'.cell? ⟨X, 1, none⟩ = some (.string f.data) ∧ w'.cell? ⟨X, 2, none⟩ = some (.int .i64 f.mode) ∧ w'.cell? ⟨X, 3, none⟩ = some (.int .i64 f.time) ∧ w'.cell? ⟨X, 4, none⟩ = some (.int .i64 f.inode))
        (first | exact z0 | exact z9 | exact z8 | exact ZZ.out _ (Blk.alloc KX.out _) | exact ZZ.out _ (Blk.alloc (Blk.alloc KX.out _) _) | exact ZZ.out _ (Blk.alloc k8 _))
        (first
          | (refine step_append_ones _ rfl _ _ rfl wz.heap.size (.slice (some ⟨wz.heap.size, 0, none⟩) 0 0) [] ((U.take i).map on) rfl Oa A i c rfl Ra hl1 hsa i HN1.out ?_; intro A8 c8 w8 o8' b8 g8; have B9 := (Ba.trans b8).alloc (Ba.trans b8).size (.cells (aF p f) 87); have k8 : Blk w8 X 87 (aF p f) := (show Blk (wz.drew.alloc (.cells #[] 87)) X 87 _ from Blk.alloc KX.out _).below b8 Xl.out; have z8 := ZZ.out w8 k8; have o8 := o8'.alloc (.cells (aF p f) 87); have r8 := reads_one_ones (on (p, f)) (Blk.new w8 87 (aF p f)); have s8 := B9.size)
          | (refine step_append_ones _ rfl _ _ rfl wz.heap.size (.slice (some ⟨wz.heap.size, 0, none⟩) 0 0) [] ((U.take i).map on) rfl Ob A i c rfl Rb hl1 hsb i HN1.out ?_; intro A8 c8 w8 o8 b8 g8; have B9 := Bb.trans b8; have k8 : Blk w8 X 87 (aF p f) := (show Blk ((wz.drew.alloc (.cells #[] 87)).alloc (.cells (aF p f) 87)) X 87 _ from Blk.alloc (Blk.alloc KX.out _) _).below b8 Xl.out; have z8 := ZZ.out w8 k8; have r8 : Reads 5 cN w8 (.slice (some ⟨wz.heap.size + 1, 0, none⟩) 1 1) [on (p, f)] := (by have := reads_one_ones (on (p, f)) ((Blk.new (wz.drew.alloc (.cells #[] 87)) 87 (aF p f)).grown g8 (by simp [Value.ownBlock])); simpa using this); have s8 := B9.size)
          | (refine step_append_ones _ rfl _ _ rfl wz.heap.size (.slice (some ⟨wz.heap.size + 1, 0, none⟩) 0 0) [] ((U.take i).map on) rfl Oc A i c rfl Rc hl1 hsc i HN1.out ?_; intro A8 c8 w8 o8 b8 g8; have B9 := Bc.trans b8; have k8 : Blk w8 X 87 (aF p f) := (show Blk ((wz.drew.alloc (.cells (aF p f) 87)).alloc (.cells #[] 87)) X 87 _ from Blk.alloc (Blk.alloc KX.out _) _).below b8 Xl.out; have z8 := ZZ.out w8 k8; have r8 : Reads 5 cN w8 (.slice (some ⟨wz.heap.size, 0, none⟩) 1 1) [on (p, f)] := reads_one_ones (on (p, f)) (((Blk.new wz.drew 87 (aF p f)).alloc (.cells #[] 87)).grown g8 (by simp [Value.ownBlock])); have s8 := B9.size)
          | (refine step_append_ones _ rfl _ _ rfl wz.heap.size _ ([] ++ (U.take i).map on) [on (p, f)] rfl o8 _ 1 1 rfl r8 hl2 s8 (i + 1) HN2.out ?_; intro A9 c9 w9 o9 b9 g9; have B10 := B9.trans b9; have z9 := ZZ.out w9 (KX.out.below B10 Xl.out)))
      all_goals
        have O9 := Lib.hid o9
        have RC := Reads.cut (n := U.length) (HRU.out.below B10) HIK.out
        rw [← List.map_drop] at RC
        obtain ⟨P, hP⟩ : ∃ P, (if c = i then A else Option.map (fun x => x.add (i * 5)) A) = P := ⟨_, rfl⟩
        rw [hP] at RC
        have hl3 : (([] ++ (U.take i).map on) ++ [on (p, f)]).length + ((U.drop i).map on).length ≤ 1000000 := by
          simp only [List.nil_append, List.length_append, List.length_map, List.length_take, List.length_drop, List.length_cons, List.length_nil]; omega
        have hs9 := B10.size
        have HB10 := Lib.hid B10
        clear o9 B10 o8 b8 g8 b9 g9 B9 k8 z8 r8 s8 z0 z9 Ba Bb Bs Bc Oa Ob Oc Ra Rb Rc hl1 hl2 hsa hsb hsc ZZ
        go_wp2_with (at_builtin; go_loud (refine wpList_append_ones _ rfl _ _ rfl wz.heap.size _ _ ((U.drop i).map on) rfl O9.out P (U.length - i) (c - i) rfl RC hl3 hs9 ?_; intro A10 c10 w10 o10 b10 g10; have O10 := Lib.hid o10; have B11 := Lib.hid (BW.out.trans ((HB10.out.trans b10).mono hWs.out)); clear o10 b10 g10))
        go_ret
        refine ⟨.slice A10 (i + (U.length - i + 1)) c10, rfl, ?_, B11.out⟩
        have e : putT T p f = U.take i ++ (p, f) :: U.drop i := by
          show insT (p, f) (delT T p) = _
          rw [← HUU.out, insT_at p f (by rw [HUU.out]; exact delT_ne), ← HE.out]
        have e2 : (([] ++ (U.take i).map on) ++ [on (p, f)]) ++ (U.drop i).map on = (U.take i ++ (p, f) :: U.drop i).map on := by simp
        have := O10.out
        rw [e2, List.length_map] at this
        have e3 : (U.take i ++ (p, f) :: U.drop i).length = i + (U.length - i + 1) := by
          rw [List.length_append, List.length_cons, List.length_take, List.length_drop]; have := HIK.out; omega
        rw [e, ← e3]
        exact ownsRow_base_a this hWs.out
end Go.Proofs.YtcnmlgmlijgmhaaDoor

namespace Go.Proofs.YtcnmlgmlijgmhaaDoor
open Go Go.RowKit Go.Shelf Go.Maps

theorem OOwn.below {w w' : World} {B : Nat} {v : Value} {l : Tr} (h : OOwn w B v l) (hb : Below w.heap.size w w') : OOwn w' B v l := own_keep h hb
theorem OOwn.base {w : World} {B B' : Nat} {v : Value} {l : Tr} (h : OOwn w B v l) (hb : B' ≤ B) : OOwn w B' v l := ownsRow_base_a h hb
abbrev e0 : ByteArray := ⟨#[]⟩
set_option maxRecDepth 100000 in
set_option maxHeartbeats 4000000 in
theorem laid_1 (w : World) (B : Nat) (v : Value) (T : Tr) (p : ByteArray) (f : FV) (h : OOwn w B v T) (hB : B ≤ w.heap.size) (hl : T.length ≤ 100000) (hT : Short T) (hp : p.size ≤ 1000) :
    Calls Tryd.prog 70 #[v, .agg #[.int .i64 1, .string p, .string f.data, .int .i64 f.mode, .int .i64 f.time, .int .i64 f.inode, .string e0, .string e0]] w fun e w' => ∃ u, e = .returned u ∧ OOwn w' B u (if T.any (badX p p) then T else putT T p f) ∧ Below w.heap.size w w' := by
  have h1 := h.alloc (.cells #[.int .i64 1, .string p, .string f.data, .int .i64 f.mode, .int .i64 f.time, .int .i64 f.inode, .string e0, .string e0] 90)
  have K1 := Blk.new w 90 #[.int .i64 1, .string p, .string f.data, .int .i64 f.mode, .int .i64 f.time, .int .i64 f.inode, .string e0, .string e0]
  have c0 := K1.cell 0
  have c1 := K1.cell 1
  have c2 := K1.cell 2
  have c3 := K1.cell 3
  have c4 := K1.cell 4
  have c5 := K1.cell 5
  have B1 := Lib.hid ((Below.refl w.heap.size w).alloc (Nat.le_refl _) (.cells #[.int .i64 1, .string p, .string f.data, .int .i64 f.mode, .int .i64 f.time, .int .i64 f.inode, .string e0, .string e0] 90))
  have CL := Lib.hid (clash46_any _ v T p p (OOwn.reads h1) hl hT (by omega))
  have PT := Lib.hid (put50_any _ v T p f (OOwn.reads h1) hl)
  have H1 := Lib.hid h1
  have HB := Lib.hid hB
  clear h h1 K1
  cases hc : T.any (badX p p) with
  | true =>
    rw [hc] at CL
    rw [if_pos rfl]
    clear hc
    go_enter Tryd.func70, Tryd.ntmps70
    go_wp2_with (go_at_call 46; refine CL.out.mono ?_; rintro e w' ⟨rfl, rfl⟩)
    go_ret
    exact ⟨_, rfl, H1.out, B1.out⟩
  | false =>
    rw [hc] at CL
    rw [if_neg (by simp)]
    clear hc
    go_enter Tryd.func70, Tryd.ntmps70
    go_wp2_with (first
      | (go_at_call 46; refine CL.out.mono ?_; rintro e w' ⟨rfl, rfl⟩)
      | (go_at_call 50; refine PT.out.mono ?_; rintro e w2 ⟨u, rfl, own, b2⟩; have HO := Lib.hid own; have B2 := Lib.hid (B1.out.trans (b2.mono B1.out.size)); clear own b2))
    go_ret
    exact ⟨_, rfl, HO.out.base (Nat.le_trans HB.out B1.out.size), B2.out⟩
set_option maxRecDepth 100000 in
set_option maxHeartbeats 4000000 in
theorem laid_3 (w : World) (B : Nat) (v : Value) (T : Tr) (fr : ByteArray) (h : OOwn w B v T) (hB : B ≤ w.heap.size) (hl : T.length ≤ 100000) :
    Calls Tryd.prog 70 #[v, .agg #[.int .i64 3, .string e0, .string e0, .int .i64 0, .int .i64 0, .int .i64 0, .string fr, .string e0]] w fun e w' => ∃ u, e = .returned u ∧ OOwn w' B u (delT T fr) ∧ Below w.heap.size w w' := by
  have h1 := h.alloc (.cells #[.int .i64 3, .string e0, .string e0, .int .i64 0, .int .i64 0, .int .i64 0, .string fr, .string e0] 90)
  have K1 := Blk.new w 90 #[.int .i64 3, .string e0, .string e0, .int .i64 0, .int .i64 0, .int .i64 0, .string fr, .string e0]
  have c0 := K1.cell 0
  have c6 := K1.cell 6
  have B1 := Lib.hid ((Below.refl w.heap.size w).alloc (Nat.le_refl _) (.cells #[.int .i64 3, .string e0, .string e0, .int .i64 0, .int .i64 0, .int .i64 0, .string fr, .string e0] 90))
  have CT := Lib.hid (cut52_any _ v T fr (OOwn.reads h1) hl)
  have HB := Lib.hid hB
  clear h h1 K1
  go_enter Tryd.func70, Tryd.ntmps70
  go_wp2_with (go_at_call 52; refine CT.out.mono ?_; rintro e w2 ⟨u, rfl, own, b2⟩; have HO := Lib.hid own; have B2 := Lib.hid (B1.out.trans (b2.mono B1.out.size)); clear own b2)
  go_ret
  exact ⟨_, rfl, HO.out.base (Nat.le_trans HB.out B1.out.size), B2.out⟩
/-- A rename, as the document lays it. -/
def renT (T : Tr) (fr q : ByteArray) : Tr := match getT T fr with
  | none => T
  | some f => if T.any (badX fr q) then T else putT (delT T fr) q f
set_option maxRecDepth 100000 in
set_option maxHeartbeats 4000000 in
theorem laid_2 (w : World) (B : Nat) (v : Value) (T : Tr) (fr q : ByteArray) (h : OOwn w B v T) (hB : B ≤ w.heap.size) (hl : T.length ≤ 100000) (hT : Short T) (hp : q.size ≤ 1000) :
    Calls Tryd.prog 70 #[v, .agg #[.int .i64 2, .string e0, .string e0, .int .i64 0, .int .i64 0, .int .i64 0, .string fr, .string q]] w fun e w' => ∃ u, e = .returned u ∧ OOwn w' B u (renT T fr q) ∧ Below w.heap.size w w' := by
  have h1 := h.alloc (.cells #[.int .i64 2, .string e0, .string e0, .int .i64 0, .int .i64 0, .int .i64 0, .string fr, .string q] 90)
  have K1 := Blk.new w 90 #[.int .i64 2, .string e0, .string e0, .int .i64 0, .int .i64 0, .int .i64 0, .string fr, .string q]
  have c0 := K1.cell 0
  have c6 := K1.cell 6
  have c7 := K1.cell 7
  have B1 := Lib.hid ((Below.refl w.heap.size w).alloc (Nat.le_refl _) (.cells #[.int .i64 2, .string e0, .string e0, .int .i64 0, .int .i64 0, .int .i64 0, .string fr, .string q] 90))
  have GT := get_any _ v T fr (OOwn.reads h1) hl
  have CL := Lib.hid (clash46_any _ v T q fr (OOwn.reads h1) hl hT (by omega))
  have H1 := Lib.hid h1
  have HB := Lib.hid hB
  have K1h := Lib.hid K1
  clear h K1
  unfold renT
  rcases idx_cases T fr with ⟨i, f, hx, hi, hg⟩ | ⟨hi, hg⟩
  · rw [hi] at GT
    rw [hg]
    have GT := Lib.hid GT
    have hi0 : (0 : Int) ≤ (i : Int) := Int.natCast_nonneg _
    have hil := (List.getElem?_eq_some_iff.1 hx).1
    have hi1 : (i : Int) < (T.length : Int) := by omega
    cases hc : T.any (badX fr q) with
    | true =>
      rw [hc] at CL
      show Calls _ _ _ _ fun e w' => ∃ u, e = .returned u ∧ OOwn w' B u T ∧ _
      clear hc hx hi hg h1
      go_enter Tryd.func70, Tryd.ntmps70
      go_wp2_with (first
        | (go_at_call 44; refine GT.out.mono ?_; rintro e w' ⟨rfl, rfl⟩)
        | (go_at_call 46; refine CL.out.mono ?_; rintro e w' ⟨rfl, rfl⟩))
      go_ret
      exact ⟨_, rfl, H1.out, B1.out⟩
    | false =>
      rw [hc] at CL
      show Calls _ _ _ _ fun e w' => ∃ u, e = .returned u ∧ OOwn w' B u (putT (delT T fr) q f) ∧ _
      obtain ⟨A, cap, rfl⟩ := own_form h1
      obtain ⟨ad, rfl, k0, k1, k2, k3, k4⟩ := Ones.at_ (show Reads 5 cN _ (.slice A T.length cap) (T.map on) from OOwn.reads h1) hx
      clear hc hx hi hg h1 hil
      go_enter Tryd.func70, Tryd.ntmps70
      go_upto_region 12 with (first
        | (go_at_call 44; refine GT.out.mono ?_; rintro e w' ⟨rfl, rfl⟩)
        | (go_at_call 46; refine CL.out.mono ?_; rintro e w' ⟨rfl, rfl⟩))
      have Y2 := Lib.hid (Blk.new (w.alloc (.cells #[.int .i64 2, .string e0, .string e0, .int .i64 0, .int .i64 0, .int .i64 0, .string fr, .string q] 90)) 87 (aF q f))
      have X2 := Lib.hid ((K1h.out).alloc (.cells (aF q f) 87))
      have O2 := Lib.hid (H1.out.alloc (.cells (aF q f) 87))
      have B2 := Lib.hid (B1.out.alloc B1.out.size (.cells (aF q f) 87))
      clear c0 c6 c7 k0 k1 k2 k3 k4 GT CL H1 K1h
      obtain ⟨X, hX⟩ : ∃ X, X = w.heap.size := ⟨_, rfl⟩
      obtain ⟨Y, hY⟩ : ∃ Y, Y = w.heap.size + 1 := ⟨_, rfl⟩
      have e2 : (w.alloc (.cells #[.int .i64 2, .string e0, .string e0, .int .i64 0, .int .i64 0, .int .i64 0, .string fr, .string q] 90)).heap.size = Y := by rw [hY]; simp
      rw [e2] at Y2
      generalize hW : (w.alloc (.cells #[.int .i64 2, .string e0, .string e0, .int .i64 0, .int .i64 0, .int .i64 0, .string fr, .string q] 90)).alloc (.cells (aF q f) 87) = W at *
      rw [← hX] at X2
      rw [← hY, ← hX]
      clear hX hY hW e2
      have CT := Lib.hid (cut52_any W.drew (.slice (some ad) T.length cap) T fr (OOwn.reads (show OOwn W.drew B _ T from O2.out)) hl)
      have PT := Lib.hid (fun (w5 : World) (u : Value) (ho : OOwn w5 W.drew.heap.size u (delT T fr)) => (show Calls Tryd.prog 50 #[u, .agg #[.string q, .string f.data, .int .i64 f.mode, .int .i64 f.time, .int .i64 f.inode]] w5 fun e w' => ∃ u', e = .returned u' ∧ OOwn w' w5.heap.size u' (putT (delT T fr) q f) ∧ Below w5.heap.size w5 w' from put50_any w5 u (delT T fr) q f (OOwn.reads ho) (Nat.le_trans (delT_len _ _) hl)))
      have ZZ := Lib.hid fun W (hx : Blk W X 90 #[.int .i64 2, .string e0, .string e0, .int .i64 0, .int .i64 0, .int .i64 0, .string fr, .string q]) (hy : Blk W Y 87 (aF q f)) => (⟨hx.cell 6, hy.cell 0, hy.cell 1, hy.cell 2, hy.cell 3, hy.cell 4⟩ : W.cell? ⟨X, 6, none⟩ = some (.string fr) ∧ W.cell? ⟨Y, 0, none⟩ = some (.string q) ∧ W.cell? ⟨Y, 1, none⟩ = some (.string f.data) ∧ W.cell? ⟨Y, 2, none⟩ = some (.int .i64 f.mode) ∧ W.cell? ⟨Y, 3, none⟩ = some (.int .i64 f.time) ∧ W.cell? ⟨Y, 4, none⟩ = some (.int .i64 f.inode))
      have z0 := ZZ.out W.drew X2.out Y2.out
      go_region_held3 (fun w' => w'.cell? ⟨X, 6, none⟩ = some (.string fr) ∧ w'.cell? ⟨Y, 0, none⟩ = some (.string q) ∧ w'.cell? ⟨Y, 1, none⟩ = some (.string f.data) ∧ w'.cell? ⟨Y, 2, none⟩ = some (.int .i64 f.mode) ∧ w'.cell? ⟨Y, 3, none⟩ = some (.int .i64 f.time) ∧ w'.cell? ⟨Y, 4, none⟩ = some (.int .i64 f.inode))
        (first | exact z0 | exact z6 | exact z5)
        (first
          | (go_at_call 50; go_loud ((with_reducible refine (PT.out w5 u5 o5).mono ?_); rintro e w6 ⟨u6, rfl, o6, b6⟩; have X6 := X5.below b6 X5.lt; have Y6 := Y5.below b6 Y5.lt; have z6 := ZZ.out w6 X6 Y6))
          | (go_at_call 52; (with_reducible refine CT.out.mono ?_); rintro e w5 ⟨u5, rfl, o5, b5⟩; have X5 := (show Blk W.drew X 90 _ from X2.out).below b5 X2.out.lt; have Y5 := (show Blk W.drew Y 87 _ from Y2.out).below b5 Y2.out.lt; have z5 := ZZ.out w5 X5 Y5))
      all_goals
        have HO := Lib.hid o6
        have B5 : Below W.heap.size W w5 := ⟨b5.os, b5.tape, b5.output, b5.size, b5.block⟩
        have B6 := Lib.hid (B2.out.trans ((B5.trans (b6.mono B5.size)).mono B2.out.size))
        have BS := Lib.hid (show B ≤ w5.heap.size from Nat.le_trans HB.out (Nat.le_trans B2.out.size B5.size))
        clear o5 o6 b5 b6 X5 Y5 X6 Y6 z0 z5 z6 B5
        go_wp2_with fail
        go_ret
        exact ⟨_, rfl, HO.out.base BS.out, B6.out⟩
  · rw [hi] at GT
    rw [hg]
    have GT := Lib.hid GT
    clear hi hg h1
    go_enter Tryd.func70, Tryd.ntmps70
    go_wp2_with (go_at_call 44; refine GT.out.mono ?_; rintro e w' ⟨rfl, rfl⟩)
    go_ret
    exact ⟨_, rfl, H1.out, B1.out⟩
end Go.Proofs.YtcnmlgmlijgmhaaDoor

namespace Go.Proofs.YtcnmlgmlijgmhaaDoor
open Go Go.RowKit Go.Shelf Go.Maps

/-- An op of the program's as the document has it. -/
def od (o : Ov) : Od := if o.1 = 0 then (1, (o.2.2.1, o.2.2.2.2.2.2, o.2.2.2.1, o.2.2.2.2.1, o.2.2.2.2.2.1), e0, e0) else if o.1 = 1 then (2, (e0, e0, 0, 0, 0), o.2.1, o.2.2.1) else (3, (e0, e0, 0, 0, 0), o.2.1, e0)
def stepO (T : Tr) (o : Ov) : Tr := if refO T o = 0 then doO T o else T
/-- An op that can be pending. -/
def okP (o : Ov) : Prop := okO o ∧ (o.1 = 0 → o.2.1 = e0) ∧ (o.1 = 1 → chk o.2.2.1.data.toList = 0)
theorem cls_self (a : List UInt8) : cls a a = false := by
  by_cases h : a = []
  · subst h; rfl
  · rw [cls_of h h, und_short h (by omega)]; rfl
theorem badX_self (p : ByteArray) (T : Tr) : T.any (badX e0 p) = T.any (badX p p) := by
  congr 1
  funext x
  unfold badX
  by_cases h1 : x.1 = e0
  · rw [h1, decide_eq_true rfl]
    have : cls e0.data.toList p.data.toList = false := rfl
    rw [this]
    simp
  · rw [decide_eq_false h1]
    by_cases h2 : x.1 = p
    · rw [h2, cls_self]; simp
    · rw [decide_eq_false h2]
theorem delT_absent {T : Tr} {p : ByteArray} (h : getT T p = none) : delT T p = T := by
  unfold delT
  rw [List.filter_eq_self]
  intro x hx
  have : ¬ x.1 = p := fun e => by
    have h2 := getT_isSome.2 (List.mem_map.2 ⟨x, hx, e⟩)
    rw [h] at h2; cases h2
  simpa using this
theorem laid_od (w : World) (B : Nat) (v : Value) (T : Tr) (o : Ov) (h : OOwn w B v T) (hB : B ≤ w.heap.size) (hl : T.length ≤ 100000) (hT : Short T) (ho : okP o) :
    Calls Tryd.prog 70 #[v, .agg (aD (od o))] w fun e w' => ∃ u, e = .returned u ∧ OOwn w' B u (stepO T o) ∧ Below w.heap.size w w' := by
  obtain ⟨k, fr, p, m, t, i, s⟩ := o
  obtain ⟨⟨hk, hf, hp⟩, h0, h1⟩ := ho
  dsimp only at hk hf hp h0 h1
  rcases hk with rfl | rfl | rfl
  · obtain rfl := h0 rfl
    have e : stepO T (0, e0, p, m, t, i, s) = if T.any (badX p p) then T else putT T p ⟨m, t, i, s⟩ := by
      unfold stepO
      rw [refO_put]
      unfold refV
      rw [badX_self]
      cases T.any (badX p p) <;> rfl
    rw [e]
    exact laid_1 w B v T p ⟨m, t, i, s⟩ h hB hl hT hp
  · have e : stepO T (1, fr, p, m, t, i, s) = renT T fr p := by
      unfold stepO refO doO renT refV
      cases hg : getT T fr with
      | none => simp
      | some f => cases T.any (badX fr p) <;> simp [h1 rfl]
    rw [e]
    exact laid_2 w B v T fr p h hB hl hT hp
  · have e : stepO T (2, fr, p, m, t, i, s) = delT T fr := by
      unfold stepO
      rw [refO_del]
      cases hg : getT T fr with
      | none => rw [delT_absent hg]; simp
      | some f => rfl
    rw [e]
    exact laid_3 w B v T fr h hB hl
/-- The document's disk in memory; K: what a row of keeps reads as. -/
structure DocIs (w : World) (B G : Nat) (K : Value → List Bool → Prop) (kv nv wv : Value) (left : Int) (kev : Value) (D : DK) : Prop where
  x : Blk w G 31 #[kv, nv, wv, .int .i64 D.q, .int .i64 D.now, .int .i64 D.ino, .bool D.off, .bool (decide (D.armed ≠ 0)), .int .i64 left, kev, .int .i64 D.ops]
  k : OOwn w B kv D.S
  n : OOwn w B nv D.T
  p : w.ownsRow B 90 8 wv D.ps.length ((D.ps.map od).flatMap cD)
  a : D.armed ≠ 0 → left = D.armed ∧ K kev D.ks
  lo : B ≤ G
theorem Ods.at_ {w : World} {A : Option Addr} {n c : Nat} {l : List Ov} (h : Reads 8 cD w (.slice A n c) (l.map od)) {i : Nat} {o : Ov} (hi : l[i]? = some o) :
    ∃ ad : Addr, A = some ad ∧ w.cell? (ad.add (i * 8)) = some (.int .i64 (od o).1) ∧ w.cell? ⟨(ad.add (i * 8)).block, (ad.add (i * 8)).off + 1, none⟩ = some (.string (od o).2.1.1) ∧ w.cell? ⟨(ad.add (i * 8)).block, (ad.add (i * 8)).off + 2, none⟩ = some (.string (od o).2.1.2.1) ∧
      w.cell? ⟨(ad.add (i * 8)).block, (ad.add (i * 8)).off + 3, none⟩ = some (.int .i64 (od o).2.1.2.2.1) ∧ w.cell? ⟨(ad.add (i * 8)).block, (ad.add (i * 8)).off + 4, none⟩ = some (.int .i64 (od o).2.1.2.2.2.1) ∧ w.cell? ⟨(ad.add (i * 8)).block, (ad.add (i * 8)).off + 5, none⟩ = some (.int .i64 (od o).2.1.2.2.2.2) ∧
      w.cell? ⟨(ad.add (i * 8)).block, (ad.add (i * 8)).off + 6, none⟩ = some (.string (od o).2.2.1) ∧ w.cell? ⟨(ad.add (i * 8)).block, (ad.add (i * 8)).off + 7, none⟩ = some (.string (od o).2.2.2) := by
  obtain ⟨ad, rfl, hc⟩ := h.at_ (i := i) (x := od o) (by rw [List.getElem?_map, hi]; rfl)
  exact ⟨ad, rfl, hc 0 _ rfl, hc 1 _ rfl, hc 2 _ rfl, hc 3 _ rfl, hc 4 _ rfl, hc 5 _ rfl, hc 6 _ rfl, hc 7 _ rfl⟩
section
variable {w w' : World} {B G : Nat} {K : Value → List Bool → Prop} {kv nv wv kev : Value} {left : Int} {D : DK}
theorem DocIs.reads (h : DocIs w B G K kv nv wv left kev D) : Reads 8 cD w wv (D.ps.map od) := Reads.of_own cD_len (by rw [List.length_map]; exact h.p)
theorem DocIs.below (h : DocIs w B G K kv nv wv left kev D) (hb : Below w.heap.size w w') : DocIs w' B G K kv nv wv left kev D := ⟨h.x.below hb h.x.lt, h.k.below hb, h.n.below hb, own_keep h.p hb, h.a, h.lo⟩
theorem row_far {e : TypeId} {k n : Nat} {v : Value} {xs : List Value} (h : w.ownsRow B e k v n xs) {cs : Array Value} (hg : Blk w G 31 cs) (he : e ≠ 31) (j : Nat) (u : Value) : (w.setCell ⟨G, j, none⟩ u).ownsRow B e k v n xs := h.kept (grown_cellF w G j u) (Or.inr (own_blk_ne h hg he))
end
theorem Turns.one {w w' : World} {G : Nat} (h : Below w.heap.size w w') : Turns w w' (fun k => k = G) := Turns.of_below h
theorem Turns.cell (w : World) (G j : Nat) (u : Value) : Turns w (w.setCell ⟨G, j, none⟩ u) (fun k => k = G) := Turns.of_grown (grown_cellF w G j u) rfl
set_option maxRecDepth 100000 in
set_option maxHeartbeats 2000000 in
theorem dsync_any {w : World} {B G : Nat} {K : Value → List Bool → Prop} {kv nv wv kev : Value} {left : Int} {D : DK} (h : DocIs w B G K kv nv wv left kev D) :
    Calls Tryd.prog 48 #[.pointer (some ⟨G, 0, none⟩)] w fun e w' => e = .returned (.tuple #[]) ∧ DocIs w' B G K nv nv (.slice none 0 0) left kev { D with S := D.T, ps := [] } ∧ Turns w w' (fun k => k = G) := by
  obtain ⟨An, cn, rfl⟩ := own_form h.n
  obtain ⟨nv, hnv⟩ : ∃ v, v = Value.slice An D.T.length cn := ⟨_, rfl⟩
  have c1 := h.x.cell 1
  have c0 := h.x.cell 0
  have f0 := h.x.frozen 0
  have c2 := h.x.cell 2
  have f2 := h.x.frozen 2
  have H := Lib.hid h
  clear h
  go_enter Tryd.func48, Tryd.ntmps48
  go_wp2
  rw [← hnv] at H ⊢
  have x1 := H.out.x.set_ 0 nv
  refine ⟨rfl, _, (by first | rfl | kernel_rfl), rfl, ⟨?_, ?_, ?_, ⟨by simp, .inl ⟨rfl, rfl⟩⟩, H.out.a, H.out.lo⟩, (Turns.cell _ _ _ _).trans (Turns.cell _ _ _ _)⟩
  · simpa using x1.set_ 2 (.slice none 0 0)
  · exact row_far (row_far H.out.n H.out.x (by decide) 0 nv) x1 (by decide) 2 _
  · exact row_far (row_far H.out.n H.out.x (by decide) 0 nv) x1 (by decide) 2 _
/-- The same, whatever it is armed with. -/
structure DocB (w : World) (B G : Nat) (kv nv wv : Value) (left : Int) (kev : Value) (D : DK) : Prop where
  x : Blk w G 31 #[kv, nv, wv, .int .i64 D.q, .int .i64 D.now, .int .i64 D.ino, .bool D.off, .bool (decide (D.armed ≠ 0)), .int .i64 left, kev, .int .i64 D.ops]
  k : OOwn w B kv D.S
  n : OOwn w B nv D.T
  p : w.ownsRow B 90 8 wv D.ps.length ((D.ps.map od).flatMap cD)
  lo : B ≤ G
theorem DocIs.b {w : World} {B G : Nat} {K : Value → List Bool → Prop} {kv nv wv kev : Value} {left : Int} {D : DK} (h : DocIs w B G K kv nv wv left kev D) : DocB w B G kv nv wv left kev D := ⟨h.x, h.k, h.n, h.p, h.lo⟩
theorem DocB.reads {w : World} {B G : Nat} {kv nv wv kev : Value} {left : Int} {D : DK} (h : DocB w B G kv nv wv left kev D) : Reads 8 cD w wv (D.ps.map od) := Reads.of_own cD_len (by rw [List.length_map]; exact h.p)
theorem DocB.below {w w' : World} {B G : Nat} {kv nv wv kev : Value} {left : Int} {D : DK} (h : DocB w B G kv nv wv left kev D) (hb : Below w.heap.size w w') : DocB w' B G kv nv wv left kev D := ⟨h.x.below hb h.x.lt, h.k.below hb, h.n.below hb, own_keep h.p hb, h.lo⟩
theorem DocB.setLeft {w : World} {B G : Nat} {kv nv wv kev : Value} {left : Int} {D : DK} (h : DocB w B G kv nv wv left kev D) (i : Int) : DocB (w.setCell ⟨G, 8, none⟩ (.int .i64 i)) B G kv nv wv i kev D :=
  ⟨by simpa using h.x.set_ 8 (.int .i64 i), row_far h.k h.x (by decide) 8 _, row_far h.n h.x (by decide) 8 _, row_far h.p h.x (by decide) 8 _, h.lo⟩
set_option maxRecDepth 100000 in
set_option maxHeartbeats 4000000 in
theorem power_any {w : World} {B G : Nat} {K : Value → List Bool → Prop} {kv nv wv kev : Value} {left : Int} {D : DK} (h : DocB w B G kv nv wv left kev D) (v : Value) (kl : List Bool) (hv : ∀ w', Turns w w' (fun k => k = G) → Reads 1 cB w' v kl) (hB : B ≤ w.heap.size) (hp : D.ps.length ≤ 1000) (hl : ∀ i, (cutN D.S D.ps kl i).length ≤ 100000) (hS : Short D.S) (ho : ∀ o ∈ D.ps, okP o) :
    Calls Tryd.prog 49 #[.pointer (some ⟨G, 0, none⟩), v] w fun e w' => ∃ kv', e = .returned (.tuple #[]) ∧ DocIs w' B G K kv' kv' (.slice none 0 0) left kev (cutD D kl) ∧ Turns w w' (fun k => k = G) := by
  obtain ⟨Ak, ck, rfl⟩ := own_form h.k
  obtain ⟨Aw, cw, rfl⟩ := own_form h.p
  obtain ⟨Av, cv, rfl⟩ := (hv w (Turns.refl _ _)).form
  have c0 := h.x.cell 0
  have H := Lib.hid h
  have HV := Lib.hid hv
  have HB := Lib.hid hB
  have HL := Lib.hid hl
  have SS := Lib.hid (fun i => Short.cut (ps := D.ps) hS (fun o h => (ho o h).1) kl i)
  have SO := Lib.hid ho
  have hpi : (D.ps.length : Int) ≤ 1000 := by omega
  clear h hv hB hl hS ho
  go_enter Tryd.func49, Tryd.ntmps49
  go_wp2_with fail
  go_loopw [4, 5] (fun s4 s5 wr => ∃ i : Nat, i ≤ D.ps.length ∧ s5 = .int .i64 i ∧ Hid (OOwn wr B s4 (cutN D.S D.ps kl i)) ∧ Hid (Below w.heap.size w wr)) (fun _ s5 _ => D.ps.length - (intOf s5).toNat)
  case atStart => exact ⟨0, Nat.zero_le _, rfl, Lib.hid H.out.k, Lib.hid (Below.refl _ _)⟩
  case round =>
    obtain ⟨i, hi, rfl, hown, hb⟩ := hrel
    have i0 : (0 : Int) ≤ (i : Int) := Int.natCast_nonneg _
    have HR := H.out.below hb.out
    have c2 := HR.x.cell 2
    by_cases hlt : i < D.ps.length
    · have i1 : (i : Int) < (D.ps.length : Int) := by omega
      obtain ⟨o, hx⟩ : ∃ o, D.ps[i]? = some o := ⟨_, List.getElem?_eq_getElem hlt⟩
      by_cases hk : i < kl.length
      · have hki : (i : Int) < (kl.length : Int) := by omega
        have hd : decide ((i : Int) < (kl.length : Int)) = true := decide_eq_true hki
        obtain ⟨kb, hkb⟩ : ∃ b, kl[i]? = some b := ⟨_, List.getElem?_eq_getElem hk⟩
        obtain ⟨ak, rfl, kc⟩ := Bools.at_ (HV.out wr (Turns.of_below hb.out)) hkb
        cases kb with
        | false =>
          have HC := Lib.hid (cutN_no (S := D.S) hx (ks := kl) (by rw [hkb]; rfl))
          clear hkb hx HR
          go_wp2_with fail
          go_roundw
          case rel => exact ⟨i + 1, by omega, by go_num, Lib.hid (by rw [HC.out]; exact hown.out), hb⟩
          case measure => simp [intOf]; omega
        | true =>
          have HC := Lib.hid (show cutN D.S D.ps kl (i + 1) = stepO (cutN D.S D.ps kl i) o by
            unfold stepO
            by_cases hr : refO (cutN D.S D.ps kl i) o = 0
            · rw [if_pos hr]; exact cutN_yes hx hkb hr
            · rw [if_neg hr]; exact cutN_ref hx hr)
          have hrd := HR.reads
          obtain ⟨ad, rfl, k0, k1, k2, k3, k4, k5, k6, k7⟩ := Ods.at_ (show Reads 8 cD wr (.slice Aw D.ps.length cw) (D.ps.map od) from hrd) hx
          have LD := laid_od wr B u4 (cutN D.S D.ps kl i) o hown.out (Nat.le_trans HB.out hb.out.size) (HL.out i) (SS.out i) (SO.out o (List.mem_of_getElem? hx))
          obtain ⟨d, hdd⟩ : ∃ d, d = od o := ⟨_, rfl⟩
          rw [← hdd] at k0 k1 k2 k3 k4 k5 k6 k7 LD
          have LD := Lib.hid LD
          clear hkb hx HR hrd hdd
          go_wp2_with (go_at_call 70; go_loud (refine LD.out.mono ?_; rintro e w2 ⟨u, rfl, own, b2⟩; have HO := Lib.hid own; have B2 := Lib.hid (hb.out.trans (b2.mono hb.out.size)); clear own b2))
          go_roundw
          case rel => exact ⟨i + 1, by omega, by go_num, Lib.hid (by rw [HC.out]; exact HO.out), B2⟩
          case measure => simp [intOf]; omega
      · have hd : decide ((i : Int) < (kl.length : Int)) = false := decide_eq_false (by omega)
        have hdn : ¬ (i : Int) < (kl.length : Int) := by omega
        have HC := Lib.hid (cutN_no (S := D.S) hx (ks := kl) (by rw [List.getElem?_eq_none (by omega)]; rfl))
        clear hk hx HR
        go_wp2_with fail
        go_roundw
        case rel => exact ⟨i + 1, by omega, by go_num, Lib.hid (by rw [HC.out]; exact hown.out), hb⟩
        case measure => simp [intOf]; omega
    · have hie : i = D.ps.length := by omega
      subst hie
      have hd : decide ((D.ps.length : Int) < (D.ps.length : Int)) = false := decide_eq_false (by omega)
      obtain ⟨Au, cu, rfl⟩ := own_form hown.out
      obtain ⟨uv, huv⟩ : ∃ v, v = Value.slice Au (cutN D.S D.ps kl D.ps.length).length cu := ⟨_, rfl⟩
      have HX := Lib.hid HR.x
      have c0' := HR.x.cell 0
      have c1' := HR.x.cell 1
      have c6' := HR.x.cell 6
      have c7' := HR.x.cell 7
      have f0 := HR.x.frozen 0
      have f1 := HR.x.frozen 1
      have f2 := HR.x.frozen 2
      have f6 := HR.x.frozen 6
      have f7 := HR.x.frozen 7
      clear HR
      go_wp2
      rw [← huv] at hown ⊢
      have x1 := HX.out.set_ 0 uv
      have x2 := x1.set_ 1 uv
      have x3 := x2.set_ 2 (.slice none 0 0)
      have x4 := x3.set_ 6 (.bool true)
      have o1 := row_far hown.out HX.out (by decide) 0 uv
      have o2 := row_far o1 x1 (by decide) 1 uv
      have o3 := row_far o2 x2 (by decide) 2 (.slice none 0 0)
      have o4 := row_far o3 x3 (by decide) 6 (.bool true)
      have o5 := row_far o4 x4 (by decide) 7 (.bool false)
      refine ⟨rfl, _, (by first | rfl | kernel_rfl), uv, rfl, ⟨?_, o5, o5, ⟨by simp [cutD], .inl ⟨rfl, rfl⟩⟩, fun h => absurd rfl h, H.out.lo⟩, (Turns.of_below hb.out).trans (((((Turns.cell _ _ _ _).trans (Turns.cell _ _ _ _)).trans (Turns.cell _ _ _ _)).trans (Turns.cell _ _ _ _)).trans (Turns.cell _ _ _ _))⟩
      simpa [cutD] using x4.set_ 7 (.bool false)
end Go.Proofs.YtcnmlgmlijgmhaaDoor
