/-
  (Row).Cut, (Row).Clear: a tree without a file, without what clashes with a path.
  plan: slices.Clone, slices.Contains, slices.ContainsFunc at texts; rising; unlike.
  appends of entries; slices.Clone of entries.
  slices.IndexFunc, slices.ContainsFunc at entries, over whatever closure with one captured thing.
  slices.DeleteFunc on entries of the call's own.
  index.compare, excludes; the closures of index.Put, Drop, (Entry).wrong.
  (Entry).excludes; the closures of index.Put, index.Drop, (Entry).wrong; index.without, index.Drop.
  slices.IndexFunc, slices.ContainsFunc at entries, over a bound method.
  What (Row).Check says of a tree, in plain words: the first file that may not be, and why.
  (Row).refuses: why a file can't follow the files of a row.
  (Entry).wrong: its closure; what is wrong with an entry by itself.
  (Entry).wrong behind other entries.
-/
import Derived.Test.YtdmmjfmjohliiaaGreatDoorG2
import Derived.Lib.SliceRun
import Derived.Test.YtdmmjfmjohliiaaGreatDoorG1
namespace Go.Proofs.YtdmmjfmjohliiaaGreatDoor
open Go Go.RowKit

def clearF (l : List Fl) (p : ByteArray) : List Fl := l.filter fun x => !cls x.1.data.toList p.data.toList
theorem clear_rise {l : List Fl} (hr : RiseF l) (p : ByteArray) : RiseF (clearF l p) := hr.filter _
theorem cut_eq (l : List Fl) (p : ByteArray) : (l.filter fun x => !decide (x.1 = p)) = cutF l p := by unfold cutF; congr 1; funext x; simp

def ReadTo (l : List Fl) (w : World) (e : Ending) (w' : World) : Prop := KeptTo w.heap.size w l e w'

set_option maxHeartbeats 1000000 in
theorem withoutF_any (w0 w : World) (B : Nat) (hb : Below B w0 w) (hB : B ≤ w.heap.size) (v : Value) (l : List Fl) (g : Nat) (c : Value) (p : Fl → Bool) (h : Reads 3 cF w v l) (hs : Sized l) (hl : l.length ≤ 100000)
    (eg : ∀ args w, (callFunc g args).run Tryz.prog w = .ok (.enter g args) w) (hp : PB B w0 g c p) :
    Calls Tryz.prog 82 #[v, .func (.func g) #[] #[c]] w (KeptTo B w0 (l.filter fun x => !p x)) := by
  have CL := Lib.hid (cloneF_any w v l h hl)
  have DL := Lib.hid fun W (hW : Below B w0 W) (hBW : B ≤ W.heap.size) u ho => deleteF_any w0 W B hW hBW u l g c p ho hs hl eg hp
  clear h hs hp
  go_enter Tryz.func82, Tryz.ntmps82
  go_wp2_with fail
  refine CL.out.mono ?_
  rintro e w1 ⟨u, rfl, ho, hb1⟩
  have HO := Lib.hid (own_base ho hB)
  have HB1 := Lib.hid (hb.trans (hb1.mono hB))
  have hs1 : B ≤ w1.heap.size := by have := hb1.size; omega
  clear ho hb1
  go_wp2_with fail
  refine (DL.out _ HB1.out hs1 _ HO.out).mono ?_
  rintro e w2 ⟨u2, rfl, hr2, hb2⟩
  have HR := Lib.hid hr2
  have HB2 := Lib.hid hb2
  clear hr2 hb2
  go_wp2_with fail
  go_ret
  exact ⟨_, rfl, HR.out, HB2.out⟩

set_option maxHeartbeats 1000000 in
theorem cut_any (w : World) (v : Value) (l : List Fl) (q : ByteArray) (h : Reads 3 cF w v l) (hs : Sized l) (hl : l.length ≤ 100000) :
    Calls Tryz.prog 37 #[v, .string q] w (ReadTo (cutF l q) w) := by
  obtain ⟨W1, hW1⟩ : ∃ W1, W1 = w.alloc (.cells #[.string q] 9) := ⟨_, rfl⟩
  have B1 : Below w.heap.size w W1 := by rw [hW1]; exact (Below.refl _ _).alloc (Nat.le_refl _) _
  have K1 : W1.cell? ⟨w.heap.size, 0, none⟩ = some (.string q) := by rw [hW1]; exact (cell_new_l w _ _).1
  have hsz : W1.heap.size = w.heap.size + 1 := by rw [hW1]; simp
  have WO := Lib.hid (withoutF_any W1 W1 W1.heap.size (Below.refl _ _) (Nat.le_refl _) v l 83 (.pointer (some ⟨w.heap.size, 0, none⟩)) (fun x => decide (x.1 = q)) (h.below B1) hs hl enters_cut (cut_pred W1 _ w.heap.size q K1 (by omega) (Nat.le_refl _)))
  rw [cut_eq] at WO
  have HB1 := Lib.hid B1
  have HW := Lib.hid hsz
  obtain ⟨A, c, rfl⟩ := h.form
  clear h hs K1 B1 hsz
  go_enter Tryz.func37, Tryz.ntmps37
  go_wp2_with fail
  rw [← hW1]
  clear hW1
  refine WO.out.mono ?_
  rintro e w2 ⟨u2, rfl, hr2, hb2⟩
  have HR := Lib.hid hr2
  have HB2 := Lib.hid (HB1.out.trans (hb2.mono HB1.out.size))
  clear hr2 hb2
  go_wp2_with fail
  go_ret
  exact ⟨_, rfl, HR.out, HB2.out⟩

set_option maxHeartbeats 1000000 in
theorem clear_any (w : World) (v : Value) (l : List Fl) (q : ByteArray) (h : Reads 3 cF w v l) (hs : Sized l) (hq : q.size ≤ 1000000) (hl : l.length ≤ 100000) :
    Calls Tryz.prog 66 #[v, .string q] w (ReadTo (clearF l q) w) := by
  obtain ⟨W1, hW1⟩ : ∃ W1, W1 = w.alloc (.cells #[.string q] 9) := ⟨_, rfl⟩
  have B1 : Below w.heap.size w W1 := by rw [hW1]; exact (Below.refl _ _).alloc (Nat.le_refl _) _
  have K1 : W1.cell? ⟨w.heap.size, 0, none⟩ = some (.string q) := by rw [hW1]; exact (cell_new_l w _ _).1
  have hsz : W1.heap.size = w.heap.size + 1 := by rw [hW1]; simp
  have WO := Lib.hid (withoutF_any W1 W1 W1.heap.size (Below.refl _ _) (Nat.le_refl _) v l 107 (.pointer (some ⟨w.heap.size, 0, none⟩)) (fun x => cls x.1.data.toList q.data.toList) (h.below B1) hs hl enters_clear (clear_pred W1 _ w.heap.size q hq K1 (by omega) (Nat.le_refl _)))
  have HB1 := Lib.hid B1
  have HW := Lib.hid hsz
  obtain ⟨A, c, rfl⟩ := h.form
  clear h hs K1 B1 hsz
  go_enter Tryz.func66, Tryz.ntmps66
  go_wp2_with fail
  rw [← hW1]
  clear hW1
  refine WO.out.mono ?_
  rintro e w2 ⟨u2, rfl, hr2, hb2⟩
  have HR := Lib.hid hr2
  have HB2 := Lib.hid (HB1.out.trans (hb2.mono HB1.out.size))
  clear hr2 hb2
  go_wp2_with fail
  go_ret
  exact ⟨_, rfl, HR.out, HB2.out⟩
end Go.Proofs.YtdmmjfmjohliiaaGreatDoor
namespace Go.Proofs.YtdmmjfmjohliiaaGreatDoor
open Go Go.RowKit

theorem strs_form {w : World} {v : Value} {l : List ByteArray} (h : Strs w v l) : ∃ A c, v = .slice A l.length c := by
  obtain ⟨A, c, hv, _⟩ := h
  exact ⟨_, _, hv⟩
theorem strs_len {w : World} {A : Option Addr} {n c : Nat} {l : List ByteArray} (h : Strs w (.slice A n c) l) : n = l.length ∧ n ≤ c ∧ c ≤ maxLen := by
  obtain ⟨A', c', hv, h1, h2, h3, _⟩ := h
  injection hv with e1 e2 e3
  subst e3
  exact ⟨e2, by omega, h2⟩

/-- Two rows of unlike types lie apart. -/
theorem own_ne {w : World} {B B' : Nat} {e e' : TypeId} {size size' : Nat} {v v' : Value} {n n' : Nat} {xs xs' : List Value} (h : w.ownsRow B e size v n xs) (h' : w.ownsRow B' e' size' v' n' xs') (hne : e ≠ e') : v.ownBlock = none ∨ v.ownBlock ≠ v'.ownBlock := by
  rcases h.2 with ⟨rfl, _⟩ | ⟨g, cap, cur, rfl, _, hg, _⟩
  · exact .inl rfl
  · right
    rcases h'.2 with ⟨rfl, _⟩ | ⟨g', cap', cur', rfl, _, hg', _⟩
    · simp [Value.ownBlock]
    · intro heq
      have : g = g' := by simpa [Value.ownBlock] using heq
      subst this
      rw [hg] at hg'
      injection hg' with hg'
      injection hg' with _ ht
      exact hne ht

set_option maxHeartbeats 2000000 in
theorem cloneS_any (w : World) (v : Value) (l : List ByteArray) (h : Strs w v l) (hl : l.length ≤ 100000) :
    Calls Tryz.prog 78 #[v] w (TextsTo l w) := by
  have q : ∀ (w : World) (a : Option Addr) (n c n' c' : Nat), (binOp .eql 25 (.slice a n c) (.slice none n' c')).run Tryz.prog w = .ok (.bool a.isNone) w := fun w a n c n' c' => Lib.run_eql_slice_nil w _ _ a n c n' c' Tryz.underlying25
  obtain ⟨A, c, rfl⟩ := strs_form h
  have HR := Lib.hid h
  cases A with
  | none =>
    have h0 : l = [] := by
      obtain ⟨A', c', hv, h1, h2, h3, _⟩ := h
      injection hv with e1 e2 e3
      subst e1; subst e3
      have := h3 rfl
      exact List.eq_nil_of_length_eq_zero (by omega)
    subst h0
    clear h
    go_enter Tryz.func78, Tryz.ntmps78
    go_wp2
    go_ret
    exact ⟨_, rfl, World.ownsRow_nil _ _ _ _, Below.refl _ _⟩
  | some ad =>
    have hm : w.heap.size ≤ (w.alloc (.cells #[] 9)).heap.size := by simp
    have hll : 0 + l.length ≤ 1000000 := by omega
    have O0 := Lib.hid (show (w.alloc (.cells #[] 9)).ownsRow w.heap.size 9 1 (.slice (some ⟨w.heap.size, 0, none⟩) 0 0) 0 (([] : List ByteArray).map Value.string) from World.ownsRow_made w #[] 0 (Nat.le_refl _) (Nat.zero_le _) rfl)
    clear h
    go_enter Tryz.func78, Tryz.ntmps78
    go_wp2_with (at_builtin; refine wpList_append_strs _ rfl _ _ rfl w.heap.size 0 _ [] l rfl O0.out _ _ _ rfl (HR.out.alloc _) hll hm ?_; intro A' m' c' w5 own5 b5 hg5)
    rw [List.nil_append, Nat.zero_add] at own5
    have O5 := Lib.hid own5
    have B5 := Lib.hid (Below.trans ((Below.refl _ _).alloc (Nat.le_refl _) (.cells #[] 9)) b5)
    clear own5 b5 hg5
    go_ret
    exact ⟨_, rfl, O5.out, B5.out⟩

def IdxS (l : List ByteArray) (p : ByteArray) (w : World) (e : Ending) (w' : World) : Prop := (∃ n : Int, e = .returned (.int .i64 n) ∧ hasP l p = decide (0 ≤ n)) ∧ SameW w' w
theorem hasP_no {l : List ByteArray} {p : ByteArray} (h : ∀ x ∈ l, ¬ p = x) : hasP l p = false := by
  cases hc : hasP l p with
  | false => rfl
  | true => exact absurd rfl (h p (hasP_iff.1 hc))
set_option maxHeartbeats 2000000 in
theorem indexS_any (w : World) (v : Value) (l : List ByteArray) (p : ByteArray) (h : Strs w v l) :
    Calls Tryz.prog 93 #[v, .string p] w (IdxS l p w) := by
  obtain ⟨A, c, rfl⟩ := strs_form h
  have hnm : l.length ≤ 9223372036854775807 := by have := strs_len h; unfold maxLen at this; omega
  have HO := Lib.hid h
  clear h
  go_enter Tryz.func93, Tryz.ntmps93
  go_wp2
  go_loopw [5, 8] (fun _ s8 wr => ∃ k : Nat, k ≤ l.length ∧ s8 = .int .i64 k ∧ Hid (∀ x ∈ l.take k, ¬ p = x) ∧ SameW wr w) (fun _ s8 _ => l.length - (intOf s8).toNat)
  case atStart => exact ⟨0, Nat.zero_le _, rfl, Lib.hid (fun x hx => by simp at hx), rfl⟩
  case round =>
    obtain ⟨k, hk, rfl, A1, hw⟩ := hrel
    unfold SameW at hw
    subst hw
    by_cases hlt : k < l.length
    · obtain ⟨ad, x, rfl, hx, c0⟩ := strs_at HO.out hlt
      have HT := Lib.hid (take_snoc hx)
      have HM := Lib.hid (List.mem_of_getElem? hx)
      have k0 : (0 : Int) ≤ (k : Int) := Int.natCast_nonneg _
      have k1 : (k : Int) < (l.length : Int) := by omega
      clear hx
      by_cases hp : p = x
      · subst hp
        go_wp2
        go_ret
        exact ⟨⟨_, rfl, by rw [hasP_iff.2 HM.out, decide_eq_true k0]⟩, rfl⟩
      · have HN := Lib.hid hp
        have e1 : ¬ p.toList = x.toList := fun e => hp (tl_eq e)
        have e1' : (p.toList == x.toList) = false := by simpa using e1
        clear hp
        go_wp2
        go_roundw
        case rel => exact ⟨k + 1, by omega, by go_num, Lib.hid (by
          rw [HT.out]
          intro y hm
          rcases List.mem_append.1 hm with hm | hm
          · exact A1.out y hm
          · rw [List.mem_singleton.1 hm]; exact HN.out), rfl⟩
        case measure => simp [intOf]; omega
    · obtain rfl : k = l.length := by omega
      have HH := Lib.hid (hasP_no (by have := A1.out; rw [List.take_length] at this; exact this))
      go_wp2
      go_ret
      exact ⟨⟨_, rfl, by rw [HH.out]; rfl⟩, rfl⟩
def BoolSame (b : Bool) (w : World) (e : Ending) (w' : World) : Prop := e = .returned (.bool b) ∧ SameW w' w
set_option maxHeartbeats 1000000 in
theorem containsS_any (w : World) (v : Value) (l : List ByteArray) (p : ByteArray) (h : Strs w v l) :
    Calls Tryz.prog 51 #[v, .string p] w (BoolSame (hasP l p) w) := by
  have S := Lib.hid (indexS_any w v l p h)
  obtain ⟨A, c, rfl⟩ := strs_form h
  clear h
  go_enter Tryz.func51, Tryz.ntmps51
  go_wp2_with fail
  refine S.out.mono ?_
  rintro e w' ⟨⟨n, rfl, hn⟩, hw⟩
  unfold SameW at hw
  subst hw
  have HN := Lib.hid hn
  clear hn
  by_cases h0 : 0 ≤ n
  · have HD := Lib.hid (HN.out.trans (decide_eq_true h0))
    go_wp2_with fail
    go_ret
    exact ⟨ret_b HD.out.symm, rfl⟩
  · go_wp2_with fail
    go_ret
    exact ⟨ret_b HN.out.symm, rfl⟩

/-- A closure that takes a text and has captured one thing: what it says, wherever all below B is as it was in w0. -/
def PBS (B : Nat) (w0 : World) (g : Nat) (c : Value) (p : ByteArray → Bool) : Prop :=
  ∀ (W : World) (x : ByteArray), Below B w0 W → x.size ≤ 1000000 → Calls Tryz.prog g #[.string x, c] W fun e w' => e = .returned (.bool (p x)) ∧ Below W.heap.size W w'
def IdxToS (p : ByteArray → Bool) (l : List ByteArray) (w : World) (e : Ending) (w' : World) : Prop :=
  ∃ n : Int, e = .returned (.int .i64 n) ∧ Below w.heap.size w w' ∧ l.any p = decide (0 ≤ n)
def SizedS (l : List ByteArray) : Prop := ∀ x ∈ l, x.size ≤ 1000000
set_option maxHeartbeats 2000000 in
theorem indexFS_any (w0 w : World) (B : Nat) (hb : Below B w0 w) (hB : B ≤ w.heap.size) (v : Value) (l : List ByteArray) (g : Nat) (c : Value) (p : ByteArray → Bool) (h : Strs w v l) (hs : SizedS l)
    (eg : ∀ args w, (callFunc g args).run Tryz.prog w = .ok (.enter g args) w) (hp : PBS B w0 g c p) :
    Calls Tryz.prog 94 #[v, .func (.func g) #[] #[c]] w (IdxToS p l w) := by
  obtain ⟨A, cap, rfl⟩ := strs_form h
  have hnm : l.length ≤ 9223372036854775807 := by have := strs_len h; unfold maxLen at this; omega
  have HO := Lib.hid h
  have HP := Lib.hid hp
  have HS := Lib.hid hs
  clear h hp hs
  go_enter Tryz.func94, Tryz.ntmps94
  go_wp2
  go_loopw [5, 8] (fun _ s8 wr => ∃ k : Nat, k ≤ l.length ∧ s8 = .int .i64 k ∧ Below w.heap.size w wr ∧ Hid ((l.take k).any p = false)) (fun _ s8 _ => l.length - (intOf s8).toNat)
  case atStart => exact ⟨0, Nat.zero_le _, rfl, Below.refl _ _, Lib.hid (by simp)⟩
  case round =>
    obtain ⟨k, hk, rfl, hb1, A1⟩ := hrel
    by_cases hlt : k < l.length
    · obtain ⟨ad, x, rfl, hx, c0⟩ := strs_at (HO.out.below hb1) hlt
      have hcall := HP.out wr x (hb.trans (hb1.mono hB)) (HS.out x (List.mem_of_getElem? hx))
      have HX := Lib.hid hx
      have HT : Hid (p x = false → (l.take (k + 1)).any p = false) := Lib.hid fun hq => by
        rw [take_snoc hx, List.any_append, A1.out]; simp [hq]
      have HY : Hid (p x = true → l.any p = true) := Lib.hid fun hq => List.any_eq_true.2 ⟨x, List.mem_of_getElem? hx, hq⟩
      have k0 : (0 : Int) ≤ (k : Int) := Int.natCast_nonneg _
      have k1 : (k : Int) < (l.length : Int) := by omega
      clear hx
      cases hq : p x with
      | true =>
        rw [hq] at hcall
        have HQ := Lib.hid hq
        clear hq
        go_wp2_with (go_at_fn g; refine hcall.mono ?_; rintro e w' ⟨rfl, hb2⟩)
        go_ret
        exact ⟨_, rfl, hb1.trans (hb2.mono hb1.size), by rw [HY.out HQ.out, decide_eq_true k0]⟩
      | false =>
        rw [hq] at hcall
        have HQ := Lib.hid hq
        clear hq
        go_wp2_with (go_at_fn g; refine hcall.mono ?_; rintro e w' ⟨rfl, hb2⟩)
        go_roundw
        case rel => exact ⟨k + 1, by omega, by go_num, hb1.trans (hb2.mono hb1.size), Lib.hid (HT.out HQ.out)⟩
        case measure => simp [intOf]; omega
    · obtain rfl : k = l.length := by omega
      go_wp2
      go_ret
      exact ⟨_, rfl, hb1, by have := A1.out; rw [List.take_length] at this; rw [this]; rfl⟩
set_option maxHeartbeats 1000000 in
theorem containsFS_any (w0 w : World) (B : Nat) (hb : Below B w0 w) (hB : B ≤ w.heap.size) (v : Value) (l : List ByteArray) (g : Nat) (c : Value) (p : ByteArray → Bool) (h : Strs w v l) (hs : SizedS l)
    (eg : ∀ args w, (callFunc g args).run Tryz.prog w = .ok (.enter g args) w) (hp : PBS B w0 g c p) :
    Calls Tryz.prog 53 #[v, .func (.func g) #[] #[c]] w (FlagTo (l.any p) w) := by
  have S := Lib.hid (indexFS_any w0 w B hb hB v l g c p h hs eg hp)
  obtain ⟨A, cap, rfl⟩ := strs_form h
  clear h hs hp
  go_enter Tryz.func53, Tryz.ntmps53
  go_wp2_with fail
  refine S.out.mono ?_
  rintro e w' ⟨n, rfl, hb1, hn⟩
  have HN := Lib.hid hn
  clear hn
  by_cases h0 : 0 ≤ n
  · have HD := Lib.hid (HN.out.trans (decide_eq_true h0))
    go_wp2_with fail
    go_ret
    exact ⟨ret_b HD.out.symm, hb1⟩
  · go_wp2_with fail
    go_ret
    exact ⟨ret_b HN.out.symm, hb1⟩
theorem enters_lost (args : Array Value) (w : World) : (callFunc 54 args).run Tryz.prog w = .ok (.enter 54 args) w := enters_of Tryz.func54 (by kernel_rfl) rfl args w
set_option maxHeartbeats 1000000 in
theorem lost_pred (w0 : World) (B b : Nat) (q : ByteArray) (hq : q.size ≤ 1000000) (hc : w0.cell? ⟨b, 0, none⟩ = some (.string q)) (hb : b < B) :
    PBS B w0 54 (.pointer (some ⟨b, 0, none⟩)) (fun x => cls x.data.toList q.data.toList) := by
  intro W x hW hx
  have c0 : W.cell? ⟨b, 0, none⟩ = some (.string q) := (hW.cell (p := ⟨b, 0, none⟩) hb).trans hc
  have CL := Lib.hid (clash_any x q W hx hq)
  clear hc hW hb hx
  go_enter Tryz.func54, Tryz.ntmps54
  go_wp2_with fail
  refine CL.out.mono ?_
  rintro e w' ⟨rfl, rfl⟩
  go_wp2_with fail
  go_ret
  exact ⟨rfl, Below.refl _ _⟩

set_option maxHeartbeats 1000000 in
theorem rising_own (w : World) (B : Nat) (v : Value) (ss : List ByteArray) (ho : w.ownsRow B 9 1 v ss.length (ss.map Value.string)) (hl : ss.length ≤ 100000) :
    Calls Tryz.prog 56 #[v] w (CompactedTo B ss w) := by
  have SO := Lib.hid (sort_own w B v ss ho (by omega))
  have CO := Lib.hid fun W (h : W.ownsRow B 9 1 v ss.length ((srt (ss.map bsOf)).map encStr)) => compact_own W B v ss.length ss h (by omega)
  obtain ⟨A, c, rfl⟩ := own_form ho
  clear ho
  go_enter Tryz.func56, Tryz.ntmps56
  go_wp2_with fail
  refine SO.out.mono ?_
  rintro e w2 ⟨rfl, ho2, hb2⟩
  have C2 := Lib.hid (CO.out w2 ho2)
  clear ho2
  go_wp2_with fail
  refine C2.out.mono ?_
  rintro e w3 ⟨u, rfl, ho3, hb3⟩
  have O3 := Lib.hid ho3
  have B3 := Lib.hid (hb2.trans hb3)
  clear ho3 hb2 hb3
  go_wp2_with fail
  go_ret
  exact ⟨_, rfl, O3.out, B3.out⟩

/-- Whether a file is not another, and there as well. -/
def unlB2 (x y : Fl) (p q : Bool) : Bool := (p != q) || !decide (x = y)
section
variable {x1 x3 y1 y3 : ByteArray} {x2 y2 : Int} (p : Bool)
theorem unlB2_yes (h1 : x1.toList = y1.toList) (h2 : x2 = y2) (h3 : x3.toList = y3.toList) : unlB2 (x1, x2, x3) (y1, y2, y3) p p = false := by
  obtain rfl := tl_eq h1
  obtain rfl := tl_eq h3
  subst h2
  simp [unlB2]
theorem unlB2_no {x y : Fl} (h : x ≠ y) : unlB2 x y p p = true := by simp [unlB2, h]
end
set_option maxHeartbeats 4000000 in
theorem punlike_core (w : World) (v u : Value) (s : ByteArray) (x y : Fl) (p q : Bool) (G1 : Hid (Calls Tryz.prog 23 #[v, .string s] w (GotB x p w))) (G2 : Hid (∀ W, Below w.heap.size w W → Calls Tryz.prog 23 #[u, .string s] W (GotB y q W))) :
    Calls Tryz.prog 52 #[v, u, .string s] w (FlagTo (unlB2 x y p q) w) := by
  obtain ⟨x1, x2, x3⟩ := x
  obtain ⟨y1, y2, y3⟩ := y
  go_enter Tryz.func52, Tryz.ntmps52
  go_wp2_with fail
  refine G1.out.mono ?_
  rintro e w1 ⟨rfl, b1⟩
  have b1' := b1.alloc b1.size (.cells #[.string x1, .int .i64 x2, .string x3] 56)
  go_wp2_with fail
  refine (G2.out _ b1').mono ?_
  rintro e w2 ⟨rfl, b2⟩
  have K1 := (b2.block w1.heap.size (by simp)).trans (heap_alloc_new w1 (.cells #[.string x1, .int .i64 x2, .string x3] 56))
  have hlt : w1.heap.size + 1 ≤ w2.heap.size := by simpa using b2.size
  have d0 : w2.cell? ⟨w1.heap.size, 0, none⟩ = some (.string x1) := cell_of_row w2 w1.heap.size 0 _ 56 (0, 0) K1
  have d1 : w2.cell? ⟨w1.heap.size, 1, none⟩ = some (.int .i64 x2) := cell_of_row w2 w1.heap.size 1 _ 56 (0, 0) K1
  have d2 : w2.cell? ⟨w1.heap.size, 2, none⟩ = some (.string x3) := cell_of_row w2 w1.heap.size 2 _ 56 (0, 0) K1
  have hb : Below w.heap.size w w2 := b1'.trans (b2.mono (by have := b1.size; simp; omega))
  have hb' := hb.alloc hb.size (.cells #[.string y1, .int .i64 y2, .string y3] 56)
  obtain ⟨g, hg⟩ : ∃ g, g = w1.heap.size := ⟨_, rfl⟩
  rw [← hg] at d0 d1 d2 hlt ⊢
  have HB := Lib.hid hb'
  have hcl : g < w2.heap.size := by omega
  clear K1 G1 G2 b1 b1' b2 hb hb' hg
  by_cases hpq : p = q
  · subst hpq
    by_cases h1 : x1 = y1
    · subst h1
      by_cases h2 : x2 = y2
      · subst h2
        by_cases h3 : x3 = y3
        · subst h3
          cases p <;>
          · go_wp2
            go_ret
            exact ⟨by simp [unlB2], HB.out⟩
        · have n3 : ¬ x3.toList = y3.toList := fun e => h3 (tl_eq e)
          have n3' : (x3.toList == y3.toList) = false := by simpa using n3
          have HV := Lib.hid (unlB2_no p (x := (x1, x2, x3)) (y := (x1, x2, y3)) (fun e => h3 (congrArg (fun z => z.2.2) e)))
          clear h3
          cases p <;>
          · go_wp2
            go_ret
            exact ⟨by rw [HV.out]; rfl, HB.out⟩
      · have n2' : (x2 == y2) = false := by simpa using h2
        have HV := Lib.hid (unlB2_no p (x := (x1, x2, x3)) (y := (x1, y2, y3)) (fun e => h2 (congrArg (fun z => z.2.1) e)))
        cases p <;>
        · go_wp2
          go_ret
          exact ⟨by rw [HV.out]; rfl, HB.out⟩
    · have n1 : ¬ x1.toList = y1.toList := fun e => h1 (tl_eq e)
      have n1' : (x1.toList == y1.toList) = false := by simpa using n1
      have HV := Lib.hid (unlB2_no p (x := (x1, x2, x3)) (y := (y1, y2, y3)) (fun e => h1 (congrArg (fun z => z.1) e)))
      clear h1
      cases p <;>
      · go_wp2
        go_ret
        exact ⟨by rw [HV.out]; rfl, HB.out⟩
  · have HV := Lib.hid (show unlB2 (x1, x2, x3) (y1, y2, y3) p q = true by simp [unlB2, hpq])
    cases p <;> cases q <;> first
      | exact absurd rfl hpq
      | (clear hpq; go_wp2; go_ret; exact ⟨by rw [HV.out]; rfl, HB.out⟩)
theorem unlB2_eq (a b : Option Fl) : unlB2 (flZ a) (flZ b) a.isSome b.isSome = !decide (a = b) := by
  cases a with
  | none => cases b <;> simp [unlB2, flZ]
  | some f => cases b with
    | none => simp [unlB2]
    | some g => by_cases h : f = g <;> simp [unlB2, flZ, h]
theorem punlike_any (w : World) (v u : Value) (a b : List Fl) (s : ByteArray) (h : Reads 3 cF w v a) (g : Reads 3 cF w u b) (ha : RiseF a) (hb : RiseF b) (hal : a.length ≤ 100000) (hbl : b.length ≤ 100000) :
    Calls Tryz.prog 52 #[v, u, .string s] w (FlagTo (!decide (getF a s = getF b s)) w) := by
  rw [← unlB2_eq]
  exact punlike_core w v u s _ _ _ _ (Lib.hid ((get_any w v a s h ha hal).mono fun e w' ⟨he, hb⟩ => ⟨by rw [he, gotV_flZ], hb⟩))
    (Lib.hid fun W hW => (get_any W u b s (g.below hW) hb hbl).mono fun e w' ⟨he, hb⟩ => ⟨by rw [he, gotV_flZ], hb⟩)
end Go.Proofs.YtdmmjfmjohliiaaGreatDoor
namespace Go.Proofs.YtdmmjfmjohliiaaGreatDoor
open Go.RowKit

theorem cE_one (l : List En) : ∀ u ∈ l.flatMap cE, u.oneCell' = true := fun u hu => by
  obtain ⟨f, _, hf⟩ := List.mem_flatMap.1 hu
  simp [cE] at hf
  rcases hf with rfl | rfl | rfl | rfl | rfl | rfl <;> rfl

theorem run_append_ents (w : World) (ty : TypeId) (base : Nat) (v : Value) (xs ys : List En) (hown : w.ownsRow base 69 6 v xs.length (xs.flatMap cE)) (A : Option Addr) (m c : Nat) (h : Reads 6 cE w (.slice A m c) ys) (hl : xs.length + ys.length ≤ 1000000) (hbase : base ≤ w.heap.size) :
    ∃ A' c' w', (Builtin.append_ #[24, 24] ty #[v, .slice A m c]).run Tryz.prog w = .ok (.slice A' (xs ++ ys).length c') w' ∧ w'.ownsRow base 69 6 (.slice A' (xs ++ ys).length c') (xs ++ ys).length ((xs ++ ys).flatMap cE) ∧ Below base w w' ∧ w.grownBy w' v.ownBlock := by
  obtain ⟨i0, hi, hz0, hz1, hz2⟩ := info_parts entryInfo
  obtain ⟨hm, hmc, hcm⟩ := h.len
  cases A with
  | none =>
    obtain ⟨A', c', hv, h1, h2, h3, h4⟩ := h
    injection hv with e1 e2 e3
    subst e1; subst e3
    have hc := h3 rfl
    subst hc
    have hm0 : m = 0 := by omega
    subst hm0
    have : ys = [] := List.eq_nil_of_length_eq_zero (by omega)
    subst this
    obtain ⟨A', c', rfl⟩ := own_form hown
    have hr := run_append_owned_none (P := Tryz.prog) (w := w) base 24 ty 69 i0 6 Tryz.underlying24 hi _ _ _ hown
    rw [List.append_nil]
    exact ⟨A', c', w, hr, hown, Below.refl _ _, World.grownBy.refl _ _⟩
  | some ad =>
    obtain ⟨v', w', hr, ho, hg, _⟩ := run_append_own (P := Tryz.prog) w base 24 ty 69 i0 (.agg #[.string ⟨#[]⟩, .int .i64 0, .int .i64 0, .string ⟨#[]⟩, .int .i64 0, .int .i64 0]) 6 64 Tryz.underlying24 hi hz0 hz1 hz2 rfl (by decide) v xs.length (xs.flatMap cE) hown ad m c (ys.flatMap cE) (by rw [flat_len cE_len, hm]) (reads_flat cE_len (by decide) h) (cE_one ys) (by unfold maxLen; omega) (by omega) hbase
    have ho2 : w'.ownsRow base 69 6 v' (xs ++ ys).length ((xs ++ ys).flatMap cE) := by rw [List.length_append, List.flatMap_append, ← hm]; exact ho
    obtain ⟨A', c', rfl⟩ := own_form ho2
    exact ⟨A', c', w', hr, ho2, (Below.refl base w).grown hg hbase fun k hk => (hown.lt k hk).1, hg⟩

theorem wpList_append_ents (w : World) {ops : Array Oper} {rest : List Oper} {o : Oper} {a : Act} {Q : Exit → Act → World → Prop} (hgd : o.guard = none) (s x : Operand)
    (ho : o.op = .call { callee := .builtin .append, args := #[s, x], argTypes := #[24, 24] })
    (base : Nat) (v : Value) (xs ys : List En) (hs : a.eval s = v) (hown : w.ownsRow base 69 6 v xs.length (xs.flatMap cE)) (A : Option Addr) (m c : Nat) (hx : a.eval x = .slice A m c) (h : Reads 6 cE w (.slice A m c) ys) (hl : xs.length + ys.length ≤ 1000000) (hbase : base ≤ w.heap.size)
    (hk : ∀ A' c' w', w'.ownsRow base 69 6 (.slice A' (xs ++ ys).length c') (xs ++ ys).length ((xs ++ ys).flatMap cE) → Below base w w' → w.grownBy w' v.ownBlock → wpList Tryz.prog ops Q rest (a.put o.dst (.slice A' (xs ++ ys).length c')) w') : wpList Tryz.prog ops Q (o :: rest) a w := by
  obtain ⟨A', c', w', hr, h2, h3, h4⟩ := run_append_ents w o.type base v xs ys hown A m c h hl hbase
  exact Lib.wpList_append_run w hgd s x _ _ ho _ _ hs hx _ _ hr (hk A' c' w' h2 h3 h4)


set_option maxHeartbeats 2000000 in
theorem cloneE_any (w : World) (v : Value) (l : List En) (h : Reads 6 cE w v l) (hl : l.length ≤ 100000) :
    Calls Tryz.prog 33 #[v] w (OwnTo 69 6 cE l w) := by
  have q : ∀ (w : World) (a : Option Addr) (n c n' c' : Nat), (binOp .eql 24 (.slice a n c) (.slice none n' c')).run Tryz.prog w = .ok (.bool a.isNone) w := fun w a n c n' c' => Lib.run_eql_slice_nil w _ _ a n c n' c' Tryz.underlying24
  obtain ⟨A, c, rfl⟩ := h.form
  have HR := Lib.hid h
  cases A with
  | none =>
    have h0 : l = [] := by
      obtain ⟨A', c', hv, h1, h2, h3, _⟩ := h
      injection hv with e1 e2 e3
      subst e1; subst e3
      have := h3 rfl
      exact List.eq_nil_of_length_eq_zero (by omega)
    subst h0
    clear h
    go_enter Tryz.func33, Tryz.ntmps33
    go_wp2
    go_ret
    exact ⟨_, rfl, World.ownsRow_nil _ _ _ _, Below.refl _ _⟩
  | some ad =>
    have hm : w.heap.size ≤ (w.alloc (.cells #[] 69)).heap.size := by simp
    have hll : ([] : List En).length + l.length ≤ 1000000 := by simp; omega
    have O0 := Lib.hid (show (w.alloc (.cells #[] 69)).ownsRow w.heap.size 69 6 (.slice (some ⟨w.heap.size, 0, none⟩) 0 0) ([] : List En).length (([] : List En).flatMap cE) from World.ownsRow_made w #[] 0 (Nat.le_refl _) (Nat.zero_le _) rfl)
    clear h
    go_enter Tryz.func33, Tryz.ntmps33
    go_wp2_with (at_builtin; refine wpList_append_ents _ rfl _ _ rfl w.heap.size _ [] l rfl O0.out _ _ _ rfl (HR.out.alloc _) hll hm ?_; intro A' c' w5 own5 b5 hg5)
    rw [List.nil_append] at own5
    have O5 := Lib.hid own5
    have B5 := Lib.hid (Below.trans ((Below.refl _ _).alloc (Nat.le_refl _) (.cells #[] 69)) b5)
    clear own5 b5 hg5
    go_ret
    exact ⟨_, rfl, O5.out, B5.out⟩
end Go.Proofs.YtdmmjfmjohliiaaGreatDoor
namespace Go.Proofs.YtdmmjfmjohliiaaGreatDoor
open Go Go.RowKit

/-- A closure that takes a file and has captured one thing: what it says, wherever all below B is as it was in w0. -/
def PBE (B : Nat) (w0 : World) (g : Nat) (c : Value) (p : En → Bool) : Prop :=
  ∀ (W : World) (x : En), Below B w0 W → x.1.size ≤ 1000000 → Calls Tryz.prog g #[.agg #[.string x.1, .int .i64 x.2.1, .int .i64 x.2.2.1, .string x.2.2.2.1, .int .i64 x.2.2.2.2.1, .int .i64 x.2.2.2.2.2], c] W fun e w' => e = .returned (.bool (p x)) ∧ Below W.heap.size W w'
def IdxToE (p : En → Bool) (l : List En) (w : World) (e : Ending) (w' : World) : Prop :=
  ∃ n : Int, e = .returned (.int .i64 n) ∧ Below w.heap.size w w' ∧ ((n = -1 ∧ l.any p = false) ∨ ∃ (i : Nat) (x : En), n = i ∧ l[i]? = some x ∧ p x = true ∧ (l.take i).any p = false)
def SizedE (l : List En) : Prop := ∀ x ∈ l, x.1.size ≤ 1000000
theorem SizedE.at_ {l : List En} (h : SizedE l) {i : Nat} {x : En} (hx : l[i]? = some x) : x.1.size ≤ 1000000 := h x (List.mem_of_getElem? hx)

set_option maxHeartbeats 2000000 in
theorem indexE_any (w0 w : World) (B : Nat) (hb : Below B w0 w) (hB : B ≤ w.heap.size) (v : Value) (l : List En) (g : Nat) (c : Value) (p : En → Bool) (h : Reads 6 cE w v l) (hs : SizedE l) (hl : l.length ≤ 100000)
    (eg : ∀ args w, (callFunc g args).run Tryz.prog w = .ok (.enter g args) w) (hp : PBE B w0 g c p) :
    Calls Tryz.prog 119 #[v, .func (.func g) #[] #[c]] w (IdxToE p l w) := by
  obtain ⟨A, cap, rfl⟩ := h.form
  have hn := h.len
  have HO := Lib.hid h
  have HP := Lib.hid hp
  have HS := Lib.hid hs
  clear h hn hp hs
  go_enter Tryz.func119, Tryz.ntmps119
  go_wp2
  go_loopw [5, 8] (fun _ s8 wr => ∃ k : Nat, k ≤ l.length ∧ s8 = .int .i64 k ∧ Below w.heap.size w wr ∧ Hid ((l.take k).any p = false)) (fun _ s8 _ => l.length - (intOf s8).toNat)
  case atStart => exact ⟨0, Nat.zero_le _, rfl, Below.refl _ _, Lib.hid (by simp)⟩
  case round =>
    obtain ⟨k, hk, rfl, hb1, A1⟩ := hrel
    by_cases hlt : k < l.length
    · obtain ⟨x, hx⟩ : ∃ x, l[k]? = some x := ⟨_, List.getElem?_eq_getElem hlt⟩
      obtain ⟨ad, rfl, c0, c1, c2, c3, c4, c5⟩ := Ents.at_ (HO.out.below hb1) hx
      have hcall := HP.out wr x (hb.trans (hb1.mono hB)) (HS.out.at_ hx)
      have HX := Lib.hid hx
      have HT : Hid (p x = false → (l.take (k + 1)).any p = false) := Lib.hid fun hq => by
        rw [take_snoc hx, List.any_append, A1.out]; simp [hq]
      clear hx
      cases hq : p x with
      | true =>
        rw [hq] at hcall
        have HQ := Lib.hid hq
        clear hq
        go_wp2_with (go_at_fn g; refine hcall.mono ?_; rintro e w' ⟨rfl, hb2⟩)
        go_ret
        exact ⟨_, rfl, hb1.trans (hb2.mono hb1.size), .inr ⟨k, x, rfl, HX.out, HQ.out, A1.out⟩⟩
      | false =>
        rw [hq] at hcall
        have HQ := Lib.hid hq
        clear hq
        go_wp2_with (go_at_fn g; refine hcall.mono ?_; rintro e w' ⟨rfl, hb2⟩)
        go_roundw
        case rel => exact ⟨k + 1, by omega, by go_num, hb1.trans (hb2.mono hb1.size), Lib.hid (HT.out HQ.out)⟩
        case measure => simp [intOf]; omega
    · obtain rfl : k = l.length := by omega
      go_wp2
      go_ret
      exact ⟨_, rfl, hb1, .inl ⟨rfl, by have := A1.out; rwa [List.take_length] at this⟩⟩

theorem any_hitE {l : List En} {p : En → Bool} {i : Nat} {x : En} (hx : l[i]? = some x) (hp : p x = true) : l.any p = true := List.any_eq_true.2 ⟨x, List.mem_of_getElem? hx, hp⟩

set_option maxHeartbeats 1000000 in
theorem containsE_any (w0 w : World) (B : Nat) (hb : Below B w0 w) (hB : B ≤ w.heap.size) (v : Value) (l : List En) (g : Nat) (c : Value) (p : En → Bool) (h : Reads 6 cE w v l) (hs : SizedE l) (hl : l.length ≤ 100000)
    (eg : ∀ args w, (callFunc g args).run Tryz.prog w = .ok (.enter g args) w) (hp : PBE B w0 g c p) :
    Calls Tryz.prog 111 #[v, .func (.func g) #[] #[c]] w (FlagTo (l.any p) w) := by
  have S := Lib.hid (indexE_any w0 w B hb hB v l g c p h hs hl eg hp)
  obtain ⟨A, cap, rfl⟩ := h.form
  clear h hs hp
  go_enter Tryz.func111, Tryz.ntmps111
  go_wp2_with fail
  refine S.out.mono ?_
  rintro e w' ⟨n, rfl, hb1, hn⟩
  rcases hn with ⟨rfl, hn⟩ | ⟨i, x, rfl, hx, hpx, -⟩
  · have HN := Lib.hid hn
    clear hn
    go_wp2_with fail
    go_ret
    exact ⟨ret_b HN.out.symm, hb1⟩
  · have HN := Lib.hid (any_hitE hx hpx)
    clear hx hpx
    go_wp2_with fail
    go_ret
    exact ⟨ret_b HN.out.symm, hb1⟩

end Go.Proofs.YtdmmjfmjohliiaaGreatDoor
namespace Go.Proofs.YtdmmjfmjohliiaaGreatDoor
open Go Go.RowKit

theorem flat_setE : ∀ (m : List En) (i : Nat) (x : En), i < m.length → (((((((m.flatMap cE).set (i * 6) (.string x.1)).set (i * 6 + 1) (.int .i64 x.2.1)).set (i * 6 + 2) (.int .i64 x.2.2.1)).set (i * 6 + 3) (.string x.2.2.2.1)).set (i * 6 + 4) (.int .i64 x.2.2.2.2.1)).set (i * 6 + 5) (.int .i64 x.2.2.2.2.2)) = (m.set i x).flatMap cE
  | [], _, _, h => by simp at h
  | y :: r, 0, x, _ => by simp [cE]
  | y :: r, i + 1, x, h => by
    have ih := flat_setE r i x (by simpa using h)
    rw [List.set_cons_succ, List.flatMap_cons, List.flatMap_cons, ← ih]
    have hc : (cE y).length = 6 := rfl
    rw [List.set_append_right _ _ (by rw [hc]; omega), List.set_append_right _ _ (by rw [hc]; omega), List.set_append_right _ _ (by rw [hc]; omega), List.set_append_right _ _ (by rw [hc]; omega), List.set_append_right _ _ (by rw [hc]; omega), List.set_append_right _ _ (by rw [hc]; omega), hc]
    congr 1
    rw [show (i + 1) * 6 - 6 = i * 6 by omega, show (i + 1) * 6 + 1 - 6 = i * 6 + 1 by omega, show (i + 1) * 6 + 2 - 6 = i * 6 + 2 by omega, show (i + 1) * 6 + 3 - 6 = i * 6 + 3 by omega, show (i + 1) * 6 + 4 - 6 = i * 6 + 4 by omega, show (i + 1) * 6 + 5 - 6 = i * 6 + 5 by omega]

def RowOwnE (B g cap n : Nat) (m : List En) (W : World) : Prop := W.ownsRow B 69 6 (.slice (some ⟨g, 0, none⟩) n cap) n (m.flatMap cE)
theorem RowOwnE.set {B g cap n : Nat} {m : List En} {W : World} (h : RowOwnE B g cap n m W) (hm : m.length = n) (i : Nat) (hi : i < n) (x : En) :
    RowOwnE B g cap n (m.set i x) ((((((W.setCell ⟨g, i * 6, none⟩ (.string x.1)).setCell ⟨g, i * 6 + 1, none⟩ (.int .i64 x.2.1)).setCell ⟨g, i * 6 + 2, none⟩ (.int .i64 x.2.2.1)).setCell ⟨g, i * 6 + 3, none⟩ (.string x.2.2.2.1)).setCell ⟨g, i * 6 + 4, none⟩ (.int .i64 x.2.2.2.2.1)).setCell ⟨g, i * 6 + 5, none⟩ (.int .i64 x.2.2.2.2.2)) := by
  unfold RowOwnE
  rw [← flat_setE m i x (by omega)]
  have h1 := (World.ownsRow.stored h (i * 6) (.string x.1)).1
  have h2 := (World.ownsRow.stored h1 (i * 6 + 1) (.int .i64 x.2.1)).1
  have h3 := (World.ownsRow.stored h2 (i * 6 + 2) (.int .i64 x.2.2.1)).1
  have h4 := (World.ownsRow.stored h3 (i * 6 + 3) (.string x.2.2.2.1)).1
  have h5 := (World.ownsRow.stored h4 (i * 6 + 4) (.int .i64 x.2.2.2.2.1)).1
  have h6 := (World.ownsRow.stored h5 (i * 6 + 5) (.int .i64 x.2.2.2.2.2)).1
  exact h6
theorem RowOwnE.below {B g cap n : Nat} {m : List En} {W W' : World} (h : RowOwnE B g cap n m W) (hb : Below W.heap.size W W') : RowOwnE B g cap n m W' := own_keep h hb
theorem RowOwnE.cellAt {B g cap n : Nat} {m : List En} {W : World} (h : RowOwnE B g cap n m W) {i : Nat} {x : En} (hx : m[i]? = some x) :
    W.cell? ⟨g, i * 6, none⟩ = some (.string x.1) ∧ W.cell? ⟨g, i * 6 + 1, none⟩ = some (.int .i64 x.2.1) ∧ W.cell? ⟨g, i * 6 + 2, none⟩ = some (.int .i64 x.2.2.1) ∧ W.cell? ⟨g, i * 6 + 3, none⟩ = some (.string x.2.2.2.1) ∧ W.cell? ⟨g, i * 6 + 4, none⟩ = some (.int .i64 x.2.2.2.2.1) ∧ W.cell? ⟨g, i * 6 + 5, none⟩ = some (.int .i64 x.2.2.2.2.2) := by
  have key : ∀ j u, (cE x)[j]? = some u → W.cell? ⟨g, i * 6 + j, none⟩ = some u := fun j u hu => by
    have hj : j < 6 := (List.getElem?_eq_some_iff.1 hu).1
    have := World.ownsRow.cells h rfl (i * 6 + j) u (by rw [flat_at cE_len m i j x hx hj]; exact hu)
    rwa [add_zero_addr] at this
  exact ⟨key 0 _ rfl, key 1 _ rfl, key 2 _ rfl, key 3 _ rfl, key 4 _ rfl, key 5 _ rfl⟩
theorem RowOwnE.frozenAt {B g cap n : Nat} {m : List En} {W : World} (h : RowOwnE B g cap n m W) (j : Nat) : W.frozen? ⟨g, j, none⟩ = false := World.ownsRow.frozenAt h j
theorem RowOwnE.isCell {B g cap n : Nat} {m : List En} {W : World} (h : RowOwnE B g cap n m W) (j : Nat) (hj : j < n * 6) : (W.cell? ⟨g, j, none⟩).isSome = true := by
  rw [World.ownsRow.cellAt h j hj, List.getElem?_eq_getElem (by rw [h.1]; exact hj)]; rfl

/-- The cells of n files that are none. -/
def zsE (n : Nat) : List Value := (Builtin.zeroCells #[.string ⟨#[]⟩, .int .i64 0, .int .i64 0, .string ⟨#[]⟩, .int .i64 0, .int .i64 0] n).toList
theorem zs_lenE (n : Nat) : (zsE n).length = n * 6 := by simp [zsE, Builtin.zeroCells]
theorem zs_oneE (n : Nat) : ∀ u ∈ zsE n, u.oneCell' = true := fun u hu => by
  simp [zsE, Builtin.zeroCells] at hu
  obtain ⟨i, _, rfl⟩ := hu
  have : i % 6 = 0 ∨ i % 6 = 1 ∨ i % 6 = 2 ∨ i % 6 = 3 ∨ i % 6 = 4 ∨ i % 6 = 5 := by omega
  rcases this with h | h | h | h | h | h <;> rw [h] <;> rfl
theorem run_clear_filesE (w : World) (ty : TypeId) (b o n c : Nat) (hn : 0 < n) (hc : ∀ j, j < n * 6 → (w.cell? ⟨b, o + j, none⟩).isSome = true) (hf : ∀ j, j < n * 6 → w.frozen? ⟨b, o + j, none⟩ = false) :
    (Builtin.clear_ #[24] ty #[.slice (some ⟨b, o, none⟩) n c]).run Tryz.prog w = .ok (.tuple #[]) (w.setCells b o (zsE n)) := by
  have hst := run_storeCells_cells (P := Tryz.prog) b o (zsE n) 0 w (by rw [zs_lenE]; simpa using hc) (by rw [zs_lenE]; simpa using hf) (zs_oneE n)
  simp only [Nat.add_zero] at hst
  obtain ⟨m, rfl⟩ : ∃ m, n = m + 1 := ⟨n - 1, by omega⟩
  unfold zsE at hst ⊢
  simp [Builtin.clear_, run_underlying Tryz.underlying24, Tryz.zeroValue69, Value.cells, hst]

/-- The files ahead, where those behind are cleared. -/
theorem reads_frontE {B g cap n : Nat} {m : List En} {W : World} (h : RowOwnE B g cap n m W) (hm : m.length = n) (i : Nat) (hi : i ≤ n) (k : Nat) :
    Reads 6 cE (W.setCells g (i * 6) (zsE k)) (.slice (some ⟨g, 0, none⟩) i cap) (m.take i) := by
  have hl : (m.take i).length = i := by rw [List.length_take]; omega
  have h2 := own_len h
  refine ⟨some ⟨g, 0, none⟩, cap, by rw [hl], by omega, h2.2.2, (fun e => by cases e), fun ad ha t x hx j u hu => ?_⟩
  obtain rfl := Option.some.inj ha
  have ht : t < i := by have := (List.getElem?_eq_some_iff.1 hx).1; omega
  have hj : j < 6 := (List.getElem?_eq_some_iff.1 hu).1
  have hx' : m[t]? = some x := by rwa [List.getElem?_take, if_pos ht] at hx
  have hc := World.ownsRow.cells h rfl (t * 6 + j) u (by rw [flat_at cE_len m t j x hx' hj]; exact hu)
  rw [add_zero_addr] at hc
  have := (World.cell?_setCells_out g (zsE k) (i * 6) W ⟨g, t * 6 + j, none⟩ (fun _ _ => .inl (by show t * 6 + j < i * 6; omega))).trans hc
  cases j with
  | zero => unfold adr; rw [add_zero_addr]; exact this
  | succ j => unfold adr; rw [add_zero_addr]; exact this
theorem below_setCellsE {N g : Nat} (hg : N ≤ g) {a : World} : ∀ (vs : List Value) (o : Nat) (w : World), Below N a w → Below N a (w.setCells g o vs)
  | [], _, _, h => h
  | v :: r, o, _, h => below_setCellsE hg r (o + 1) _ (h.setCell (p := ⟨g, o, none⟩) hg v)

theorem setCells_blkE {g : Nat} {t : TypeId} : ∀ (vs : List Value) (o : Nat) {w : World} {cs : Array Value}, w.heap[g]? = some (.cells cs t (0, 0)) →
    ∃ cs' : Array Value, (w.setCells g o vs).heap[g]? = some (.cells cs' t (0, 0)) ∧ cs'.size = cs.size ∧ ∀ j, j < o → cs'[j]? = cs[j]?
  | [], _, _, cs, h => ⟨cs, h, rfl, fun _ _ => rfl⟩
  | v :: r, o, w, cs, h => by
    have h1 : (w.setCell ⟨g, o, none⟩ v).heap[g]? = some (.cells (cs.setIfInBounds o v) t (0, 0)) := by
      simp [World.setCell, Array.getElem?_modify, h]
    obtain ⟨cs', k1, k2, k3⟩ := setCells_blkE r (o + 1) h1
    refine ⟨cs', k1, by rw [k2, Array.size_setIfInBounds], fun j hj => ?_⟩
    rw [k3 j (by omega), Array.getElem?_setIfInBounds_ne (by omega)]
theorem own_frontE {B g cap n : Nat} {m : List En} {W : World} (h : RowOwnE B g cap n m W) (hm : m.length = n) (i : Nat) (hi : i ≤ n) (vs : List Value) :
    (W.setCells g (i * 6) vs).ownsRow B 69 6 (.slice (some ⟨g, 0, none⟩) i cap) i ((m.take i).flatMap cE) := by
  have hA : ((m.take i).flatMap cE).length = i * 6 := by rw [flat_len cE_len, List.length_take, Nat.min_eq_left (by omega)]
  rcases h.2 with ⟨h1, _⟩ | ⟨g', cap', cur, hv, hB, hb, hn, hmx, hs, ht⟩
  · cases h1
  injection hv with e1 _ e3
  injection e1 with e1
  injection e1 with e1
  subst e1; subst e3
  obtain ⟨cs', k1, k2, k3⟩ := setCells_blkE vs (i * 6) hb
  refine ⟨hA, .inr ⟨g, cap, cs', rfl, hB, k1, by omega, hmx, by rw [k2, hs], ?_⟩⟩
  apply List.ext_getElem?
  intro j
  rw [List.getElem?_take]
  by_cases hj : j < i * 6
  · rw [if_pos hj, Array.getElem?_toList, k3 j hj]
    have h4 : (m.flatMap cE)[j]? = ((m.take i).flatMap cE)[j]? := by
      conv => lhs; rw [← List.take_append_drop i m, List.flatMap_append]
      rw [List.getElem?_append_left (by rw [hA]; exact hj)]
    rw [← h4, ← ht, List.getElem?_take, if_pos (by omega), Array.getElem?_toList]
  · rw [if_neg hj, List.getElem?_eq_none (by rw [hA]; omega)]

def KeptToE (B : Nat) (w0 : World) (l : List En) (e : Ending) (w' : World) : Prop := ∃ v, e = .returned v ∧ Reads 6 cE w' v l ∧ Below B w0 w' ∧ w'.ownsRow B 69 6 v l.length (l.flatMap cE)
theorem keep_snocE {p : En → Bool} {l : List En} {j : Nat} {x : En} (hx : l[j]? = some x) : (l.take (j + 1)).filter (fun x => !p x) = (l.take j).filter (fun x => !p x) ++ (if p x then [] else [x]) := by
  rw [take_snoc hx, List.filter_append]
  cases h : p x <;> simp [h]
theorem any_keepE {p : En → Bool} {l : List En} (h : l.any p = false) : l.filter (fun x => !p x) = l := List.filter_eq_self.2 fun x hx => by
  have : p x = false := by
    rw [Bool.eq_false_iff]
    intro e
    have := List.any_eq_true.2 ⟨x, hx, e⟩
    rw [h] at this; cases this
  simp [this]
theorem take_set_snocE {m : List En} {i : Nat} {x : En} (hi : i < m.length) : (m.set i x).take (i + 1) = m.take i ++ [x] := by
  have h : (m.set i x)[i]? = some x := by simp [hi]
  rw [take_snoc h, List.take_set_of_le (Nat.le_refl i)]
theorem drop_setE {m : List En} {i j : Nat} {x : En} (hij : i < j) : (m.set i x).drop j = m.drop j := List.drop_set_of_lt hij

set_option maxRecDepth 100000 in
set_option maxHeartbeats 4000000 in
theorem deleteE_any (w0 w : World) (B : Nat) (hb : Below B w0 w) (hB : B ≤ w.heap.size) (v : Value) (l : List En) (g : Nat) (c : Value) (p : En → Bool) (ho : w.ownsRow B 69 6 v l.length (l.flatMap cE)) (hs : SizedE l) (hl : l.length ≤ 100000)
    (eg : ∀ args w, (callFunc g args).run Tryz.prog w = .ok (.enter g args) w) (hp : PBE B w0 g c p) :
    Calls Tryz.prog 85 #[v, .func (.func g) #[] #[c]] w (KeptToE B w0 (l.filter fun x => !p x)) := by
  have R := Lib.hid (Reads.of_own cE_len ho)
  have S := Lib.hid (indexE_any w0 w B hb hB v l g c p R.out hs hl eg hp)
  have HP := Lib.hid hp
  have HS := Lib.hid hs
  have HO := Lib.hid ho
  obtain ⟨A, cap, rfl⟩ := own_form ho
  clear ho hp hs
  go_enter Tryz.func85, Tryz.ntmps85
  go_wp2_with fail
  refine S.out.mono ?_
  rintro e w1 ⟨n, rfl, hb1, hn⟩
  have B1 := hb.trans (hb1.mono hB)
  rcases hn with ⟨rfl, hn⟩ | ⟨i0, x0, rfl, hx0, hpx, hno⟩
  · have HN := Lib.hid hn
    clear hn
    go_wp2_with fail
    go_ret
    exact ⟨_, rfl, by rw [any_keepE HN.out]; exact R.out.below hb1, B1, by rw [any_keepE HN.out]; exact own_keep HO.out hb1⟩
  · have hi0 : i0 < l.length := (List.getElem?_eq_some_iff.1 hx0).1
    obtain ⟨gb, rfl, hgB⟩ : ∃ gb, A = some ⟨gb, 0, none⟩ ∧ B ≤ gb := by
      rcases HO.out.2 with ⟨_, h0⟩ | ⟨gb, cap', cur, hv, hgB, _⟩
      · omega
      · injection hv with e1; exact ⟨gb, e1, hgB⟩
    have K0 : Hid ((l.take (i0 + 1)).filter (fun x => !p x) = l.take i0) := Lib.hid (by rw [keep_snocE hx0, any_keepE hno, hpx]; simp)
    have O1 : Hid (RowOwnE B gb cap l.length l w1) := Lib.hid (own_keep HO.out hb1)
    have hm1 : ((i0 : Int) == -1) = false := by rw [beq_eq_false_iff_ne]; omega
    clear hx0 hpx hno S R HO
    go_wp2_with fail
    go_loopw [5, 6, 7] (fun s5 s6 _ wr => ∃ (i j : Nat) (m : List En), s5 = .int .i64 i ∧ s6 = .int .i64 j ∧ i < j ∧ j ≤ l.length ∧ Below B w0 wr ∧ B ≤ wr.heap.size ∧ Hid (m.length = l.length) ∧ Hid (RowOwnE B gb cap l.length m wr) ∧ Hid (m.take i = (l.take j).filter (fun x => !p x)) ∧ Hid (m.drop j = l.drop j)) (fun _ s6 _ _ => l.length - (intOf s6).toNat)
    case atStart => exact ⟨i0, i0 + 1, l, rfl, by go_num, by omega, by omega, B1, by have := B1.size; have := hb1.size; omega, Lib.hid rfl, O1, Lib.hid K0.out.symm, Lib.hid rfl⟩
    case round =>
      obtain ⟨i, j, m, rfl, rfl, hij, hj, hbr, hBr, HM, OM, HT, HD⟩ := hrel
      by_cases hlt : j < l.length
      · obtain ⟨x, hx⟩ : ∃ x, l[j]? = some x := ⟨_, List.getElem?_eq_getElem hlt⟩
        have hxm : m[j]? = some x := by
          have h1 : (m.drop j)[0]? = (l.drop j)[0]? := by rw [HD.out]
          rw [List.getElem?_drop, List.getElem?_drop] at h1
          simpa [hx] using h1
        obtain ⟨c0, c1, c2, c3, c4, c5⟩ := OM.out.cellAt hxm
        have HK := Lib.hid (keep_snocE (p := p) hx)
        have hsx := HS.out.at_ hx
        clear hx hxm
        obtain ⟨W2, hW2⟩ : ∃ W2, W2 = wr.alloc (.cells #[.string x.1, .int .i64 x.2.1, .int .i64 x.2.2.1, .string x.2.2.2.1, .int .i64 x.2.2.2.2.1, .int .i64 x.2.2.2.2.2] 69) := ⟨_, rfl⟩
        have b2 : Below wr.heap.size wr W2 := by rw [hW2]; exact (Below.refl _ _).alloc (Nat.le_refl _) _
        have BW2 : Below B w0 W2 := hbr.trans (b2.mono hBr)
        have hcall := HP.out W2 x BW2 hsx
        obtain ⟨q, hQ⟩ : ∃ q, q = wr.heap.size := ⟨_, rfl⟩
        have k2 : W2.heap[q]? = some (.cells #[.string x.1, .int .i64 x.2.1, .int .i64 x.2.2.1, .string x.2.2.2.1, .int .i64 x.2.2.2.2.1, .int .i64 x.2.2.2.2.2] 69 (0, 0)) := by rw [hW2, hQ]; exact heap_alloc_new wr _
        have hq2 : q < W2.heap.size := by rw [hW2, hQ]; simp
        have O2 := Lib.hid (OM.out.below b2)
        have hs2 : B ≤ W2.heap.size := Nat.le_trans hBr b2.size
        have HK2 := Lib.hid k2
        have HBW2 := Lib.hid BW2
        go_wp2_with fail
        rw [← hW2, ← hQ]
        clear hW2 hQ b2 BW2 k2 c0 c1 c2 c3 c4 c5 hbr hBr OM
        cases hpx : p x with
        | true =>
          rw [hpx] at hcall
          have HPX := Lib.hid hpx
          clear hpx
          refine hcall.mono ?_
          rintro e w3 ⟨rfl, b3⟩
          go_wp2_with fail
          go_roundw
          case rel => exact ⟨i, j + 1, m, rfl, by go_num, by omega, by omega, HBW2.out.trans (b3.mono hs2), by have := b3.size; omega, HM, Lib.hid (O2.out.below b3), Lib.hid (by rw [HK.out, HPX.out, HT.out]; simp), Lib.hid (by rw [← List.drop_drop, HD.out, List.drop_drop])⟩
          case measure => simp [intOf]; omega
        | false =>
          rw [hpx] at hcall
          have HPX := Lib.hid hpx
          clear hpx
          refine hcall.mono ?_
          rintro e w3 ⟨rfl, b3⟩
          have k3 : w3.heap[q]? = some (.cells #[.string x.1, .int .i64 x.2.1, .int .i64 x.2.2.1, .string x.2.2.2.1, .int .i64 x.2.2.2.2.1, .int .i64 x.2.2.2.2.2] 69 (0, 0)) := (b3.block q hq2).trans HK2.out
          have y0 := cell_of_row w3 q 0 _ 69 (0, 0) k3
          have y1 := cell_of_row w3 q 1 _ 69 (0, 0) k3
          have y2 := cell_of_row w3 q 2 _ 69 (0, 0) k3
          have y3 := cell_of_row w3 q 3 _ 69 (0, 0) k3
          have y4 := cell_of_row w3 q 4 _ 69 (0, 0) k3
          have y5 := cell_of_row w3 q 5 _ 69 (0, 0) k3
          have O3 := Lib.hid (O2.out.below b3)
          have him : i < m.length := by have := HM.out; omega
          obtain ⟨y, hy⟩ : ∃ y, m[i]? = some y := ⟨_, List.getElem?_eq_getElem him⟩
          obtain ⟨d0, d1, d2, d3, d4, d5⟩ := O3.out.cellAt hy
          have f0 := O3.out.frozenAt (i * 6)
          have f1 := O3.out.frozenAt (i * 6 + 1)
          have f2 := O3.out.frozenAt (i * 6 + 2)
          have f3 := O3.out.frozenAt (i * 6 + 3)
          have f4 := O3.out.frozenAt (i * 6 + 4)
          have f5 := O3.out.frozenAt (i * 6 + 5)
          have O4 := Lib.hid (O3.out.set HM.out i (by have := HM.out; omega) x)
          have hi1 : (i : Int) < (l.length : Int) := by omega
          have B3 := Lib.hid (HBW2.out.trans (b3.mono hs2))
          have hs3 : B ≤ w3.heap.size := by have := b3.size; omega
          have HIM := Lib.hid him
          clear hy k3 b3 hcall him
          go_wp2_with fail
          go_roundw
          case rel => exact ⟨i + 1, j + 1, m.set i x, by go_num, by go_num, by omega, by omega, ((((((B3.out.setCell (p := ⟨gb, i * 6, none⟩) hgB _).setCell (p := ⟨gb, i * 6 + 1, none⟩) hgB _).setCell (p := ⟨gb, i * 6 + 2, none⟩) hgB _).setCell (p := ⟨gb, i * 6 + 3, none⟩) hgB _).setCell (p := ⟨gb, i * 6 + 4, none⟩) hgB _).setCell (p := ⟨gb, i * 6 + 5, none⟩) hgB _), by simp; omega, Lib.hid (by rw [List.length_set]; exact HM.out), O4, Lib.hid (by rw [take_set_snocE HIM.out, HK.out, HPX.out, HT.out]; simp), Lib.hid (by rw [drop_setE (by omega), ← List.drop_drop, HD.out, List.drop_drop])⟩
          case measure => simp [intOf]; omega
      · obtain rfl : j = l.length := by omega
        have hcap : l.length ≤ cap := (own_len OM.out).2.1
        have hcm : cap ≤ 9223372036854775807 := by have := (own_len OM.out).2.2; unfold maxLen at this; omega
        have hci : ¬ cap = i := by omega
        have hic : (i : Int) ≤ (cap : Int) := by omega
        have hi1 : (i : Int) ≤ (l.length : Int) := by omega
        have hlc : (l.length : Int) ≤ (cap : Int) := by omega
        have hcl : ∀ ty c, (Builtin.clear_ #[24] ty #[.slice (some ⟨gb, i * 6, none⟩) (l.length - i) c]).run Tryz.prog wr = .ok (.tuple #[]) (wr.setCells gb (i * 6) (zsE (l.length - i))) := fun ty c =>
          run_clear_filesE wr ty gb (i * 6) (l.length - i) c (by omega) (fun t ht => OM.out.isCell _ (by omega)) (fun t _ => OM.out.frozenAt _)
        have HR := Lib.hid (reads_frontE OM.out HM.out i (by omega) (l.length - i))
        have HW2 := Lib.hid (own_frontE OM.out HM.out i (by omega) (zsE (l.length - i)))
        have HL := Lib.hid (show (l.filter fun x => !p x).length = i by
          have h := congrArg List.length HT.out
          rw [List.length_take, List.take_length, HM.out, Nat.min_eq_left (by omega)] at h
          exact h.symm)
        rw [HT.out, List.take_length] at HR HW2
        have HB2 := Lib.hid (below_setCellsE hgB (zsE (l.length - i)) (i * 6) wr hbr)
        clear hbr
        go_wp2_with fail
        go_ret
        exact ⟨_, rfl, HR.out, HB2.out, by rw [HL.out]; exact HW2.out⟩
end Go.Proofs.YtdmmjfmjohliiaaGreatDoor
namespace Go.Proofs.YtdmmjfmjohliiaaGreatDoor
open Go Go.RowKit

/-- The cells of an entry as a value. -/
abbrev eV (x : En) : Value := .agg #[.string x.1, .int .i64 x.2.1, .int .i64 x.2.2.1, .string x.2.2.2.1, .int .i64 x.2.2.2.2.1, .int .i64 x.2.2.2.2.2]
/-- By path, then by stage. -/
def ci (a b : Int) : Int := if a < b then -1 else if b < a then 1 else 0
def ec (a b : En) : Int := if cb a.1 b.1 ≠ 0 then cb a.1 b.1 else ci a.2.1 b.2.1
theorem nan_any (a : Int) (w : World) : Calls Tryz.prog 140 #[.int .i64 a] w fun e w' => e = .returned (.bool false) ∧ w = w' := by
  go_enter Tryz.func140, Tryz.ntmps140
  go_wp2
  go_ret
  exact ⟨ret_b (by simp), rfl⟩
set_option maxHeartbeats 1000000 in
theorem cmpInt_any (a b : Int) (w : World) : Calls Tryz.prog 121 #[.int .i64 a, .int .i64 b] w fun e w' => e = .returned (.int .i64 (ci a b)) ∧ w = w' := by
  have NA := Lib.hid fun x W => nan_any x W
  by_cases h1 : a < b
  · have HV := Lib.hid (show ci a b = -1 from if_pos h1)
    go_enter Tryz.func121, Tryz.ntmps121
    go_wp2_with fail
    refine (NA.out _ _).mono ?_
    rintro e w' ⟨rfl, rfl⟩
    go_wp2_with fail
    refine (NA.out _ _).mono ?_
    rintro e w' ⟨rfl, rfl⟩
    go_wp2_with fail
    go_ret
    exact ⟨ret_i HV.out.symm, rfl⟩
  · by_cases h2 : b < a
    · have HV := Lib.hid (show ci a b = 1 by unfold ci; rw [if_neg h1, if_pos h2])
      go_enter Tryz.func121, Tryz.ntmps121
      go_wp2_with fail
      refine (NA.out _ _).mono ?_
      rintro e w' ⟨rfl, rfl⟩
      go_wp2_with fail
      refine (NA.out _ _).mono ?_
      rintro e w' ⟨rfl, rfl⟩
      go_wp2_with fail
      go_ret
      exact ⟨ret_i HV.out.symm, rfl⟩
    · have HV := Lib.hid (show ci a b = 0 by unfold ci; rw [if_neg h1, if_neg h2])
      go_enter Tryz.func121, Tryz.ntmps121
      go_wp2_with fail
      refine (NA.out _ _).mono ?_
      rintro e w' ⟨rfl, rfl⟩
      go_wp2_with fail
      refine (NA.out _ _).mono ?_
      rintro e w' ⟨rfl, rfl⟩
      go_wp2_with fail
      go_ret
      exact ⟨ret_i HV.out.symm, rfl⟩

/-- cmp.Or of two: the first that is not 0. -/
def orV (a b : Int) : Int := if a ≠ 0 then a else b
set_option maxHeartbeats 1000000 in
theorem or_two (a b : Int) (g : Nat) (w : World) (hg : w.heap[g]? = some (.cells #[.int .i64 a, .int .i64 b] 3 (0, 0))) :
    Calls Tryz.prog 120 #[.slice (some ⟨g, 0, none⟩) 2 2] w fun e w' => e = .returned (.int .i64 (orV a b)) ∧ w = w' := by
  have c0 : w.cell? ⟨g, 0, none⟩ = some (.int .i64 a) := cell_of_row w g 0 _ 3 (0, 0) hg
  have c1 : w.cell? ⟨g, 1, none⟩ = some (.int .i64 b) := cell_of_row w g 1 _ 3 (0, 0) hg
  clear hg
  by_cases ha : a = 0
  · subst ha
    by_cases hb : b = 0
    · subst hb
      go_enter Tryz.func120, Tryz.ntmps120
      go_wp2
      refine wp_loop_rounds 3 ?_
      rw [rounds_succ]
      go_wp2
      rw [rounds_succ]
      go_wp2
      rw [rounds_succ]
      go_wp2
      go_ret
      exact ⟨rfl, rfl⟩
    · have hb1 : (b == 0) = false := by simpa using hb
      go_enter Tryz.func120, Tryz.ntmps120
      go_wp2
      refine wp_loop_rounds 3 ?_
      rw [rounds_succ]
      go_wp2
      rw [rounds_succ]
      go_wp2
      go_ret
      exact ⟨rfl, rfl⟩
  · have ha1 : (a == 0) = false := by simpa using ha
    have HV := Lib.hid (show orV a b = a from if_pos ha)
    go_enter Tryz.func120, Tryz.ntmps120
    go_wp2
    refine wp_loop_rounds 3 ?_
    rw [rounds_succ]
    go_wp2
    go_ret
    exact ⟨ret_i HV.out.symm, rfl⟩
/-! ### compare -/
def NumE (n : Int) (w : World) (e : Ending) (w' : World) : Prop := e = .returned (.int .i64 n) ∧ Below w.heap.size w w'
set_option maxRecDepth 100000 in
set_option maxHeartbeats 4000000 in
theorem ecmp_any (x y : En) (w : World) : Calls Tryz.prog 90 #[eV x, eV y] w (NumE (ec x y) w) := by
  obtain ⟨W2, hW2⟩ : ∃ W2, W2 = (w.alloc (.cells #[.string x.1, .int .i64 x.2.1, .int .i64 x.2.2.1, .string x.2.2.2.1, .int .i64 x.2.2.2.2.1, .int .i64 x.2.2.2.2.2] 69)).alloc (.cells #[.string y.1, .int .i64 y.2.1, .int .i64 y.2.2.1, .string y.2.2.2.1, .int .i64 y.2.2.2.2.1, .int .i64 y.2.2.2.2.2] 69) := ⟨_, rfl⟩
  have B2 := Lib.hid (show Below w.heap.size w W2 by rw [hW2]; exact ((Below.refl _ _).alloc (Nat.le_refl _) _).alloc (by simp) _)
  obtain ⟨A, hA⟩ : ∃ A, A = w.heap.size := ⟨_, rfl⟩
  obtain ⟨B, hB⟩ : ∃ B, B = w.heap.size + 1 := ⟨_, rfl⟩
  have kA : W2.heap[A]? = some (.cells #[.string x.1, .int .i64 x.2.1, .int .i64 x.2.2.1, .string x.2.2.2.1, .int .i64 x.2.2.2.2.1, .int .i64 x.2.2.2.2.2] 69 (0, 0)) := by rw [hW2, hA]; exact heap_alloc2_old w _ _
  have kB : W2.heap[B]? = some (.cells #[.string y.1, .int .i64 y.2.1, .int .i64 y.2.2.1, .string y.2.2.2.1, .int .i64 y.2.2.2.2.1, .int .i64 y.2.2.2.2.2] 69 (0, 0)) := by rw [hW2, hB]; exact heap_alloc2_new w _ _
  have lA : A < W2.heap.size := by rw [hW2, hA]; simp; omega
  have lB : B < W2.heap.size := by rw [hW2, hB]; simp
  have HSS : Hid (∀ W, Below W2.heap.size W2 W → (fun w' => w'.cell? ⟨A, 0, none⟩ = some (.string x.1) ∧ w'.cell? ⟨A, 1, none⟩ = some (.int .i64 x.2.1) ∧ w'.cell? ⟨B, 0, none⟩ = some (.string y.1) ∧ w'.cell? ⟨B, 1, none⟩ = some (.int .i64 y.2.1)) W) := Lib.hid fun W hW =>
    ⟨cell_of_row W A 0 _ 69 (0, 0) ((hW.block A lA).trans kA), cell_of_row W A 1 _ 69 (0, 0) ((hW.block A lA).trans kA), cell_of_row W B 0 _ 69 (0, 0) ((hW.block B lB).trans kB), cell_of_row W B 1 _ 69 (0, 0) ((hW.block B lB).trans kB)⟩
  have CP := Lib.hid fun W => (show Calls Tryz.prog 76 #[.string x.1, .string y.1] W fun e w' => e = .returned (.int .i64 (cb x.1 y.1)) ∧ W = w' from (comp_any x.1 y.1 W).mono fun _ _ h => ⟨h.1, h.2.symm⟩)
  have CI := Lib.hid fun W => cmpInt_any x.2.1 y.2.1 W
  have OR := Lib.hid fun W (h : W.heap[W2.heap.size]? = some (.cells #[.int .i64 (cb x.1 y.1), .int .i64 (ci x.2.1 y.2.1)] 3 (0, 0))) => or_two (cb x.1 y.1) (ci x.2.1 y.2.1) W2.heap.size W h
  have HEC : Hid (orV (cb x.1 y.1) (ci x.2.1 y.2.1) = ec x y) := Lib.hid rfl
  obtain ⟨z0, z1, z2, z3⟩ := HSS.out W2 (Below.refl _ _)
  have HA := Lib.hid hA
  have b2s := B2.out.size
  clear kA kB
  go_enter Tryz.func90, Tryz.ntmps90
  go_wp2_with fail
  rw [← hW2, ← hB, ← hA]
  clear hW2 hB hA
  refine wp_region_held_drew (S := fun w' => w'.cell? ⟨A, 0, none⟩ = some (.string x.1) ∧ w'.cell? ⟨A, 1, none⟩ = some (.int .i64 x.2.1) ∧ w'.cell? ⟨B, 0, none⟩ = some (.string y.1) ∧ w'.cell? ⟨B, 1, none⟩ = some (.int .i64 y.2.1)) (by kernel_rfl) (HSS.out W2 (Below.refl _ _)) (fun hHeld => ?_)
  refine wpAnyH_take (i := 0) (oi := { dst := some 5, op := Op.fieldAddr 69 (Operand.tmp 2) 0, type := 0, pos := "index.go:63", after := #[], guard := none }) (v := ?vp0) rfl (by kernel_rfl) (by kernel_rfl) (by kernel_rfl) (fun _ _ _ h => h) (Or.inl ⟨by rfl, ?yp0⟩) (by assumption) ?rp0
  case yp0 => (intro w' hSw; (try dsimp only at hSw); go_simp; try with_reducible rfl)
  try simp only [Act.put, List.setIfInBounds_toArray, List.set_cons_zero, List.set_cons_succ]
  refine wpAnyH_take (i := 1) (oi := { dst := some 6, op := Op.load 9 (Operand.tmp 5), type := 9, pos := "index.go:63", after := #[{ on := 0, ground := Ground.data }], guard := none }) (v := ?vp1) rfl (by kernel_rfl) (by kernel_rfl) (by kernel_rfl) (fun _ _ _ h => h) (Or.inl ⟨by rfl, ?yp1⟩) (by assumption) ?rp1
  case yp1 => (intro w' hSw; (try dsimp only at hSw); go_simp; try with_reducible rfl)
  try simp only [Act.put, List.setIfInBounds_toArray, List.set_cons_zero, List.set_cons_succ]
  refine wpAnyH_take (i := 2) (oi := { dst := some 7, op := Op.fieldAddr 69 (Operand.tmp 3) 0, type := 0, pos := "index.go:63", after := #[], guard := none }) (v := ?vp2) rfl (by kernel_rfl) (by kernel_rfl) (by kernel_rfl) (fun _ _ _ h => h) (Or.inl ⟨by rfl, ?yp2⟩) (by assumption) ?rp2
  case yp2 => (intro w' hSw; (try dsimp only at hSw); go_simp; try with_reducible rfl)
  try simp only [Act.put, List.setIfInBounds_toArray, List.set_cons_zero, List.set_cons_succ]
  refine wpAnyH_take (i := 3) (oi := { dst := some 8, op := Op.load 9 (Operand.tmp 7), type := 9, pos := "index.go:63", after := #[{ on := 2, ground := Ground.data }], guard := none }) (v := ?vp3) rfl (by kernel_rfl) (by kernel_rfl) (by kernel_rfl) (fun _ _ _ h => h) (Or.inl ⟨by rfl, ?yp3⟩) (by assumption) ?rp3
  case yp3 => (intro w' hSw; (try dsimp only at hSw); go_simp; try with_reducible rfl)
  try simp only [Act.put, List.setIfInBounds_toArray, List.set_cons_zero, List.set_cons_succ]
  refine wpAnyH_take (i := 5) (oi := { dst := some 10, op := Op.fieldAddr 69 (Operand.tmp 2) 1, type := 0, pos := "index.go:63", after := #[], guard := none }) (v := ?vp5) rfl (by kernel_rfl) (by kernel_rfl) (by kernel_rfl) (fun _ _ _ h => h) (Or.inl ⟨by rfl, ?yp5⟩) (by assumption) ?rp5
  case yp5 => (intro w' hSw; (try dsimp only at hSw); go_simp; try with_reducible rfl)
  try simp only [Act.put, List.setIfInBounds_toArray, List.set_cons_zero, List.set_cons_succ]
  refine wpAnyH_take (i := 6) (oi := { dst := some 11, op := Op.load 3 (Operand.tmp 10), type := 3, pos := "index.go:63", after := #[{ on := 5, ground := Ground.data }], guard := none }) (v := ?vp6) rfl (by kernel_rfl) (by kernel_rfl) (by kernel_rfl) (fun _ _ _ h => h) (Or.inl ⟨by rfl, ?yp6⟩) (by assumption) ?rp6
  case yp6 => (intro w' hSw; (try dsimp only at hSw); go_simp; try with_reducible rfl)
  try simp only [Act.put, List.setIfInBounds_toArray, List.set_cons_zero, List.set_cons_succ]
  refine wpAnyH_take (i := 7) (oi := { dst := some 12, op := Op.fieldAddr 69 (Operand.tmp 3) 1, type := 0, pos := "index.go:63", after := #[], guard := none }) (v := ?vp7) rfl (by kernel_rfl) (by kernel_rfl) (by kernel_rfl) (fun _ _ _ h => h) (Or.inl ⟨by rfl, ?yp7⟩) (by assumption) ?rp7
  case yp7 => (intro w' hSw; (try dsimp only at hSw); go_simp; try with_reducible rfl)
  try simp only [Act.put, List.setIfInBounds_toArray, List.set_cons_zero, List.set_cons_succ]
  refine wpAnyH_take (i := 8) (oi := { dst := some 13, op := Op.load 3 (Operand.tmp 12), type := 3, pos := "index.go:63", after := #[{ on := 7, ground := Ground.data }], guard := none }) (v := ?vp8) rfl (by kernel_rfl) (by kernel_rfl) (by kernel_rfl) (fun _ _ _ h => h) (Or.inl ⟨by rfl, ?yp8⟩) (by assumption) ?rp8
  case yp8 => (intro w' hSw; (try dsimp only at hSw); go_simp; try with_reducible rfl)
  try simp only [Act.put, List.setIfInBounds_toArray, List.set_cons_zero, List.set_cons_succ]
  refine wpAnyH_ready (rs := [4]) (by kernel_rfl) (by simp) ?_
  refine AllReadyH.cons (o := { dst := some 9, op := Op.call { callee := Callee.value (Operand.func 76), args := #[Operand.tmp 6, Operand.tmp 8], argTypes := #[9, 9] }, type := 3, pos := "index.go:63", after := #[{ on := 1, ground := Ground.data }, { on := 3, ground := Ground.data }], guard := none }) rfl (fun K hK => ?_) AllReadyH.nil
  go_simp
  refine (CP.out _).mono ?_
  rintro e w' ⟨rfl, rfl⟩
  go_wp2_with fail
  refine hK.out _ _ (HSS.out W2 (Below.refl _ _)) (fun hHeldp4 => ?_)
  clear hK K hHeld
  try simp only [Act.put, List.setIfInBounds_toArray, List.set_cons_zero, List.set_cons_succ]
  refine wpAnyH_ready (rs := [9]) (by kernel_rfl) (by simp) ?_
  refine AllReadyH.cons (o := { dst := some 14, op := Op.call { callee := Callee.value (Operand.func 121), args := #[Operand.tmp 11, Operand.tmp 13], argTypes := #[3, 3] }, type := 3, pos := "index.go:63", after := #[{ on := 6, ground := Ground.data }, { on := 8, ground := Ground.data }, { on := 4, ground := Ground.chain }], guard := none }) rfl (fun K hK => ?_) AllReadyH.nil
  go_simp
  refine (CI.out _).mono ?_
  rintro e w' ⟨rfl, rfl⟩
  go_wp2_with fail
  refine hK.out _ _ (HSS.out W2 (Below.refl _ _)) (fun hHeldp9 => ?_)
  clear hK K hHeldp4
  try simp only [Act.put, List.setIfInBounds_toArray, List.set_cons_zero, List.set_cons_succ]
  refine wpAnyH_ready (rs := [10]) (by kernel_rfl) (by simp) ?_
  refine AllReadyH.cons (o := { dst := some 15, op := Op.buildSlice 201 2 #[(0, Operand.tmp 9), (1, Operand.tmp 14)], type := 201, pos := "index.go:63", after := #[{ on := 4, ground := Ground.data }, { on := 9, ground := Ground.data }], guard := none }) rfl (fun K hK => ?_) AllReadyH.nil
  go_simp
  refine hK.out _ _ (HSS.out _ (((Below.refl _ _).alloc (Nat.le_refl _) _).drew)) (fun hHeldp10 => ?_)
  clear hK K hHeldp9
  try simp only [Act.put, List.setIfInBounds_toArray, List.set_cons_zero, List.set_cons_succ]
  refine wpAnyH_ready (rs := [11]) (by kernel_rfl) (by simp) ?_
  refine AllReadyH.cons (o := { dst := some 16, op := Op.call { callee := Callee.value (Operand.func 120), args := #[Operand.tmp 15], argTypes := #[201] }, type := 3, pos := "index.go:63", after := #[{ on := 10, ground := Ground.data }, { on := 9, ground := Ground.chain }], guard := none }) rfl (fun K hK => ?_) AllReadyH.nil
  go_simp
  refine (OR.out (World.drew (W2.alloc (.cells #[.int .i64 (cb x.1 y.1), .int .i64 (ci x.2.1 y.2.1)] 3))) (heap_alloc_new W2 _)).mono ?_
  rintro e w' ⟨rfl, rfl⟩
  go_wp2_with fail
  refine hK.out _ _ (HSS.out _ (((Below.refl _ _).alloc (Nat.le_refl _) _).drew)) (fun hHeldp11 => ?_)
  clear hK K hHeldp10
  try simp only [Act.put, List.setIfInBounds_toArray, List.set_cons_zero, List.set_cons_succ]
  refine wpAnyH_take (i := 12) (oi := { dst := some 4, op := Op.assign (Operand.tmp 16), type := 3, pos := "index.go:63", after := #[{ on := 11, ground := Ground.data }, { on := 11, ground := Ground.chain }, { on := 0, ground := Ground.phase }, { on := 1, ground := Ground.phase }, { on := 2, ground := Ground.phase }, { on := 3, ground := Ground.phase }, { on := 4, ground := Ground.phase }, { on := 5, ground := Ground.phase }, { on := 6, ground := Ground.phase }, { on := 7, ground := Ground.phase }, { on := 8, ground := Ground.phase }, { on := 9, ground := Ground.phase }, { on := 10, ground := Ground.phase }, { on := 11, ground := Ground.phase }], guard := none }) (v := ?vp12) rfl (by kernel_rfl) (by kernel_rfl) (by kernel_rfl) (fun _ _ _ h => h) (Or.inl ⟨by rfl, ?yp12⟩) (by assumption) ?rp12
  case yp12 => (intro w' hSw; (try dsimp only at hSw); go_simp; try with_reducible rfl)
  try simp only [Act.put, List.setIfInBounds_toArray, List.set_cons_zero, List.set_cons_succ]
  refine wpAnyH_done (by kernel_rfl) ?_ _
  go_wp2_with fail
  go_ret
  exact ⟨ret_i HEC.out, (B2.out.trans (((Below.refl _ _).alloc (Nat.le_refl _) _).mono b2s)).drew⟩
end Go.Proofs.YtdmmjfmjohliiaaGreatDoor
namespace Go.Proofs.YtdmmjfmjohliiaaGreatDoor
open Go Go.RowKit

/-- Can x and e not be both? -/
def exB (e x : En) : Bool := decide (x.1 = e.1) && (decide (x.2.1 = e.2.1) || (decide (x.2.1 = 0) || decide (e.2.1 = 0)))
def FlagE (b : Bool) (w : World) (e : Ending) (w' : World) : Prop := e = .returned (.bool b) ∧ Below w.heap.size w w'
set_option maxRecDepth 100000 in
set_option maxHeartbeats 2000000 in
theorem excludes_any (e x : En) (w : World) : Calls Tryz.prog 88 #[eV e, eV x] w (FlagE (exB e x) w) := by
  obtain ⟨ep, es, em, ed, et, ez⟩ := e
  obtain ⟨xp, xs, xm, xd, xt, xz⟩ := x
  by_cases hp : xp = ep
  · subst hp
    by_cases h1 : xs = es
    · subst h1
      have HV := Lib.hid (show exB (xp, xs, em, ed, et, ez) (xp, xs, xm, xd, xt, xz) = true by simp [exB])
      go_enter Tryz.func88, Tryz.ntmps88
      go_wp2
      go_ret
      exact ⟨ret_b HV.out.symm, ((Below.refl _ _).alloc (Nat.le_refl _) _).alloc (by simp) _⟩
    · have h1b : (xs == es) = false := by simpa using h1
      by_cases h2 : xs = 0
      · have h2b : (xs == 0) = true := by simpa using h2
        have HV := Lib.hid (show exB (xp, es, em, ed, et, ez) (xp, xs, xm, xd, xt, xz) = true by simp [exB, h2])
        clear h1 h2
        go_enter Tryz.func88, Tryz.ntmps88
        go_wp2
        go_ret
        exact ⟨ret_b HV.out.symm, ((Below.refl _ _).alloc (Nat.le_refl _) _).alloc (by simp) _⟩
      · have h2b : (xs == 0) = false := by simpa using h2
        have HV := Lib.hid (show exB (xp, es, em, ed, et, ez) (xp, xs, xm, xd, xt, xz) = (es == 0) by simp [exB, h1, h2]; rw [Bool.eq_iff_iff]; simp)
        clear h1 h2
        go_enter Tryz.func88, Tryz.ntmps88
        go_wp2
        go_ret
        exact ⟨ret_b HV.out.symm, ((Below.refl _ _).alloc (Nat.le_refl _) _).alloc (by simp) _⟩
  · have e1 : ¬ xp.toList = ep.toList := fun h => hp (tl_eq h)
    have e1b : (xp.toList == ep.toList) = false := by simpa using e1
    have HV := Lib.hid (show exB (ep, es, em, ed, et, ez) (xp, xs, xm, xd, xt, xz) = false by simp [exB, hp])
    clear hp
    go_enter Tryz.func88, Tryz.ntmps88
    go_wp2
    go_ret
    exact ⟨ret_b HV.out.symm, ((Below.refl _ _).alloc (Nat.le_refl _) _).alloc (by simp) _⟩

theorem enters_put (args : Array Value) (w : World) : (callFunc 87 args).run Tryz.prog w = .ok (.enter 87 args) w := enters_of Tryz.func87 (by kernel_rfl) rfl args w
theorem enters_drop (args : Array Value) (w : World) : (callFunc 81 args).run Tryz.prog w = .ok (.enter 81 args) w := enters_of Tryz.func81 (by kernel_rfl) rfl args w
theorem enters_wrong (args : Array Value) (w : World) : (callFunc 112 args).run Tryz.prog w = .ok (.enter 112 args) w := enters_of Tryz.func112 (by kernel_rfl) rfl args w
theorem enters_excl (args : Array Value) (w : World) : (callFunc 88 args).run Tryz.prog w = .ok (.enter 88 args) w := enters_of Tryz.func88 (by kernel_rfl) rfl args w

set_option maxHeartbeats 1000000 in
theorem drop_pred (w0 : World) (B b : Nat) (q : ByteArray) (hc : w0.cell? ⟨b, 0, none⟩ = some (.string q)) (hb : b < B) (hB : B ≤ w0.heap.size) :
    PBE B w0 81 (.pointer (some ⟨b, 0, none⟩)) (fun x => decide (x.1 = q)) := by
  intro W x hW _
  have c0 : W.cell? ⟨b, 0, none⟩ = some (.string q) := (hW.cell (p := ⟨b, 0, none⟩) hb).trans hc
  have hlt : b < W.heap.size := Nat.lt_of_lt_of_le hb (Nat.le_trans hB hW.size)
  obtain ⟨p, st, m, d, t, z⟩ := x
  clear hc hW hb hB
  by_cases h : p = q
  · subst h
    go_enter Tryz.func81, Tryz.ntmps81
    go_wp2
    go_ret
    exact ⟨by simp, (Below.refl _ _).alloc (Nat.le_refl _) _⟩
  · have e1 : ¬ p.toList = q.toList := fun e => h (tl_eq e)
    have e1' : (p.toList == q.toList) = false := by simpa using e1
    have HD := Lib.hid (decide_eq_false h)
    clear h
    go_enter Tryz.func81, Tryz.ntmps81
    go_wp2
    go_ret
    exact ⟨ret_b HD.out.symm, (Below.refl _ _).alloc (Nat.le_refl _) _⟩

/-- What can't be beside e goes. -/
def goneB (e x : En) : Bool := exB e x || cls x.1.data.toList e.1.data.toList
set_option maxRecDepth 100000 in
set_option maxHeartbeats 2000000 in
theorem put_pred (w0 : World) (B b : Nat) (e : En) (he : e.1.size ≤ 1000000) (hc : w0.heap[b]? = some (.cells #[.string e.1, .int .i64 e.2.1, .int .i64 e.2.2.1, .string e.2.2.2.1, .int .i64 e.2.2.2.2.1, .int .i64 e.2.2.2.2.2] 69 (0, 0))) (hb : b < B) (hB : B ≤ w0.heap.size) :
    PBE B w0 87 (.pointer (some ⟨b, 0, none⟩)) (goneB e) := by
  intro W x hW hx
  have kW := (hW.block b hb).trans hc
  have hlt : b < W.heap.size := Nat.lt_of_lt_of_le hb (Nat.le_trans hB hW.size)
  obtain ⟨W1, hW1⟩ : ∃ W1, W1 = W.alloc (.cells #[.string x.1, .int .i64 x.2.1, .int .i64 x.2.2.1, .string x.2.2.2.1, .int .i64 x.2.2.2.2.1, .int .i64 x.2.2.2.2.2] 69) := ⟨_, rfl⟩
  have B1 : Below W.heap.size W W1 := by rw [hW1]; exact (Below.refl _ _).alloc (Nat.le_refl _) _
  have k1 : W1.heap[b]? = _ := (B1.block b hlt).trans kW
  obtain ⟨G, hG⟩ : ∃ G, G = W.heap.size := ⟨_, rfl⟩
  have kx : W1.heap[G]? = some (.cells #[.string x.1, .int .i64 x.2.1, .int .i64 x.2.2.1, .string x.2.2.2.1, .int .i64 x.2.2.2.2.1, .int .i64 x.2.2.2.2.2] 69 (0, 0)) := by rw [hW1, hG]; exact heap_alloc_new W _
  have lb : b < W1.heap.size := Nat.lt_of_lt_of_le hlt B1.size
  have lG : G < W1.heap.size := by rw [hG, hW1]; simp
  have EE := Lib.hid fun V (hV : Below W1.heap.size W1 V) => (show V.cell? ⟨b, 0, none⟩ = some (.string e.1) from cell_of_row V b 0 _ 69 (0, 0) ((hV.block b lb).trans k1))
  have XX := Lib.hid fun V (hV : Below W1.heap.size W1 V) => (show V.cell? ⟨G, 0, none⟩ = some (.string x.1) from cell_of_row V G 0 _ 69 (0, 0) ((hV.block G lG).trans kx))
  have a0 := cell_of_row W1 b 0 _ 69 (0, 0) k1
  have a1 := cell_of_row W1 b 1 _ 69 (0, 0) k1
  have a2 := cell_of_row W1 b 2 _ 69 (0, 0) k1
  have a3 := cell_of_row W1 b 3 _ 69 (0, 0) k1
  have a4 := cell_of_row W1 b 4 _ 69 (0, 0) k1
  have a5 := cell_of_row W1 b 5 _ 69 (0, 0) k1
  have EX := Lib.hid (excludes_any e x W1)
  have CL := Lib.hid fun V => clash_any x.1 e.1 V hx he
  have HB1 := Lib.hid B1
  have HGB := Lib.hid (show goneB e x = (exB e x || cls x.1.data.toList e.1.data.toList) from rfl)
  obtain ⟨q, hq⟩ : ∃ q, q = exB e x := ⟨_, rfl⟩
  rw [← hq] at EX HGB
  rw [hW1] at a0 a1 a2 a3 a4 a5
  have b1s := B1.size
  clear hc hW hb hB kW k1 kx B1 hq
  go_enter Tryz.func87, Tryz.ntmps87
  go_wp2_with fail
  rw [← hW1, ← hG]
  clear hW1 hG a0 a1 a2 a3 a4 a5
  refine EX.out.mono ?_
  rintro r w2 ⟨rfl, b2⟩
  have c0 := EE.out w2 b2
  have d0 := XX.out w2 b2
  have HB2 := Lib.hid (HB1.out.trans (b2.mono b1s))
  clear b2 EX
  cases q with
  | true =>
    go_wp2_with fail
    go_ret
    exact ⟨ret_b HGB.out.symm, HB2.out⟩
  | false =>
    go_wp2_with fail
    refine (CL.out _).mono ?_
    rintro r w3 ⟨rfl, rfl⟩
    go_wp2_with fail
    go_ret
    exact ⟨ret_b (by rw [HGB.out]; rfl), HB2.out⟩

def OwnE (l : List En) (w : World) (e : Ending) (w' : World) : Prop := KeptToE w.heap.size w l e w'
set_option maxHeartbeats 1000000 in
theorem withoutE_any (w0 w : World) (B : Nat) (hb : Below B w0 w) (hB : B ≤ w.heap.size) (v : Value) (l : List En) (g : Nat) (c : Value) (p : En → Bool) (h : Reads 6 cE w v l) (hs : SizedE l) (hl : l.length ≤ 100000)
    (eg : ∀ args w, (callFunc g args).run Tryz.prog w = .ok (.enter g args) w) (hp : PBE B w0 g c p) :
    Calls Tryz.prog 80 #[v, .func (.func g) #[] #[c]] w (KeptToE B w0 (l.filter fun x => !p x)) := by
  have CL := Lib.hid (cloneE_any w v l h hl)
  have DL := Lib.hid fun W (hW : Below B w0 W) (hBW : B ≤ W.heap.size) u ho => deleteE_any w0 W B hW hBW u l g c p ho hs hl eg hp
  clear h hs hp
  go_enter Tryz.func80, Tryz.ntmps80
  go_wp2_with fail
  refine CL.out.mono ?_
  rintro e w1 ⟨u, rfl, ho, hb1⟩
  have HO := Lib.hid (own_base ho hB)
  have HB1 := Lib.hid (hb.trans (hb1.mono hB))
  have hs1 : B ≤ w1.heap.size := by have := hb1.size; omega
  clear ho hb1
  go_wp2_with fail
  refine (DL.out _ HB1.out hs1 _ HO.out).mono ?_
  rintro e w2 ⟨u2, rfl, hr2, hb2, hw2⟩
  have HR := Lib.hid hr2
  have HB2 := Lib.hid hb2
  have HW2 := Lib.hid hw2
  clear hr2 hb2 hw2
  go_wp2_with fail
  go_ret
  exact ⟨_, rfl, HR.out, HB2.out, HW2.out⟩

def dropE (l : List En) (p : ByteArray) : List En := l.filter fun x => !decide (x.1 = p)
set_option maxHeartbeats 1000000 in
theorem drop_any (w : World) (v : Value) (l : List En) (q : ByteArray) (h : Reads 6 cE w v l) (hs : SizedE l) (hl : l.length ≤ 100000) :
    Calls Tryz.prog 36 #[v, .string q] w (OwnE (dropE l q) w) := by
  obtain ⟨W1, hW1⟩ : ∃ W1, W1 = w.alloc (.cells #[.string q] 9) := ⟨_, rfl⟩
  have B1 : Below w.heap.size w W1 := by rw [hW1]; exact (Below.refl _ _).alloc (Nat.le_refl _) _
  have K1 : W1.cell? ⟨w.heap.size, 0, none⟩ = some (.string q) := by rw [hW1]; exact (cell_new_l w _ _).1
  have hsz : W1.heap.size = w.heap.size + 1 := by rw [hW1]; simp
  have WO := Lib.hid (withoutE_any W1 W1 W1.heap.size (Below.refl _ _) (Nat.le_refl _) v l 81 (.pointer (some ⟨w.heap.size, 0, none⟩)) (fun x => decide (x.1 = q)) (h.below B1) hs hl enters_drop (drop_pred W1 _ w.heap.size q K1 (by omega) (Nat.le_refl _)))
  have HB1 := Lib.hid B1
  have HW := Lib.hid hsz
  obtain ⟨A, c, rfl⟩ := h.form
  clear h hs K1 B1 hsz
  go_enter Tryz.func36, Tryz.ntmps36
  go_wp2_with fail
  rw [← hW1]
  clear hW1
  refine WO.out.mono ?_
  rintro e w2 ⟨u2, rfl, hr2, hb2, hw2⟩
  have HR := Lib.hid hr2
  have HB2 := Lib.hid (HB1.out.trans (hb2.mono HB1.out.size))
  have HW2 := Lib.hid (own_base hw2 HB1.out.size)
  clear hr2 hb2 hw2
  go_wp2_with fail
  go_ret
  exact ⟨_, rfl, HR.out, HB2.out, HW2.out⟩
end Go.Proofs.YtdmmjfmjohliiaaGreatDoor
namespace Go.Proofs.YtdmmjfmjohliiaaGreatDoor
open Go Go.RowKit

/-- A bound method that takes an entry: what it says, wherever all below B is as it was in w0. -/
def PBB (B : Nat) (w0 : World) (g : Nat) (c : Value) (p : En → Bool) : Prop :=
  ∀ (W : World) (x : En), Below B w0 W → x.1.size ≤ 1000000 → Calls Tryz.prog g #[c, .agg #[.string x.1, .int .i64 x.2.1, .int .i64 x.2.2.1, .string x.2.2.2.1, .int .i64 x.2.2.2.2.1, .int .i64 x.2.2.2.2.2]] W fun e w' => e = .returned (.bool (p x)) ∧ Below W.heap.size W w'
set_option maxHeartbeats 2000000 in
theorem indexB_any (w0 w : World) (B : Nat) (hb : Below B w0 w) (hB : B ≤ w.heap.size) (v : Value) (l : List En) (g : Nat) (c : Value) (p : En → Bool) (h : Reads 6 cE w v l) (hs : SizedE l) (hl : l.length ≤ 100000)
    (eg : ∀ args w, (callFunc g args).run Tryz.prog w = .ok (.enter g args) w) (hp : PBB B w0 g c p) :
    Calls Tryz.prog 119 #[v, .func (.func g) #[c] #[]] w (IdxToE p l w) := by
  obtain ⟨A, cap, rfl⟩ := h.form
  have hn := h.len
  have HO := Lib.hid h
  have HP := Lib.hid hp
  have HS := Lib.hid hs
  clear h hn hp hs
  go_enter Tryz.func119, Tryz.ntmps119
  go_wp2
  go_loopw [5, 8] (fun _ s8 wr => ∃ k : Nat, k ≤ l.length ∧ s8 = .int .i64 k ∧ Below w.heap.size w wr ∧ Hid ((l.take k).any p = false)) (fun _ s8 _ => l.length - (intOf s8).toNat)
  case atStart => exact ⟨0, Nat.zero_le _, rfl, Below.refl _ _, Lib.hid (by simp)⟩
  case round =>
    obtain ⟨k, hk, rfl, hb1, A1⟩ := hrel
    by_cases hlt : k < l.length
    · obtain ⟨x, hx⟩ : ∃ x, l[k]? = some x := ⟨_, List.getElem?_eq_getElem hlt⟩
      obtain ⟨ad, rfl, c0, c1, c2, c3, c4, c5⟩ := Ents.at_ (HO.out.below hb1) hx
      have hcall := HP.out wr x (hb.trans (hb1.mono hB)) (HS.out.at_ hx)
      have HX := Lib.hid hx
      have HT : Hid (p x = false → (l.take (k + 1)).any p = false) := Lib.hid fun hq => by
        rw [take_snoc hx, List.any_append, A1.out]; simp [hq]
      clear hx
      cases hq : p x with
      | true =>
        rw [hq] at hcall
        have HQ := Lib.hid hq
        clear hq
        go_wp2_with (go_at_fn g; refine hcall.mono ?_; rintro e w' ⟨rfl, hb2⟩)
        go_ret
        exact ⟨_, rfl, hb1.trans (hb2.mono hb1.size), .inr ⟨k, x, rfl, HX.out, HQ.out, A1.out⟩⟩
      | false =>
        rw [hq] at hcall
        have HQ := Lib.hid hq
        clear hq
        go_wp2_with (go_at_fn g; refine hcall.mono ?_; rintro e w' ⟨rfl, hb2⟩)
        go_roundw
        case rel => exact ⟨k + 1, by omega, by go_num, hb1.trans (hb2.mono hb1.size), Lib.hid (HT.out HQ.out)⟩
        case measure => simp [intOf]; omega
    · obtain rfl : k = l.length := by omega
      go_wp2
      go_ret
      exact ⟨_, rfl, hb1, .inl ⟨rfl, by have := A1.out; rwa [List.take_length] at this⟩⟩

set_option maxHeartbeats 1000000 in
theorem containsB_any (w0 w : World) (B : Nat) (hb : Below B w0 w) (hB : B ≤ w.heap.size) (v : Value) (l : List En) (g : Nat) (c : Value) (p : En → Bool) (h : Reads 6 cE w v l) (hs : SizedE l) (hl : l.length ≤ 100000)
    (eg : ∀ args w, (callFunc g args).run Tryz.prog w = .ok (.enter g args) w) (hp : PBB B w0 g c p) :
    Calls Tryz.prog 111 #[v, .func (.func g) #[c] #[]] w (FlagTo (l.any p) w) := by
  have S := Lib.hid (indexB_any w0 w B hb hB v l g c p h hs hl eg hp)
  obtain ⟨A, cap, rfl⟩ := h.form
  clear h hs hp
  go_enter Tryz.func111, Tryz.ntmps111
  go_wp2_with fail
  refine S.out.mono ?_
  rintro e w' ⟨n, rfl, hb1, hn⟩
  rcases hn with ⟨rfl, hn⟩ | ⟨i, x, rfl, hx, hpx, -⟩
  · have HN := Lib.hid hn
    clear hn
    go_wp2_with fail
    go_ret
    exact ⟨ret_b HN.out.symm, hb1⟩
  · have HN := Lib.hid (any_hitE hx hpx)
    clear hx hpx
    go_wp2_with fail
    go_ret
    exact ⟨ret_b HN.out.symm, hb1⟩

set_option maxHeartbeats 1000000 in
theorem excl_pred (w0 : World) (B : Nat) (e : En) : PBB B w0 88 (eV e) (exB e) := fun W x _ _ => excludes_any e x W
end Go.Proofs.YtdmmjfmjohliiaaGreatDoor
namespace Go.Proofs.YtdmmjfmjohliiaaGreatDoor
open Go Go.RowKit

/-- What is wrong with a file by itself. -/
def causeF (f : Fl) : Int := if chk f.1.data.toList ≠ 0 then chk f.1.data.toList else if ¬ (f.2.1 = 1 ∨ f.2.1 = 2) then 1 else if 4096 < f.2.2.size then 4 else 0
/-- Does the last file ahead not lie before it? -/
def lateF (a : List Fl) (f : Fl) : Bool := match a.getLast? with | some g => decide (0 ≤ cb g.1 f.1) | none => false
def clashF (a : List Fl) (p : ByteArray) : Bool := a.any fun g => cls g.1.data.toList p.data.toList
def refF (a : List Fl) (f : Fl) : Int := if causeF f ≠ 0 then causeF f else if lateF a f = true then 6 else if clashF a f.1 = true then 11 else 0
def wrongF : List Fl → List Fl → Option (Nat × Int)
  | _, [] => none
  | a, f :: r => if refF a f ≠ 0 then some (a.length, refF a f) else wrongF (a ++ [f]) r
/-- What Check says. -/
def chkF (l : List Fl) : Option (Nat × Int) := if 64 < l.length then some (64, 4) else wrongF [] l

theorem wrongF_step : ∀ (a r : List Fl), (∀ i f, r[i]? = some f → refF (a ++ r.take i) f = 0) → wrongF a r = none
  | _, [], _ => rfl
  | a, f :: r, h => by
    have h0 := h 0 f rfl
    simp only [List.take_zero, List.append_nil] at h0
    unfold wrongF
    rw [if_neg (by rw [h0]; simp)]
    refine wrongF_step (a ++ [f]) r fun i g hg => ?_
    have := h (i + 1) g (by simpa using hg)
    rw [List.take_succ_cons] at this
    rw [List.append_assoc]
    exact this
theorem wrongF_at : ∀ (a r : List Fl) (i : Nat) (f : Fl), (∀ j g, j < i → r[j]? = some g → refF (a ++ r.take j) g = 0) → r[i]? = some f → refF (a ++ r.take i) f ≠ 0 → wrongF a r = some (a.length + i, refF (a ++ r.take i) f)
  | _, [], _, _, _, h, _ => by simp at h
  | a, f :: r, 0, g, _, h, hr => by
    simp at h
    subst h
    simp only [List.take_zero, List.append_nil] at hr ⊢
    unfold wrongF
    rw [if_pos hr]
    simp
  | a, f :: r, i + 1, g, hb, h, hr => by
    have h0 := hb 0 f (by omega) rfl
    simp only [List.take_zero, List.append_nil] at h0
    unfold wrongF
    rw [if_neg (by rw [h0]; simp)]
    rw [List.take_succ_cons] at hr ⊢
    have := wrongF_at (a ++ [f]) r i g (fun j x hj hx => by
      have := hb (j + 1) x (by omega) (by simpa using hx)
      rw [List.take_succ_cons] at this
      rw [List.append_assoc]
      exact this) (by simpa using h) (by rw [List.append_assoc]; exact hr)
    rw [this, List.append_assoc]
    simp
    omega
theorem wrongF_good : ∀ (a r : List Fl), wrongF a r = none → ∀ i f, r[i]? = some f → refF (a ++ r.take i) f = 0
  | _, [], _, i, f, h => by simp at h
  | a, f :: r, h, i, g, hg => by
    unfold wrongF at h
    by_cases hr : refF a f = 0
    · rw [if_neg (by rw [hr]; simp)] at h
      cases i with
      | zero => simp at hg; subst hg; simpa using hr
      | succ i =>
        have := wrongF_good (a ++ [f]) r h i g (by simpa using hg)
        rw [List.append_assoc] at this
        rw [List.take_succ_cons]
        exact this
    · rw [if_pos hr] at h; cases h
theorem chkF_long {l : List Fl} (h : 64 < l.length) : chkF l = some (64, 4) := if_pos h
theorem chkF_good {l : List Fl} (h : ¬ 64 < l.length) (hg : ∀ i f, l[i]? = some f → refF (l.take i) f = 0) : chkF l = none := by
  unfold chkF
  rw [if_neg h]
  exact wrongF_step [] l fun i f hf => by simpa using hg i f hf
theorem chkF_bad {l : List Fl} {i : Nat} {f : Fl} (h : ¬ 64 < l.length) (hg : ∀ j g, j < i → l[j]? = some g → refF (l.take j) g = 0) (hi : l[i]? = some f) (hb : refF (l.take i) f ≠ 0) : chkF l = some (i, refF (l.take i) f) := by
  unfold chkF
  rw [if_neg h]
  have := wrongF_at [] l i f (fun j g hj hx => by simpa using hg j g hj hx) hi (by simpa using hb)
  simpa using this
theorem chkF_at {l : List Fl} (h : chkF l = none) {i : Nat} {f : Fl} (hi : l[i]? = some f) : refF (l.take i) f = 0 := by
  unfold chkF at h
  by_cases hl : 64 < l.length
  · rw [if_pos hl] at h; cases h
  · rw [if_neg hl] at h
    simpa using wrongF_good [] l h i f hi
theorem chkF_len {l : List Fl} (h : chkF l = none) : l.length ≤ 64 := by
  unfold chkF at h
  by_cases hl : 64 < l.length
  · rw [if_pos hl] at h; cases h
  · omega
theorem refF_cause {a : List Fl} {f : Fl} (h : refF a f = 0) : causeF f = 0 := by
  unfold refF at h
  by_cases hc : causeF f = 0
  · exact hc
  · rw [if_pos hc] at h; exact absurd h hc
theorem refF_late {a : List Fl} {f : Fl} (h : refF a f = 0) : lateF a f = false := by
  have hc := refF_cause h
  unfold refF at h
  rw [if_neg (by rw [hc]; simp)] at h
  by_cases hl : lateF a f = true
  · rw [if_pos hl] at h; cases h
  · simpa using hl
theorem refF_clash {a : List Fl} {f : Fl} (h : refF a f = 0) : clashF a f.1 = false := by
  have hc := refF_cause h
  have hl := refF_late h
  unfold refF at h
  rw [if_neg (by rw [hc]; simp), if_neg (by rw [hl]; simp)] at h
  by_cases hk : clashF a f.1 = true
  · rw [if_pos hk] at h; cases h
  · simpa using hk
theorem refF_zero {a : List Fl} {f : Fl} (hc : causeF f = 0) (hl : lateF a f = false) (hk : clashF a f.1 = false) : refF a f = 0 := by
  unfold refF
  rw [if_neg (by rw [hc]; simp), if_neg (by rw [hl]; simp), if_neg (by rw [hk]; simp)]
theorem causeF_path {f : Fl} (h : causeF f = 0) : chk f.1.data.toList = 0 := by
  unfold causeF at h
  by_cases hc : chk f.1.data.toList = 0
  · exact hc
  · rw [if_pos hc] at h; exact h
theorem causeF_size {f : Fl} (h : causeF f = 0) : f.1.size ≤ 64 := by
  have := causeF_path h
  unfold chk at this
  by_cases hl : 64 < f.1.data.toList.length
  · rw [if_pos hl] at this; cases this
  · rw [size_list] at hl; omega
theorem chkF_rise {l : List Fl} (h : chkF l = none) : RiseF l := by
  refine rise_adj l fun t x y hx hy => ?_
  have := refF_late (chkF_at h hy)
  unfold lateF at this
  rw [List.getLast?_take, if_neg (by omega)] at this
  have e : (l[t + 1 - 1]?).or l.getLast? = some x := by rw [Nat.add_sub_cancel, hx]; rfl
  rw [e] at this
  have := of_decide_eq_false this
  omega
end Go.Proofs.YtdmmjfmjohliiaaGreatDoor
namespace Go.Proofs.YtdmmjfmjohliiaaGreatDoor
open Go Go.RowKit

def NumTo (n : Int) (w : World) (e : Ending) (w' : World) : Prop := e = .returned (.int .i64 n) ∧ Below w.heap.size w w'

set_option maxRecDepth 100000 in
set_option maxHeartbeats 4000000 in
theorem refuses_any (w : World) (v : Value) (l : List Fl) (f : Fl) (h : Reads 3 cF w v l) (hs : Sized l) (hf : f.1.size ≤ 1000000) (hd : f.2.2.size ≤ 1000000) (hl : l.length ≤ 100000) :
    Calls Tryz.prog 73 #[v, .agg #[.string f.1, .int .i64 f.2.1, .string f.2.2]] w (NumTo (refF l f) w) := by
  obtain ⟨p, m, d⟩ := f
  simp only at hf hd
  obtain ⟨W1, hW1⟩ : ∃ W1, W1 = w.alloc (.cells #[.string p, .int .i64 m, .string d] 56) := ⟨_, rfl⟩
  have B1 : Below w.heap.size w W1 := by rw [hW1]; exact (Below.refl _ _).alloc (Nat.le_refl _) _
  have K1 : W1.heap[w.heap.size]? = some (.cells #[.string p, .int .i64 m, .string d] 56 (0, 0)) := by rw [hW1]; exact heap_alloc_new w _
  have CK := Lib.hid (check_any p W1 (by omega))
  obtain ⟨G, hG⟩ : ∃ G, G = w.heap.size := ⟨_, rfl⟩
  have hG1 : G < W1.heap.size := by rw [hG, hW1]; simp
  rw [← hG] at K1
  have ZZ := Lib.hid fun W (hW : Below W1.heap.size W1 W) => (show W.cell? ⟨G, 0, none⟩ = some (.string p) ∧ W.cell? ⟨G, 1, none⟩ = some (.int .i64 m) ∧ W.cell? ⟨G, 2, none⟩ = some (.string d) from
    ⟨cell_of_row W G 0 _ 56 (0, 0) ((hW.block G hG1).trans K1), cell_of_row W G 1 _ 56 (0, 0) ((hW.block G hG1).trans K1), cell_of_row W G 2 _ 56 (0, 0) ((hW.block G hG1).trans K1)⟩)
  obtain ⟨y0, y1, y2⟩ := ZZ.out W1 (Below.refl _ _)
  obtain ⟨A, c, rfl⟩ := h.form
  have R1 := Lib.hid (h.below B1)
  have hlen := h.len
  have HB1 := Lib.hid B1
  have HS := Lib.hid hs
  have b1s := B1.size
  clear h K1 B1 hs
  go_enter Tryz.func73, Tryz.ntmps73
  go_wp2_with fail
  rw [← hW1, ← hG]
  clear hW1
  have HG := Lib.hid hG
  clear hG
  refine CK.out.mono ?_
  rintro e w2 ⟨rfl, b2⟩
  obtain ⟨z0, z1, z2⟩ := ZZ.out w2 b2
  have hGl : G < w2.heap.size := Nat.lt_of_lt_of_le hG1 b2.size
  clear y0 y1 y2 CK
  have hle : w.heap.size ≤ G := by rw [HG.out]; exact Nat.le_refl _
  have HB2 := Lib.hid (HB1.out.trans (b2.mono b1s))
  have R2 := Lib.hid (R1.out.below b2)
  clear HB1 R1
  by_cases hc : chk p.data.toList = 0
  · have hc1 : (chk p.data.toList == 0) = true := by simpa using hc
    have hc2 : (chk p.data.toList != 0) = false := by simpa using hc
    have HC := Lib.hid hc
    clear hc
    obtain ⟨c0, hc0⟩ : ∃ c0, c0 = chk p.data.toList := ⟨_, rfl⟩
    by_cases hm : m = 1 ∨ m = 2
    · by_cases hd1 : 4096 < d.size
      · have HV : Hid (refF l (p, m, d) = 4) := Lib.hid (by unfold refF causeF; simp [HC.out, hm, hd1])
        have hdi : (4096 : Int) < (d.size : Int) := by omega
        rcases hm with rfl | rfl
        all_goals
          go_wp2_with fail
          go_ret
          exact ⟨ret_i HV.out.symm, HB2.out⟩
      · have HCF : Hid (causeF (p, m, d) = 0) := Lib.hid (by unfold causeF; simp [HC.out, hm, hd1])
        have hdi : ¬ (4096 : Int) < (d.size : Int) := by omega
        by_cases hl0 : l = []
        · subst hl0
          have HV : Hid (refF [] (p, m, d) = 0) := Lib.hid (refF_zero HCF.out rfl rfl)
          have CT := Lib.hid fun W (hW : Below w2.heap.size w2 W) => containsF_any w2 W w2.heap.size hW hW.size (.slice A ([] : List Fl).length c) [] 110 (.pointer (some ⟨G, 0, none⟩)) (fun x => cls x.1.data.toList p.data.toList) (R2.out.below hW) (fun x hx => by cases hx) (by simp) enters_refuses (refuses_pred w2 _ G p hf z0 hGl (Nat.le_refl _))
          simp only [List.length_nil] at CT ⊢
          rcases hm with rfl | rfl
          all_goals
            go_wp2_with fail
            go_quiet (fail)
            have BQ := Lib.hid (below_drewN (Below.refl w2.heap.size w2) nq)
            go_wp2_with fail
            refine (CT.out _ BQ.out).mono ?_
            rintro e w3 ⟨rfl, b3⟩
            have B3 := Lib.hid (HB2.out.trans (Below.trans BQ.out (b3.mono BQ.out.size) |>.mono HB2.out.size))
            clear b3
            go_wp2_with fail
            go_ret
            exact ⟨ret_i HV.out.symm, B3.out⟩
        · obtain ⟨n, hn⟩ : ∃ n, l.length = n + 1 := ⟨l.length - 1, by have := List.length_pos_iff.2 hl0; omega⟩
          obtain ⟨g, hg⟩ : ∃ g, l[n]? = some g := ⟨_, List.getElem?_eq_getElem (by omega)⟩
          have hlast : l.getLast? = some g := by rw [List.getLast?_eq_getElem?, hn]; exact hg
          obtain ⟨ad, rfl, c0, c1, c2⟩ := Fils.at_ R2.out hg
          have hw : IntKind.i64.wrap ((l.length : Int) - 1) = (n : Int) := by rw [IntKind.wrap_i64] <;> omega
          have hpos : (0 : Int) < (l.length : Int) := by omega
          have hpos2 : 0 < l.length := by omega
          have hnl : (n : Int) < (l.length : Int) := by omega
          have hnl2 : n < l.length := by omega
          have hn0 : (0 : Int) ≤ (n : Int) := Int.natCast_nonneg _
          have HLT : Hid (lateF l (p, m, d) = decide (0 ≤ cb g.1 p)) := Lib.hid (by unfold lateF; rw [hlast])
          have CP := Lib.hid fun W => comp_any g.1 p W
          have CT := Lib.hid fun W (hW : Below w2.heap.size w2 W) => containsF_any w2 W w2.heap.size hW hW.size (.slice (some ad) l.length c) l 110 (.pointer (some ⟨G, 0, none⟩)) (fun x => cls x.1.data.toList p.data.toList) (R2.out.below hW) HS.out hl enters_refuses (refuses_pred w2 _ G p hf z0 hGl (Nat.le_refl _))
          have HCT : Hid (clashF l p = l.any (fun x => cls x.1.data.toList p.data.toList)) := Lib.hid rfl
          obtain ⟨q, hq⟩ : ∃ q, q = l.any (fun x => cls x.1.data.toList p.data.toList) := ⟨_, rfl⟩
          obtain ⟨k, hk⟩ : ∃ k, k = cb g.1 p := ⟨_, rfl⟩
          rw [← hq] at CT HCT
          rw [← hk] at HLT CP
          clear hg hn hlast hq hk hl0
          by_cases hk0 : 0 ≤ k
          · have HV : Hid (refF l (p, m, d) = 6) := Lib.hid (by unfold refF; rw [if_neg (by rw [HCF.out]; simp), if_pos (by rw [HLT.out]; simpa using hk0)])
            rcases hm with rfl | rfl
            all_goals
              go_wp2_with fail
              go_quiet ((go_at_call 76; exact Calls.quiet_of_same ((CP.out _).mono fun _ _ h => ⟨h.1, h.2⟩)))
              have BQ := Lib.hid (below_drewN (Below.refl w2.heap.size w2) nq)
              go_wp2_with fail
              go_ret
              exact ⟨ret_i HV.out.symm, HB2.out.trans (BQ.out.mono HB2.out.size)⟩
          · have HL0 : Hid (lateF l (p, m, d) = false) := Lib.hid (by rw [HLT.out]; simpa using hk0)
            cases q with
            | true =>
              have HV : Hid (refF l (p, m, d) = 11) := Lib.hid (by unfold refF; rw [if_neg (by rw [HCF.out]; simp), if_neg (by rw [HL0.out]; simp), if_pos HCT.out])
              rcases hm with rfl | rfl
              all_goals
                go_wp2_with fail
                go_quiet ((go_at_call 76; exact Calls.quiet_of_same ((CP.out _).mono fun _ _ h => ⟨h.1, h.2⟩)))
                have BQ := Lib.hid (below_drewN (Below.refl w2.heap.size w2) nq)
                go_wp2_with fail
                refine (CT.out _ BQ.out).mono ?_
                rintro e w3 ⟨rfl, b3⟩
                have B3 := Lib.hid (HB2.out.trans (Below.trans BQ.out (b3.mono BQ.out.size) |>.mono HB2.out.size))
                clear b3
                go_wp2_with fail
                go_ret
                exact ⟨ret_i HV.out.symm, B3.out⟩
            | false =>
              have HV : Hid (refF l (p, m, d) = 0) := Lib.hid (refF_zero HCF.out HL0.out HCT.out)
              rcases hm with rfl | rfl
              all_goals
                go_wp2_with fail
                go_quiet ((go_at_call 76; exact Calls.quiet_of_same ((CP.out _).mono fun _ _ h => ⟨h.1, h.2⟩)))
                have BQ := Lib.hid (below_drewN (Below.refl w2.heap.size w2) nq)
                go_wp2_with fail
                refine (CT.out _ BQ.out).mono ?_
                rintro e w3 ⟨rfl, b3⟩
                have B3 := Lib.hid (HB2.out.trans (Below.trans BQ.out (b3.mono BQ.out.size) |>.mono HB2.out.size))
                clear b3
                go_wp2_with fail
                go_ret
                exact ⟨ret_i HV.out.symm, B3.out⟩
    · have HV : Hid (refF l (p, m, d) = 1) := Lib.hid (by unfold refF causeF; simp [HC.out, hm])
      have m1 : (m == 1) = false := by simpa using fun e => hm (.inl e)
      have m2 : (m == 2) = false := by simpa using fun e => hm (.inr e)
      have n1 : (m != 1) = true := by simpa using fun e => hm (.inl e)
      have n2 : (m != 2) = true := by simpa using fun e => hm (.inr e)
      clear hm
      go_wp2_with fail
      go_ret
      exact ⟨ret_i HV.out.symm, HB2.out⟩
  · have HV : Hid (refF l (p, m, d) = chk p.data.toList) := Lib.hid (by unfold refF causeF; simp [hc])
    have hne : (chk p.data.toList == 0) = false := by simpa using hc
    have hne2 : (chk p.data.toList != 0) = true := by simpa using hc
    clear hc
    go_wp2_with fail
    go_ret
    exact ⟨ret_i HV.out.symm, HB2.out⟩
end Go.Proofs.YtdmmjfmjohliiaaGreatDoor
namespace Go.Proofs.YtdmmjfmjohliiaaGreatDoor
open Go Go.RowKit

set_option maxHeartbeats 1000000 in
theorem wrong_pred (w0 : World) (B b : Nat) (q : ByteArray) (hq : q.size ≤ 1000000) (hc : w0.cell? ⟨b, 0, none⟩ = some (.string q)) (hb : b < B) (hB : B ≤ w0.heap.size) :
    PBE B w0 112 (.pointer (some ⟨b, 0, none⟩)) (fun x => cls x.1.data.toList q.data.toList) := by
  intro W x hW hx
  have c0 : W.cell? ⟨b, 0, none⟩ = some (.string q) := (hW.cell (p := ⟨b, 0, none⟩) hb).trans hc
  have hlt : b < W.heap.size := Nat.lt_of_lt_of_le hb (Nat.le_trans hB hW.size)
  obtain ⟨p, st, m, d, t, z⟩ := x
  have CL := Lib.hid fun W => clash_any p q W hx hq
  clear hc hW hb hB hx
  go_enter Tryz.func112, Tryz.ntmps112
  go_wp2_with fail
  refine (CL.out _).mono ?_
  rintro e w' ⟨rfl, rfl⟩
  go_wp2_with fail
  go_ret
  exact ⟨rfl, (Below.refl _ _).alloc (Nat.le_refl _) _⟩

/-- Can the numbers of e not be? -/
def badE (e : En) : Bool := decide (e.2.1 < 0) || (decide (3 < e.2.1) || (!(decide (e.2.2.1 = 1) || decide (e.2.2.1 = 2)) || (decide (e.2.2.2.2.1 < 0) || decide (e.2.2.2.2.2 < 0))))
/-- What is wrong with e by itself. -/
def ownE (e : En) : Int := if chk e.1.data.toList ≠ 0 then chk e.1.data.toList else if badE e = true then 1 else if 4096 < e.2.2.2.1.size then 4 else 0
/-- Does e come too late? -/
def lateE (l : List En) (e : En) : Bool := match l.getLast? with | none => false | some g => decide (0 ≤ ec g e)
/-- What is wrong with e behind l. -/
def wrE (l : List En) (e : En) : Int := if ownE e ≠ 0 then ownE e else if (lateE l e || l.any (exB e)) = true then 6 else if l.any (fun x => cls x.1.data.toList e.1.data.toList) = true then 11 else 0
theorem wrE_own {l : List En} {e : En} (h : ownE e ≠ 0) : wrE l e = ownE e := if_pos h

set_option maxRecDepth 100000 in
set_option maxHeartbeats 4000000 in
theorem wrong_own (w : World) (v : Value) (l : List En) (s : En) (h : Reads 6 cE w v l) (hs : s.1.size ≤ 1000000) (hd : s.2.2.2.1.size ≤ 1000000) (hbad : ownE s ≠ 0) :
    Calls Tryz.prog 74 #[eV s, v] w (NumTo (wrE l s) w) := by
  rw [wrE_own hbad]
  obtain ⟨p, st, m, d, t, z⟩ := s
  simp only at hs hd
  obtain ⟨W1, hW1⟩ : ∃ W1, W1 = w.alloc (.cells #[.string p, .int .i64 st, .int .i64 m, .string d, .int .i64 t, .int .i64 z] 69) := ⟨_, rfl⟩
  have B1 : Below w.heap.size w W1 := by rw [hW1]; exact (Below.refl _ _).alloc (Nat.le_refl _) _
  obtain ⟨G, hG⟩ : ∃ G, G = w.heap.size := ⟨_, rfl⟩
  have K1 : W1.heap[G]? = some (.cells #[.string p, .int .i64 st, .int .i64 m, .string d, .int .i64 t, .int .i64 z] 69 (0, 0)) := by rw [hW1, hG]; exact heap_alloc_new w _
  have hG1 : G < W1.heap.size := by rw [hG, hW1]; simp
  have CK := Lib.hid (check_any p W1 (by omega))
  have ZZ := Lib.hid fun V (hV : Below W1.heap.size W1 V) => (show V.cell? ⟨G, 0, none⟩ = some (.string p) ∧ V.cell? ⟨G, 1, none⟩ = some (.int .i64 st) ∧ V.cell? ⟨G, 2, none⟩ = some (.int .i64 m) ∧ V.cell? ⟨G, 3, none⟩ = some (.string d) ∧ V.cell? ⟨G, 4, none⟩ = some (.int .i64 t) ∧ V.cell? ⟨G, 5, none⟩ = some (.int .i64 z) from
    have kV := (hV.block G hG1).trans K1
    ⟨cell_of_row V G 0 _ _ (0, 0) kV, cell_of_row V G 1 _ _ (0, 0) kV, cell_of_row V G 2 _ _ (0, 0) kV, cell_of_row V G 3 _ _ (0, 0) kV, cell_of_row V G 4 _ _ (0, 0) kV, cell_of_row V G 5 _ _ (0, 0) kV⟩)
  obtain ⟨y0, y1, y2, y3, y4, y5⟩ := ZZ.out W1 (Below.refl _ _)
  obtain ⟨A, c, rfl⟩ := h.form
  have HB1 := Lib.hid B1
  have HN := Lib.hid hbad
  have b1s := B1.size
  clear h K1 B1 hbad
  go_enter Tryz.func74, Tryz.ntmps74
  go_wp2_with fail
  rw [← hW1, ← hG]
  clear hW1 hG
  refine CK.out.mono ?_
  rintro e w2 ⟨rfl, b2⟩
  obtain ⟨z0, z1, z2, z3, z4, z5⟩ := ZZ.out w2 b2
  clear y0 y1 y2 y3 y4 y5 CK
  have HB2 := Lib.hid (HB1.out.trans (b2.mono b1s))
  clear b2
  by_cases hc : chk p.data.toList = 0
  · have hc1 : (chk p.data.toList == 0) = true := by simpa using hc
    have hc2 : (chk p.data.toList != 0) = false := by simpa using hc
    have HC := Lib.hid hc
    clear hc
    obtain ⟨c0, hc0⟩ : ∃ c0, c0 = chk p.data.toList := ⟨_, rfl⟩
    have BAD : badE (p, st, m, d, t, z) = true → Hid (ownE (p, st, m, d, t, z) = 1) := fun h => Lib.hid (by unfold ownE; simp [HC.out, h])
    by_cases h1 : st < 0
    · have HV := BAD (by simp [badE, h1])
      clear BAD
      go_wp2_with fail
      go_ret
      exact ⟨ret_i HV.out.symm, HB2.out⟩
    by_cases h2 : 3 < st
    · have HV := BAD (by simp [badE, h2])
      clear BAD
      go_wp2_with fail
      go_ret
      exact ⟨ret_i HV.out.symm, HB2.out⟩
    by_cases hm : m = 1 ∨ m = 2
    · by_cases h4 : t < 0
      · have HV := BAD (by simp [badE, h4])
        clear BAD
        rcases hm with rfl | rfl
        all_goals
          go_wp2_with fail
          go_ret
          exact ⟨ret_i HV.out.symm, HB2.out⟩
      by_cases h5 : z < 0
      · have HV := BAD (by simp [badE, h5])
        clear BAD
        rcases hm with rfl | rfl
        all_goals
          go_wp2_with fail
          go_ret
          exact ⟨ret_i HV.out.symm, HB2.out⟩
      have HF := Lib.hid (show badE (p, st, m, d, t, z) = false by unfold badE; rcases hm with rfl | rfl <;> simp <;> omega)
      by_cases hd1 : 4096 < d.size
      · have HV : Hid (ownE (p, st, m, d, t, z) = 4) := Lib.hid (by unfold ownE; simp [HC.out, HF.out, hd1])
        have hdi : (4096 : Int) < (d.size : Int) := by omega
        clear BAD
        rcases hm with rfl | rfl
        all_goals
          go_wp2_with fail
          go_ret
          exact ⟨ret_i HV.out.symm, HB2.out⟩
      · exact absurd (show ownE (p, st, m, d, t, z) = 0 by unfold ownE; simp [HC.out, HF.out, hd1]) HN.out
    · have HV := BAD (by
        have e1 : ¬ m = 1 := fun e => hm (.inl e)
        have e2 : ¬ m = 2 := fun e => hm (.inr e)
        simp [badE, e1, e2])
      have m1 : (m == 1) = false := by simpa using fun e => hm (.inl e)
      have m2 : (m == 2) = false := by simpa using fun e => hm (.inr e)
      have n1 : (m != 1) = true := by simpa using fun e => hm (.inl e)
      have n2 : (m != 2) = true := by simpa using fun e => hm (.inr e)
      clear BAD hm
      go_wp2_with fail
      go_ret
      exact ⟨ret_i HV.out.symm, HB2.out⟩
  · have HV : Hid (ownE (p, st, m, d, t, z) = chk p.data.toList) := Lib.hid (if_pos hc)
    have hc1 : (chk p.data.toList == 0) = false := by simpa using hc
    have hc2 : (chk p.data.toList != 0) = true := by simpa using hc
    clear hc
    go_wp2_with fail
    go_ret
    exact ⟨ret_i HV.out.symm, HB2.out⟩
end Go.Proofs.YtdmmjfmjohliiaaGreatDoor
namespace Go.Proofs.YtdmmjfmjohliiaaGreatDoor
open Go Go.RowKit

theorem own_zero {p : ByteArray} {st m : Int} {d : ByteArray} {t z : Int} (h : ownE (p, st, m, d, t, z) = 0) : chk p.data.toList = 0 ∧ 0 ≤ st ∧ st ≤ 3 ∧ (m = 1 ∨ m = 2) ∧ 0 ≤ t ∧ 0 ≤ z ∧ d.size ≤ 4096 := by
  unfold ownE at h
  by_cases hc : chk p.data.toList = 0
  · rw [if_neg (by simpa using hc)] at h
    by_cases hb : badE (p, st, m, d, t, z) = true
    · rw [if_pos hb] at h; cases h
    · rw [if_neg hb] at h
      by_cases hd : 4096 < d.size
      · rw [if_pos hd] at h; cases h
      · have hb' : badE (p, st, m, d, t, z) = false := by simpa using hb
        unfold badE at hb'
        simp at hb'
        omega
  · rw [if_pos hc] at h; exact absurd h hc
theorem wrE_rest {l : List En} {e : En} (h : ownE e = 0) : wrE l e = if (lateE l e || l.any (exB e)) = true then 6 else if l.any (fun x => cls x.1.data.toList e.1.data.toList) = true then 11 else 0 := if_neg (by rw [h]; simp)

set_option maxRecDepth 100000 in
set_option maxHeartbeats 4000000 in
theorem wrong_rest (w : World) (v : Value) (l : List En) (s : En) (h : Reads 6 cE w v l) (hs : s.1.size ≤ 1000000) (hz : SizedE l) (hl : l.length ≤ 100000) (hok : ownE s = 0) :
    Calls Tryz.prog 74 #[eV s, v] w (NumTo (wrE l s) w) := by
  obtain ⟨p, st, m, d, t, z⟩ := s
  simp only at hs
  obtain ⟨hc, hst0, hst3, hm, ht0, hz0, hd⟩ := own_zero hok
  have HOK := Lib.hid hok
  clear hok
  obtain ⟨W1, hW1⟩ : ∃ W1, W1 = w.alloc (.cells #[.string p, .int .i64 st, .int .i64 m, .string d, .int .i64 t, .int .i64 z] 69) := ⟨_, rfl⟩
  have B1 : Below w.heap.size w W1 := by rw [hW1]; exact (Below.refl _ _).alloc (Nat.le_refl _) _
  obtain ⟨G, hG⟩ : ∃ G, G = w.heap.size := ⟨_, rfl⟩
  have K1 : W1.heap[G]? = some (.cells #[.string p, .int .i64 st, .int .i64 m, .string d, .int .i64 t, .int .i64 z] 69 (0, 0)) := by rw [hW1, hG]; exact heap_alloc_new w _
  have hG1 : G < W1.heap.size := by rw [hG, hW1]; simp
  have CK := Lib.hid (check_any p W1 (by omega))
  have ZZ := Lib.hid fun V (hV : Below W1.heap.size W1 V) => (show V.cell? ⟨G, 0, none⟩ = some (.string p) ∧ V.cell? ⟨G, 1, none⟩ = some (.int .i64 st) ∧ V.cell? ⟨G, 2, none⟩ = some (.int .i64 m) ∧ V.cell? ⟨G, 3, none⟩ = some (.string d) ∧ V.cell? ⟨G, 4, none⟩ = some (.int .i64 t) ∧ V.cell? ⟨G, 5, none⟩ = some (.int .i64 z) from
    have kV := (hV.block G hG1).trans K1
    ⟨cell_of_row V G 0 _ _ (0, 0) kV, cell_of_row V G 1 _ _ (0, 0) kV, cell_of_row V G 2 _ _ (0, 0) kV, cell_of_row V G 3 _ _ (0, 0) kV, cell_of_row V G 4 _ _ (0, 0) kV, cell_of_row V G 5 _ _ (0, 0) kV⟩)
  obtain ⟨y0, y1, y2, y3, y4, y5⟩ := ZZ.out W1 (Below.refl _ _)
  obtain ⟨A, c, rfl⟩ := h.form
  have R1 := Lib.hid (h.below B1)
  have hlen := h.len
  have HS := Lib.hid hz
  have HB1 := Lib.hid B1
  have b1s := B1.size
  clear h K1 B1 hz
  go_enter Tryz.func74, Tryz.ntmps74
  go_wp2_with fail
  rw [← hW1, ← hG]
  clear hW1 hG
  refine CK.out.mono ?_
  rintro e w2 ⟨rfl, b2⟩
  obtain ⟨z0, z1, z2, z3, z4, z5⟩ := ZZ.out w2 b2
  clear y0 y1 y2 y3 y4 y5 CK
  have HB2 := Lib.hid (HB1.out.trans (b2.mono b1s))
  have R2 := Lib.hid (R1.out.below b2)
  have hGl : G < w2.heap.size := Nat.lt_of_lt_of_le hG1 b2.size
  have GG := Lib.hid fun V (hV : Below w2.heap.size w2 V) => ZZ.out V (b2.trans (hV.mono b2.size))
  clear b2
  have hc1 : (chk p.data.toList == 0) = true := by simpa using hc
  have hc2 : (chk p.data.toList != 0) = false := by simpa using hc
  have HC := Lib.hid hc
  clear hc
  obtain ⟨c0, hc0⟩ : ∃ c0, c0 = chk p.data.toList := ⟨_, rfl⟩
  have hst1 : ¬ st < 0 := by omega
  have hst2 : ¬ 3 < st := by omega
  have ht1 : ¬ t < 0 := by omega
  have hz1 : ¬ z < 0 := by omega
  have hd1 : ¬ (4096 : Int) < (d.size : Int) := by omega
  obtain ⟨qa, hqa⟩ : ∃ q, q = l.any (exB (p, st, m, d, t, z)) := ⟨_, rfl⟩
  obtain ⟨qc, hqc⟩ : ∃ q, q = l.any (fun x => cls x.1.data.toList p.data.toList) := ⟨_, rfl⟩
  have CT := Lib.hid fun W (hW : Below w2.heap.size w2 W) => containsB_any w2 W w2.heap.size hW hW.size (.slice A l.length c) l 88 (eV (p, st, m, d, t, z)) (exB (p, st, m, d, t, z)) (R2.out.below hW) HS.out hl enters_excl (excl_pred w2 _ _)
  have CC := Lib.hid fun W (hW : Below w2.heap.size w2 W) => containsE_any w2 W w2.heap.size hW hW.size (.slice A l.length c) l 112 (.pointer (some ⟨G, 0, none⟩)) (fun x => cls x.1.data.toList p.data.toList) (R2.out.below hW) HS.out hl enters_wrong (wrong_pred w2 _ G p hs z0 hGl (Nat.le_refl _))
  rw [← hqa] at CT
  rw [← hqc] at CC
  have HA := Lib.hid hqa
  have HQ := Lib.hid hqc
  clear hqa hqc
  rcases hm with rfl | rfl
  · by_cases hl0 : l = []
    · subst hl0
      simp only [List.length_nil] at CT CC ⊢
      obtain rfl : qa = false := HA.out
      obtain rfl : qc = false := HQ.out
      have HV : Hid (wrE [] (p, st, 1, d, t, z) = 0) := Lib.hid (by rw [wrE_rest HOK.out]; rfl)
      have SX := Lib.hid fun V (hV : Below w2.heap.size w2 V) => (show (fun w' => (w'.cell? ⟨G, 0, none⟩ = some (.string p) ∧ w'.cell? ⟨G, 1, none⟩ = some (.int .i64 st) ∧ w'.cell? ⟨G, 2, none⟩ = some (.int .i64 1) ∧ w'.cell? ⟨G, 3, none⟩ = some (.string d) ∧ w'.cell? ⟨G, 4, none⟩ = some (.int .i64 t) ∧ w'.cell? ⟨G, 5, none⟩ = some (.int .i64 z))) V from GG.out V hV)
      go_wp2_with fail
      refine wp_region_held_drew (S := fun w' => (w'.cell? ⟨G, 0, none⟩ = some (.string p) ∧ w'.cell? ⟨G, 1, none⟩ = some (.int .i64 st) ∧ w'.cell? ⟨G, 2, none⟩ = some (.int .i64 1) ∧ w'.cell? ⟨G, 3, none⟩ = some (.string d) ∧ w'.cell? ⟨G, 4, none⟩ = some (.int .i64 t) ∧ w'.cell? ⟨G, 5, none⟩ = some (.int .i64 z))) (by kernel_rfl) (SX.out _ (Below.refl _ _).drew) (fun hHeld => ?_)
      refine wpAnyH_take (i := 0) (oi := { dst := some 47, op := Op.move (Operand.tmp 6), type := 3, pos := "index.go:53", after := #[], guard := none }) (v := ?vap0) rfl (by kernel_rfl) (by kernel_rfl) (by kernel_rfl) (fun _ _ _ h => h) (Or.inl ⟨by rfl, ?yap0⟩) (by assumption) ?rap0
      case yap0 => (intro w' hSw; (try dsimp only at hSw); go_simp; try with_reducible rfl)
      try simp only [Act.put, List.setIfInBounds_toArray, List.set_cons_zero, List.set_cons_succ]
      refine wpAnyH_take (i := 1) (oi := { dst := some 48, op := Op.binOp BinOp.gtr 3 (Operand.tmp 47) (Operand.const (Value.int IntKind.i64 0)) 3, type := 4, pos := "index.go:53", after := #[{ on := 0, ground := Ground.data }], guard := none }) (v := ?vap1) rfl (by kernel_rfl) (by kernel_rfl) (by kernel_rfl) (fun _ _ _ h => h) (Or.inl ⟨by rfl, ?yap1⟩) (by assumption) ?rap1
      case yap1 => (intro w' hSw; (try dsimp only at hSw); go_simp; try with_reducible rfl)
      try simp only [Act.put, List.setIfInBounds_toArray, List.set_cons_zero, List.set_cons_succ]
      refine wpAnyH_take (i := 2) (oi := { dst := some 49, op := Op.move (Operand.tmp 48), type := 4, pos := "index.go:53", after := #[{ on := 1, ground := Ground.data }], guard := none }) (v := ?vap2) rfl (by kernel_rfl) (by kernel_rfl) (by kernel_rfl) (fun _ _ _ h => h) (Or.inl ⟨by rfl, ?yap2⟩) (by assumption) ?rap2
      case yap2 => (intro w' hSw; (try dsimp only at hSw); go_simp; try with_reducible rfl)
      try simp only [Act.put, List.setIfInBounds_toArray, List.set_cons_zero, List.set_cons_succ]
      refine wpAnyH_take (i := 3) (oi := { dst := some 50, op := Op.move (Operand.tmp 1), type := 24, pos := "index.go:53", after := #[{ on := 2, ground := Ground.guard }], guard := some (2, true) }) (v := undef) rfl (by kernel_rfl) (by kernel_rfl) (by kernel_rfl) (fun _ _ _ h => h) (Or.inr ⟨by rfl, rfl⟩) (by assumption) ?_
      try simp only [Act.put, List.setIfInBounds_toArray, List.set_cons_zero, List.set_cons_succ]
      refine wpAnyH_take (i := 4) (oi := { dst := some 51, op := Op.move (Operand.tmp 6), type := 3, pos := "index.go:53", after := #[{ on := 2, ground := Ground.guard }], guard := some (2, true) }) (v := undef) rfl (by kernel_rfl) (by kernel_rfl) (by kernel_rfl) (fun _ _ _ h => h) (Or.inr ⟨by rfl, rfl⟩) (by assumption) ?_
      try simp only [Act.put, List.setIfInBounds_toArray, List.set_cons_zero, List.set_cons_succ]
      refine wpAnyH_take (i := 5) (oi := { dst := some 52, op := Op.binOp BinOp.sub 3 (Operand.tmp 51) (Operand.const (Value.int IntKind.i64 1)) 3, type := 3, pos := "index.go:53", after := #[{ on := 4, ground := Ground.data }, { on := 2, ground := Ground.guard }], guard := some (2, true) }) (v := undef) rfl (by kernel_rfl) (by kernel_rfl) (by kernel_rfl) (fun _ _ _ h => h) (Or.inr ⟨by rfl, rfl⟩) (by assumption) ?_
      try simp only [Act.put, List.setIfInBounds_toArray, List.set_cons_zero, List.set_cons_succ]
      refine wpAnyH_take (i := 6) (oi := { dst := some 53, op := Op.indexAddr 24 (Operand.tmp 50) (Operand.tmp 52), type := 0, pos := "index.go:53", after := #[{ on := 3, ground := Ground.data }, { on := 5, ground := Ground.data }, { on := 2, ground := Ground.guard }], guard := some (2, true) }) (v := undef) rfl (by kernel_rfl) (by kernel_rfl) (by kernel_rfl) (fun _ _ _ h => h) (Or.inr ⟨by rfl, rfl⟩) (by assumption) ?_
      try simp only [Act.put, List.setIfInBounds_toArray, List.set_cons_zero, List.set_cons_succ]
      refine wpAnyH_take (i := 7) (oi := { dst := some 54, op := Op.load 69 (Operand.tmp 53), type := 69, pos := "index.go:53", after := #[{ on := 6, ground := Ground.data }, { on := 2, ground := Ground.guard }], guard := some (2, true) }) (v := undef) rfl (by kernel_rfl) (by kernel_rfl) (by kernel_rfl) (fun _ _ _ h => h) (Or.inr ⟨by rfl, rfl⟩) (by assumption) ?_
      try simp only [Act.put, List.setIfInBounds_toArray, List.set_cons_zero, List.set_cons_succ]
      refine wpAnyH_take (i := 8) (oi := { dst := some 55, op := Op.load 69 (Operand.tmp 2), type := 69, pos := "index.go:53", after := #[{ on := 2, ground := Ground.guard }], guard := some (2, true) }) (v := undef) rfl (by kernel_rfl) (by kernel_rfl) (by kernel_rfl) (fun _ _ _ h => h) (Or.inr ⟨by rfl, rfl⟩) (by assumption) ?_
      try simp only [Act.put, List.setIfInBounds_toArray, List.set_cons_zero, List.set_cons_succ]
      refine wpAnyH_take (i := 9) (oi := { dst := some 56, op := Op.call { callee := Callee.value (Operand.func 90), args := #[Operand.tmp 54, Operand.tmp 55], argTypes := #[69, 69] }, type := 3, pos := "index.go:53", after := #[{ on := 7, ground := Ground.data }, { on := 8, ground := Ground.data }, { on := 2, ground := Ground.chain }, { on := 2, ground := Ground.guard }], guard := some (2, true) }) (v := undef) rfl (by kernel_rfl) (by kernel_rfl) (by kernel_rfl) (fun _ _ _ h => h) (Or.inr ⟨by rfl, rfl⟩) (by assumption) ?_
      try simp only [Act.put, List.setIfInBounds_toArray, List.set_cons_zero, List.set_cons_succ]
      refine wpAnyH_take (i := 10) (oi := { dst := some 57, op := Op.binOp BinOp.geq 3 (Operand.tmp 56) (Operand.const (Value.int IntKind.i64 0)) 3, type := 4, pos := "index.go:53", after := #[{ on := 9, ground := Ground.data }, { on := 2, ground := Ground.guard }], guard := some (2, true) }) (v := undef) rfl (by kernel_rfl) (by kernel_rfl) (by kernel_rfl) (fun _ _ _ h => h) (Or.inr ⟨by rfl, rfl⟩) (by assumption) ?_
      try simp only [Act.put, List.setIfInBounds_toArray, List.set_cons_zero, List.set_cons_succ]
      refine wpAnyH_take (i := 11) (oi := { dst := some 58, op := Op.pick (Operand.tmp 49) (Operand.tmp 57) (Operand.const (Value.bool false)), type := 4, pos := "index.go:53", after := #[{ on := 2, ground := Ground.data }, { on := 10, ground := Ground.data }], guard := none }) (v := ?vap11) rfl (by kernel_rfl) (by kernel_rfl) (by kernel_rfl) (fun _ _ _ h => h) (Or.inl ⟨by rfl, ?yap11⟩) (by assumption) ?rap11
      case yap11 => (intro w' hSw; (try dsimp only at hSw); go_simp; try with_reducible rfl)
      try simp only [Act.put, List.setIfInBounds_toArray, List.set_cons_zero, List.set_cons_succ]
      refine wpAnyH_take (i := 12) (oi := { dst := some 59, op := Op.move (Operand.tmp 58), type := 4, pos := "index.go:53", after := #[{ on := 11, ground := Ground.data }, { on := 9, ground := Ground.chain }], guard := none }) (v := ?vap12) rfl (by kernel_rfl) (by kernel_rfl) (by kernel_rfl) (fun _ _ _ h => h) (Or.inl ⟨by rfl, ?yap12⟩) (by assumption) ?rap12
      case yap12 => (intro w' hSw; (try dsimp only at hSw); go_simp; try with_reducible rfl)
      try simp only [Act.put, List.setIfInBounds_toArray, List.set_cons_zero, List.set_cons_succ]
      refine wpAnyH_take (i := 13) (oi := { dst := some 60, op := Op.move (Operand.tmp 1), type := 24, pos := "index.go:53", after := #[{ on := 12, ground := Ground.guard }], guard := some (12, false) }) (v := ?vap13) rfl (by kernel_rfl) (by kernel_rfl) (by kernel_rfl) (fun _ _ _ h => h) (Or.inl ⟨by rfl, ?yap13⟩) (by assumption) ?rap13
      case yap13 => (intro w' hSw; (try dsimp only at hSw); go_simp; try with_reducible rfl)
      try simp only [Act.put, List.setIfInBounds_toArray, List.set_cons_zero, List.set_cons_succ]
      refine wpAnyH_take (i := 14) (oi := { dst := some 61, op := Op.load 69 (Operand.tmp 2), type := 69, pos := "index.go:53", after := #[{ on := 12, ground := Ground.guard }], guard := some (12, false) }) (v := ?vap14) rfl (by kernel_rfl) (by kernel_rfl) (by kernel_rfl) (fun _ _ _ h => h) (Or.inl ⟨by rfl, ?yap14⟩) (by assumption) ?rap14
      case yap14 => (intro w' hSw; (try dsimp only at hSw); go_simp; try with_reducible rfl)
      try simp only [Act.put, List.setIfInBounds_toArray, List.set_cons_zero, List.set_cons_succ]
      refine wpAnyH_ready (rs := [15]) (by kernel_rfl) (by simp) ?_
      refine AllReadyH.cons (o := { dst := some 62, op := Op.makeFunc (Fn.func 88) #[Operand.tmp 61] #[], type := 129, pos := "index.go:53", after := #[{ on := 14, ground := Ground.data }, { on := 12, ground := Ground.guard }], guard := some (12, false) }) rfl (fun K hK => ?_) AllReadyH.nil
      go_simp
      refine hK.out _ _ (SX.out _ (Below.refl _ _).drew) (fun hHeldap15 => ?_)
      clear hK K hHeld
      try simp only [Act.put, List.setIfInBounds_toArray, List.set_cons_zero, List.set_cons_succ]
      refine wpAnyH_ready (rs := [16]) (by kernel_rfl) (by simp) ?_
      refine AllReadyH.cons (o := { dst := some 63, op := Op.call { callee := Callee.value (Operand.func 111), args := #[Operand.tmp 60, Operand.tmp 62], argTypes := #[24, 129] }, type := 4, pos := "index.go:53", after := #[{ on := 13, ground := Ground.data }, { on := 15, ground := Ground.data }, { on := 12, ground := Ground.chain }, { on := 12, ground := Ground.guard }], guard := some (12, false) }) rfl (fun K hK => ?_) AllReadyH.nil
      go_simp
      refine (CT.out _ (Below.refl _ _).drew).mono ?_
      rintro e w3 ⟨rfl, b3⟩
      have hb3 : Below w2.heap.size w2 w3 := ((Below.refl _ _).drew).trans b3
      go_wp2_with fail
      refine hK.out _ _ (SX.out _ hb3) (fun hHeldap16 => ?_)
      clear hK K hHeldap15
      try simp only [Act.put, List.setIfInBounds_toArray, List.set_cons_zero, List.set_cons_succ]
      refine wpAnyH_take (i := 17) (oi := { dst := some 64, op := Op.pick (Operand.tmp 59) (Operand.const (Value.bool true)) (Operand.tmp 63), type := 4, pos := "index.go:53", after := #[{ on := 12, ground := Ground.data }, { on := 16, ground := Ground.data }], guard := none }) (v := ?vap17) rfl (by kernel_rfl) (by kernel_rfl) (by kernel_rfl) (fun _ _ _ h => h) (Or.inl ⟨by rfl, ?yap17⟩) (by assumption) ?rap17
      case yap17 => (intro w' hSw; (try dsimp only at hSw); go_simp; try with_reducible rfl)
      try simp only [Act.put, List.setIfInBounds_toArray, List.set_cons_zero, List.set_cons_succ]
      refine wpAnyH_done (by kernel_rfl) ?_ _
      go_wp2_with fail
      refine (CC.out _ hb3).mono ?_
      rintro e w5 ⟨rfl, b5⟩
      have B5 := Lib.hid (HB2.out.trans ((hb3.trans (b5.mono hb3.size)).mono HB2.out.size))
      clear b5
      go_wp2_with fail
      go_ret
      exact ⟨ret_i HV.out.symm, B5.out⟩
    · obtain ⟨n, hn⟩ : ∃ n, l.length = n + 1 := ⟨l.length - 1, by have := List.length_pos_iff.2 hl0; omega⟩
      obtain ⟨x, hx⟩ : ∃ x, l[n]? = some x := ⟨_, List.getElem?_eq_getElem (by omega)⟩
      have hlast : l.getLast? = some x := by rw [List.getLast?_eq_getElem?, hn]; exact hx
      obtain ⟨ad, rfl, c0, c1, c2, c3, c4, c5⟩ := Ents.at_ R2.out hx
      have SX := Lib.hid fun V (hV : Below w2.heap.size w2 V) => (show (fun w' => (w'.cell? ⟨G, 0, none⟩ = some (.string p) ∧ w'.cell? ⟨G, 1, none⟩ = some (.int .i64 st) ∧ w'.cell? ⟨G, 2, none⟩ = some (.int .i64 1) ∧ w'.cell? ⟨G, 3, none⟩ = some (.string d) ∧ w'.cell? ⟨G, 4, none⟩ = some (.int .i64 t) ∧ w'.cell? ⟨G, 5, none⟩ = some (.int .i64 z)) ∧ (w'.cell? (ad.add (n * 6)) = some (.string x.1) ∧ w'.cell? ⟨(ad.add (n * 6)).block, (ad.add (n * 6)).off + 1, none⟩ = some (.int .i64 x.2.1) ∧ w'.cell? ⟨(ad.add (n * 6)).block, (ad.add (n * 6)).off + 2, none⟩ = some (.int .i64 x.2.2.1) ∧ w'.cell? ⟨(ad.add (n * 6)).block, (ad.add (n * 6)).off + 3, none⟩ = some (.string x.2.2.2.1) ∧ w'.cell? ⟨(ad.add (n * 6)).block, (ad.add (n * 6)).off + 4, none⟩ = some (.int .i64 x.2.2.2.2.1) ∧ w'.cell? ⟨(ad.add (n * 6)).block, (ad.add (n * 6)).off + 5, none⟩ = some (.int .i64 x.2.2.2.2.2))) V from ⟨GG.out V hV, by
        obtain ⟨ad', e, k⟩ := Ents.at_ (R2.out.below hV) hx
        obtain rfl := Option.some.inj e
        exact k⟩)
      have hw : IntKind.i64.wrap ((l.length : Int) - 1) = (n : Int) := by rw [IntKind.wrap_i64] <;> omega
      have hpos : (0 : Int) < (l.length : Int) := by omega
      have hpos2 : 0 < l.length := by omega
      have hnl : (n : Int) < (l.length : Int) := by omega
      have hnl2 : n < l.length := by omega
      have hn0 : (0 : Int) ≤ (n : Int) := Int.natCast_nonneg _
      have CP := Lib.hid fun W => ecmp_any x (p, st, 1, d, t, z) W
      have HLT : Hid (lateE l (p, st, 1, d, t, z) = decide (0 ≤ ec x (p, st, 1, d, t, z))) := Lib.hid (by unfold lateE; rw [hlast])
      obtain ⟨k, hk⟩ : ∃ k, k = ec x (p, st, 1, d, t, z) := ⟨_, rfl⟩
      rw [← hk] at HLT CP
      clear hx hn hlast hk hl0
      by_cases hk0 : 0 ≤ k
      · have HL := Lib.hid (show lateE l (p, st, 1, d, t, z) = true by rw [HLT.out]; simpa using hk0)
        have HV := Lib.hid (show wrE l (p, st, 1, d, t, z) = 6 by rw [wrE_rest HOK.out, HL.out]; rfl)
        go_wp2_with fail
        refine wp_region_held_drew (S := fun w' => (w'.cell? ⟨G, 0, none⟩ = some (.string p) ∧ w'.cell? ⟨G, 1, none⟩ = some (.int .i64 st) ∧ w'.cell? ⟨G, 2, none⟩ = some (.int .i64 1) ∧ w'.cell? ⟨G, 3, none⟩ = some (.string d) ∧ w'.cell? ⟨G, 4, none⟩ = some (.int .i64 t) ∧ w'.cell? ⟨G, 5, none⟩ = some (.int .i64 z)) ∧ (w'.cell? (ad.add (n * 6)) = some (.string x.1) ∧ w'.cell? ⟨(ad.add (n * 6)).block, (ad.add (n * 6)).off + 1, none⟩ = some (.int .i64 x.2.1) ∧ w'.cell? ⟨(ad.add (n * 6)).block, (ad.add (n * 6)).off + 2, none⟩ = some (.int .i64 x.2.2.1) ∧ w'.cell? ⟨(ad.add (n * 6)).block, (ad.add (n * 6)).off + 3, none⟩ = some (.string x.2.2.2.1) ∧ w'.cell? ⟨(ad.add (n * 6)).block, (ad.add (n * 6)).off + 4, none⟩ = some (.int .i64 x.2.2.2.2.1) ∧ w'.cell? ⟨(ad.add (n * 6)).block, (ad.add (n * 6)).off + 5, none⟩ = some (.int .i64 x.2.2.2.2.2))) (by kernel_rfl) (SX.out _ (Below.refl _ _).drew) (fun hHeld => ?_)
        refine wpAnyH_take (i := 0) (oi := { dst := some 47, op := Op.move (Operand.tmp 6), type := 3, pos := "index.go:53", after := #[], guard := none }) (v := ?vbp0) rfl (by kernel_rfl) (by kernel_rfl) (by kernel_rfl) (fun _ _ _ h => h) (Or.inl ⟨by rfl, ?ybp0⟩) (by assumption) ?rbp0
        case ybp0 => (intro w' hSw; (try dsimp only at hSw); go_simp; try with_reducible rfl)
        try simp only [Act.put, List.setIfInBounds_toArray, List.set_cons_zero, List.set_cons_succ]
        refine wpAnyH_take (i := 1) (oi := { dst := some 48, op := Op.binOp BinOp.gtr 3 (Operand.tmp 47) (Operand.const (Value.int IntKind.i64 0)) 3, type := 4, pos := "index.go:53", after := #[{ on := 0, ground := Ground.data }], guard := none }) (v := ?vbp1) rfl (by kernel_rfl) (by kernel_rfl) (by kernel_rfl) (fun _ _ _ h => h) (Or.inl ⟨by rfl, ?ybp1⟩) (by assumption) ?rbp1
        case ybp1 => (intro w' hSw; (try dsimp only at hSw); go_simp; try with_reducible rfl)
        try simp only [Act.put, List.setIfInBounds_toArray, List.set_cons_zero, List.set_cons_succ]
        refine wpAnyH_take (i := 2) (oi := { dst := some 49, op := Op.move (Operand.tmp 48), type := 4, pos := "index.go:53", after := #[{ on := 1, ground := Ground.data }], guard := none }) (v := ?vbp2) rfl (by kernel_rfl) (by kernel_rfl) (by kernel_rfl) (fun _ _ _ h => h) (Or.inl ⟨by rfl, ?ybp2⟩) (by assumption) ?rbp2
        case ybp2 => (intro w' hSw; (try dsimp only at hSw); go_simp; try with_reducible rfl)
        try simp only [Act.put, List.setIfInBounds_toArray, List.set_cons_zero, List.set_cons_succ]
        refine wpAnyH_take (i := 3) (oi := { dst := some 50, op := Op.move (Operand.tmp 1), type := 24, pos := "index.go:53", after := #[{ on := 2, ground := Ground.guard }], guard := some (2, true) }) (v := ?vbp3) rfl (by kernel_rfl) (by kernel_rfl) (by kernel_rfl) (fun _ _ _ h => h) (Or.inl ⟨by rfl, ?ybp3⟩) (by assumption) ?rbp3
        case ybp3 => (intro w' hSw; (try dsimp only at hSw); go_simp; try with_reducible rfl)
        try simp only [Act.put, List.setIfInBounds_toArray, List.set_cons_zero, List.set_cons_succ]
        refine wpAnyH_take (i := 4) (oi := { dst := some 51, op := Op.move (Operand.tmp 6), type := 3, pos := "index.go:53", after := #[{ on := 2, ground := Ground.guard }], guard := some (2, true) }) (v := ?vbp4) rfl (by kernel_rfl) (by kernel_rfl) (by kernel_rfl) (fun _ _ _ h => h) (Or.inl ⟨by rfl, ?ybp4⟩) (by assumption) ?rbp4
        case ybp4 => (intro w' hSw; (try dsimp only at hSw); go_simp; try with_reducible rfl)
        try simp only [Act.put, List.setIfInBounds_toArray, List.set_cons_zero, List.set_cons_succ]
        refine wpAnyH_take (i := 5) (oi := { dst := some 52, op := Op.binOp BinOp.sub 3 (Operand.tmp 51) (Operand.const (Value.int IntKind.i64 1)) 3, type := 3, pos := "index.go:53", after := #[{ on := 4, ground := Ground.data }, { on := 2, ground := Ground.guard }], guard := some (2, true) }) (v := ?vbp5) rfl (by kernel_rfl) (by kernel_rfl) (by kernel_rfl) (fun _ _ _ h => h) (Or.inl ⟨by rfl, ?ybp5⟩) (by assumption) ?rbp5
        case ybp5 => (intro w' hSw; (try dsimp only at hSw); go_simp; try with_reducible rfl)
        try simp only [Act.put, List.setIfInBounds_toArray, List.set_cons_zero, List.set_cons_succ]
        refine wpAnyH_take (i := 6) (oi := { dst := some 53, op := Op.indexAddr 24 (Operand.tmp 50) (Operand.tmp 52), type := 0, pos := "index.go:53", after := #[{ on := 3, ground := Ground.data }, { on := 5, ground := Ground.data }, { on := 2, ground := Ground.guard }], guard := some (2, true) }) (v := ?vbp6) rfl (by kernel_rfl) (by kernel_rfl) (by kernel_rfl) (fun _ _ _ h => h) (Or.inl ⟨by rfl, ?ybp6⟩) (by assumption) ?rbp6
        case ybp6 => (intro w' hSw; (try dsimp only at hSw); go_simp; try with_reducible rfl)
        try simp only [Act.put, List.setIfInBounds_toArray, List.set_cons_zero, List.set_cons_succ]
        refine wpAnyH_take (i := 7) (oi := { dst := some 54, op := Op.load 69 (Operand.tmp 53), type := 69, pos := "index.go:53", after := #[{ on := 6, ground := Ground.data }, { on := 2, ground := Ground.guard }], guard := some (2, true) }) (v := ?vbp7) rfl (by kernel_rfl) (by kernel_rfl) (by kernel_rfl) (fun _ _ _ h => h) (Or.inl ⟨by rfl, ?ybp7⟩) (by assumption) ?rbp7
        case ybp7 => (intro w' hSw; (try dsimp only at hSw); go_simp; try with_reducible rfl)
        try simp only [Act.put, List.setIfInBounds_toArray, List.set_cons_zero, List.set_cons_succ]
        refine wpAnyH_take (i := 8) (oi := { dst := some 55, op := Op.load 69 (Operand.tmp 2), type := 69, pos := "index.go:53", after := #[{ on := 2, ground := Ground.guard }], guard := some (2, true) }) (v := ?vbp8) rfl (by kernel_rfl) (by kernel_rfl) (by kernel_rfl) (fun _ _ _ h => h) (Or.inl ⟨by rfl, ?ybp8⟩) (by assumption) ?rbp8
        case ybp8 => (intro w' hSw; (try dsimp only at hSw); go_simp; try with_reducible rfl)
        try simp only [Act.put, List.setIfInBounds_toArray, List.set_cons_zero, List.set_cons_succ]
        refine wpAnyH_ready (rs := [9]) (by kernel_rfl) (by simp) ?_
        refine AllReadyH.cons (o := { dst := some 56, op := Op.call { callee := Callee.value (Operand.func 90), args := #[Operand.tmp 54, Operand.tmp 55], argTypes := #[69, 69] }, type := 3, pos := "index.go:53", after := #[{ on := 7, ground := Ground.data }, { on := 8, ground := Ground.data }, { on := 2, ground := Ground.chain }, { on := 2, ground := Ground.guard }], guard := some (2, true) }) rfl (fun K hK => ?_) AllReadyH.nil
        go_simp
        refine (CP.out _).mono ?_
        rintro e w4 ⟨rfl, b4⟩
        have hb4 : Below w2.heap.size w2 w4 := ((Below.refl _ _).drew).trans b4
        go_wp2_with fail
        refine hK.out _ _ (SX.out _ hb4) (fun hHeldbp9 => ?_)
        clear hK K hHeld
        try simp only [Act.put, List.setIfInBounds_toArray, List.set_cons_zero, List.set_cons_succ]
        refine wpAnyH_take (i := 10) (oi := { dst := some 57, op := Op.binOp BinOp.geq 3 (Operand.tmp 56) (Operand.const (Value.int IntKind.i64 0)) 3, type := 4, pos := "index.go:53", after := #[{ on := 9, ground := Ground.data }, { on := 2, ground := Ground.guard }], guard := some (2, true) }) (v := ?vbp10) rfl (by kernel_rfl) (by kernel_rfl) (by kernel_rfl) (fun _ _ _ h => h) (Or.inl ⟨by rfl, ?ybp10⟩) (by assumption) ?rbp10
        case ybp10 => (intro w' hSw; (try dsimp only at hSw); go_simp; try with_reducible rfl)
        try simp only [Act.put, List.setIfInBounds_toArray, List.set_cons_zero, List.set_cons_succ]
        refine wpAnyH_take (i := 11) (oi := { dst := some 58, op := Op.pick (Operand.tmp 49) (Operand.tmp 57) (Operand.const (Value.bool false)), type := 4, pos := "index.go:53", after := #[{ on := 2, ground := Ground.data }, { on := 10, ground := Ground.data }], guard := none }) (v := ?vbp11) rfl (by kernel_rfl) (by kernel_rfl) (by kernel_rfl) (fun _ _ _ h => h) (Or.inl ⟨by rfl, ?ybp11⟩) (by assumption) ?rbp11
        case ybp11 => (intro w' hSw; (try dsimp only at hSw); go_simp; try with_reducible rfl)
        try simp only [Act.put, List.setIfInBounds_toArray, List.set_cons_zero, List.set_cons_succ]
        refine wpAnyH_take (i := 12) (oi := { dst := some 59, op := Op.move (Operand.tmp 58), type := 4, pos := "index.go:53", after := #[{ on := 11, ground := Ground.data }, { on := 9, ground := Ground.chain }], guard := none }) (v := ?vbp12) rfl (by kernel_rfl) (by kernel_rfl) (by kernel_rfl) (fun _ _ _ h => h) (Or.inl ⟨by rfl, ?ybp12⟩) (by assumption) ?rbp12
        case ybp12 => (intro w' hSw; (try dsimp only at hSw); go_simp; try with_reducible rfl)
        try simp only [Act.put, List.setIfInBounds_toArray, List.set_cons_zero, List.set_cons_succ]
        refine wpAnyH_take (i := 13) (oi := { dst := some 60, op := Op.move (Operand.tmp 1), type := 24, pos := "index.go:53", after := #[{ on := 12, ground := Ground.guard }], guard := some (12, false) }) (v := undef) rfl (by kernel_rfl) (by kernel_rfl) (by kernel_rfl) (fun _ _ _ h => h) (Or.inr ⟨by rfl, rfl⟩) (by assumption) ?_
        try simp only [Act.put, List.setIfInBounds_toArray, List.set_cons_zero, List.set_cons_succ]
        refine wpAnyH_take (i := 14) (oi := { dst := some 61, op := Op.load 69 (Operand.tmp 2), type := 69, pos := "index.go:53", after := #[{ on := 12, ground := Ground.guard }], guard := some (12, false) }) (v := undef) rfl (by kernel_rfl) (by kernel_rfl) (by kernel_rfl) (fun _ _ _ h => h) (Or.inr ⟨by rfl, rfl⟩) (by assumption) ?_
        try simp only [Act.put, List.setIfInBounds_toArray, List.set_cons_zero, List.set_cons_succ]
        refine wpAnyH_take (i := 15) (oi := { dst := some 62, op := Op.makeFunc (Fn.func 88) #[Operand.tmp 61] #[], type := 129, pos := "index.go:53", after := #[{ on := 14, ground := Ground.data }, { on := 12, ground := Ground.guard }], guard := some (12, false) }) (v := undef) rfl (by kernel_rfl) (by kernel_rfl) (by kernel_rfl) (fun _ _ _ h => h) (Or.inr ⟨by rfl, rfl⟩) (by assumption) ?_
        try simp only [Act.put, List.setIfInBounds_toArray, List.set_cons_zero, List.set_cons_succ]
        refine wpAnyH_take (i := 16) (oi := { dst := some 63, op := Op.call { callee := Callee.value (Operand.func 111), args := #[Operand.tmp 60, Operand.tmp 62], argTypes := #[24, 129] }, type := 4, pos := "index.go:53", after := #[{ on := 13, ground := Ground.data }, { on := 15, ground := Ground.data }, { on := 12, ground := Ground.chain }, { on := 12, ground := Ground.guard }], guard := some (12, false) }) (v := undef) rfl (by kernel_rfl) (by kernel_rfl) (by kernel_rfl) (fun _ _ _ h => h) (Or.inr ⟨by rfl, rfl⟩) (by assumption) ?_
        try simp only [Act.put, List.setIfInBounds_toArray, List.set_cons_zero, List.set_cons_succ]
        refine wpAnyH_take (i := 17) (oi := { dst := some 64, op := Op.pick (Operand.tmp 59) (Operand.const (Value.bool true)) (Operand.tmp 63), type := 4, pos := "index.go:53", after := #[{ on := 12, ground := Ground.data }, { on := 16, ground := Ground.data }], guard := none }) (v := ?vbp17) rfl (by kernel_rfl) (by kernel_rfl) (by kernel_rfl) (fun _ _ _ h => h) (Or.inl ⟨by rfl, ?ybp17⟩) (by assumption) ?rbp17
        case ybp17 => (intro w' hSw; (try dsimp only at hSw); go_simp; try with_reducible rfl)
        try simp only [Act.put, List.setIfInBounds_toArray, List.set_cons_zero, List.set_cons_succ]
        refine wpAnyH_done (by kernel_rfl) ?_ _
        go_wp2_with fail
        go_ret
        exact ⟨ret_i HV.out.symm, HB2.out.trans (hb4.mono HB2.out.size)⟩
      · have HL := Lib.hid (show lateE l (p, st, 1, d, t, z) = false by rw [HLT.out]; simpa using hk0)
        clear HLT
        have HLT := HL
        have hkd : decide (0 ≤ k) = false := by simpa using hk0
        cases qa with
        | true =>
          have HV := Lib.hid (show wrE l (p, st, 1, d, t, z) = 6 by rw [wrE_rest HOK.out, HLT.out, ← HA.out]; rfl)
          go_wp2_with fail
          refine wp_region_held_drew (S := fun w' => (w'.cell? ⟨G, 0, none⟩ = some (.string p) ∧ w'.cell? ⟨G, 1, none⟩ = some (.int .i64 st) ∧ w'.cell? ⟨G, 2, none⟩ = some (.int .i64 1) ∧ w'.cell? ⟨G, 3, none⟩ = some (.string d) ∧ w'.cell? ⟨G, 4, none⟩ = some (.int .i64 t) ∧ w'.cell? ⟨G, 5, none⟩ = some (.int .i64 z)) ∧ (w'.cell? (ad.add (n * 6)) = some (.string x.1) ∧ w'.cell? ⟨(ad.add (n * 6)).block, (ad.add (n * 6)).off + 1, none⟩ = some (.int .i64 x.2.1) ∧ w'.cell? ⟨(ad.add (n * 6)).block, (ad.add (n * 6)).off + 2, none⟩ = some (.int .i64 x.2.2.1) ∧ w'.cell? ⟨(ad.add (n * 6)).block, (ad.add (n * 6)).off + 3, none⟩ = some (.string x.2.2.2.1) ∧ w'.cell? ⟨(ad.add (n * 6)).block, (ad.add (n * 6)).off + 4, none⟩ = some (.int .i64 x.2.2.2.2.1) ∧ w'.cell? ⟨(ad.add (n * 6)).block, (ad.add (n * 6)).off + 5, none⟩ = some (.int .i64 x.2.2.2.2.2))) (by kernel_rfl) (SX.out _ (Below.refl _ _).drew) (fun hHeld => ?_)
          refine wpAnyH_take (i := 0) (oi := { dst := some 47, op := Op.move (Operand.tmp 6), type := 3, pos := "index.go:53", after := #[], guard := none }) (v := ?vcp0) rfl (by kernel_rfl) (by kernel_rfl) (by kernel_rfl) (fun _ _ _ h => h) (Or.inl ⟨by rfl, ?ycp0⟩) (by assumption) ?rcp0
          case ycp0 => (intro w' hSw; (try dsimp only at hSw); go_simp; try with_reducible rfl)
          try simp only [Act.put, List.setIfInBounds_toArray, List.set_cons_zero, List.set_cons_succ]
          refine wpAnyH_take (i := 1) (oi := { dst := some 48, op := Op.binOp BinOp.gtr 3 (Operand.tmp 47) (Operand.const (Value.int IntKind.i64 0)) 3, type := 4, pos := "index.go:53", after := #[{ on := 0, ground := Ground.data }], guard := none }) (v := ?vcp1) rfl (by kernel_rfl) (by kernel_rfl) (by kernel_rfl) (fun _ _ _ h => h) (Or.inl ⟨by rfl, ?ycp1⟩) (by assumption) ?rcp1
          case ycp1 => (intro w' hSw; (try dsimp only at hSw); go_simp; try with_reducible rfl)
          try simp only [Act.put, List.setIfInBounds_toArray, List.set_cons_zero, List.set_cons_succ]
          refine wpAnyH_take (i := 2) (oi := { dst := some 49, op := Op.move (Operand.tmp 48), type := 4, pos := "index.go:53", after := #[{ on := 1, ground := Ground.data }], guard := none }) (v := ?vcp2) rfl (by kernel_rfl) (by kernel_rfl) (by kernel_rfl) (fun _ _ _ h => h) (Or.inl ⟨by rfl, ?ycp2⟩) (by assumption) ?rcp2
          case ycp2 => (intro w' hSw; (try dsimp only at hSw); go_simp; try with_reducible rfl)
          try simp only [Act.put, List.setIfInBounds_toArray, List.set_cons_zero, List.set_cons_succ]
          refine wpAnyH_take (i := 3) (oi := { dst := some 50, op := Op.move (Operand.tmp 1), type := 24, pos := "index.go:53", after := #[{ on := 2, ground := Ground.guard }], guard := some (2, true) }) (v := ?vcp3) rfl (by kernel_rfl) (by kernel_rfl) (by kernel_rfl) (fun _ _ _ h => h) (Or.inl ⟨by rfl, ?ycp3⟩) (by assumption) ?rcp3
          case ycp3 => (intro w' hSw; (try dsimp only at hSw); go_simp; try with_reducible rfl)
          try simp only [Act.put, List.setIfInBounds_toArray, List.set_cons_zero, List.set_cons_succ]
          refine wpAnyH_take (i := 4) (oi := { dst := some 51, op := Op.move (Operand.tmp 6), type := 3, pos := "index.go:53", after := #[{ on := 2, ground := Ground.guard }], guard := some (2, true) }) (v := ?vcp4) rfl (by kernel_rfl) (by kernel_rfl) (by kernel_rfl) (fun _ _ _ h => h) (Or.inl ⟨by rfl, ?ycp4⟩) (by assumption) ?rcp4
          case ycp4 => (intro w' hSw; (try dsimp only at hSw); go_simp; try with_reducible rfl)
          try simp only [Act.put, List.setIfInBounds_toArray, List.set_cons_zero, List.set_cons_succ]
          refine wpAnyH_take (i := 5) (oi := { dst := some 52, op := Op.binOp BinOp.sub 3 (Operand.tmp 51) (Operand.const (Value.int IntKind.i64 1)) 3, type := 3, pos := "index.go:53", after := #[{ on := 4, ground := Ground.data }, { on := 2, ground := Ground.guard }], guard := some (2, true) }) (v := ?vcp5) rfl (by kernel_rfl) (by kernel_rfl) (by kernel_rfl) (fun _ _ _ h => h) (Or.inl ⟨by rfl, ?ycp5⟩) (by assumption) ?rcp5
          case ycp5 => (intro w' hSw; (try dsimp only at hSw); go_simp; try with_reducible rfl)
          try simp only [Act.put, List.setIfInBounds_toArray, List.set_cons_zero, List.set_cons_succ]
          refine wpAnyH_take (i := 6) (oi := { dst := some 53, op := Op.indexAddr 24 (Operand.tmp 50) (Operand.tmp 52), type := 0, pos := "index.go:53", after := #[{ on := 3, ground := Ground.data }, { on := 5, ground := Ground.data }, { on := 2, ground := Ground.guard }], guard := some (2, true) }) (v := ?vcp6) rfl (by kernel_rfl) (by kernel_rfl) (by kernel_rfl) (fun _ _ _ h => h) (Or.inl ⟨by rfl, ?ycp6⟩) (by assumption) ?rcp6
          case ycp6 => (intro w' hSw; (try dsimp only at hSw); go_simp; try with_reducible rfl)
          try simp only [Act.put, List.setIfInBounds_toArray, List.set_cons_zero, List.set_cons_succ]
          refine wpAnyH_take (i := 7) (oi := { dst := some 54, op := Op.load 69 (Operand.tmp 53), type := 69, pos := "index.go:53", after := #[{ on := 6, ground := Ground.data }, { on := 2, ground := Ground.guard }], guard := some (2, true) }) (v := ?vcp7) rfl (by kernel_rfl) (by kernel_rfl) (by kernel_rfl) (fun _ _ _ h => h) (Or.inl ⟨by rfl, ?ycp7⟩) (by assumption) ?rcp7
          case ycp7 => (intro w' hSw; (try dsimp only at hSw); go_simp; try with_reducible rfl)
          try simp only [Act.put, List.setIfInBounds_toArray, List.set_cons_zero, List.set_cons_succ]
          refine wpAnyH_take (i := 8) (oi := { dst := some 55, op := Op.load 69 (Operand.tmp 2), type := 69, pos := "index.go:53", after := #[{ on := 2, ground := Ground.guard }], guard := some (2, true) }) (v := ?vcp8) rfl (by kernel_rfl) (by kernel_rfl) (by kernel_rfl) (fun _ _ _ h => h) (Or.inl ⟨by rfl, ?ycp8⟩) (by assumption) ?rcp8
          case ycp8 => (intro w' hSw; (try dsimp only at hSw); go_simp; try with_reducible rfl)
          try simp only [Act.put, List.setIfInBounds_toArray, List.set_cons_zero, List.set_cons_succ]
          refine wpAnyH_ready (rs := [9]) (by kernel_rfl) (by simp) ?_
          refine AllReadyH.cons (o := { dst := some 56, op := Op.call { callee := Callee.value (Operand.func 90), args := #[Operand.tmp 54, Operand.tmp 55], argTypes := #[69, 69] }, type := 3, pos := "index.go:53", after := #[{ on := 7, ground := Ground.data }, { on := 8, ground := Ground.data }, { on := 2, ground := Ground.chain }, { on := 2, ground := Ground.guard }], guard := some (2, true) }) rfl (fun K hK => ?_) AllReadyH.nil
          go_simp
          refine (CP.out _).mono ?_
          rintro e w4 ⟨rfl, b4⟩
          have hb4 : Below w2.heap.size w2 w4 := ((Below.refl _ _).drew).trans b4
          go_wp2_with fail
          refine hK.out _ _ (SX.out _ hb4) (fun hHeldcp9 => ?_)
          clear hK K hHeld
          try simp only [Act.put, List.setIfInBounds_toArray, List.set_cons_zero, List.set_cons_succ]
          refine wpAnyH_take (i := 10) (oi := { dst := some 57, op := Op.binOp BinOp.geq 3 (Operand.tmp 56) (Operand.const (Value.int IntKind.i64 0)) 3, type := 4, pos := "index.go:53", after := #[{ on := 9, ground := Ground.data }, { on := 2, ground := Ground.guard }], guard := some (2, true) }) (v := ?vcp10) rfl (by kernel_rfl) (by kernel_rfl) (by kernel_rfl) (fun _ _ _ h => h) (Or.inl ⟨by rfl, ?ycp10⟩) (by assumption) ?rcp10
          case ycp10 => (intro w' hSw; (try dsimp only at hSw); go_simp; try with_reducible rfl)
          try simp only [Act.put, List.setIfInBounds_toArray, List.set_cons_zero, List.set_cons_succ]
          refine wpAnyH_take (i := 11) (oi := { dst := some 58, op := Op.pick (Operand.tmp 49) (Operand.tmp 57) (Operand.const (Value.bool false)), type := 4, pos := "index.go:53", after := #[{ on := 2, ground := Ground.data }, { on := 10, ground := Ground.data }], guard := none }) (v := ?vcp11) rfl (by kernel_rfl) (by kernel_rfl) (by kernel_rfl) (fun _ _ _ h => h) (Or.inl ⟨by rfl, ?ycp11⟩) (by assumption) ?rcp11
          case ycp11 => (intro w' hSw; (try dsimp only at hSw); go_simp; try with_reducible rfl)
          try simp only [Act.put, List.setIfInBounds_toArray, List.set_cons_zero, List.set_cons_succ]
          refine wpAnyH_take (i := 12) (oi := { dst := some 59, op := Op.move (Operand.tmp 58), type := 4, pos := "index.go:53", after := #[{ on := 11, ground := Ground.data }, { on := 9, ground := Ground.chain }], guard := none }) (v := ?vcp12) rfl (by kernel_rfl) (by kernel_rfl) (by kernel_rfl) (fun _ _ _ h => h) (Or.inl ⟨by rfl, ?ycp12⟩) (by assumption) ?rcp12
          case ycp12 => (intro w' hSw; (try dsimp only at hSw); go_simp; try with_reducible rfl)
          try simp only [Act.put, List.setIfInBounds_toArray, List.set_cons_zero, List.set_cons_succ]
          refine wpAnyH_take (i := 13) (oi := { dst := some 60, op := Op.move (Operand.tmp 1), type := 24, pos := "index.go:53", after := #[{ on := 12, ground := Ground.guard }], guard := some (12, false) }) (v := ?vcp13) rfl (by kernel_rfl) (by kernel_rfl) (by kernel_rfl) (fun _ _ _ h => h) (Or.inl ⟨by rfl, ?ycp13⟩) (by assumption) ?rcp13
          case ycp13 => (intro w' hSw; (try dsimp only at hSw); go_simp; try with_reducible rfl)
          try simp only [Act.put, List.setIfInBounds_toArray, List.set_cons_zero, List.set_cons_succ]
          refine wpAnyH_take (i := 14) (oi := { dst := some 61, op := Op.load 69 (Operand.tmp 2), type := 69, pos := "index.go:53", after := #[{ on := 12, ground := Ground.guard }], guard := some (12, false) }) (v := ?vcp14) rfl (by kernel_rfl) (by kernel_rfl) (by kernel_rfl) (fun _ _ _ h => h) (Or.inl ⟨by rfl, ?ycp14⟩) (by assumption) ?rcp14
          case ycp14 => (intro w' hSw; (try dsimp only at hSw); go_simp; try with_reducible rfl)
          try simp only [Act.put, List.setIfInBounds_toArray, List.set_cons_zero, List.set_cons_succ]
          refine wpAnyH_ready (rs := [15]) (by kernel_rfl) (by simp) ?_
          refine AllReadyH.cons (o := { dst := some 62, op := Op.makeFunc (Fn.func 88) #[Operand.tmp 61] #[], type := 129, pos := "index.go:53", after := #[{ on := 14, ground := Ground.data }, { on := 12, ground := Ground.guard }], guard := some (12, false) }) rfl (fun K hK => ?_) AllReadyH.nil
          go_simp
          refine hK.out _ _ (SX.out _ hb4) (fun hHeldcp15 => ?_)
          clear hK K hHeldcp9
          try simp only [Act.put, List.setIfInBounds_toArray, List.set_cons_zero, List.set_cons_succ]
          refine wpAnyH_ready (rs := [16]) (by kernel_rfl) (by simp) ?_
          refine AllReadyH.cons (o := { dst := some 63, op := Op.call { callee := Callee.value (Operand.func 111), args := #[Operand.tmp 60, Operand.tmp 62], argTypes := #[24, 129] }, type := 4, pos := "index.go:53", after := #[{ on := 13, ground := Ground.data }, { on := 15, ground := Ground.data }, { on := 12, ground := Ground.chain }, { on := 12, ground := Ground.guard }], guard := some (12, false) }) rfl (fun K hK => ?_) AllReadyH.nil
          go_simp
          refine (CT.out _ hb4).mono ?_
          rintro e w3 ⟨rfl, b3⟩
          have hb3 : Below w2.heap.size w2 w3 := hb4.trans (b3.mono hb4.size)
          go_wp2_with fail
          refine hK.out _ _ (SX.out _ hb3) (fun hHeldcp16 => ?_)
          clear hK K hHeldcp15
          try simp only [Act.put, List.setIfInBounds_toArray, List.set_cons_zero, List.set_cons_succ]
          refine wpAnyH_take (i := 17) (oi := { dst := some 64, op := Op.pick (Operand.tmp 59) (Operand.const (Value.bool true)) (Operand.tmp 63), type := 4, pos := "index.go:53", after := #[{ on := 12, ground := Ground.data }, { on := 16, ground := Ground.data }], guard := none }) (v := ?vcp17) rfl (by kernel_rfl) (by kernel_rfl) (by kernel_rfl) (fun _ _ _ h => h) (Or.inl ⟨by rfl, ?ycp17⟩) (by assumption) ?rcp17
          case ycp17 => (intro w' hSw; (try dsimp only at hSw); go_simp; try with_reducible rfl)
          try simp only [Act.put, List.setIfInBounds_toArray, List.set_cons_zero, List.set_cons_succ]
          refine wpAnyH_done (by kernel_rfl) ?_ _
          go_wp2_with fail
          go_ret
          exact ⟨ret_i HV.out.symm, HB2.out.trans (hb3.mono HB2.out.size)⟩
        | false =>
          cases qc with
          | false =>
            have HV := Lib.hid (show wrE l (p, st, 1, d, t, z) = 0 by rw [wrE_rest HOK.out, HLT.out, ← HA.out, ← HQ.out]; rfl)
            go_wp2_with fail
            refine wp_region_held_drew (S := fun w' => (w'.cell? ⟨G, 0, none⟩ = some (.string p) ∧ w'.cell? ⟨G, 1, none⟩ = some (.int .i64 st) ∧ w'.cell? ⟨G, 2, none⟩ = some (.int .i64 1) ∧ w'.cell? ⟨G, 3, none⟩ = some (.string d) ∧ w'.cell? ⟨G, 4, none⟩ = some (.int .i64 t) ∧ w'.cell? ⟨G, 5, none⟩ = some (.int .i64 z)) ∧ (w'.cell? (ad.add (n * 6)) = some (.string x.1) ∧ w'.cell? ⟨(ad.add (n * 6)).block, (ad.add (n * 6)).off + 1, none⟩ = some (.int .i64 x.2.1) ∧ w'.cell? ⟨(ad.add (n * 6)).block, (ad.add (n * 6)).off + 2, none⟩ = some (.int .i64 x.2.2.1) ∧ w'.cell? ⟨(ad.add (n * 6)).block, (ad.add (n * 6)).off + 3, none⟩ = some (.string x.2.2.2.1) ∧ w'.cell? ⟨(ad.add (n * 6)).block, (ad.add (n * 6)).off + 4, none⟩ = some (.int .i64 x.2.2.2.2.1) ∧ w'.cell? ⟨(ad.add (n * 6)).block, (ad.add (n * 6)).off + 5, none⟩ = some (.int .i64 x.2.2.2.2.2))) (by kernel_rfl) (SX.out _ (Below.refl _ _).drew) (fun hHeld => ?_)
            refine wpAnyH_take (i := 0) (oi := { dst := some 47, op := Op.move (Operand.tmp 6), type := 3, pos := "index.go:53", after := #[], guard := none }) (v := ?vdp0) rfl (by kernel_rfl) (by kernel_rfl) (by kernel_rfl) (fun _ _ _ h => h) (Or.inl ⟨by rfl, ?ydp0⟩) (by assumption) ?rdp0
            case ydp0 => (intro w' hSw; (try dsimp only at hSw); go_simp; try with_reducible rfl)
            try simp only [Act.put, List.setIfInBounds_toArray, List.set_cons_zero, List.set_cons_succ]
            refine wpAnyH_take (i := 1) (oi := { dst := some 48, op := Op.binOp BinOp.gtr 3 (Operand.tmp 47) (Operand.const (Value.int IntKind.i64 0)) 3, type := 4, pos := "index.go:53", after := #[{ on := 0, ground := Ground.data }], guard := none }) (v := ?vdp1) rfl (by kernel_rfl) (by kernel_rfl) (by kernel_rfl) (fun _ _ _ h => h) (Or.inl ⟨by rfl, ?ydp1⟩) (by assumption) ?rdp1
            case ydp1 => (intro w' hSw; (try dsimp only at hSw); go_simp; try with_reducible rfl)
            try simp only [Act.put, List.setIfInBounds_toArray, List.set_cons_zero, List.set_cons_succ]
            refine wpAnyH_take (i := 2) (oi := { dst := some 49, op := Op.move (Operand.tmp 48), type := 4, pos := "index.go:53", after := #[{ on := 1, ground := Ground.data }], guard := none }) (v := ?vdp2) rfl (by kernel_rfl) (by kernel_rfl) (by kernel_rfl) (fun _ _ _ h => h) (Or.inl ⟨by rfl, ?ydp2⟩) (by assumption) ?rdp2
            case ydp2 => (intro w' hSw; (try dsimp only at hSw); go_simp; try with_reducible rfl)
            try simp only [Act.put, List.setIfInBounds_toArray, List.set_cons_zero, List.set_cons_succ]
            refine wpAnyH_take (i := 3) (oi := { dst := some 50, op := Op.move (Operand.tmp 1), type := 24, pos := "index.go:53", after := #[{ on := 2, ground := Ground.guard }], guard := some (2, true) }) (v := ?vdp3) rfl (by kernel_rfl) (by kernel_rfl) (by kernel_rfl) (fun _ _ _ h => h) (Or.inl ⟨by rfl, ?ydp3⟩) (by assumption) ?rdp3
            case ydp3 => (intro w' hSw; (try dsimp only at hSw); go_simp; try with_reducible rfl)
            try simp only [Act.put, List.setIfInBounds_toArray, List.set_cons_zero, List.set_cons_succ]
            refine wpAnyH_take (i := 4) (oi := { dst := some 51, op := Op.move (Operand.tmp 6), type := 3, pos := "index.go:53", after := #[{ on := 2, ground := Ground.guard }], guard := some (2, true) }) (v := ?vdp4) rfl (by kernel_rfl) (by kernel_rfl) (by kernel_rfl) (fun _ _ _ h => h) (Or.inl ⟨by rfl, ?ydp4⟩) (by assumption) ?rdp4
            case ydp4 => (intro w' hSw; (try dsimp only at hSw); go_simp; try with_reducible rfl)
            try simp only [Act.put, List.setIfInBounds_toArray, List.set_cons_zero, List.set_cons_succ]
            refine wpAnyH_take (i := 5) (oi := { dst := some 52, op := Op.binOp BinOp.sub 3 (Operand.tmp 51) (Operand.const (Value.int IntKind.i64 1)) 3, type := 3, pos := "index.go:53", after := #[{ on := 4, ground := Ground.data }, { on := 2, ground := Ground.guard }], guard := some (2, true) }) (v := ?vdp5) rfl (by kernel_rfl) (by kernel_rfl) (by kernel_rfl) (fun _ _ _ h => h) (Or.inl ⟨by rfl, ?ydp5⟩) (by assumption) ?rdp5
            case ydp5 => (intro w' hSw; (try dsimp only at hSw); go_simp; try with_reducible rfl)
            try simp only [Act.put, List.setIfInBounds_toArray, List.set_cons_zero, List.set_cons_succ]
            refine wpAnyH_take (i := 6) (oi := { dst := some 53, op := Op.indexAddr 24 (Operand.tmp 50) (Operand.tmp 52), type := 0, pos := "index.go:53", after := #[{ on := 3, ground := Ground.data }, { on := 5, ground := Ground.data }, { on := 2, ground := Ground.guard }], guard := some (2, true) }) (v := ?vdp6) rfl (by kernel_rfl) (by kernel_rfl) (by kernel_rfl) (fun _ _ _ h => h) (Or.inl ⟨by rfl, ?ydp6⟩) (by assumption) ?rdp6
            case ydp6 => (intro w' hSw; (try dsimp only at hSw); go_simp; try with_reducible rfl)
            try simp only [Act.put, List.setIfInBounds_toArray, List.set_cons_zero, List.set_cons_succ]
            refine wpAnyH_take (i := 7) (oi := { dst := some 54, op := Op.load 69 (Operand.tmp 53), type := 69, pos := "index.go:53", after := #[{ on := 6, ground := Ground.data }, { on := 2, ground := Ground.guard }], guard := some (2, true) }) (v := ?vdp7) rfl (by kernel_rfl) (by kernel_rfl) (by kernel_rfl) (fun _ _ _ h => h) (Or.inl ⟨by rfl, ?ydp7⟩) (by assumption) ?rdp7
            case ydp7 => (intro w' hSw; (try dsimp only at hSw); go_simp; try with_reducible rfl)
            try simp only [Act.put, List.setIfInBounds_toArray, List.set_cons_zero, List.set_cons_succ]
            refine wpAnyH_take (i := 8) (oi := { dst := some 55, op := Op.load 69 (Operand.tmp 2), type := 69, pos := "index.go:53", after := #[{ on := 2, ground := Ground.guard }], guard := some (2, true) }) (v := ?vdp8) rfl (by kernel_rfl) (by kernel_rfl) (by kernel_rfl) (fun _ _ _ h => h) (Or.inl ⟨by rfl, ?ydp8⟩) (by assumption) ?rdp8
            case ydp8 => (intro w' hSw; (try dsimp only at hSw); go_simp; try with_reducible rfl)
            try simp only [Act.put, List.setIfInBounds_toArray, List.set_cons_zero, List.set_cons_succ]
            refine wpAnyH_ready (rs := [9]) (by kernel_rfl) (by simp) ?_
            refine AllReadyH.cons (o := { dst := some 56, op := Op.call { callee := Callee.value (Operand.func 90), args := #[Operand.tmp 54, Operand.tmp 55], argTypes := #[69, 69] }, type := 3, pos := "index.go:53", after := #[{ on := 7, ground := Ground.data }, { on := 8, ground := Ground.data }, { on := 2, ground := Ground.chain }, { on := 2, ground := Ground.guard }], guard := some (2, true) }) rfl (fun K hK => ?_) AllReadyH.nil
            go_simp
            refine (CP.out _).mono ?_
            rintro e w4 ⟨rfl, b4⟩
            have hb4 : Below w2.heap.size w2 w4 := ((Below.refl _ _).drew).trans b4
            go_wp2_with fail
            refine hK.out _ _ (SX.out _ hb4) (fun hHelddp9 => ?_)
            clear hK K hHeld
            try simp only [Act.put, List.setIfInBounds_toArray, List.set_cons_zero, List.set_cons_succ]
            refine wpAnyH_take (i := 10) (oi := { dst := some 57, op := Op.binOp BinOp.geq 3 (Operand.tmp 56) (Operand.const (Value.int IntKind.i64 0)) 3, type := 4, pos := "index.go:53", after := #[{ on := 9, ground := Ground.data }, { on := 2, ground := Ground.guard }], guard := some (2, true) }) (v := ?vdp10) rfl (by kernel_rfl) (by kernel_rfl) (by kernel_rfl) (fun _ _ _ h => h) (Or.inl ⟨by rfl, ?ydp10⟩) (by assumption) ?rdp10
            case ydp10 => (intro w' hSw; (try dsimp only at hSw); go_simp; try with_reducible rfl)
            try simp only [Act.put, List.setIfInBounds_toArray, List.set_cons_zero, List.set_cons_succ]
            refine wpAnyH_take (i := 11) (oi := { dst := some 58, op := Op.pick (Operand.tmp 49) (Operand.tmp 57) (Operand.const (Value.bool false)), type := 4, pos := "index.go:53", after := #[{ on := 2, ground := Ground.data }, { on := 10, ground := Ground.data }], guard := none }) (v := ?vdp11) rfl (by kernel_rfl) (by kernel_rfl) (by kernel_rfl) (fun _ _ _ h => h) (Or.inl ⟨by rfl, ?ydp11⟩) (by assumption) ?rdp11
            case ydp11 => (intro w' hSw; (try dsimp only at hSw); go_simp; try with_reducible rfl)
            try simp only [Act.put, List.setIfInBounds_toArray, List.set_cons_zero, List.set_cons_succ]
            refine wpAnyH_take (i := 12) (oi := { dst := some 59, op := Op.move (Operand.tmp 58), type := 4, pos := "index.go:53", after := #[{ on := 11, ground := Ground.data }, { on := 9, ground := Ground.chain }], guard := none }) (v := ?vdp12) rfl (by kernel_rfl) (by kernel_rfl) (by kernel_rfl) (fun _ _ _ h => h) (Or.inl ⟨by rfl, ?ydp12⟩) (by assumption) ?rdp12
            case ydp12 => (intro w' hSw; (try dsimp only at hSw); go_simp; try with_reducible rfl)
            try simp only [Act.put, List.setIfInBounds_toArray, List.set_cons_zero, List.set_cons_succ]
            refine wpAnyH_take (i := 13) (oi := { dst := some 60, op := Op.move (Operand.tmp 1), type := 24, pos := "index.go:53", after := #[{ on := 12, ground := Ground.guard }], guard := some (12, false) }) (v := ?vdp13) rfl (by kernel_rfl) (by kernel_rfl) (by kernel_rfl) (fun _ _ _ h => h) (Or.inl ⟨by rfl, ?ydp13⟩) (by assumption) ?rdp13
            case ydp13 => (intro w' hSw; (try dsimp only at hSw); go_simp; try with_reducible rfl)
            try simp only [Act.put, List.setIfInBounds_toArray, List.set_cons_zero, List.set_cons_succ]
            refine wpAnyH_take (i := 14) (oi := { dst := some 61, op := Op.load 69 (Operand.tmp 2), type := 69, pos := "index.go:53", after := #[{ on := 12, ground := Ground.guard }], guard := some (12, false) }) (v := ?vdp14) rfl (by kernel_rfl) (by kernel_rfl) (by kernel_rfl) (fun _ _ _ h => h) (Or.inl ⟨by rfl, ?ydp14⟩) (by assumption) ?rdp14
            case ydp14 => (intro w' hSw; (try dsimp only at hSw); go_simp; try with_reducible rfl)
            try simp only [Act.put, List.setIfInBounds_toArray, List.set_cons_zero, List.set_cons_succ]
            refine wpAnyH_ready (rs := [15]) (by kernel_rfl) (by simp) ?_
            refine AllReadyH.cons (o := { dst := some 62, op := Op.makeFunc (Fn.func 88) #[Operand.tmp 61] #[], type := 129, pos := "index.go:53", after := #[{ on := 14, ground := Ground.data }, { on := 12, ground := Ground.guard }], guard := some (12, false) }) rfl (fun K hK => ?_) AllReadyH.nil
            go_simp
            refine hK.out _ _ (SX.out _ hb4) (fun hHelddp15 => ?_)
            clear hK K hHelddp9
            try simp only [Act.put, List.setIfInBounds_toArray, List.set_cons_zero, List.set_cons_succ]
            refine wpAnyH_ready (rs := [16]) (by kernel_rfl) (by simp) ?_
            refine AllReadyH.cons (o := { dst := some 63, op := Op.call { callee := Callee.value (Operand.func 111), args := #[Operand.tmp 60, Operand.tmp 62], argTypes := #[24, 129] }, type := 4, pos := "index.go:53", after := #[{ on := 13, ground := Ground.data }, { on := 15, ground := Ground.data }, { on := 12, ground := Ground.chain }, { on := 12, ground := Ground.guard }], guard := some (12, false) }) rfl (fun K hK => ?_) AllReadyH.nil
            go_simp
            refine (CT.out _ hb4).mono ?_
            rintro e w3 ⟨rfl, b3⟩
            have hb3 : Below w2.heap.size w2 w3 := hb4.trans (b3.mono hb4.size)
            go_wp2_with fail
            refine hK.out _ _ (SX.out _ hb3) (fun hHelddp16 => ?_)
            clear hK K hHelddp15
            try simp only [Act.put, List.setIfInBounds_toArray, List.set_cons_zero, List.set_cons_succ]
            refine wpAnyH_take (i := 17) (oi := { dst := some 64, op := Op.pick (Operand.tmp 59) (Operand.const (Value.bool true)) (Operand.tmp 63), type := 4, pos := "index.go:53", after := #[{ on := 12, ground := Ground.data }, { on := 16, ground := Ground.data }], guard := none }) (v := ?vdp17) rfl (by kernel_rfl) (by kernel_rfl) (by kernel_rfl) (fun _ _ _ h => h) (Or.inl ⟨by rfl, ?ydp17⟩) (by assumption) ?rdp17
            case ydp17 => (intro w' hSw; (try dsimp only at hSw); go_simp; try with_reducible rfl)
            try simp only [Act.put, List.setIfInBounds_toArray, List.set_cons_zero, List.set_cons_succ]
            refine wpAnyH_done (by kernel_rfl) ?_ _
            go_wp2_with fail
            refine (CC.out _ hb3).mono ?_
            rintro e w5 ⟨rfl, b5⟩
            have B5 := Lib.hid (HB2.out.trans ((hb3.trans (b5.mono hb3.size)).mono HB2.out.size))
            clear b5
            go_wp2_with fail
            go_ret
            exact ⟨ret_i HV.out.symm, B5.out⟩
          | true =>
            have HV := Lib.hid (show wrE l (p, st, 1, d, t, z) = 11 by rw [wrE_rest HOK.out, HLT.out, ← HA.out, ← HQ.out]; rfl)
            go_wp2_with fail
            refine wp_region_held_drew (S := fun w' => (w'.cell? ⟨G, 0, none⟩ = some (.string p) ∧ w'.cell? ⟨G, 1, none⟩ = some (.int .i64 st) ∧ w'.cell? ⟨G, 2, none⟩ = some (.int .i64 1) ∧ w'.cell? ⟨G, 3, none⟩ = some (.string d) ∧ w'.cell? ⟨G, 4, none⟩ = some (.int .i64 t) ∧ w'.cell? ⟨G, 5, none⟩ = some (.int .i64 z)) ∧ (w'.cell? (ad.add (n * 6)) = some (.string x.1) ∧ w'.cell? ⟨(ad.add (n * 6)).block, (ad.add (n * 6)).off + 1, none⟩ = some (.int .i64 x.2.1) ∧ w'.cell? ⟨(ad.add (n * 6)).block, (ad.add (n * 6)).off + 2, none⟩ = some (.int .i64 x.2.2.1) ∧ w'.cell? ⟨(ad.add (n * 6)).block, (ad.add (n * 6)).off + 3, none⟩ = some (.string x.2.2.2.1) ∧ w'.cell? ⟨(ad.add (n * 6)).block, (ad.add (n * 6)).off + 4, none⟩ = some (.int .i64 x.2.2.2.2.1) ∧ w'.cell? ⟨(ad.add (n * 6)).block, (ad.add (n * 6)).off + 5, none⟩ = some (.int .i64 x.2.2.2.2.2))) (by kernel_rfl) (SX.out _ (Below.refl _ _).drew) (fun hHeld => ?_)
            refine wpAnyH_take (i := 0) (oi := { dst := some 47, op := Op.move (Operand.tmp 6), type := 3, pos := "index.go:53", after := #[], guard := none }) (v := ?vep0) rfl (by kernel_rfl) (by kernel_rfl) (by kernel_rfl) (fun _ _ _ h => h) (Or.inl ⟨by rfl, ?yep0⟩) (by assumption) ?rep0
            case yep0 => (intro w' hSw; (try dsimp only at hSw); go_simp; try with_reducible rfl)
            try simp only [Act.put, List.setIfInBounds_toArray, List.set_cons_zero, List.set_cons_succ]
            refine wpAnyH_take (i := 1) (oi := { dst := some 48, op := Op.binOp BinOp.gtr 3 (Operand.tmp 47) (Operand.const (Value.int IntKind.i64 0)) 3, type := 4, pos := "index.go:53", after := #[{ on := 0, ground := Ground.data }], guard := none }) (v := ?vep1) rfl (by kernel_rfl) (by kernel_rfl) (by kernel_rfl) (fun _ _ _ h => h) (Or.inl ⟨by rfl, ?yep1⟩) (by assumption) ?rep1
            case yep1 => (intro w' hSw; (try dsimp only at hSw); go_simp; try with_reducible rfl)
            try simp only [Act.put, List.setIfInBounds_toArray, List.set_cons_zero, List.set_cons_succ]
            refine wpAnyH_take (i := 2) (oi := { dst := some 49, op := Op.move (Operand.tmp 48), type := 4, pos := "index.go:53", after := #[{ on := 1, ground := Ground.data }], guard := none }) (v := ?vep2) rfl (by kernel_rfl) (by kernel_rfl) (by kernel_rfl) (fun _ _ _ h => h) (Or.inl ⟨by rfl, ?yep2⟩) (by assumption) ?rep2
            case yep2 => (intro w' hSw; (try dsimp only at hSw); go_simp; try with_reducible rfl)
            try simp only [Act.put, List.setIfInBounds_toArray, List.set_cons_zero, List.set_cons_succ]
            refine wpAnyH_take (i := 3) (oi := { dst := some 50, op := Op.move (Operand.tmp 1), type := 24, pos := "index.go:53", after := #[{ on := 2, ground := Ground.guard }], guard := some (2, true) }) (v := ?vep3) rfl (by kernel_rfl) (by kernel_rfl) (by kernel_rfl) (fun _ _ _ h => h) (Or.inl ⟨by rfl, ?yep3⟩) (by assumption) ?rep3
            case yep3 => (intro w' hSw; (try dsimp only at hSw); go_simp; try with_reducible rfl)
            try simp only [Act.put, List.setIfInBounds_toArray, List.set_cons_zero, List.set_cons_succ]
            refine wpAnyH_take (i := 4) (oi := { dst := some 51, op := Op.move (Operand.tmp 6), type := 3, pos := "index.go:53", after := #[{ on := 2, ground := Ground.guard }], guard := some (2, true) }) (v := ?vep4) rfl (by kernel_rfl) (by kernel_rfl) (by kernel_rfl) (fun _ _ _ h => h) (Or.inl ⟨by rfl, ?yep4⟩) (by assumption) ?rep4
            case yep4 => (intro w' hSw; (try dsimp only at hSw); go_simp; try with_reducible rfl)
            try simp only [Act.put, List.setIfInBounds_toArray, List.set_cons_zero, List.set_cons_succ]
            refine wpAnyH_take (i := 5) (oi := { dst := some 52, op := Op.binOp BinOp.sub 3 (Operand.tmp 51) (Operand.const (Value.int IntKind.i64 1)) 3, type := 3, pos := "index.go:53", after := #[{ on := 4, ground := Ground.data }, { on := 2, ground := Ground.guard }], guard := some (2, true) }) (v := ?vep5) rfl (by kernel_rfl) (by kernel_rfl) (by kernel_rfl) (fun _ _ _ h => h) (Or.inl ⟨by rfl, ?yep5⟩) (by assumption) ?rep5
            case yep5 => (intro w' hSw; (try dsimp only at hSw); go_simp; try with_reducible rfl)
            try simp only [Act.put, List.setIfInBounds_toArray, List.set_cons_zero, List.set_cons_succ]
            refine wpAnyH_take (i := 6) (oi := { dst := some 53, op := Op.indexAddr 24 (Operand.tmp 50) (Operand.tmp 52), type := 0, pos := "index.go:53", after := #[{ on := 3, ground := Ground.data }, { on := 5, ground := Ground.data }, { on := 2, ground := Ground.guard }], guard := some (2, true) }) (v := ?vep6) rfl (by kernel_rfl) (by kernel_rfl) (by kernel_rfl) (fun _ _ _ h => h) (Or.inl ⟨by rfl, ?yep6⟩) (by assumption) ?rep6
            case yep6 => (intro w' hSw; (try dsimp only at hSw); go_simp; try with_reducible rfl)
            try simp only [Act.put, List.setIfInBounds_toArray, List.set_cons_zero, List.set_cons_succ]
            refine wpAnyH_take (i := 7) (oi := { dst := some 54, op := Op.load 69 (Operand.tmp 53), type := 69, pos := "index.go:53", after := #[{ on := 6, ground := Ground.data }, { on := 2, ground := Ground.guard }], guard := some (2, true) }) (v := ?vep7) rfl (by kernel_rfl) (by kernel_rfl) (by kernel_rfl) (fun _ _ _ h => h) (Or.inl ⟨by rfl, ?yep7⟩) (by assumption) ?rep7
            case yep7 => (intro w' hSw; (try dsimp only at hSw); go_simp; try with_reducible rfl)
            try simp only [Act.put, List.setIfInBounds_toArray, List.set_cons_zero, List.set_cons_succ]
            refine wpAnyH_take (i := 8) (oi := { dst := some 55, op := Op.load 69 (Operand.tmp 2), type := 69, pos := "index.go:53", after := #[{ on := 2, ground := Ground.guard }], guard := some (2, true) }) (v := ?vep8) rfl (by kernel_rfl) (by kernel_rfl) (by kernel_rfl) (fun _ _ _ h => h) (Or.inl ⟨by rfl, ?yep8⟩) (by assumption) ?rep8
            case yep8 => (intro w' hSw; (try dsimp only at hSw); go_simp; try with_reducible rfl)
            try simp only [Act.put, List.setIfInBounds_toArray, List.set_cons_zero, List.set_cons_succ]
            refine wpAnyH_ready (rs := [9]) (by kernel_rfl) (by simp) ?_
            refine AllReadyH.cons (o := { dst := some 56, op := Op.call { callee := Callee.value (Operand.func 90), args := #[Operand.tmp 54, Operand.tmp 55], argTypes := #[69, 69] }, type := 3, pos := "index.go:53", after := #[{ on := 7, ground := Ground.data }, { on := 8, ground := Ground.data }, { on := 2, ground := Ground.chain }, { on := 2, ground := Ground.guard }], guard := some (2, true) }) rfl (fun K hK => ?_) AllReadyH.nil
            go_simp
            refine (CP.out _).mono ?_
            rintro e w4 ⟨rfl, b4⟩
            have hb4 : Below w2.heap.size w2 w4 := ((Below.refl _ _).drew).trans b4
            go_wp2_with fail
            refine hK.out _ _ (SX.out _ hb4) (fun hHeldep9 => ?_)
            clear hK K hHeld
            try simp only [Act.put, List.setIfInBounds_toArray, List.set_cons_zero, List.set_cons_succ]
            refine wpAnyH_take (i := 10) (oi := { dst := some 57, op := Op.binOp BinOp.geq 3 (Operand.tmp 56) (Operand.const (Value.int IntKind.i64 0)) 3, type := 4, pos := "index.go:53", after := #[{ on := 9, ground := Ground.data }, { on := 2, ground := Ground.guard }], guard := some (2, true) }) (v := ?vep10) rfl (by kernel_rfl) (by kernel_rfl) (by kernel_rfl) (fun _ _ _ h => h) (Or.inl ⟨by rfl, ?yep10⟩) (by assumption) ?rep10
            case yep10 => (intro w' hSw; (try dsimp only at hSw); go_simp; try with_reducible rfl)
            try simp only [Act.put, List.setIfInBounds_toArray, List.set_cons_zero, List.set_cons_succ]
            refine wpAnyH_take (i := 11) (oi := { dst := some 58, op := Op.pick (Operand.tmp 49) (Operand.tmp 57) (Operand.const (Value.bool false)), type := 4, pos := "index.go:53", after := #[{ on := 2, ground := Ground.data }, { on := 10, ground := Ground.data }], guard := none }) (v := ?vep11) rfl (by kernel_rfl) (by kernel_rfl) (by kernel_rfl) (fun _ _ _ h => h) (Or.inl ⟨by rfl, ?yep11⟩) (by assumption) ?rep11
            case yep11 => (intro w' hSw; (try dsimp only at hSw); go_simp; try with_reducible rfl)
            try simp only [Act.put, List.setIfInBounds_toArray, List.set_cons_zero, List.set_cons_succ]
            refine wpAnyH_take (i := 12) (oi := { dst := some 59, op := Op.move (Operand.tmp 58), type := 4, pos := "index.go:53", after := #[{ on := 11, ground := Ground.data }, { on := 9, ground := Ground.chain }], guard := none }) (v := ?vep12) rfl (by kernel_rfl) (by kernel_rfl) (by kernel_rfl) (fun _ _ _ h => h) (Or.inl ⟨by rfl, ?yep12⟩) (by assumption) ?rep12
            case yep12 => (intro w' hSw; (try dsimp only at hSw); go_simp; try with_reducible rfl)
            try simp only [Act.put, List.setIfInBounds_toArray, List.set_cons_zero, List.set_cons_succ]
            refine wpAnyH_take (i := 13) (oi := { dst := some 60, op := Op.move (Operand.tmp 1), type := 24, pos := "index.go:53", after := #[{ on := 12, ground := Ground.guard }], guard := some (12, false) }) (v := ?vep13) rfl (by kernel_rfl) (by kernel_rfl) (by kernel_rfl) (fun _ _ _ h => h) (Or.inl ⟨by rfl, ?yep13⟩) (by assumption) ?rep13
            case yep13 => (intro w' hSw; (try dsimp only at hSw); go_simp; try with_reducible rfl)
            try simp only [Act.put, List.setIfInBounds_toArray, List.set_cons_zero, List.set_cons_succ]
            refine wpAnyH_take (i := 14) (oi := { dst := some 61, op := Op.load 69 (Operand.tmp 2), type := 69, pos := "index.go:53", after := #[{ on := 12, ground := Ground.guard }], guard := some (12, false) }) (v := ?vep14) rfl (by kernel_rfl) (by kernel_rfl) (by kernel_rfl) (fun _ _ _ h => h) (Or.inl ⟨by rfl, ?yep14⟩) (by assumption) ?rep14
            case yep14 => (intro w' hSw; (try dsimp only at hSw); go_simp; try with_reducible rfl)
            try simp only [Act.put, List.setIfInBounds_toArray, List.set_cons_zero, List.set_cons_succ]
            refine wpAnyH_ready (rs := [15]) (by kernel_rfl) (by simp) ?_
            refine AllReadyH.cons (o := { dst := some 62, op := Op.makeFunc (Fn.func 88) #[Operand.tmp 61] #[], type := 129, pos := "index.go:53", after := #[{ on := 14, ground := Ground.data }, { on := 12, ground := Ground.guard }], guard := some (12, false) }) rfl (fun K hK => ?_) AllReadyH.nil
            go_simp
            refine hK.out _ _ (SX.out _ hb4) (fun hHeldep15 => ?_)
            clear hK K hHeldep9
            try simp only [Act.put, List.setIfInBounds_toArray, List.set_cons_zero, List.set_cons_succ]
            refine wpAnyH_ready (rs := [16]) (by kernel_rfl) (by simp) ?_
            refine AllReadyH.cons (o := { dst := some 63, op := Op.call { callee := Callee.value (Operand.func 111), args := #[Operand.tmp 60, Operand.tmp 62], argTypes := #[24, 129] }, type := 4, pos := "index.go:53", after := #[{ on := 13, ground := Ground.data }, { on := 15, ground := Ground.data }, { on := 12, ground := Ground.chain }, { on := 12, ground := Ground.guard }], guard := some (12, false) }) rfl (fun K hK => ?_) AllReadyH.nil
            go_simp
            refine (CT.out _ hb4).mono ?_
            rintro e w3 ⟨rfl, b3⟩
            have hb3 : Below w2.heap.size w2 w3 := hb4.trans (b3.mono hb4.size)
            go_wp2_with fail
            refine hK.out _ _ (SX.out _ hb3) (fun hHeldep16 => ?_)
            clear hK K hHeldep15
            try simp only [Act.put, List.setIfInBounds_toArray, List.set_cons_zero, List.set_cons_succ]
            refine wpAnyH_take (i := 17) (oi := { dst := some 64, op := Op.pick (Operand.tmp 59) (Operand.const (Value.bool true)) (Operand.tmp 63), type := 4, pos := "index.go:53", after := #[{ on := 12, ground := Ground.data }, { on := 16, ground := Ground.data }], guard := none }) (v := ?vep17) rfl (by kernel_rfl) (by kernel_rfl) (by kernel_rfl) (fun _ _ _ h => h) (Or.inl ⟨by rfl, ?yep17⟩) (by assumption) ?rep17
            case yep17 => (intro w' hSw; (try dsimp only at hSw); go_simp; try with_reducible rfl)
            try simp only [Act.put, List.setIfInBounds_toArray, List.set_cons_zero, List.set_cons_succ]
            refine wpAnyH_done (by kernel_rfl) ?_ _
            go_wp2_with fail
            refine (CC.out _ hb3).mono ?_
            rintro e w5 ⟨rfl, b5⟩
            have B5 := Lib.hid (HB2.out.trans ((hb3.trans (b5.mono hb3.size)).mono HB2.out.size))
            clear b5
            go_wp2_with fail
            go_ret
            exact ⟨ret_i HV.out.symm, B5.out⟩
  · by_cases hl0 : l = []
    · subst hl0
      simp only [List.length_nil] at CT CC ⊢
      obtain rfl : qa = false := HA.out
      obtain rfl : qc = false := HQ.out
      have HV : Hid (wrE [] (p, st, 2, d, t, z) = 0) := Lib.hid (by rw [wrE_rest HOK.out]; rfl)
      have SX := Lib.hid fun V (hV : Below w2.heap.size w2 V) => (show (fun w' => (w'.cell? ⟨G, 0, none⟩ = some (.string p) ∧ w'.cell? ⟨G, 1, none⟩ = some (.int .i64 st) ∧ w'.cell? ⟨G, 2, none⟩ = some (.int .i64 2) ∧ w'.cell? ⟨G, 3, none⟩ = some (.string d) ∧ w'.cell? ⟨G, 4, none⟩ = some (.int .i64 t) ∧ w'.cell? ⟨G, 5, none⟩ = some (.int .i64 z))) V from GG.out V hV)
      go_wp2_with fail
      refine wp_region_held_drew (S := fun w' => (w'.cell? ⟨G, 0, none⟩ = some (.string p) ∧ w'.cell? ⟨G, 1, none⟩ = some (.int .i64 st) ∧ w'.cell? ⟨G, 2, none⟩ = some (.int .i64 2) ∧ w'.cell? ⟨G, 3, none⟩ = some (.string d) ∧ w'.cell? ⟨G, 4, none⟩ = some (.int .i64 t) ∧ w'.cell? ⟨G, 5, none⟩ = some (.int .i64 z))) (by kernel_rfl) (SX.out _ (Below.refl _ _).drew) (fun hHeld => ?_)
      refine wpAnyH_take (i := 0) (oi := { dst := some 47, op := Op.move (Operand.tmp 6), type := 3, pos := "index.go:53", after := #[], guard := none }) (v := ?vaq0) rfl (by kernel_rfl) (by kernel_rfl) (by kernel_rfl) (fun _ _ _ h => h) (Or.inl ⟨by rfl, ?yaq0⟩) (by assumption) ?raq0
      case yaq0 => (intro w' hSw; (try dsimp only at hSw); go_simp; try with_reducible rfl)
      try simp only [Act.put, List.setIfInBounds_toArray, List.set_cons_zero, List.set_cons_succ]
      refine wpAnyH_take (i := 1) (oi := { dst := some 48, op := Op.binOp BinOp.gtr 3 (Operand.tmp 47) (Operand.const (Value.int IntKind.i64 0)) 3, type := 4, pos := "index.go:53", after := #[{ on := 0, ground := Ground.data }], guard := none }) (v := ?vaq1) rfl (by kernel_rfl) (by kernel_rfl) (by kernel_rfl) (fun _ _ _ h => h) (Or.inl ⟨by rfl, ?yaq1⟩) (by assumption) ?raq1
      case yaq1 => (intro w' hSw; (try dsimp only at hSw); go_simp; try with_reducible rfl)
      try simp only [Act.put, List.setIfInBounds_toArray, List.set_cons_zero, List.set_cons_succ]
      refine wpAnyH_take (i := 2) (oi := { dst := some 49, op := Op.move (Operand.tmp 48), type := 4, pos := "index.go:53", after := #[{ on := 1, ground := Ground.data }], guard := none }) (v := ?vaq2) rfl (by kernel_rfl) (by kernel_rfl) (by kernel_rfl) (fun _ _ _ h => h) (Or.inl ⟨by rfl, ?yaq2⟩) (by assumption) ?raq2
      case yaq2 => (intro w' hSw; (try dsimp only at hSw); go_simp; try with_reducible rfl)
      try simp only [Act.put, List.setIfInBounds_toArray, List.set_cons_zero, List.set_cons_succ]
      refine wpAnyH_take (i := 3) (oi := { dst := some 50, op := Op.move (Operand.tmp 1), type := 24, pos := "index.go:53", after := #[{ on := 2, ground := Ground.guard }], guard := some (2, true) }) (v := undef) rfl (by kernel_rfl) (by kernel_rfl) (by kernel_rfl) (fun _ _ _ h => h) (Or.inr ⟨by rfl, rfl⟩) (by assumption) ?_
      try simp only [Act.put, List.setIfInBounds_toArray, List.set_cons_zero, List.set_cons_succ]
      refine wpAnyH_take (i := 4) (oi := { dst := some 51, op := Op.move (Operand.tmp 6), type := 3, pos := "index.go:53", after := #[{ on := 2, ground := Ground.guard }], guard := some (2, true) }) (v := undef) rfl (by kernel_rfl) (by kernel_rfl) (by kernel_rfl) (fun _ _ _ h => h) (Or.inr ⟨by rfl, rfl⟩) (by assumption) ?_
      try simp only [Act.put, List.setIfInBounds_toArray, List.set_cons_zero, List.set_cons_succ]
      refine wpAnyH_take (i := 5) (oi := { dst := some 52, op := Op.binOp BinOp.sub 3 (Operand.tmp 51) (Operand.const (Value.int IntKind.i64 1)) 3, type := 3, pos := "index.go:53", after := #[{ on := 4, ground := Ground.data }, { on := 2, ground := Ground.guard }], guard := some (2, true) }) (v := undef) rfl (by kernel_rfl) (by kernel_rfl) (by kernel_rfl) (fun _ _ _ h => h) (Or.inr ⟨by rfl, rfl⟩) (by assumption) ?_
      try simp only [Act.put, List.setIfInBounds_toArray, List.set_cons_zero, List.set_cons_succ]
      refine wpAnyH_take (i := 6) (oi := { dst := some 53, op := Op.indexAddr 24 (Operand.tmp 50) (Operand.tmp 52), type := 0, pos := "index.go:53", after := #[{ on := 3, ground := Ground.data }, { on := 5, ground := Ground.data }, { on := 2, ground := Ground.guard }], guard := some (2, true) }) (v := undef) rfl (by kernel_rfl) (by kernel_rfl) (by kernel_rfl) (fun _ _ _ h => h) (Or.inr ⟨by rfl, rfl⟩) (by assumption) ?_
      try simp only [Act.put, List.setIfInBounds_toArray, List.set_cons_zero, List.set_cons_succ]
      refine wpAnyH_take (i := 7) (oi := { dst := some 54, op := Op.load 69 (Operand.tmp 53), type := 69, pos := "index.go:53", after := #[{ on := 6, ground := Ground.data }, { on := 2, ground := Ground.guard }], guard := some (2, true) }) (v := undef) rfl (by kernel_rfl) (by kernel_rfl) (by kernel_rfl) (fun _ _ _ h => h) (Or.inr ⟨by rfl, rfl⟩) (by assumption) ?_
      try simp only [Act.put, List.setIfInBounds_toArray, List.set_cons_zero, List.set_cons_succ]
      refine wpAnyH_take (i := 8) (oi := { dst := some 55, op := Op.load 69 (Operand.tmp 2), type := 69, pos := "index.go:53", after := #[{ on := 2, ground := Ground.guard }], guard := some (2, true) }) (v := undef) rfl (by kernel_rfl) (by kernel_rfl) (by kernel_rfl) (fun _ _ _ h => h) (Or.inr ⟨by rfl, rfl⟩) (by assumption) ?_
      try simp only [Act.put, List.setIfInBounds_toArray, List.set_cons_zero, List.set_cons_succ]
      refine wpAnyH_take (i := 9) (oi := { dst := some 56, op := Op.call { callee := Callee.value (Operand.func 90), args := #[Operand.tmp 54, Operand.tmp 55], argTypes := #[69, 69] }, type := 3, pos := "index.go:53", after := #[{ on := 7, ground := Ground.data }, { on := 8, ground := Ground.data }, { on := 2, ground := Ground.chain }, { on := 2, ground := Ground.guard }], guard := some (2, true) }) (v := undef) rfl (by kernel_rfl) (by kernel_rfl) (by kernel_rfl) (fun _ _ _ h => h) (Or.inr ⟨by rfl, rfl⟩) (by assumption) ?_
      try simp only [Act.put, List.setIfInBounds_toArray, List.set_cons_zero, List.set_cons_succ]
      refine wpAnyH_take (i := 10) (oi := { dst := some 57, op := Op.binOp BinOp.geq 3 (Operand.tmp 56) (Operand.const (Value.int IntKind.i64 0)) 3, type := 4, pos := "index.go:53", after := #[{ on := 9, ground := Ground.data }, { on := 2, ground := Ground.guard }], guard := some (2, true) }) (v := undef) rfl (by kernel_rfl) (by kernel_rfl) (by kernel_rfl) (fun _ _ _ h => h) (Or.inr ⟨by rfl, rfl⟩) (by assumption) ?_
      try simp only [Act.put, List.setIfInBounds_toArray, List.set_cons_zero, List.set_cons_succ]
      refine wpAnyH_take (i := 11) (oi := { dst := some 58, op := Op.pick (Operand.tmp 49) (Operand.tmp 57) (Operand.const (Value.bool false)), type := 4, pos := "index.go:53", after := #[{ on := 2, ground := Ground.data }, { on := 10, ground := Ground.data }], guard := none }) (v := ?vaq11) rfl (by kernel_rfl) (by kernel_rfl) (by kernel_rfl) (fun _ _ _ h => h) (Or.inl ⟨by rfl, ?yaq11⟩) (by assumption) ?raq11
      case yaq11 => (intro w' hSw; (try dsimp only at hSw); go_simp; try with_reducible rfl)
      try simp only [Act.put, List.setIfInBounds_toArray, List.set_cons_zero, List.set_cons_succ]
      refine wpAnyH_take (i := 12) (oi := { dst := some 59, op := Op.move (Operand.tmp 58), type := 4, pos := "index.go:53", after := #[{ on := 11, ground := Ground.data }, { on := 9, ground := Ground.chain }], guard := none }) (v := ?vaq12) rfl (by kernel_rfl) (by kernel_rfl) (by kernel_rfl) (fun _ _ _ h => h) (Or.inl ⟨by rfl, ?yaq12⟩) (by assumption) ?raq12
      case yaq12 => (intro w' hSw; (try dsimp only at hSw); go_simp; try with_reducible rfl)
      try simp only [Act.put, List.setIfInBounds_toArray, List.set_cons_zero, List.set_cons_succ]
      refine wpAnyH_take (i := 13) (oi := { dst := some 60, op := Op.move (Operand.tmp 1), type := 24, pos := "index.go:53", after := #[{ on := 12, ground := Ground.guard }], guard := some (12, false) }) (v := ?vaq13) rfl (by kernel_rfl) (by kernel_rfl) (by kernel_rfl) (fun _ _ _ h => h) (Or.inl ⟨by rfl, ?yaq13⟩) (by assumption) ?raq13
      case yaq13 => (intro w' hSw; (try dsimp only at hSw); go_simp; try with_reducible rfl)
      try simp only [Act.put, List.setIfInBounds_toArray, List.set_cons_zero, List.set_cons_succ]
      refine wpAnyH_take (i := 14) (oi := { dst := some 61, op := Op.load 69 (Operand.tmp 2), type := 69, pos := "index.go:53", after := #[{ on := 12, ground := Ground.guard }], guard := some (12, false) }) (v := ?vaq14) rfl (by kernel_rfl) (by kernel_rfl) (by kernel_rfl) (fun _ _ _ h => h) (Or.inl ⟨by rfl, ?yaq14⟩) (by assumption) ?raq14
      case yaq14 => (intro w' hSw; (try dsimp only at hSw); go_simp; try with_reducible rfl)
      try simp only [Act.put, List.setIfInBounds_toArray, List.set_cons_zero, List.set_cons_succ]
      refine wpAnyH_ready (rs := [15]) (by kernel_rfl) (by simp) ?_
      refine AllReadyH.cons (o := { dst := some 62, op := Op.makeFunc (Fn.func 88) #[Operand.tmp 61] #[], type := 129, pos := "index.go:53", after := #[{ on := 14, ground := Ground.data }, { on := 12, ground := Ground.guard }], guard := some (12, false) }) rfl (fun K hK => ?_) AllReadyH.nil
      go_simp
      refine hK.out _ _ (SX.out _ (Below.refl _ _).drew) (fun hHeldaq15 => ?_)
      clear hK K hHeld
      try simp only [Act.put, List.setIfInBounds_toArray, List.set_cons_zero, List.set_cons_succ]
      refine wpAnyH_ready (rs := [16]) (by kernel_rfl) (by simp) ?_
      refine AllReadyH.cons (o := { dst := some 63, op := Op.call { callee := Callee.value (Operand.func 111), args := #[Operand.tmp 60, Operand.tmp 62], argTypes := #[24, 129] }, type := 4, pos := "index.go:53", after := #[{ on := 13, ground := Ground.data }, { on := 15, ground := Ground.data }, { on := 12, ground := Ground.chain }, { on := 12, ground := Ground.guard }], guard := some (12, false) }) rfl (fun K hK => ?_) AllReadyH.nil
      go_simp
      refine (CT.out _ (Below.refl _ _).drew).mono ?_
      rintro e w3 ⟨rfl, b3⟩
      have hb3 : Below w2.heap.size w2 w3 := ((Below.refl _ _).drew).trans b3
      go_wp2_with fail
      refine hK.out _ _ (SX.out _ hb3) (fun hHeldaq16 => ?_)
      clear hK K hHeldaq15
      try simp only [Act.put, List.setIfInBounds_toArray, List.set_cons_zero, List.set_cons_succ]
      refine wpAnyH_take (i := 17) (oi := { dst := some 64, op := Op.pick (Operand.tmp 59) (Operand.const (Value.bool true)) (Operand.tmp 63), type := 4, pos := "index.go:53", after := #[{ on := 12, ground := Ground.data }, { on := 16, ground := Ground.data }], guard := none }) (v := ?vaq17) rfl (by kernel_rfl) (by kernel_rfl) (by kernel_rfl) (fun _ _ _ h => h) (Or.inl ⟨by rfl, ?yaq17⟩) (by assumption) ?raq17
      case yaq17 => (intro w' hSw; (try dsimp only at hSw); go_simp; try with_reducible rfl)
      try simp only [Act.put, List.setIfInBounds_toArray, List.set_cons_zero, List.set_cons_succ]
      refine wpAnyH_done (by kernel_rfl) ?_ _
      go_wp2_with fail
      refine (CC.out _ hb3).mono ?_
      rintro e w5 ⟨rfl, b5⟩
      have B5 := Lib.hid (HB2.out.trans ((hb3.trans (b5.mono hb3.size)).mono HB2.out.size))
      clear b5
      go_wp2_with fail
      go_ret
      exact ⟨ret_i HV.out.symm, B5.out⟩
    · obtain ⟨n, hn⟩ : ∃ n, l.length = n + 1 := ⟨l.length - 1, by have := List.length_pos_iff.2 hl0; omega⟩
      obtain ⟨x, hx⟩ : ∃ x, l[n]? = some x := ⟨_, List.getElem?_eq_getElem (by omega)⟩
      have hlast : l.getLast? = some x := by rw [List.getLast?_eq_getElem?, hn]; exact hx
      obtain ⟨ad, rfl, c0, c1, c2, c3, c4, c5⟩ := Ents.at_ R2.out hx
      have SX := Lib.hid fun V (hV : Below w2.heap.size w2 V) => (show (fun w' => (w'.cell? ⟨G, 0, none⟩ = some (.string p) ∧ w'.cell? ⟨G, 1, none⟩ = some (.int .i64 st) ∧ w'.cell? ⟨G, 2, none⟩ = some (.int .i64 2) ∧ w'.cell? ⟨G, 3, none⟩ = some (.string d) ∧ w'.cell? ⟨G, 4, none⟩ = some (.int .i64 t) ∧ w'.cell? ⟨G, 5, none⟩ = some (.int .i64 z)) ∧ (w'.cell? (ad.add (n * 6)) = some (.string x.1) ∧ w'.cell? ⟨(ad.add (n * 6)).block, (ad.add (n * 6)).off + 1, none⟩ = some (.int .i64 x.2.1) ∧ w'.cell? ⟨(ad.add (n * 6)).block, (ad.add (n * 6)).off + 2, none⟩ = some (.int .i64 x.2.2.1) ∧ w'.cell? ⟨(ad.add (n * 6)).block, (ad.add (n * 6)).off + 3, none⟩ = some (.string x.2.2.2.1) ∧ w'.cell? ⟨(ad.add (n * 6)).block, (ad.add (n * 6)).off + 4, none⟩ = some (.int .i64 x.2.2.2.2.1) ∧ w'.cell? ⟨(ad.add (n * 6)).block, (ad.add (n * 6)).off + 5, none⟩ = some (.int .i64 x.2.2.2.2.2))) V from ⟨GG.out V hV, by
        obtain ⟨ad', e, k⟩ := Ents.at_ (R2.out.below hV) hx
        obtain rfl := Option.some.inj e
        exact k⟩)
      have hw : IntKind.i64.wrap ((l.length : Int) - 1) = (n : Int) := by rw [IntKind.wrap_i64] <;> omega
      have hpos : (0 : Int) < (l.length : Int) := by omega
      have hpos2 : 0 < l.length := by omega
      have hnl : (n : Int) < (l.length : Int) := by omega
      have hnl2 : n < l.length := by omega
      have hn0 : (0 : Int) ≤ (n : Int) := Int.natCast_nonneg _
      have CP := Lib.hid fun W => ecmp_any x (p, st, 2, d, t, z) W
      have HLT : Hid (lateE l (p, st, 2, d, t, z) = decide (0 ≤ ec x (p, st, 2, d, t, z))) := Lib.hid (by unfold lateE; rw [hlast])
      obtain ⟨k, hk⟩ : ∃ k, k = ec x (p, st, 2, d, t, z) := ⟨_, rfl⟩
      rw [← hk] at HLT CP
      clear hx hn hlast hk hl0
      by_cases hk0 : 0 ≤ k
      · have HL := Lib.hid (show lateE l (p, st, 2, d, t, z) = true by rw [HLT.out]; simpa using hk0)
        have HV := Lib.hid (show wrE l (p, st, 2, d, t, z) = 6 by rw [wrE_rest HOK.out, HL.out]; rfl)
        go_wp2_with fail
        refine wp_region_held_drew (S := fun w' => (w'.cell? ⟨G, 0, none⟩ = some (.string p) ∧ w'.cell? ⟨G, 1, none⟩ = some (.int .i64 st) ∧ w'.cell? ⟨G, 2, none⟩ = some (.int .i64 2) ∧ w'.cell? ⟨G, 3, none⟩ = some (.string d) ∧ w'.cell? ⟨G, 4, none⟩ = some (.int .i64 t) ∧ w'.cell? ⟨G, 5, none⟩ = some (.int .i64 z)) ∧ (w'.cell? (ad.add (n * 6)) = some (.string x.1) ∧ w'.cell? ⟨(ad.add (n * 6)).block, (ad.add (n * 6)).off + 1, none⟩ = some (.int .i64 x.2.1) ∧ w'.cell? ⟨(ad.add (n * 6)).block, (ad.add (n * 6)).off + 2, none⟩ = some (.int .i64 x.2.2.1) ∧ w'.cell? ⟨(ad.add (n * 6)).block, (ad.add (n * 6)).off + 3, none⟩ = some (.string x.2.2.2.1) ∧ w'.cell? ⟨(ad.add (n * 6)).block, (ad.add (n * 6)).off + 4, none⟩ = some (.int .i64 x.2.2.2.2.1) ∧ w'.cell? ⟨(ad.add (n * 6)).block, (ad.add (n * 6)).off + 5, none⟩ = some (.int .i64 x.2.2.2.2.2))) (by kernel_rfl) (SX.out _ (Below.refl _ _).drew) (fun hHeld => ?_)
        refine wpAnyH_take (i := 0) (oi := { dst := some 47, op := Op.move (Operand.tmp 6), type := 3, pos := "index.go:53", after := #[], guard := none }) (v := ?vbq0) rfl (by kernel_rfl) (by kernel_rfl) (by kernel_rfl) (fun _ _ _ h => h) (Or.inl ⟨by rfl, ?ybq0⟩) (by assumption) ?rbq0
        case ybq0 => (intro w' hSw; (try dsimp only at hSw); go_simp; try with_reducible rfl)
        try simp only [Act.put, List.setIfInBounds_toArray, List.set_cons_zero, List.set_cons_succ]
        refine wpAnyH_take (i := 1) (oi := { dst := some 48, op := Op.binOp BinOp.gtr 3 (Operand.tmp 47) (Operand.const (Value.int IntKind.i64 0)) 3, type := 4, pos := "index.go:53", after := #[{ on := 0, ground := Ground.data }], guard := none }) (v := ?vbq1) rfl (by kernel_rfl) (by kernel_rfl) (by kernel_rfl) (fun _ _ _ h => h) (Or.inl ⟨by rfl, ?ybq1⟩) (by assumption) ?rbq1
        case ybq1 => (intro w' hSw; (try dsimp only at hSw); go_simp; try with_reducible rfl)
        try simp only [Act.put, List.setIfInBounds_toArray, List.set_cons_zero, List.set_cons_succ]
        refine wpAnyH_take (i := 2) (oi := { dst := some 49, op := Op.move (Operand.tmp 48), type := 4, pos := "index.go:53", after := #[{ on := 1, ground := Ground.data }], guard := none }) (v := ?vbq2) rfl (by kernel_rfl) (by kernel_rfl) (by kernel_rfl) (fun _ _ _ h => h) (Or.inl ⟨by rfl, ?ybq2⟩) (by assumption) ?rbq2
        case ybq2 => (intro w' hSw; (try dsimp only at hSw); go_simp; try with_reducible rfl)
        try simp only [Act.put, List.setIfInBounds_toArray, List.set_cons_zero, List.set_cons_succ]
        refine wpAnyH_take (i := 3) (oi := { dst := some 50, op := Op.move (Operand.tmp 1), type := 24, pos := "index.go:53", after := #[{ on := 2, ground := Ground.guard }], guard := some (2, true) }) (v := ?vbq3) rfl (by kernel_rfl) (by kernel_rfl) (by kernel_rfl) (fun _ _ _ h => h) (Or.inl ⟨by rfl, ?ybq3⟩) (by assumption) ?rbq3
        case ybq3 => (intro w' hSw; (try dsimp only at hSw); go_simp; try with_reducible rfl)
        try simp only [Act.put, List.setIfInBounds_toArray, List.set_cons_zero, List.set_cons_succ]
        refine wpAnyH_take (i := 4) (oi := { dst := some 51, op := Op.move (Operand.tmp 6), type := 3, pos := "index.go:53", after := #[{ on := 2, ground := Ground.guard }], guard := some (2, true) }) (v := ?vbq4) rfl (by kernel_rfl) (by kernel_rfl) (by kernel_rfl) (fun _ _ _ h => h) (Or.inl ⟨by rfl, ?ybq4⟩) (by assumption) ?rbq4
        case ybq4 => (intro w' hSw; (try dsimp only at hSw); go_simp; try with_reducible rfl)
        try simp only [Act.put, List.setIfInBounds_toArray, List.set_cons_zero, List.set_cons_succ]
        refine wpAnyH_take (i := 5) (oi := { dst := some 52, op := Op.binOp BinOp.sub 3 (Operand.tmp 51) (Operand.const (Value.int IntKind.i64 1)) 3, type := 3, pos := "index.go:53", after := #[{ on := 4, ground := Ground.data }, { on := 2, ground := Ground.guard }], guard := some (2, true) }) (v := ?vbq5) rfl (by kernel_rfl) (by kernel_rfl) (by kernel_rfl) (fun _ _ _ h => h) (Or.inl ⟨by rfl, ?ybq5⟩) (by assumption) ?rbq5
        case ybq5 => (intro w' hSw; (try dsimp only at hSw); go_simp; try with_reducible rfl)
        try simp only [Act.put, List.setIfInBounds_toArray, List.set_cons_zero, List.set_cons_succ]
        refine wpAnyH_take (i := 6) (oi := { dst := some 53, op := Op.indexAddr 24 (Operand.tmp 50) (Operand.tmp 52), type := 0, pos := "index.go:53", after := #[{ on := 3, ground := Ground.data }, { on := 5, ground := Ground.data }, { on := 2, ground := Ground.guard }], guard := some (2, true) }) (v := ?vbq6) rfl (by kernel_rfl) (by kernel_rfl) (by kernel_rfl) (fun _ _ _ h => h) (Or.inl ⟨by rfl, ?ybq6⟩) (by assumption) ?rbq6
        case ybq6 => (intro w' hSw; (try dsimp only at hSw); go_simp; try with_reducible rfl)
        try simp only [Act.put, List.setIfInBounds_toArray, List.set_cons_zero, List.set_cons_succ]
        refine wpAnyH_take (i := 7) (oi := { dst := some 54, op := Op.load 69 (Operand.tmp 53), type := 69, pos := "index.go:53", after := #[{ on := 6, ground := Ground.data }, { on := 2, ground := Ground.guard }], guard := some (2, true) }) (v := ?vbq7) rfl (by kernel_rfl) (by kernel_rfl) (by kernel_rfl) (fun _ _ _ h => h) (Or.inl ⟨by rfl, ?ybq7⟩) (by assumption) ?rbq7
        case ybq7 => (intro w' hSw; (try dsimp only at hSw); go_simp; try with_reducible rfl)
        try simp only [Act.put, List.setIfInBounds_toArray, List.set_cons_zero, List.set_cons_succ]
        refine wpAnyH_take (i := 8) (oi := { dst := some 55, op := Op.load 69 (Operand.tmp 2), type := 69, pos := "index.go:53", after := #[{ on := 2, ground := Ground.guard }], guard := some (2, true) }) (v := ?vbq8) rfl (by kernel_rfl) (by kernel_rfl) (by kernel_rfl) (fun _ _ _ h => h) (Or.inl ⟨by rfl, ?ybq8⟩) (by assumption) ?rbq8
        case ybq8 => (intro w' hSw; (try dsimp only at hSw); go_simp; try with_reducible rfl)
        try simp only [Act.put, List.setIfInBounds_toArray, List.set_cons_zero, List.set_cons_succ]
        refine wpAnyH_ready (rs := [9]) (by kernel_rfl) (by simp) ?_
        refine AllReadyH.cons (o := { dst := some 56, op := Op.call { callee := Callee.value (Operand.func 90), args := #[Operand.tmp 54, Operand.tmp 55], argTypes := #[69, 69] }, type := 3, pos := "index.go:53", after := #[{ on := 7, ground := Ground.data }, { on := 8, ground := Ground.data }, { on := 2, ground := Ground.chain }, { on := 2, ground := Ground.guard }], guard := some (2, true) }) rfl (fun K hK => ?_) AllReadyH.nil
        go_simp
        refine (CP.out _).mono ?_
        rintro e w4 ⟨rfl, b4⟩
        have hb4 : Below w2.heap.size w2 w4 := ((Below.refl _ _).drew).trans b4
        go_wp2_with fail
        refine hK.out _ _ (SX.out _ hb4) (fun hHeldbq9 => ?_)
        clear hK K hHeld
        try simp only [Act.put, List.setIfInBounds_toArray, List.set_cons_zero, List.set_cons_succ]
        refine wpAnyH_take (i := 10) (oi := { dst := some 57, op := Op.binOp BinOp.geq 3 (Operand.tmp 56) (Operand.const (Value.int IntKind.i64 0)) 3, type := 4, pos := "index.go:53", after := #[{ on := 9, ground := Ground.data }, { on := 2, ground := Ground.guard }], guard := some (2, true) }) (v := ?vbq10) rfl (by kernel_rfl) (by kernel_rfl) (by kernel_rfl) (fun _ _ _ h => h) (Or.inl ⟨by rfl, ?ybq10⟩) (by assumption) ?rbq10
        case ybq10 => (intro w' hSw; (try dsimp only at hSw); go_simp; try with_reducible rfl)
        try simp only [Act.put, List.setIfInBounds_toArray, List.set_cons_zero, List.set_cons_succ]
        refine wpAnyH_take (i := 11) (oi := { dst := some 58, op := Op.pick (Operand.tmp 49) (Operand.tmp 57) (Operand.const (Value.bool false)), type := 4, pos := "index.go:53", after := #[{ on := 2, ground := Ground.data }, { on := 10, ground := Ground.data }], guard := none }) (v := ?vbq11) rfl (by kernel_rfl) (by kernel_rfl) (by kernel_rfl) (fun _ _ _ h => h) (Or.inl ⟨by rfl, ?ybq11⟩) (by assumption) ?rbq11
        case ybq11 => (intro w' hSw; (try dsimp only at hSw); go_simp; try with_reducible rfl)
        try simp only [Act.put, List.setIfInBounds_toArray, List.set_cons_zero, List.set_cons_succ]
        refine wpAnyH_take (i := 12) (oi := { dst := some 59, op := Op.move (Operand.tmp 58), type := 4, pos := "index.go:53", after := #[{ on := 11, ground := Ground.data }, { on := 9, ground := Ground.chain }], guard := none }) (v := ?vbq12) rfl (by kernel_rfl) (by kernel_rfl) (by kernel_rfl) (fun _ _ _ h => h) (Or.inl ⟨by rfl, ?ybq12⟩) (by assumption) ?rbq12
        case ybq12 => (intro w' hSw; (try dsimp only at hSw); go_simp; try with_reducible rfl)
        try simp only [Act.put, List.setIfInBounds_toArray, List.set_cons_zero, List.set_cons_succ]
        refine wpAnyH_take (i := 13) (oi := { dst := some 60, op := Op.move (Operand.tmp 1), type := 24, pos := "index.go:53", after := #[{ on := 12, ground := Ground.guard }], guard := some (12, false) }) (v := undef) rfl (by kernel_rfl) (by kernel_rfl) (by kernel_rfl) (fun _ _ _ h => h) (Or.inr ⟨by rfl, rfl⟩) (by assumption) ?_
        try simp only [Act.put, List.setIfInBounds_toArray, List.set_cons_zero, List.set_cons_succ]
        refine wpAnyH_take (i := 14) (oi := { dst := some 61, op := Op.load 69 (Operand.tmp 2), type := 69, pos := "index.go:53", after := #[{ on := 12, ground := Ground.guard }], guard := some (12, false) }) (v := undef) rfl (by kernel_rfl) (by kernel_rfl) (by kernel_rfl) (fun _ _ _ h => h) (Or.inr ⟨by rfl, rfl⟩) (by assumption) ?_
        try simp only [Act.put, List.setIfInBounds_toArray, List.set_cons_zero, List.set_cons_succ]
        refine wpAnyH_take (i := 15) (oi := { dst := some 62, op := Op.makeFunc (Fn.func 88) #[Operand.tmp 61] #[], type := 129, pos := "index.go:53", after := #[{ on := 14, ground := Ground.data }, { on := 12, ground := Ground.guard }], guard := some (12, false) }) (v := undef) rfl (by kernel_rfl) (by kernel_rfl) (by kernel_rfl) (fun _ _ _ h => h) (Or.inr ⟨by rfl, rfl⟩) (by assumption) ?_
        try simp only [Act.put, List.setIfInBounds_toArray, List.set_cons_zero, List.set_cons_succ]
        refine wpAnyH_take (i := 16) (oi := { dst := some 63, op := Op.call { callee := Callee.value (Operand.func 111), args := #[Operand.tmp 60, Operand.tmp 62], argTypes := #[24, 129] }, type := 4, pos := "index.go:53", after := #[{ on := 13, ground := Ground.data }, { on := 15, ground := Ground.data }, { on := 12, ground := Ground.chain }, { on := 12, ground := Ground.guard }], guard := some (12, false) }) (v := undef) rfl (by kernel_rfl) (by kernel_rfl) (by kernel_rfl) (fun _ _ _ h => h) (Or.inr ⟨by rfl, rfl⟩) (by assumption) ?_
        try simp only [Act.put, List.setIfInBounds_toArray, List.set_cons_zero, List.set_cons_succ]
        refine wpAnyH_take (i := 17) (oi := { dst := some 64, op := Op.pick (Operand.tmp 59) (Operand.const (Value.bool true)) (Operand.tmp 63), type := 4, pos := "index.go:53", after := #[{ on := 12, ground := Ground.data }, { on := 16, ground := Ground.data }], guard := none }) (v := ?vbq17) rfl (by kernel_rfl) (by kernel_rfl) (by kernel_rfl) (fun _ _ _ h => h) (Or.inl ⟨by rfl, ?ybq17⟩) (by assumption) ?rbq17
        case ybq17 => (intro w' hSw; (try dsimp only at hSw); go_simp; try with_reducible rfl)
        try simp only [Act.put, List.setIfInBounds_toArray, List.set_cons_zero, List.set_cons_succ]
        refine wpAnyH_done (by kernel_rfl) ?_ _
        go_wp2_with fail
        go_ret
        exact ⟨ret_i HV.out.symm, HB2.out.trans (hb4.mono HB2.out.size)⟩
      · have HL := Lib.hid (show lateE l (p, st, 2, d, t, z) = false by rw [HLT.out]; simpa using hk0)
        clear HLT
        have HLT := HL
        have hkd : decide (0 ≤ k) = false := by simpa using hk0
        cases qa with
        | true =>
          have HV := Lib.hid (show wrE l (p, st, 2, d, t, z) = 6 by rw [wrE_rest HOK.out, HLT.out, ← HA.out]; rfl)
          go_wp2_with fail
          refine wp_region_held_drew (S := fun w' => (w'.cell? ⟨G, 0, none⟩ = some (.string p) ∧ w'.cell? ⟨G, 1, none⟩ = some (.int .i64 st) ∧ w'.cell? ⟨G, 2, none⟩ = some (.int .i64 2) ∧ w'.cell? ⟨G, 3, none⟩ = some (.string d) ∧ w'.cell? ⟨G, 4, none⟩ = some (.int .i64 t) ∧ w'.cell? ⟨G, 5, none⟩ = some (.int .i64 z)) ∧ (w'.cell? (ad.add (n * 6)) = some (.string x.1) ∧ w'.cell? ⟨(ad.add (n * 6)).block, (ad.add (n * 6)).off + 1, none⟩ = some (.int .i64 x.2.1) ∧ w'.cell? ⟨(ad.add (n * 6)).block, (ad.add (n * 6)).off + 2, none⟩ = some (.int .i64 x.2.2.1) ∧ w'.cell? ⟨(ad.add (n * 6)).block, (ad.add (n * 6)).off + 3, none⟩ = some (.string x.2.2.2.1) ∧ w'.cell? ⟨(ad.add (n * 6)).block, (ad.add (n * 6)).off + 4, none⟩ = some (.int .i64 x.2.2.2.2.1) ∧ w'.cell? ⟨(ad.add (n * 6)).block, (ad.add (n * 6)).off + 5, none⟩ = some (.int .i64 x.2.2.2.2.2))) (by kernel_rfl) (SX.out _ (Below.refl _ _).drew) (fun hHeld => ?_)
          refine wpAnyH_take (i := 0) (oi := { dst := some 47, op := Op.move (Operand.tmp 6), type := 3, pos := "index.go:53", after := #[], guard := none }) (v := ?vcq0) rfl (by kernel_rfl) (by kernel_rfl) (by kernel_rfl) (fun _ _ _ h => h) (Or.inl ⟨by rfl, ?ycq0⟩) (by assumption) ?rcq0
          case ycq0 => (intro w' hSw; (try dsimp only at hSw); go_simp; try with_reducible rfl)
          try simp only [Act.put, List.setIfInBounds_toArray, List.set_cons_zero, List.set_cons_succ]
          refine wpAnyH_take (i := 1) (oi := { dst := some 48, op := Op.binOp BinOp.gtr 3 (Operand.tmp 47) (Operand.const (Value.int IntKind.i64 0)) 3, type := 4, pos := "index.go:53", after := #[{ on := 0, ground := Ground.data }], guard := none }) (v := ?vcq1) rfl (by kernel_rfl) (by kernel_rfl) (by kernel_rfl) (fun _ _ _ h => h) (Or.inl ⟨by rfl, ?ycq1⟩) (by assumption) ?rcq1
          case ycq1 => (intro w' hSw; (try dsimp only at hSw); go_simp; try with_reducible rfl)
          try simp only [Act.put, List.setIfInBounds_toArray, List.set_cons_zero, List.set_cons_succ]
          refine wpAnyH_take (i := 2) (oi := { dst := some 49, op := Op.move (Operand.tmp 48), type := 4, pos := "index.go:53", after := #[{ on := 1, ground := Ground.data }], guard := none }) (v := ?vcq2) rfl (by kernel_rfl) (by kernel_rfl) (by kernel_rfl) (fun _ _ _ h => h) (Or.inl ⟨by rfl, ?ycq2⟩) (by assumption) ?rcq2
          case ycq2 => (intro w' hSw; (try dsimp only at hSw); go_simp; try with_reducible rfl)
          try simp only [Act.put, List.setIfInBounds_toArray, List.set_cons_zero, List.set_cons_succ]
          refine wpAnyH_take (i := 3) (oi := { dst := some 50, op := Op.move (Operand.tmp 1), type := 24, pos := "index.go:53", after := #[{ on := 2, ground := Ground.guard }], guard := some (2, true) }) (v := ?vcq3) rfl (by kernel_rfl) (by kernel_rfl) (by kernel_rfl) (fun _ _ _ h => h) (Or.inl ⟨by rfl, ?ycq3⟩) (by assumption) ?rcq3
          case ycq3 => (intro w' hSw; (try dsimp only at hSw); go_simp; try with_reducible rfl)
          try simp only [Act.put, List.setIfInBounds_toArray, List.set_cons_zero, List.set_cons_succ]
          refine wpAnyH_take (i := 4) (oi := { dst := some 51, op := Op.move (Operand.tmp 6), type := 3, pos := "index.go:53", after := #[{ on := 2, ground := Ground.guard }], guard := some (2, true) }) (v := ?vcq4) rfl (by kernel_rfl) (by kernel_rfl) (by kernel_rfl) (fun _ _ _ h => h) (Or.inl ⟨by rfl, ?ycq4⟩) (by assumption) ?rcq4
          case ycq4 => (intro w' hSw; (try dsimp only at hSw); go_simp; try with_reducible rfl)
          try simp only [Act.put, List.setIfInBounds_toArray, List.set_cons_zero, List.set_cons_succ]
          refine wpAnyH_take (i := 5) (oi := { dst := some 52, op := Op.binOp BinOp.sub 3 (Operand.tmp 51) (Operand.const (Value.int IntKind.i64 1)) 3, type := 3, pos := "index.go:53", after := #[{ on := 4, ground := Ground.data }, { on := 2, ground := Ground.guard }], guard := some (2, true) }) (v := ?vcq5) rfl (by kernel_rfl) (by kernel_rfl) (by kernel_rfl) (fun _ _ _ h => h) (Or.inl ⟨by rfl, ?ycq5⟩) (by assumption) ?rcq5
          case ycq5 => (intro w' hSw; (try dsimp only at hSw); go_simp; try with_reducible rfl)
          try simp only [Act.put, List.setIfInBounds_toArray, List.set_cons_zero, List.set_cons_succ]
          refine wpAnyH_take (i := 6) (oi := { dst := some 53, op := Op.indexAddr 24 (Operand.tmp 50) (Operand.tmp 52), type := 0, pos := "index.go:53", after := #[{ on := 3, ground := Ground.data }, { on := 5, ground := Ground.data }, { on := 2, ground := Ground.guard }], guard := some (2, true) }) (v := ?vcq6) rfl (by kernel_rfl) (by kernel_rfl) (by kernel_rfl) (fun _ _ _ h => h) (Or.inl ⟨by rfl, ?ycq6⟩) (by assumption) ?rcq6
          case ycq6 => (intro w' hSw; (try dsimp only at hSw); go_simp; try with_reducible rfl)
          try simp only [Act.put, List.setIfInBounds_toArray, List.set_cons_zero, List.set_cons_succ]
          refine wpAnyH_take (i := 7) (oi := { dst := some 54, op := Op.load 69 (Operand.tmp 53), type := 69, pos := "index.go:53", after := #[{ on := 6, ground := Ground.data }, { on := 2, ground := Ground.guard }], guard := some (2, true) }) (v := ?vcq7) rfl (by kernel_rfl) (by kernel_rfl) (by kernel_rfl) (fun _ _ _ h => h) (Or.inl ⟨by rfl, ?ycq7⟩) (by assumption) ?rcq7
          case ycq7 => (intro w' hSw; (try dsimp only at hSw); go_simp; try with_reducible rfl)
          try simp only [Act.put, List.setIfInBounds_toArray, List.set_cons_zero, List.set_cons_succ]
          refine wpAnyH_take (i := 8) (oi := { dst := some 55, op := Op.load 69 (Operand.tmp 2), type := 69, pos := "index.go:53", after := #[{ on := 2, ground := Ground.guard }], guard := some (2, true) }) (v := ?vcq8) rfl (by kernel_rfl) (by kernel_rfl) (by kernel_rfl) (fun _ _ _ h => h) (Or.inl ⟨by rfl, ?ycq8⟩) (by assumption) ?rcq8
          case ycq8 => (intro w' hSw; (try dsimp only at hSw); go_simp; try with_reducible rfl)
          try simp only [Act.put, List.setIfInBounds_toArray, List.set_cons_zero, List.set_cons_succ]
          refine wpAnyH_ready (rs := [9]) (by kernel_rfl) (by simp) ?_
          refine AllReadyH.cons (o := { dst := some 56, op := Op.call { callee := Callee.value (Operand.func 90), args := #[Operand.tmp 54, Operand.tmp 55], argTypes := #[69, 69] }, type := 3, pos := "index.go:53", after := #[{ on := 7, ground := Ground.data }, { on := 8, ground := Ground.data }, { on := 2, ground := Ground.chain }, { on := 2, ground := Ground.guard }], guard := some (2, true) }) rfl (fun K hK => ?_) AllReadyH.nil
          go_simp
          refine (CP.out _).mono ?_
          rintro e w4 ⟨rfl, b4⟩
          have hb4 : Below w2.heap.size w2 w4 := ((Below.refl _ _).drew).trans b4
          go_wp2_with fail
          refine hK.out _ _ (SX.out _ hb4) (fun hHeldcq9 => ?_)
          clear hK K hHeld
          try simp only [Act.put, List.setIfInBounds_toArray, List.set_cons_zero, List.set_cons_succ]
          refine wpAnyH_take (i := 10) (oi := { dst := some 57, op := Op.binOp BinOp.geq 3 (Operand.tmp 56) (Operand.const (Value.int IntKind.i64 0)) 3, type := 4, pos := "index.go:53", after := #[{ on := 9, ground := Ground.data }, { on := 2, ground := Ground.guard }], guard := some (2, true) }) (v := ?vcq10) rfl (by kernel_rfl) (by kernel_rfl) (by kernel_rfl) (fun _ _ _ h => h) (Or.inl ⟨by rfl, ?ycq10⟩) (by assumption) ?rcq10
          case ycq10 => (intro w' hSw; (try dsimp only at hSw); go_simp; try with_reducible rfl)
          try simp only [Act.put, List.setIfInBounds_toArray, List.set_cons_zero, List.set_cons_succ]
          refine wpAnyH_take (i := 11) (oi := { dst := some 58, op := Op.pick (Operand.tmp 49) (Operand.tmp 57) (Operand.const (Value.bool false)), type := 4, pos := "index.go:53", after := #[{ on := 2, ground := Ground.data }, { on := 10, ground := Ground.data }], guard := none }) (v := ?vcq11) rfl (by kernel_rfl) (by kernel_rfl) (by kernel_rfl) (fun _ _ _ h => h) (Or.inl ⟨by rfl, ?ycq11⟩) (by assumption) ?rcq11
          case ycq11 => (intro w' hSw; (try dsimp only at hSw); go_simp; try with_reducible rfl)
          try simp only [Act.put, List.setIfInBounds_toArray, List.set_cons_zero, List.set_cons_succ]
          refine wpAnyH_take (i := 12) (oi := { dst := some 59, op := Op.move (Operand.tmp 58), type := 4, pos := "index.go:53", after := #[{ on := 11, ground := Ground.data }, { on := 9, ground := Ground.chain }], guard := none }) (v := ?vcq12) rfl (by kernel_rfl) (by kernel_rfl) (by kernel_rfl) (fun _ _ _ h => h) (Or.inl ⟨by rfl, ?ycq12⟩) (by assumption) ?rcq12
          case ycq12 => (intro w' hSw; (try dsimp only at hSw); go_simp; try with_reducible rfl)
          try simp only [Act.put, List.setIfInBounds_toArray, List.set_cons_zero, List.set_cons_succ]
          refine wpAnyH_take (i := 13) (oi := { dst := some 60, op := Op.move (Operand.tmp 1), type := 24, pos := "index.go:53", after := #[{ on := 12, ground := Ground.guard }], guard := some (12, false) }) (v := ?vcq13) rfl (by kernel_rfl) (by kernel_rfl) (by kernel_rfl) (fun _ _ _ h => h) (Or.inl ⟨by rfl, ?ycq13⟩) (by assumption) ?rcq13
          case ycq13 => (intro w' hSw; (try dsimp only at hSw); go_simp; try with_reducible rfl)
          try simp only [Act.put, List.setIfInBounds_toArray, List.set_cons_zero, List.set_cons_succ]
          refine wpAnyH_take (i := 14) (oi := { dst := some 61, op := Op.load 69 (Operand.tmp 2), type := 69, pos := "index.go:53", after := #[{ on := 12, ground := Ground.guard }], guard := some (12, false) }) (v := ?vcq14) rfl (by kernel_rfl) (by kernel_rfl) (by kernel_rfl) (fun _ _ _ h => h) (Or.inl ⟨by rfl, ?ycq14⟩) (by assumption) ?rcq14
          case ycq14 => (intro w' hSw; (try dsimp only at hSw); go_simp; try with_reducible rfl)
          try simp only [Act.put, List.setIfInBounds_toArray, List.set_cons_zero, List.set_cons_succ]
          refine wpAnyH_ready (rs := [15]) (by kernel_rfl) (by simp) ?_
          refine AllReadyH.cons (o := { dst := some 62, op := Op.makeFunc (Fn.func 88) #[Operand.tmp 61] #[], type := 129, pos := "index.go:53", after := #[{ on := 14, ground := Ground.data }, { on := 12, ground := Ground.guard }], guard := some (12, false) }) rfl (fun K hK => ?_) AllReadyH.nil
          go_simp
          refine hK.out _ _ (SX.out _ hb4) (fun hHeldcq15 => ?_)
          clear hK K hHeldcq9
          try simp only [Act.put, List.setIfInBounds_toArray, List.set_cons_zero, List.set_cons_succ]
          refine wpAnyH_ready (rs := [16]) (by kernel_rfl) (by simp) ?_
          refine AllReadyH.cons (o := { dst := some 63, op := Op.call { callee := Callee.value (Operand.func 111), args := #[Operand.tmp 60, Operand.tmp 62], argTypes := #[24, 129] }, type := 4, pos := "index.go:53", after := #[{ on := 13, ground := Ground.data }, { on := 15, ground := Ground.data }, { on := 12, ground := Ground.chain }, { on := 12, ground := Ground.guard }], guard := some (12, false) }) rfl (fun K hK => ?_) AllReadyH.nil
          go_simp
          refine (CT.out _ hb4).mono ?_
          rintro e w3 ⟨rfl, b3⟩
          have hb3 : Below w2.heap.size w2 w3 := hb4.trans (b3.mono hb4.size)
          go_wp2_with fail
          refine hK.out _ _ (SX.out _ hb3) (fun hHeldcq16 => ?_)
          clear hK K hHeldcq15
          try simp only [Act.put, List.setIfInBounds_toArray, List.set_cons_zero, List.set_cons_succ]
          refine wpAnyH_take (i := 17) (oi := { dst := some 64, op := Op.pick (Operand.tmp 59) (Operand.const (Value.bool true)) (Operand.tmp 63), type := 4, pos := "index.go:53", after := #[{ on := 12, ground := Ground.data }, { on := 16, ground := Ground.data }], guard := none }) (v := ?vcq17) rfl (by kernel_rfl) (by kernel_rfl) (by kernel_rfl) (fun _ _ _ h => h) (Or.inl ⟨by rfl, ?ycq17⟩) (by assumption) ?rcq17
          case ycq17 => (intro w' hSw; (try dsimp only at hSw); go_simp; try with_reducible rfl)
          try simp only [Act.put, List.setIfInBounds_toArray, List.set_cons_zero, List.set_cons_succ]
          refine wpAnyH_done (by kernel_rfl) ?_ _
          go_wp2_with fail
          go_ret
          exact ⟨ret_i HV.out.symm, HB2.out.trans (hb3.mono HB2.out.size)⟩
        | false =>
          cases qc with
          | false =>
            have HV := Lib.hid (show wrE l (p, st, 2, d, t, z) = 0 by rw [wrE_rest HOK.out, HLT.out, ← HA.out, ← HQ.out]; rfl)
            go_wp2_with fail
            refine wp_region_held_drew (S := fun w' => (w'.cell? ⟨G, 0, none⟩ = some (.string p) ∧ w'.cell? ⟨G, 1, none⟩ = some (.int .i64 st) ∧ w'.cell? ⟨G, 2, none⟩ = some (.int .i64 2) ∧ w'.cell? ⟨G, 3, none⟩ = some (.string d) ∧ w'.cell? ⟨G, 4, none⟩ = some (.int .i64 t) ∧ w'.cell? ⟨G, 5, none⟩ = some (.int .i64 z)) ∧ (w'.cell? (ad.add (n * 6)) = some (.string x.1) ∧ w'.cell? ⟨(ad.add (n * 6)).block, (ad.add (n * 6)).off + 1, none⟩ = some (.int .i64 x.2.1) ∧ w'.cell? ⟨(ad.add (n * 6)).block, (ad.add (n * 6)).off + 2, none⟩ = some (.int .i64 x.2.2.1) ∧ w'.cell? ⟨(ad.add (n * 6)).block, (ad.add (n * 6)).off + 3, none⟩ = some (.string x.2.2.2.1) ∧ w'.cell? ⟨(ad.add (n * 6)).block, (ad.add (n * 6)).off + 4, none⟩ = some (.int .i64 x.2.2.2.2.1) ∧ w'.cell? ⟨(ad.add (n * 6)).block, (ad.add (n * 6)).off + 5, none⟩ = some (.int .i64 x.2.2.2.2.2))) (by kernel_rfl) (SX.out _ (Below.refl _ _).drew) (fun hHeld => ?_)
            refine wpAnyH_take (i := 0) (oi := { dst := some 47, op := Op.move (Operand.tmp 6), type := 3, pos := "index.go:53", after := #[], guard := none }) (v := ?vdq0) rfl (by kernel_rfl) (by kernel_rfl) (by kernel_rfl) (fun _ _ _ h => h) (Or.inl ⟨by rfl, ?ydq0⟩) (by assumption) ?rdq0
            case ydq0 => (intro w' hSw; (try dsimp only at hSw); go_simp; try with_reducible rfl)
            try simp only [Act.put, List.setIfInBounds_toArray, List.set_cons_zero, List.set_cons_succ]
            refine wpAnyH_take (i := 1) (oi := { dst := some 48, op := Op.binOp BinOp.gtr 3 (Operand.tmp 47) (Operand.const (Value.int IntKind.i64 0)) 3, type := 4, pos := "index.go:53", after := #[{ on := 0, ground := Ground.data }], guard := none }) (v := ?vdq1) rfl (by kernel_rfl) (by kernel_rfl) (by kernel_rfl) (fun _ _ _ h => h) (Or.inl ⟨by rfl, ?ydq1⟩) (by assumption) ?rdq1
            case ydq1 => (intro w' hSw; (try dsimp only at hSw); go_simp; try with_reducible rfl)
            try simp only [Act.put, List.setIfInBounds_toArray, List.set_cons_zero, List.set_cons_succ]
            refine wpAnyH_take (i := 2) (oi := { dst := some 49, op := Op.move (Operand.tmp 48), type := 4, pos := "index.go:53", after := #[{ on := 1, ground := Ground.data }], guard := none }) (v := ?vdq2) rfl (by kernel_rfl) (by kernel_rfl) (by kernel_rfl) (fun _ _ _ h => h) (Or.inl ⟨by rfl, ?ydq2⟩) (by assumption) ?rdq2
            case ydq2 => (intro w' hSw; (try dsimp only at hSw); go_simp; try with_reducible rfl)
            try simp only [Act.put, List.setIfInBounds_toArray, List.set_cons_zero, List.set_cons_succ]
            refine wpAnyH_take (i := 3) (oi := { dst := some 50, op := Op.move (Operand.tmp 1), type := 24, pos := "index.go:53", after := #[{ on := 2, ground := Ground.guard }], guard := some (2, true) }) (v := ?vdq3) rfl (by kernel_rfl) (by kernel_rfl) (by kernel_rfl) (fun _ _ _ h => h) (Or.inl ⟨by rfl, ?ydq3⟩) (by assumption) ?rdq3
            case ydq3 => (intro w' hSw; (try dsimp only at hSw); go_simp; try with_reducible rfl)
            try simp only [Act.put, List.setIfInBounds_toArray, List.set_cons_zero, List.set_cons_succ]
            refine wpAnyH_take (i := 4) (oi := { dst := some 51, op := Op.move (Operand.tmp 6), type := 3, pos := "index.go:53", after := #[{ on := 2, ground := Ground.guard }], guard := some (2, true) }) (v := ?vdq4) rfl (by kernel_rfl) (by kernel_rfl) (by kernel_rfl) (fun _ _ _ h => h) (Or.inl ⟨by rfl, ?ydq4⟩) (by assumption) ?rdq4
            case ydq4 => (intro w' hSw; (try dsimp only at hSw); go_simp; try with_reducible rfl)
            try simp only [Act.put, List.setIfInBounds_toArray, List.set_cons_zero, List.set_cons_succ]
            refine wpAnyH_take (i := 5) (oi := { dst := some 52, op := Op.binOp BinOp.sub 3 (Operand.tmp 51) (Operand.const (Value.int IntKind.i64 1)) 3, type := 3, pos := "index.go:53", after := #[{ on := 4, ground := Ground.data }, { on := 2, ground := Ground.guard }], guard := some (2, true) }) (v := ?vdq5) rfl (by kernel_rfl) (by kernel_rfl) (by kernel_rfl) (fun _ _ _ h => h) (Or.inl ⟨by rfl, ?ydq5⟩) (by assumption) ?rdq5
            case ydq5 => (intro w' hSw; (try dsimp only at hSw); go_simp; try with_reducible rfl)
            try simp only [Act.put, List.setIfInBounds_toArray, List.set_cons_zero, List.set_cons_succ]
            refine wpAnyH_take (i := 6) (oi := { dst := some 53, op := Op.indexAddr 24 (Operand.tmp 50) (Operand.tmp 52), type := 0, pos := "index.go:53", after := #[{ on := 3, ground := Ground.data }, { on := 5, ground := Ground.data }, { on := 2, ground := Ground.guard }], guard := some (2, true) }) (v := ?vdq6) rfl (by kernel_rfl) (by kernel_rfl) (by kernel_rfl) (fun _ _ _ h => h) (Or.inl ⟨by rfl, ?ydq6⟩) (by assumption) ?rdq6
            case ydq6 => (intro w' hSw; (try dsimp only at hSw); go_simp; try with_reducible rfl)
            try simp only [Act.put, List.setIfInBounds_toArray, List.set_cons_zero, List.set_cons_succ]
            refine wpAnyH_take (i := 7) (oi := { dst := some 54, op := Op.load 69 (Operand.tmp 53), type := 69, pos := "index.go:53", after := #[{ on := 6, ground := Ground.data }, { on := 2, ground := Ground.guard }], guard := some (2, true) }) (v := ?vdq7) rfl (by kernel_rfl) (by kernel_rfl) (by kernel_rfl) (fun _ _ _ h => h) (Or.inl ⟨by rfl, ?ydq7⟩) (by assumption) ?rdq7
            case ydq7 => (intro w' hSw; (try dsimp only at hSw); go_simp; try with_reducible rfl)
            try simp only [Act.put, List.setIfInBounds_toArray, List.set_cons_zero, List.set_cons_succ]
            refine wpAnyH_take (i := 8) (oi := { dst := some 55, op := Op.load 69 (Operand.tmp 2), type := 69, pos := "index.go:53", after := #[{ on := 2, ground := Ground.guard }], guard := some (2, true) }) (v := ?vdq8) rfl (by kernel_rfl) (by kernel_rfl) (by kernel_rfl) (fun _ _ _ h => h) (Or.inl ⟨by rfl, ?ydq8⟩) (by assumption) ?rdq8
            case ydq8 => (intro w' hSw; (try dsimp only at hSw); go_simp; try with_reducible rfl)
            try simp only [Act.put, List.setIfInBounds_toArray, List.set_cons_zero, List.set_cons_succ]
            refine wpAnyH_ready (rs := [9]) (by kernel_rfl) (by simp) ?_
            refine AllReadyH.cons (o := { dst := some 56, op := Op.call { callee := Callee.value (Operand.func 90), args := #[Operand.tmp 54, Operand.tmp 55], argTypes := #[69, 69] }, type := 3, pos := "index.go:53", after := #[{ on := 7, ground := Ground.data }, { on := 8, ground := Ground.data }, { on := 2, ground := Ground.chain }, { on := 2, ground := Ground.guard }], guard := some (2, true) }) rfl (fun K hK => ?_) AllReadyH.nil
            go_simp
            refine (CP.out _).mono ?_
            rintro e w4 ⟨rfl, b4⟩
            have hb4 : Below w2.heap.size w2 w4 := ((Below.refl _ _).drew).trans b4
            go_wp2_with fail
            refine hK.out _ _ (SX.out _ hb4) (fun hHelddq9 => ?_)
            clear hK K hHeld
            try simp only [Act.put, List.setIfInBounds_toArray, List.set_cons_zero, List.set_cons_succ]
            refine wpAnyH_take (i := 10) (oi := { dst := some 57, op := Op.binOp BinOp.geq 3 (Operand.tmp 56) (Operand.const (Value.int IntKind.i64 0)) 3, type := 4, pos := "index.go:53", after := #[{ on := 9, ground := Ground.data }, { on := 2, ground := Ground.guard }], guard := some (2, true) }) (v := ?vdq10) rfl (by kernel_rfl) (by kernel_rfl) (by kernel_rfl) (fun _ _ _ h => h) (Or.inl ⟨by rfl, ?ydq10⟩) (by assumption) ?rdq10
            case ydq10 => (intro w' hSw; (try dsimp only at hSw); go_simp; try with_reducible rfl)
            try simp only [Act.put, List.setIfInBounds_toArray, List.set_cons_zero, List.set_cons_succ]
            refine wpAnyH_take (i := 11) (oi := { dst := some 58, op := Op.pick (Operand.tmp 49) (Operand.tmp 57) (Operand.const (Value.bool false)), type := 4, pos := "index.go:53", after := #[{ on := 2, ground := Ground.data }, { on := 10, ground := Ground.data }], guard := none }) (v := ?vdq11) rfl (by kernel_rfl) (by kernel_rfl) (by kernel_rfl) (fun _ _ _ h => h) (Or.inl ⟨by rfl, ?ydq11⟩) (by assumption) ?rdq11
            case ydq11 => (intro w' hSw; (try dsimp only at hSw); go_simp; try with_reducible rfl)
            try simp only [Act.put, List.setIfInBounds_toArray, List.set_cons_zero, List.set_cons_succ]
            refine wpAnyH_take (i := 12) (oi := { dst := some 59, op := Op.move (Operand.tmp 58), type := 4, pos := "index.go:53", after := #[{ on := 11, ground := Ground.data }, { on := 9, ground := Ground.chain }], guard := none }) (v := ?vdq12) rfl (by kernel_rfl) (by kernel_rfl) (by kernel_rfl) (fun _ _ _ h => h) (Or.inl ⟨by rfl, ?ydq12⟩) (by assumption) ?rdq12
            case ydq12 => (intro w' hSw; (try dsimp only at hSw); go_simp; try with_reducible rfl)
            try simp only [Act.put, List.setIfInBounds_toArray, List.set_cons_zero, List.set_cons_succ]
            refine wpAnyH_take (i := 13) (oi := { dst := some 60, op := Op.move (Operand.tmp 1), type := 24, pos := "index.go:53", after := #[{ on := 12, ground := Ground.guard }], guard := some (12, false) }) (v := ?vdq13) rfl (by kernel_rfl) (by kernel_rfl) (by kernel_rfl) (fun _ _ _ h => h) (Or.inl ⟨by rfl, ?ydq13⟩) (by assumption) ?rdq13
            case ydq13 => (intro w' hSw; (try dsimp only at hSw); go_simp; try with_reducible rfl)
            try simp only [Act.put, List.setIfInBounds_toArray, List.set_cons_zero, List.set_cons_succ]
            refine wpAnyH_take (i := 14) (oi := { dst := some 61, op := Op.load 69 (Operand.tmp 2), type := 69, pos := "index.go:53", after := #[{ on := 12, ground := Ground.guard }], guard := some (12, false) }) (v := ?vdq14) rfl (by kernel_rfl) (by kernel_rfl) (by kernel_rfl) (fun _ _ _ h => h) (Or.inl ⟨by rfl, ?ydq14⟩) (by assumption) ?rdq14
            case ydq14 => (intro w' hSw; (try dsimp only at hSw); go_simp; try with_reducible rfl)
            try simp only [Act.put, List.setIfInBounds_toArray, List.set_cons_zero, List.set_cons_succ]
            refine wpAnyH_ready (rs := [15]) (by kernel_rfl) (by simp) ?_
            refine AllReadyH.cons (o := { dst := some 62, op := Op.makeFunc (Fn.func 88) #[Operand.tmp 61] #[], type := 129, pos := "index.go:53", after := #[{ on := 14, ground := Ground.data }, { on := 12, ground := Ground.guard }], guard := some (12, false) }) rfl (fun K hK => ?_) AllReadyH.nil
            go_simp
            refine hK.out _ _ (SX.out _ hb4) (fun hHelddq15 => ?_)
            clear hK K hHelddq9
            try simp only [Act.put, List.setIfInBounds_toArray, List.set_cons_zero, List.set_cons_succ]
            refine wpAnyH_ready (rs := [16]) (by kernel_rfl) (by simp) ?_
            refine AllReadyH.cons (o := { dst := some 63, op := Op.call { callee := Callee.value (Operand.func 111), args := #[Operand.tmp 60, Operand.tmp 62], argTypes := #[24, 129] }, type := 4, pos := "index.go:53", after := #[{ on := 13, ground := Ground.data }, { on := 15, ground := Ground.data }, { on := 12, ground := Ground.chain }, { on := 12, ground := Ground.guard }], guard := some (12, false) }) rfl (fun K hK => ?_) AllReadyH.nil
            go_simp
            refine (CT.out _ hb4).mono ?_
            rintro e w3 ⟨rfl, b3⟩
            have hb3 : Below w2.heap.size w2 w3 := hb4.trans (b3.mono hb4.size)
            go_wp2_with fail
            refine hK.out _ _ (SX.out _ hb3) (fun hHelddq16 => ?_)
            clear hK K hHelddq15
            try simp only [Act.put, List.setIfInBounds_toArray, List.set_cons_zero, List.set_cons_succ]
            refine wpAnyH_take (i := 17) (oi := { dst := some 64, op := Op.pick (Operand.tmp 59) (Operand.const (Value.bool true)) (Operand.tmp 63), type := 4, pos := "index.go:53", after := #[{ on := 12, ground := Ground.data }, { on := 16, ground := Ground.data }], guard := none }) (v := ?vdq17) rfl (by kernel_rfl) (by kernel_rfl) (by kernel_rfl) (fun _ _ _ h => h) (Or.inl ⟨by rfl, ?ydq17⟩) (by assumption) ?rdq17
            case ydq17 => (intro w' hSw; (try dsimp only at hSw); go_simp; try with_reducible rfl)
            try simp only [Act.put, List.setIfInBounds_toArray, List.set_cons_zero, List.set_cons_succ]
            refine wpAnyH_done (by kernel_rfl) ?_ _
            go_wp2_with fail
            refine (CC.out _ hb3).mono ?_
            rintro e w5 ⟨rfl, b5⟩
            have B5 := Lib.hid (HB2.out.trans ((hb3.trans (b5.mono hb3.size)).mono HB2.out.size))
            clear b5
            go_wp2_with fail
            go_ret
            exact ⟨ret_i HV.out.symm, B5.out⟩
          | true =>
            have HV := Lib.hid (show wrE l (p, st, 2, d, t, z) = 11 by rw [wrE_rest HOK.out, HLT.out, ← HA.out, ← HQ.out]; rfl)
            go_wp2_with fail
            refine wp_region_held_drew (S := fun w' => (w'.cell? ⟨G, 0, none⟩ = some (.string p) ∧ w'.cell? ⟨G, 1, none⟩ = some (.int .i64 st) ∧ w'.cell? ⟨G, 2, none⟩ = some (.int .i64 2) ∧ w'.cell? ⟨G, 3, none⟩ = some (.string d) ∧ w'.cell? ⟨G, 4, none⟩ = some (.int .i64 t) ∧ w'.cell? ⟨G, 5, none⟩ = some (.int .i64 z)) ∧ (w'.cell? (ad.add (n * 6)) = some (.string x.1) ∧ w'.cell? ⟨(ad.add (n * 6)).block, (ad.add (n * 6)).off + 1, none⟩ = some (.int .i64 x.2.1) ∧ w'.cell? ⟨(ad.add (n * 6)).block, (ad.add (n * 6)).off + 2, none⟩ = some (.int .i64 x.2.2.1) ∧ w'.cell? ⟨(ad.add (n * 6)).block, (ad.add (n * 6)).off + 3, none⟩ = some (.string x.2.2.2.1) ∧ w'.cell? ⟨(ad.add (n * 6)).block, (ad.add (n * 6)).off + 4, none⟩ = some (.int .i64 x.2.2.2.2.1) ∧ w'.cell? ⟨(ad.add (n * 6)).block, (ad.add (n * 6)).off + 5, none⟩ = some (.int .i64 x.2.2.2.2.2))) (by kernel_rfl) (SX.out _ (Below.refl _ _).drew) (fun hHeld => ?_)
            refine wpAnyH_take (i := 0) (oi := { dst := some 47, op := Op.move (Operand.tmp 6), type := 3, pos := "index.go:53", after := #[], guard := none }) (v := ?veq0) rfl (by kernel_rfl) (by kernel_rfl) (by kernel_rfl) (fun _ _ _ h => h) (Or.inl ⟨by rfl, ?yeq0⟩) (by assumption) ?req0
            case yeq0 => (intro w' hSw; (try dsimp only at hSw); go_simp; try with_reducible rfl)
            try simp only [Act.put, List.setIfInBounds_toArray, List.set_cons_zero, List.set_cons_succ]
            refine wpAnyH_take (i := 1) (oi := { dst := some 48, op := Op.binOp BinOp.gtr 3 (Operand.tmp 47) (Operand.const (Value.int IntKind.i64 0)) 3, type := 4, pos := "index.go:53", after := #[{ on := 0, ground := Ground.data }], guard := none }) (v := ?veq1) rfl (by kernel_rfl) (by kernel_rfl) (by kernel_rfl) (fun _ _ _ h => h) (Or.inl ⟨by rfl, ?yeq1⟩) (by assumption) ?req1
            case yeq1 => (intro w' hSw; (try dsimp only at hSw); go_simp; try with_reducible rfl)
            try simp only [Act.put, List.setIfInBounds_toArray, List.set_cons_zero, List.set_cons_succ]
            refine wpAnyH_take (i := 2) (oi := { dst := some 49, op := Op.move (Operand.tmp 48), type := 4, pos := "index.go:53", after := #[{ on := 1, ground := Ground.data }], guard := none }) (v := ?veq2) rfl (by kernel_rfl) (by kernel_rfl) (by kernel_rfl) (fun _ _ _ h => h) (Or.inl ⟨by rfl, ?yeq2⟩) (by assumption) ?req2
            case yeq2 => (intro w' hSw; (try dsimp only at hSw); go_simp; try with_reducible rfl)
            try simp only [Act.put, List.setIfInBounds_toArray, List.set_cons_zero, List.set_cons_succ]
            refine wpAnyH_take (i := 3) (oi := { dst := some 50, op := Op.move (Operand.tmp 1), type := 24, pos := "index.go:53", after := #[{ on := 2, ground := Ground.guard }], guard := some (2, true) }) (v := ?veq3) rfl (by kernel_rfl) (by kernel_rfl) (by kernel_rfl) (fun _ _ _ h => h) (Or.inl ⟨by rfl, ?yeq3⟩) (by assumption) ?req3
            case yeq3 => (intro w' hSw; (try dsimp only at hSw); go_simp; try with_reducible rfl)
            try simp only [Act.put, List.setIfInBounds_toArray, List.set_cons_zero, List.set_cons_succ]
            refine wpAnyH_take (i := 4) (oi := { dst := some 51, op := Op.move (Operand.tmp 6), type := 3, pos := "index.go:53", after := #[{ on := 2, ground := Ground.guard }], guard := some (2, true) }) (v := ?veq4) rfl (by kernel_rfl) (by kernel_rfl) (by kernel_rfl) (fun _ _ _ h => h) (Or.inl ⟨by rfl, ?yeq4⟩) (by assumption) ?req4
            case yeq4 => (intro w' hSw; (try dsimp only at hSw); go_simp; try with_reducible rfl)
            try simp only [Act.put, List.setIfInBounds_toArray, List.set_cons_zero, List.set_cons_succ]
            refine wpAnyH_take (i := 5) (oi := { dst := some 52, op := Op.binOp BinOp.sub 3 (Operand.tmp 51) (Operand.const (Value.int IntKind.i64 1)) 3, type := 3, pos := "index.go:53", after := #[{ on := 4, ground := Ground.data }, { on := 2, ground := Ground.guard }], guard := some (2, true) }) (v := ?veq5) rfl (by kernel_rfl) (by kernel_rfl) (by kernel_rfl) (fun _ _ _ h => h) (Or.inl ⟨by rfl, ?yeq5⟩) (by assumption) ?req5
            case yeq5 => (intro w' hSw; (try dsimp only at hSw); go_simp; try with_reducible rfl)
            try simp only [Act.put, List.setIfInBounds_toArray, List.set_cons_zero, List.set_cons_succ]
            refine wpAnyH_take (i := 6) (oi := { dst := some 53, op := Op.indexAddr 24 (Operand.tmp 50) (Operand.tmp 52), type := 0, pos := "index.go:53", after := #[{ on := 3, ground := Ground.data }, { on := 5, ground := Ground.data }, { on := 2, ground := Ground.guard }], guard := some (2, true) }) (v := ?veq6) rfl (by kernel_rfl) (by kernel_rfl) (by kernel_rfl) (fun _ _ _ h => h) (Or.inl ⟨by rfl, ?yeq6⟩) (by assumption) ?req6
            case yeq6 => (intro w' hSw; (try dsimp only at hSw); go_simp; try with_reducible rfl)
            try simp only [Act.put, List.setIfInBounds_toArray, List.set_cons_zero, List.set_cons_succ]
            refine wpAnyH_take (i := 7) (oi := { dst := some 54, op := Op.load 69 (Operand.tmp 53), type := 69, pos := "index.go:53", after := #[{ on := 6, ground := Ground.data }, { on := 2, ground := Ground.guard }], guard := some (2, true) }) (v := ?veq7) rfl (by kernel_rfl) (by kernel_rfl) (by kernel_rfl) (fun _ _ _ h => h) (Or.inl ⟨by rfl, ?yeq7⟩) (by assumption) ?req7
            case yeq7 => (intro w' hSw; (try dsimp only at hSw); go_simp; try with_reducible rfl)
            try simp only [Act.put, List.setIfInBounds_toArray, List.set_cons_zero, List.set_cons_succ]
            refine wpAnyH_take (i := 8) (oi := { dst := some 55, op := Op.load 69 (Operand.tmp 2), type := 69, pos := "index.go:53", after := #[{ on := 2, ground := Ground.guard }], guard := some (2, true) }) (v := ?veq8) rfl (by kernel_rfl) (by kernel_rfl) (by kernel_rfl) (fun _ _ _ h => h) (Or.inl ⟨by rfl, ?yeq8⟩) (by assumption) ?req8
            case yeq8 => (intro w' hSw; (try dsimp only at hSw); go_simp; try with_reducible rfl)
            try simp only [Act.put, List.setIfInBounds_toArray, List.set_cons_zero, List.set_cons_succ]
            refine wpAnyH_ready (rs := [9]) (by kernel_rfl) (by simp) ?_
            refine AllReadyH.cons (o := { dst := some 56, op := Op.call { callee := Callee.value (Operand.func 90), args := #[Operand.tmp 54, Operand.tmp 55], argTypes := #[69, 69] }, type := 3, pos := "index.go:53", after := #[{ on := 7, ground := Ground.data }, { on := 8, ground := Ground.data }, { on := 2, ground := Ground.chain }, { on := 2, ground := Ground.guard }], guard := some (2, true) }) rfl (fun K hK => ?_) AllReadyH.nil
            go_simp
            refine (CP.out _).mono ?_
            rintro e w4 ⟨rfl, b4⟩
            have hb4 : Below w2.heap.size w2 w4 := ((Below.refl _ _).drew).trans b4
            go_wp2_with fail
            refine hK.out _ _ (SX.out _ hb4) (fun hHeldeq9 => ?_)
            clear hK K hHeld
            try simp only [Act.put, List.setIfInBounds_toArray, List.set_cons_zero, List.set_cons_succ]
            refine wpAnyH_take (i := 10) (oi := { dst := some 57, op := Op.binOp BinOp.geq 3 (Operand.tmp 56) (Operand.const (Value.int IntKind.i64 0)) 3, type := 4, pos := "index.go:53", after := #[{ on := 9, ground := Ground.data }, { on := 2, ground := Ground.guard }], guard := some (2, true) }) (v := ?veq10) rfl (by kernel_rfl) (by kernel_rfl) (by kernel_rfl) (fun _ _ _ h => h) (Or.inl ⟨by rfl, ?yeq10⟩) (by assumption) ?req10
            case yeq10 => (intro w' hSw; (try dsimp only at hSw); go_simp; try with_reducible rfl)
            try simp only [Act.put, List.setIfInBounds_toArray, List.set_cons_zero, List.set_cons_succ]
            refine wpAnyH_take (i := 11) (oi := { dst := some 58, op := Op.pick (Operand.tmp 49) (Operand.tmp 57) (Operand.const (Value.bool false)), type := 4, pos := "index.go:53", after := #[{ on := 2, ground := Ground.data }, { on := 10, ground := Ground.data }], guard := none }) (v := ?veq11) rfl (by kernel_rfl) (by kernel_rfl) (by kernel_rfl) (fun _ _ _ h => h) (Or.inl ⟨by rfl, ?yeq11⟩) (by assumption) ?req11
            case yeq11 => (intro w' hSw; (try dsimp only at hSw); go_simp; try with_reducible rfl)
            try simp only [Act.put, List.setIfInBounds_toArray, List.set_cons_zero, List.set_cons_succ]
            refine wpAnyH_take (i := 12) (oi := { dst := some 59, op := Op.move (Operand.tmp 58), type := 4, pos := "index.go:53", after := #[{ on := 11, ground := Ground.data }, { on := 9, ground := Ground.chain }], guard := none }) (v := ?veq12) rfl (by kernel_rfl) (by kernel_rfl) (by kernel_rfl) (fun _ _ _ h => h) (Or.inl ⟨by rfl, ?yeq12⟩) (by assumption) ?req12
            case yeq12 => (intro w' hSw; (try dsimp only at hSw); go_simp; try with_reducible rfl)
            try simp only [Act.put, List.setIfInBounds_toArray, List.set_cons_zero, List.set_cons_succ]
            refine wpAnyH_take (i := 13) (oi := { dst := some 60, op := Op.move (Operand.tmp 1), type := 24, pos := "index.go:53", after := #[{ on := 12, ground := Ground.guard }], guard := some (12, false) }) (v := ?veq13) rfl (by kernel_rfl) (by kernel_rfl) (by kernel_rfl) (fun _ _ _ h => h) (Or.inl ⟨by rfl, ?yeq13⟩) (by assumption) ?req13
            case yeq13 => (intro w' hSw; (try dsimp only at hSw); go_simp; try with_reducible rfl)
            try simp only [Act.put, List.setIfInBounds_toArray, List.set_cons_zero, List.set_cons_succ]
            refine wpAnyH_take (i := 14) (oi := { dst := some 61, op := Op.load 69 (Operand.tmp 2), type := 69, pos := "index.go:53", after := #[{ on := 12, ground := Ground.guard }], guard := some (12, false) }) (v := ?veq14) rfl (by kernel_rfl) (by kernel_rfl) (by kernel_rfl) (fun _ _ _ h => h) (Or.inl ⟨by rfl, ?yeq14⟩) (by assumption) ?req14
            case yeq14 => (intro w' hSw; (try dsimp only at hSw); go_simp; try with_reducible rfl)
            try simp only [Act.put, List.setIfInBounds_toArray, List.set_cons_zero, List.set_cons_succ]
            refine wpAnyH_ready (rs := [15]) (by kernel_rfl) (by simp) ?_
            refine AllReadyH.cons (o := { dst := some 62, op := Op.makeFunc (Fn.func 88) #[Operand.tmp 61] #[], type := 129, pos := "index.go:53", after := #[{ on := 14, ground := Ground.data }, { on := 12, ground := Ground.guard }], guard := some (12, false) }) rfl (fun K hK => ?_) AllReadyH.nil
            go_simp
            refine hK.out _ _ (SX.out _ hb4) (fun hHeldeq15 => ?_)
            clear hK K hHeldeq9
            try simp only [Act.put, List.setIfInBounds_toArray, List.set_cons_zero, List.set_cons_succ]
            refine wpAnyH_ready (rs := [16]) (by kernel_rfl) (by simp) ?_
            refine AllReadyH.cons (o := { dst := some 63, op := Op.call { callee := Callee.value (Operand.func 111), args := #[Operand.tmp 60, Operand.tmp 62], argTypes := #[24, 129] }, type := 4, pos := "index.go:53", after := #[{ on := 13, ground := Ground.data }, { on := 15, ground := Ground.data }, { on := 12, ground := Ground.chain }, { on := 12, ground := Ground.guard }], guard := some (12, false) }) rfl (fun K hK => ?_) AllReadyH.nil
            go_simp
            refine (CT.out _ hb4).mono ?_
            rintro e w3 ⟨rfl, b3⟩
            have hb3 : Below w2.heap.size w2 w3 := hb4.trans (b3.mono hb4.size)
            go_wp2_with fail
            refine hK.out _ _ (SX.out _ hb3) (fun hHeldeq16 => ?_)
            clear hK K hHeldeq15
            try simp only [Act.put, List.setIfInBounds_toArray, List.set_cons_zero, List.set_cons_succ]
            refine wpAnyH_take (i := 17) (oi := { dst := some 64, op := Op.pick (Operand.tmp 59) (Operand.const (Value.bool true)) (Operand.tmp 63), type := 4, pos := "index.go:53", after := #[{ on := 12, ground := Ground.data }, { on := 16, ground := Ground.data }], guard := none }) (v := ?veq17) rfl (by kernel_rfl) (by kernel_rfl) (by kernel_rfl) (fun _ _ _ h => h) (Or.inl ⟨by rfl, ?yeq17⟩) (by assumption) ?req17
            case yeq17 => (intro w' hSw; (try dsimp only at hSw); go_simp; try with_reducible rfl)
            try simp only [Act.put, List.setIfInBounds_toArray, List.set_cons_zero, List.set_cons_succ]
            refine wpAnyH_done (by kernel_rfl) ?_ _
            go_wp2_with fail
            refine (CC.out _ hb3).mono ?_
            rintro e w5 ⟨rfl, b5⟩
            have B5 := Lib.hid (HB2.out.trans ((hb3.trans (b5.mono hb3.size)).mono HB2.out.size))
            clear b5
            go_wp2_with fail
            go_ret
            exact ⟨ret_i HV.out.symm, B5.out⟩
end Go.Proofs.YtdmmjfmjohliiaaGreatDoor
