/-
  The walk of DiffDone.
-/
import Derived.Test.YtojjhnjkibpfeaaTurnedWalk
import Derived.Maps.AppendAt
namespace Go.Proofs.Ytojjhnjkibpfeaa
open Go.RowKit

/-- Too many lines: no edits, and a fault. -/
def LinesRefused (k : Nat) (w : World) (e : Ending) (w' : World) : Prop :=
  ∃ g : Nat, e = .returned (.tuple #[.slice none 0 0, .iface 64 (.pointer (some ⟨g, 0, none⟩))]) ∧ Three w' g (.string ⟨#[108, 105, 110, 101, 115]⟩) (.int .i64 (k : Int)) (.iface 65 (.int .i64 4)) ∧ Below w.heap.size w w'

set_option maxRecDepth 100000 in
set_option maxHeartbeats 1000000 in
theorem lines_first (w : World) (A B : Option Addr) (n c m d : Nat) (hn : 256 < n) : Calls Try.prog 22 #[.slice A n c, .slice B m d] w (LinesRefused 0 w) := by
  have E1 := (Below.refl w.heap.size w).alloc (Nat.le_refl _) (.cells #[.slice A n c, .slice B m d] 23)
  have hh := heap_alloc_new w (.cells #[.slice A n c, .slice B m d] 23)
  have CK := Lib.hid (check_first w.heap.size n c A hn (w.alloc (.cells #[.slice A n c, .slice B m d] 23)) (cell_of_row _ _ 0 _ 23 (0, 0) hh))
  clear hh
  go_enter Try.func22, Try.ntmps22
  go_wp2_with fail
  refine CK.out.mono ?_
  rintro e w' ⟨g, rfl, T, hb⟩
  have E2 := E1.trans (hb.mono (by simp))
  go_wp2
  go_ret2
  exact ⟨g, rfl, T, E2⟩

set_option maxRecDepth 100000 in
set_option maxHeartbeats 1000000 in
theorem lines_second (w : World) (A B : Option Addr) (n c m d : Nat) (hn : n ≤ 256) (hm : 256 < m) : Calls Try.prog 22 #[.slice A n c, .slice B m d] w (LinesRefused 1 w) := by
  have E1 := (Below.refl w.heap.size w).alloc (Nat.le_refl _) (.cells #[.slice A n c, .slice B m d] 23)
  have hh := heap_alloc_new w (.cells #[.slice A n c, .slice B m d] 23)
  have CK := Lib.hid (check_second w.heap.size n c m d A B hn hm (w.alloc (.cells #[.slice A n c, .slice B m d] 23)) (cell_of_row _ _ 0 _ 23 (0, 0) hh) (cell_of_row _ _ 1 _ 23 (0, 0) hh))
  clear hh
  go_enter Try.func22, Try.ntmps22
  go_wp2_with fail
  refine CK.out.mono ?_
  rintro e w' ⟨g, rfl, T, hb⟩
  have E2 := E1.trans (hb.mono (by simp))
  go_wp2
  go_ret2
  exact ⟨g, rfl, T, E2⟩

theorem edA_take (l : List (Nat × ByteArray)) (k : Nat) {op : Nat} {s : ByteArray} (h : l[k]? = some (op, s)) : edA (l.take (k + 1)) = if op = 3 then edA (l.take k) else edA (l.take k) ++ [s] := by
  rw [List.take_add_one, h]
  unfold edA
  rw [List.filter_append, List.map_append]
  by_cases e : op = 3 <;> simp [e]
theorem edB_take (l : List (Nat × ByteArray)) (k : Nat) {op : Nat} {s : ByteArray} (h : l[k]? = some (op, s)) : edB (l.take (k + 1)) = if op = 2 then edB (l.take k) else edB (l.take k) ++ [s] := by
  rw [List.take_add_one, h]
  unfold edB
  rw [List.filter_append, List.map_append]
  by_cases e : op = 2 <;> simp [e]
theorem edA_len (l : List (Nat × ByteArray)) (k : Nat) : (edA (l.take k)).length ≤ k := by
  unfold edA
  rw [List.length_map]
  have := List.length_filter_le (fun e : Nat × ByteArray => e.1 != 3) (l.take k)
  rw [List.length_take] at this
  omega
theorem edB_len (l : List (Nat × ByteArray)) (k : Nat) : (edB (l.take k)).length ≤ k := by
  unfold edB
  rw [List.length_map]
  have := List.length_filter_le (fun e : Nat × ByteArray => e.1 != 2) (l.take k)
  rw [List.length_take] at this
  omega

/-- Two rows of texts of the call's own, in blocks of their own. -/
structure Pair (w : World) (B : Nat) (x y : Value) (xs ys : List ByteArray) : Prop where
  px : w.ownsRow B 9 1 x xs.length (xs.map Value.string)
  py : w.ownsRow B 9 1 y ys.length (ys.map Value.string)
  d : ∀ k, x.ownBlock = some k → y.ownBlock ≠ some k

theorem Pair.below {w w' : World} {B : Nat} {x y : Value} {xs ys : List ByteArray} (h : Pair w B x y xs ys) (hb : Below w.heap.size w w') : Pair w' B x y xs ys := ⟨own2_keep h.px hb, own2_keep h.py hb, h.d⟩
theorem Pair.alloc {w : World} {B : Nat} {x y : Value} {xs ys : List ByteArray} (h : Pair w B x y xs ys) (o : Obj) : Pair (w.alloc o) B x y xs ys := ⟨h.px.alloc o, h.py.alloc o, h.d⟩
theorem Pair.swap {w : World} {B : Nat} {x y : Value} {xs ys : List ByteArray} (h : Pair w B x y xs ys) : Pair w B y x ys xs := ⟨h.py, h.px, fun k hy hx => h.d k hx hy⟩

theorem Pair.put {w w' : World} {B : Nat} {x y x' : Value} {xs ys : List ByteArray} {s : ByteArray} (h : Pair w B x y xs ys) (ho : w'.ownsRow B 9 1 x' (xs.length + 1) (xs.map Value.string ++ [.string s])) (hg : w.grownBy w' x.ownBlock)
    (hat : x'.ownBlock = x.ownBlock ∨ x'.ownBlock = some w.heap.size) : Pair w' B x' y (xs ++ [s]) ys := by
  refine ⟨by simpa using ho, h.py.kept hg ?_, fun k hk => ?_⟩
  · cases hy : y.ownBlock with
    | none => exact .inl rfl
    | some k => exact .inr fun e => h.d k e.symm hy
  · rcases hat with e | e
    · exact h.d k (by rw [← e]; exact hk)
    · intro hy
      rw [e] at hk
      have := (h.py.lt k hy).2
      injection hk with hk
      omega

set_option maxRecDepth 100000 in
set_option maxHeartbeats 4000000 in
theorem done_walk (w : World) (A B : Option Addr) (n c m d : Nat) (xs ys : List ByteArray) (h : Strs w (.slice A n c) xs) (g : Strs w (.slice B m d) ys) :
    Calls Try.prog 6 #[.slice A n c, .slice B m d] w (YesB w) := by
  have hn := h.length_le
  have hm := g.length_le
  obtain ⟨i0, hi, hz0, hz1, hz2⟩ := info_parts strInfo
  have HA := Lib.hid h
  have HB := Lib.hid g
  have HN := Lib.hid h.len.1
  have HM := Lib.hid g.len.1
  clear h g
  go_enter Try.func6, Try.ntmps6
  go_wp2_with fail
  refine (diffKnown_yes w).mono ?_
  rintro e w1 ⟨rfl, hb1⟩
  go_wp2_with fail
  refine (few_any w1 _ _ xs ys (HA.out.below hb1) (HB.out.below hb1)).mono ?_
  rintro e w' ⟨b, rfl, hb, rfl⟩
  cases b with
  | false =>
    clear hb
    go_wp2
    go_ret
    exact ⟨rfl, hb1⟩
  | true =>
    obtain ⟨f1, f2, f3, f4⟩ := hb rfl
    have HX := Lib.hid fun s hs => Nat.le_trans (f3 s hs) (show 300 ≤ maxLen by decide)
    have HY := Lib.hid fun s hs => Nat.le_trans (f4 s hs) (show 300 ≤ maxLen by decide)
    clear f1 f2 f3 f4 hb
    by_cases h1 : 256 < n
    · go_wp2_with fail
      refine (lines_first w1 A B n c m d h1).mono ?_
      rintro e w2 ⟨gg, rfl, _, hb2⟩
      go_wp2
      go_ret
      exact ⟨congrArg (fun b : Bool => Ending.returned (.bool b)) (by simp <;> omega), hb1.trans (hb2.mono hb1.size)⟩
    by_cases h2 : 256 < m
    · go_wp2_with fail
      refine (lines_second w1 A B n c m d (by omega) h2).mono ?_
      rintro e w2 ⟨gg, rfl, _, hb2⟩
      go_wp2
      go_ret
      exact ⟨congrArg (fun b : Bool => Ending.returned (.bool b)) (by simp <;> omega), hb1.trans (hb2.mono hb1.size)⟩
    have l1 : xs.length ≤ 256 := by have := HN.out; omega
    have l2 : ys.length ≤ 256 := by have := HM.out; omega
    obtain ⟨ca, cb, _⟩ := ed_all xs ys
    have el1 := ed_len xs ys
    have hops := Lib.hid (ed_ops xs ys)
    have HCA := Lib.hid ca
    have HCB := Lib.hid cb
    clear ca cb
    go_wp2_with fail
    refine (lines_good w1 _ _ xs ys (HA.out.below hb1) (HB.out.below hb1) HX.out HY.out l1 l2).mono ?_
    rintro e w2 ⟨v1, rfl, own1, hb2⟩
    replace hb1 := hb1.trans (hb2.mono hb1.size)
    generalize ed xs ys = l at *
    have HO := Lib.hid own1
    obtain ⟨L, m', c', rfl⟩ : ∃ A m c, v1 = .slice A m c := by
      rcases own1.2 with ⟨rfl, _⟩ | ⟨g, cap, cur, rfl, _⟩
      · exact ⟨_, _, _, rfl⟩
      · exact ⟨_, _, _, rfl⟩
    obtain rfl : m' = l.length := by
      rcases own1.2 with ⟨e, e2⟩ | ⟨g, cap, cur, e, _⟩
      · cases e; exact e2.symm
      · cases e; rfl
    clear own1 hb2
    go_wp2_with fail
    go_loopw [7, 8, 9] (fun s7 s8 s9 wr => ∃ k : Nat, k ≤ l.length ∧ s9 = .int .i64 k ∧ Pair wr w2.heap.size s7 s8 (edA (l.take k)) (edB (l.take k)) ∧ Below w2.heap.size w2 wr) (fun _ _ s9 _ => l.length - (intOf s9).toNat)
    case atStart => exact ⟨0, Nat.zero_le _, rfl, ⟨World.ownsRow_nil _ _ _ _, World.ownsRow_nil _ _ _ _, fun k hk => by cases hk⟩, Below.refl _ _⟩
    case round =>
      obtain ⟨k, hk, rfl, hp, hbr⟩ := hrel
      have k0 : (0 : Int) ≤ (k : Int) := Int.natCast_nonneg _
      by_cases hlt : k < l.length
      · obtain ⟨⟨op, s⟩, hs⟩ : ∃ x, l[k]? = some x := ⟨_, List.getElem?_eq_getElem hlt⟩
        have ho := own2_keep HO.out hbr
        obtain ⟨g, rfl⟩ : ∃ g, L = some ⟨g, 0, none⟩ := by
          rcases ho.2 with ⟨_, e2⟩ | ⟨g, cap, cur, e, _⟩
          · omega
          · cases e; exact ⟨_, rfl⟩
        have k1 : (k : Int) < (l.length : Int) := by omega
        obtain ⟨x1, x2⟩ := edCells_at hs
        have c1 := own2_at ho x1
        have c2 := own2_at ho x2
        have eA := edA_take l k hs
        have eB := edB_take l k hs
        have lA := edA_len l k
        have lB := edB_len l k
        have hop := hops.out _ (List.mem_of_getElem? hs)
        have hgl := World.block_lt_of_cell? _ _ c2
        simp only at hop hgl
        have X1 := Lib.hid x1
        have X2 := Lib.hid x2
        clear ho x1 x2 hs
        have EA := Lib.hid eA
        have EB := Lib.hid eB
        clear eA eB
        generalize edA (l.take k) = aa at *
        generalize edB (l.take k) = bb at *
        rcases hop with rfl | rfl | rfl
        · have hpa := hp.alloc (.cells #[.string s] 9)
          have hnews := World.news_of_block (cs := #[.string s]) (t := 9) (fr := (0, 0)) (heap_alloc_new wr (.cells #[.string s] 9))
          have hba := hbr.alloc hbr.size (.cells #[.string s] 9)
          have hsz := hba.size
          go_wp2_with (first | (at_builtin; refine wpList_append_own_at _ rfl (.tmp 58) (.tmp 64) 23 rfl w2.heap.size 9 i0 (.string ⟨#[]⟩) 1 16 Try.underlying23 hi hz0 hz1 hz2 rfl (by decide) _ _ _ rfl hpb.px ⟨w5.heap.size, 0, none⟩ 1 1 [.string s] rfl rfl hnews2 (by simp [Value.oneCell']) (by unfold maxLen; omega) (by omega) hsz2 ?_; intro v6 w6 hown6 hg6 _ hat6; have hp6 := (hpb.put hown6 hg6 hat6).swap; have hb6 : Below w2.heap.size w2 w6 := hbb.grown hg6 hsz2 (fun z hz => (hp5.px.lt z hz).1); clear hpb hnews2 hbb hown6 hg6 hat6 q1 q2) | (at_builtin; refine wpList_append_own_at _ rfl (.tmp 44) (.tmp 50) 23 rfl w2.heap.size 9 i0 (.string ⟨#[]⟩) 1 16 Try.underlying23 hi hz0 hz1 hz2 rfl (by decide) _ _ _ rfl hpa.px ⟨wr.heap.size, 0, none⟩ 1 1 [.string s] rfl rfl hnews (by simp [Value.oneCell']) (by unfold maxLen; omega) (by omega) hsz ?_; intro v5 w5 hown5 hg5 _ hat5; have hp5 := (hpa.put hown5 hg5 hat5).swap; have hb5 : Below w2.heap.size w2 w5 := hba.grown hg5 hsz (fun z hz => (hp.px.lt z hz).1); clear hpa hnews hba hown5 hg5 hat5 c1 c2; have q1 := own2_at (own2_keep HO.out hb5) X1.out; have q2 := own2_at (own2_keep HO.out hb5) X2.out; have hgl2 := World.block_lt_of_cell? _ _ q2; simp only at hgl2; have hpb := hp5.alloc (.cells #[.string s] 9); have hnews2 := World.news_of_block (cs := #[.string s]) (t := 9) (fr := (0, 0)) (heap_alloc_new w5 (.cells #[.string s] 9)); have hbb := hb5.alloc hb5.size (.cells #[.string s] 9); have hsz2 := hbb.size))
          go_roundw
          case rel => exact ⟨k + 1, by omega, by go_num, by rw [EA.out, EB.out]; exact hp6, hb6⟩
          case measure => simp [intOf]; omega
        · have hpa := hp.alloc (.cells #[.string s] 9)
          have hnews := World.news_of_block (cs := #[.string s]) (t := 9) (fr := (0, 0)) (heap_alloc_new wr (.cells #[.string s] 9))
          have hba := hbr.alloc hbr.size (.cells #[.string s] 9)
          have hsz := hba.size
          go_wp2_with (at_builtin; refine wpList_append_own_at _ rfl _ _ 23 rfl w2.heap.size 9 i0 (.string ⟨#[]⟩) 1 16 Try.underlying23 hi hz0 hz1 hz2 rfl (by decide) _ _ _ rfl hpa.px ⟨wr.heap.size, 0, none⟩ 1 1 [.string s] rfl rfl hnews (by simp [Value.oneCell']) (by unfold maxLen; omega) (by omega) hsz ?_; intro v5 w5 hown5 hg5 _ hat5; have hp5 := hpa.put hown5 hg5 hat5; have hb5 : Below w2.heap.size w2 w5 := hba.grown hg5 hsz (fun z hz => (hp.px.lt z hz).1); clear hpa hnews hba hown5 hg5 hat5 c1 c2; have q1 := own2_at (own2_keep HO.out hb5) X1.out; have q2 := own2_at (own2_keep HO.out hb5) X2.out; have hgl2 := World.block_lt_of_cell? _ _ q2; simp only at hgl2)
          go_roundw
          case rel => exact ⟨k + 1, by omega, by go_num, by rw [EA.out, EB.out]; exact hp5, hb5⟩
          case measure => simp [intOf]; omega
        · have hpa := hp.swap.alloc (.cells #[.string s] 9)
          have hnews := World.news_of_block (cs := #[.string s]) (t := 9) (fr := (0, 0)) (heap_alloc_new wr (.cells #[.string s] 9))
          have hba := hbr.alloc hbr.size (.cells #[.string s] 9)
          have hsz := hba.size
          go_wp2_with (at_builtin; refine wpList_append_own_at _ rfl _ _ 23 rfl w2.heap.size 9 i0 (.string ⟨#[]⟩) 1 16 Try.underlying23 hi hz0 hz1 hz2 rfl (by decide) _ _ _ rfl hpa.px ⟨wr.heap.size, 0, none⟩ 1 1 [.string s] rfl rfl hnews (by simp [Value.oneCell']) (by unfold maxLen; omega) (by omega) hsz ?_; intro v5 w5 hown5 hg5 _ hat5)
          have hp5 := (hpa.put hown5 hg5 hat5).swap
          have hb5 : Below w2.heap.size w2 w5 := hba.grown hg5 hsz (fun z hz => (hp.py.lt z hz).1)
          clear hpa hnews hba hown5 hg5 hat5
          go_roundw
          case rel => exact ⟨k + 1, by omega, by go_num, by rw [EA.out, EB.out]; exact hp5, hb5⟩
          case measure => simp [intOf]; omega
      · obtain rfl : k = l.length := by omega
        have htk : l.take l.length = l := List.take_length
        rw [htk, HCA.out, HCB.out] at hp
        have S1 : Strs wr u7 xs := Strs.of_own hp.px rfl
        have S2 : Strs wr u8 ys := Strs.of_own hp.py rfl
        replace hb1 := hb1.trans (hbr.mono hb1.size)
        have R1 := refEqual_any wr _ _ xs xs S1 (HA.out.below hb1)
        have R2 := fun q => refEqual_any (wr.drewN q) _ _ ys ys (S2.drewN q) ((HB.out.below hb1).drewN q)
        rw [decide_eq_true rfl] at R1
        simp only [decide_true] at R2
        have HR1 := Lib.hid R1
        have HR2 := Lib.hid R2
        clear R1 R2 htk S1 S2 hp
        go_wp2_with fail
        refine HR1.out.mono ?_
        rintro e w3 ⟨q, rfl, rfl⟩
        go_wp2_with fail
        refine (HR2.out q).mono ?_
        rintro e w4 ⟨q2, rfl, rfl⟩
        go_wp2
        go_ret
        exact ⟨rfl, below_drewN hb1 _⟩

end Go.Proofs.Ytojjhnjkibpfeaa
