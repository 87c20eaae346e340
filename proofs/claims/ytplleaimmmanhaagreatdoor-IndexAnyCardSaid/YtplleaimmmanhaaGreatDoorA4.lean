/-
  strconv.Itoa and rectoref3.Decimal from 0 to 79.
  Tells, at no error on both sides, and at what the two checks of entries say.
  rectolaw14.Of, rectoref14.Stage: a tree as the document's; the files of a stage.
  rectolaw1.Texts: whether rows of texts are the same.
  rectoref14.Put: a file put into a row that rises: by paths alone.
  rectoref14.Paths: the paths of trees, rising, each once.
  rectoref14.Stage: the files of a stage.
  rectoref14.Conflicts: the paths that clash.
  rectoref14.Same: are trees the same?
-/
import Derived.Test.YtplleaimmmanhaaGreatDoorA3
import Derived.Test.YtplleaimmmanhaaGreatDoorA2
import Derived.Test.YtplleaimmmanhaaGreatDoorP1
import Derived.Deep.RegionHeld3
import Derived.Test.YtplleaimmmanhaaGreatDoorP2
import Derived.Test.YtplleaimmmanhaaGreatDoorP4
namespace Go.Proofs.YtplleaimmmanhaaGreatDoor
open Go Go.RowKit
theorem itoa_79 (n : Nat) (h : n ≤ 79) (w : World) : Calls Tryz.prog 195 #[.int .i64 n] w fun e w' => e = .returned (.string (dg n)) ∧ w' = w := by
  have key : ∀ k, k < 8 → n / 10 = k → Calls Tryz.prog 195 #[.int .i64 n] w fun e w' => e = .returned (.string (dg ((n : Int).toNat))) ∧ w' = w := fun k hk h1 => by
    match k, hk with
    | 0, _ => exact itoa_0 n (by omega) w
    | 1, _ => exact itoa_1 n (by omega) w
    | 2, _ => exact itoa_2 n (by omega) w
    | 3, _ => exact itoa_3 n (by omega) w
    | 4, _ => exact itoa_4 n (by omega) w
    | 5, _ => exact itoa_5 n (by omega) w
    | 6, _ => exact itoa_6 n (by omega) w
    | 7, _ => exact itoa_7 n (by omega) w
  exact key (n / 10) (by omega) rfl
theorem decimal_79 (n : Nat) (h : n ≤ 79) (w : World) : Calls Tryz.prog 93 #[.int .i64 n] w fun e w' => e = .returned (.string (dg n)) ∧ Below w.heap.size w w' := by
  have key : ∀ k, k < 8 → n / 10 = k → Calls Tryz.prog 93 #[.int .i64 n] w fun e w' => e = .returned (.string (dg ((n : Int).toNat))) ∧ Below w.heap.size w w' := fun k hk h1 => by
    match k, hk with
    | 0, _ => exact decimal_0 n (by omega) w
    | 1, _ => exact decimal_1 n (by omega) w
    | 2, _ => exact decimal_2 n (by omega) w
    | 3, _ => exact decimal_3 n (by omega) w
    | 4, _ => exact decimal_4 n (by omega) w
    | 5, _ => exact decimal_5 n (by omega) w
    | 6, _ => exact decimal_6 n (by omega) w
    | 7, _ => exact decimal_7 n (by omega) w
  exact key (n / 10) (by omega) rfl
end Go.Proofs.YtplleaimmmanhaaGreatDoor
namespace Go.Proofs.YtplleaimmmanhaaGreatDoor
open Go Go.RowKit

def TrueE (w : World) (e : Ending) (w' : World) : Prop := e = .returned (.bool true) ∧ Below w.heap.size w w'
set_option maxHeartbeats 1000000 in
theorem tellsE_none (w : World) : Calls Tryz.prog 10 #[.nilIface, .agg #[.slice none 0 0, .int .i64 0]] w (TrueE w) := by
  go_enter Tryz.func10, Tryz.ntmps10
  go_wp2_with fail
  go_ret
  exact ⟨rfl, (Below.refl _ _).alloc (Nat.le_refl _) _⟩
theorem dgE_small (n : Nat) : (dg n).size ≤ 100 := by have := dg_size n; omega
/-- What is told of an error value, whatever told it: nothing, or one Fault. -/
def SaidE (l : List En) (w : World) (ev : Value) : Prop := (chkE l = none ∧ ev = .nilIface) ∨ ∃ (i : Nat) (k : Int) (F : Nat), chkE l = some (i, k) ∧ ev = .iface 89 (.pointer (some ⟨F, 0, none⟩)) ∧ FaultOf F bEntry i k w
/-- What the document's side says. -/
def WroteE (l : List En) (w : World) (x y : Value) : Prop := (chkE l = none ∧ x = .slice none 0 0 ∧ y = .int .i64 0) ∨ ∃ (i : Nat) (k : Int) (g : Nat), chkE l = some (i, k) ∧ x = .slice (some ⟨g, 0, none⟩) 1 1 ∧ y = .int .i64 k ∧ Blk w g 95 #[.string bEntry, .int .i64 i]
theorem SaidE.below {l : List En} {w w' : World} {ev : Value} (h : SaidE l w ev) (hb : Below w.heap.size w w') : SaidE l w' ev := by
  rcases h with h | ⟨i, k, F, h1, h2, h3⟩
  · exact .inl h
  · exact .inr ⟨i, k, F, h1, h2, (hb.block F (Array.getElem?_eq_some_iff.1 h3).1).trans h3⟩
theorem WroteE.below {l : List En} {w w' : World} {x y : Value} (h : WroteE l w x y) (hb : Below w.heap.size w w') : WroteE l w' x y := by
  rcases h with h | ⟨i, k, g, h1, h2, h3, h4⟩
  · exact .inl h
  · exact .inr ⟨i, k, g, h1, h2, h3, h4.below hb h4.lt⟩
/-- The two say the same. -/
theorem tellsE (w : World) (l : List En) (hl : l.length ≤ 80) (ev x y : Value) (hE : ErrType w) (he : SaidE l w ev) (hw : WroteE l w x y) :
    Calls Tryz.prog 10 #[ev, .agg #[x, y]] w (TrueE w) := by
  rcases he with ⟨h1, rfl⟩ | ⟨i, k, F, h1, rfl, hF⟩
  · rcases hw with ⟨_, rfl, rfl⟩ | ⟨i, k, g, h2, _⟩
    · exact tellsE_none w
    · rw [h1] at h2; cases h2
  · rcases hw with ⟨h2, _⟩ | ⟨i', k', g, h2, rfl, rfl, hg⟩
    · rw [h1] at h2; cases h2
    · rw [h1] at h2
      cases h2
      have h14 := chkE_14 hl h1
      exact tells_says w F g bEntry (dg i) i k hF hg (by decide) (dgE_small i) h14.1 hE (fun W => itoa_79 i h14.2.2 W) (fun W => decimal_79 i h14.2.2 W)
theorem WroteE.err {l : List En} {w : World} {x y : Value} (h : WroteE l w x y) (hl : l.length ≤ 80) : ∃ n : Int, y = .int .i64 n ∧ (n = 0 ↔ chkE l = none) := by
  rcases h with ⟨h1, _, rfl⟩ | ⟨i, k, g, h1, _, rfl, _⟩
  · exact ⟨0, rfl, fun _ => h1, fun _ => rfl⟩
  · exact ⟨k, rfl, fun h => absurd h (chkE_14 hl h1).2.1, fun h => by rw [h1] at h; cases h⟩
end Go.Proofs.YtplleaimmmanhaaGreatDoor
namespace Go.Proofs.YtplleaimmmanhaaGreatDoor
open Go.RowKit

theorem refFileInfo : (Tryz.prog.info? 40).map (fun i => (i.zero, i.size, i.bytes)) = some (some (.agg #[.string ⟨#[]⟩, .int .i64 0, .string ⟨#[]⟩]), 3, 40) := by kernel_rfl
def FilCells (ad : Addr) (i : Nat) (p : ByteArray) (m : Int) (d : ByteArray) (W : World) : Prop :=
  W.cell? (ad.add (i * 3)) = some (.string p) ∧ W.cell? ⟨(ad.add (i * 3)).block, (ad.add (i * 3)).off + 1, none⟩ = some (.int .i64 m) ∧ W.cell? ⟨(ad.add (i * 3)).block, (ad.add (i * 3)).off + 2, none⟩ = some (.string d)

set_option maxHeartbeats 2000000 in
theorem lawOf_any (w : World) (v : Value) (l : List Fl) (h : Reads 3 cF w v l) (hl : l.length ≤ 100000) :
    Calls Tryz.prog 9 #[v] w (OwnTo 40 3 cF l w) := by
  obtain ⟨A, c, rfl⟩ := h.form
  have hn := h.len
  have hnm : l.length ≤ 9223372036854775807 := by omega
  have HO := Lib.hid h
  obtain ⟨i0, hi, hz0, hz1, hz2⟩ := info_parts refFileInfo
  clear h hn
  go_enter Tryz.func9, Tryz.ntmps9
  go_wp2
  go_loopw [3, 4] (fun s3 s4 wr => ∃ i : Nat, i ≤ l.length ∧ s4 = .int .i64 i ∧ Hid (wr.ownsRow w.heap.size 40 3 s3 i ((l.take i).flatMap cF)) ∧ Below w.heap.size w wr) (fun _ s4 _ => l.length - (intOf s4).toNat)
  case atStart => exact ⟨0, Nat.zero_le _, rfl, Lib.hid (World.ownsRow_nil _ _ _ _), Below.refl _ _⟩
  case round =>
    obtain ⟨i, hil, rfl, hown, hb⟩ := hrel
    by_cases hlt : i < l.length
    · obtain ⟨f, hf⟩ : ∃ f, l[i]? = some f := ⟨_, List.getElem?_eq_getElem hlt⟩
      obtain ⟨ad, rfl, c0, c1, c2⟩ := Fils.at_ HO.out hf
      obtain ⟨p, m, d⟩ := f
      have HF := Lib.hid hf
      have ZZ := Lib.hid fun W (hW : Below w.heap.size w W) => (⟨(hW.cell (World.block_lt_of_cell? _ _ c0)).trans c0, (hW.cell (World.block_lt_of_cell? _ _ c1)).trans c1, (hW.cell (World.block_lt_of_cell? _ _ c2)).trans c2⟩ : FilCells ad i p m d W)
      unfold FilCells at ZZ
      have z0 := ZZ.out _ hb.drew
      have i0' : (0 : Int) ≤ (i : Int) := Int.natCast_nonneg _
      have hi1 : (i : Int) < (l.length : Int) := by omega
      have hsz := hb.size
      clear hf c0 c1 c2
      go_wp2
      go_region_held3 (fun w' => w'.cell? (ad.add (i * 3)) = some (.string p) ∧ w'.cell? ⟨(ad.add (i * 3)).block, (ad.add (i * 3)).off + 1, none⟩ = some (.int .i64 m) ∧ w'.cell? ⟨(ad.add (i * 3)).block, (ad.add (i * 3)).off + 2, none⟩ = some (.string d))
        (first | exact z0 | exact ZZ.out _ (hb.drew.alloc hsz _) | exact z5)
        ((refine step_append_lies _ (by rfl) _ _ 28 (by rfl) w.heap.size 40 i0 (.agg #[.string ⟨#[]⟩, .int .i64 0, .string ⟨#[]⟩]) 3 40 Tryz.underlying28 hi hz0 hz1 hz2 rfl (by omega) _ i _ (by rfl) (hown.out.drew.alloc _)
            ⟨wr.heap.size, 0, none⟩ 1 1 [.string p, .int .i64 m, .string d] (by rfl) (by rfl) (World.news_of_block (cs := #[.string p, .int .i64 m, .string d]) (t := 40) (fr := (0, 0)) (heap_alloc_new wr.drew _)) (by simp [Value.oneCell'])
            (by omega) (by unfold maxLen; omega) (by omega) (by simp; omega) (wr.heap.size + 1) (by simp) ?_; intro gg cap w5 hown5 hg5 hat hlt5; have hb5 := (hb.drew.alloc hsz (.cells #[.string p, .int .i64 m, .string d] 40)).grown hg5 (by simp; omega) (fun k hk => (hown.out.lt k hk).1); have z5 := ZZ.out _ hb5))
      go_wp2
      go_roundw
      case rel => exact ⟨i + 1, by omega, by go_num, Lib.hid (by rw [take_snoc HF.out, flat_snoc]; exact hown5), hb5⟩
      case measure => simp [intOf]; omega
    · obtain rfl : i = l.length := by omega
      have HL : Hid ((l.take l.length).flatMap cF = l.flatMap cF) := Lib.hid (by rw [List.take_length])
      go_wp2
      go_ret
      exact ⟨_, rfl, by rw [← HL.out]; exact hown.out, hb⟩
end Go.Proofs.YtplleaimmmanhaaGreatDoor
namespace Go.Proofs.YtplleaimmmanhaaGreatDoor
open Go.RowKit

theorem strs_form {w : World} {v : Value} {ss : List ByteArray} (h : Strs w v ss) : ∃ A c, v = .slice A ss.length c := by
  obtain ⟨A, c, hv, _⟩ := h
  exact ⟨_, _, hv⟩
set_option maxHeartbeats 2000000 in
theorem textsS_any (w : World) (v u : Value) (a b : List ByteArray) (h : Strs w v a) (g : Strs w u b) :
    Calls Tryz.prog 75 #[v, u] w (BoolTo (decide (a = b)) w) := by
  obtain ⟨A, c, rfl⟩ := strs_form h
  obtain ⟨B, d, rfl⟩ := strs_form g
  have hm1 : a.length ≤ 9223372036854775807 := by obtain ⟨_, _, hv, h1, h2, _⟩ := h; unfold maxLen at h2; omega
  have hm2 : b.length ≤ 9223372036854775807 := by obtain ⟨_, _, hv, h1, h2, _⟩ := g; unfold maxLen at h2; omega
  have HA := Lib.hid h
  have HB := Lib.hid g
  clear h g
  by_cases hnm : a.length = b.length
  · have hi0 : ((a.length : Int) != (b.length : Int)) = false := by simp [hnm]
    have HN := Lib.hid hnm
    clear hnm
    go_enter Tryz.func75, Tryz.ntmps75
    go_wp2
    go_loopw [5] (fun s5 wr => ∃ k q : Nat, k ≤ a.length ∧ s5 = .int .i64 k ∧ Hid (∀ i, i < k → a[i]? = b[i]?) ∧ wr = w.drewN q) (fun s5 _ => a.length - (intOf s5).toNat)
    case atStart => exact ⟨0, 0, Nat.zero_le _, rfl, Lib.hid (fun i hi => absurd hi (Nat.not_lt_zero _)), rfl⟩
    case round =>
      obtain ⟨k, q, hk, rfl, hp, rfl⟩ := hrel
      by_cases hlt : k < a.length
      · obtain ⟨ad, x, rfl, hx, c0⟩ := strs_at HA.out hlt
        obtain ⟨ad2, y, rfl, hy, d0⟩ := strs_at HB.out (show k < b.length by rw [← HN.out]; exact hlt)
        have HX := Lib.hid hx
        have HY := Lib.hid hy
        have k0 : (0 : Int) ≤ (k : Int) := Int.natCast_nonneg _
        have k1 : (k : Int) < (a.length : Int) := by omega
        have k2 : (k : Int) < (b.length : Int) := by have := HN.out; omega
        have HNE := Lib.hid (show x ≠ y → decide (a = b) = false from fun hne => decide_eq_false fun e => by
          rw [e, hy] at hx
          exact hne (Option.some.inj hx).symm)
        clear hx hy
        by_cases hxy : x = y
        · subst hxy
          go_wp2_with fail
          go_quiet (fail)
          go_wp2
          go_roundw
          case rel => exact ⟨k + 1, _, by omega, by go_num, Lib.hid (fun i hi => by
            rcases Nat.lt_or_ge i k with h1 | h1
            · exact hp.out i h1
            · obtain rfl : i = k := by omega
              rw [HX.out, HY.out]), rfl⟩
          case measure => simp [intOf]; omega
        · have HC := Lib.hid (HNE.out hxy)
          have e1 : ¬ x.toList = y.toList := fun e => hxy (tl_eq e)
          have e1' : (x.toList == y.toList) = false := by simpa using e1
          clear hxy
          go_wp2_with fail
          go_quiet (fail)
          go_wp2
          go_ret
          exact ⟨by rw [HC.out]; rfl, _, drewN_two _ _ _⟩
      · obtain rfl : k = a.length := by omega
        have HC : Hid (decide (a = b) = true) := Lib.hid (decide_eq_true (prefix_all hp.out rfl HN.out.symm))
        go_wp2
        go_ret
        exact ⟨by rw [HC.out]; rfl, _, rfl⟩
  · have hi0 : ((a.length : Int) != (b.length : Int)) = true := by simp; omega
    have HC : Hid (decide (a = b) = false) := Lib.hid (decide_eq_false fun e => hnm (by rw [e]))
    clear hnm
    go_enter Tryz.func75, Tryz.ntmps75
    go_wp2
    go_ret
    exact ⟨by rw [HC.out]; rfl, 0, rfl⟩
theorem texts_any (w : World) (v u : Value) (a b : List ByteArray) (h : Strs w v a) (g : Strs w u b) :
    Calls Tryz.prog 34 #[v, u] w (BoolTo (decide (a = b)) w) := by
  have E := Lib.hid (textsS_any w v u a b h g)
  clear h g
  go_enter Tryz.func34, Tryz.ntmps34
  go_wp2_with fail
  refine E.out.mono ?_
  rintro e w' ⟨rfl, q, rfl⟩
  go_wp2
  go_ret
  exact ⟨rfl, q, rfl⟩
end Go.Proofs.YtplleaimmmanhaaGreatDoor
namespace Go.Proofs.YtplleaimmmanhaaGreatDoor
open Go.RowKit

/-- The cells of a file that is a path alone. -/
def cP (p : ByteArray) : List Value := [.string p, .int .i64 0, .string ⟨#[]⟩]
theorem cP_len (p : ByteArray) : (cP p).length = 3 := rfl
theorem Pats.at_ {w : World} {A : Option Addr} {n c : Nat} {l : List ByteArray} (h : Reads 3 cP w (.slice A n c) l) {i : Nat} {f : ByteArray} (hi : l[i]? = some f) :
    ∃ ad : Addr, A = some ad ∧ w.cell? (ad.add (i * 3)) = some (.string f) ∧ w.cell? ⟨(ad.add (i * 3)).block, (ad.add (i * 3)).off + 1, none⟩ = some (.int .i64 0) ∧ w.cell? ⟨(ad.add (i * 3)).block, (ad.add (i * 3)).off + 2, none⟩ = some (.string ⟨#[]⟩) := by
  obtain ⟨ad, ha, hc⟩ := h.at_ hi
  exact ⟨ad, ha, hc 0 _ rfl, hc 1 _ rfl, hc 2 _ rfl⟩

/-- How far a put has come. -/
def PutAt (ps : List ByteArray) (p : ByteArray) (i : Nat) : Bool → List ByteArray → Prop
  | false, acc => acc = ps.take i ∧ ∀ x ∈ ps.take i, cb x p < 0
  | true, acc => RiseP acc ∧ (∀ s, s ∈ acc ↔ s ∈ ps.take i ∨ s = p) ∧ (∃ x ∈ ps.take i, 0 ≤ cb x p) ∧ acc.length ≤ i + 1
section
variable {ps acc : List ByteArray} {p q : ByteArray} {i : Nat}
theorem PutAt.len {b : Bool} (h : PutAt ps p i b acc) : acc.length ≤ i + (if b then 1 else 0) := by
  cases b with
  | false => rw [h.1, List.length_take]; simp; omega
  | true => simpa using h.2.2.2
theorem rise_snoc (h : RiseP acc) (hq : ∀ x ∈ acc, cb x q < 0) : RiseP (acc ++ [q]) :=
  List.pairwise_append.2 ⟨h, List.pairwise_singleton _ _, fun x hx y hy => by rw [List.mem_singleton.1 hy]; exact hq x hx⟩
theorem take_rise (hr : RiseP ps) (hq : ps[i]? = some q) : ∀ x ∈ ps.take i, cb x q < 0 := fun x hx => by
  obtain ⟨t, ht, rfl⟩ := List.getElem_of_mem hx
  obtain ⟨hi, rfl⟩ := List.getElem?_eq_some_iff.1 hq
  rw [List.length_take] at ht
  rw [List.getElem_take]
  exact List.pairwise_iff_getElem.1 hr t i (by omega) hi (by omega)
theorem put_lt (h : PutAt ps p i false acc) (hq : ps[i]? = some q) (hc : cb q p < 0) : PutAt ps p (i + 1) false (acc ++ [q]) := by
  refine ⟨by rw [h.1, take_snoc hq], fun x hx => ?_⟩
  rw [take_snoc hq] at hx
  rcases List.mem_append.1 hx with hx | hx
  · exact h.2 x hx
  · rw [List.mem_singleton.1 hx]; exact hc
theorem put_eq (hr : RiseP ps) (h : PutAt ps p i false acc) (hq : ps[i]? = some p) : PutAt ps p (i + 1) true (acc ++ [p]) := by
  have hl := h.len
  obtain ⟨rfl, h2⟩ := h
  refine ⟨rise_snoc (List.Pairwise.sublist (List.take_sublist _ _) hr) h2, fun s => ?_, ⟨p, by rw [take_snoc hq]; simp, by rw [cb_self]; exact Int.le_refl _⟩, ?_⟩
  · rw [take_snoc hq]; simp
  · rw [List.length_append, List.length_singleton]; simp at hl ⊢; omega
theorem put_ge (hr : RiseP ps) (h : PutAt ps p i false acc) (hq : ps[i]? = some q) (hc : ¬ cb q p < 0) (hne : ¬ q = p) : PutAt ps p (i + 1) true (acc ++ [p] ++ [q]) := by
  have hl := h.len
  have hpq : cb p q < 0 := by
    have := cb_swap q p
    have h0 : cb q p ≠ 0 := fun e => hne (cb_zero e)
    omega
  have ht := take_rise hr hq
  obtain ⟨rfl, h2⟩ := h
  refine ⟨rise_snoc (rise_snoc (List.Pairwise.sublist (List.take_sublist _ _) hr) h2) (fun x hx => ?_), fun s => ?_, ⟨q, by rw [take_snoc hq]; simp, by omega⟩, ?_⟩
  · rcases List.mem_append.1 hx with hx | hx
    · exact ht x hx
    · rw [List.mem_singleton.1 hx]; exact hpq
  · rw [take_snoc hq]
    simp only [List.mem_append, List.mem_singleton]
    constructor
    · rintro ((h | h) | h)
      · exact .inl (.inl h)
      · exact .inr h
      · exact .inl (.inr h)
    · rintro ((h | h) | h)
      · exact .inl (.inl h)
      · exact .inr h
      · exact .inl (.inr h)
  · rw [List.length_append, List.length_append, List.length_singleton, List.length_singleton]; simp at hl ⊢; omega
theorem put_past (hr : RiseP ps) (h : PutAt ps p i true acc) (hq : ps[i]? = some q) : ¬ q = p ∧ PutAt ps p (i + 1) true (acc ++ [q]) := by
  obtain ⟨h1, h2, ⟨x, hx, hx0⟩, h4⟩ := h
  have ht := take_rise hr hq
  have hpq : cb p q < 0 := by
    have hxq := ht x hx
    by_cases e : cb x p = 0
    · rw [← cb_zero e]; exact hxq
    · have : cb p x < 0 := by have := cb_swap x p; omega
      exact cb_trans this hxq
  refine ⟨fun e => by rw [e, cb_self] at hpq; omega, rise_snoc h1 (fun y hy => ?_), fun s => ?_, ⟨x, by rw [take_snoc hq]; exact List.mem_append_left _ hx, hx0⟩, by rw [List.length_append, List.length_singleton]; omega⟩
  · rcases (h2 y).1 hy with hy | hy
    · exact ht y hy
    · rw [hy]; exact hpq
  · rw [take_snoc hq, List.mem_append, h2 s, List.mem_append, List.mem_singleton]
    constructor
    · rintro ((h | h) | h)
      · exact .inl (.inl h)
      · exact .inr h
      · exact .inl (.inr h)
    · rintro ((h | h) | h)
      · exact .inl (.inl h)
      · exact .inr h
      · exact .inl (.inr h)
theorem put_end {b : Bool} (hr : RiseP ps) (h : PutAt ps p ps.length b acc) : nrm (ps ++ [p]) = if b then acc else acc ++ [p] := by
  cases b with
  | false =>
    obtain ⟨h1, h2⟩ := h
    rw [List.take_length] at h1 h2
    subst h1
    exact nrm_of (rise_snoc hr h2) fun s => Iff.rfl
  | true =>
    obtain ⟨h1, h2, _⟩ := h
    rw [List.take_length] at h2
    exact nrm_of h1 fun s => by show s ∈ ps ++ [p] ↔ s ∈ acc; rw [h2 s]; simp
end

set_option maxRecDepth 100000 in
set_option maxHeartbeats 4000000 in
theorem refPut_any (w : World) (v : Value) (ps : List ByteArray) (p : ByteArray) (h : Reads 3 cP w v ps) (hr : RiseP ps) (hl : ps.length ≤ 100000) :
    Calls Tryz.prog 18 #[v, .agg #[.string p, .int .i64 0, .string ⟨#[]⟩]] w (OwnTo 40 3 cP (nrm (ps ++ [p])) w) := by
  obtain ⟨A, c, rfl⟩ := h.form
  have hn := h.len
  have hnm : ps.length ≤ 9223372036854775807 := by omega
  obtain ⟨W1, hW1⟩ : ∃ W1, W1 = w.alloc (.cells #[.string p, .int .i64 0, .string ⟨#[]⟩] 40) := ⟨_, rfl⟩
  have B1 : Below w.heap.size w W1 := by rw [hW1]; exact (Below.refl _ _).alloc (Nat.le_refl _) _
  obtain ⟨G, hG⟩ : ∃ G, G = w.heap.size := ⟨_, rfl⟩
  have K1 : W1.heap[G]? = some (.cells #[.string p, .int .i64 0, .string ⟨#[]⟩] 40 (0, 0)) := by rw [hW1, hG]; exact heap_alloc_new w _
  have YY := Lib.hid fun W (hW : Below W1.heap.size W1 W) => (⟨(hW.cell (World.block_lt_of_cell? _ _ (cell_of_row W1 G 0 _ 40 (0, 0) K1))).trans (cell_of_row W1 G 0 _ 40 (0, 0) K1), (hW.cell (World.block_lt_of_cell? _ _ (cell_of_row W1 G 1 _ 40 (0, 0) K1))).trans (cell_of_row W1 G 1 _ 40 (0, 0) K1), (hW.cell (World.block_lt_of_cell? _ _ (cell_of_row W1 G 2 _ 40 (0, 0) K1))).trans (cell_of_row W1 G 2 _ 40 (0, 0) K1)⟩ : W.cell? ⟨G, 0, none⟩ = some (.string p) ∧ W.cell? ⟨G, 1, none⟩ = some (.int .i64 0) ∧ W.cell? ⟨G, 2, none⟩ = some (.string ⟨#[]⟩))
  have HO := Lib.hid (h.below B1)
  have HR := Lib.hid hr
  have HB1 := Lib.hid B1
  obtain ⟨i0, hi, hz0, hz1, hz2⟩ := info_parts refFileInfo
  clear h hn hr K1 B1
  go_enter Tryz.func18, Tryz.ntmps18
  go_wp2_with fail
  rw [← hW1, ← hG]
  clear hW1 hG
  go_loopw [5, 6, 7] (fun s5 s6 s7 wr => ∃ (i : Nat) (acc : List ByteArray) (b : Bool), i ≤ ps.length ∧ s6 = .bool b ∧ s7 = .int .i64 i ∧ Hid (PutAt ps p i b acc) ∧ Hid (wr.ownsRow W1.heap.size 40 3 s5 acc.length (acc.flatMap cP)) ∧ Below W1.heap.size W1 wr) (fun _ _ s7 _ => ps.length - (intOf s7).toNat)
  case atStart => exact ⟨0, [], false, Nat.zero_le _, rfl, rfl, Lib.hid ⟨rfl, by simp⟩, Lib.hid (World.ownsRow_nil _ _ _ _), Below.refl _ _⟩
  case round =>
    obtain ⟨i, acc, b, hil, rfl, rfl, hp, hown, hb⟩ := hrel
    have HL := Lib.hid hp.out.len
    by_cases hlt : i < ps.length
    · obtain ⟨q, hq⟩ : ∃ q, ps[i]? = some q := ⟨_, List.getElem?_eq_getElem hlt⟩
      obtain ⟨ad, rfl, c0, c1, c2⟩ := Pats.at_ HO.out hq
      have HQ := Lib.hid hq
      have ZZ := Lib.hid fun W (hW : Below W1.heap.size W1 W) => (⟨(hW.cell (World.block_lt_of_cell? _ _ c0)).trans c0, (hW.cell (World.block_lt_of_cell? _ _ c1)).trans c1, (hW.cell (World.block_lt_of_cell? _ _ c2)).trans c2⟩ : FilCells ad i q 0 ⟨#[]⟩ W)
      unfold FilCells at ZZ
      have i0' : (0 : Int) ≤ (i : Int) := Int.natCast_nonneg _
      have hi1 : (i : Int) < (ps.length : Int) := by omega
      have hlc := less_cb q p
      clear hq c0 c1 c2
      cases b with
      | false =>
        by_cases hc : cb q p < 0
        · have hls : Op.bytesLess q.toList p.toList = true := by rw [hlc]; exact decide_eq_true hc
          have hne : ¬ q.toList = p.toList := fun e => by rw [tl_eq e, cb_self] at hc; omega
          have hneb : (q.toList == p.toList) = false := by simpa using hne
          have FA := Lib.hid (put_lt hp.out HQ.out hc)
          clear hlc hc
          obtain ⟨x0, x1, x2⟩ := ZZ.out _ hb
          obtain ⟨y0, y1, y2⟩ := YY.out _ hb
          go_wp2_with fail
          go_quiet (fail)
          obtain ⟨w1, hw1⟩ : ∃ w1, w1 = wr.drewN nq := ⟨_, rfl⟩
          have hb1 : Below W1.heap.size W1 w1 := by rw [hw1]; exact below_drewN hb nq
          have hown1 : Hid (w1.ownsRow W1.heap.size 40 3 u5 acc.length (acc.flatMap cP)) := by rw [hw1]; exact hown
          rw [← hw1]
          clear hw1
          obtain ⟨x0, x1, x2⟩ := ZZ.out _ hb1
          obtain ⟨y0, y1, y2⟩ := YY.out _ hb1
          clear hown
          go_wp2_with fail
          go_quiet (fail)
          obtain ⟨w2, hw2⟩ : ∃ w2, w2 = w1.drewN nq := ⟨_, rfl⟩
          have hb2 : Below W1.heap.size W1 w2 := by rw [hw2]; exact below_drewN hb1 nq
          have hown2 : Hid (w2.ownsRow W1.heap.size 40 3 u5 acc.length (acc.flatMap cP)) := by rw [hw2]; exact hown1
          rw [← hw2]
          clear hw2
          clear x0 x1 x2 y0 y1 y2
          obtain ⟨x0, x1, x2⟩ := ZZ.out _ hb2
          obtain ⟨y0, y1, y2⟩ := YY.out _ hb2
          have hsz3 := hb2.size
          have own43 := hown2.out.alloc (.cells #[.string q, .int .i64 0, .string ⟨#[]⟩] 40)
          have news3 := news_one w2 #[.string q, .int .i64 0, .string ⟨#[]⟩] 40 w2.heap.size rfl
          go_wp2_with (at_builtin; refine wpList_append_own _ rfl _ _ 28 rfl W1.heap.size 40 i0 (.agg #[.string ⟨#[]⟩, .int .i64 0, .string ⟨#[]⟩]) 3 40 Tryz.underlying28 hi hz0 hz1 hz2 rfl (by decide) _ _ _ rfl own43 ⟨w2.heap.size, 0, none⟩ 1 1 [.string q, .int .i64 0, .string ⟨#[]⟩] rfl rfl news3 (by simp [Value.oneCell']) (by unfold maxLen; (have := HL.out; simp at this; omega)) (by (have := HL.out; simp at this; omega)) (by simp; omega) ?_; intro v3 w3 ow3 hg3 _)
          have hb3 : Below W1.heap.size W1 w3 := (hb2.alloc hsz3 _).grown hg3 (by simp; omega) (fun k hk => (hown2.out.lt k hk).1)
          have hown3 : Hid (w3.ownsRow W1.heap.size 40 3 v3 (acc ++ [q]).length ((acc ++ [q]).flatMap cP)) := Lib.hid (by rw [flat_snoc, List.length_append]; exact ow3)
          clear news3 own43 hg3 ow3
          go_wp2
          go_roundw
          case rel => exact ⟨i + 1, acc ++ [q], false, by omega, rfl, by go_num, FA, hown3, hb3⟩
          case measure => simp [intOf]; omega
        · have hls : Op.bytesLess q.toList p.toList = false := by rw [hlc]; exact decide_eq_false hc
          clear hlc
          by_cases hqp : q = p
          · subst hqp
            have FA := Lib.hid (put_eq HR.out hp.out HQ.out)
            clear hc
            obtain ⟨x0, x1, x2⟩ := ZZ.out _ hb
            obtain ⟨y0, y1, y2⟩ := YY.out _ hb
            go_wp2_with fail
            go_quiet (fail)
            obtain ⟨w1, hw1⟩ : ∃ w1, w1 = wr.drewN nq := ⟨_, rfl⟩
            have hb1 : Below W1.heap.size W1 w1 := by rw [hw1]; exact below_drewN hb nq
            have hown1 : Hid (w1.ownsRow W1.heap.size 40 3 u5 acc.length (acc.flatMap cP)) := by rw [hw1]; exact hown
            rw [← hw1]
            clear hw1
            obtain ⟨x0, x1, x2⟩ := ZZ.out _ hb1
            obtain ⟨y0, y1, y2⟩ := YY.out _ hb1
            clear hown
            have hsz2 := hb1.size
            have own42 := hown1.out.alloc (.cells #[.string q, .int .i64 0, .string ⟨#[]⟩] 40)
            have news2 := news_one w1 #[.string q, .int .i64 0, .string ⟨#[]⟩] 40 w1.heap.size rfl
            go_wp2_with (at_builtin; refine wpList_append_own _ rfl _ _ 28 rfl W1.heap.size 40 i0 (.agg #[.string ⟨#[]⟩, .int .i64 0, .string ⟨#[]⟩]) 3 40 Tryz.underlying28 hi hz0 hz1 hz2 rfl (by decide) _ _ _ rfl own42 ⟨w1.heap.size, 0, none⟩ 1 1 [.string q, .int .i64 0, .string ⟨#[]⟩] rfl rfl news2 (by simp [Value.oneCell']) (by unfold maxLen; (have := HL.out; simp at this; omega)) (by (have := HL.out; simp at this; omega)) (by simp; omega) ?_; intro v2 w2 ow2 hg2 _)
            have hb2 : Below W1.heap.size W1 w2 := (hb1.alloc hsz2 _).grown hg2 (by simp; omega) (fun k hk => (hown1.out.lt k hk).1)
            have hown2 : Hid (w2.ownsRow W1.heap.size 40 3 v2 (acc ++ [q]).length ((acc ++ [q]).flatMap cP)) := Lib.hid (by rw [flat_snoc, List.length_append]; exact ow2)
            clear news2 own42 hg2 ow2
            clear x0 x1 x2 y0 y1 y2
            obtain ⟨x0, x1, x2⟩ := ZZ.out _ hb2
            obtain ⟨y0, y1, y2⟩ := YY.out _ hb2
            go_wp2_with fail
            go_quiet (fail)
            obtain ⟨w3, hw3⟩ : ∃ w3, w3 = w2.drewN nq := ⟨_, rfl⟩
            have hb3 : Below W1.heap.size W1 w3 := by rw [hw3]; exact below_drewN hb2 nq
            have hown3 : Hid (w3.ownsRow W1.heap.size 40 3 v2 (acc ++ [q]).length ((acc ++ [q]).flatMap cP)) := by rw [hw3]; exact hown2
            rw [← hw3]
            clear hw3
            clear x0 x1 x2 y0 y1 y2
            obtain ⟨x0, x1, x2⟩ := ZZ.out _ hb3
            obtain ⟨y0, y1, y2⟩ := YY.out _ hb3
            go_wp2
            go_roundw
            case rel => exact ⟨i + 1, acc ++ [q], true, by omega, rfl, by go_num, FA, hown3, hb3⟩
            case measure => simp [intOf]; omega
          · have hne : ¬ q.toList = p.toList := fun e => hqp (tl_eq e)
            have hneb : (q.toList == p.toList) = false := by simpa using hne
            have FA := Lib.hid (put_ge HR.out hp.out HQ.out hc hqp)
            clear hc hqp
            obtain ⟨x0, x1, x2⟩ := ZZ.out _ hb
            obtain ⟨y0, y1, y2⟩ := YY.out _ hb
            go_wp2_with fail
            go_quiet (fail)
            obtain ⟨w1, hw1⟩ : ∃ w1, w1 = wr.drewN nq := ⟨_, rfl⟩
            have hb1 : Below W1.heap.size W1 w1 := by rw [hw1]; exact below_drewN hb nq
            have hown1 : Hid (w1.ownsRow W1.heap.size 40 3 u5 acc.length (acc.flatMap cP)) := by rw [hw1]; exact hown
            rw [← hw1]
            clear hw1
            obtain ⟨x0, x1, x2⟩ := ZZ.out _ hb1
            obtain ⟨y0, y1, y2⟩ := YY.out _ hb1
            clear hown
            have hsz2 := hb1.size
            have own42 := hown1.out.alloc (.cells #[.string p, .int .i64 0, .string ⟨#[]⟩] 40)
            have news2 := news_one w1 #[.string p, .int .i64 0, .string ⟨#[]⟩] 40 w1.heap.size rfl
            go_wp2_with (at_builtin; refine wpList_append_own _ rfl _ _ 28 rfl W1.heap.size 40 i0 (.agg #[.string ⟨#[]⟩, .int .i64 0, .string ⟨#[]⟩]) 3 40 Tryz.underlying28 hi hz0 hz1 hz2 rfl (by decide) _ _ _ rfl own42 ⟨w1.heap.size, 0, none⟩ 1 1 [.string p, .int .i64 0, .string ⟨#[]⟩] rfl rfl news2 (by simp [Value.oneCell']) (by unfold maxLen; (have := HL.out; simp at this; omega)) (by (have := HL.out; simp at this; omega)) (by simp; omega) ?_; intro v2 w2 ow2 hg2 _)
            have hb2 : Below W1.heap.size W1 w2 := (hb1.alloc hsz2 _).grown hg2 (by simp; omega) (fun k hk => (hown1.out.lt k hk).1)
            have hown2 : Hid (w2.ownsRow W1.heap.size 40 3 v2 (acc ++ [p]).length ((acc ++ [p]).flatMap cP)) := Lib.hid (by rw [flat_snoc, List.length_append]; exact ow2)
            clear news2 own42 hg2 ow2
            clear x0 x1 x2 y0 y1 y2
            obtain ⟨x0, x1, x2⟩ := ZZ.out _ hb2
            obtain ⟨y0, y1, y2⟩ := YY.out _ hb2
            go_wp2_with fail
            go_quiet (fail)
            obtain ⟨w3, hw3⟩ : ∃ w3, w3 = w2.drewN nq := ⟨_, rfl⟩
            have hb3 : Below W1.heap.size W1 w3 := by rw [hw3]; exact below_drewN hb2 nq
            have hown3 : Hid (w3.ownsRow W1.heap.size 40 3 v2 (acc ++ [p]).length ((acc ++ [p]).flatMap cP)) := by rw [hw3]; exact hown2
            rw [← hw3]
            clear hw3
            clear x0 x1 x2 y0 y1 y2
            obtain ⟨x0, x1, x2⟩ := ZZ.out _ hb3
            obtain ⟨y0, y1, y2⟩ := YY.out _ hb3
            have hsz4 := hb3.size
            have own44 := hown3.out.alloc (.cells #[.string q, .int .i64 0, .string ⟨#[]⟩] 40)
            have news4 := news_one w3 #[.string q, .int .i64 0, .string ⟨#[]⟩] 40 w3.heap.size rfl
            go_wp2_with (at_builtin; refine wpList_append_own _ rfl _ _ 28 rfl W1.heap.size 40 i0 (.agg #[.string ⟨#[]⟩, .int .i64 0, .string ⟨#[]⟩]) 3 40 Tryz.underlying28 hi hz0 hz1 hz2 rfl (by decide) _ _ _ rfl own44 ⟨w3.heap.size, 0, none⟩ 1 1 [.string q, .int .i64 0, .string ⟨#[]⟩] rfl rfl news4 (by simp [Value.oneCell']) (by unfold maxLen; (have := HL.out; rw [List.length_append, List.length_singleton]; simp at this; omega)) (by (have := HL.out; rw [List.length_append, List.length_singleton]; simp at this; omega)) (by simp; omega) ?_; intro v4 w4 ow4 hg4 _)
            have hb4 : Below W1.heap.size W1 w4 := (hb3.alloc hsz4 _).grown hg4 (by simp; omega) (fun k hk => (hown3.out.lt k hk).1)
            have hown4 : Hid (w4.ownsRow W1.heap.size 40 3 v4 ((acc ++ [p]) ++ [q]).length (((acc ++ [p]) ++ [q]).flatMap cP)) := Lib.hid (by rw [flat_snoc, List.length_append]; exact ow4)
            clear news4 own44 hg4 ow4
            go_wp2
            go_roundw
            case rel => exact ⟨i + 1, acc ++ [p] ++ [q], true, by omega, rfl, by go_num, FA, hown4, hb4⟩
            case measure => simp [intOf]; omega
      | true =>
        have FA := Lib.hid (put_past HR.out hp.out HQ.out)
        have hne : ¬ q.toList = p.toList := fun e => FA.out.1 (tl_eq e)
        have hneb : (q.toList == p.toList) = false := by simpa using hne
        clear hlc
        obtain ⟨x0, x1, x2⟩ := ZZ.out _ hb
        obtain ⟨y0, y1, y2⟩ := YY.out _ hb
        go_wp2_with fail
        go_quiet (fail)
        obtain ⟨w1, hw1⟩ : ∃ w1, w1 = wr.drewN nq := ⟨_, rfl⟩
        have hb1 : Below W1.heap.size W1 w1 := by rw [hw1]; exact below_drewN hb nq
        have hown1 : Hid (w1.ownsRow W1.heap.size 40 3 u5 acc.length (acc.flatMap cP)) := by rw [hw1]; exact hown
        rw [← hw1]
        clear hw1
        obtain ⟨x0, x1, x2⟩ := ZZ.out _ hb1
        obtain ⟨y0, y1, y2⟩ := YY.out _ hb1
        clear hown
        go_wp2_with fail
        go_quiet (fail)
        obtain ⟨w2, hw2⟩ : ∃ w2, w2 = w1.drewN nq := ⟨_, rfl⟩
        have hb2 : Below W1.heap.size W1 w2 := by rw [hw2]; exact below_drewN hb1 nq
        have hown2 : Hid (w2.ownsRow W1.heap.size 40 3 u5 acc.length (acc.flatMap cP)) := by rw [hw2]; exact hown1
        rw [← hw2]
        clear hw2
        clear x0 x1 x2 y0 y1 y2
        obtain ⟨x0, x1, x2⟩ := ZZ.out _ hb2
        obtain ⟨y0, y1, y2⟩ := YY.out _ hb2
        have hsz3 := hb2.size
        have own43 := hown2.out.alloc (.cells #[.string q, .int .i64 0, .string ⟨#[]⟩] 40)
        have news3 := news_one w2 #[.string q, .int .i64 0, .string ⟨#[]⟩] 40 w2.heap.size rfl
        go_wp2_with (at_builtin; refine wpList_append_own _ rfl _ _ 28 rfl W1.heap.size 40 i0 (.agg #[.string ⟨#[]⟩, .int .i64 0, .string ⟨#[]⟩]) 3 40 Tryz.underlying28 hi hz0 hz1 hz2 rfl (by decide) _ _ _ rfl own43 ⟨w2.heap.size, 0, none⟩ 1 1 [.string q, .int .i64 0, .string ⟨#[]⟩] rfl rfl news3 (by simp [Value.oneCell']) (by unfold maxLen; (have := HL.out; simp at this; omega)) (by (have := HL.out; simp at this; omega)) (by simp; omega) ?_; intro v3 w3 ow3 hg3 _)
        have hb3 : Below W1.heap.size W1 w3 := (hb2.alloc hsz3 _).grown hg3 (by simp; omega) (fun k hk => (hown2.out.lt k hk).1)
        have hown3 : Hid (w3.ownsRow W1.heap.size 40 3 v3 (acc ++ [q]).length ((acc ++ [q]).flatMap cP)) := Lib.hid (by rw [flat_snoc, List.length_append]; exact ow3)
        clear news3 own43 hg3 ow3
        go_wp2
        go_roundw
        case rel => exact ⟨i + 1, acc ++ [q], true, by omega, rfl, by go_num, Lib.hid FA.out.2, hown3, hb3⟩
        case measure => simp [intOf]; omega
    · obtain rfl : i = ps.length := by omega
      have HE := Lib.hid (put_end HR.out hp.out)
      cases b with
      | true =>
        have HE2 : Hid (nrm (ps ++ [p]) = acc) := Lib.hid HE.out
        go_wp2
        go_ret
        exact ⟨_, rfl, by rw [HE2.out]; exact own_base hown.out HB1.out.size, HB1.out.trans (hb.mono HB1.out.size)⟩
      | false =>
        have HE2 : Hid (nrm (ps ++ [p]) = acc ++ [p]) := Lib.hid HE.out
        obtain ⟨y0, y1, y2⟩ := YY.out _ hb
        have hsz3 := hb.size
        have own43 := hown.out.alloc (.cells #[.string p, .int .i64 0, .string ⟨#[]⟩] 40)
        have news3 := news_one wr #[.string p, .int .i64 0, .string ⟨#[]⟩] 40 wr.heap.size rfl
        go_wp2_with (at_builtin; refine wpList_append_own _ rfl _ _ 28 rfl W1.heap.size 40 i0 (.agg #[.string ⟨#[]⟩, .int .i64 0, .string ⟨#[]⟩]) 3 40 Tryz.underlying28 hi hz0 hz1 hz2 rfl (by decide) _ _ _ rfl own43 ⟨wr.heap.size, 0, none⟩ 1 1 [.string p, .int .i64 0, .string ⟨#[]⟩] rfl rfl news3 (by simp [Value.oneCell']) (by unfold maxLen; (have := HL.out; simp at this; omega)) (by (have := HL.out; simp at this; omega)) (by simp; omega) ?_; intro v3 w3 ow3 hg3 _)
        have hb3 : Below W1.heap.size W1 w3 := (hb.alloc hsz3 _).grown hg3 (by simp; omega) (fun k hk => (hown.out.lt k hk).1)
        have hown3 : Hid (w3.ownsRow W1.heap.size 40 3 v3 (acc ++ [p]).length ((acc ++ [p]).flatMap cP)) := Lib.hid (by rw [flat_snoc, List.length_append]; exact ow3)
        clear news3 own43 hg3 ow3
        go_wp2
        go_ret
        exact ⟨_, rfl, by rw [HE2.out]; exact own_base hown3.out HB1.out.size, HB1.out.trans (hb3.mono HB1.out.size)⟩
end Go.Proofs.YtplleaimmmanhaaGreatDoor
namespace Go.Proofs.YtplleaimmmanhaaGreatDoor
open Go.RowKit

theorem nrm_nil2 : nrm [] = [] := nrm_of List.Pairwise.nil fun s => by simp
theorem nrm_app (a : List ByteArray) (p : ByteArray) : nrm (nrm a ++ [p]) = nrm (a ++ [p]) := nrm_of (nrm_rise _) fun s => by
  rw [nrm_mem, List.mem_append, List.mem_append, nrm_mem]
theorem nrm_id {a : List ByteArray} (h : RiseP a) : nrm a = a := nrm_of h fun _ => Iff.rfl

set_option maxRecDepth 100000 in
set_option maxHeartbeats 4000000 in
theorem refPaths_any (w : World) (ad : Addr) (c : Nat) (rs : List (Value × List Fl)) (h : Trees w ad rs) (hl : rs.length ≤ 1000) (hp : (pathsR rs).length ≤ 100000) :
    Calls Tryz.prog 79 #[.slice (some ad) rs.length c] w (TextsTo (nrm (pathsR rs)) w) := by
  have hnm : rs.length ≤ 9223372036854775807 := by omega
  have HO := Lib.hid h
  have HP := Lib.hid hp
  obtain ⟨i0, hi, hz0, hz1, hz2⟩ := info_parts strInfo
  clear h hp
  go_enter Tryz.func79, Tryz.ntmps79
  go_wp2
  go_loopw [3, 4] (fun s3 s4 wr => ∃ (i : Nat) (cur : List ByteArray), i ≤ rs.length ∧ s4 = .int .i64 i ∧ Hid (cur = nrm (pathsR (rs.take i))) ∧ Hid (wr.ownsRow w.heap.size 40 3 s3 cur.length (cur.flatMap cP)) ∧ Below w.heap.size w wr) (fun _ s4 _ => rs.length - (intOf s4).toNat)
  case atStart => exact ⟨0, [], Nat.zero_le _, rfl, Lib.hid nrm_nil2.symm, Lib.hid (World.ownsRow_nil _ _ _ _), Below.refl _ _⟩
  case round =>
    obtain ⟨i, cur, hil, rfl, HC, hown, hb⟩ := hrel
    by_cases hlt : i < rs.length
    · obtain ⟨r, hr⟩ : ∃ r, rs[i]? = some r := ⟨_, List.getElem?_eq_getElem hlt⟩
      have HT := Lib.hid (show pathsR (rs.take (i + 1)) = pathsR (rs.take i) ++ r.2.map (·.1) by rw [take_snoc hr, pathsR_snoc])
      have hle := pathsR_take rs (i + 1)
      rw [HT.out, List.length_append, List.length_map] at hle
      have CC := Lib.hid fun W (hW : Below w.heap.size w W) => (HO.out.below hW i r hr).1
      have hrd := (HO.out i r hr).2
      obtain ⟨rv, l⟩ := r
      obtain ⟨B, d, hrv⟩ := hrd.form
      simp only at hrv
      subst hrv
      have HR := Lib.hid hrd
      have i0' : (0 : Int) ≤ (i : Int) := Int.natCast_nonneg _
      have hi1 : (i : Int) < (rs.length : Int) := by omega
      have hlm : l.length ≤ 9223372036854775807 := by have := HP.out; simp only at hle; omega
      obtain ⟨acc, hacc⟩ : ∃ acc, acc = pathsR (rs.take i) := ⟨_, rfl⟩
      rw [← hacc] at HC HT hle
      have HLE := Lib.hid hle
      clear hr hrd hacc hle
      go_wp2
      go_loopw [3, 5] (fun s3 s5 wq => ∃ (j : Nat) (cur : List ByteArray), j ≤ l.length ∧ s5 = .int .i64 j ∧ Hid (cur = nrm (acc ++ (l.take j).map (·.1))) ∧ Hid (wq.ownsRow w.heap.size 40 3 s3 cur.length (cur.flatMap cP)) ∧ Below w.heap.size w wq) (fun _ s5 _ => l.length - (intOf s5).toNat)
      case atStart => exact ⟨0, cur, Nat.zero_le _, rfl, Lib.hid (by rw [List.take_zero, List.map_nil, List.append_nil]; exact HC.out), hown, hb⟩
      case round =>
        clear HC hown hb
        obtain ⟨j, cur, hjl, rfl, HC, hown, hb⟩ := hrel
        have cc := CC.out _ hb
        by_cases hjt : j < l.length
        · obtain ⟨f, hf⟩ : ∃ f, l[j]? = some f := ⟨_, List.getElem?_eq_getElem hjt⟩
          obtain ⟨ad2, rfl, c0, c1, c2⟩ := Fils.at_ (HR.out.below hb) hf
          obtain ⟨p, m, dd⟩ := f
          have HE := Lib.hid (show nrm (acc ++ (l.take (j + 1)).map (fun x => x.1)) = nrm (cur ++ [p]) by rw [HC.out, nrm_app, take_snoc hf]; simp)
          have hcl : cur.length ≤ 100000 := by
            have h1 := HLE.out
            have h2 := HP.out
            rw [HC.out]
            refine Nat.le_trans (nrm_len _) ?_
            rw [List.length_append, List.length_map, List.length_take]
            omega
          have j0' : (0 : Int) ≤ (j : Int) := Int.natCast_nonneg _
          have hj1 : (j : Int) < (l.length : Int) := by omega
          have hrise : RiseP cur := by rw [HC.out]; exact nrm_rise _
          obtain ⟨A3, c3, rfl⟩ := own_form hown.out
          have PT := Lib.hid (refPut_any wr _ cur p (Reads.of_own cP_len hown.out) hrise hcl)
          obtain ⟨nx, hnx⟩ : ∃ nx, nx = nrm (cur ++ [p]) := ⟨_, rfl⟩
          rw [← hnx] at PT HE
          have hsz := hb.size
          clear hf hrise hnx
          go_wp2_with fail
          refine PT.out.mono ?_
          rintro e w5 ⟨v5, rfl, o5, b5⟩
          have HB5 := hb.trans (b5.mono hsz)
          have HO5 := Lib.hid (own_base o5 hsz)
          clear o5 b5
          go_wp2
          go_roundw
          case rel => exact ⟨j + 1, nx, by omega, by go_num, Lib.hid HE.out.symm, HO5, HB5⟩
          case measure => simp [intOf]; omega
        · obtain rfl : j = l.length := by omega
          go_wp2
          go_roundw
          case rel => exact ⟨i + 1, cur, by omega, by go_num, Lib.hid (by rw [HT.out, HC.out, List.take_length]), hown, hb⟩
          case measure => simp [intOf]; omega
    · obtain rfl : i = rs.length := by omega
      rw [List.take_length] at HC
      have hcl : cur.length ≤ 100000 := by rw [HC.out]; exact Nat.le_trans (nrm_len _) HP.out
      obtain ⟨A3, c3, rfl⟩ := own_form hown.out
      have RR := Lib.hid (Reads.of_own cP_len hown.out)
      have hB := Lib.hid hb
      have hsz0 := hb.size
      have HCE : Hid (nrm (pathsR rs) = cur) := Lib.hid HC.out.symm
      clear hown HC hb
      obtain ⟨wo, hwo⟩ : ∃ wo, wo = wr := ⟨_, rfl⟩
      subst hwo
      go_wp2
      go_loopw [6, 7] (fun s6 s7 wq => ∃ k : Nat, k ≤ cur.length ∧ s7 = .int .i64 k ∧ Hid (wq.ownsRow wo.heap.size 9 1 s6 k ((cur.take k).map Value.string)) ∧ Below wo.heap.size wo wq) (fun _ s7 _ => cur.length - (intOf s7).toNat)
      case atStart => exact ⟨0, Nat.zero_le _, rfl, Lib.hid (World.ownsRow_nil _ _ _ _), Below.refl _ _⟩
      case round =>
        obtain ⟨k, hk, rfl, hown, hb⟩ := hrel
        by_cases hkt : k < cur.length
        · obtain ⟨p, hp⟩ : ∃ p, cur[k]? = some p := ⟨_, List.getElem?_eq_getElem hkt⟩
          obtain ⟨ad2, rfl, c0, c1, c2⟩ := Pats.at_ (RR.out.below hb) hp
          have HE := Lib.hid (show cur.take (k + 1) = cur.take k ++ [p] from take_snoc hp)
          have k0' : (0 : Int) ≤ (k : Int) := Int.natCast_nonneg _
          have hk1 : (k : Int) < (cur.length : Int) := by omega
          have hsz := hb.size
          have hown4 := hown.out.alloc (.cells #[.string p] 9)
          have hnews := news_one wr #[.string p] 9 wr.heap.size rfl
          clear hp
          go_wp2_with (at_builtin; refine wpList_append_own _ rfl _ _ 66 rfl wo.heap.size 9 i0 (.string { data := #[] }) 1 16 Tryz.underlying66 hi hz0 hz1 hz2 rfl (by decide) _ _ _ rfl hown4 ⟨wr.heap.size, 0, none⟩ 1 1 [.string p] rfl rfl hnews (by simp [Value.oneCell']) (by unfold maxLen; omega) (by omega) (by simp; omega) ?_; intro v5 w5 hown5 hg5 _)
          have hb5 : Below wo.heap.size wo w5 := (hb.alloc hsz _).grown hg5 (by simp; omega) (fun k hk => (hown.out.lt k hk).1)
          clear hnews hown4 hg5
          go_roundw
          case rel => exact ⟨k + 1, by omega, by go_num, Lib.hid (by rw [HE.out, str_snoc]; exact hown5), hb5⟩
          case measure => simp [intOf]; omega
        · obtain rfl : k = cur.length := by omega
          have HE : Hid (cur.take cur.length = cur) := Lib.hid (List.take_length)
          go_wp2
          go_ret
          exact ⟨_, rfl, by rw [HCE.out]; exact own_base (by have := hown.out; rw [HE.out] at this; exact this) hsz0, hB.out.trans (hb.mono hsz0)⟩
end Go.Proofs.YtplleaimmmanhaaGreatDoor
namespace Go.Proofs.YtplleaimmmanhaaGreatDoor
open Go.RowKit

def EntCells (ad : Addr) (i : Nat) (p : ByteArray) (st m : Int) (d : ByteArray) (W : World) : Prop :=
  W.cell? (ad.add (i * 6)) = some (.string p) ∧ W.cell? ⟨(ad.add (i * 6)).block, (ad.add (i * 6)).off + 1, none⟩ = some (.int .i64 st) ∧ W.cell? ⟨(ad.add (i * 6)).block, (ad.add (i * 6)).off + 2, none⟩ = some (.int .i64 m) ∧ W.cell? ⟨(ad.add (i * 6)).block, (ad.add (i * 6)).off + 3, none⟩ = some (.string d)

set_option maxHeartbeats 2000000 in
theorem refStage_any (w : World) (v : Value) (l : List En) (n : Int) (h : Reads 6 cE w v l) (hl : l.length ≤ 100000) :
    Calls Tryz.prog 31 #[v, .int .i64 n] w (OwnTo 40 3 cF (stageE l n) w) := by
  obtain ⟨A, c, rfl⟩ := h.form
  have hn := h.len
  have hnm : l.length ≤ 9223372036854775807 := by omega
  have HO := Lib.hid h
  obtain ⟨i0, hi, hz0, hz1, hz2⟩ := info_parts refFileInfo
  clear h hn
  go_enter Tryz.func31, Tryz.ntmps31
  go_wp2
  go_loopw [5, 6] (fun s5 s6 wr => ∃ i : Nat, i ≤ l.length ∧ s6 = .int .i64 i ∧ Hid (wr.ownsRow w.heap.size 40 3 s5 (stageE (l.take i) n).length ((stageE (l.take i) n).flatMap cF)) ∧ Below w.heap.size w wr) (fun _ s6 _ => l.length - (intOf s6).toNat)
  case atStart => exact ⟨0, Nat.zero_le _, rfl, Lib.hid (World.ownsRow_nil _ _ _ _), Below.refl _ _⟩
  case round =>
    obtain ⟨i, hil, rfl, hown, hb⟩ := hrel
    by_cases hlt : i < l.length
    · obtain ⟨e, he⟩ : ∃ e, l[i]? = some e := ⟨_, List.getElem?_eq_getElem hlt⟩
      obtain ⟨ad, rfl, c0, c1, c2, c3, c4, c5⟩ := Ents.at_ HO.out he
      have HT := Lib.hid (show stageE (l.take (i + 1)) n = stageE (l.take i) n ++ (if e.2.1 = n then [toF e] else []) by rw [take_snoc he, stageE_snoc])
      have hsl := Nat.le_trans (stageE_len (l.take i) n) (by rw [List.length_take]; omega : (l.take i).length ≤ 100000)
      obtain ⟨p, st, m, d, tm, sz⟩ := e
      have ZZ := Lib.hid fun W (hW : Below w.heap.size w W) => (⟨(hW.cell (World.block_lt_of_cell? _ _ c0)).trans c0, (hW.cell (World.block_lt_of_cell? _ _ c1)).trans c1, (hW.cell (World.block_lt_of_cell? _ _ c2)).trans c2, (hW.cell (World.block_lt_of_cell? _ _ c3)).trans c3⟩ : EntCells ad i p st m d W)
      unfold EntCells at ZZ
      have y1 := (ZZ.out _ hb).2.1
      have z0 := ZZ.out _ hb.drew
      have i0' : (0 : Int) ≤ (i : Int) := Int.natCast_nonneg _
      have hi1 : (i : Int) < (l.length : Int) := by omega
      have hsz := hb.size
      obtain ⟨acc, hacc⟩ : ∃ acc, acc = stageE (l.take i) n := ⟨_, rfl⟩
      rw [← hacc] at hown HT hsl
      clear he c0 c1 c2 c3 c4 c5 hacc
      by_cases hst : st = n
      · subst hst
        have hst : Hid ((if st = st then [toF (p, st, m, d, tm, sz)] else []) = [(p, m, d)]) := Lib.hid (by rw [if_pos rfl]; rfl)
        go_wp2
        clear y1
        go_region_held3 (fun w' => w'.cell? (ad.add (i * 6)) = some (.string p) ∧ w'.cell? ⟨(ad.add (i * 6)).block, (ad.add (i * 6)).off + 1, none⟩ = some (.int .i64 st) ∧ w'.cell? ⟨(ad.add (i * 6)).block, (ad.add (i * 6)).off + 2, none⟩ = some (.int .i64 m) ∧ w'.cell? ⟨(ad.add (i * 6)).block, (ad.add (i * 6)).off + 3, none⟩ = some (.string d))
          (first | exact z0 | exact ZZ.out _ (hb.drew.alloc hsz _) | exact z5)
          ((refine step_append_lies _ (by rfl) _ _ 28 (by rfl) w.heap.size 40 i0 (.agg #[.string ⟨#[]⟩, .int .i64 0, .string ⟨#[]⟩]) 3 40 Tryz.underlying28 hi hz0 hz1 hz2 rfl (by omega) _ acc.length _ (by rfl) (hown.out.drew.alloc _)
              ⟨wr.heap.size, 0, none⟩ 1 1 [.string p, .int .i64 m, .string d] (by rfl) (by rfl) (World.news_of_block (cs := #[.string p, .int .i64 m, .string d]) (t := 40) (fr := (0, 0)) (heap_alloc_new wr.drew _)) (by simp [Value.oneCell'])
              (by omega) (by unfold maxLen; omega) (by omega) (by simp; omega) (wr.heap.size + 1) (by simp) ?_; intro gg cap w5 hown5 hg5 hat hlt5; have hb5 := (hb.drew.alloc hsz (.cells #[.string p, .int .i64 m, .string d] 40)).grown hg5 (by simp; omega) (fun k hk => (hown.out.lt k hk).1); have z5 := ZZ.out _ hb5))
        go_wp2
        go_roundw
        case rel => exact ⟨i + 1, by omega, by go_num, Lib.hid (by rw [HT.out, hst.out, List.length_append, flat_snoc]; exact hown5), hb5⟩
        case measure => simp [intOf]; omega
      · have hst' : Hid ((if st = n then [toF (p, st, m, d, tm, sz)] else []) = ([] : List Fl)) := Lib.hid (if_neg hst)
        have hbe : (st == n) = false := by simpa using hst
        go_wp2
        go_roundw
        case rel => exact ⟨i + 1, by omega, by go_num, Lib.hid (by rw [HT.out, hst'.out, List.append_nil]; exact hown.out), hb⟩
        case measure => simp [intOf]; omega
    · obtain rfl : i = l.length := by omega
      have HL : Hid (stageE (l.take l.length) n = stageE l n) := Lib.hid (by rw [List.take_length])
      go_wp2
      go_ret
      exact ⟨_, rfl, by rw [← HL.out]; exact hown.out, hb⟩
end Go.Proofs.YtplleaimmmanhaaGreatDoor
namespace Go.Proofs.YtplleaimmmanhaaGreatDoor
open Go Go.RowKit

theorem stage_mem {l : List En} {n : Int} {s : ByteArray} : s ∈ (stageE l n).map (·.1) ↔ ∃ e ∈ l, e.2.1 = n ∧ e.1 = s := by
  unfold stageE
  simp only [List.mem_map, List.mem_filter, decide_eq_true_eq]
  constructor
  · rintro ⟨f, ⟨e, ⟨he, hn⟩, rfl⟩, rfl⟩
    exact ⟨e, he, hn, rfl⟩
  · rintro ⟨e, he, hn, rfl⟩
    exact ⟨_, ⟨e, ⟨he, hn⟩, rfl⟩, rfl⟩
theorem confE_mem {l : List En} {s : ByteArray} : s ∈ confE l ↔ ∃ e ∈ l, e.2.1 ≠ 0 ∧ e.1 = s := by
  unfold confE
  simp only [List.mem_map, List.mem_filter, decide_eq_true_eq]
  constructor
  · rintro ⟨e, ⟨he, hn⟩, rfl⟩
    exact ⟨e, he, hn, rfl⟩
  · rintro ⟨e, he, hn, rfl⟩
    exact ⟨e, ⟨he, hn⟩, rfl⟩
/-- Each entry has a stage that may be. -/
def StagesOk (l : List En) : Prop := ∀ e ∈ l, e.2.1 = 0 ∨ e.2.1 = 1 ∨ e.2.1 = 2 ∨ e.2.1 = 3
theorem conf_stages {l : List En} (h : StagesOk l) (v1 v2 v3 : Value) : nrm (pathsR [(v1, stageE l 1), (v2, stageE l 2), (v3, stageE l 3)]) = nrm (confE l) := nrm_congr fun s => by
  simp only [pathsR, List.flatMap_cons, List.flatMap_nil, List.append_nil, List.mem_append, stage_mem, confE_mem]
  constructor
  · rintro (⟨e, he, hn, hs⟩ | ⟨e, he, hn, hs⟩ | ⟨e, he, hn, hs⟩) <;> exact ⟨e, he, by omega, hs⟩
  · rintro ⟨e, he, hn, hs⟩
    rcases h e he with h | h | h | h
    · exact absurd h hn
    · exact .inl ⟨e, he, h, hs⟩
    · exact .inr (.inl ⟨e, he, h, hs⟩)
    · exact .inr (.inr ⟨e, he, h, hs⟩)
theorem trees_block {W : World} {g : Nat} {cs : Array Value} {t : TypeId} (h : W.heap[g]? = some (.cells cs t (0, 0))) {rs : List (Value × List Fl)} (hc : cs.toList = rs.map (·.1)) (hr : ∀ r ∈ rs, Reads 3 cF W r.1 r.2) : Trees W ⟨g, 0, none⟩ rs := fun i r hi => by
  refine ⟨World.news_of_block h i r.1 ?_, hr r (List.mem_of_getElem? hi)⟩
  rw [hc, List.getElem?_map, hi]
  rfl
theorem own_reads {w w' : World} {ty : TypeId} {v : Value} {l : List Fl} (o : w.ownsRow w'.heap.size ty 3 v l.length (l.flatMap cF)) : Reads 3 cF w v l := Reads.of_own cF_len o

set_option maxRecDepth 100000 in
set_option maxHeartbeats 2000000 in
theorem refConf_any (w : World) (v : Value) (l : List En) (h : Reads 6 cE w v l) (hl : l.length ≤ 10000) (hk : StagesOk l) :
    Calls Tryz.prog 36 #[v] w (TextsTo (nrm (confE l)) w) := by
  have ST := Lib.hid fun W (hW : Below w.heap.size w W) n => refStage_any W v l n (h.below hW) (by omega)
  have L1 := Nat.le_trans (stageE_len l 1) hl
  have L2 := Nat.le_trans (stageE_len l 2) hl
  have L3 := Nat.le_trans (stageE_len l 3) hl
  have HE := Lib.hid (conf_stages hk)
  obtain ⟨s1, h1⟩ : ∃ s, s = stageE l 1 := ⟨_, rfl⟩
  obtain ⟨s2, h2⟩ : ∃ s, s = stageE l 2 := ⟨_, rfl⟩
  obtain ⟨s3, h3⟩ : ∃ s, s = stageE l 3 := ⟨_, rfl⟩
  rw [← h1, ← h2, ← h3] at HE
  rw [← h1] at L1
  rw [← h2] at L2
  rw [← h3] at L3
  have S1 := Lib.hid fun W (hW : Below w.heap.size w W) => ST.out W hW 1
  have S2 := Lib.hid fun W (hW : Below w.heap.size w W) => ST.out W hW 2
  have S3 := Lib.hid fun W (hW : Below w.heap.size w W) => ST.out W hW 3
  rw [← h1] at S1
  rw [← h2] at S2
  rw [← h3] at S3
  clear h ST hk h1 h2 h3
  go_enter Tryz.func36, Tryz.ntmps36
  go_wp2_with fail
  refine (S1.out w (Below.refl _ _)).mono ?_
  rintro e w1 ⟨v1, rfl, o1, b1⟩
  have R1 := Lib.hid (own_reads o1)
  obtain ⟨A1, c1, rfl⟩ := own_form o1
  clear o1
  go_wp2_with fail
  refine (S2.out w1 b1).mono ?_
  rintro e w2 ⟨v2, rfl, o2, b2⟩
  have R12 := Lib.hid (R1.out.below b2)
  have R2 := Lib.hid (own_reads o2)
  have B2 := b1.trans (b2.mono b1.size)
  obtain ⟨A2, c2, rfl⟩ := own_form o2
  clear o2 b2 R1
  go_wp2_with fail
  refine (S3.out w2 B2).mono ?_
  rintro e w3 ⟨v3, rfl, o3, b3⟩
  have R13 := Lib.hid (R12.out.below b3)
  have R23 := Lib.hid (R2.out.below b3)
  have R3 := Lib.hid (own_reads o3)
  have B3 := B2.trans (b3.mono B2.size)
  obtain ⟨A3, c3, rfl⟩ := own_form o3
  clear o3 b3 R12 R2 b1 B2 S1 S2 S3
  have TT := Lib.hid (refPaths_any (w3.alloc (.cells #[.slice A1 s1.length c1, .slice A2 s2.length c2, .slice A3 s3.length c3] 28)) ⟨w3.heap.size, 0, none⟩ 3 [(.slice A1 s1.length c1, s1), (.slice A2 s2.length c2, s2), (.slice A3 s3.length c3, s3)]
    (trees_block (heap_alloc_new w3 _) rfl (by
      intro r hr
      simp only [List.mem_cons, List.not_mem_nil, or_false] at hr
      rcases hr with rfl | rfl | rfl
      · exact R13.out.alloc _
      · exact R23.out.alloc _
      · exact R3.out.alloc _)) (by simp) (by simp [pathsR]; omega))
  rw [HE.out] at TT
  have s3' := B3.size
  have B4 := B3.alloc s3' (.cells #[.slice A1 s1.length c1, .slice A2 s2.length c2, .slice A3 s3.length c3] 28)
  have HB4 := Lib.hid B4
  clear R13 R23 R3 B4
  go_wp2_with fail
  refine TT.out.mono ?_
  rintro e w5 ⟨v5, rfl, o5, b5⟩
  have o6 := Lib.hid (own_base o5 HB4.out.size)
  have b6 := Lib.hid (HB4.out.trans (b5.mono HB4.out.size))
  clear o5 b5 TT
  go_wp2
  go_ret
  exact ⟨_, rfl, o6.out, b6.out⟩

theorem chk_stages {l : List En} (h : chkE l = none) : StagesOk l := fun e he => by
  obtain ⟨i, hi, rfl⟩ := List.getElem_of_mem he
  have h0 := chkE_at h (List.getElem?_eq_getElem hi)
  have ho : ownE l[i] = 0 := by
    by_cases h1 : ownE l[i] = 0
    · exact h1
    · rw [wrE_own h1] at h0; exact h0
  have hb : badE l[i] = false := by
    cases hb : badE l[i] with
    | false => rfl
    | true =>
      unfold ownE at ho
      rw [hb] at ho
      by_cases hc : chk l[i].1.data.toList = 0
      · rw [hc] at ho; simp at ho
      · rw [if_pos hc] at ho; exact absurd ho hc
  unfold badE at hb
  simp only [Bool.or_eq_false_iff, decide_eq_false_iff_not] at hb
  have h1 := hb.1
  have h2 := hb.2.1
  omega
end Go.Proofs.YtplleaimmmanhaaGreatDoor
namespace Go.Proofs.YtplleaimmmanhaaGreatDoor
open Go.RowKit

set_option maxHeartbeats 4000000 in
theorem refSame_any (w : World) (v u : Value) (a b : List Fl) (h : Reads 3 cF w v a) (g : Reads 3 cF w u b) :
    Calls Tryz.prog 16 #[v, u] w (BoolTo (decide (a = b)) w) := by
  obtain ⟨A, c, rfl⟩ := h.form
  obtain ⟨B, d, rfl⟩ := g.form
  have hn := h.len
  have gn := g.len
  have hm1 : a.length ≤ 9223372036854775807 := by have := hn.2; unfold maxLen at this; omega
  have hm2 : b.length ≤ 9223372036854775807 := by have := gn.2; unfold maxLen at this; omega
  have HA := Lib.hid h
  have HB := Lib.hid g
  clear h g hn gn
  by_cases hnm : a.length = b.length
  · have hi0 : ((a.length : Int) != (b.length : Int)) = false := by simp [hnm]
    have HN := Lib.hid hnm
    clear hnm
    go_enter Tryz.func16, Tryz.ntmps16
    go_wp2
    go_loopw [5] (fun s5 wr => ∃ k q : Nat, k ≤ a.length ∧ s5 = .int .i64 k ∧ Hid (∀ i, i < k → a[i]? = b[i]?) ∧ wr = w.drewN q) (fun s5 _ => a.length - (intOf s5).toNat)
    case atStart => exact ⟨0, 0, Nat.zero_le _, rfl, Lib.hid (fun i hi => absurd hi (Nat.not_lt_zero _)), rfl⟩
    case round =>
      obtain ⟨k, q, hk, rfl, hp, rfl⟩ := hrel
      by_cases hlt : k < a.length
      · obtain ⟨x, hx⟩ : ∃ x, a[k]? = some x := ⟨_, List.getElem?_eq_getElem hlt⟩
        obtain ⟨y, hy⟩ : ∃ y, b[k]? = some y := ⟨_, List.getElem?_eq_getElem (by rw [← HN.out]; exact hlt)⟩
        obtain ⟨ad, rfl, c0, c1, c2⟩ := Fils.at_ HA.out hx
        obtain ⟨ad2, rfl, d0, d1, d2⟩ := Fils.at_ HB.out hy
        have HX := Lib.hid hx
        have HY := Lib.hid hy
        have k0 : (0 : Int) ≤ (k : Int) := Int.natCast_nonneg _
        have k1 : (k : Int) < (a.length : Int) := by omega
        have k2 : (k : Int) < (b.length : Int) := by have := HN.out; omega
        have HNE := Lib.hid (show x ≠ y → decide (a = b) = false from fun hne => decide_eq_false fun e => by
          rw [e, hy] at hx
          exact hne (Option.some.inj hx).symm)
        clear hx hy
        by_cases hxy : x = y
        · subst hxy
          obtain ⟨p, m, s⟩ := x
          go_wp2_with fail
          go_quiet (fail)
          go_wp2
          go_roundw
          case rel => exact ⟨k + 1, _, by omega, by go_num, Lib.hid (fun i hi => by
            rcases Nat.lt_or_ge i k with h1 | h1
            · exact hp.out i h1
            · obtain rfl : i = k := by omega
              rw [HX.out, HY.out]), rfl⟩
          case measure => simp [intOf]; omega
        · have HC := Lib.hid (HNE.out hxy)
          obtain ⟨p, m, s⟩ := x
          obtain ⟨p', m', s'⟩ := y
          by_cases h1 : p = p'
          · subst h1
            by_cases h2 : m = m'
            · subst h2
              have h3 : ¬ s = s' := fun e => hxy (by rw [e])
              have e3 : ¬ s.toList = s'.toList := fun e => h3 (tl_eq e)
              have e3' : (s.toList == s'.toList) = false := by simpa using e3
              clear h3 hxy
              go_wp2_with fail
              go_quiet (fail)
              go_wp2
              go_ret
              exact ⟨by rw [HC.out]; rfl, _, drewN_two _ _ _⟩
            · have e2 : (m == m') = false := by simpa using h2
              clear hxy
              go_wp2_with fail
              go_quiet (fail)
              go_wp2
              go_ret
              exact ⟨by rw [HC.out]; rfl, _, drewN_two _ _ _⟩
          · have e1 : ¬ p.toList = p'.toList := fun e => h1 (tl_eq e)
            have e1' : (p.toList == p'.toList) = false := by simpa using e1
            clear hxy h1
            go_wp2_with fail
            go_quiet (fail)
            go_wp2
            go_ret
            exact ⟨by rw [HC.out]; rfl, _, drewN_two _ _ _⟩
      · obtain rfl : k = a.length := by omega
        have HC : Hid (decide (a = b) = true) := Lib.hid (decide_eq_true (prefix_all hp.out rfl HN.out.symm))
        go_wp2
        go_ret
        exact ⟨by rw [HC.out]; rfl, _, rfl⟩
  · have hi0 : ((a.length : Int) != (b.length : Int)) = true := by simp; omega
    have HC : Hid (decide (a = b) = false) := Lib.hid (decide_eq_false fun e => hnm (by rw [e]))
    clear hnm
    go_enter Tryz.func16, Tryz.ntmps16
    go_wp2
    go_ret
    exact ⟨by rw [HC.out]; rfl, 0, rfl⟩
end Go.Proofs.YtplleaimmmanhaaGreatDoor
