/-
  append of one tree to a row of the call's own, whatever the other slice is; slices.Grow of none; slices.Concat.
  files.Diff: where two trees are unlike, by path.
  slices.Clone of a tree; rectoref14.Same.
  The document's own functions on paths: Parts, Check, Under, Clash: what they answer, at any text.
  path.Under, path.Clash.
  (Row).Same: whether two trees are one.
  slices.IndexFunc, slices.ContainsFunc at a tree, over whatever closure with one captured thing; the closures of (Row).Cut, (Row).Clear, (Row).refuses.
  slices.DeleteFunc on a tree of the call's own; (Row).without, Cut, Clear.
  A range over a function whose iterator keeps a state of its own in a captured cell: one law for the caller. It stands on the kit's laws for 'range over a function' (Derived.RangeFuncFrom and what it imports) and goes the way of 'wpIn_rangeFunc_ownF' there, with one block more that may turn: the captured one.
  strings.SplitSeq at a stroke: what the iterator hands out, one by one.
  goodByte and goodPart: what may be in a part of a path.
  path.Check: what is wrong with a text as a path.
-/
import Derived.Test.YtdmmjfmjohliiaaGreatDoorG1
import Derived.Laws.AppendOwnNone
import Derived.Lib.AppendZerosOnto
import Derived.Lib.SliceRun
import Derived.Lib.SplitLaws
import Derived.Laws.OwnMore
import Derived.Laws.Cover1
import Derived.Deep.RegionHeld3
import Derived.Deep.RegionWith
import Derived.WalkLawsBesides
import Derived.Outline
import Derived.Laws.Rows
import Derived.Deep.Draws
import Derived.RangeFuncNested
import Derived.RangeFuncBound
import Derived.RangeFuncCalls
import Derived.RangeFuncLeaves
import Derived.Shelf.Abstract
import Derived.Shelf.RegionOpen
import Derived.WalkKit
import Derived.OwnWalkIn
import Derived.TacticsInMore
import Derived.LoopNIn
import Derived.LoopIn
import Derived.Lib.IndexBytes
import Derived.Lib.Hide
import Derived.WalkSpells
import Derived.WalkSmall
import Derived.LoopTactic
import Derived.IntWalk
namespace Go.Proofs.YtdmmjfmjohliiaaGreatDoor
open Go.RowKit

theorem addr_block (ad : Addr) (n : Nat) : (ad.add n).block = ad.block := by unfold Addr.add; split <;> rfl
theorem addr_off (ad : Addr) (n : Nat) : (ad.add n).off = ad.off + n := by unfold Addr.add; split <;> simp_all
theorem adr_flat (ad : Addr) (i k j : Nat) : adr ad i k j = ad.add (i * k + j) := by
  cases j with
  | zero => rfl
  | succ j =>
    have h : ad.add (i * k + (j + 1)) = ⟨ad.block, ad.off + (i * k + (j + 1)), none⟩ := by unfold Addr.add; rw [if_neg (by omega)]
    rw [h]
    show (⟨(ad.add (i * k)).block, (ad.add (i * k)).off + (j + 1), none⟩ : Addr) = _
    rw [addr_block, addr_off]
    congr 1
    omega
theorem reads_flat {α : Type} {k : Nat} {enc : α → List Value} {w : World} {ad : Addr} {n c : Nat} {l : List α} (hk : ∀ x, (enc x).length = k) (h0 : 0 < k) (h : Reads k enc w (.slice (some ad) n c) l) : ∀ (j : Nat) (u : Value), (l.flatMap enc)[j]? = some u → w.cell? (ad.add j) = some u := fun j u hu => by
  have hj := (List.getElem?_eq_some_iff.1 hu).1
  rw [flat_len hk] at hj
  have hi : j / k < l.length := Nat.div_lt_of_lt_mul (by rw [Nat.mul_comm]; exact hj)
  have hm : j % k < k := Nat.mod_lt _ h0
  have hd : j / k * k + j % k = j := Nat.div_add_mod' j k
  obtain ⟨ad', ha, hc⟩ := h.at_ (List.getElem?_eq_getElem hi)
  obtain rfl := Option.some.inj ha
  have := hc (j % k) u (by rw [← flat_at hk l (j / k) (j % k) _ (List.getElem?_eq_getElem hi) hm, hd]; exact hu)
  rw [adr_flat, hd] at this
  exact this
theorem cF_one (l : List Fl) : ∀ u ∈ l.flatMap cF, u.oneCell' = true := fun u hu => by
  obtain ⟨f, _, hf⟩ := List.mem_flatMap.1 hu
  simp [cF] at hf
  rcases hf with rfl | rfl | rfl <;> rfl

theorem run_append_files (w : World) (ty : TypeId) (base : Nat) (v : Value) (xs ys : List Fl) (hown : w.ownsRow base 56 3 v xs.length (xs.flatMap cF)) (A : Option Addr) (m c : Nat) (h : Reads 3 cF w (.slice A m c) ys) (hl : xs.length + ys.length ≤ 1000000) (hbase : base ≤ w.heap.size) :
    ∃ A' c' w', (Builtin.append_ #[23, 23] ty #[v, .slice A m c]).run Tryz.prog w = .ok (.slice A' (xs ++ ys).length c') w' ∧ w'.ownsRow base 56 3 (.slice A' (xs ++ ys).length c') (xs ++ ys).length ((xs ++ ys).flatMap cF) ∧ Below base w w' ∧ w.grownBy w' v.ownBlock := by
  obtain ⟨i0, hi, hz0, hz1, hz2⟩ := info_parts fileInfo
  obtain ⟨hm, hmc, hcm⟩ := h.len
  cases A with
  | none =>
    obtain ⟨A', c', hv, h1, h2, h3, h4⟩ := h
    injection hv with e1 e2 e3
    subst e1; subst e3
    have hc := h3 rfl
    subst hc
    have hm0 : m = 0 := by omega
    subst hm0
    have : ys = [] := List.eq_nil_of_length_eq_zero (by omega)
    subst this
    obtain ⟨A', c', rfl⟩ := own_form hown
    have hr := run_append_owned_none (P := Tryz.prog) (w := w) base 23 ty 56 i0 3 Tryz.underlying23 hi _ _ _ hown
    rw [List.append_nil]
    exact ⟨A', c', w, hr, hown, Below.refl _ _, World.grownBy.refl _ _⟩
  | some ad =>
    obtain ⟨v', w', hr, ho, hg, _⟩ := run_append_own (P := Tryz.prog) w base 23 ty 56 i0 (.agg #[.string ⟨#[]⟩, .int .i64 0, .string ⟨#[]⟩]) 3 40 Tryz.underlying23 hi hz0 hz1 hz2 rfl (by decide) v xs.length (xs.flatMap cF) hown ad m c (ys.flatMap cF) (by rw [flat_len cF_len, hm]) (reads_flat cF_len (by decide) h) (cF_one ys) (by unfold maxLen; omega) (by omega) hbase
    have ho2 : w'.ownsRow base 56 3 v' (xs ++ ys).length ((xs ++ ys).flatMap cF) := by rw [List.length_append, List.flatMap_append, ← hm]; exact ho
    obtain ⟨A', c', rfl⟩ := own_form ho2
    exact ⟨A', c', w', hr, ho2, (Below.refl base w).grown hg hbase fun k hk => (hown.lt k hk).1, hg⟩

theorem wpList_append_files (w : World) {ops : Array Oper} {rest : List Oper} {o : Oper} {a : Act} {Q : Exit → Act → World → Prop} (hgd : o.guard = none) (s x : Operand)
    (ho : o.op = .call { callee := .builtin .append, args := #[s, x], argTypes := #[23, 23] })
    (base : Nat) (v : Value) (xs ys : List Fl) (hs : a.eval s = v) (hown : w.ownsRow base 56 3 v xs.length (xs.flatMap cF)) (A : Option Addr) (m c : Nat) (hx : a.eval x = .slice A m c) (h : Reads 3 cF w (.slice A m c) ys) (hl : xs.length + ys.length ≤ 1000000) (hbase : base ≤ w.heap.size)
    (hk : ∀ A' c' w', w'.ownsRow base 56 3 (.slice A' (xs ++ ys).length c') (xs ++ ys).length ((xs ++ ys).flatMap cF) → Below base w w' → w.grownBy w' v.ownBlock → wpList Tryz.prog ops Q rest (a.put o.dst (.slice A' (xs ++ ys).length c')) w') : wpList Tryz.prog ops Q (o :: rest) a w := by
  obtain ⟨A', c', w', hr, h2, h3, h4⟩ := run_append_files w o.type base v xs ys hown A m c h hl hbase
  exact Lib.wpList_append_run w hgd s x _ _ ho _ _ hs hx _ _ hr (hk A' c' w' h2 h3 h4)

set_option maxHeartbeats 1000000 in
theorem grow_none (w : World) : Calls Tryz.prog 118 #[.slice none 0 0, .int .i64 0] w fun e w' => e = .returned (.slice none 0 0) ∧ w' = w := by
  go_enter Tryz.func118, Tryz.ntmps118
  go_wp2
  go_ret
  exact ⟨rfl, rfl⟩

def NoneTo (w : World) (e : Ending) (w' : World) : Prop := ∃ A c, e = .returned (.slice A 0 c) ∧ w'.ownsRow w.heap.size 56 3 (.slice A 0 c) 0 [] ∧ Below w.heap.size w w'
set_option maxHeartbeats 2000000 in
theorem grow_any (w : World) (n : Nat) (hn : n ≤ 1000000) : Calls Tryz.prog 118 #[.slice none 0 0, .int .i64 n] w (NoneTo w) := by
  rcases Nat.eq_zero_or_pos n with h0 | h0
  · subst h0
    refine (grow_none w).mono ?_
    rintro e w' ⟨he, hw⟩
    subst hw
    exact ⟨none, 0, he, World.ownsRow_nil _ _ _ _, Below.refl _ _⟩
  · obtain ⟨i0, hi, hz0, hz1, hz2⟩ := info_parts fileInfo
    obtain ⟨G, hG⟩ : ∃ G, G = grownCap w n 0 56 := ⟨_, rfl⟩
    have hGn : n ≤ G := by rw [hG]; exact grownCap_ge w _ _ _
    have hGm : G ≤ maxLen := by
      have := grownCap_le_maxLen w n 0 56 (by unfold maxLen; omega)
      rw [← hG] at this
      exact this
    obtain ⟨ROW, hROW⟩ : ∃ ROW : Array Value, ROW = #[] ++ Builtin.zeroCells (Value.agg #[.string ⟨#[]⟩, .int .i64 0, .string ⟨#[]⟩]).cells n ++ Builtin.zeroCells (Value.agg #[.string ⟨#[]⟩, .int .i64 0, .string ⟨#[]⟩]).cells (G - n) := ⟨_, rfl⟩
    have hRs : ROW.size = G * 3 := by
      rw [hROW, Array.size_append, Array.size_append, size_zeroCells, size_zeroCells]
      show 0 + n * 3 + (G - n) * 3 = G * 3
      omega
    have hold : (Builtin.firstCells i0.size 0 (.slice none 0 0)).run Tryz.prog w.drew = .ok ([] : List Value).toArray w.drew := by simp [Builtin.firstCells, Sem.run_pure]
    have hrz : ∀ ty, (Builtin.append_ #[23, 3] ty #[.slice none 0 0, .int .i64 (n : Int)]).run Tryz.prog w = .ok (.slice (some ⟨w.heap.size, 0, none⟩) n G) (w.drew.alloc (.cells ROW 56)) := fun ty => by
      have h := Lib.run_append_grow_zeros w 23 3 ty 56 i0 _ .i64 .i64 Tryz.underlying23 Tryz.underlying3 hi hz0 none 0 0 [] hold n h0 (by omega) (by omega) (by omega) (by rw [hz2]; omega) (by rw [hz2]; exact growslice_fits (by omega) (by omega))
      rw [Nat.zero_add] at h
      rw [hROW, hG]
      exact h
    have hb : (0 : Int) < (n : Int) := by omega
    have hnn : ¬ (n : Int) < 0 := by omega
    have hsub : IntKind.i64.wrap ((n : Int) - 0) = (n : Int) := by rw [IntKind.wrap_i64] <;> omega
    have O := Lib.hid (show (w.drew.alloc (.cells ROW 56)).ownsRow w.heap.size 56 3 (.slice (some ⟨w.heap.size, 0, none⟩) 0 G) 0 [] from World.ownsRow_made w.drew ROW G (Nat.le_refl _) hGm hRs)
    have B := Lib.hid (show Below w.heap.size w (w.drew.alloc (.cells ROW 56)) from ((Below.refl _ _).drew).alloc (Nat.le_refl _) _)
    have hGm2 : G ≤ 9223372036854775807 := by unfold maxLen at hGm; omega
    clear hROW hG hRs hold hi hz0 hz1 hz2 hGm
    go_enter Tryz.func118, Tryz.ntmps118
    go_wp2_with (at_builtin; refine Lib.wpList_append_run _ rfl _ _ _ _ rfl _ _ rfl rfl _ _ (hrz _) ?_)
    go_ret
    exact ⟨_, _, rfl, O.out, B.out⟩
end Go.Proofs.YtdmmjfmjohliiaaGreatDoor
namespace Go.Proofs.YtdmmjfmjohliiaaGreatDoor
open Go.RowKit

/-- The cells of a difference. -/
def whB (n : Int) : ByteArray := ⟨#[UInt8.ofNat n.toNat]⟩
def cD (x : Dl) : List Value := [.string x.1, .string (whB x.2)]
theorem cD_len (x : Dl) : (cD x).length = 2 := rfl
theorem deltaInfo : (Tryz.prog.info? 127).map (fun i => (i.zero, i.size, i.bytes)) = some (some (.agg #[.string ⟨#[]⟩, .string ⟨#[]⟩]), 2, 32) := by kernel_rfl
theorem pathsR_two (v u : Value) (a b : List Fl) : nrm (pathsR [(v, a), (u, b)]) = paths2 a b := by simp [pathsR, paths2]
theorem trees_two {w : World} {v u : Value} {a b : List Fl} (h : Reads 3 cF w v a) (g : Reads 3 cF w u b) : Trees (w.alloc (.cells #[v, u] 23)) ⟨w.heap.size, 0, none⟩ [(v, a), (u, b)] := fun i r hr => by
  match i, hr with
  | 0, hr => obtain rfl := Option.some.inj hr; exact ⟨cell_of_row _ _ 0 _ 23 (0, 0) (heap_alloc_new w _), h.alloc _⟩
  | 1, hr => obtain rfl := Option.some.inj hr; exact ⟨cell_of_row _ _ 1 _ 23 (0, 0) (heap_alloc_new w _), g.alloc _⟩
  | i + 2, hr => simp at hr
/-- files.Paths of two trees. -/
theorem paths_two (w : World) (v u : Value) (a b : List Fl) (h : Reads 3 cF w v a) (g : Reads 3 cF w u b) (ha : a.length ≤ 10000) (hb : b.length ≤ 10000) :
    Calls Tryz.prog 116 #[.slice (some ⟨w.heap.size, 0, none⟩) 2 2] (w.alloc (.cells #[v, u] 23)) (TextsTo (paths2 a b) (w.alloc (.cells #[v, u] 23))) := by
  have := paths_any _ ⟨w.heap.size, 0, none⟩ 2 [(v, a), (u, b)] (trees_two h g) (by simp) (by simp [pathsR]; omega)
  rw [pathsR_two] at this
  exact this
theorem isSome_of {a b : List Fl} {p : ByteArray} (h : p ∈ paths2 a b) (hn : (getF a p).isSome = false) : (getF b p).isSome = true := by
  rw [paths2_mem] at h
  have key : ∀ {l : List Fl}, p ∈ l.map (·.1) → (getF l p).isSome = true := fun {l} hm => by
    obtain ⟨f, hf, he⟩ := List.mem_map.1 hm
    unfold getF
    rw [List.find?_isSome]
    exact ⟨f, hf, by simpa using he⟩
  rcases h with h | h
  · rw [key h] at hn; cases hn
  · exact key h
theorem unl_add {x y : Option Fl} (h1 : x.isSome = false) (h2 : y.isSome = true) : unl x y = 65 := by cases x <;> cases y <;> simp_all [unl]
theorem unl_del {x y : Option Fl} (h1 : x.isSome = true) (h2 : y.isSome = false) : unl x y = 68 := by cases x <;> cases y <;> simp_all [unl]
theorem unl_yes {x y : Option Fl} (h1 : x.isSome = true) (h2 : y.isSome = true) (h : flZ x = flZ y) : unl x y = 32 := by cases x <;> cases y <;> simp_all [unl, flZ]
theorem unl_mod {x y : Option Fl} (h1 : x.isSome = true) (h2 : y.isSome = true) (h : flZ x ≠ flZ y) : unl x y = 77 := by cases x <;> cases y <;> simp_all [unl, flZ]

set_option maxRecDepth 100000 in
set_option maxHeartbeats 8000000 in
theorem diff_any (w : World) (v u : Value) (a b : List Fl) (h : Reads 3 cF w v a) (g : Reads 3 cF w u b) (ra : RiseF a) (rb : RiseF b) (ha : a.length ≤ 10000) (hb : b.length ≤ 10000) :
    Calls Tryz.prog 79 #[v, u] w (OwnTo 127 2 cD (diffF a b) w) := by
  have PT := Lib.hid (paths_two w v u a b h g ha hb)
  have HD := Lib.hid (show diffF a b = diffOf (fun p => unl (getF a p) (getF b p)) (paths2 a b) from rfl)
  have HI := Lib.hid fun p (hp : p ∈ paths2 a b) => @isSome_of a b p hp
  have G1 := Lib.hid fun W (hW : Below w.heap.size w W) p => get_any W v a p (h.below hW) ra (by omega)
  have G2 := Lib.hid fun W (hW : Below w.heap.size w W) p => get_any W u b p (g.below hW) rb (by omega)
  have LP := paths2_len a b
  obtain ⟨A, c, rfl⟩ := h.form
  obtain ⟨A2, c2, rfl⟩ := g.form
  obtain ⟨ps, hps⟩ : ∃ ps, ps = paths2 a b := ⟨_, rfl⟩
  obtain ⟨fL, hfL⟩ : ∃ f, f = fun p => unl (getF a p) (getF b p) := ⟨_, rfl⟩
  have FP := Lib.hid (show ∀ p, fL p = unl (getF a p) (getF b p) from fun p => by rw [hfL])
  rw [← hps] at PT HD HI LP
  rw [← hfL] at HD
  obtain ⟨i0, hi, hz0, hz1, hz2⟩ := info_parts deltaInfo
  have hpm : ps.length ≤ 20000 := by omega
  have B1 : Below w.heap.size w (w.alloc (.cells #[.slice A a.length c, .slice A2 b.length c2] 23)) := (Below.refl _ _).alloc (Nat.le_refl _) _
  clear h g ra rb hps hfL LP
  go_enter Tryz.func79, Tryz.ntmps79
  go_wp2_with fail
  refine PT.out.mono ?_
  rintro e w1 ⟨v1, rfl, o1, b1⟩
  have B2 := Lib.hid (B1.trans (b1.mono B1.size))
  have RP := Lib.hid (Strs.of_own o1 rfl)
  obtain ⟨A1, c1, rfl⟩ := own_form o1
  clear o1 b1 PT B1
  go_wp2_with fail
  obtain ⟨wo, hwo⟩ : ∃ wo, wo = w1 := ⟨_, rfl⟩
  subst hwo
  go_loopw [5, 17] (fun s5 s17 wr => ∃ (k : Nat) (acc : List Dl), k ≤ ps.length ∧ s17 = .int .i64 k ∧ Hid (acc = diffOf fL (ps.take k)) ∧ Hid (wr.ownsRow wo.heap.size 127 2 s5 acc.length (acc.flatMap cD)) ∧ Below wo.heap.size wo wr) (fun _ s17 _ => ps.length - (intOf s17).toNat)
  case atStart => exact ⟨0, [], Nat.zero_le _, rfl, Lib.hid rfl, Lib.hid (World.ownsRow_nil _ _ _ _), Below.refl _ _⟩
  case round =>
    obtain ⟨k, acc, hk, rfl, hacc, hown, hb⟩ := hrel
    by_cases hlt : k < ps.length
    · obtain ⟨ad, p, rfl, hp, c0⟩ := strs_at RP.out hlt
      have c0' := (hb.cell (World.block_lt_of_cell? _ _ c0)).trans c0
      have HT := Lib.hid (show diffOf fL (ps.take (k + 1)) = acc ++ (if fL p ≠ 32 then [(p, fL p)] else []) by rw [take_snoc hp, diffOf_snoc, hacc.out])
      have hsl : acc.length ≤ 20000 := by
        rw [hacc.out]
        exact Nat.le_trans (diffOf_len _ _) (by rw [List.length_take]; omega)
      have HIp := Lib.hid (HI.out p (List.mem_of_getElem? hp))
      have hbs := hb.size
      have BW := Lib.hid (B2.out.trans (hb.mono B2.out.size))
      have GA := Lib.hid (G1.out wr BW.out p)
      have GB := Lib.hid fun W (hW : Below wr.heap.size wr W) => G2.out W (BW.out.trans (hW.mono BW.out.size)) p
      have FPp := Lib.hid (FP.out p)
      obtain ⟨oa, hoa⟩ : ∃ o, o = getF a p := ⟨_, rfl⟩
      obtain ⟨ob, hob⟩ : ∃ o, o = getF b p := ⟨_, rfl⟩
      rw [← hoa] at GA FPp HIp
      rw [← hob] at GB FPp HIp
      unfold Got at GA GB
      simp only [gotV_flZ] at GA GB
      obtain ⟨x, hx⟩ : ∃ x, x = flZ oa := ⟨_, rfl⟩
      obtain ⟨y, hy⟩ : ∃ y, y = flZ ob := ⟨_, rfl⟩
      obtain ⟨xa, hxa⟩ : ∃ q, q = oa.isSome := ⟨_, rfl⟩
      obtain ⟨xb, hxb⟩ : ∃ q, q = ob.isSome := ⟨_, rfl⟩
      have HX := Lib.hid hx
      have HY := Lib.hid hy
      have HXA := Lib.hid hxa
      have HXB := Lib.hid hxb
      rw [← hx, ← hxa] at GA
      rw [← hy, ← hxb] at GB
      obtain ⟨x1, x2, x3⟩ := x
      obtain ⟨y1, y2, y3⟩ := y
      have k0 : (0 : Int) ≤ (k : Int) := Int.natCast_nonneg _
      have k1 : (k : Int) < (ps.length : Int) := by omega
      clear hp c0 hoa hob hx hy hxa hxb hacc
      go_wp2_with fail
      refine GA.out.mono ?_
      rintro e w2 ⟨rfl, b2⟩
      have b2' := b2.alloc b2.size (.cells #[.string x1, .int .i64 x2, .string x3] 56)
      go_wp2_with fail
      refine (GB.out _ b2').mono ?_
      rintro e w3 ⟨rfl, b3⟩
      have K1 := (b3.block w2.heap.size (by simp)).trans (heap_alloc_new w2 (.cells #[.string x1, .int .i64 x2, .string x3] 56))
      have B3 := b2'.trans (b3.mono b2'.size)
      have hlt2 : w2.heap.size + 1 ≤ w3.heap.size := by simpa using b3.size
      obtain ⟨g, hg⟩ : ∃ g, g = w2.heap.size := ⟨_, rfl⟩
      rw [← hg] at K1 hlt2
      have d0 := cell_of_row w3 g 0 _ 56 (0, 0) K1
      have d1 := cell_of_row w3 g 1 _ 56 (0, 0) K1
      have d2 := cell_of_row w3 g 2 _ 56 (0, 0) K1
      have B4 := hb.trans (B3.mono hbs)
      have Ob := Lib.hid (own_keep hown.out B3)
      have B4s := B4.size
      have hcl : g < w3.heap.size := by omega
      rw [← hg]
      clear K1 B3 b2 b2' b3 hlt2 hown hb hbs c0' GA GB hg
      cases xa with
      | false =>
        have HV := Lib.hid (show fL p = 65 from FPp.out.trans (unl_add HXA.out.symm (HIp.out HXA.out.symm)))
        clear HX HY
        have HK := Lib.hid (show diffOf fL (ps.take (k + 1)) = acc ++ [(p, 65)] by rw [HT.out, if_pos (by rw [HV.out]; decide), HV.out])
        have own4 := (Ob.out.alloc (.cells #[.string y1, .int .i64 y2, .string y3] 56)).alloc (.cells #[.string p, .string ⟨#[65]⟩] 127)
        have news4 := news_one (w3.alloc (.cells #[.string y1, .int .i64 y2, .string y3] 56)) #[.string p, .string ⟨#[65]⟩] 127 (w3.heap.size + 1) (by simp)
        go_wp2_with (at_builtin; refine wpList_append_own _ rfl _ _ 124 rfl wo.heap.size 127 i0 (.agg #[.string ⟨#[]⟩, .string ⟨#[]⟩]) 2 32 Tryz.underlying124 hi hz0 hz1 hz2 rfl (by decide) _ _ _ rfl own4 ⟨w3.heap.size + 1, 0, none⟩ 1 1 [.string p, .string ⟨#[65]⟩] rfl rfl news4 (by simp [Value.oneCell']) (by unfold maxLen; omega) (by omega) (by simp; omega) ?_; intro v5 w5 own5 hg5 _)
        have b5 : Below wo.heap.size wo w5 := ((B4.alloc B4s _).alloc (by simp; omega) _).grown hg5 (by simp; omega) (fun k hk => (Ob.out.lt k hk).1)
        clear news4 own4 hg5
        go_roundw
        case rel => exact ⟨k + 1, acc ++ [(p, 65)], by omega, by go_num, Lib.hid HK.out.symm, Lib.hid (by rw [List.length_append, flat_snoc]; exact own5), b5⟩
        case measure => simp [intOf]; omega
      | true =>
        cases xb with
        | false =>
          have HV := Lib.hid (show fL p = 68 from FPp.out.trans (unl_del HXA.out.symm HXB.out.symm))
          clear HX HY
          have HK := Lib.hid (show diffOf fL (ps.take (k + 1)) = acc ++ [(p, 68)] by rw [HT.out, if_pos (by rw [HV.out]; decide), HV.out])
          have own4 := (Ob.out.alloc (.cells #[.string y1, .int .i64 y2, .string y3] 56)).alloc (.cells #[.string p, .string ⟨#[68]⟩] 127)
          have news4 := news_one (w3.alloc (.cells #[.string y1, .int .i64 y2, .string y3] 56)) #[.string p, .string ⟨#[68]⟩] 127 (w3.heap.size + 1) (by simp)
          go_wp2_with (at_builtin; refine wpList_append_own _ rfl _ _ 124 rfl wo.heap.size 127 i0 (.agg #[.string ⟨#[]⟩, .string ⟨#[]⟩]) 2 32 Tryz.underlying124 hi hz0 hz1 hz2 rfl (by decide) _ _ _ rfl own4 ⟨w3.heap.size + 1, 0, none⟩ 1 1 [.string p, .string ⟨#[68]⟩] rfl rfl news4 (by simp [Value.oneCell']) (by unfold maxLen; omega) (by omega) (by simp; omega) ?_; intro v5 w5 own5 hg5 _)
          have b5 : Below wo.heap.size wo w5 := ((B4.alloc B4s _).alloc (by simp; omega) _).grown hg5 (by simp; omega) (fun k hk => (Ob.out.lt k hk).1)
          clear news4 own4 hg5
          go_roundw
          case rel => exact ⟨k + 1, acc ++ [(p, 68)], by omega, by go_num, Lib.hid HK.out.symm, Lib.hid (by rw [List.length_append, flat_snoc]; exact own5), b5⟩
          case measure => simp [intOf]; omega
        | true =>
          by_cases h1 : x1 = y1
          · subst h1
            by_cases h2 : x2 = y2
            · subst h2
              by_cases h3 : x3 = y3
              · subst h3
                have HV := Lib.hid (show fL p = 32 from FPp.out.trans (unl_yes HXA.out.symm HXB.out.symm (by rw [← HX.out, ← HY.out])))
                have HK := Lib.hid (show diffOf fL (ps.take (k + 1)) = acc by rw [HT.out, if_neg (by rw [HV.out]; decide), List.append_nil])
                clear HX HY
                go_wp2_with fail
                go_roundw
                case rel => exact ⟨k + 1, acc, by omega, by go_num, Lib.hid HK.out.symm, Lib.hid (Ob.out.alloc _), B4.alloc B4s _⟩
                case measure => simp [intOf]; omega
              · have n3 : ¬ x3.toList = y3.toList := fun e => h3 (tl_eq e)
                have n3' : (x3.toList == y3.toList) = false := by simpa using n3
                have HV := Lib.hid (show fL p = 77 from FPp.out.trans (unl_mod HXA.out.symm HXB.out.symm (by rw [← HX.out, ← HY.out]; exact fun e => h3 (congrArg (fun z => z.2.2) e))))
                clear HX HY
                clear h3
                have HK := Lib.hid (show diffOf fL (ps.take (k + 1)) = acc ++ [(p, 77)] by rw [HT.out, if_pos (by rw [HV.out]; decide), HV.out])
                have own4 := (Ob.out.alloc (.cells #[.string x1, .int .i64 x2, .string y3] 56)).alloc (.cells #[.string p, .string ⟨#[77]⟩] 127)
                have news4 := news_one (w3.alloc (.cells #[.string x1, .int .i64 x2, .string y3] 56)) #[.string p, .string ⟨#[77]⟩] 127 (w3.heap.size + 1) (by simp)
                go_wp2_with (at_builtin; refine wpList_append_own _ rfl _ _ 124 rfl wo.heap.size 127 i0 (.agg #[.string ⟨#[]⟩, .string ⟨#[]⟩]) 2 32 Tryz.underlying124 hi hz0 hz1 hz2 rfl (by decide) _ _ _ rfl own4 ⟨w3.heap.size + 1, 0, none⟩ 1 1 [.string p, .string ⟨#[77]⟩] rfl rfl news4 (by simp [Value.oneCell']) (by unfold maxLen; omega) (by omega) (by simp; omega) ?_; intro v5 w5 own5 hg5 _)
                have b5 : Below wo.heap.size wo w5 := ((B4.alloc B4s _).alloc (by simp; omega) _).grown hg5 (by simp; omega) (fun k hk => (Ob.out.lt k hk).1)
                clear news4 own4 hg5
                go_roundw
                case rel => exact ⟨k + 1, acc ++ [(p, 77)], by omega, by go_num, Lib.hid HK.out.symm, Lib.hid (by rw [List.length_append, flat_snoc]; exact own5), b5⟩
                case measure => simp [intOf]; omega
            · have n2' : (x2 == y2) = false := by simpa using h2
              have HV := Lib.hid (show fL p = 77 from FPp.out.trans (unl_mod HXA.out.symm HXB.out.symm (by rw [← HX.out, ← HY.out]; exact fun e => h2 (congrArg (fun z => z.2.1) e))))
              clear HX HY
              have HK := Lib.hid (show diffOf fL (ps.take (k + 1)) = acc ++ [(p, 77)] by rw [HT.out, if_pos (by rw [HV.out]; decide), HV.out])
              have own4 := (Ob.out.alloc (.cells #[.string x1, .int .i64 y2, .string y3] 56)).alloc (.cells #[.string p, .string ⟨#[77]⟩] 127)
              have news4 := news_one (w3.alloc (.cells #[.string x1, .int .i64 y2, .string y3] 56)) #[.string p, .string ⟨#[77]⟩] 127 (w3.heap.size + 1) (by simp)
              go_wp2_with (at_builtin; refine wpList_append_own _ rfl _ _ 124 rfl wo.heap.size 127 i0 (.agg #[.string ⟨#[]⟩, .string ⟨#[]⟩]) 2 32 Tryz.underlying124 hi hz0 hz1 hz2 rfl (by decide) _ _ _ rfl own4 ⟨w3.heap.size + 1, 0, none⟩ 1 1 [.string p, .string ⟨#[77]⟩] rfl rfl news4 (by simp [Value.oneCell']) (by unfold maxLen; omega) (by omega) (by simp; omega) ?_; intro v5 w5 own5 hg5 _)
              have b5 : Below wo.heap.size wo w5 := ((B4.alloc B4s _).alloc (by simp; omega) _).grown hg5 (by simp; omega) (fun k hk => (Ob.out.lt k hk).1)
              clear news4 own4 hg5
              go_roundw
              case rel => exact ⟨k + 1, acc ++ [(p, 77)], by omega, by go_num, Lib.hid HK.out.symm, Lib.hid (by rw [List.length_append, flat_snoc]; exact own5), b5⟩
              case measure => simp [intOf]; omega
          · have n1 : ¬ x1.toList = y1.toList := fun e => h1 (tl_eq e)
            have n1' : (x1.toList == y1.toList) = false := by simpa using n1
            have HV := Lib.hid (show fL p = 77 from FPp.out.trans (unl_mod HXA.out.symm HXB.out.symm (by rw [← HX.out, ← HY.out]; exact fun e => h1 (congrArg (fun z => z.1) e))))
            clear HX HY
            clear h1
            have HK := Lib.hid (show diffOf fL (ps.take (k + 1)) = acc ++ [(p, 77)] by rw [HT.out, if_pos (by rw [HV.out]; decide), HV.out])
            have own4 := (Ob.out.alloc (.cells #[.string y1, .int .i64 y2, .string y3] 56)).alloc (.cells #[.string p, .string ⟨#[77]⟩] 127)
            have news4 := news_one (w3.alloc (.cells #[.string y1, .int .i64 y2, .string y3] 56)) #[.string p, .string ⟨#[77]⟩] 127 (w3.heap.size + 1) (by simp)
            go_wp2_with (at_builtin; refine wpList_append_own _ rfl _ _ 124 rfl wo.heap.size 127 i0 (.agg #[.string ⟨#[]⟩, .string ⟨#[]⟩]) 2 32 Tryz.underlying124 hi hz0 hz1 hz2 rfl (by decide) _ _ _ rfl own4 ⟨w3.heap.size + 1, 0, none⟩ 1 1 [.string p, .string ⟨#[77]⟩] rfl rfl news4 (by simp [Value.oneCell']) (by unfold maxLen; omega) (by omega) (by simp; omega) ?_; intro v5 w5 own5 hg5 _)
            have b5 : Below wo.heap.size wo w5 := ((B4.alloc B4s _).alloc (by simp; omega) _).grown hg5 (by simp; omega) (fun k hk => (Ob.out.lt k hk).1)
            clear news4 own4 hg5
            go_roundw
            case rel => exact ⟨k + 1, acc ++ [(p, 77)], by omega, by go_num, Lib.hid HK.out.symm, Lib.hid (by rw [List.length_append, flat_snoc]; exact own5), b5⟩
            case measure => simp [intOf]; omega
    · obtain rfl : k = ps.length := by omega
      rw [List.take_length] at hacc
      have HB := Lib.hid (B2.out.trans (hb.mono B2.out.size))
      have HO := Lib.hid (own_base hown.out B2.out.size)
      clear hown hb
      go_wp2
      go_ret
      exact ⟨_, rfl, by rw [HD.out, ← hacc.out]; exact HO.out, HB.out⟩
end Go.Proofs.YtdmmjfmjohliiaaGreatDoor
namespace Go.Proofs.YtdmmjfmjohliiaaGreatDoor
open Go.RowKit

set_option maxHeartbeats 2000000 in
theorem cloneF_any (w : World) (v : Value) (l : List Fl) (h : Reads 3 cF w v l) (hl : l.length ≤ 100000) :
    Calls Tryz.prog 34 #[v] w (OwnTo 56 3 cF l w) := by
  have q : ∀ (w : World) (a : Option Addr) (n c n' c' : Nat), (binOp .eql 23 (.slice a n c) (.slice none n' c')).run Tryz.prog w = .ok (.bool a.isNone) w := fun w a n c n' c' => Lib.run_eql_slice_nil w _ _ a n c n' c' Tryz.underlying23
  obtain ⟨A, c, rfl⟩ := h.form
  have HR := Lib.hid h
  cases A with
  | none =>
    have h0 : l = [] := by
      obtain ⟨A', c', hv, h1, h2, h3, _⟩ := h
      injection hv with e1 e2 e3
      subst e1; subst e3
      have := h3 rfl
      exact List.eq_nil_of_length_eq_zero (by omega)
    subst h0
    clear h
    go_enter Tryz.func34, Tryz.ntmps34
    go_wp2
    go_ret
    exact ⟨_, rfl, World.ownsRow_nil _ _ _ _, Below.refl _ _⟩
  | some ad =>
    have hm : w.heap.size ≤ (w.alloc (.cells #[] 56)).heap.size := by simp
    have hll : ([] : List Fl).length + l.length ≤ 1000000 := by simp; omega
    have O0 := Lib.hid (show (w.alloc (.cells #[] 56)).ownsRow w.heap.size 56 3 (.slice (some ⟨w.heap.size, 0, none⟩) 0 0) ([] : List Fl).length (([] : List Fl).flatMap cF) from World.ownsRow_made w #[] 0 (Nat.le_refl _) (Nat.zero_le _) rfl)
    clear h
    go_enter Tryz.func34, Tryz.ntmps34
    go_wp2_with (at_builtin; refine wpList_append_files _ rfl _ _ rfl w.heap.size _ [] l rfl O0.out _ _ _ rfl (HR.out.alloc _) hll hm ?_; intro A' c' w5 own5 b5 hg5)
    rw [List.nil_append] at own5
    have O5 := Lib.hid own5
    have B5 := Lib.hid (Below.trans ((Below.refl _ _).alloc (Nat.le_refl _) (.cells #[] 56)) b5)
    clear own5 b5 hg5
    go_ret
    exact ⟨_, rfl, O5.out, B5.out⟩
end Go.Proofs.YtdmmjfmjohliiaaGreatDoor
namespace Go.Proofs.YtdmmjfmjohliiaaGreatDoor
open Go Go.RowKit

theorem ret_b {p q : Bool} (h : p = q) : Ending.returned (.bool p) = .returned (.bool q) := by rw [h]
def gbv (c : Int) : Bool := (decide (97 ≤ c) && decide (c ≤ 122)) || ((decide (48 ≤ c) && decide (c ≤ 57)) || (decide (c = 46) || (decide (c = 45) || decide (c = 95))))
/-- May it be a part of a path? -/
def gp (l : List UInt8) : Bool := !(l == []) && !(l == [46]) && !(l == [46, 46]) && l.all fun c => gbv (c.toNat : Int)
theorem gp_bad {l : List UInt8} {j : Nat} (h : j < l.length) (hb : gbv (l[j].toNat : Int) = false) : gp l = false := by
  have : l.all (fun c => gbv (c.toNat : Int)) = false := by
    rw [Bool.eq_false_iff]
    intro ha
    rw [List.all_eq_true] at ha
    rw [ha _ (List.getElem_mem h)] at hb
    cases hb
  unfold gp
  rw [this, Bool.and_false]
theorem gp_all {l : List UInt8} (h0 : l ≠ []) (h1 : l ≠ [46]) (h2 : l ≠ [46, 46]) (h : ∀ j (hj : j < l.length), gbv (l[j].toNat : Int) = true) : gp l = true := by
  have ha : l.all (fun c => gbv (c.toNat : Int)) = true := by
    rw [List.all_eq_true]
    intro x hx
    obtain ⟨j, hj, rfl⟩ := List.getElem_of_mem hx
    exact h j hj
  unfold gp
  rw [ha]
  simp [h0, h1, h2]
theorem bytes_eq {a b : ByteArray} (h : a.data.toList = b.data.toList) : a = b := by
  obtain ⟨⟨a⟩⟩ := a
  obtain ⟨⟨b⟩⟩ := b
  simpa using h
/-- A text cut at each stroke. -/
def spl : List UInt8 → List (List UInt8)
  | [] => [[]]
  | c :: r => if c = 47 then [] :: spl r else ((c :: (spl r).headD []) :: (spl r).tail)
theorem spl_ne : ∀ l : List UInt8, spl l ≠ []
  | [] => by simp [spl]
  | c :: r => by unfold spl; split <;> simp
theorem spl_len : ∀ l : List UInt8, (spl l).length ≤ l.length + 1
  | [] => by simp [spl]
  | c :: r => by
    have ih := spl_len r
    unfold spl
    split
    · simp; exact ih
    · simp; omega
/-- What Check says of a text. -/
def chk (l : List UInt8) : Int := if 64 < l.length then 4 else if l = [] then 5 else if (spl l).all gp then 0 else 5
theorem chk_long {l : List UInt8} (h : 64 < l.length) : chk l = 4 := if_pos h
theorem chk_empty : chk [] = 5 := rfl
theorem chk_good {l : List UInt8} (h : ¬ 64 < l.length) (h0 : l ≠ []) (ha : (spl l).all gp = true) : chk l = 0 := by unfold chk; rw [if_neg h, if_neg h0, if_pos ha]
theorem chk_bad {l : List UInt8} (h : ¬ 64 < l.length) (h0 : l ≠ []) (ha : (spl l).all gp = false) : chk l = 5 := by unfold chk; rw [if_neg h, if_neg h0, ha]; rfl
def Checked (s : ByteArray) (w : World) (e : Ending) (w' : World) : Prop := e = .returned (.int .i64 (chk s.data.toList)) ∧ Below w.heap.size w w'
theorem size_list (s : ByteArray) : s.data.toList.length = s.size := by rw [Array.length_toList]; rfl
theorem nil_of {s : ByteArray} (h : s.size = 0) : s = ⟨#[]⟩ := bytes_eq (List.eq_nil_of_length_eq_zero (by rw [size_list]; exact h))
theorem not_nil {s : ByteArray} (h : ¬ s.size = 0) : ¬ s.toList = [] ∧ s.toList.isEmpty = false := by
  have h1 : ¬ s.toList = [] := by
    rw [ByteArray.toList_eq]
    intro e
    have := size_list s
    rw [e] at this
    exact h this.symm
  exact ⟨h1, by rw [List.isEmpty_eq_false_iff]; exact h1⟩
/-- Does p lie in the folder d? -/
def und (p d : List UInt8) : Bool := if d = [] then !(p == []) else decide (d.length + 1 < p.length) && (p[d.length]? == some 47 && p.take d.length == d)
theorem und_root {p : List UInt8} (h : p ≠ []) : und p [] = true := by unfold und; rw [if_pos rfl]; simp [h]
theorem und_short {p d : List UInt8} (h : d ≠ []) (hl : ¬ d.length + 1 < p.length) : und p d = false := by unfold und; rw [if_neg h, decide_eq_false hl]; rfl
theorem und_long {p d : List UInt8} (h : d ≠ []) (hl : d.length + 1 < p.length) : und p d = (p[d.length]? == some 47 && p.take d.length == d) := by unfold und; rw [if_neg h, decide_eq_true hl]; rfl
set_option maxHeartbeats 1000000 in
theorem refUnder_any (p d : ByteArray) (w : World) (hp : p.size ≤ 1000000) (hd : d.size ≤ 1000000) : Calls Tryz.prog 96 #[.string p, .string d] w fun e w' => e = .returned (.bool (und p.data.toList d.data.toList)) ∧ w = w' := by
  by_cases hd0 : d.size = 0
  · obtain rfl := nil_of hd0
    by_cases hp0 : p.size = 0
    · obtain rfl := nil_of hp0
      go_enter Tryz.func96, Tryz.ntmps96
      go_wp2
      go_ret
      exact ⟨rfl, rfl⟩
    · obtain ⟨q1, q2⟩ := not_nil hp0
      have HU : Hid (und p.data.toList [] = true) := Lib.hid (und_root (by rw [← ByteArray.toList_eq]; exact q1))
      go_enter Tryz.func96, Tryz.ntmps96
      go_wp2
      go_ret
      exact ⟨ret_b HU.out.symm, rfl⟩
  · obtain ⟨q1, q2⟩ := not_nil hd0
    have hne : d.data.toList ≠ [] := by rw [← ByteArray.toList_eq]; exact q1
    by_cases hl : d.size + 1 < p.size
    · have hli : (d.size : Int) + 1 < (p.size : Int) := by omega
      have hli2 : (d.size : Int) < (p.size : Int) := by omega
      have hlt : d.size < p.size := by omega
      have hU := und_long (p := p.data.toList) hne (by rw [size_list, size_list]; exact hl)
      have hget : p.data.toList[d.data.toList.length]? = some p[d.size] := by rw [size_list]; exact List.getElem?_eq_getElem (by rw [size_list]; exact hlt)
      have htk : (p.extract 0 d.size).data.toList = p.data.toList.take d.data.toList.length := by rw [size_list]; exact Lib.extract_from_zero p d.size
      rw [hget, ← htk] at hU
      have HU := Lib.hid hU
      clear hU hget htk
      by_cases h47 : p[d.size] = 47
      · have b1 : ((p[d.size].toNat : Int) == 47) = true := by rw [h47]; rfl
        have b1' : (p[d.size].toNat : Int) = 47 := by rw [h47]; rfl
        by_cases he : p.extract 0 d.size = d
        · have c1 : (p.extract 0 d.size).toList = d.toList := by rw [he]
          have c2 : ((p.extract 0 d.size).toList == d.toList) = true := by rw [c1]; simp
          have HE : Hid (und p.data.toList d.data.toList = true) := by show und _ _ = true; rw [HU.out, h47, he]; simp
          clear HU h47 he
          go_enter Tryz.func96, Tryz.ntmps96
          go_wp2
          go_ret
          exact ⟨ret_b HE.out.symm, rfl⟩
        · have c1 : ¬ (p.extract 0 d.size).toList = d.toList := by rw [ByteArray.toList_eq, ByteArray.toList_eq]; exact fun e => he (bytes_eq e)
          have c2 : ((p.extract 0 d.size).toList == d.toList) = false := by rw [beq_eq_false_iff_ne]; exact c1
          have HE : Hid (und p.data.toList d.data.toList = false) := by
            show und _ _ = false
            rw [HU.out]
            have : ((p.extract 0 d.size).data.toList == d.data.toList) = false := by rw [beq_eq_false_iff_ne]; exact fun e => he (bytes_eq e)
            rw [this, Bool.and_false]
          clear HU h47 he
          go_enter Tryz.func96, Tryz.ntmps96
          go_wp2
          go_ret
          exact ⟨ret_b HE.out.symm, rfl⟩
      · have b1' : ¬ (p[d.size].toNat : Int) = 47 := fun e => h47 (UInt8.toNat_inj.1 (by show p[d.size].toNat = 47; omega))
        have b1 : ((p[d.size].toNat : Int) == 47) = false := by rw [beq_eq_false_iff_ne]; exact b1'
        have HE : Hid (und p.data.toList d.data.toList = false) := by
          show und _ _ = false
          rw [HU.out]
          have : (some p[d.size] == some (47 : UInt8)) = false := by rw [beq_eq_false_iff_ne]; exact fun e => h47 (Option.some.inj e)
          rw [this, Bool.false_and]
        clear HU h47
        by_cases he : (p.extract 0 d.size).toList = d.toList
        · have c2 : ((p.extract 0 d.size).toList == d.toList) = true := by rw [he]; simp
          go_enter Tryz.func96, Tryz.ntmps96
          go_wp2
          go_ret
          exact ⟨ret_b HE.out.symm, rfl⟩
        · have c2 : ((p.extract 0 d.size).toList == d.toList) = false := by rw [beq_eq_false_iff_ne]; exact he
          go_enter Tryz.func96, Tryz.ntmps96
          go_wp2
          go_ret
          exact ⟨ret_b HE.out.symm, rfl⟩
    · have hli : ¬ (d.size : Int) + 1 < (p.size : Int) := by omega
      have HE : Hid (und p.data.toList d.data.toList = false) := Lib.hid (und_short hne (by rw [size_list, size_list]; exact hl))
      go_enter Tryz.func96, Tryz.ntmps96
      go_wp2
      go_ret
      exact ⟨ret_b HE.out.symm, rfl⟩
theorem ret_i {a b : Int} (h : a = b) : Ending.returned (.int .i64 a) = .returned (.int .i64 b) := by rw [h]
def cls (a b : List UInt8) : Bool := !(a == []) && (!(b == []) && (und a b || und b a))
theorem cls_of {a b : List UInt8} (ha : a ≠ []) (hb : b ≠ []) : cls a b = (und a b || und b a) := by
  have h1 : (a == []) = false := by rw [beq_eq_false_iff_ne]; exact ha
  have h2 : (b == []) = false := by rw [beq_eq_false_iff_ne]; exact hb
  unfold cls
  rw [h1, h2]; rfl
set_option maxHeartbeats 1000000 in
theorem refClash_any (a b : ByteArray) (w : World) (ha : a.size ≤ 1000000) (hb : b.size ≤ 1000000) : Calls Tryz.prog 58 #[.string a, .string b] w fun e w' => e = .returned (.bool (cls a.data.toList b.data.toList)) ∧ w = w' := by
  by_cases ha0 : a.size = 0
  · obtain rfl := nil_of ha0
    go_enter Tryz.func58, Tryz.ntmps58
    go_wp2
    go_ret
    exact ⟨rfl, rfl⟩
  · obtain ⟨q1, q2⟩ := not_nil ha0
    have n1 : a.data.toList ≠ [] := by rw [← ByteArray.toList_eq]; exact q1
    by_cases hb0 : b.size = 0
    · obtain rfl := nil_of hb0
      have HE : Hid (cls a.data.toList [] = false) := by show cls _ [] = false; unfold cls; simp
      go_enter Tryz.func58, Tryz.ntmps58
      go_wp2
      go_ret
      exact ⟨ret_b HE.out.symm, rfl⟩
    · obtain ⟨q3, q4⟩ := not_nil hb0
      have n2 : b.data.toList ≠ [] := by rw [← ByteArray.toList_eq]; exact q3
      have HE : Hid (cls a.data.toList b.data.toList = (und a.data.toList b.data.toList || und b.data.toList a.data.toList)) := Lib.hid (cls_of n1 n2)
      have U1 := Lib.hid fun W => refUnder_any a b W ha hb
      have U2 := Lib.hid fun W => refUnder_any b a W hb ha
      generalize und a.data.toList b.data.toList = x at *
      generalize und b.data.toList a.data.toList = y at *
      cases x with
      | true =>
        go_enter Tryz.func58, Tryz.ntmps58
        go_wp2_with fail
        refine (U1.out _).mono ?_
        rintro e w' ⟨rfl, rfl⟩
        go_wp2_with fail
        go_ret
        exact ⟨ret_b HE.out.symm, rfl⟩
      | false =>
        go_enter Tryz.func58, Tryz.ntmps58
        go_wp2_with fail
        refine (U1.out _).mono ?_
        rintro e w' ⟨rfl, rfl⟩
        go_wp2_with fail
        refine (U2.out _).mono ?_
        rintro e w' ⟨rfl, rfl⟩
        go_wp2_with fail
        go_ret
        exact ⟨ret_b HE.out.symm, rfl⟩
/-- The world is as it was. -/
def SameW (a b : World) : Prop := a = b
end Go.Proofs.YtdmmjfmjohliiaaGreatDoor
namespace Go.Proofs.YtdmmjfmjohliiaaGreatDoor
open Go Go.RowKit
set_option maxHeartbeats 1000000 in
theorem under_any (p d : ByteArray) (w : World) (hp : p.size ≤ 1000000) (hd : d.size ≤ 1000000) : Calls Tryz.prog 95 #[.string p, .string d] w fun e w' => e = .returned (.bool (und p.data.toList d.data.toList)) ∧ w = w' := by
  by_cases hd0 : d.size = 0
  · obtain rfl := nil_of hd0
    by_cases hp0 : p.size = 0
    · obtain rfl := nil_of hp0
      go_enter Tryz.func95, Tryz.ntmps95
      go_wp2
      go_ret
      exact ⟨rfl, rfl⟩
    · obtain ⟨q1, q2⟩ := not_nil hp0
      have HU : Hid (und p.data.toList [] = true) := Lib.hid (und_root (by rw [← ByteArray.toList_eq]; exact q1))
      go_enter Tryz.func95, Tryz.ntmps95
      go_wp2
      go_ret
      exact ⟨ret_b HU.out.symm, rfl⟩
  · obtain ⟨q1, q2⟩ := not_nil hd0
    have hne : d.data.toList ≠ [] := by rw [← ByteArray.toList_eq]; exact q1
    by_cases hl : d.size + 1 < p.size
    · have hli : (d.size : Int) + 1 < (p.size : Int) := by omega
      have hli2 : (d.size : Int) < (p.size : Int) := by omega
      have hlt : d.size < p.size := by omega
      have hU := und_long (p := p.data.toList) hne (by rw [size_list, size_list]; exact hl)
      have hget : p.data.toList[d.data.toList.length]? = some p[d.size] := by rw [size_list]; exact List.getElem?_eq_getElem (by rw [size_list]; exact hlt)
      have htk : (p.extract 0 d.size).data.toList = p.data.toList.take d.data.toList.length := by rw [size_list]; exact Lib.extract_from_zero p d.size
      rw [hget, ← htk] at hU
      have HU := Lib.hid hU
      clear hU hget htk
      by_cases h47 : p[d.size] = 47
      · have b1 : ((p[d.size].toNat : Int) == 47) = true := by rw [h47]; rfl
        have b1' : (p[d.size].toNat : Int) = 47 := by rw [h47]; rfl
        by_cases he : p.extract 0 d.size = d
        · have c1 : (p.extract 0 d.size).toList = d.toList := by rw [he]
          have c2 : ((p.extract 0 d.size).toList == d.toList) = true := by rw [c1]; simp
          have HE : Hid (und p.data.toList d.data.toList = true) := by show und _ _ = true; rw [HU.out, h47, he]; simp
          clear HU h47 he
          go_enter Tryz.func95, Tryz.ntmps95
          go_wp2
          go_ret
          exact ⟨ret_b HE.out.symm, rfl⟩
        · have c1 : ¬ (p.extract 0 d.size).toList = d.toList := by rw [ByteArray.toList_eq, ByteArray.toList_eq]; exact fun e => he (bytes_eq e)
          have c2 : ((p.extract 0 d.size).toList == d.toList) = false := by rw [beq_eq_false_iff_ne]; exact c1
          have HE : Hid (und p.data.toList d.data.toList = false) := by
            show und _ _ = false
            rw [HU.out]
            have : ((p.extract 0 d.size).data.toList == d.data.toList) = false := by rw [beq_eq_false_iff_ne]; exact fun e => he (bytes_eq e)
            rw [this, Bool.and_false]
          clear HU h47 he
          go_enter Tryz.func95, Tryz.ntmps95
          go_wp2
          go_ret
          exact ⟨ret_b HE.out.symm, rfl⟩
      · have b1' : ¬ (p[d.size].toNat : Int) = 47 := fun e => h47 (UInt8.toNat_inj.1 (by show p[d.size].toNat = 47; omega))
        have b1 : ((p[d.size].toNat : Int) == 47) = false := by rw [beq_eq_false_iff_ne]; exact b1'
        have HE : Hid (und p.data.toList d.data.toList = false) := by
          show und _ _ = false
          rw [HU.out]
          have : (some p[d.size] == some (47 : UInt8)) = false := by rw [beq_eq_false_iff_ne]; exact fun e => h47 (Option.some.inj e)
          rw [this, Bool.false_and]
        clear HU h47
        by_cases he : (p.extract 0 d.size).toList = d.toList
        · have c2 : ((p.extract 0 d.size).toList == d.toList) = true := by rw [he]; simp
          go_enter Tryz.func95, Tryz.ntmps95
          go_wp2
          go_ret
          exact ⟨ret_b HE.out.symm, rfl⟩
        · have c2 : ((p.extract 0 d.size).toList == d.toList) = false := by rw [beq_eq_false_iff_ne]; exact he
          go_enter Tryz.func95, Tryz.ntmps95
          go_wp2
          go_ret
          exact ⟨ret_b HE.out.symm, rfl⟩
    · have hli : ¬ (d.size : Int) + 1 < (p.size : Int) := by omega
      have HE : Hid (und p.data.toList d.data.toList = false) := Lib.hid (und_short hne (by rw [size_list, size_list]; exact hl))
      go_enter Tryz.func95, Tryz.ntmps95
      go_wp2
      go_ret
      exact ⟨ret_b HE.out.symm, rfl⟩

set_option maxHeartbeats 1000000 in
theorem clash_any (a b : ByteArray) (w : World) (ha : a.size ≤ 1000000) (hb : b.size ≤ 1000000) : Calls Tryz.prog 55 #[.string a, .string b] w fun e w' => e = .returned (.bool (cls a.data.toList b.data.toList)) ∧ w = w' := by
  by_cases ha0 : a.size = 0
  · obtain rfl := nil_of ha0
    go_enter Tryz.func55, Tryz.ntmps55
    go_wp2
    go_ret
    exact ⟨rfl, rfl⟩
  · obtain ⟨q1, q2⟩ := not_nil ha0
    have n1 : a.data.toList ≠ [] := by rw [← ByteArray.toList_eq]; exact q1
    by_cases hb0 : b.size = 0
    · obtain rfl := nil_of hb0
      have HE : Hid (cls a.data.toList [] = false) := by show cls _ [] = false; unfold cls; simp
      go_enter Tryz.func55, Tryz.ntmps55
      go_wp2
      go_ret
      exact ⟨ret_b HE.out.symm, rfl⟩
    · obtain ⟨q3, q4⟩ := not_nil hb0
      have n2 : b.data.toList ≠ [] := by rw [← ByteArray.toList_eq]; exact q3
      have HE : Hid (cls a.data.toList b.data.toList = (und a.data.toList b.data.toList || und b.data.toList a.data.toList)) := Lib.hid (cls_of n1 n2)
      have U1 := Lib.hid fun W => under_any a b W ha hb
      have U2 := Lib.hid fun W => under_any b a W hb ha
      generalize und a.data.toList b.data.toList = x at *
      generalize und b.data.toList a.data.toList = y at *
      cases x with
      | true =>
        go_enter Tryz.func55, Tryz.ntmps55
        go_wp2_with fail
        refine (U1.out _).mono ?_
        rintro e w' ⟨rfl, rfl⟩
        go_wp2_with fail
        go_ret
        exact ⟨ret_b HE.out.symm, rfl⟩
      | false =>
        go_enter Tryz.func55, Tryz.ntmps55
        go_wp2_with fail
        refine (U1.out _).mono ?_
        rintro e w' ⟨rfl, rfl⟩
        go_wp2_with fail
        refine (U2.out _).mono ?_
        rintro e w' ⟨rfl, rfl⟩
        go_wp2_with fail
        go_ret
        exact ⟨ret_b HE.out.symm, rfl⟩

end Go.Proofs.YtdmmjfmjohliiaaGreatDoor
namespace Go.Proofs.YtdmmjfmjohliiaaGreatDoor
open Go.RowKit

def BoolTo (b : Bool) (w : World) (e : Ending) (w' : World) : Prop := e = .returned (.bool b) ∧ ∃ q, w' = w.drewN q

theorem prefix_all {α : Type} {a b : List α} {n : Nat} (h : ∀ i, i < n → a[i]? = b[i]?) (ha : a.length = n) (hb : b.length = n) : a = b := by
  apply List.ext_getElem?
  intro i
  by_cases hi : i < n
  · exact h i hi
  · rw [List.getElem?_eq_none (by omega), List.getElem?_eq_none (by omega)]

set_option maxHeartbeats 4000000 in
theorem equalF_any (w : World) (v u : Value) (a b : List Fl) (h : Reads 3 cF w v a) (g : Reads 3 cF w u b) :
    Calls Tryz.prog 64 #[v, u] w (BoolTo (decide (a = b)) w) := by
  obtain ⟨A, c, rfl⟩ := h.form
  obtain ⟨B, d, rfl⟩ := g.form
  have hn := h.len
  have gn := g.len
  have hm1 : a.length ≤ 9223372036854775807 := by have := hn.2; unfold maxLen at this; omega
  have hm2 : b.length ≤ 9223372036854775807 := by have := gn.2; unfold maxLen at this; omega
  have HA := Lib.hid h
  have HB := Lib.hid g
  clear h g hn gn
  by_cases hnm : a.length = b.length
  · have hi0 : (a.length : Int) = (b.length : Int) := by omega
    have HN := Lib.hid hnm
    clear hnm
    go_enter Tryz.func64, Tryz.ntmps64
    go_wp2
    go_loopw [5, 13] (fun _ s13 wr => ∃ k q : Nat, k ≤ b.length ∧ s13 = .int .i64 k ∧ Hid (∀ i, i < k → a[i]? = b[i]?) ∧ wr = w.drewN q) (fun _ s13 _ => b.length - (intOf s13).toNat)
    case atStart => exact ⟨0, 0, Nat.zero_le _, rfl, Lib.hid (fun i hi => absurd hi (Nat.not_lt_zero _)), rfl⟩
    case round =>
      obtain ⟨k, q, hk, rfl, hp, rfl⟩ := hrel
      by_cases hlt : k < b.length
      · obtain ⟨x, hx⟩ : ∃ x, a[k]? = some x := ⟨_, List.getElem?_eq_getElem (by rw [HN.out]; exact hlt)⟩
        obtain ⟨y, hy⟩ : ∃ y, b[k]? = some y := ⟨_, List.getElem?_eq_getElem hlt⟩
        obtain ⟨ad, rfl, c0, c1, c2⟩ := Fils.at_ HA.out hx
        obtain ⟨ad2, rfl, d0, d1, d2⟩ := Fils.at_ HB.out hy
        have HX := Lib.hid hx
        have HY := Lib.hid hy
        have k0 : (0 : Int) ≤ (k : Int) := Int.natCast_nonneg _
        have k1 : (k : Int) < (b.length : Int) := by omega
        have HNE := Lib.hid (show x ≠ y → decide (a = b) = false from fun hne => decide_eq_false fun e => by
          rw [e, hy] at hx
          exact hne (Option.some.inj hx).symm)
        clear hx hy
        by_cases hxy : x = y
        · subst hxy
          obtain ⟨p, m, s⟩ := x
          go_wp2_with fail
          go_quiet (fail)
          go_wp2
          go_roundw
          case rel => exact ⟨k + 1, _, by omega, by go_num, Lib.hid (fun i hi => by
            rcases Nat.lt_or_ge i k with h1 | h1
            · exact hp.out i h1
            · obtain rfl : i = k := by omega
              rw [HX.out, HY.out]), rfl⟩
          case measure => simp [intOf]; omega
        · have HC := Lib.hid (HNE.out hxy)
          obtain ⟨p, m, s⟩ := x
          obtain ⟨p', m', s'⟩ := y
          by_cases h1 : p = p'
          · subst h1
            by_cases h2 : m = m'
            · subst h2
              have h3 : ¬ s = s' := fun e => hxy (by rw [e])
              have e3 : ¬ s.toList = s'.toList := fun e => h3 (tl_eq e)
              have e3' : (s.toList == s'.toList) = false := by simpa using e3
              clear h3 hxy
              go_wp2_with fail
              go_quiet (fail)
              go_wp2
              go_ret
              exact ⟨by rw [HC.out]; rfl, _, drewN_two _ _ _⟩
            · have e2' : (m == m') = false := by simpa using h2
              clear hxy
              go_wp2_with fail
              go_quiet (fail)
              go_wp2
              go_ret
              exact ⟨by rw [HC.out]; rfl, _, drewN_two _ _ _⟩
          · have e1 : ¬ p.toList = p'.toList := fun e => h1 (tl_eq e)
            have e1' : (p.toList == p'.toList) = false := by simpa using e1
            clear hxy h1
            go_wp2_with fail
            go_quiet (fail)
            go_wp2
            go_ret
            exact ⟨by rw [HC.out]; rfl, _, drewN_two _ _ _⟩
      · obtain rfl : k = b.length := by omega
        have HC : Hid (decide (a = b) = true) := Lib.hid (decide_eq_true (prefix_all hp.out HN.out rfl))
        go_wp2
        go_ret
        exact ⟨by rw [HC.out]; rfl, _, rfl⟩
  · have hi0 : ¬ (a.length : Int) = (b.length : Int) := by omega
    have HC : Hid (decide (a = b) = false) := Lib.hid (decide_eq_false fun e => hnm (by rw [e]))
    clear hnm
    go_enter Tryz.func64, Tryz.ntmps64
    go_wp2
    go_ret
    exact ⟨by rw [HC.out]; rfl, 0, rfl⟩

theorem sameF_any (w : World) (v u : Value) (a b : List Fl) (h : Reads 3 cF w v a) (g : Reads 3 cF w u b) :
    Calls Tryz.prog 20 #[v, u] w (BoolTo (decide (a = b)) w) := by
  have E := Lib.hid (equalF_any w v u a b h g)
  clear h g
  go_enter Tryz.func20, Tryz.ntmps20
  go_wp2_with fail
  refine E.out.mono ?_
  rintro e w' ⟨rfl, q, rfl⟩
  go_wp2
  go_ret
  exact ⟨rfl, q, rfl⟩
end Go.Proofs.YtdmmjfmjohliiaaGreatDoor
namespace Go.Proofs.YtdmmjfmjohliiaaGreatDoor
open Go Go.RowKit

/-- A closure that takes a file and has captured one thing: what it says, wherever all below B is as it was in w0. -/
def PB (B : Nat) (w0 : World) (g : Nat) (c : Value) (p : Fl → Bool) : Prop :=
  ∀ (W : World) (x : Fl), Below B w0 W → x.1.size ≤ 1000000 → Calls Tryz.prog g #[.agg #[.string x.1, .int .i64 x.2.1, .string x.2.2], c] W fun e w' => e = .returned (.bool (p x)) ∧ Below W.heap.size W w'
def IdxTo (p : Fl → Bool) (l : List Fl) (w : World) (e : Ending) (w' : World) : Prop :=
  ∃ n : Int, e = .returned (.int .i64 n) ∧ Below w.heap.size w w' ∧ ((n = -1 ∧ l.any p = false) ∨ ∃ (i : Nat) (x : Fl), n = i ∧ l[i]? = some x ∧ p x = true ∧ (l.take i).any p = false)
def Sized (l : List Fl) : Prop := ∀ x ∈ l, x.1.size ≤ 1000000
theorem Sized.at_ {l : List Fl} (h : Sized l) {i : Nat} {x : Fl} (hx : l[i]? = some x) : x.1.size ≤ 1000000 := h x (List.mem_of_getElem? hx)

set_option maxHeartbeats 2000000 in
theorem indexF_any (w0 w : World) (B : Nat) (hb : Below B w0 w) (hB : B ≤ w.heap.size) (v : Value) (l : List Fl) (g : Nat) (c : Value) (p : Fl → Bool) (h : Reads 3 cF w v l) (hs : Sized l) (hl : l.length ≤ 100000)
    (eg : ∀ args w, (callFunc g args).run Tryz.prog w = .ok (.enter g args) w) (hp : PB B w0 g c p) :
    Calls Tryz.prog 128 #[v, .func (.func g) #[] #[c]] w (IdxTo p l w) := by
  obtain ⟨A, cap, rfl⟩ := h.form
  have hn := h.len
  have HO := Lib.hid h
  have HP := Lib.hid hp
  have HS := Lib.hid hs
  clear h hn hp hs
  go_enter Tryz.func128, Tryz.ntmps128
  go_wp2
  go_loopw [5, 8] (fun _ s8 wr => ∃ k : Nat, k ≤ l.length ∧ s8 = .int .i64 k ∧ Below w.heap.size w wr ∧ Hid ((l.take k).any p = false)) (fun _ s8 _ => l.length - (intOf s8).toNat)
  case atStart => exact ⟨0, Nat.zero_le _, rfl, Below.refl _ _, Lib.hid (by simp)⟩
  case round =>
    obtain ⟨k, hk, rfl, hb1, A1⟩ := hrel
    by_cases hlt : k < l.length
    · obtain ⟨x, hx⟩ : ∃ x, l[k]? = some x := ⟨_, List.getElem?_eq_getElem hlt⟩
      obtain ⟨ad, rfl, c0, c1, c2⟩ := Fils.at_ (HO.out.below hb1) hx
      have hcall := HP.out wr x (hb.trans (hb1.mono hB)) (HS.out.at_ hx)
      have HX := Lib.hid hx
      have HT : Hid (p x = false → (l.take (k + 1)).any p = false) := Lib.hid fun hq => by
        rw [take_snoc hx, List.any_append, A1.out]; simp [hq]
      clear hx
      cases hq : p x with
      | true =>
        rw [hq] at hcall
        have HQ := Lib.hid hq
        clear hq
        go_wp2_with (go_at_fn g; refine hcall.mono ?_; rintro e w' ⟨rfl, hb2⟩)
        go_ret
        exact ⟨_, rfl, hb1.trans (hb2.mono hb1.size), .inr ⟨k, x, rfl, HX.out, HQ.out, A1.out⟩⟩
      | false =>
        rw [hq] at hcall
        have HQ := Lib.hid hq
        clear hq
        go_wp2_with (go_at_fn g; refine hcall.mono ?_; rintro e w' ⟨rfl, hb2⟩)
        go_roundw
        case rel => exact ⟨k + 1, by omega, by go_num, hb1.trans (hb2.mono hb1.size), Lib.hid (HT.out HQ.out)⟩
        case measure => simp [intOf]; omega
    · obtain rfl : k = l.length := by omega
      go_wp2
      go_ret
      exact ⟨_, rfl, hb1, .inl ⟨rfl, by have := A1.out; rwa [List.take_length] at this⟩⟩

theorem any_hit {l : List Fl} {p : Fl → Bool} {i : Nat} {x : Fl} (hx : l[i]? = some x) (hp : p x = true) : l.any p = true := List.any_eq_true.2 ⟨x, List.mem_of_getElem? hx, hp⟩

set_option maxHeartbeats 1000000 in
theorem containsF_any (w0 w : World) (B : Nat) (hb : Below B w0 w) (hB : B ≤ w.heap.size) (v : Value) (l : List Fl) (g : Nat) (c : Value) (p : Fl → Bool) (h : Reads 3 cF w v l) (hs : Sized l) (hl : l.length ≤ 100000)
    (eg : ∀ args w, (callFunc g args).run Tryz.prog w = .ok (.enter g args) w) (hp : PB B w0 g c p) :
    Calls Tryz.prog 109 #[v, .func (.func g) #[] #[c]] w (FlagTo (l.any p) w) := by
  have S := Lib.hid (indexF_any w0 w B hb hB v l g c p h hs hl eg hp)
  obtain ⟨A, cap, rfl⟩ := h.form
  clear h hs hp
  go_enter Tryz.func109, Tryz.ntmps109
  go_wp2_with fail
  refine S.out.mono ?_
  rintro e w' ⟨n, rfl, hb1, hn⟩
  rcases hn with ⟨rfl, hn⟩ | ⟨i, x, rfl, hx, hpx, -⟩
  · have HN := Lib.hid hn
    clear hn
    go_wp2_with fail
    go_ret
    exact ⟨ret_b HN.out.symm, hb1⟩
  · have HN := Lib.hid (any_hit hx hpx)
    clear hx hpx
    go_wp2_with fail
    go_ret
    exact ⟨ret_b HN.out.symm, hb1⟩

/-! ### The closures -/
theorem enters_cut (args : Array Value) (w : World) : (callFunc 83 args).run Tryz.prog w = .ok (.enter 83 args) w := enters_of Tryz.func83 (by kernel_rfl) rfl args w
theorem enters_clear (args : Array Value) (w : World) : (callFunc 107 args).run Tryz.prog w = .ok (.enter 107 args) w := enters_of Tryz.func107 (by kernel_rfl) rfl args w
theorem enters_refuses (args : Array Value) (w : World) : (callFunc 110 args).run Tryz.prog w = .ok (.enter 110 args) w := enters_of Tryz.func110 (by kernel_rfl) rfl args w

set_option maxHeartbeats 1000000 in
theorem cut_pred (w0 : World) (B b : Nat) (q : ByteArray) (hc : w0.cell? ⟨b, 0, none⟩ = some (.string q)) (hb : b < B) (hB : B ≤ w0.heap.size) :
    PB B w0 83 (.pointer (some ⟨b, 0, none⟩)) (fun x => decide (x.1 = q)) := by
  intro W x hW _
  have c0 : W.cell? ⟨b, 0, none⟩ = some (.string q) := (hW.cell (p := ⟨b, 0, none⟩) hb).trans hc
  have hlt : b < W.heap.size := Nat.lt_of_lt_of_le hb (Nat.le_trans hB hW.size)
  obtain ⟨p, m, d⟩ := x
  clear hc hW hb hB
  by_cases h : p = q
  · subst h
    go_enter Tryz.func83, Tryz.ntmps83
    go_wp2
    go_ret
    exact ⟨by simp, (Below.refl _ _).alloc (Nat.le_refl _) _⟩
  · have e1 : ¬ p.toList = q.toList := fun e => h (tl_eq e)
    have e1' : (p.toList == q.toList) = false := by simpa using e1
    have HD := Lib.hid (decide_eq_false h)
    clear h
    go_enter Tryz.func83, Tryz.ntmps83
    go_wp2
    go_ret
    exact ⟨ret_b HD.out.symm, (Below.refl _ _).alloc (Nat.le_refl _) _⟩

set_option maxHeartbeats 1000000 in
theorem clear_pred (w0 : World) (B b : Nat) (q : ByteArray) (hq : q.size ≤ 1000000) (hc : w0.cell? ⟨b, 0, none⟩ = some (.string q)) (hb : b < B) (hB : B ≤ w0.heap.size) :
    PB B w0 107 (.pointer (some ⟨b, 0, none⟩)) (fun x => cls x.1.data.toList q.data.toList) := by
  intro W x hW hx
  have c0 : W.cell? ⟨b, 0, none⟩ = some (.string q) := (hW.cell (p := ⟨b, 0, none⟩) hb).trans hc
  have hlt : b < W.heap.size := Nat.lt_of_lt_of_le hb (Nat.le_trans hB hW.size)
  obtain ⟨p, m, d⟩ := x
  have CL := Lib.hid fun W => clash_any p q W hx hq
  clear hc hW hb hB hx
  go_enter Tryz.func107, Tryz.ntmps107
  go_wp2_with fail
  refine (CL.out _).mono ?_
  rintro e w' ⟨rfl, rfl⟩
  go_wp2_with fail
  go_ret
  exact ⟨rfl, (Below.refl _ _).alloc (Nat.le_refl _) _⟩

set_option maxHeartbeats 1000000 in
theorem refuses_pred (w0 : World) (B b : Nat) (q : ByteArray) (hq : q.size ≤ 1000000) (hc : w0.cell? ⟨b, 0, none⟩ = some (.string q)) (hb : b < B) (hB : B ≤ w0.heap.size) :
    PB B w0 110 (.pointer (some ⟨b, 0, none⟩)) (fun x => cls x.1.data.toList q.data.toList) := by
  intro W x hW hx
  have c0 : W.cell? ⟨b, 0, none⟩ = some (.string q) := (hW.cell (p := ⟨b, 0, none⟩) hb).trans hc
  have hlt : b < W.heap.size := Nat.lt_of_lt_of_le hb (Nat.le_trans hB hW.size)
  obtain ⟨p, m, d⟩ := x
  have CL := Lib.hid fun W => clash_any p q W hx hq
  clear hc hW hb hB hx
  go_enter Tryz.func110, Tryz.ntmps110
  go_wp2_with fail
  refine (CL.out _).mono ?_
  rintro e w' ⟨rfl, rfl⟩
  go_wp2_with fail
  go_ret
  exact ⟨rfl, (Below.refl _ _).alloc (Nat.le_refl _) _⟩
end Go.Proofs.YtdmmjfmjohliiaaGreatDoor
namespace Go.Proofs.YtdmmjfmjohliiaaGreatDoor
open Go Go.RowKit

theorem flat_set : ∀ (m : List Fl) (i : Nat) (x : Fl), i < m.length → (((m.flatMap cF).set (i * 3) (.string x.1)).set (i * 3 + 1) (.int .i64 x.2.1)).set (i * 3 + 2) (.string x.2.2) = (m.set i x).flatMap cF
  | [], _, _, h => by simp at h
  | y :: r, 0, x, _ => by simp [cF]
  | y :: r, i + 1, x, h => by
    have ih := flat_set r i x (by simpa using h)
    rw [List.set_cons_succ, List.flatMap_cons, List.flatMap_cons, ← ih]
    have hc : (cF y).length = 3 := rfl
    rw [List.set_append_right _ _ (by rw [hc]; omega), List.set_append_right _ _ (by rw [hc]; omega), List.set_append_right _ _ (by rw [hc]; omega), hc]
    congr 1
    rw [show (i + 1) * 3 - 3 = i * 3 by omega, show (i + 1) * 3 + 1 - 3 = i * 3 + 1 by omega, show (i + 1) * 3 + 2 - 3 = i * 3 + 2 by omega]

def RowOwn (B g cap n : Nat) (m : List Fl) (W : World) : Prop := W.ownsRow B 56 3 (.slice (some ⟨g, 0, none⟩) n cap) n (m.flatMap cF)
theorem RowOwn.set {B g cap n : Nat} {m : List Fl} {W : World} (h : RowOwn B g cap n m W) (hm : m.length = n) (i : Nat) (hi : i < n) (x : Fl) :
    RowOwn B g cap n (m.set i x) (((W.setCell ⟨g, i * 3, none⟩ (.string x.1)).setCell ⟨g, i * 3 + 1, none⟩ (.int .i64 x.2.1)).setCell ⟨g, i * 3 + 2, none⟩ (.string x.2.2)) := by
  unfold RowOwn
  rw [← flat_set m i x (by omega)]
  have h1 := (World.ownsRow.stored h (i * 3) (.string x.1)).1
  have h2 := (World.ownsRow.stored h1 (i * 3 + 1) (.int .i64 x.2.1)).1
  exact (World.ownsRow.stored h2 (i * 3 + 2) (.string x.2.2)).1
theorem RowOwn.below {B g cap n : Nat} {m : List Fl} {W W' : World} (h : RowOwn B g cap n m W) (hb : Below W.heap.size W W') : RowOwn B g cap n m W' := own_keep h hb
theorem RowOwn.cellAt {B g cap n : Nat} {m : List Fl} {W : World} (h : RowOwn B g cap n m W) {i : Nat} {x : Fl} (hx : m[i]? = some x) :
    W.cell? ⟨g, i * 3, none⟩ = some (.string x.1) ∧ W.cell? ⟨g, i * 3 + 1, none⟩ = some (.int .i64 x.2.1) ∧ W.cell? ⟨g, i * 3 + 2, none⟩ = some (.string x.2.2) := by
  have key : ∀ j u, (cF x)[j]? = some u → W.cell? ⟨g, i * 3 + j, none⟩ = some u := fun j u hu => by
    have hj : j < 3 := (List.getElem?_eq_some_iff.1 hu).1
    have := World.ownsRow.cells h rfl (i * 3 + j) u (by rw [flat_at cF_len m i j x hx hj]; exact hu)
    rwa [add_zero_addr] at this
  exact ⟨key 0 _ rfl, key 1 _ rfl, key 2 _ rfl⟩
theorem RowOwn.frozenAt {B g cap n : Nat} {m : List Fl} {W : World} (h : RowOwn B g cap n m W) (j : Nat) : W.frozen? ⟨g, j, none⟩ = false := World.ownsRow.frozenAt h j
theorem RowOwn.isCell {B g cap n : Nat} {m : List Fl} {W : World} (h : RowOwn B g cap n m W) (j : Nat) (hj : j < n * 3) : (W.cell? ⟨g, j, none⟩).isSome = true := by
  rw [World.ownsRow.cellAt h j hj, List.getElem?_eq_getElem (by rw [h.1]; exact hj)]; rfl

/-- The cells of n files that are none. -/
def zs (n : Nat) : List Value := (Builtin.zeroCells #[.string ⟨#[]⟩, .int .i64 0, .string ⟨#[]⟩] n).toList
theorem zs_len (n : Nat) : (zs n).length = n * 3 := by simp [zs, Builtin.zeroCells]
theorem zs_one (n : Nat) : ∀ u ∈ zs n, u.oneCell' = true := fun u hu => by
  simp [zs, Builtin.zeroCells] at hu
  obtain ⟨i, _, rfl⟩ := hu
  have : i % 3 = 0 ∨ i % 3 = 1 ∨ i % 3 = 2 := by omega
  rcases this with h | h | h <;> rw [h] <;> rfl
theorem run_clear_files (w : World) (ty : TypeId) (b o n c : Nat) (hn : 0 < n) (hc : ∀ j, j < n * 3 → (w.cell? ⟨b, o + j, none⟩).isSome = true) (hf : ∀ j, j < n * 3 → w.frozen? ⟨b, o + j, none⟩ = false) :
    (Builtin.clear_ #[23] ty #[.slice (some ⟨b, o, none⟩) n c]).run Tryz.prog w = .ok (.tuple #[]) (w.setCells b o (zs n)) := by
  have hst := run_storeCells_cells (P := Tryz.prog) b o (zs n) 0 w (by rw [zs_len]; simpa using hc) (by rw [zs_len]; simpa using hf) (zs_one n)
  simp only [Nat.add_zero] at hst
  obtain ⟨m, rfl⟩ : ∃ m, n = m + 1 := ⟨n - 1, by omega⟩
  unfold zs at hst ⊢
  simp [Builtin.clear_, run_underlying Tryz.underlying23, Tryz.zeroValue56, Value.cells, hst]

/-- The files ahead, where those behind are cleared. -/
theorem reads_front {B g cap n : Nat} {m : List Fl} {W : World} (h : RowOwn B g cap n m W) (hm : m.length = n) (i : Nat) (hi : i ≤ n) (k : Nat) :
    Reads 3 cF (W.setCells g (i * 3) (zs k)) (.slice (some ⟨g, 0, none⟩) i cap) (m.take i) := by
  have hl : (m.take i).length = i := by rw [List.length_take]; omega
  have h2 := own_len h
  refine ⟨some ⟨g, 0, none⟩, cap, by rw [hl], by omega, h2.2.2, (fun e => by cases e), fun ad ha t x hx j u hu => ?_⟩
  obtain rfl := Option.some.inj ha
  have ht : t < i := by have := (List.getElem?_eq_some_iff.1 hx).1; omega
  have hj : j < 3 := (List.getElem?_eq_some_iff.1 hu).1
  have hx' : m[t]? = some x := by rwa [List.getElem?_take, if_pos ht] at hx
  have hc := World.ownsRow.cells h rfl (t * 3 + j) u (by rw [flat_at cF_len m t j x hx' hj]; exact hu)
  rw [add_zero_addr] at hc
  have := (World.cell?_setCells_out g (zs k) (i * 3) W ⟨g, t * 3 + j, none⟩ (fun _ _ => .inl (by show t * 3 + j < i * 3; omega))).trans hc
  cases j with
  | zero => unfold adr; rw [add_zero_addr]; exact this
  | succ j => unfold adr; rw [add_zero_addr]; exact this
theorem below_setCells {N g : Nat} (hg : N ≤ g) {a : World} : ∀ (vs : List Value) (o : Nat) (w : World), Below N a w → Below N a (w.setCells g o vs)
  | [], _, _, h => h
  | v :: r, o, _, h => below_setCells hg r (o + 1) _ (h.setCell (p := ⟨g, o, none⟩) hg v)

def KeptTo (B : Nat) (w0 : World) (l : List Fl) (e : Ending) (w' : World) : Prop := ∃ v, e = .returned v ∧ Reads 3 cF w' v l ∧ Below B w0 w'
theorem keep_snoc {p : Fl → Bool} {l : List Fl} {j : Nat} {x : Fl} (hx : l[j]? = some x) : (l.take (j + 1)).filter (fun x => !p x) = (l.take j).filter (fun x => !p x) ++ (if p x then [] else [x]) := by
  rw [take_snoc hx, List.filter_append]
  cases h : p x <;> simp [h]
theorem any_keep {p : Fl → Bool} {l : List Fl} (h : l.any p = false) : l.filter (fun x => !p x) = l := List.filter_eq_self.2 fun x hx => by
  have : p x = false := by
    rw [Bool.eq_false_iff]
    intro e
    have := List.any_eq_true.2 ⟨x, hx, e⟩
    rw [h] at this; cases this
  simp [this]
theorem take_set_snoc {m : List Fl} {i : Nat} {x : Fl} (hi : i < m.length) : (m.set i x).take (i + 1) = m.take i ++ [x] := by
  have h : (m.set i x)[i]? = some x := by simp [hi]
  rw [take_snoc h, List.take_set_of_le (Nat.le_refl i)]
theorem drop_set {m : List Fl} {i j : Nat} {x : Fl} (hij : i < j) : (m.set i x).drop j = m.drop j := List.drop_set_of_lt hij

set_option maxRecDepth 100000 in
set_option maxHeartbeats 4000000 in
theorem deleteF_any (w0 w : World) (B : Nat) (hb : Below B w0 w) (hB : B ≤ w.heap.size) (v : Value) (l : List Fl) (g : Nat) (c : Value) (p : Fl → Bool) (ho : w.ownsRow B 56 3 v l.length (l.flatMap cF)) (hs : Sized l) (hl : l.length ≤ 100000)
    (eg : ∀ args w, (callFunc g args).run Tryz.prog w = .ok (.enter g args) w) (hp : PB B w0 g c p) :
    Calls Tryz.prog 117 #[v, .func (.func g) #[] #[c]] w (KeptTo B w0 (l.filter fun x => !p x)) := by
  have R := Lib.hid (Reads.of_own cF_len ho)
  have S := Lib.hid (indexF_any w0 w B hb hB v l g c p R.out hs hl eg hp)
  have HP := Lib.hid hp
  have HS := Lib.hid hs
  have HO := Lib.hid ho
  obtain ⟨A, cap, rfl⟩ := own_form ho
  clear ho hp hs
  go_enter Tryz.func117, Tryz.ntmps117
  go_wp2_with fail
  refine S.out.mono ?_
  rintro e w1 ⟨n, rfl, hb1, hn⟩
  have B1 := hb.trans (hb1.mono hB)
  rcases hn with ⟨rfl, hn⟩ | ⟨i0, x0, rfl, hx0, hpx, hno⟩
  · have HN := Lib.hid hn
    clear hn
    go_wp2_with fail
    go_ret
    exact ⟨_, rfl, by rw [any_keep HN.out]; exact R.out.below hb1, B1⟩
  · have hi0 : i0 < l.length := (List.getElem?_eq_some_iff.1 hx0).1
    obtain ⟨gb, rfl, hgB⟩ : ∃ gb, A = some ⟨gb, 0, none⟩ ∧ B ≤ gb := by
      rcases HO.out.2 with ⟨_, h0⟩ | ⟨gb, cap', cur, hv, hgB, _⟩
      · omega
      · injection hv with e1; exact ⟨gb, e1, hgB⟩
    have K0 : Hid ((l.take (i0 + 1)).filter (fun x => !p x) = l.take i0) := Lib.hid (by rw [keep_snoc hx0, any_keep hno, hpx]; simp)
    have O1 : Hid (RowOwn B gb cap l.length l w1) := Lib.hid (own_keep HO.out hb1)
    have hm1 : ((i0 : Int) == -1) = false := by rw [beq_eq_false_iff_ne]; omega
    clear hx0 hpx hno S R HO
    go_wp2_with fail
    go_loopw [5, 6, 7] (fun s5 s6 _ wr => ∃ (i j : Nat) (m : List Fl), s5 = .int .i64 i ∧ s6 = .int .i64 j ∧ i < j ∧ j ≤ l.length ∧ Below B w0 wr ∧ B ≤ wr.heap.size ∧ Hid (m.length = l.length) ∧ Hid (RowOwn B gb cap l.length m wr) ∧ Hid (m.take i = (l.take j).filter (fun x => !p x)) ∧ Hid (m.drop j = l.drop j)) (fun _ s6 _ _ => l.length - (intOf s6).toNat)
    case atStart => exact ⟨i0, i0 + 1, l, rfl, by go_num, by omega, by omega, B1, by have := B1.size; have := hb1.size; omega, Lib.hid rfl, O1, Lib.hid K0.out.symm, Lib.hid rfl⟩
    case round =>
      obtain ⟨i, j, m, rfl, rfl, hij, hj, hbr, hBr, HM, OM, HT, HD⟩ := hrel
      by_cases hlt : j < l.length
      · obtain ⟨x, hx⟩ : ∃ x, l[j]? = some x := ⟨_, List.getElem?_eq_getElem hlt⟩
        have hxm : m[j]? = some x := by
          have h1 : (m.drop j)[0]? = (l.drop j)[0]? := by rw [HD.out]
          rw [List.getElem?_drop, List.getElem?_drop] at h1
          simpa [hx] using h1
        obtain ⟨c0, c1, c2⟩ := OM.out.cellAt hxm
        have HK := Lib.hid (keep_snoc (p := p) hx)
        have hsx := HS.out.at_ hx
        clear hx hxm
        obtain ⟨W2, hW2⟩ : ∃ W2, W2 = wr.alloc (.cells #[.string x.1, .int .i64 x.2.1, .string x.2.2] 56) := ⟨_, rfl⟩
        have b2 : Below wr.heap.size wr W2 := by rw [hW2]; exact (Below.refl _ _).alloc (Nat.le_refl _) _
        have BW2 : Below B w0 W2 := hbr.trans (b2.mono hBr)
        have hcall := HP.out W2 x BW2 hsx
        obtain ⟨q, hQ⟩ : ∃ q, q = wr.heap.size := ⟨_, rfl⟩
        have k2 : W2.heap[q]? = some (.cells #[.string x.1, .int .i64 x.2.1, .string x.2.2] 56 (0, 0)) := by rw [hW2, hQ]; exact heap_alloc_new wr _
        have hq2 : q < W2.heap.size := by rw [hW2, hQ]; simp
        have O2 := Lib.hid (OM.out.below b2)
        have hs2 : B ≤ W2.heap.size := Nat.le_trans hBr b2.size
        have HK2 := Lib.hid k2
        have HBW2 := Lib.hid BW2
        go_wp2_with fail
        rw [← hW2, ← hQ]
        clear hW2 hQ b2 BW2 k2 c0 c1 c2 hbr hBr OM
        cases hpx : p x with
        | true =>
          rw [hpx] at hcall
          have HPX := Lib.hid hpx
          clear hpx
          refine hcall.mono ?_
          rintro e w3 ⟨rfl, b3⟩
          go_wp2_with fail
          go_roundw
          case rel => exact ⟨i, j + 1, m, rfl, by go_num, by omega, by omega, HBW2.out.trans (b3.mono hs2), by have := b3.size; omega, HM, Lib.hid (O2.out.below b3), Lib.hid (by rw [HK.out, HPX.out, HT.out]; simp), Lib.hid (by rw [← List.drop_drop, HD.out, List.drop_drop])⟩
          case measure => simp [intOf]; omega
        | false =>
          rw [hpx] at hcall
          have HPX := Lib.hid hpx
          clear hpx
          refine hcall.mono ?_
          rintro e w3 ⟨rfl, b3⟩
          have k3 : w3.heap[q]? = some (.cells #[.string x.1, .int .i64 x.2.1, .string x.2.2] 56 (0, 0)) := (b3.block q hq2).trans HK2.out
          have y0 := cell_of_row w3 q 0 _ 56 (0, 0) k3
          have y1 := cell_of_row w3 q 1 _ 56 (0, 0) k3
          have y2 := cell_of_row w3 q 2 _ 56 (0, 0) k3
          have O3 := Lib.hid (O2.out.below b3)
          have him : i < m.length := by have := HM.out; omega
          obtain ⟨y, hy⟩ : ∃ y, m[i]? = some y := ⟨_, List.getElem?_eq_getElem him⟩
          obtain ⟨d0, d1, d2⟩ := O3.out.cellAt hy
          have f0 := O3.out.frozenAt (i * 3)
          have f1 := O3.out.frozenAt (i * 3 + 1)
          have f2 := O3.out.frozenAt (i * 3 + 2)
          have O4 := Lib.hid (O3.out.set HM.out i (by have := HM.out; omega) x)
          have hi1 : (i : Int) < (l.length : Int) := by omega
          have B3 := Lib.hid (HBW2.out.trans (b3.mono hs2))
          have hs3 : B ≤ w3.heap.size := by have := b3.size; omega
          have HIM := Lib.hid him
          clear hy k3 b3 hcall him
          go_wp2_with fail
          go_roundw
          case rel => exact ⟨i + 1, j + 1, m.set i x, by go_num, by go_num, by omega, by omega, (((B3.out.setCell (p := ⟨gb, i * 3, none⟩) hgB _).setCell (p := ⟨gb, i * 3 + 1, none⟩) hgB _).setCell (p := ⟨gb, i * 3 + 2, none⟩) hgB _), by simp; omega, Lib.hid (by rw [List.length_set]; exact HM.out), O4, Lib.hid (by rw [take_set_snoc HIM.out, HK.out, HPX.out, HT.out]; simp), Lib.hid (by rw [drop_set (by omega), ← List.drop_drop, HD.out, List.drop_drop])⟩
          case measure => simp [intOf]; omega
      · obtain rfl : j = l.length := by omega
        have hcap : l.length ≤ cap := (own_len OM.out).2.1
        have hcm : cap ≤ 9223372036854775807 := by have := (own_len OM.out).2.2; unfold maxLen at this; omega
        have hci : ¬ cap = i := by omega
        have hic : (i : Int) ≤ (cap : Int) := by omega
        have hi1 : (i : Int) ≤ (l.length : Int) := by omega
        have hlc : (l.length : Int) ≤ (cap : Int) := by omega
        have hcl : ∀ ty c, (Builtin.clear_ #[23] ty #[.slice (some ⟨gb, i * 3, none⟩) (l.length - i) c]).run Tryz.prog wr = .ok (.tuple #[]) (wr.setCells gb (i * 3) (zs (l.length - i))) := fun ty c =>
          run_clear_files wr ty gb (i * 3) (l.length - i) c (by omega) (fun t ht => OM.out.isCell _ (by omega)) (fun t _ => OM.out.frozenAt _)
        have HR := Lib.hid (reads_front OM.out HM.out i (by omega) (l.length - i))
        rw [HT.out, List.take_length] at HR
        have HB2 := Lib.hid (below_setCells hgB (zs (l.length - i)) (i * 3) wr hbr)
        clear hbr
        go_wp2_with fail
        go_ret
        exact ⟨_, rfl, HR.out, HB2.out⟩
end Go.Proofs.YtdmmjfmjohliiaaGreatDoor
namespace Go.Proofs.YtdmmjfmjohliiaaGreatDoor
open Go Go.RowKit

variable {F : Fence} {n : Nat} {P : Program}

/-- What may turn between two looks: the captured block, or a block that is no cells and lies from B on. -/
def May (C B : Nat) (W : World) (row : Option Nat) : Prop := ∀ r, row = some r → r = C ∨ (B ≤ r ∧ ∃ o : Obj, W.heap[r]? = some o ∧ o.isCells = false)
def Abide {β : Type} (C B : Nat) (I : β → World → Prop) : Prop := ∀ s W W' row, I s W → W.grownBy W' row → May C B W row → I s W'
theorem Abide.put {β : Type} {C B : Nat} {I : β → World → Prop} (h : Abide C B I) {s : β} {W : World} {l : Nat} {o : Obj} (o' : Obj) (hs : I s W) (hB : B ≤ l) (hl : W.heap[l]? = some o) (ho : o.isCells = false) : I s (W.putObj l o') :=
  h s W _ (some l) hs (grownBy_putObj' W l o') (fun r e => by cases e; exact .inr ⟨hB, o, hl, ho⟩)
theorem Abide.new {β : Type} {C B : Nat} {I : β → World → Prop} (h : Abide C B I) {s : β} {W : World} (o : Obj) (hs : I s W) : I s (W.alloc o) :=
  h s W _ none hs (World.grownBy_alloc W o none) (fun r e => by cases e)

/-- An iterator that turns the captured block C alone, beside what its rounds do. -/
def SeqCap {α : Type} (F : Fence) (n : Nat) (P : Program) (g : Nat) (lb : Array Value) (encs : α → Array Value) (Kp : World → World → Prop) (C : Nat) (Ok : α → Prop) (S Sp : List α → Prop) (N : Nat) (w : World) : Prop :=
  ∀ (l : Nat) (J Jx : List α → World → Prop) (W : World), Below w.heap.size w W →
    (∀ s A A' row, J s A → A.grownBy A' row → (∀ r, row = some r → r = C) → J s A') →
    (∀ pre x W1, J pre W1 → pre.length < N → Ok x → YieldAt F (n - 1) P l (encs x) W1 fun e W' =>
      (e = .returned (.bool true) ∧ J (pre ++ [x]) W' ∧ Kp W1 W') ∨ (e = .returned (.bool false) ∧ Jx (pre ++ [x]) W')) →
    J [] W →
    CallsIn F n P g (#[.func (.yield l) #[] #[]] ++ lb) W fun e W' => (∃ v, e = .returned v) ∧ ((∃ xs, S xs ∧ J xs W') ∨ (∃ pre, Sp pre ∧ Jx pre W'))

theorem range_cap {α : Type} {g : Operand} {ps : Array Tmp} {assign body : Code} {Q : Exit → Act → World → Prop} {a : Act} {w : World}
    (hro : F.round = none) (h1 : 1 ≤ n) {gf : Nat} {lb : Array Value} (hg : a.eval g = .func (.func gf) #[] lb) (hFg : F.fn gf) (eg : ∀ args w, (callFunc gf args).run P w = .ok (.enter gf args) w)
    {encs : α → Array Value} {Kp : World → World → Prop} {Ok : α → Prop} {S Sp : List α → Prop} {N C : Nat} {w0 : World} (hseq : SeqCap F (n - 1) P gf lb encs Kp C Ok S Sp N w0) (hC : C < w.heap.size)
    (hKt : ∀ {A B D : World}, Kp A B → Kp B D → Kp A D) (hKb : ∀ (W : World) (l : Nat) (o o' : Obj), w.heap.size ≤ l → W.heap[l]? = some o → o.isCells = false → o.isWalk = false → Kp W (W.putObj l o')) (hb0 : Below w0.heap.size w0 w) (hps : ∀ x, (encs x).size = ps.size)
    (I : List α → World → Prop) (Ix : Code → List α → World → Prop) (hI : Abide C w.heap.size I) (hIx : ∀ c, Abide C w.heap.size (Ix c)) (h0 : I [] w) (a₁ : α → Act)
    (hassign : ∀ (l : Nat) (x : α) (W : World) (K : Act → World → Prop), K (a₁ x) W →
      assign.wpIn (F.inRound l) (n - 1 - 1) P (Exit.then K (fun _ _ _ => False)) { tmps := (ps.zip (encs x)).foldl (fun t (p, v) => t.setIfInBounds p v) a.tmps, defers := [] } W)
    (hbody : ∀ (l : Nat) (pre : List α) (x : α) (W : World), I pre W → pre.length < N → Ok x → body.wpIn (F.inRound l) (n - 1 - 1) P (ownPostK Kp I Ix (pre ++ [x]) W) (a₁ x) W)
    (hdone : ∀ (D : Nat) (xs : List α) (W : World), w.heap.size ≤ D → S xs → I xs W → W.heap[D]? = some (.deferred (some [])) → Q .normal { a with defers := { target := .collected D, args := #[] } :: a.defers } W)
    (hstop : ∀ (D : Nat) (c : Code) (pre : List α) (W : World), w.heap.size ≤ D → Sp pre → Ix c pre W → W.heap[D]? = some (.deferred (some [])) → c.wpIn F n P Q { a with defers := { target := .collected D, args := #[] } :: a.defers } W) :
    (Code.rangeFunc g ps assign body).wpIn F n P Q a w := by
  refine wpIn_rangeFunc fun fn hfn => ?_
  rw [hro]
  obtain ⟨rec, hrec⟩ : ∃ rec : LoopState → Option Code → Loop, rec = fun st pe => { state := st, pending := pe, fn, tmps := a.tmps, params := ps, assign, body, defers := w.heap.size } := ⟨_, rfl⟩
  obtain ⟨L, hL⟩ : ∃ L, L = w.heap.size + 1 := ⟨_, rfl⟩
  obtain ⟨W1, hW1⟩ : ∃ W1, (w.alloc (.deferred (some []))).alloc (.loop (rec .ready none)) = W1 := ⟨_, rfl⟩
  have q1 : W1.heap[L]? = some (.loop (rec .ready none)) := by
    rw [← hW1, hL]
    have := World.alloc_heap_new (w.alloc (.deferred (some []))) (.loop (rec .ready none))
    rwa [World.size_alloc] at this
  have q2 : W1.heap[w.heap.size]? = some (.deferred (some [])) := by rw [← hW1]; exact (Below.heap_alloc _ _ _ (by simp)).trans (World.alloc_heap_new w _)
  have q3 : I [] W1 := by rw [← hW1]; exact hI.new _ (hI.new _ h0)
  have q4 : Below w0.heap.size w0 W1 := by rw [← hW1]; exact hb0.trans ((((Below.refl _ w).alloc (Nat.le_refl _) _).alloc (by simp) _).mono hb0.size)
  have stay : ∀ {A B : World} {row : Option Nat} {k : Nat} {o : Obj}, A.grownBy B row → (∀ r, row = some r → r = C) → w.heap.size ≤ k → A.heap[k]? = some o → B.heap[k]? = some o := fun hgr hr hk ho =>
    (hgr.block _ (Array.getElem?_eq_some_iff.1 ho).1 (fun e => by have := hr _ e.symm; omega)).trans ho
  have turn : ∀ {A : World} {row : Option Nat}, (∀ r, row = some r → r = C) → May C w.heap.size A row := fun hr r e => .inl (hr r e)
  refine ⟨L, [{ target := .collected w.heap.size, args := #[] }], W1, { target := .fn (.func gf) lb, args := #[.func (.yield L) #[] #[]] }, W1, gf, #[.func (.yield L) #[] #[]] ++ lb, W1, ?_, ?_, ?_, ?_, fun _ => h1, ?_⟩
  · rw [← hW1, hrec, hL]; exact run_enterLoop_outer _ _ _ _ _
  · simp only [resolve, hg]
    simp [go_sem]
  · intro f' hf'; simp [Target.leads] at hf'; subst hf'; exact hFg
  · simp [invoke, go_sem, eg]
  · refine (hseq L
      (fun pre W => I pre W ∧ W.heap[L]? = some (.loop (rec .ready none)) ∧ W.heap[w.heap.size]? = some (.deferred (some [])))
      (fun pre W => ∃ c, Ix c pre W ∧ W.heap[L]? = some (.loop (rec .done (some c))) ∧ W.heap[w.heap.size]? = some (.deferred (some [])))
      W1 q4 (fun s A B row hs hgr hr => ⟨hI s A B row hs.1 hgr (turn hr), stay hgr hr (by omega) hs.2.1, stay hgr hr (Nat.le_refl _) hs.2.2⟩) ?_ ⟨q3, q1, q2⟩).mono ?_
    · rintro pre x W ⟨hi, hl, hk⟩ hlen hok
      have hlt : L < W.heap.size := (Array.getElem?_eq_some_iff.1 hl).1
      have hy := run_yield (P := P) (args := encs x) hl (by rw [hrec]; exact hps x)
      rw [hrec] at hy
      obtain ⟨bz, hbz⟩ : ∃ bz : Loop, bz = { rec .ready none with state := .busy } := ⟨_, rfl⟩
      refine ⟨fn, _, assign, body, hy, roundIn_of_wpIn hfn (hassign _ x W _ ⟨_, run_beginRound hl (by rw [hrec]), ?_⟩)⟩
      rw [← hbz]
      have hl2 : (W.putObj L (.loop bz)).heap[L]? = some (.loop bz) := World.putObj_heap_same hlt
      have hk2 : (W.putObj L (.loop bz)).heap[w.heap.size]? = some (.deferred (some [])) := (World.putObj_heap_other (by omega)).trans hk
      have hw2 : Kp W (W.putObj L (.loop bz)) := hKb _ _ _ _ (by omega) hl rfl rfl
      have fin : ∀ (jump : Option Code) (W3 : World), KeepsOthers (W.putObj L (.loop bz)) W3 →
          (Instr.endRound L jump).run P W3 = .ok (.bool jump.isNone) (W3.putObj L (.loop (rec (if jump.isNone then .ready else .done) jump))) ∧
          W3.heap[L]? = some (.loop bz) ∧
          (W3.putObj L (.loop (rec (if jump.isNone then .ready else .done) jump))).heap[L]? = some (.loop (rec (if jump.isNone then .ready else .done) jump)) ∧
          (W3.putObj L (.loop (rec (if jump.isNone then .ready else .done) jump))).heap[w.heap.size]? = some (.deferred (some [])) := fun jump W3 hk3 => by
        have hl3 := hk3.same _ _ hl2 rfl
        have hr := run_endRound (P := P) jump hl3
        rw [hbz, hrec] at hr
        refine ⟨by rw [hrec]; exact hr, hl3, World.putObj_heap_same (Array.getElem?_eq_some_iff.1 hl3).1, (World.putObj_heap_other (by omega)).trans (hk3.same _ _ hk2 rfl)⟩
      refine wpIn_mono (hbody _ pre x _ (hI.put _ hi (by omega) hl rfl) hlen hok) ?_
      rintro e a3 W3 hp
      have leave : ∀ c, KeepsOthers (W.putObj L (.loop bz)) W3 ∧ Ix c (pre ++ [x]) W3 → _ := fun c (h : KeepsOthers (W.putObj L (.loop bz)) W3 ∧ Ix c (pre ++ [x]) W3) => by
        obtain ⟨hr, hl3, hl4, hk4⟩ := fin (some c) W3 h.1
        exact And.intro hr (And.intro ((hIx c).put (.loop (rec .done (some c))) h.2 (by omega) hl3 rfl) (And.intro hl4 hk4))
      cases e with
      | normal =>
        obtain ⟨hk3, hkp3, hi3⟩ := hp
        obtain ⟨hr, hl3, hl4, hk4⟩ := fin none W3 hk3
        exact ⟨_, _, hr, .inl ⟨rfl, ⟨hI.put _ hi3 (by omega) hl3 rfl, hl4, hk4⟩, hKt (hKt hw2 hkp3) (hKb _ _ _ _ (by omega) hl3 rfl rfl)⟩⟩
      | ret => have h := leave .ret hp; exact ⟨_, _, h.1, .inr ⟨rfl, .ret, h.2⟩⟩
      | exit id => have h := leave (.exit id) hp; exact ⟨_, _, h.1, .inr ⟨rfl, .exit id, h.2⟩⟩
      | goto t => have h := leave (.goto t) hp; exact ⟨_, _, h.1, .inr ⟨rfl, .goto t, h.2⟩⟩
      | panic ch => exact hp.elim
      | outgrown => exact hp.elim
    · rintro e W2 ⟨⟨v, rfl⟩, (⟨xs, hS, hi, hl, hk⟩ | ⟨pre, hSp, c, hi, hl, hk⟩)⟩
      · have hr := run_endLoop (P := P) hl (by rw [hrec]; simp)
        rw [hrec] at hr
        exact ⟨none, _, hr, hdone _ xs _ (Nat.le_refl _) hS (hI.put _ hi (by omega) hl rfl) ((World.putObj_heap_other (by omega)).trans hk)⟩
      · have hr := run_endLoop (P := P) hl (by rw [hrec]; simp)
        rw [hrec] at hr
        exact ⟨some c, _, hr, hstop _ c pre _ (Nat.le_refl _) hSp ((hIx c).put _ hi (by omega) hl rfl) ((World.putObj_heap_other (by omega)).trans hk)⟩
end Go.Proofs.YtdmmjfmjohliiaaGreatDoor
namespace Go.Proofs.YtdmmjfmjohliiaaGreatDoor
open Go Go.RowKit Go.Shelf
open Go.Lib (indexByte indexByte_ge indexByte_some)
theorem spl_miss : ∀ l : List UInt8, indexByte l 47 = -1 → spl l = [l]
  | [], _ => rfl
  | c :: r, h => by
    unfold indexByte at h
    by_cases hc : c = 47
    · subst hc; simp at h
    · have hc2 : (c == 47) = false := by simpa using hc
      rw [hc2] at h
      simp only [Bool.false_eq_true, if_false] at h
      by_cases h1 : indexByte r 47 = -1
      · rw [spl, if_neg hc, spl_miss r h1]; rfl
      · have h2 : (indexByte r 47 == -1) = false := by simpa using h1
        rw [h2] at h
        have := indexByte_ge r 47
        simp at h
        omega
theorem spl_hit : ∀ (l : List UInt8) (i : Nat), indexByte l 47 = i → spl l = l.take i :: spl (l.drop (i + 1))
  | [], i, h => by simp [indexByte] at h
  | c :: r, i, h => by
    unfold indexByte at h
    by_cases hc : c = 47
    · subst hc
      simp at h
      obtain rfl : i = 0 := by omega
      rw [spl, if_pos rfl]; rfl
    · have hc2 : (c == 47) = false := by simpa using hc
      rw [hc2] at h
      simp only [Bool.false_eq_true, if_false] at h
      by_cases h1 : indexByte r 47 = -1
      · rw [h1] at h; simp at h
      · have h2 : (indexByte r 47 == -1) = false := by simpa using h1
        have hg := indexByte_ge r 47
        rw [h2] at h
        simp only [Bool.false_eq_true, if_false] at h
        obtain ⟨k, rfl⟩ : ∃ k, i = k + 1 := ⟨i - 1, by omega⟩
        have ih := spl_hit r k (by omega)
        rw [spl, if_neg hc, ih]
        rfl
theorem index_lt (l : List UInt8) (i : Nat) (h : indexByte l 47 = i) : i < l.length := by
  have := (indexByte_some h).1
  exact (List.getElem?_eq_some_iff.1 this).1
attribute [local go_sem] Oper.semAt_some

/-- The pieces that have come, and the rest, are the text's. -/
def Came (s : ByteArray) (pre : List ByteArray) (rest : ByteArray) : Prop := pre.map (·.data.toList) ++ spl rest.data.toList = spl s.data.toList
def AllCame (s : ByteArray) (xs : List ByteArray) : Prop := xs.map (·.data.toList) = spl s.data.toList
def SomeCame (s : ByteArray) (pre : List ByteArray) : Prop := ∃ more, pre.map (·.data.toList) ++ more = spl s.data.toList
/-- How long the text in a cell is. -/
def lenAt (C : Nat) (W : World) : Nat := match W.cell? ⟨C, 0, none⟩ with | some (.string r) => r.size | _ => 0

theorem came_more {s rest : ByteArray} {pre : List ByteArray} (h : Came s pre rest) : pre.length < (spl s.data.toList).length := by
  unfold Came at h
  have := congrArg List.length h
  have h2 := List.length_pos_iff.2 (spl_ne rest.data.toList)
  simp at this
  omega

set_option maxHeartbeats 1000000 in
theorem seq_cap (s : ByteArray) (C : Nat) (w : World) (hs : s.size ≤ 1000000) (hlt : C + 2 < w.heap.size)
    (h0 : w.cell? ⟨C, 0, none⟩ = some (.string s)) (f0 : w.frozen? ⟨C, 0, none⟩ = false) (h1 : w.cell? ⟨C + 1, 0, none⟩ = some (.string ⟨#[47]⟩)) (h2 : w.cell? ⟨C + 1 + 1, 0, none⟩ = some (.int .i64 0)) :
    SeqCap Fence.wide 2 Tryz.prog 151 #[.pointer (some ⟨C + 1, 0, none⟩), .pointer (some ⟨C, 0, none⟩), .pointer (some ⟨C + 1 + 1, 0, none⟩)] (fun x => #[.string x]) (fun A B => Below w.heap.size A B) C (fun x => x.size ≤ s.size) (AllCame s) (SomeCame s) (spl s.data.toList).length w := by
  intro l J Jx W hW hJ hY h0J
  have g0 : W.cell? ⟨C, 0, none⟩ = some (.string s) := (hW.cell (p := ⟨C, 0, none⟩) (by show C < _; omega)).trans h0
  have g1 : W.cell? ⟨C + 1, 0, none⟩ = some (.string ⟨#[47]⟩) := (hW.cell (p := ⟨C + 1, 0, none⟩) (by show C + 1 < _; omega)).trans h1
  have g2 : W.cell? ⟨C + 1 + 1, 0, none⟩ = some (.int .i64 0) := (hW.cell (p := ⟨C + 1 + 1, 0, none⟩) (by show C + 1 + 1 < _; omega)).trans h2
  have k0 : W.frozen? ⟨C, 0, none⟩ = false := (hW.frozen (p := ⟨C, 0, none⟩) (by show C < _; omega)).trans f0
  have HY := Lib.hid hY
  have HJ := Lib.hid hJ
  have H0 := Lib.hid h0J
  clear hY hJ h0J h0 h1 h2 f0 hW
  refine callsIn_of_wp Tryz.func151 rfl trivial ?_ rfl
  simp only [Tryz.ntmps151, List.size_toArray, List.length_cons, List.length_nil, Nat.reduceAdd, Nat.reduceSub, Array.replicate_succ, Array.replicate_zero, List.push_toArray, List.append_toArray, List.nil_append, List.cons_append]
  gi_wp2
  gi_loopw [7] (fun _ wr => ∃ (pre : List ByteArray) (rest : ByteArray), Came s pre rest ∧ rest.size ≤ s.size ∧ wr.cell? ⟨C, 0, none⟩ = some (.string rest) ∧ wr.frozen? ⟨C, 0, none⟩ = false ∧ wr.cell? ⟨C + 1, 0, none⟩ = some (.string ⟨#[47]⟩) ∧ wr.cell? ⟨C + 1 + 1, 0, none⟩ = some (.int .i64 0) ∧ Hid (J pre wr))
    (fun _ wr => lenAt C wr)
  case atStart => exact ⟨[], s, rfl, Nat.le_refl _, g0, k0, g1, g2, H0⟩
  case round =>
    obtain ⟨pre, rest, hcm, hle, c0, d0, c1, c2, hJs⟩ := hrel
    have hlen := came_more hcm
    have HX := Lib.hid fun W => Tryz.strings_Index_one rest 47 W
    rcases Int.lt_or_le (Lib.indexByte rest.data.toList 47) 0 with hx | hx
    · have hm : Lib.indexByte rest.data.toList 47 = -1 := by have := Lib.indexByte_ge rest.data.toList 47; omega
      rw [hm] at HX
      have HM := Lib.hid hm
      clear hx hm
      obtain ⟨fn, tmps, assign, body, hy, hR⟩ := HY.out pre rest wr hJs.out hlen hle
      gi_wp2_with (refine ⟨trivial, ?_⟩; gi_at_call 153; refine (callsIn_wide.2 (HX.out _)).mono ?_; rintro e w' ⟨rfl, rfl⟩)
      refine hR.mono ?_
      rintro e W' (⟨rfl, hJ', hk⟩ | ⟨rfl, hJx'⟩)
      · have HE := Lib.hid hJ'
        clear hJ' hk hy
        gi_wp2
        go_end0
        exact ⟨⟨_, rfl⟩, .inl ⟨pre ++ [rest], by have := hcm; unfold Came at this; rw [spl_miss _ HM.out] at this; unfold AllCame; simpa using this, HE.out⟩⟩
      · have HE := Lib.hid hJx'
        clear hJx' hy
        gi_wp2
        go_end0
        exact ⟨⟨_, rfl⟩, .inr ⟨pre ++ [rest], ⟨[], by have := hcm; unfold Came at this; rw [spl_miss _ HM.out] at this; simpa using this⟩, HE.out⟩⟩
    · obtain ⟨i, hi⟩ : ∃ i : Nat, Lib.indexByte rest.data.toList 47 = i := ⟨(Lib.indexByte rest.data.toList 47).toNat, by omega⟩
      have hli := index_lt _ _ hi
      rw [hi] at HX
      have HI := Lib.hid hi
      have hsz : rest.data.toList.length = rest.size := by rw [Array.length_toList]; rfl
      rw [hsz] at hli
      clear hx hi hsz
      have hi0 : (0 : Int) ≤ (i : Int) := Int.natCast_nonneg _
      have hi1 : (i : Int) + 1 ≤ (rest.size : Int) := by omega
      have hi2 : (i : Int) ≤ (rest.size : Int) := by omega
      obtain ⟨fn, tmps, assign, body, hy, hR⟩ := HY.out pre (rest.extract 0 i) wr hJs.out hlen (by rw [ByteArray.size_extract]; omega)
      gi_wp2_with (refine ⟨trivial, ?_⟩; gi_at_call 153; refine (callsIn_wide.2 (HX.out _)).mono ?_; rintro e w' ⟨rfl, rfl⟩)
      have ht : (rest.extract 0 i).data.toList = rest.data.toList.take i := Lib.extract_from_zero rest i
      have hd : (rest.extract (i + 1) rest.size).data.toList = rest.data.toList.drop (i + 1) := Lib.extract_to_end rest (i + 1)
      have hsp := spl_hit _ _ HI.out
      refine hR.mono ?_
      rintro e W' (⟨rfl, hJ', hk⟩ | ⟨rfl, hJx'⟩)
      · have HE := Lib.hid hJ'
        have e0 : W'.cell? ⟨C, 0, none⟩ = some (.string rest) := (hk.cell (p := ⟨C, 0, none⟩) (by show C < _; omega)).trans c0
        have e1 : W'.cell? ⟨C + 1, 0, none⟩ = some (.string ⟨#[47]⟩) := (hk.cell (p := ⟨C + 1, 0, none⟩) (by show C + 1 < _; omega)).trans c1
        have e2 : W'.cell? ⟨C + 1 + 1, 0, none⟩ = some (.int .i64 0) := (hk.cell (p := ⟨C + 1 + 1, 0, none⟩) (by show C + 1 + 1 < _; omega)).trans c2
        have e3 : W'.frozen? ⟨C, 0, none⟩ = false := (hk.frozen (p := ⟨C, 0, none⟩) (by show C < _; omega)).trans d0
        have HT := Lib.hid ht
        have HD := Lib.hid hd
        have HSP := Lib.hid hsp
        have HCM := Lib.hid hcm
        clear hJ' hk hy ht hd hsp hcm
        gi_wp2
        go_roundw
        case rel =>
          refine ⟨pre ++ [rest.extract 0 i], rest.extract (i + 1) rest.size, ?_, ?_, World.cell?_setCell_same' _ _ _ (by rw [e0]; rfl), by rw [World.frozen?_setCell]; exact e3, ?_, ?_, ?_⟩
          · have h := HCM.out
            unfold Came at h ⊢
            rw [HSP.out] at h
            rw [HD.out, List.map_append]
            simp only [List.map_cons, List.map_nil, HT.out]
            rw [List.append_assoc]
            exact h
          · rw [ByteArray.size_extract]; omega
          · exact (World.cell?_setCell_other _ _ _ _ (by intro e; injection e with e; omega)).trans e1
          · exact (World.cell?_setCell_other _ _ _ _ (by intro e; injection e with e; omega)).trans e2
          · exact HJ.out _ W' _ (some C) HE.out ⟨rfl, rfl, rfl, by simp, fun k _ hk => Below.heap_setCell _ _ _ _ (fun e => hk (by rw [e]))⟩ (fun r e => by cases e; rfl)
        case measure =>
          have h1 : lenAt C (W'.setCell ⟨C, 0, none⟩ (.string (rest.extract (i + 1) rest.size))) = (rest.extract (i + 1) rest.size).size := by
            unfold lenAt; rw [World.cell?_setCell_same' _ _ _ (by rw [e0]; rfl)]
          have h2 : lenAt C w' = rest.size := by unfold lenAt; rw [c0]
          rw [h1, h2, ByteArray.size_extract]; omega
      · have HE := Lib.hid hJx'
        have h := hcm
        unfold Came at h
        rw [hsp, ← ht] at h
        have HH : Hid (SomeCame s (pre ++ [rest.extract 0 i])) := Lib.hid ⟨spl (rest.data.toList.drop (i + 1)), by rw [List.map_append, List.append_assoc]; exact h⟩
        clear hJx' hy ht hd hsp hcm h
        gi_wp2
        refine bodyPost_ret (results_none rfl _ _ _) rfl ?_
        exact ⟨⟨_, rfl⟩, .inr ⟨pre ++ [rest.extract 0 i], HH.out, HE.out⟩⟩
end Go.Proofs.YtdmmjfmjohliiaaGreatDoor
namespace Go.Proofs.YtdmmjfmjohliiaaGreatDoor
open Go Go.RowKit

theorem byte_any (c : Int) (w : World) (h0 : 0 ≤ c) (h1 : c ≤ 255) : Calls Tryz.prog 143 #[.int .u8 c] w fun e w' => e = .returned (.bool (gbv c)) ∧ w = w' := by
  by_cases h46 : c = 46
  · subst h46
    have hg : Hid (true = gbv 46) := by show true = gbv 46; rfl
    go_enter Tryz.func143, Tryz.ntmps143
    go_wp2
    all_goals
      go_ret
      exact ⟨ret_b hg.out, rfl⟩
  · by_cases h45 : c = 45
    · subst h45
      have hg : Hid (true = gbv 45) := by show true = gbv 45; rfl
      go_enter Tryz.func143, Tryz.ntmps143
      go_wp2
      all_goals
        go_ret
        exact ⟨ret_b hg.out, rfl⟩
    · by_cases h95 : c = 95
      · subst h95
        have hg : Hid (true = gbv 95) := by show true = gbv 95; rfl
        go_enter Tryz.func143, Tryz.ntmps143
        go_wp2
        all_goals
          go_ret
          exact ⟨ret_b hg.out, rfl⟩
      · have b1 : (c == 46) = false := by rw [beq_eq_false_iff_ne]; exact h46
        have b2 : (c == 45) = false := by rw [beq_eq_false_iff_ne]; exact h45
        have b3 : (c == 95) = false := by rw [beq_eq_false_iff_ne]; exact h95
        go_enter Tryz.func143, Tryz.ntmps143
        go_wp2
        all_goals
          go_ret
          exact ⟨ret_b (by unfold gbv; rw [Bool.eq_iff_iff]; simp only [Bool.or_eq_true, Bool.and_eq_true, decide_eq_true_eq, Bool.false_eq_true, true_iff, false_iff] <;> omega), rfl⟩

set_option maxHeartbeats 2000000 in
theorem part_any (s : ByteArray) (w : World) (hs : s.size ≤ 1000000) : Calls Tryz.prog 127 #[.string s] w fun e w' => e = .returned (.bool (gp s.data.toList)) ∧ w = w' := by
  have hsz : s.data.toList.length = s.size := by rw [Array.length_toList]; rfl
  by_cases e0 : s.data.toList = []
  · obtain rfl := bytes_eq (b := ⟨#[]⟩) e0
    clear hsz e0
    go_enter Tryz.func127, Tryz.ntmps127
    go_wp2
    go_ret
    exact ⟨rfl, rfl⟩
  by_cases e1 : s.data.toList = [46]
  · obtain rfl := bytes_eq (b := ⟨#[46]⟩) e1
    clear hsz e0 e1
    go_enter Tryz.func127, Tryz.ntmps127
    go_wp2
    go_ret
    exact ⟨rfl, rfl⟩
  by_cases e2 : s.data.toList = [46, 46]
  · obtain rfl := bytes_eq (b := ⟨#[46, 46]⟩) e2
    clear hsz e0 e1 e2
    go_enter Tryz.func127, Tryz.ntmps127
    go_wp2
    go_ret
    exact ⟨rfl, rfl⟩
  have q0 : ¬ s.toList = [] := by rw [ByteArray.toList_eq]; exact e0
  have q0' : s.toList.isEmpty = false := by rw [List.isEmpty_eq_false_iff]; exact q0
  have q1 : ¬ s.toList = [46] := by rw [ByteArray.toList_eq]; exact e1
  have q1' : (s.toList == [46]) = false := by rw [beq_eq_false_iff_ne]; exact q1
  have q2 : ¬ s.toList = [46, 46] := by rw [ByteArray.toList_eq]; exact e2
  have q2' : (s.toList == [46, 46]) = false := by rw [beq_eq_false_iff_ne]; exact q2
  have E := Lib.hid (And.intro e0 (And.intro e1 e2))
  have HS := Lib.hid hsz
  clear e0 e1 e2 hsz
  go_enter Tryz.func127, Tryz.ntmps127
  go_wp2
  go_loop [3, 11] (fun _ i => ∃ k : Nat, k ≤ s.size ∧ i = .int .i64 k ∧ Hid (∀ j (hj : j < s.size), j < k → gbv (s[j].toNat : Int) = true)) (fun _ i => s.size - (intOf i).toNat)
  case atStart => exact ⟨0, Nat.zero_le _, rfl, fun j _ h => absurd h (Nat.not_lt_zero _)⟩
  case round =>
    obtain ⟨k, hk, rfl, I⟩ := hrel
    have hk0 : (0 : Int) ≤ (k : Int) := Int.natCast_nonneg _
    by_cases hlt : k < s.size
    · have hki : (k : Int) < (s.size : Int) := by omega
      have hb := UInt8.toNat_lt s[k]
      have B := Lib.hid fun W => byte_any (s[k].toNat : Int) W (by omega) (by omega)
      cases hg : gbv (s[k].toNat : Int) with
      | true =>
        rw [hg] at B
        have HX := Lib.hid hg
        clear hg
        go_wp2_with (go_at_call 143; refine (B.out _).mono ?_; rintro e w' ⟨rfl, rfl⟩)
        go_round
        case rel => exact ⟨k + 1, by omega, by go_num, fun j hj hjk => by
          rcases Nat.lt_or_ge j k with h | h
          · exact I.out j hj h
          · obtain rfl : j = k := by omega
            exact HX.out⟩
        case measure => simp [intOf]; omega
      | false =>
        rw [hg] at B
        have HX := Lib.hid hg
        clear hg
        go_wp2_with (go_at_call 143; refine (B.out _).mono ?_; rintro e w' ⟨rfl, rfl⟩)
        go_ret
        exact ⟨ret_b (gp_bad (l := s.data.toList) (j := k) (by rw [HS.out]; exact hlt) HX.out).symm, rfl⟩
    · go_wp2
      go_ret
      exact ⟨ret_b (gp_all E.out.1 E.out.2.1 E.out.2.2 fun j hj => I.out j (by rw [HS.out] at hj; exact hj) (by rw [HS.out] at hj; omega)).symm, rfl⟩
end Go.Proofs.YtdmmjfmjohliiaaGreatDoor
namespace Go.Proofs.YtdmmjfmjohliiaaGreatDoor
open Go Go.RowKit Go.Shelf
attribute [local go_sem] Oper.semAt_some

theorem may_cell {C B : Nat} {W W' : World} {row : Option Nat} {a : Addr} {v : Value} (h : W.cell? a = some v) (hg : W.grownBy W' row) (hm : May C B W row) (hne : a.block ≠ C) : W'.cell? a = some v := by
  obtain ⟨o, ho, hc⟩ := cells_of_cell h
  have hlt := World.block_lt_of_cell? W a h
  refine (World.cell?_of_block (hg.block a.block hlt fun e => ?_)).trans h
  rcases hm _ e.symm with e1 | ⟨_, o', ho', hc'⟩
  · exact hne e1
  · rw [ho] at ho'; cases ho'; rw [hc] at hc'; cases hc'
theorem may_frozen {C B : Nat} {W W' : World} {row : Option Nat} {a : Addr} {v : Value} (h : W.cell? a = some v) (hg : W.grownBy W' row) (hm : May C B W row) (hne : a.block ≠ C) : W'.frozen? a = W.frozen? a := by
  obtain ⟨o, ho, hc⟩ := cells_of_cell h
  have hlt := World.block_lt_of_cell? W a h
  refine World.frozen?_of_block (hg.block a.block hlt fun e => ?_)
  rcases hm _ e.symm with e1 | ⟨_, o', ho', hc'⟩
  · exact hne e1
  · rw [ho] at ho'; cases ho'; rw [hc] at hc'; cases hc'
theorem may_below {C B N : Nat} {w W W' : World} {row : Option Nat} (h : Below N w W) (hg : W.grownBy W' row) (hm : May C B W row) (hC : N ≤ C) (hB : N ≤ B) (hN : N ≤ W.heap.size) : Below N w W' :=
  h.grown hg hN fun k hk => by
    rcases hm k hk with e | ⟨e, _⟩
    · omega
    · omega

theorem cell_new_l (W : World) (v : Value) (t : TypeId) : (W.alloc (.cells #[v] t)).cell? ⟨W.heap.size, 0, none⟩ = some v ∧ (W.alloc (.cells #[v] t)).frozen? ⟨W.heap.size, 0, none⟩ = false := by
  have h := heap_alloc_new W (.cells #[v] t)
  exact ⟨cell_of_row _ W.heap.size 0 #[v] t (0, 0) h, by unfold World.frozen?; rw [h]; simp⟩
theorem cell_alloc_l {W : World} {a : Addr} {v : Value} (o : Obj) (h : W.cell? a = some v) : (W.alloc o).cell? a = some v :=
  (World.cell?_alloc_lt W o a (World.block_lt_of_cell? W a h)).trans h
theorem frozen_alloc_l {W : World} {a : Addr} {v : Value} (o : Obj) (h : W.cell? a = some v) (hf : W.frozen? a = false) : (W.alloc o).frozen? a = false :=
  (World.frozen?_of_block (Below.heap_alloc W o a.block (World.block_lt_of_cell? W a h))).trans hf

theorem split_any (s : ByteArray) (w : World) : Calls Tryz.prog 126 #[.string s, .string ⟨#[47]⟩] w fun e w' =>
    e = .returned (.func (.func 151) #[] #[.pointer (some ⟨w.heap.size + 1, 0, none⟩), .pointer (some ⟨w.heap.size, 0, none⟩), .pointer (some ⟨w.heap.size + 1 + 1, 0, none⟩)]) ∧
    ((w.alloc (.cells #[.string s] 9)).alloc (.cells #[.string ⟨#[47]⟩] 9)).alloc (.cells #[.int .i64 0] 3) = w' := by
  have h39 : Calls Tryz.prog 142 #[.string s, .string ⟨#[47]⟩, .int .i64 0] w fun e w' =>
      e = .returned (.func (.func 151) #[] #[.pointer (some ⟨w.heap.size + 1, 0, none⟩), .pointer (some ⟨w.heap.size, 0, none⟩), .pointer (some ⟨w.heap.size + 1 + 1, 0, none⟩)]) ∧
      ((w.alloc (.cells #[.string s] 9)).alloc (.cells #[.string ⟨#[47]⟩] 9)).alloc (.cells #[.int .i64 0] 3) = w' := by
    go_enter Tryz.func142, Tryz.ntmps142
    go_wp2
    go_ret
    exact ⟨rfl, rfl⟩
  go_enter Tryz.func126, Tryz.ntmps126
  go_wp2_with (go_at_call 142; refine h39.mono ?_; rintro e w' ⟨rfl, rfl⟩)
  go_ret
  exact ⟨rfl, rfl⟩

theorem check_long (s : ByteArray) (w : World) (hs : s.size ≤ 9223372036854775807) (h : 64 < s.size) : Calls Tryz.prog 108 #[.string s] w fun e w' => e = .returned (.int .i64 4) ∧ Below w.heap.size w w' := by
  have hi : (64 : Int) < (s.size : Int) := by omega
  go_enter Tryz.func108, Tryz.ntmps108
  go_wp2
  refine bodyPost_ret (v := .int .i64 4) (by simp [results, Tryz.results108, go_sem]) rfl ⟨rfl, ?_⟩
  exact (Below.refl _ _).alloc (Nat.le_refl _) _
theorem check_empty (w : World) : Calls Tryz.prog 108 #[.string ⟨#[]⟩] w fun e w' => e = .returned (.int .i64 5) ∧ Below w.heap.size w w' := by
  go_enter Tryz.func108, Tryz.ntmps108
  go_wp2
  refine bodyPost_ret (v := .int .i64 5) (by simp [results, Tryz.results108, go_sem]) rfl ⟨rfl, ?_⟩
  exact (Below.refl _ _).alloc (Nat.le_refl _) _

set_option maxHeartbeats 2000000 in
theorem check_main (s : ByteArray) (w : World) (h0 : ¬ s.data.toList = []) (h : ¬ 64 < s.size) : Calls Tryz.prog 108 #[.string s] w (Checked s w) := by
  have hi : ¬ (64 : Int) < (s.size : Int) := by omega
  have hi2 : (s.size : Int) ≤ 64 := by omega
  have q0 : ¬ s.toList = [] := by rw [ByteArray.toList_eq]; exact h0
  have q0' : s.toList.isEmpty = false := by rw [List.isEmpty_eq_false_iff]; exact q0
  have hsz : s.data.toList.length = s.size := by rw [Array.length_toList]; rfl
  have HS := Lib.hid hsz
  have H0 := Lib.hid h0
  clear hsz h0
  refine (callsIn_wide (n := 3)).1 ?_
  refine callsIn_of_wp_marks Tryz.func108 rfl trivial ?_ rfl
  simp only [Tryz.ntmps108, List.size_toArray, List.length_cons, List.length_nil, Nat.reduceAdd, Nat.reduceSub, Array.replicate_succ, Array.replicate_zero, List.push_toArray, List.append_toArray, List.nil_append, List.cons_append]
  gi_wp2_with (refine ⟨trivial, ?_⟩; gi_at_call 126; refine (callsIn_wide.2 (split_any s _)).mono ?_; rintro e w' ⟨rfl, rfl⟩)
  have c0 := cell_new_l w (.int .i64 0) 78
  have c1 := cell_new_l (w.alloc (.cells #[.int .i64 0] 78)) (.string s) 9
  have c2 := cell_new_l ((w.alloc (.cells #[.int .i64 0] 78)).alloc (.cells #[.string s] 9)) (.string ⟨#[47]⟩) 9
  have c3 := cell_new_l (((w.alloc (.cells #[.int .i64 0] 78)).alloc (.cells #[.string s] 9)).alloc (.cells #[.string ⟨#[47]⟩] 9)) (.int .i64 0) 3
  simp only [World.size_alloc] at c1 c2 c3
  have hB0 : Below w.heap.size w ((((w.alloc (.cells #[.int .i64 0] 78)).alloc (.cells #[.string s] 9)).alloc (.cells #[.string ⟨#[47]⟩] 9)).alloc (.cells #[.int .i64 0] 3)) := ((((Below.refl _ w).alloc (Nat.le_refl _) _).alloc (by simp) _).alloc (by simp; omega) _).alloc (by simp; omega) _
  have d0 := cell_alloc_l (.cells #[.int .i64 0] 3) (cell_alloc_l (.cells #[.string ⟨#[47]⟩] 9) (cell_alloc_l (.cells #[.string s] 9) c0.1))
  have d1 := cell_alloc_l (.cells #[.int .i64 0] 3) (cell_alloc_l (.cells #[.string ⟨#[47]⟩] 9) c1.1)
  have d2 := cell_alloc_l (.cells #[.int .i64 0] 3) c2.1
  have d3 := c3.1
  have e0 := frozen_alloc_l (.cells #[.int .i64 0] 3) (cell_alloc_l (.cells #[.string ⟨#[47]⟩] 9) (cell_alloc_l (.cells #[.string s] 9) c0.1)) (frozen_alloc_l (.cells #[.string ⟨#[47]⟩] 9) (cell_alloc_l (.cells #[.string s] 9) c0.1) (frozen_alloc_l (.cells #[.string s] 9) c0.1 c0.2))
  have e1 := frozen_alloc_l (.cells #[.int .i64 0] 3) (cell_alloc_l (.cells #[.string ⟨#[47]⟩] 9) c1.1) (frozen_alloc_l (.cells #[.string ⟨#[47]⟩] 9) c1.1 c1.2)
  have hz : ((((w.alloc (.cells #[.int .i64 0] 78)).alloc (.cells #[.string s] 9)).alloc (.cells #[.string ⟨#[47]⟩] 9)).alloc (.cells #[.int .i64 0] 3)).heap.size = w.heap.size + 4 := by simp
  clear c0 c1 c2 c3
  have HZ := Lib.hid hz
  refine range_cap rfl (by omega) (gf := 151) rfl trivial (enters_of Tryz.func151 (by kernel_rfl) rfl)
    (seq_cap s (w.heap.size + 1) _ (by omega) (by omega) d1 e1 d2 d3) (by omega) (fun h k => h.trans k) (belowK_b (Nat.le_refl _)) (Below.refl _ _) (fun _ => rfl)
    (fun pre W => ((∀ x ∈ pre, gp x.data.toList = true) ∧ W.cell? ⟨w.heap.size, 0, none⟩ = some (.int .i64 0) ∧ W.frozen? ⟨w.heap.size, 0, none⟩ = false) ∧ Below w.heap.size w W)
    (fun c pre W => (c = .ret ∧ (∃ x ∈ pre, gp x.data.toList = false) ∧ W.cell? ⟨w.heap.size, 0, none⟩ = some (.int .i64 5)) ∧ Below w.heap.size w W)
    (fun pre A B row hs hg hm => ⟨⟨hs.1.1, may_cell hs.1.2.1 hg hm (by show w.heap.size ≠ _; omega), (may_frozen hs.1.2.1 hg hm (by show w.heap.size ≠ _; omega)).trans hs.1.2.2⟩, may_below hs.2 hg hm (by omega) (by omega) hs.2.size⟩)
    (fun c pre A B row hs hg hm => ⟨⟨hs.1.1, hs.1.2.1, may_cell hs.1.2.2 hg hm (by show w.heap.size ≠ _; omega)⟩, may_below hs.2 hg hm (by omega) (by omega) hs.2.size⟩)
    ⟨⟨by simp, d0, e0⟩, hB0⟩
    (fun x => { tmps := #[.string s, undef, .pointer (some ⟨w.heap.size, 0, none⟩), .string x, .string s, .int .i64 s.size, .bool false, .string s, .bool false, .string s, .func (.func 151) #[] #[.pointer (some ⟨w.heap.size + 1 + 1, 0, none⟩), .pointer (some ⟨w.heap.size + 1, 0, none⟩), .pointer (some ⟨w.heap.size + 1 + 1 + 1, 0, none⟩)], .string x, undef, undef, undef], defers := [] }) ?assign ?body ?done ?stop
  case assign =>
    intro l x W K hK
    gi_wp2
    exact hK
  case body =>
    rintro l pre x W ⟨⟨hp, hc, hf⟩, hB⟩ _ hx
    have hxs : x.size ≤ s.size := hx
    have HP := Lib.hid fun W => part_any x W (by omega)
    cases hg : gp x.data.toList with
    | true =>
      rw [hg] at HP
      have HG := Lib.hid hg
      clear hg hx
      gi_wp2_with (refine ⟨trivial, ?_⟩; gi_at_call 127; refine (CallsIn.inRound l (callsIn_wide.2 (HP.out _))).mono ?_; rintro e w' ⟨rfl, rfl⟩)
      exact ⟨KeepsOthers.refl _, Below.refl _ _, ⟨fun y hy => (List.mem_append.1 hy).elim (hp y) (fun e => by simp at e; subst e; exact HG.out), hc, hf⟩, hB⟩
    | false =>
      rw [hg] at HP
      have HG := Lib.hid hg
      clear hg hx
      gi_wp2_with (refine ⟨trivial, ?_⟩; gi_at_call 127; refine (CallsIn.inRound l (callsIn_wide.2 (HP.out _))).mono ?_; rintro e w' ⟨rfl, rfl⟩)
      exact ⟨KeepsOthers.setCell _ _ _, ⟨rfl, ⟨x, List.mem_append.2 (.inr (by simp)), HG.out⟩, World.cell?_setCell_same' _ _ _ (by rw [hc]; rfl)⟩, hB.setCell (p := ⟨w.heap.size, 0, none⟩) (Nat.le_refl _) _⟩
  case done =>
    rintro D ys W hD hys ⟨⟨hall, hc, hf⟩, hB⟩ hK
    have HA : Hid (chk s.data.toList = 0) := by
      refine chk_good (by rw [HS.out]; exact h) H0.out ?_
      have hy2 : ys.map (·.data.toList) = spl s.data.toList := hys
      rw [← hy2, List.all_eq_true]
      intro x hx
      obtain ⟨y, hy, rfl⟩ := List.mem_map.1 hx
      exact hall y hy
    rw [hz] at hD
    gi_wp2
    have hK' := (KeepsOthers.setCell W ⟨w.heap.size, 0, none⟩ (.int .i64 0)).same D _ hK rfl
    refine ⟨by simp, .inl ⟨_, _, rfl, run_takeDeferred hK', ?_⟩⟩
    have hc5 := cell_kept (World.cell?_setCell_same' W ⟨w.heap.size, 0, none⟩ (.int .i64 0) (by rw [hc]; rfl)) (grownBy_putObj' _ D (.deferred none)) (fun r e => by cases e; exact ⟨_, hK', rfl⟩)
    refine ⟨.int .i64 0, ?_, by rw [HA.out], (hB.setCell (p := ⟨w.heap.size, 0, none⟩) (Nat.le_refl _) _).trans (belowK_b (w := w) (Nat.le_refl _) _ D _ _ (by omega) hK' rfl rfl)⟩
    simp [results, Tryz.f108, go_sem, hc5]
  case stop =>
    rintro D c pre W hD hpre ⟨⟨rfl, hin, hc⟩, hB⟩ hK
    have HA : Hid (chk s.data.toList = 5) := by
      refine chk_bad (by rw [HS.out]; exact h) H0.out ?_
      obtain ⟨more, hm⟩ := hpre
      obtain ⟨x, hx, hg⟩ := hin
      rw [← hm, Bool.eq_false_iff]
      intro ha
      rw [List.all_eq_true] at ha
      have := ha x.data.toList (List.mem_append.2 (.inl (List.mem_map.2 ⟨x, hx, rfl⟩)))
      rw [hg] at this
      cases this
    rw [hz] at hD
    gi_wp2
    refine ⟨by simp, .inl ⟨_, _, rfl, run_takeDeferred hK, ?_⟩⟩
    have hc5 := cell_kept hc (grownBy_putObj' _ D (.deferred none)) (fun r e => by cases e; exact ⟨_, hK, rfl⟩)
    refine ⟨.int .i64 5, ?_, by rw [HA.out], hB.trans (belowK_b (w := w) (Nat.le_refl _) W D _ _ (by omega) hK rfl rfl)⟩
    simp [results, Tryz.f108, go_sem, hc5]

theorem check_any (s : ByteArray) (w : World) (hs : s.size ≤ 9223372036854775807) : Calls Tryz.prog 108 #[.string s] w (Checked s w) := by
  have hsz : s.data.toList.length = s.size := by rw [Array.length_toList]; rfl
  by_cases h : 64 < s.size
  · refine (check_long s w hs h).mono ?_
    rintro e w' ⟨rfl, hb⟩
    exact ⟨by rw [chk_long (by rw [hsz]; exact h)], hb⟩
  · by_cases h0 : s.data.toList = []
    · obtain rfl := bytes_eq (b := ⟨#[]⟩) h0
      exact check_empty w
    · exact check_main s w h0 h
end Go.Proofs.YtdmmjfmjohliiaaGreatDoor
