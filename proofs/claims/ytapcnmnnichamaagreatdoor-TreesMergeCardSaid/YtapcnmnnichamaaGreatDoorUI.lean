/-
  TreesApart: where at each path one side is as base has it, the other's file is taken, and nothing clashes.
  tmerge: Merge of three trees, one of which may not be.
  Tells, at no error on both sides, and at what the two checks of a tree say.
  rectolaw15.Of: entries as the document's.
  rectolaw15.All: are the program's entries the document's, with all they have?
  rectoref14.Same: are trees the same?
  TreesMerge: two results are the same; what is told of one fault on both sides.
  rectoref14.Merge of three trees, one of which may not be.
  TreesMerge: any three trees.
-/
import Derived.Test.YtapcnmnnichamaaGreatDoorUC
import Derived.Test.YtapcnmnnichamaaGreatDoorUT
import Derived.Test.YtapcnmnnichamaaGreatDoorUF
import Derived.Test.YtapcnmnnichamaaGreatDoorSRow
import Derived.Test.YtapcnmnnichamaaGreatDoorFSame
import Derived.Test.YtapcnmnnichamaaGreatDoorUG
import Derived.Deep.RegionHeld3
import Derived.Test.YtapcnmnnichamaaGreatDoorUH

namespace Go.Proofs.YtapcnmnnichamaaGreatDoor
open Go Go.RowKit

theorem oneV_x2 {p : ByteArray} {x y : Option Fl} : oneV none p x y x = (y, false) := by unfold oneV; rw [if_pos (.inr rfl)]
theorem oneV_y2 {p : ByteArray} {x z : Option Fl} : oneV none p x x z = (z, false) := by
  unfold oneV
  by_cases h : x = z
  · rw [if_pos (.inr h), h]
  · rw [if_neg (fun e => e.elim h h), if_pos rfl]
theorem apart_one {p : ByteArray} {x y z : Option Fl} (h : x = y ∨ x = z) : oneV none p x y z = (if x = y then z else y, false) := by
  by_cases h1 : x = y
  · subst h1
    rw [oneV_y2, if_pos rfl]
  · rw [if_neg h1]
    obtain rfl := h.resolve_left h1
    rw [oneV_x2]
theorem mrgF_rise {F : OneF} {P : List ByteArray} (hP : RiseP P) (hF : ∀ p f, (F p).1 = some f → f.1 = p) : RiseF (mrgF F P) := by
  refine List.pairwise_filterMap.2 (hP.imp fun {a b} hab f hf g hg => ?_)
  rw [hF _ _ hf, hF _ _ hg]
  exact hab
theorem mrgF_get {F : OneF} {P : List ByteArray} (hP : RiseP P) (hF : ∀ p f, (F p).1 = some f → f.1 = p) {p : ByteArray} (hp : p ∈ P) : getF (mrgF F P) p = (F p).1 := by
  refine opt_ext fun f => ?_
  rw [getF_iff (mrgF_rise hP hF)]
  constructor
  · rintro ⟨h1, h2⟩
    obtain ⟨q, _, h3⟩ := List.mem_filterMap.1 h1
    have := hF _ _ h3
    rw [← h2, this]
    exact h3
  · intro h
    exact ⟨List.mem_filterMap.2 ⟨p, hp, h⟩, hF _ _ h⟩
/-- What comes of three trees that are apart. -/
abbrev apF (b o t : List Fl) : OneF := fun p => oneV none p (getF b p) (getF o p) (getF t p)
theorem apart_path {b o t : List Fl} (so : SizedD o) (st : SizedD t) (p : ByteArray) (f : Fl) (h : (apF b o t p).1 = some f) : f.1 = p := (oneV_path so st h).1
theorem apart_get {b o t : List Fl} (so : SizedD o) (st : SizedD t) {P : List ByteArray} (hP : RiseP P) (ha : ∀ p ∈ P, getF b p = getF o p ∨ getF b p = getF t p) {p : ByteArray} (hp : p ∈ P) :
    getF (mrgF (apF b o t) P) p = if getF b p = getF o p then getF t p else getF o p := by
  rw [mrgF_get hP (apart_path so st) hp]
  show (oneV none p (getF b p) (getF o p) (getF t p)).1 = _
  rw [apart_one (ha p hp)]
theorem apart_none {b o t : List Fl} {P : List ByteArray} (ha : ∀ p ∈ P, getF b p = getF o p ∨ getF b p = getF t p) : mrgC (apF b o t) P = [] := by
  unfold mrgC
  rw [List.filter_eq_nil_iff]
  intro p hp
  show ¬ (oneV none p (getF b p) (getF o p) (getF t p)).2 = true
  rw [apart_one (ha p hp)]
  simp
theorem apart_noE {b o t : List Fl} {P : List ByteArray} (g : ByteArray → List En) (ha : ∀ p ∈ P, getF b p = getF o p ∨ getF b p = getF t p) : mrgE (apF b o t) g P = [] := by
  unfold mrgE
  rw [apart_none ha]
  rfl
theorem wayF_err : ∀ (a r : List Fl) {i : Nat} {k : Int}, wayF a r = some (i, k) → k = 11
  | a, [], _, _, h => by cases h
  | a, f :: r, i, k, h => by
    unfold wayF at h
    split at h
    · cases h; rfl
    · exact wayF_err _ _ h
theorem way_err {l : List Fl} {i : Nat} {k : Int} (h : wayV l = some (i, k)) : k = 4 ∨ k = 11 := by
  unfold wayV at h
  split at h
  · cases h; exact .inl rfl
  · exact .inr (wayF_err _ _ h)
end Go.Proofs.YtapcnmnnichamaaGreatDoor

namespace Go.Proofs.YtapcnmnnichamaaGreatDoor
open Go Go.RowKit

/-- What is wrong with the first tree that may not be. -/
def chkM (rs : List (Value × List Fl)) : Option (Nat × Int) := rs.findSome? fun r => chkF r.2
def BadTo (i : Nat) (k : Int) (w : World) (e : Ending) (w' : World) : Prop :=
  ∃ F, e = .returned (.tuple #[.agg #[.slice none 0 0, .slice none 0 0, .slice none 0 0], .iface 76 (.pointer (some ⟨F, 0, none⟩))]) ∧ w.heap.size ≤ F ∧ FaultOf F bFile i k w' ∧ Below w.heap.size w w'
theorem chkM_at {rs : List (Value × List Fl)} {i k : Nat} {e : Int} {r : Value × List Fl} (hm : chkM rs = some (i, e)) (hb : ∀ (j : Nat) (q : Value × List Fl), j < k → rs[j]? = some q → chkF q.2 = none) (hk : rs[k]? = some r) (h : chkF r.2 ≠ none) : chkF r.2 = some (i, e) := by
  induction rs generalizing k with
  | nil => simp at hk
  | cons x rs ih =>
    unfold chkM at hm
    rw [List.findSome?_cons] at hm
    cases k with
    | zero =>
      simp at hk
      subst hk
      cases hx : chkF x.2 with
      | none => exact absurd hx h
      | some y => rw [hx] at hm; exact hm
    | succ k =>
      have h0 := hb 0 x (by omega) rfl
      rw [h0] at hm
      exact ih hm (k := k) (fun j q hj hq => hb (j + 1) q (Nat.succ_lt_succ hj) (by simpa using hq)) (by simpa using hk)
theorem chkM_none {rs : List (Value × List Fl)} (h : ∀ (j : Nat) (q : Value × List Fl), rs[j]? = some q → chkF q.2 = none) : chkM rs = none := by
  unfold chkM
  rw [List.findSome?_eq_none_iff]
  intro x hx
  obtain ⟨j, hj⟩ := List.getElem?_of_mem hx
  exact h j x hj
set_option maxRecDepth 100000 in
set_option maxHeartbeats 8000000 in
theorem merge_bad (w : World) (vb vo vt : Value) (b o t : List Fl) (a n : ByteArray) (hb : Reads 3 cF w vb b) (ho : Reads 3 cF w vo o) (ht : Reads 3 cF w vt t) (sb : SizedD b) (so : SizedD o) (st : SizedD t) (lb : b.length ≤ 100000) (lo : o.length ≤ 100000) (lt : t.length ≤ 100000)
    (i : Nat) (ee : Int) (hm : chkM [(vb, b), (vo, o), (vt, t)] = some (i, ee)) :
    Calls Tryz.prog 10 #[vb, vo, vt, .string a, .string n] w (BadTo i ee w) := by
  obtain ⟨Ab, cb, rfl⟩ := hb.form
  obtain ⟨Ao, co, rfl⟩ := ho.form
  obtain ⟨At, ct, rfl⟩ := ht.form
  have G0 := Lib.hid (Blk.new w 29 #[.slice none 0 0, .slice none 0 0, .slice none 0 0])
  have TR := Lib.hid (trees3 (w.alloc (.cells #[.slice none 0 0, .slice none 0 0, .slice none 0 0] 29)) _ _ _ b o t (hb.alloc _) (ho.alloc _) (ht.alloc _))
  have B1 := Lib.hid ((Below.refl w.heap.size w).alloc (Nat.le_refl _) (.cells #[.slice none 0 0, .slice none 0 0, .slice none 0 0] 29))
  have B2 := Lib.hid (B1.out.alloc B1.out.size (.cells #[.slice Ab b.length cb, .slice Ao o.length co, .slice At t.length ct] 23))
  have G2 := Lib.hid (G0.out.alloc (.cells #[.slice Ab b.length cb, .slice Ao o.length co, .slice At t.length ct] 23))
  obtain ⟨rs, hrs⟩ : ∃ rs, rs = [(Value.slice Ab b.length cb, b), (Value.slice Ao o.length co, o), (Value.slice At t.length ct, t)] := ⟨_, rfl⟩
  have RR := Lib.hid (show ∀ (i : Nat) (r : Value × List Fl), rs[i]? = some r → SizedD r.2 ∧ r.2.length ≤ 100000 from fun i r hr => by
    have : r ∈ rs := List.mem_of_getElem? hr
    rw [hrs] at this
    simp at this
    rcases this with rfl | rfl | rfl
    · exact ⟨sb, lb⟩
    · exact ⟨so, lo⟩
    · exact ⟨st, lt⟩)
  have HL := Lib.hid (show rs.length = 3 by rw [hrs]; rfl)
  rw [← hrs] at TR hm
  have HM := Lib.hid hm
  clear hrs hb ho ht sb so st lb lo lt hm
  go_enter Tryz.func10, Tryz.ntmps10
  go_wp2_with fail
  obtain ⟨g0, hg0⟩ : ∃ g, g = w.heap.size := ⟨_, rfl⟩
  have hsz : (w.alloc (.cells #[.slice none 0 0, .slice none 0 0, .slice none 0 0] 29)).heap.size = g0 + 1 := by rw [hg0]; simp
  rw [hsz] at TR
  rw [← hg0] at G2 ⊢
  generalize hW1 : (w.alloc (.cells #[.slice none 0 0, .slice none 0 0, .slice none 0 0] 29)).alloc (.cells #[.slice Ab b.length cb, .slice Ao o.length co, .slice At t.length ct] 23) = w1 at *
  have HG0 := Lib.hid (show g0 = w.heap.size ∧ g0 < w1.heap.size from ⟨hg0, G2.out.lt⟩)
  clear hg0 hW1 hsz G0 B1
  go_loopw [27] (fun s27 wr => ∃ k : Nat, k ≤ 3 ∧ s27 = .int .i64 k ∧ Hid (Below w1.heap.size w1 wr) ∧ Hid (∀ (j : Nat) (q : Value × List Fl), j < k → rs[j]? = some q → chkF q.2 = none)) (fun s27 _ => 3 - (intOf s27).toNat)
  case atStart => exact ⟨0, Nat.zero_le _, rfl, Lib.hid (Below.refl _ _), Lib.hid fun j q hj => absurd hj (Nat.not_lt_zero _)⟩
  case round =>
    obtain ⟨k, hk, rfl, HB, HI⟩ := hrel
    have k0 : (0 : Int) ≤ (k : Int) := Int.natCast_nonneg _
    by_cases hlt : k < 3
    · obtain ⟨r, hr⟩ : ∃ r, rs[k]? = some r := ⟨_, List.getElem?_eq_getElem (by rw [HL.out]; exact hlt)⟩
      have c0 := ((TR.out.below HB.out) k r hr).1
      have hrd := ((TR.out.below HB.out) k r hr).2
      have hq := RR.out k r hr
      have HR := Lib.hid hr
      obtain ⟨rv, l⟩ := r
      dsimp only at hrd hq c0
      rw [add_zero_off] at c0
      have CK := Lib.hid (checkF_any wr rv l hrd hq.1 hq.2)
      obtain ⟨A, c, rfl⟩ := hrd.form
      have hk3 : (k : Int) < 3 := by omega
      clear hr hrd hq
      go_wp2_with fail
      refine CK.out.mono ?_
      rintro e w2 (⟨hn, rfl, b2⟩ | ⟨i2, k2, Fb, hn, rfl, hF, hFa, b2⟩)
      · have B3 := Lib.hid (HB.out.trans (b2.mono HB.out.size))
        have HI2 := Lib.hid (show ∀ (j : Nat) (q : Value × List Fl), j < k + 1 → rs[j]? = some q → chkF q.2 = none from fun j q hj hq => by
          rcases Nat.lt_or_ge j k with h1 | h1
          · exact HI.out j q h1 hq
          · obtain rfl : j = k := by omega
            rw [HR.out] at hq
            cases hq
            exact hn)
        clear b2 CK c0 hn
        go_wp2
        go_roundw
        case rel => exact ⟨k + 1, by omega, by go_num, B3, HI2⟩
        case measure => simp [intOf]; omega
      · have hie := chkM_at HM.out HI.out HR.out (by dsimp only; rw [hn]; simp)
        dsimp only at hie
        rw [hn] at hie
        obtain ⟨rfl, rfl⟩ : i2 = i ∧ k2 = ee := by
          have := Option.some.inj hie
          exact ⟨congrArg Prod.fst this, congrArg Prod.snd this⟩
        have G3 := Lib.hid ((G2.out.below HB.out G2.out.lt).below b2 (G2.out.below HB.out G2.out.lt).lt)
        have B3 := Lib.hid ((B2.out.trans (HB.out.mono B2.out.size)).trans (b2.mono (Nat.le_trans B2.out.size HB.out.size)))
        have HN := Lib.hid (show wr.heap.size ≤ Fb ∧ FaultOf Fb bFile i2 k2 w2 ∧ g0 < wr.heap.size ∧ w.heap.size ≤ wr.heap.size from ⟨hF, hFa, (G2.out.below HB.out G2.out.lt).lt, Nat.le_trans B2.out.size HB.out.size⟩)
        have HW := Lib.hid (show w.heap.size ≤ g0 by rw [HG0.out.1]; exact Nat.le_refl _)
        clear b2 hn hF hFa hie c0 CK
        have y0 := G3.out.cell 0
        have y1 := G3.out.cell 1
        have y2 := G3.out.cell 2
        have q0 := G3.out.frozen 0
        have q1 := G3.out.frozen 1
        have q2 := G3.out.frozen 2
        go_wp2
        exact bodyPost_ret (results_row_tmp (fn := Tryz.f10) rfl _ _ g0 29 #[.slice none 0 0, .slice none 0 0, .slice none 0 0] (0, 0) _ rfl (row3r G3.out rfl _ _ _) Tryz.underlying29 rfl resSize) rfl
          ⟨Fb, rfl, Nat.le_trans HN.out.2.2.2 HN.out.1, (heap3 w2 (by have := HN.out.1; have := HN.out.2.2.1; omega) _ _ _).trans HN.out.2.1, below3 B3.out HW.out _ _ _⟩
    · obtain rfl : k = 3 := by omega
      have := chkM_none (rs := rs) fun j q hq => HI.out j q (by have := (List.getElem?_eq_some_iff.1 hq).1; rw [HL.out] at this; exact this) hq
      rw [HM.out] at this
      cases this
end Go.Proofs.YtapcnmnnichamaaGreatDoor

namespace Go.Proofs.YtapcnmnnichamaaGreatDoor
open Go Go.RowKit

def TrueTo (w : World) (e : Ending) (w' : World) : Prop := e = .returned (.bool true) ∧ Below w.heap.size w w'
set_option maxHeartbeats 1000000 in
theorem tells_none (w : World) : Calls Tryz.prog 13 #[.nilIface, .agg #[.slice none 0 0, .int .i64 0]] w (TrueTo w) := by
  go_enter Tryz.func13, Tryz.ntmps13
  go_wp2_with fail
  go_ret
  exact ⟨rfl, (Below.refl _ _).alloc (Nat.le_refl _) _⟩
theorem chk_15 (l : List UInt8) : chk l = 0 ∨ chk l = 4 ∨ chk l = 5 := by
  unfold chk
  split
  · exact .inr (.inl rfl)
  · split
    · exact .inr (.inr rfl)
    · split
      · exact .inl rfl
      · exact .inr (.inr rfl)
theorem causeF_cases (f : Fl) : causeF f = 0 ∨ causeF f = 1 ∨ causeF f = 4 ∨ causeF f = 5 := by
  unfold causeF
  rcases chk_15 f.1.data.toList with h | h | h
  · rw [h]; simp only [ne_eq, not_true_eq_false, if_false]
    split
    · exact .inr (.inl rfl)
    · split
      · exact .inr (.inr (.inl rfl))
      · exact .inl rfl
  · rw [h]; exact .inr (.inr (.inl rfl))
  · rw [h]; exact .inr (.inr (.inr rfl))
theorem refF_14 {a : List Fl} {f : Fl} (h : refF a f ≠ 0) : To14 (refF a f) := by
  unfold refF at *
  rcases causeF_cases f with hc | hc | hc | hc
  · rw [hc] at h ⊢
    simp only [ne_eq, not_true_eq_false, if_false] at h ⊢
    split
    · exact to14 (by decide) (by decide)
    · split
      · exact to14 (by decide) (by decide)
      · rename_i h1 h2; rw [if_neg h1, if_neg h2] at h; exact absurd rfl h
  all_goals
    rw [if_pos (by rw [hc]; decide), hc]
    exact to14 (by decide) (by decide)
theorem wrongF_14 : ∀ (a r : List Fl) {i : Nat} {k : Int}, wrongF a r = some (i, k) → To14 k ∧ i < a.length + r.length
  | _, [], _, _, h => by simp [wrongF] at h
  | a, f :: r, i, k, h => by
    unfold wrongF at h
    by_cases hr : refF a f = 0
    · rw [if_neg (by rw [hr]; simp)] at h
      have := wrongF_14 (a ++ [f]) r h
      refine ⟨this.1, ?_⟩
      have h2 := this.2
      simp at h2 ⊢; omega
    · rw [if_pos hr] at h
      cases h
      exact ⟨refF_14 hr, by simp⟩
theorem chkF_14 {l : List Fl} {i : Nat} {k : Int} (h : chkF l = some (i, k)) : To14 k ∧ i ≤ 64 := by
  unfold chkF at h
  by_cases hl : 64 < l.length
  · rw [if_pos hl] at h; cases h; exact ⟨to14 (by decide) (by decide), Nat.le_refl _⟩
  · rw [if_neg hl] at h
    have := wrongF_14 [] l h
    refine ⟨this.1, ?_⟩
    have h2 := this.2
    simp at h2; omega
theorem dg_small (n : Nat) : (dg n).size ≤ 100 := by have := dg_size n; omega

/-- What the two checks of one tree say is the same. -/
theorem tells_check (w : World) (l : List Fl) (e e2 : Value) (hE : ErrType w) (he : (chkF l = none ∧ e = .nilIface) ∨ ∃ (i : Nat) (k : Int) (F : Nat), chkF l = some (i, k) ∧ e = .iface 76 (.pointer (some ⟨F, 0, none⟩)) ∧ FaultOf F bFile i k w)
    (he2 : (chkF l = none ∧ e2 = .agg #[.slice none 0 0, .int .i64 0]) ∨ ∃ (i : Nat) (k : Int) (g : Nat), chkF l = some (i, k) ∧ e2 = wrongG g k ∧ Blk w g 82 #[.string bFile, .int .i64 i]) :
    Calls Tryz.prog 13 #[e, e2] w (TrueTo w) := by
  rcases he with ⟨h1, rfl⟩ | ⟨i, k, F, h1, rfl, hF⟩
  · rcases he2 with ⟨_, rfl⟩ | ⟨i, k, g, h2, _⟩
    · exact tells_none w
    · rw [h1] at h2; cases h2
  · rcases he2 with ⟨h2, _⟩ | ⟨i', k', g, h2, rfl, hg⟩
    · rw [h1] at h2; cases h2
    · rw [h1] at h2
      cases h2
      have h14 := chkF_14 h1
      exact tells_says w F g bFile (dg i) i k hF hg (by decide) (dg_small i) h14.1 hE (fun W => itoa_79 i (by have := h14.2; omega) W) (fun W => decimal_79 i (by have := h14.2; omega) W)
end Go.Proofs.YtapcnmnnichamaaGreatDoor

namespace Go.Proofs.YtapcnmnnichamaaGreatDoor
open Go Go.RowKit

theorem ofEntryInfo : (Tryz.prog.info? 69).map (fun i => (i.zero, i.size, i.bytes)) = some (some (.agg #[.string ⟨#[]⟩, .int .i64 0, .int .i64 0, .string ⟨#[]⟩, .int .i64 0, .int .i64 0]), 6, 64) := by kernel_rfl
set_option maxHeartbeats 2000000 in
theorem ofE_any (w : World) (v : Value) (l : List En) (h : Reads 6 cE w v l) (hl : l.length ≤ 100000) :
    Calls Tryz.prog 58 #[v] w (OwnTo 69 6 cE l w) := by
  obtain ⟨A, c, rfl⟩ := h.form
  have hn := h.len
  have hnm : l.length ≤ 9223372036854775807 := by omega
  have HO := Lib.hid h
  obtain ⟨i0, hi, hz0, hz1, hz2⟩ := info_parts ofEntryInfo
  clear h hn
  go_enter Tryz.func58, Tryz.ntmps58
  go_wp2
  go_loopw [3, 4] (fun s3 s4 wr => ∃ i : Nat, i ≤ l.length ∧ s4 = .int .i64 i ∧ Hid (wr.ownsRow w.heap.size 69 6 s3 i ((l.take i).flatMap cE)) ∧ Below w.heap.size w wr) (fun _ s4 _ => l.length - (intOf s4).toNat)
  case atStart => exact ⟨0, Nat.zero_le _, rfl, Lib.hid (World.ownsRow_nil _ _ _ _), Below.refl _ _⟩
  case round =>
    obtain ⟨i, hil, rfl, hown, hb⟩ := hrel
    by_cases hlt : i < l.length
    · obtain ⟨e, he⟩ : ∃ e, l[i]? = some e := ⟨_, List.getElem?_eq_getElem hlt⟩
      obtain ⟨ad, rfl, c0, c1, c2, c3, c4, c5⟩ := Ents.at_ (HO.out.below hb) he
      obtain ⟨p, st, m, d, tm, sz⟩ := e
      have HF := Lib.hid he
      have i0' : (0 : Int) ≤ (i : Int) := Int.natCast_nonneg _
      have hi1 : (i : Int) < (l.length : Int) := by omega
      have hcl := World.block_lt_of_cell? _ _ c0
      have hsz := hb.size
      have hown4 := ((hown.out.alloc (.cells #[.string p, .int .i64 st, .int .i64 m, .string d, .int .i64 tm, .int .i64 sz] 100)).alloc (.cells #[.string p, .int .i64 st, .int .i64 m, .string d, .int .i64 tm, .int .i64 sz] 69))
      have hnews := news_one (wr.alloc (.cells #[.string p, .int .i64 st, .int .i64 m, .string d, .int .i64 tm, .int .i64 sz] 100)) #[.string p, .int .i64 st, .int .i64 m, .string d, .int .i64 tm, .int .i64 sz] 69 (wr.heap.size + 1) (by simp)
      clear he
      go_wp2_with (at_builtin; refine wpList_append_own _ rfl _ _ 35 rfl w.heap.size 69 i0 (.agg #[.string ⟨#[]⟩, .int .i64 0, .int .i64 0, .string ⟨#[]⟩, .int .i64 0, .int .i64 0]) 6 64 Tryz.underlying35 hi hz0 hz1 hz2 rfl (by decide) _ _ _ rfl hown4 ⟨wr.heap.size + 1, 0, none⟩ 1 1 [.string p, .int .i64 st, .int .i64 m, .string d, .int .i64 tm, .int .i64 sz] rfl rfl hnews (by simp [Value.oneCell']) (by unfold maxLen; omega) (by omega) (by simp; omega) ?_; intro v5 w5 hown5 hg5 _)
      have hb5 : Below w.heap.size w w5 := ((hb.alloc hsz _).alloc (by simp; omega) _).grown hg5 (by simp; omega) (fun k hk => (hown.out.lt k hk).1)
      clear hnews hown4 hg5
      go_roundw
      case rel => exact ⟨i + 1, by omega, by go_num, Lib.hid (by rw [take_snoc HF.out, flat_snoc]; exact hown5), hb5⟩
      case measure => simp [intOf]; omega
    · obtain rfl : i = l.length := by omega
      have HL : Hid ((l.take l.length).flatMap cE = l.flatMap cE) := Lib.hid (by rw [List.take_length])
      go_wp2
      go_ret
      exact ⟨_, rfl, by rw [← HL.out]; exact hown.out, hb⟩
end Go.Proofs.YtapcnmnnichamaaGreatDoor

namespace Go.Proofs.YtapcnmnnichamaaGreatDoor
open Go Go.RowKit

def FlagE (b : Bool) (w : World) (e : Ending) (w' : World) : Prop := e = .returned (.bool b) ∧ Below w.heap.size w w'
theorem prefixE {a b : List En} {k : Nat} (h : ∀ i, i < k → a[i]? = b[i]?) (h1 : k = a.length) (h2 : k = b.length) : a = b := List.ext_getElem? fun i => by
  rcases Nat.lt_or_ge i k with hi | hi
  · exact h i hi
  · rw [List.getElem?_eq_none (by omega), List.getElem?_eq_none (by omega)]
set_option maxRecDepth 100000 in
set_option maxHeartbeats 4000000 in
theorem allE_any (w : World) (v u : Value) (a b : List En) (h : Reads 6 cE w v a) (g : Reads 6 cE w u b) (hl : a.length ≤ 100000) :
    Calls Tryz.prog 32 #[v, u] w (FlagE (decide (a = b)) w) := by
  have OF := Lib.hid (ofE_any w v a h hl)
  obtain ⟨A, c, rfl⟩ := h.form
  obtain ⟨B, d, rfl⟩ := g.form
  have gn := g.len
  have hm2 : b.length ≤ 9223372036854775807 := by have := gn.2; unfold maxLen at this; omega
  have HB := Lib.hid g
  clear h g gn
  go_enter Tryz.func32, Tryz.ntmps32
  go_wp2_with fail
  refine OF.out.mono ?_
  rintro e w1 ⟨v1, rfl, o1, b1⟩
  have HA := Lib.hid (Reads.of_own cE_len o1)
  have HU := Lib.hid (HB.out.below b1)
  have B1 := Lib.hid b1
  obtain ⟨A1, c1, rfl⟩ := own_form o1
  clear o1 b1 OF HB
  by_cases hnm : a.length = b.length
  · have hi0 : ((a.length : Int) != (b.length : Int)) = false := by simp [hnm]
    have HN := Lib.hid hnm
    clear hnm
    go_wp2_with fail
    go_loopw [6] (fun s6 wr => ∃ k q : Nat, k ≤ a.length ∧ s6 = .int .i64 k ∧ Hid (∀ i, i < k → a[i]? = b[i]?) ∧ wr = w1.drewN q) (fun s6 _ => a.length - (intOf s6).toNat)
    case atStart => exact ⟨0, 0, Nat.zero_le _, rfl, Lib.hid (fun i hi => absurd hi (Nat.not_lt_zero _)), rfl⟩
    case round =>
      obtain ⟨k, q, hk, rfl, hp, rfl⟩ := hrel
      by_cases hlt : k < a.length
      · obtain ⟨x, hx⟩ : ∃ x, a[k]? = some x := ⟨_, List.getElem?_eq_getElem hlt⟩
        obtain ⟨y, hy⟩ : ∃ y, b[k]? = some y := ⟨_, List.getElem?_eq_getElem (by rw [← HN.out]; exact hlt)⟩
        obtain ⟨ad, rfl, c0, c1, c2, c3, c4, c5⟩ := Ents.at_ HA.out hx
        obtain ⟨ad2, rfl, d0, d1, d2, d3, d4, d5⟩ := Ents.at_ HU.out hy
        have HX := Lib.hid hx
        have HY := Lib.hid hy
        have k0 : (0 : Int) ≤ (k : Int) := Int.natCast_nonneg _
        have k1 : (k : Int) < (a.length : Int) := by omega
        have k2 : (k : Int) < (b.length : Int) := by have := HN.out; omega
        have HNE := Lib.hid (show x ≠ y → decide (a = b) = false from fun hne => decide_eq_false fun e => by
          rw [e, hy] at hx
          exact hne (Option.some.inj hx).symm)
        clear hx hy
        by_cases hxy : x = y
        · subst hxy
          obtain ⟨p, st, m, d, t, z⟩ := x
          go_wp2_with fail
          go_quiet (fail)
          go_wp2
          go_roundw
          case rel => exact ⟨k + 1, _, by omega, by go_num, Lib.hid (fun i hi => by
            rcases Nat.lt_or_ge i k with h1 | h1
            · exact hp.out i h1
            · obtain rfl : i = k := by omega
              rw [HX.out, HY.out]), rfl⟩
          case measure => simp [intOf]; omega
        · have HC := Lib.hid (HNE.out hxy)
          obtain ⟨p, st, m, d, t, z⟩ := x
          obtain ⟨p', st', m', d', t', z'⟩ := y
          by_cases hf : p = p'
          · subst hf
            by_cases hf : st = st'
            · subst hf
              by_cases hf : m = m'
              · subst hf
                by_cases hf : d = d'
                · subst hf
                  by_cases hf : t = t'
                  · subst hf
                    have hf : ¬ z = z' := fun e => hxy (by rw [e])
                    have e1 : (z == z') = false := by simpa using hf
                    clear hxy
                    go_wp2_with fail
                    go_quiet (fail)
                    go_wp2
                    go_ret
                    exact ⟨ret_b HC.out.symm, below_drewN (below_drewN B1.out _) _⟩
                  · have e1 : (t == t') = false := by simpa using hf
                    clear hxy
                    go_wp2_with fail
                    go_quiet (fail)
                    go_wp2
                    go_ret
                    exact ⟨ret_b HC.out.symm, below_drewN (below_drewN B1.out _) _⟩
                · have e1 : ¬ d.toList = d'.toList := fun e => hf (tl_eq e)
                  have e1' : (d.toList == d'.toList) = false := by simpa using e1
                  clear hf
                  clear hxy
                  go_wp2_with fail
                  go_quiet (fail)
                  go_wp2
                  go_ret
                  exact ⟨ret_b HC.out.symm, below_drewN (below_drewN B1.out _) _⟩
              · have e1 : (m == m') = false := by simpa using hf
                clear hxy
                go_wp2_with fail
                go_quiet (fail)
                go_wp2
                go_ret
                exact ⟨ret_b HC.out.symm, below_drewN (below_drewN B1.out _) _⟩
            · have e1 : (st == st') = false := by simpa using hf
              clear hxy
              go_wp2_with fail
              go_quiet (fail)
              go_wp2
              go_ret
              exact ⟨ret_b HC.out.symm, below_drewN (below_drewN B1.out _) _⟩
          · have e1 : ¬ p.toList = p'.toList := fun e => hf (tl_eq e)
            have e1' : (p.toList == p'.toList) = false := by simpa using e1
            clear hf
            clear hxy
            go_wp2_with fail
            go_quiet (fail)
            go_wp2
            go_ret
            exact ⟨ret_b HC.out.symm, below_drewN (below_drewN B1.out _) _⟩
      · obtain rfl : k = a.length := by omega
        have HC : Hid (decide (a = b) = true) := Lib.hid (decide_eq_true (prefixE hp.out rfl HN.out))
        go_wp2
        go_ret
        exact ⟨ret_b HC.out.symm, below_drewN B1.out _⟩
  · have hi0 : ((a.length : Int) != (b.length : Int)) = true := by simp; omega
    have hi1 : ¬ (a.length : Int) = (b.length : Int) := by omega
    have HC : Hid (decide (a = b) = false) := Lib.hid (decide_eq_false fun e => hnm (by rw [e]))
    clear hnm
    go_wp2_with fail
    go_ret
    exact ⟨ret_b HC.out.symm, B1.out⟩
end Go.Proofs.YtapcnmnnichamaaGreatDoor

namespace Go.Proofs.YtapcnmnnichamaaGreatDoor
open Go.RowKit

set_option maxHeartbeats 4000000 in
theorem refSame_any (w : World) (v u : Value) (a b : List Fl) (h : Reads 3 cF w v a) (g : Reads 3 cF w u b) :
    Calls Tryz.prog 31 #[v, u] w (BoolTo (decide (a = b)) w) := by
  obtain ⟨A, c, rfl⟩ := h.form
  obtain ⟨B, d, rfl⟩ := g.form
  have hn := h.len
  have gn := g.len
  have hm1 : a.length ≤ 9223372036854775807 := by have := hn.2; unfold maxLen at this; omega
  have hm2 : b.length ≤ 9223372036854775807 := by have := gn.2; unfold maxLen at this; omega
  have HA := Lib.hid h
  have HB := Lib.hid g
  clear h g hn gn
  by_cases hnm : a.length = b.length
  · have hi0 : ((a.length : Int) != (b.length : Int)) = false := by simp [hnm]
    have HN := Lib.hid hnm
    clear hnm
    go_enter Tryz.func31, Tryz.ntmps31
    go_wp2
    go_loopw [5] (fun s5 wr => ∃ k q : Nat, k ≤ a.length ∧ s5 = .int .i64 k ∧ Hid (∀ i, i < k → a[i]? = b[i]?) ∧ wr = w.drewN q) (fun s5 _ => a.length - (intOf s5).toNat)
    case atStart => exact ⟨0, 0, Nat.zero_le _, rfl, Lib.hid (fun i hi => absurd hi (Nat.not_lt_zero _)), rfl⟩
    case round =>
      obtain ⟨k, q, hk, rfl, hp, rfl⟩ := hrel
      by_cases hlt : k < a.length
      · obtain ⟨x, hx⟩ : ∃ x, a[k]? = some x := ⟨_, List.getElem?_eq_getElem hlt⟩
        obtain ⟨y, hy⟩ : ∃ y, b[k]? = some y := ⟨_, List.getElem?_eq_getElem (by rw [← HN.out]; exact hlt)⟩
        obtain ⟨ad, rfl, c0, c1, c2⟩ := Fils.at_ HA.out hx
        obtain ⟨ad2, rfl, d0, d1, d2⟩ := Fils.at_ HB.out hy
        have HX := Lib.hid hx
        have HY := Lib.hid hy
        have k0 : (0 : Int) ≤ (k : Int) := Int.natCast_nonneg _
        have k1 : (k : Int) < (a.length : Int) := by omega
        have k2 : (k : Int) < (b.length : Int) := by have := HN.out; omega
        have HNE := Lib.hid (show x ≠ y → decide (a = b) = false from fun hne => decide_eq_false fun e => by
          rw [e, hy] at hx
          exact hne (Option.some.inj hx).symm)
        clear hx hy
        by_cases hxy : x = y
        · subst hxy
          obtain ⟨p, m, s⟩ := x
          go_wp2_with fail
          go_quiet (fail)
          go_wp2
          go_roundw
          case rel => exact ⟨k + 1, _, by omega, by go_num, Lib.hid (fun i hi => by
            rcases Nat.lt_or_ge i k with h1 | h1
            · exact hp.out i h1
            · obtain rfl : i = k := by omega
              rw [HX.out, HY.out]), rfl⟩
          case measure => simp [intOf]; omega
        · have HC := Lib.hid (HNE.out hxy)
          obtain ⟨p, m, s⟩ := x
          obtain ⟨p', m', s'⟩ := y
          by_cases h1 : p = p'
          · subst h1
            by_cases h2 : m = m'
            · subst h2
              have h3 : ¬ s = s' := fun e => hxy (by rw [e])
              have e3 : ¬ s.toList = s'.toList := fun e => h3 (tl_eq e)
              have e3' : (s.toList == s'.toList) = false := by simpa using e3
              clear h3 hxy
              go_wp2_with fail
              go_quiet (fail)
              go_wp2
              go_ret
              exact ⟨by rw [HC.out]; rfl, _, drewN_two _ _ _⟩
            · have e2 : (m == m') = false := by simpa using h2
              clear hxy
              go_wp2_with fail
              go_quiet (fail)
              go_wp2
              go_ret
              exact ⟨by rw [HC.out]; rfl, _, drewN_two _ _ _⟩
          · have e1 : ¬ p.toList = p'.toList := fun e => h1 (tl_eq e)
            have e1' : (p.toList == p'.toList) = false := by simpa using e1
            clear hxy h1
            go_wp2_with fail
            go_quiet (fail)
            go_wp2
            go_ret
            exact ⟨by rw [HC.out]; rfl, _, drewN_two _ _ _⟩
      · obtain rfl : k = a.length := by omega
        have HC : Hid (decide (a = b) = true) := Lib.hid (decide_eq_true (prefix_all hp.out rfl HN.out.symm))
        go_wp2
        go_ret
        exact ⟨by rw [HC.out]; rfl, _, rfl⟩
  · have hi0 : ((a.length : Int) != (b.length : Int)) = true := by simp; omega
    have HC : Hid (decide (a = b) = false) := Lib.hid (decide_eq_false fun e => hnm (by rw [e]))
    clear hnm
    go_enter Tryz.func31, Tryz.ntmps31
    go_wp2
    go_ret
    exact ⟨by rw [HC.out]; rfl, 0, rfl⟩
end Go.Proofs.YtapcnmnnichamaaGreatDoor

namespace Go.Proofs.YtapcnmnnichamaaGreatDoor
open Go Go.RowKit

set_option maxRecDepth 100000 in
set_option maxHeartbeats 8000000 in
theorem result_any (w : World) (vf ve vc uf ue uc : Value) (fs : List Fl) (es : List En) (cs : List ByteArray) (h1 : Reads 3 cF w vf fs) (h2 : Reads 6 cE w ve es) (h3 : Strs w vc cs) (k1 : Reads 3 cF w uf fs) (k2 : Reads 6 cE w ue es) (k3 : Strs w uc cs) (lf : fs.length ≤ 100000) (le : es.length ≤ 100000) :
    Calls Tryz.prog 14 #[.agg #[vf, ve, vc], .agg #[uf, ue, uc]] w (TrueTo w) := by
  have HR := Lib.hid fun W (hW : Below w.heap.size w W) => (⟨h1.below hW, h2.below hW, h3.below hW, k1.below hW, k2.below hW, k3.below hW⟩ : Reads 3 cF W vf fs ∧ Reads 6 cE W ve es ∧ Strs W vc cs ∧ Reads 3 cF W uf fs ∧ Reads 6 cE W ue es ∧ Strs W uc cs)
  obtain ⟨A1, c1, rfl⟩ := h1.form
  obtain ⟨A2, c2, rfl⟩ := h2.form
  obtain ⟨A3, c3, rfl⟩ := strs_form h3
  obtain ⟨A4, c4, rfl⟩ := k1.form
  obtain ⟨A5, c5, rfl⟩ := k2.form
  obtain ⟨A6, c6, rfl⟩ := strs_form k3
  have OF := Lib.hid fun W (hW : Below w.heap.size w W) => lawOf_any W _ fs (HR.out W hW).1 lf
  unfold OwnTo at OF
  have SM := Lib.hid fun W (hW : Below w.heap.size w W) (v : Value) (hv : Reads 3 cF W v fs) => refSame_any W v _ fs fs hv (HR.out W hW).2.2.2.1
  have AL := Lib.hid fun W (hW : Below w.heap.size w W) => allE_any W _ _ es es (HR.out W hW).2.1 (HR.out W hW).2.2.2.2.1 le
  have TX := Lib.hid fun W (hW : Below w.heap.size w W) => texts_any W _ _ cs cs (HR.out W hW).2.2.1 (HR.out W hW).2.2.2.2.2
  unfold BoolTo at SM TX
  unfold FlagE at AL
  simp only [decide_true] at SM AL TX
  clear h1 h2 h3 k1 k2 k3 lf le
  go_enter Tryz.func14, Tryz.ntmps14
  go_upto_region 1 with fail
  obtain ⟨g, hg⟩ : ∃ g, g = w.heap.size := ⟨_, rfl⟩
  have X1 := Lib.hid ((Blk.new w 29 #[.slice A1 fs.length c1, .slice A2 es.length c2, .slice A3 cs.length c3]).alloc (.cells #[.slice A4 fs.length c4, .slice A5 es.length c5, .slice A6 cs.length c6] 37))
  have X2 := Lib.hid (Blk.new (w.alloc (.cells #[.slice A1 fs.length c1, .slice A2 es.length c2, .slice A3 cs.length c3] 29)) 37 #[.slice A4 fs.length c4, .slice A5 es.length c5, .slice A6 cs.length c6])
  have B1 := Lib.hid (((Below.refl w.heap.size w).alloc (Nat.le_refl _) (.cells #[.slice A1 fs.length c1, .slice A2 es.length c2, .slice A3 cs.length c3] 29)).alloc (by simp) (.cells #[.slice A4 fs.length c4, .slice A5 es.length c5, .slice A6 cs.length c6] 37))
  simp only [World.size_alloc] at X2
  rw [← hg] at X1 X2 ⊢
  clear hg
  generalize (w.alloc (.cells #[.slice A1 fs.length c1, .slice A2 es.length c2, .slice A3 cs.length c3] 29)).alloc (.cells #[.slice A4 fs.length c4, .slice A5 es.length c5, .slice A6 cs.length c6] 37) = w1 at *
  have SZ := Lib.hid fun W (hW : Below w1.heap.size w1 W) => (⟨(X1.out.below hW X1.out.lt).cell 0, (X1.out.below hW X1.out.lt).cell 1, (X1.out.below hW X1.out.lt).cell 2, (X2.out.below hW X2.out.lt).cell 0, (X2.out.below hW X2.out.lt).cell 1, (X2.out.below hW X2.out.lt).cell 2⟩ :
    W.cell? ⟨g, 0, none⟩ = some (.slice A1 fs.length c1) ∧ W.cell? ⟨g, 1, none⟩ = some (.slice A2 es.length c2) ∧ W.cell? ⟨g, 2, none⟩ = some (.slice A3 cs.length c3) ∧
    W.cell? ⟨g + 1, 0, none⟩ = some (.slice A4 fs.length c4) ∧ W.cell? ⟨g + 1, 1, none⟩ = some (.slice A5 es.length c5) ∧ W.cell? ⟨g + 1, 2, none⟩ = some (.slice A6 cs.length c6))
  have d0 : Below w1.heap.size w1 w1.drew := (Below.refl _ _).drew
  have LB := Lib.hid fun W (hW : Below w1.heap.size w1 W) => B1.out.trans (hW.mono B1.out.size)
  go_region_held3 (fun w' => w'.cell? ⟨g, 0, none⟩ = some (.slice A1 fs.length c1) ∧ w'.cell? ⟨g, 1, none⟩ = some (.slice A2 es.length c2) ∧ w'.cell? ⟨g, 2, none⟩ = some (.slice A3 cs.length c3) ∧
    w'.cell? ⟨g + 1, 0, none⟩ = some (.slice A4 fs.length c4) ∧ w'.cell? ⟨g + 1, 1, none⟩ = some (.slice A5 es.length c5) ∧ w'.cell? ⟨g + 1, 2, none⟩ = some (.slice A6 cs.length c6))
    (first | exact SZ.out _ d0 | exact SZ.out _ d1 | exact SZ.out _ d2 | exact SZ.out _ d3 | exact SZ.out _ d4)
    (first
      | (go_at_call 33; refine (TX.out _ (LB.out _ d3)).mono ?_; rintro e w5 ⟨rfl, q5, rfl⟩; have d4 := below_drewN d3 q5)
      | (go_at_call 32; refine (AL.out _ (LB.out _ d2)).mono ?_; rintro e w4 ⟨rfl, b4⟩; have d3 := d2.trans (b4.mono d2.size))
      | (go_at_call 31; refine (SM.out _ (LB.out _ d1) _ r2).mono ?_; rintro e w3 ⟨rfl, q3, rfl⟩; have d2 := below_drewN d1 q3)
      | (go_at_call 12; refine (OF.out _ (LB.out _ d0)).mono ?_; rintro e w2 ⟨y2, rfl, o2, b2⟩; have d1 := d0.trans (b2.mono d0.size); have r2 := Reads.of_own cF_len o2; obtain ⟨A7, c7, rfl⟩ := own_form o2))
  go_wp2_with fail
  go_ret
  exact ⟨rfl, LB.out _ d4⟩
theorem way_14 {l : List Fl} {i : Nat} {k : Int} (h : wayV l = some (i, k)) : To14 k ∧ i ≤ 64 := by
  have hk := way_err h
  refine ⟨by rcases hk with rfl | rfl <;> exact to14 (by decide) (by decide), ?_⟩
  unfold wayV at h
  split at h
  · cases h; exact Nat.le_refl _
  · rename_i hl
    have hi : ∀ (a r : List Fl) {i : Nat} {k : Int}, wayF a r = some (i, k) → i ≤ a.length + r.length := by
      intro a r
      induction r generalizing a with
      | nil => intro i k h; cases h
      | cons f r ih =>
        intro i k h
        unfold wayF at h
        split at h
        · cases h; simp
        · have := ih _ h
          simp at this ⊢; omega
    have := hi _ _ h
    simp at this; omega
/-- What both merges say of one fault is the same. -/
theorem tells_two (w : World) (i : Nat) (k : Int) (F g : Nat) (hE : ErrType w) (h14 : To14 k ∧ i ≤ 64) (hF : FaultOf F bFile i k w) (hg : Blk w g 82 #[.string bFile, .int .i64 i]) :
    Calls Tryz.prog 13 #[.iface 76 (.pointer (some ⟨F, 0, none⟩)), wrongG g k] w (TrueTo w) :=
  tells_says w F g bFile (dg i) i k hF hg (by decide) (dg_small i) h14.1 hE (fun W => itoa_79 i (by have := h14.2; omega) W) (fun W => decimal_79 i (by have := h14.2; omega) W)
end Go.Proofs.YtapcnmnnichamaaGreatDoor

namespace Go.Proofs.YtapcnmnnichamaaGreatDoor
open Go Go.RowKit

def RBadTo (i : Nat) (k : Int) (w : World) (e : Ending) (w' : World) : Prop :=
  ∃ g, e = .returned (.tuple #[.agg #[.slice none 0 0, .slice none 0 0, .slice none 0 0], wrongG g k]) ∧ w.heap.size ≤ g ∧ Blk w' g 82 #[.string bFile, .int .i64 i] ∧ Below w.heap.size w w'
theorem wrongF_err : ∀ (a r : List Fl) {i : Nat} {k : Int}, wrongF a r = some (i, k) → k ≠ 0
  | _, [], _, _, h => by simp [wrongF] at h
  | a, f :: r, i, k, h => by
    unfold wrongF at h
    by_cases hr : refF a f = 0
    · rw [if_neg (by rw [hr]; simp)] at h
      exact wrongF_err _ _ h
    · rw [if_pos hr] at h
      cases h
      exact hr
theorem chkF_err {l : List Fl} {i : Nat} {k : Int} (h : chkF l = some (i, k)) : k ≠ 0 := by
  unfold chkF at h
  by_cases hl : 64 < l.length
  · rw [if_pos hl] at h; cases h; decide
  · rw [if_neg hl] at h
    exact wrongF_err _ _ h
set_option maxRecDepth 100000 in
set_option maxHeartbeats 8000000 in
theorem refMerge_bad (w : World) (vb vo vt : Value) (b o t : List Fl) (a n : ByteArray) (hb : Reads 3 cF w vb b) (ho : Reads 3 cF w vo o) (ht : Reads 3 cF w vt t) (sb : SizedD b) (so : SizedD o) (st : SizedD t) (lb : b.length ≤ 100000) (lo : o.length ≤ 100000) (lt : t.length ≤ 100000)
    (i : Nat) (ee : Int) (hm : chkM [(vb, b), (vo, o), (vt, t)] = some (i, ee)) :
    Calls Tryz.prog 11 #[vb, vo, vt, .string a, .string n] w (RBadTo i ee w) := by
  obtain ⟨Ab, cb, rfl⟩ := hb.form
  obtain ⟨Ao, co, rfl⟩ := ho.form
  obtain ⟨At, ct, rfl⟩ := ht.form
  obtain ⟨g0, hg0⟩ : ∃ g, g = w.heap.size := ⟨_, rfl⟩
  obtain ⟨w1, hw1⟩ : ∃ W, W = (w.alloc (.cells #[.slice none 0 0, .slice none 0 0, .slice none 0 0] 37)).alloc (.cells #[.slice none 0 0, .int .i64 0] 40) := ⟨_, rfl⟩
  have B1 : Below w.heap.size w w1 := by rw [hw1]; exact ((Below.refl _ _).alloc (Nat.le_refl _) _).alloc (by simp) _
  have z1 : w1.heap.size = g0 + 2 := by rw [hw1, hg0]; simp
  have G1 : Blk w1 g0 37 #[.slice none 0 0, .slice none 0 0, .slice none 0 0] := by rw [hw1, hg0]; exact (Blk.new w 37 _).alloc _
  have Q1 : Blk w1 (g0 + 1) 40 #[.slice none 0 0, .int .i64 0] := by
    have h := Blk.new (w.alloc (.cells #[.slice none 0 0, .slice none 0 0, .slice none 0 0] 37)) 40 #[.slice none 0 0, .int .i64 0]
    rw [show (w.alloc (.cells #[.slice none 0 0, .slice none 0 0, .slice none 0 0] 37)).heap.size = g0 + 1 by rw [hg0]; simp, ← hw1] at h
    exact h
  have TR0 := trees3R w1 _ _ _ b o t (hb.below B1) (ho.below B1) (ht.below B1)
  obtain ⟨w2, hw2⟩ : ∃ W, W = w1.alloc (.cells #[.slice Ab b.length cb, .slice Ao o.length co, .slice At t.length ct] 34) := ⟨_, rfl⟩
  rw [z1, ← hw2] at TR0
  have G2 := Lib.hid (show Blk w2 g0 37 _ by rw [hw2]; exact G1.alloc _)
  have Q2 := Lib.hid (show Blk w2 (g0 + 1) 40 _ by rw [hw2]; exact Q1.alloc _)
  have B2 := Lib.hid (show Below w.heap.size w w2 by rw [hw2]; exact B1.alloc B1.size _)
  have TR := Lib.hid TR0
  have Z2 := Lib.hid (show w2.heap.size = g0 + 3 by rw [hw2]; simp [z1])
  obtain ⟨rs, hrs⟩ : ∃ rs, rs = [(Value.slice Ab b.length cb, b), (Value.slice Ao o.length co, o), (Value.slice At t.length ct, t)] := ⟨_, rfl⟩
  have RR := Lib.hid (show ∀ (i : Nat) (r : Value × List Fl), rs[i]? = some r → SizedD r.2 ∧ r.2.length ≤ 100000 from fun i r hr => by
    have : r ∈ rs := List.mem_of_getElem? hr
    rw [hrs] at this
    simp at this
    rcases this with rfl | rfl | rfl
    · exact ⟨sb, lb⟩
    · exact ⟨so, lo⟩
    · exact ⟨st, lt⟩)
  have HL := Lib.hid (show rs.length = 3 by rw [hrs]; rfl)
  rw [← hrs] at TR hm
  have HM := Lib.hid hm
  have HW1 := Lib.hid hw1
  have HW2 := Lib.hid hw2
  have HG0 := Lib.hid hg0
  clear hrs hb ho ht sb so st lb lo lt hm B1 G1 Q1 TR0 hw1 hw2 hg0 z1
  go_enter Tryz.func11, Tryz.ntmps11
  go_wp2_with fail
  rw [← HG0.out, ← HW1.out, ← HW2.out, show g0 + 1 + 1 = g0 + 2 from rfl]
  clear HW1 HW2
  go_loopw [13, 14] (fun s13 _ wr => ∃ k : Nat, k ≤ 3 ∧ s13 = .int .i64 k ∧ Hid (Below w2.heap.size w2 wr) ∧ Hid (∀ (j : Nat) (q : Value × List Fl), j < k → rs[j]? = some q → chkF q.2 = none)) (fun s13 _ _ => 3 - (intOf s13).toNat)
  case atStart => exact ⟨0, Nat.zero_le _, rfl, Lib.hid (Below.refl _ _), Lib.hid fun j q hj => absurd hj (Nat.not_lt_zero _)⟩
  case round =>
    obtain ⟨k, hk, rfl, HB, HI⟩ := hrel
    have k0 : (0 : Int) ≤ (k : Int) := Int.natCast_nonneg _
    by_cases hlt : k < 3
    · obtain ⟨r, hr⟩ : ∃ r, rs[k]? = some r := ⟨_, List.getElem?_eq_getElem (by rw [HL.out]; exact hlt)⟩
      have c0 := ((TR.out.below HB.out) k r hr).1
      have hrd := ((TR.out.below HB.out) k r hr).2
      have hq := RR.out k r hr
      have HR := Lib.hid hr
      obtain ⟨rv, l⟩ := r
      dsimp only at hrd hq c0
      rw [add_zero_off] at c0
      have CK := Lib.hid (refCheckF_any wr rv l hrd hq.1 hq.2)
      obtain ⟨A, c, rfl⟩ := hrd.form
      have hk3 : (k : Int) < 3 := by omega
      clear hr hrd hq
      go_wp2_with fail
      refine CK.out.mono ?_
      rintro e w3 (⟨hn, rfl, b3⟩ | ⟨i2, k2, g, hn, rfl, hgl, hg, b3⟩)
      · have B3 := Lib.hid ((HB.out.trans (b3.mono HB.out.size)).alloc (Nat.le_trans HB.out.size b3.size) (.cells #[.slice none 0 0, .int .i64 0] 40))
        have HI2 := Lib.hid (show ∀ (j : Nat) (q : Value × List Fl), j < k + 1 → rs[j]? = some q → chkF q.2 = none from fun j q hj hq => by
          rcases Nat.lt_or_ge j k with h1 | h1
          · exact HI.out j q h1 hq
          · obtain rfl : j = k := by omega
            rw [HR.out] at hq
            cases hq
            exact hn)
        clear b3 CK c0 hn
        go_wp2
        go_roundw
        case rel => exact ⟨k + 1, by omega, by go_num, B3, HI2⟩
        case measure => simp [intOf]; omega
      · have hie := chkM_at HM.out HI.out HR.out (by dsimp only; rw [hn]; simp)
        dsimp only at hie
        rw [hn] at hie
        obtain ⟨rfl, rfl⟩ : i2 = i ∧ k2 = ee := by
          have := Option.some.inj hie
          exact ⟨congrArg Prod.fst this, congrArg Prod.snd this⟩
        have hk2 : k2 ≠ 0 := by
          have := chkF_err hn
          omega
        have B3 := HB.out.trans (b3.mono HB.out.size)
        have G3 := G2.out.below B3 G2.out.lt
        have Q3 := Q2.out.below B3 Q2.out.lt
        have G4 := G3.alloc (.cells #[.slice (some ⟨g, 0, none⟩) 1 1, .int .i64 k2] 40)
        have Q4 := Q3.alloc (.cells #[.slice (some ⟨g, 0, none⟩) 1 1, .int .i64 k2] 40)
        have X4 := Blk.new w3 40 #[.slice (some ⟨g, 0, none⟩) 1 1, .int .i64 k2]
        have g4 := hg.alloc (.cells #[.slice (some ⟨g, 0, none⟩) 1 1, .int .i64 k2] 40)
        have B4 := Lib.hid ((B2.out.trans (B3.mono B2.out.size)).alloc (Nat.le_trans B2.out.size B3.size) (.cells #[.slice (some ⟨g, 0, none⟩) 1 1, .int .i64 k2] 40))
        have HNE := Lib.hid (show g0 < w3.heap.size ∧ g0 + 1 < w3.heap.size ∧ g0 + 1 < wr.heap.size ∧ w.heap.size ≤ wr.heap.size ∧ w.heap.size ≤ g0 from ⟨G3.lt, Q3.lt, (Q2.out.below HB.out Q2.out.lt).lt, Nat.le_trans B2.out.size HB.out.size, by rw [HG0.out]; exact Nat.le_refl _⟩)
        have HGL := Lib.hid hgl
        have kz : (k2 == 0) = false := by simpa using hk2
        go_upto_region 7 with fail
        obtain ⟨gX, hgX⟩ : ∃ x, x = w3.heap.size := ⟨_, rfl⟩
        rw [← hgX] at X4 HNE ⊢
        clear hgX
        have GG := Lib.hid G4
        have QQ := Lib.hid Q4
        have HG4 := Lib.hid g4
        have XX := Lib.hid X4
        clear b3 hgl hg B3 G3 Q3 G4 Q4 X4 g4 CK c0 HB hn hie
        generalize w3.alloc (.cells #[.slice (some ⟨g, 0, none⟩) 1 1, .int .i64 k2] 40) = w4 at *
        have x0 := XX.out.cell 0
        have x1 := XX.out.cell 1
        have y0 := GG.out.cell 0
        have y1 := GG.out.cell 1
        have y2 := GG.out.cell 2
        have q0 := GG.out.frozen 0
        have q1 := GG.out.frozen 1
        have q2 := GG.out.frozen 2
        have u0 := QQ.out.cell 0
        have u1 := QQ.out.cell 1
        have v0 := QQ.out.frozen 0
        have v1 := QQ.out.frozen 1
        have ne1 : gX ≠ g0 := by have := HNE.out.1; omega
        have ne2 : gX ≠ g0 + 1 := by have := HNE.out.2.1; omega
        have RE := Lib.hid (res_end GG.out rfl QQ.out rfl (.slice none 0 0) (.slice none 0 0) (.slice none 0 0) (.slice (some ⟨g, 0, none⟩) 1 1) (.int .i64 k2))
        go_region
        all_goals (go_wp2_with fail)
        all_goals exact bodyPost_ret (results_row_row (fn := Tryz.f11) rfl _ _ g0 (g0 + 1) 37 40 _ _ (0, 0) (0, 0) _ _ rfl RE.out.1 Tryz.underlying37 rfl resRSize rfl RE.out.2.1 Tryz.underlying40 rfl wrongSize) rfl ⟨g, rfl, Nat.le_trans HNE.out.2.2.2.1 HGL.out, (RE.out.2.2.2 g (by have := HGL.out; have := HNE.out.2.2.1; omega) (by have := HGL.out; have := HNE.out.2.2.1; omega)).trans HG4.out, (RE.out.2.2.1 _ _ HNE.out.2.2.2.2 B4.out).drew⟩
    · obtain rfl : k = 3 := by omega
      have := chkM_none (rs := rs) fun j q hq => HI.out j q (by have := (List.getElem?_eq_some_iff.1 hq).1; rw [HL.out] at this; exact this) hq
      rw [HM.out] at this
      cases this
end Go.Proofs.YtapcnmnnichamaaGreatDoor

namespace Go.Proofs.YtapcnmnnichamaaGreatDoor
open Go Go.RowKit

theorem sD_le2 {l : List Fl} (h : ∀ x ∈ l, x.1.size ≤ 100 ∧ x.2.2.size ≤ 5000) (p : ByteArray) : (sD (getF l p)).size ≤ 20000 := by
  cases hf : getF l p with
  | none => exact Nat.zero_le _
  | some f => have := (h f (getF_mem hf)).2; show f.2.2.size ≤ 20000; omega
theorem strs_nil (w : World) : Strs w (.slice none 0 0) [] := ⟨none, 0, rfl, Nat.le_refl _, Nat.zero_le _, fun _ => rfl, fun _ h => by cases h⟩
def ReadsAll (W : World) (vf ve vc : Value) (fs : List Fl) (es : List En) (cs : List ByteArray) : Prop := Reads 3 cF W vf fs ∧ Reads 6 cE W ve es ∧ Strs W vc cs
theorem ReadsAll.below {w w' : World} {vf ve vc : Value} {fs : List Fl} {es : List En} {cs : List ByteArray} (h : ReadsAll w vf ve vc fs es cs) (hb : Below w.heap.size w w') : ReadsAll w' vf ve vc fs es cs := ⟨h.1.below hb, h.2.1.below hb, h.2.2.below hb⟩
theorem strs_alloc {w : World} {v : Value} {ss : List ByteArray} (h : Strs w v ss) (o : Obj) : Strs (w.alloc o) v ss := h.below ((Below.refl w.heap.size w).alloc (Nat.le_refl _) o)
theorem FaultOf.below {F : Nat} {p : ByteArray} {n e : Int} {w w' : World} (h : FaultOf F p n e w) (hb : Below w.heap.size w w') : FaultOf F p n e w' := (hb.block F (Array.getElem?_eq_some_iff.1 h).1).trans h
theorem FaultOf.alloc {F : Nat} {p : ByteArray} {n e : Int} {w : World} (h : FaultOf F p n e w) (o : Obj) : FaultOf F p n e (w.alloc o) := FaultOf.below h ((Below.refl w.heap.size w).alloc (Nat.le_refl _) o)
theorem chkM_vals {b o t : List Fl} {v1 v2 v3 : Value} {r : Nat × Int} (h : chkM [(v1, b), (v2, o), (v3, t)] = some r) (u1 u2 u3 : Value) : chkM [(u1, b), (u2, o), (u3, t)] = some r := h
theorem chkM_14 {b o t : List Fl} {v1 v2 v3 : Value} {i : Nat} {k : Int} (h : chkM [(v1, b), (v2, o), (v3, t)] = some (i, k)) : To14 k ∧ i ≤ 64 := by
  unfold chkM at h
  obtain ⟨a, _, ha⟩ := List.exists_of_findSome?_eq_some h
  exact chkF_14 ha
set_option maxRecDepth 100000 in
set_option maxHeartbeats 8000000 in
theorem treesMerge_any (w : World) (hE : ErrType w) (vb vo vt : Value) (b o t : List Fl) (x y : ByteArray) (hb : Reads 3 cF w vb b) (ho : Reads 3 cF w vo o) (ht : Reads 3 cF w vt t) :
    Calls Tryz.prog 3 #[vb, vo, vt, .string x, .string y] w fun e w' => e = .returned (.bool true) ∧ Below w.heap.size w w' := by
  have KN := Lib.hid (known16_yes w)
  have RW := Lib.hid fun W (hW : Below w.heap.size w W) => (⟨hb.below hW, ho.below hW, ht.below hW⟩ : Reads 3 cF W vb b ∧ Reads 3 cF W vo o ∧ Reads 3 cF W vt t)
  have HET := Lib.hid fun W (hW : Below w.heap.size w W) => (show ErrType W from (hW.cell (World.block_lt_of_cell? _ _ hE)).trans hE)
  obtain ⟨Ab, cb', rfl⟩ := hb.form
  obtain ⟨Ao, co, rfl⟩ := ho.form
  obtain ⟨At, ct, rfl⟩ := ht.form
  clear hb ho ht hE
  go_enter Tryz.func3, Tryz.ntmps3
  go_wp2_with fail
  refine KN.out.mono ?_
  rintro e w0 ⟨rfl, b0⟩
  have B0 := Lib.hid b0
  clear KN b0
  have C1 := Lib.hid (fewF_any w0 _ b (RW.out _ B0.out).1)
  go_wp2_with fail
  refine C1.out.mono ?_
  rintro e w1 ⟨f1, rfl, hf1, q1, hq1⟩
  have B1 := Lib.hid (show Below w.heap.size w w1 by rw [hq1]; exact below_drewN B0.out q1)
  have Fb := Lib.hid hf1
  clear hf1 hq1 C1 B0
  cases f1 with
  | false =>
    go_wp2
    go_ret
    exact ⟨rfl, B1.out⟩
  | true =>
    have Sb := Lib.hid (show SizedD b from fun x hx => by have := (Fb.out rfl).2 x hx; omega)
    have Nb := Lib.hid (show b.length ≤ 100000 by have := (Fb.out rfl).1; omega)
    have Db := Lib.hid fun p => sD_le2 (Fb.out rfl).2 p
    have C2 := Lib.hid (fewF_any w1 _ o (RW.out _ B1.out).2.1)
    go_wp2_with fail
    refine C2.out.mono ?_
    rintro e w2 ⟨f2, rfl, hf2, q2, hq2⟩
    have B2 := Lib.hid (show Below w.heap.size w w2 by rw [hq2]; exact below_drewN B1.out q2)
    have Fo := Lib.hid hf2
    clear hf2 hq2 C2 B1
    cases f2 with
    | false =>
      go_wp2
      go_ret
      exact ⟨rfl, B2.out⟩
    | true =>
      have So := Lib.hid (show SizedD o from fun x hx => by have := (Fo.out rfl).2 x hx; omega)
      have No := Lib.hid (show o.length ≤ 100000 by have := (Fo.out rfl).1; omega)
      have Do := Lib.hid fun p => sD_le2 (Fo.out rfl).2 p
      have C3 := Lib.hid (fewF_any w2 _ t (RW.out _ B2.out).2.2)
      go_wp2_with fail
      refine C3.out.mono ?_
      rintro e w3 ⟨f3, rfl, hf3, q3, hq3⟩
      have B3 := Lib.hid (show Below w.heap.size w w3 by rw [hq3]; exact below_drewN B2.out q3)
      have Ft := Lib.hid hf3
      clear hf3 hq3 C3 B2
      cases f3 with
      | false =>
        go_wp2
        go_ret
        exact ⟨rfl, B3.out⟩
      | true =>
        have St := Lib.hid (show SizedD t from fun x hx => by have := (Ft.out rfl).2 x hx; omega)
        have Nt := Lib.hid (show t.length ≤ 100000 by have := (Ft.out rfl).1; omega)
        have Dt := Lib.hid fun p => sD_le2 (Ft.out rfl).2 p
        have C4 := Lib.hid (short_any w3 _ b (RW.out _ B3.out).1)
        go_wp2_with fail
        refine C4.out.mono ?_
        rintro e w4 ⟨f4, rfl, hq4⟩
        have B4 := Lib.hid (show Below w.heap.size w w4 by rw [hq4]; exact B3.out)
        clear hq4 C4 B3
        cases f4 with
        | false =>
          go_wp2
          go_ret
          exact ⟨rfl, B4.out⟩
        | true =>
          have C5 := Lib.hid (short_any w4 _ o (RW.out _ B4.out).2.1)
          go_wp2_with fail
          refine C5.out.mono ?_
          rintro e w5 ⟨f5, rfl, hq5⟩
          have B5 := Lib.hid (show Below w.heap.size w w5 by rw [hq5]; exact B4.out)
          clear hq5 C5 B4
          cases f5 with
          | false =>
            go_wp2
            go_ret
            exact ⟨rfl, B5.out⟩
          | true =>
            have C6 := Lib.hid (short_any w5 _ t (RW.out _ B5.out).2.2)
            go_wp2_with fail
            refine C6.out.mono ?_
            rintro e w6 ⟨f6, rfl, hq6⟩
            have B6 := Lib.hid (show Below w.heap.size w w6 by rw [hq6]; exact B5.out)
            clear hq6 C6 B5
            cases f6 with
            | false =>
              go_wp2
              go_ret
              exact ⟨rfl, B6.out⟩
            | true =>
              have O1 := Lib.hid fun W (hW : Below w.heap.size w W) => lawOf_any W _ b (RW.out W hW).1 Nb.out
              have O2 := Lib.hid fun W (hW : Below w.heap.size w W) => lawOf_any W _ o (RW.out W hW).2.1 No.out
              have O3 := Lib.hid fun W (hW : Below w.heap.size w W) => lawOf_any W _ t (RW.out W hW).2.2 Nt.out
              unfold OwnTo at O1 O2 O3
              by_cases hx : (50 : Int) < (x.size : Int)
              · go_wp2
                go_ret
                exact ⟨rfl, B6.out⟩
              by_cases hy : (50 : Int) < (y.size : Int)
              · go_wp2
                go_ret
                exact ⟨rfl, B6.out⟩
              have lx : x.size ≤ 1000 := by omega
              have ly : y.size ≤ 1000 := by omega
              have LXY := Lib.hid (And.intro lx ly)
              clear lx ly
              cases hm : chkM [(Value.slice Ab b.length cb', b), (Value.slice Ao o.length co, o), (Value.slice At t.length ct, t)] with
              | some ik =>
                obtain ⟨ix, kx⟩ := ik
                have MB := Lib.hid (merge_bad w6 _ _ _ b o t x y (RW.out _ B6.out).1 (RW.out _ B6.out).2.1 (RW.out _ B6.out).2.2 Sb.out So.out St.out Nb.out No.out Nt.out ix kx hm)
                have RB := Lib.hid fun W (v1 v2 v3 : Value) (h1 : Reads 3 cF W v1 b) (h2 : Reads 3 cF W v2 o) (h3 : Reads 3 cF W v3 t) => refMerge_bad W v1 v2 v3 b o t x y h1 h2 h3 Sb.out So.out St.out Nb.out No.out Nt.out ix kx (chkM_vals hm v1 v2 v3)
                have H14 := Lib.hid (chkM_14 hm)
                clear hm
                go_wp2_with fail
                clear hx hy
                refine MB.out.mono ?_
                rintro e w8 ⟨F, rfl, _, hF, b8⟩
                have X8 := Lib.hid (Blk.new w8 29 #[.slice none 0 0, .slice none 0 0, .slice none 0 0])
                have FA := Lib.hid (FaultOf.alloc hF (.cells #[.slice none 0 0, .slice none 0 0, .slice none 0 0] 29))
                have B9 := Lib.hid ((B6.out.trans (b8.mono B6.out.size)).alloc (Nat.le_trans B6.out.size b8.size) (.cells #[.slice none 0 0, .slice none 0 0, .slice none 0 0] 29))
                clear b8 hF MB B6
                go_wp2_with fail
                obtain ⟨g9, hg9⟩ : ∃ g, g = w8.heap.size := ⟨_, rfl⟩
                rw [← hg9] at X8 ⊢
                clear hg9
                generalize hW9 : w8.alloc (.cells #[.slice none 0 0, .slice none 0 0, .slice none 0 0] 29) = w9 at *
                clear hW9
                refine (O1.out _ B9.out).mono ?_
                rintro e u1 ⟨y1, rfl, r1, c1⟩
                have E1 := Lib.hid (B9.out.trans (c1.mono B9.out.size))
                have X81 := Lib.hid (X8.out.below c1 X8.out.lt)
                have FA1 := Lib.hid (FA.out.below c1)
                have Q1 := Lib.hid (Reads.of_own (enc := cF) (fun _ => rfl) r1)
                obtain ⟨A1, d1, rfl⟩ := own_form r1
                clear r1 c1 B9 X8 FA
                go_wp2_with fail
                refine (O2.out _ E1.out).mono ?_
                rintro e u2 ⟨y2, rfl, r2, c2⟩
                have E2 := Lib.hid (E1.out.trans (c2.mono E1.out.size))
                have X82 := Lib.hid (X81.out.below c2 X81.out.lt)
                have FA2 := Lib.hid (FA1.out.below c2)
                have Q1b := Lib.hid (Q1.out.below c2)
                have Q2 := Lib.hid (Reads.of_own (enc := cF) (fun _ => rfl) r2)
                obtain ⟨A2, d2, rfl⟩ := own_form r2
                clear r2 c2 E1 Q1 X81 FA1
                go_wp2_with fail
                refine (O3.out _ E2.out).mono ?_
                rintro e u3 ⟨y3, rfl, r3, c3⟩
                have P5 := Lib.hid (E2.out.trans (c3.mono E2.out.size))
                have X84 := Lib.hid (X82.out.below c3 X82.out.lt)
                have FA4 := Lib.hid (FA2.out.below c3)
                have P4 := Lib.hid (And.intro (Q1b.out.below c3) (And.intro (Q2.out.below c3) (Reads.of_own (enc := cF) (fun _ => rfl) r3)))
                obtain ⟨A3, d3, rfl⟩ := own_form r3
                clear r3 c3 E2 Q1b Q2 X82 FA2
                go_wp2_with fail
                refine (RB.out _ _ _ _ P4.out.1 P4.out.2.1 P4.out.2.2).mono ?_
                rintro e u8 ⟨g, rfl, _, hg, c8⟩
                have RA := Lib.hid (FA4.out.below c8)
                have XB := Lib.hid (X84.out.below c8 X84.out.lt)
                have HG := Lib.hid hg
                have EB := Lib.hid (P5.out.trans (c8.mono P5.out.size))
                clear hg c8 FA4 X84 P4 P5
                have XC := Lib.hid ((XB.out.alloc (.cells #[.slice none 0 0, .slice none 0 0, .slice none 0 0] 37)).alloc (.cells #[.slice (some ⟨g, 0, none⟩) 1 1, .int .i64 kx] 40))
                have Y1 := Lib.hid ((Blk.new u8 37 #[.slice none 0 0, .slice none 0 0, .slice none 0 0]).alloc (.cells #[.slice (some ⟨g, 0, none⟩) 1 1, .int .i64 kx] 40))
                have Y2 := Blk.new (u8.alloc (.cells #[.slice none 0 0, .slice none 0 0, .slice none 0 0] 37)) 40 #[.slice (some ⟨g, 0, none⟩) 1 1, .int .i64 kx]
                have BB := Lib.hid (((Below.refl u8.heap.size u8).alloc (Nat.le_refl _) (.cells #[.slice none 0 0, .slice none 0 0, .slice none 0 0] 37)).alloc (by simp) (.cells #[.slice (some ⟨g, 0, none⟩) 1 1, .int .i64 kx] 40))
                obtain ⟨gA, hgA⟩ : ∃ g, g = u8.heap.size := ⟨_, rfl⟩
                rw [show (u8.alloc (.cells #[.slice none 0 0, .slice none 0 0, .slice none 0 0] 37)).heap.size = gA + 1 by rw [hgA]; simp] at Y2
                have Y2h := Lib.hid Y2
                have HGA := Lib.hid hgA
                rw [← hgA] at Y1
                clear Y2 hgA
                go_upto_region 7 with fail
                rw [← HGA.out]
                obtain ⟨uA, huA⟩ : ∃ W, W = (u8.alloc (.cells #[.slice none 0 0, .slice none 0 0, .slice none 0 0] 37)).alloc (.cells #[.slice (some ⟨g, 0, none⟩) 1 1, .int .i64 kx] 40) := ⟨_, rfl⟩
                rw [← huA] at XC Y1 Y2h BB ⊢
                have EC := Lib.hid (EB.out.trans (BB.out.mono EB.out.size))
                have RA2 := Lib.hid (RA.out.below BB.out)
                have HG2 := Lib.hid (HG.out.below BB.out HG.out.lt)
                have TL := Lib.hid (tells_two uA ix kx F g (HET.out _ EC.out) H14.out RA2.out HG2.out)
                have RS := Lib.hid fun W => result_any W _ _ _ _ _ _ [] [] [] (Reads.nil W) (Reads.nil W) (strs_nil W) (Reads.nil W) (Reads.nil W) (strs_nil W) (by simp) (by simp)
                have y0 := Y2h.out.cell 0
                have y1 := Y2h.out.cell 1
                clear huA RA EB BB HGA
                unfold TrueTo at TL RS
                go_wp2_with fail
                refine TL.out.mono ?_
                rintro e uB ⟨rfl, bB⟩
                have ED := Lib.hid (EC.out.trans (bB.mono EC.out.size))
                have x0 := (XC.out.below bB XC.out.lt).cell 0
                have x1 := (XC.out.below bB XC.out.lt).cell 1
                have x2 := (XC.out.below bB XC.out.lt).cell 2
                have z0 := (Y1.out.below bB Y1.out.lt).cell 0
                have z1 := (Y1.out.below bB Y1.out.lt).cell 1
                have z2 := (Y1.out.below bB Y1.out.lt).cell 2
                have RS1 := Lib.hid (RS.out uB)
                clear RS TL y0 y1 bB XC Y1 Y2h
                go_wp2_with fail
                refine RS1.out.mono ?_
                rintro e uC ⟨rfl, bC⟩
                have EE := Lib.hid (ED.out.trans (bC.mono ED.out.size))
                clear bC RS1 x0 x1 x2 z0 z1 z2
                go_wp2
                go_ret
                exact ⟨rfl, EE.out⟩
              | none =>
                have KK := hm
                unfold chkM at KK
                rw [List.findSome?_eq_none_iff] at KK
                have Kb := Lib.hid (show chkF b = none from KK (Value.slice Ab b.length cb', b) (by simp))
                have Ko := Lib.hid (show chkF o = none from KK (Value.slice Ao o.length co, o) (by simp))
                have Kt := Lib.hid (show chkF t = none from KK (Value.slice At t.length ct, t) (by simp))
                clear hm KK
                obtain ⟨P, hP⟩ : ∃ P, P = pathsP b o t := ⟨_, rfl⟩
                have PL := Lib.hid (show P.length ≤ 192 by rw [hP]; have := pathsP_len b o t; have := chkF_len Kb.out; have := chkF_len Ko.out; have := chkF_len Kt.out; omega)
                have MG := merge_any w6 _ _ _ b o t x y (RW.out _ B6.out).1 (RW.out _ B6.out).2.1 (RW.out _ B6.out).2.2 Kb.out Ko.out Kt.out Sb.out So.out St.out
                  (fun p => txV (sD (getF b p)) (sD (getF o p)) (sD (getF t p)) x y)
                  (fun p _ _ _ _ W => text_says _ _ _ _ _ (Db.out p) (Do.out p) (Dt.out p) LXY.out.1 LXY.out.2 W)
                  (fun p s k h => txV_bound _ _ _ _ _ (Db.out p) (Do.out p) (Dt.out p) LXY.out.1 LXY.out.2 s k h)
                have RM := fun W (v1 v2 v3 : Value) (h1 : Reads 3 cF W v1 b) (h2 : Reads 3 cF W v2 o) (h3 : Reads 3 cF W v3 t) => refMerge_any W v1 v2 v3 b o t x y h1 h2 h3 Kb.out Ko.out Kt.out Sb.out So.out St.out
                  (fun p => txV (sD (getF b p)) (sD (getF o p)) (sD (getF t p)) x y)
                  (fun p _ _ _ _ W => ref_says _ _ _ _ _ (Db.out p) (Do.out p) (Dt.out p) LXY.out.1 LXY.out.2 W)
                  (fun p s k h => txV_bound _ _ _ _ _ (Db.out p) (Do.out p) (Dt.out p) LXY.out.1 LXY.out.2 s k h)
                rw [← hP] at MG RM
                obtain ⟨E, hE⟩ : ∃ E : ByteArray → List En, E = fun p => entV p (getF b p) (getF o p) (getF t p) := ⟨_, rfl⟩
                rw [← hE] at MG RM
                obtain ⟨F, hF⟩ : ∃ F : OneF, F = fun p => oneV (txV (sD (getF b p)) (sD (getF o p)) (sD (getF t p)) x y) p (getF b p) (getF o p) (getF t p) := ⟨_, rfl⟩
                rw [← hF] at MG RM
                obtain ⟨cs, hcs⟩ : ∃ cs, cs = mrgC F P := ⟨_, rfl⟩
                obtain ⟨es, hes⟩ : ∃ es, es = mrgE F E P := ⟨_, rfl⟩
                obtain ⟨fs, hfs⟩ : ∃ fs, fs = mrgF F P := ⟨_, rfl⟩
                have FL := Lib.hid (show fs.length ≤ 100000 by rw [hfs]; have := mrgF_len F P; have := PL.out; omega)
                have EL := Lib.hid (show es.length ≤ 100000 by rw [hes]; have := mrgE_len F E (fun p => by rw [hE]; exact entV_len _ _ _ _) P; have := PL.out; omega)
                rw [← hcs, ← hes, ← hfs] at MG RM
                have MG1 := Lib.hid MG
                have RM1 := Lib.hid RM
                clear MG RM hP hE hF hcs hes hfs PL Kb Ko Kt
                go_wp2_with fail
                clear hx hy
                refine MG1.out.mono ?_
                rintro e w8 (⟨hn, vf, ve, vc, rfl, of, oe, oc, b8⟩ | ⟨ix, kx, Fb, hn, rfl, _, hF, b8⟩)
                case inr =>
                  have HN := Lib.hid hn
                  have H14 := Lib.hid (way_14 hn)
                  have X8 := Lib.hid (Blk.new w8 29 #[.slice none 0 0, .slice none 0 0, .slice none 0 0])
                  have FA := Lib.hid (FaultOf.alloc hF (.cells #[.slice none 0 0, .slice none 0 0, .slice none 0 0] 29))
                  have B9 := Lib.hid ((B6.out.trans (b8.mono B6.out.size)).alloc (Nat.le_trans B6.out.size b8.size) (.cells #[.slice none 0 0, .slice none 0 0, .slice none 0 0] 29))
                  clear b8 hF MG1 B6 hn
                  go_wp2_with fail
                  obtain ⟨g9, hg9⟩ : ∃ g, g = w8.heap.size := ⟨_, rfl⟩
                  rw [← hg9] at X8 ⊢
                  clear hg9
                  generalize hW9 : w8.alloc (.cells #[.slice none 0 0, .slice none 0 0, .slice none 0 0] 29) = w9 at *
                  clear hW9
                  refine (O1.out _ B9.out).mono ?_
                  rintro e u1 ⟨y1, rfl, r1, c1⟩
                  have E1 := Lib.hid (B9.out.trans (c1.mono B9.out.size))
                  have X81 := Lib.hid (X8.out.below c1 X8.out.lt)
                  have FA1 := Lib.hid (FA.out.below c1)
                  have Q1 := Lib.hid (Reads.of_own (enc := cF) (fun _ => rfl) r1)
                  obtain ⟨A1, d1, rfl⟩ := own_form r1
                  clear r1 c1 B9 X8 FA
                  go_wp2_with fail
                  refine (O2.out _ E1.out).mono ?_
                  rintro e u2 ⟨y2, rfl, r2, c2⟩
                  have E2 := Lib.hid (E1.out.trans (c2.mono E1.out.size))
                  have X82 := Lib.hid (X81.out.below c2 X81.out.lt)
                  have FA2 := Lib.hid (FA1.out.below c2)
                  have Q1b := Lib.hid (Q1.out.below c2)
                  have Q2 := Lib.hid (Reads.of_own (enc := cF) (fun _ => rfl) r2)
                  obtain ⟨A2, d2, rfl⟩ := own_form r2
                  clear r2 c2 E1 Q1 X81 FA1
                  go_wp2_with fail
                  refine (O3.out _ E2.out).mono ?_
                  rintro e u3 ⟨y3, rfl, r3, c3⟩
                  have P5 := Lib.hid (E2.out.trans (c3.mono E2.out.size))
                  have X84 := Lib.hid (X82.out.below c3 X82.out.lt)
                  have FA4 := Lib.hid (FA2.out.below c3)
                  have P4 := Lib.hid (And.intro (Q1b.out.below c3) (And.intro (Q2.out.below c3) (Reads.of_own (enc := cF) (fun _ => rfl) r3)))
                  obtain ⟨A3, d3, rfl⟩ := own_form r3
                  clear r3 c3 E2 Q1b Q2 X82 FA2
                  go_wp2_with fail
                  refine (RM1.out _ _ _ _ P4.out.1 P4.out.2.1 P4.out.2.2).mono ?_
                  rintro e u8 (⟨hn, _⟩ | ⟨i2, k2, g, hn, rfl, _, hg, c8⟩)
                  · rw [HN.out] at hn
                    cases hn
                  · obtain ⟨rfl, rfl⟩ : ix = i2 ∧ kx = k2 := by
                      rw [HN.out] at hn
                      have := Option.some.inj hn
                      exact ⟨congrArg Prod.fst this, congrArg Prod.snd this⟩
                    clear hn
                    have RA := Lib.hid (FA4.out.below c8)
                    have XB := Lib.hid (X84.out.below c8 X84.out.lt)
                    have HG := Lib.hid hg
                    have EB := Lib.hid (P5.out.trans (c8.mono P5.out.size))
                    clear hg c8 FA4 X84 P4 P5
                    have XC := Lib.hid ((XB.out.alloc (.cells #[.slice none 0 0, .slice none 0 0, .slice none 0 0] 37)).alloc (.cells #[.slice (some ⟨g, 0, none⟩) 1 1, .int .i64 kx] 40))
                    have Y1 := Lib.hid ((Blk.new u8 37 #[.slice none 0 0, .slice none 0 0, .slice none 0 0]).alloc (.cells #[.slice (some ⟨g, 0, none⟩) 1 1, .int .i64 kx] 40))
                    have Y2 := Blk.new (u8.alloc (.cells #[.slice none 0 0, .slice none 0 0, .slice none 0 0] 37)) 40 #[.slice (some ⟨g, 0, none⟩) 1 1, .int .i64 kx]
                    have BB := Lib.hid (((Below.refl u8.heap.size u8).alloc (Nat.le_refl _) (.cells #[.slice none 0 0, .slice none 0 0, .slice none 0 0] 37)).alloc (by simp) (.cells #[.slice (some ⟨g, 0, none⟩) 1 1, .int .i64 kx] 40))
                    obtain ⟨gA, hgA⟩ : ∃ g, g = u8.heap.size := ⟨_, rfl⟩
                    rw [show (u8.alloc (.cells #[.slice none 0 0, .slice none 0 0, .slice none 0 0] 37)).heap.size = gA + 1 by rw [hgA]; simp] at Y2
                    have Y2h := Lib.hid Y2
                    have HGA := Lib.hid hgA
                    rw [← hgA] at Y1
                    clear Y2 hgA
                    go_upto_region 7 with fail
                    rw [← HGA.out]
                    obtain ⟨uA, huA⟩ : ∃ W, W = (u8.alloc (.cells #[.slice none 0 0, .slice none 0 0, .slice none 0 0] 37)).alloc (.cells #[.slice (some ⟨g, 0, none⟩) 1 1, .int .i64 kx] 40) := ⟨_, rfl⟩
                    rw [← huA] at XC Y1 Y2h BB ⊢
                    have EC := Lib.hid (EB.out.trans (BB.out.mono EB.out.size))
                    have RA2 := Lib.hid (RA.out.below BB.out)
                    have HG2 := Lib.hid (HG.out.below BB.out HG.out.lt)
                    have TL := Lib.hid (tells_two uA ix kx Fb g (HET.out _ EC.out) H14.out RA2.out HG2.out)
                    have RS := Lib.hid fun W => result_any W _ _ _ _ _ _ [] [] [] (Reads.nil W) (Reads.nil W) (strs_nil W) (Reads.nil W) (Reads.nil W) (strs_nil W) (by simp) (by simp)
                    have y0 := Y2h.out.cell 0
                    have y1 := Y2h.out.cell 1
                    clear huA RA EB BB HGA
                    unfold TrueTo at TL RS
                    go_wp2_with fail
                    refine TL.out.mono ?_
                    rintro e uB ⟨rfl, bB⟩
                    have ED := Lib.hid (EC.out.trans (bB.mono EC.out.size))
                    have x0 := (XC.out.below bB XC.out.lt).cell 0
                    have x1 := (XC.out.below bB XC.out.lt).cell 1
                    have x2 := (XC.out.below bB XC.out.lt).cell 2
                    have z0 := (Y1.out.below bB Y1.out.lt).cell 0
                    have z1 := (Y1.out.below bB Y1.out.lt).cell 1
                    have z2 := (Y1.out.below bB Y1.out.lt).cell 2
                    have RS1 := Lib.hid (RS.out uB)
                    clear RS TL y0 y1 bB XC Y1 Y2h
                    go_wp2_with fail
                    refine RS1.out.mono ?_
                    rintro e uC ⟨rfl, bC⟩
                    have EE := Lib.hid (ED.out.trans (bC.mono ED.out.size))
                    clear bC RS1 x0 x1 x2 z0 z1 z2
                    go_wp2
                    go_ret
                    exact ⟨rfl, EE.out⟩
                case inl =>
                  obtain ⟨Af, cf, rfl⟩ := own_form of
                  obtain ⟨Ae, ce, rfl⟩ := own_form oe
                  obtain ⟨Ac, cc, rfl⟩ := own_form oc
                  have HN := Lib.hid hn
                  have FA := Lib.hid (show ReadsAll (w8.alloc (.cells #[.slice Af fs.length cf, .slice Ae es.length ce, .slice Ac cs.length cc] 29)) (.slice Af fs.length cf) (.slice Ae es.length ce) (.slice Ac cs.length cc) fs es cs from ⟨(Reads.of_own cF_len of).alloc _, (Reads.of_own cE_len oe).alloc _, strs_alloc (Strs.of_own oc rfl) _⟩)
                  have X8 := Lib.hid (Blk.new w8 29 #[.slice Af fs.length cf, .slice Ae es.length ce, .slice Ac cs.length cc])
                  have B9 := Lib.hid ((B6.out.trans (b8.mono B6.out.size)).alloc (Nat.le_trans B6.out.size b8.size) (.cells #[.slice Af fs.length cf, .slice Ae es.length ce, .slice Ac cs.length cc] 29))
                  clear of oe oc b8 MG1 B6 hn
                  go_wp2_with fail
                  obtain ⟨g9, hg9⟩ : ∃ g, g = w8.heap.size := ⟨_, rfl⟩
                  rw [← hg9] at X8 ⊢
                  clear hg9
                  generalize hW9 : w8.alloc (.cells #[.slice Af fs.length cf, .slice Ae es.length ce, .slice Ac cs.length cc] 29) = w9 at *
                  clear hW9
                  refine (O1.out _ B9.out).mono ?_
                  rintro e u1 ⟨y1, rfl, r1, c1⟩
                  have E1 := Lib.hid (B9.out.trans (c1.mono B9.out.size))
                  have X81 := Lib.hid (X8.out.below c1 X8.out.lt)
                  have FA1 := Lib.hid (FA.out.below c1)
                  have Q1 := Lib.hid (Reads.of_own (enc := cF) (fun _ => rfl) r1)
                  obtain ⟨A1, d1, rfl⟩ := own_form r1
                  clear r1 c1 B9 X8 FA
                  go_wp2_with fail
                  refine (O2.out _ E1.out).mono ?_
                  rintro e u2 ⟨y2, rfl, r2, c2⟩
                  have E2 := Lib.hid (E1.out.trans (c2.mono E1.out.size))
                  have X82 := Lib.hid (X81.out.below c2 X81.out.lt)
                  have FA2 := Lib.hid (FA1.out.below c2)
                  have Q1b := Lib.hid (Q1.out.below c2)
                  have Q2 := Lib.hid (Reads.of_own (enc := cF) (fun _ => rfl) r2)
                  obtain ⟨A2, d2, rfl⟩ := own_form r2
                  clear r2 c2 E1 Q1 X81 FA1
                  go_wp2_with fail
                  refine (O3.out _ E2.out).mono ?_
                  rintro e u3 ⟨y3, rfl, r3, c3⟩
                  have P5 := Lib.hid (E2.out.trans (c3.mono E2.out.size))
                  have X84 := Lib.hid (X82.out.below c3 X82.out.lt)
                  have FA4 := Lib.hid (FA2.out.below c3)
                  have P4 := Lib.hid (And.intro (Q1b.out.below c3) (And.intro (Q2.out.below c3) (Reads.of_own (enc := cF) (fun _ => rfl) r3)))
                  obtain ⟨A3, d3, rfl⟩ := own_form r3
                  clear r3 c3 E2 Q1b Q2 X82 FA2
                  go_wp2_with fail
                  refine (RM1.out _ _ _ _ P4.out.1 P4.out.2.1 P4.out.2.2).mono ?_
                  rintro e u8 (⟨_, uf, ue, uc, rfl, pf, pe, pc, c8⟩ | ⟨i2, k2, g, hn, _⟩)
                  case inr =>
                    rw [HN.out] at hn
                    cases hn
                  case inl =>
                    obtain ⟨Bf, df, rfl⟩ := own_form pf
                    obtain ⟨Be, de, rfl⟩ := own_form pe
                    obtain ⟨Bc, dc, rfl⟩ := own_form pc
                    have RA := Lib.hid (FA4.out.below c8)
                    have XB := Lib.hid (X84.out.below c8 X84.out.lt)
                    have RB2 := Lib.hid (show ReadsAll u8 (.slice Bf fs.length df) (.slice Be es.length de) (.slice Bc cs.length dc) fs es cs from ⟨Reads.of_own cF_len pf, Reads.of_own cE_len pe, Strs.of_own pc rfl⟩)
                    have EB := Lib.hid (P5.out.trans (c8.mono P5.out.size))
                    clear pf pe pc c8 FA4 X84 P4 P5
                    have XC := Lib.hid ((XB.out.alloc (.cells #[.slice Bf fs.length df, .slice Be es.length de, .slice Bc cs.length dc] 37)).alloc (.cells #[.slice none 0 0, .int .i64 0] 40))
                    have Y1 := Lib.hid ((Blk.new u8 37 #[.slice Bf fs.length df, .slice Be es.length de, .slice Bc cs.length dc]).alloc (.cells #[.slice none 0 0, .int .i64 0] 40))
                    have Y2 := Blk.new (u8.alloc (.cells #[.slice Bf fs.length df, .slice Be es.length de, .slice Bc cs.length dc] 37)) 40 #[.slice none 0 0, .int .i64 0]
                    have BB := Lib.hid (((Below.refl u8.heap.size u8).alloc (Nat.le_refl _) (.cells #[.slice Bf fs.length df, .slice Be es.length de, .slice Bc cs.length dc] 37)).alloc (by simp) (.cells #[.slice none 0 0, .int .i64 0] 40))
                    obtain ⟨gA, hgA⟩ : ∃ g, g = u8.heap.size := ⟨_, rfl⟩
                    rw [show (u8.alloc (.cells #[.slice Bf fs.length df, .slice Be es.length de, .slice Bc cs.length dc] 37)).heap.size = gA + 1 by rw [hgA]; simp] at Y2
                    have Y2h := Lib.hid Y2
                    have HGA := Lib.hid hgA
                    rw [← hgA] at Y1
                    clear Y2 hgA
                    go_upto_region 7 with fail
                    rw [← HGA.out]
                    obtain ⟨uA, huA⟩ : ∃ W, W = (u8.alloc (.cells #[.slice Bf fs.length df, .slice Be es.length de, .slice Bc cs.length dc] 37)).alloc (.cells #[.slice none 0 0, .int .i64 0] 40) := ⟨_, rfl⟩
                    rw [← huA] at XC Y1 Y2h BB ⊢
                    have EC := Lib.hid (EB.out.trans (BB.out.mono EB.out.size))
                    have RA2 := Lib.hid (RA.out.below BB.out)
                    have RB3 := Lib.hid (RB2.out.below BB.out)
                    have TL := Lib.hid (tells_none uA)
                    have RS := Lib.hid fun W (hW : Below uA.heap.size uA W) => result_any W _ _ _ _ _ _ fs es cs (RA2.out.below hW).1 (RA2.out.below hW).2.1 (RA2.out.below hW).2.2 (RB3.out.below hW).1 (RB3.out.below hW).2.1 (RB3.out.below hW).2.2 FL.out EL.out
                    have y0 := Y2h.out.cell 0
                    have y1 := Y2h.out.cell 1
                    clear huA RA EB BB HGA
                    unfold TrueTo at TL RS
                    go_wp2_with fail
                    refine TL.out.mono ?_
                    rintro e uB ⟨rfl, bB⟩
                    have ED := Lib.hid (EC.out.trans (bB.mono EC.out.size))
                    have x0 := (XC.out.below bB XC.out.lt).cell 0
                    have x1 := (XC.out.below bB XC.out.lt).cell 1
                    have x2 := (XC.out.below bB XC.out.lt).cell 2
                    have z0 := (Y1.out.below bB Y1.out.lt).cell 0
                    have z1 := (Y1.out.below bB Y1.out.lt).cell 1
                    have z2 := (Y1.out.below bB Y1.out.lt).cell 2
                    have RS1 := Lib.hid (RS.out uB bB)
                    clear RS TL y0 y1 bB XC Y1 Y2h
                    go_wp2_with fail
                    refine RS1.out.mono ?_
                    rintro e uC ⟨rfl, bC⟩
                    have EE := Lib.hid (ED.out.trans (bC.mono ED.out.size))
                    clear bC RS1 x0 x1 x2 z0 z1 z2
                    go_wp2
                    go_ret
                    exact ⟨rfl, EE.out⟩
end Go.Proofs.YtapcnmnnichamaaGreatDoor
