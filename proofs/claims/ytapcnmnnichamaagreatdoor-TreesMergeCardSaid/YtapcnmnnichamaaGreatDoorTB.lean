/-
  appends of entries; slices.Clone of entries.
  tmerge: the stages of a path that clashes.
  tmerge: checkWays: what is too many, or clashes.
  tmerge: what three trees make, path by path; the result as it grows.
-/
import Derived.Test.YtapcnmnnichamaaGreatDoorFApp
import Derived.Lib.SliceRun
import Derived.Test.YtapcnmnnichamaaGreatDoorTA
import Derived.Test.YtapcnmnnichamaaGreatDoorFCheck

namespace Go.Proofs.YtapcnmnnichamaaGreatDoor
open Go.RowKit

theorem cE_one (l : List En) : ∀ u ∈ l.flatMap cE, u.oneCell' = true := fun u hu => by
  obtain ⟨f, _, hf⟩ := List.mem_flatMap.1 hu
  simp [cE] at hf
  rcases hf with rfl | rfl | rfl | rfl | rfl | rfl <;> rfl

theorem run_append_ents (w : World) (ty : TypeId) (base : Nat) (v : Value) (xs ys : List En) (hown : w.ownsRow base 100 6 v xs.length (xs.flatMap cE)) (A : Option Addr) (m c : Nat) (h : Reads 6 cE w (.slice A m c) ys) (hl : xs.length + ys.length ≤ 1000000) (hbase : base ≤ w.heap.size) :
    ∃ A' c' w', (Builtin.append_ #[26, 26] ty #[v, .slice A m c]).run Tryz.prog w = .ok (.slice A' (xs ++ ys).length c') w' ∧ w'.ownsRow base 100 6 (.slice A' (xs ++ ys).length c') (xs ++ ys).length ((xs ++ ys).flatMap cE) ∧ Below base w w' ∧ w.grownBy w' v.ownBlock := by
  obtain ⟨i0, hi, hz0, hz1, hz2⟩ := info_parts entryInfo
  obtain ⟨hm, hmc, hcm⟩ := h.len
  cases A with
  | none =>
    obtain ⟨A', c', hv, h1, h2, h3, h4⟩ := h
    injection hv with e1 e2 e3
    subst e1; subst e3
    have hc := h3 rfl
    subst hc
    have hm0 : m = 0 := by omega
    subst hm0
    have : ys = [] := List.eq_nil_of_length_eq_zero (by omega)
    subst this
    obtain ⟨A', c', rfl⟩ := own_form hown
    have hr := run_append_owned_none (P := Tryz.prog) (w := w) base 26 ty 100 i0 6 Tryz.underlying26 hi _ _ _ hown
    rw [List.append_nil]
    exact ⟨A', c', w, hr, hown, Below.refl _ _, World.grownBy.refl _ _⟩
  | some ad =>
    obtain ⟨v', w', hr, ho, hg, _⟩ := run_append_own (P := Tryz.prog) w base 26 ty 100 i0 (.agg #[.string ⟨#[]⟩, .int .i64 0, .int .i64 0, .string ⟨#[]⟩, .int .i64 0, .int .i64 0]) 6 64 Tryz.underlying26 hi hz0 hz1 hz2 rfl (by decide) v xs.length (xs.flatMap cE) hown ad m c (ys.flatMap cE) (by rw [flat_len cE_len, hm]) (reads_flat cE_len (by decide) h) (cE_one ys) (by unfold maxLen; omega) (by omega) hbase
    have ho2 : w'.ownsRow base 100 6 v' (xs ++ ys).length ((xs ++ ys).flatMap cE) := by rw [List.length_append, List.flatMap_append, ← hm]; exact ho
    obtain ⟨A', c', rfl⟩ := own_form ho2
    exact ⟨A', c', w', hr, ho2, (Below.refl base w).grown hg hbase fun k hk => (hown.lt k hk).1, hg⟩

theorem wpList_append_ents (w : World) {ops : Array Oper} {rest : List Oper} {o : Oper} {a : Act} {Q : Exit → Act → World → Prop} (hgd : o.guard = none) (s x : Operand)
    (ho : o.op = .call { callee := .builtin .append, args := #[s, x], argTypes := #[26, 26] })
    (base : Nat) (v : Value) (xs ys : List En) (hs : a.eval s = v) (hown : w.ownsRow base 100 6 v xs.length (xs.flatMap cE)) (A : Option Addr) (m c : Nat) (hx : a.eval x = .slice A m c) (h : Reads 6 cE w (.slice A m c) ys) (hl : xs.length + ys.length ≤ 1000000) (hbase : base ≤ w.heap.size)
    (hk : ∀ A' c' w', w'.ownsRow base 100 6 (.slice A' (xs ++ ys).length c') (xs ++ ys).length ((xs ++ ys).flatMap cE) → Below base w w' → w.grownBy w' v.ownBlock → wpList Tryz.prog ops Q rest (a.put o.dst (.slice A' (xs ++ ys).length c')) w') : wpList Tryz.prog ops Q (o :: rest) a w := by
  obtain ⟨A', c', w', hr, h2, h3, h4⟩ := run_append_ents w o.type base v xs ys hown A m c h hl hbase
  exact Lib.wpList_append_run w hgd s x _ _ ho _ _ hs hx _ _ hr (hk A' c' w' h2 h3 h4)


end Go.Proofs.YtapcnmnnichamaaGreatDoor

namespace Go.Proofs.YtapcnmnnichamaaGreatDoor
open Go Go.RowKit

def entP (p : ByteArray) (i : Nat) : Option Fl → List En
  | some f => [(p, 1 + (i : Int), f.2.1, f.2.2, 0, 0)]
  | none => []
def atR (p : ByteArray) (rs : List (Value × List Fl)) (i : Nat) : Option Fl := (rs[i]?).bind fun r => getF r.2 p
/-- The stages of the first k trees. -/
def entR (p : ByteArray) (rs : List (Value × List Fl)) (k : Nat) : List En := (List.range k).flatMap fun i => entP p i (atR p rs i)
theorem entR_snoc (p : ByteArray) (rs : List (Value × List Fl)) (k : Nat) : entR p rs (k + 1) = entR p rs k ++ entP p k (atR p rs k) := by
  unfold entR
  rw [List.range_succ, List.flatMap_append]
  simp
theorem entP_len (p : ByteArray) (i : Nat) (x : Option Fl) : (entP p i x).length ≤ 1 := by cases x <;> simp [entP]
theorem entR_len (p : ByteArray) (rs : List (Value × List Fl)) : ∀ k, (entR p rs k).length ≤ k
  | 0 => Nat.le_refl _
  | k + 1 => by
    have := entR_len p rs k
    have h2 := entP_len p k (atR p rs k)
    rw [entR_snoc, List.length_append]
    omega
/-- The stages of a path of three trees. -/
def entV (p : ByteArray) (x y z : Option Fl) : List En := entP p 0 x ++ entP p 1 y ++ entP p 2 z
theorem add_zero_off (g k : Nat) : (⟨g, 0, none⟩ : Addr).add k = ⟨g, k, none⟩ := by unfold Addr.add; split <;> simp_all
theorem trees3 (w : World) (vb vo vt : Value) (b o t : List Fl) (hb : Reads 3 cF w vb b) (ho : Reads 3 cF w vo o) (ht : Reads 3 cF w vt t) :
    Trees (w.alloc (.cells #[vb, vo, vt] 23)) ⟨w.heap.size, 0, none⟩ [(vb, b), (vo, o), (vt, t)] := fun i r hr => by
  have hh := heap_alloc_new w (.cells #[vb, vo, vt] 23)
  match i, hr with
  | 0, hr => simp at hr; subst hr; exact ⟨cell_of_row _ _ 0 _ 23 (0, 0) hh, hb.alloc _⟩
  | 1, hr => simp at hr; subst hr; exact ⟨cell_of_row _ _ 1 _ 23 (0, 0) hh, ho.alloc _⟩
  | 2, hr => simp at hr; subst hr; exact ⟨cell_of_row _ _ 2 _ 23 (0, 0) hh, ht.alloc _⟩
  | i + 3, hr => simp at hr
set_option maxRecDepth 100000 in
set_option maxHeartbeats 4000000 in
theorem entries_any (w : World) (p : ByteArray) (vb vo vt : Value) (b o t : List Fl) (hb : Reads 3 cF w vb b) (ho : Reads 3 cF w vo o) (ht : Reads 3 cF w vt t) (rb : RiseF b) (ro : RiseF o) (rt : RiseF t) (lb : b.length ≤ 100000) (lo : o.length ≤ 100000) (lt : t.length ≤ 100000) :
    Calls Tryz.prog 22 #[.string p, vb, vo, vt] w (OwnTo 100 6 cE (entV p (getF b p) (getF o p) (getF t p)) w) := by
  obtain ⟨Ab, cb, rfl⟩ := hb.form
  obtain ⟨Ao, co, rfl⟩ := ho.form
  obtain ⟨At, ct, rfl⟩ := ht.form
  have TR := Lib.hid (trees3 w _ _ _ b o t hb ho ht)
  have B1 := Lib.hid ((Below.refl w.heap.size w).alloc (Nat.le_refl _) (.cells #[.slice Ab b.length cb, .slice Ao o.length co, .slice At t.length ct] 23))
  obtain ⟨rs, hrs⟩ : ∃ rs, rs = [(Value.slice Ab b.length cb, b), (Value.slice Ao o.length co, o), (Value.slice At t.length ct, t)] := ⟨_, rfl⟩
  have RR := Lib.hid (show ∀ (i : Nat) (r : Value × List Fl), rs[i]? = some r → RiseF r.2 ∧ r.2.length ≤ 100000 from fun i r hr => by
    have : r ∈ rs := List.mem_of_getElem? hr
    rw [hrs] at this
    simp at this
    rcases this with rfl | rfl | rfl
    · exact ⟨rb, lb⟩
    · exact ⟨ro, lo⟩
    · exact ⟨rt, lt⟩)
  have HE := Lib.hid (show entR p rs 3 = entV p (getF b p) (getF o p) (getF t p) by rw [entR_snoc, entR_snoc, entR_snoc, hrs]; simp [entR, entV, atR])
  have HL := Lib.hid (show rs.length = 3 by rw [hrs]; rfl)
  rw [← hrs] at TR
  clear hrs hb ho ht rb ro rt lb lo lt
  obtain ⟨i0, hi, hz0, hz1, hz2⟩ := info_parts entryInfo
  go_enter Tryz.func22, Tryz.ntmps22
  go_wp2_with fail
  obtain ⟨g, hg⟩ : ∃ g, g = w.heap.size := ⟨_, rfl⟩
  rw [← hg] at TR ⊢
  generalize hW1 : w.alloc (.cells #[.slice Ab b.length cb, .slice Ao o.length co, .slice At t.length ct] 23) = w1 at *
  have SG := Lib.hid (show g < w1.heap.size by rw [hg, ← hW1]; simp)
  have SW := Lib.hid (show w.heap.size ≤ w1.heap.size from B1.out.size)
  clear hg hW1
  go_loopw [9, 19] (fun s9 s19 wr => ∃ k : Nat, k ≤ 3 ∧ s19 = .int .i64 k ∧ Hid (wr.ownsRow w1.heap.size 100 6 s9 (entR p rs k).length ((entR p rs k).flatMap cE)) ∧ Hid (Below w1.heap.size w1 wr)) (fun _ s19 _ => 3 - (intOf s19).toNat)
  case atStart => exact ⟨0, Nat.zero_le _, rfl, Lib.hid (World.ownsRow_nil _ _ _ _), Lib.hid (Below.refl _ _)⟩
  case round =>
    obtain ⟨k, hk, rfl, hown, HB⟩ := hrel
    have k0 : (0 : Int) ≤ (k : Int) := Int.natCast_nonneg _
    by_cases hlt : k < 3
    · obtain ⟨r, hr⟩ : ∃ r, rs[k]? = some r := ⟨_, List.getElem?_eq_getElem (by rw [HL.out]; exact hlt)⟩
      have c0 := ((TR.out.below HB.out) k r hr).1
      have hrd := (TR.out k r hr).2
      have hq := RR.out k r hr
      have HA := Lib.hid (show atR p rs k = getF r.2 p by unfold atR; rw [hr]; rfl)
      obtain ⟨rv, l⟩ := r
      dsimp only at hrd hq HA c0
      obtain ⟨A, c, hrv⟩ := hrd.form
      subst hrv
      have GT := Lib.hid (get_any wr (.slice A l.length c) l p (hrd.below HB.out) hq.1 hq.2)
      unfold Got at GT
      rw [gotV_eq] at GT
      have hk3 : (k : Int) < 3 := by omega
      rw [add_zero_off] at c0
      have ES := Lib.hid (entR_snoc p rs k)
      have EL := Lib.hid (entR_len p rs k)
      rw [HA.out] at ES
      clear hr hrd hq
      obtain ⟨x, hx⟩ : ∃ x, x = getF l p := ⟨_, rfl⟩
      rw [← hx] at GT ES
      clear hx HA
      cases x with
      | none =>
        have HN := Lib.hid (show entR p rs (k + 1) = entR p rs k by rw [ES.out]; simp [entP])
        go_wp2_with (go_at_call 44; refine GT.out.mono ?_; rintro e w2 ⟨rfl, b2⟩; have B2 := Lib.hid (HB.out.trans (b2.mono HB.out.size)); have O2 := Lib.hid (own_keep hown.out b2); clear b2)
        go_roundw
        case rel => exact ⟨k + 1, by omega, by go_num, Lib.hid (by rw [HN.out]; exact O2.out.alloc _), Lib.hid (B2.out.alloc B2.out.size _)⟩
        case measure => simp [intOf]; omega
      | some f =>
        obtain ⟨fp, fm, fd⟩ := f
        have HS := Lib.hid (show entR p rs (k + 1) = entR p rs k ++ [(p, 1 + (k : Int), fm, fd, 0, 0)] by rw [ES.out]; rfl)
        go_wp2_with (first
          | (go_at_call 44; refine GT.out.mono ?_; rintro e w2 ⟨rfl, b2⟩; have B2 := Lib.hid (HB.out.trans (b2.mono HB.out.size)); have O2 := Lib.hid (own_keep hown.out b2); clear b2; have O3 := (O2.out.alloc (.cells #[.string fp, .int .i64 fm, .string fd] 49)).alloc (.cells #[.string p, .int .i64 (1 + (k : Int)), .int .i64 fm, .string fd, .int .i64 0, .int .i64 0] 100); have hnews := news_one (w2.alloc (.cells #[.string fp, .int .i64 fm, .string fd] 49)) #[.string p, .int .i64 (1 + (k : Int)), .int .i64 fm, .string fd, .int .i64 0, .int .i64 0] 100 (w2.heap.size + 1) (by simp))
          | (at_builtin; refine wpList_append_own _ rfl _ _ 26 rfl w1.heap.size 100 i0 (.agg #[.string ⟨#[]⟩, .int .i64 0, .int .i64 0, .string ⟨#[]⟩, .int .i64 0, .int .i64 0]) 6 64 Tryz.underlying26 hi hz0 hz1 hz2 rfl (by decide) _ _ _ rfl O3 ⟨w2.heap.size + 1, 0, none⟩ 1 1 [.string p, .int .i64 (1 + (k : Int)), .int .i64 fm, .string fd, .int .i64 0, .int .i64 0] rfl rfl hnews (by simp [Value.oneCell']) (by have := EL.out; unfold maxLen; omega) (by have := EL.out; omega) (by have := B2.out.size; simp; omega) ?_; intro v5 w5 hown5 hg5 _; have O5 := Lib.hid hown5; have G5 := Lib.hid hg5; clear hown5 hg5))
        have B5 := Lib.hid (((B2.out.alloc B2.out.size (.cells #[.string fp, .int .i64 fm, .string fd] 49)).alloc (by have := B2.out.size; simp; omega) (.cells #[.string p, .int .i64 (1 + (k : Int)), .int .i64 fm, .string fd, .int .i64 0, .int .i64 0] 100)).grown G5.out (by have := B2.out.size; simp; omega) (fun k hk => (O3.lt k hk).1))
        clear hnews O3
        go_roundw
        case rel => exact ⟨k + 1, by omega, by go_num, Lib.hid (by rw [HS.out, List.length_append, flat_snoc]; exact O5.out), B5⟩
        case measure => simp [intOf]; omega
    · obtain rfl : k = 3 := by omega
      have HB2 := Lib.hid (show Below w.heap.size w wr from B1.out.trans (HB.out.mono SW.out))
      go_wp2
      go_ret
      exact ⟨_, rfl, by rw [← HE.out]; exact own_base hown.out SW.out, HB2.out⟩
end Go.Proofs.YtapcnmnnichamaaGreatDoor

namespace Go.Proofs.YtapcnmnnichamaaGreatDoor
open Go Go.RowKit

/-- The first file that clashes with one ahead of it. -/
def wayF : List Fl → List Fl → Option (Nat × Int)
  | _, [] => none
  | a, f :: r => if clashF a f.1 = true then some (a.length, 11) else wayF (a ++ [f]) r
def wayV (l : List Fl) : Option (Nat × Int) := if 64 < l.length then some (64, 4) else wayF [] l
theorem wayF_step : ∀ (a r : List Fl), (∀ i f, r[i]? = some f → clashF (a ++ r.take i) f.1 = false) → wayF a r = none
  | _, [], _ => rfl
  | a, f :: r, h => by
    have h0 := h 0 f rfl
    simp only [List.take_zero, List.append_nil] at h0
    unfold wayF
    rw [if_neg (by rw [h0]; simp)]
    refine wayF_step (a ++ [f]) r fun i g hg => ?_
    have := h (i + 1) g (by simpa using hg)
    rw [List.take_succ_cons] at this
    rw [List.append_assoc]
    exact this
theorem wayF_at : ∀ (a r : List Fl) (i : Nat) (f : Fl), (∀ j g, j < i → r[j]? = some g → clashF (a ++ r.take j) g.1 = false) → r[i]? = some f → clashF (a ++ r.take i) f.1 = true → wayF a r = some (a.length + i, 11)
  | _, [], _, _, _, h, _ => by simp at h
  | a, f :: r, 0, g, _, h, hr => by
    simp at h
    subst h
    simp only [List.take_zero, List.append_nil] at hr ⊢
    unfold wayF
    rw [if_pos hr]
    simp
  | a, f :: r, i + 1, g, hb, h, hr => by
    have h0 := hb 0 f (by omega) rfl
    simp only [List.take_zero, List.append_nil] at h0
    unfold wayF
    rw [if_neg (by rw [h0]; simp)]
    rw [List.take_succ_cons] at hr
    have := wayF_at (a ++ [f]) r i g (fun j x hj hx => by
      have := hb (j + 1) x (by omega) (by simpa using hx)
      rw [List.take_succ_cons] at this
      rw [List.append_assoc]
      exact this) (by simpa using h) (by rw [List.append_assoc]; exact hr)
    rw [this]
    simp
    omega
theorem wayV_long {l : List Fl} (h : 64 < l.length) : wayV l = some (64, 4) := if_pos h
theorem wayV_good {l : List Fl} (h : ¬ 64 < l.length) (hg : ∀ i f, l[i]? = some f → clashF (l.take i) f.1 = false) : wayV l = none := by
  unfold wayV
  rw [if_neg h]
  exact wayF_step [] l fun i f hf => by simpa using hg i f hf
theorem wayV_bad {l : List Fl} {i : Nat} {f : Fl} (h : ¬ 64 < l.length) (hg : ∀ j g, j < i → l[j]? = some g → clashF (l.take j) g.1 = false) (hi : l[i]? = some f) (hb : clashF (l.take i) f.1 = true) : wayV l = some (i, 11) := by
  unfold wayV
  rw [if_neg h]
  have := wayF_at [] l i f (fun j g hj hx => by simpa using hg j g hj hx) hi (by simpa using hb)
  simpa using this
/-- What Check lets pass has no clash. -/
theorem way_of_chk {l : List Fl} (h : chkF l = none) : wayV l = none := wayV_good (by have := chkF_len h; omega) fun i f hi => refF_clash (chkF_at h hi)

theorem enters_ways (args : Array Value) (w : World) : (callFunc 46 args).run Tryz.prog w = .ok (.enter 46 args) w := enters_of Tryz.func46 (by kernel_rfl) rfl args w
set_option maxHeartbeats 1000000 in
theorem ways_pred (w0 : World) (B b : Nat) (q : ByteArray) (hq : q.size ≤ 1000000) (hc : w0.cell? ⟨b, 0, none⟩ = some (.string q)) (hb : b < B) (hB : B ≤ w0.heap.size) :
    PB B w0 46 (.pointer (some ⟨b, 0, none⟩)) (fun x => cls x.1.data.toList q.data.toList) := by
  intro W x hW hx
  have c0 : W.cell? ⟨b, 0, none⟩ = some (.string q) := (hW.cell (p := ⟨b, 0, none⟩) hb).trans hc
  have hlt : b < W.heap.size := Nat.lt_of_lt_of_le hb (Nat.le_trans hB hW.size)
  obtain ⟨p, m, d⟩ := x
  have CL := Lib.hid fun W => clash_any p q W hx hq
  clear hc hW hb hB hx
  go_enter Tryz.func46, Tryz.ntmps46
  go_wp2_with fail
  refine (CL.out _).mono ?_
  rintro e w' ⟨rfl, rfl⟩
  go_wp2_with fail
  go_ret
  exact ⟨rfl, (Below.refl _ _).alloc (Nat.le_refl _) _⟩
set_option maxRecDepth 100000 in
set_option maxHeartbeats 4000000 in
theorem ways_any (w : World) (v : Value) (l : List Fl) (h : Reads 3 cF w v l) (hs : Sized l) (hl : l.length ≤ 100000) :
    Calls Tryz.prog 23 #[v] w (FaultTo bFile (wayV l) w) := by
  obtain ⟨A, c, rfl⟩ := h.form
  have hlen := h.len
  have HO := Lib.hid h
  have HS := Lib.hid hs
  have hcm : c ≤ 9223372036854775807 := by have := hlen.2.2; unfold maxLen at this; omega
  have hlc : l.length ≤ c := hlen.2.1
  clear h hs hlen
  by_cases hlong : 64 < l.length
  · have HV := Lib.hid (wayV_long hlong)
    have hli : (64 : Int) < (l.length : Int) := by omega
    clear hlong
    go_enter Tryz.func23, Tryz.ntmps23
    go_wp2_with fail
    go_ret
    exact .inr ⟨64, 4, w.heap.size, HV.out, rfl, Nat.le_refl _, heap_alloc_new w _, (Below.refl _ _).alloc (Nat.le_refl _) _⟩
  · have hli : ¬ (64 : Int) < (l.length : Int) := by omega
    have HL := Lib.hid hlong
    clear hlong
    go_enter Tryz.func23, Tryz.ntmps23
    go_wp2_with fail
    go_loopw [14] (fun s14 wr => ∃ k : Nat, k ≤ l.length ∧ s14 = .int .i64 k ∧ Below w.heap.size w wr ∧ Hid (∀ j g, j < k → l[j]? = some g → clashF (l.take j) g.1 = false)) (fun s14 _ => l.length - (intOf s14).toNat)
    case atStart => exact ⟨0, Nat.zero_le _, rfl, Below.refl _ _, Lib.hid (fun j _ hj => absurd hj (Nat.not_lt_zero _))⟩
    case round =>
      obtain ⟨k, hk, rfl, hb1, I⟩ := hrel
      by_cases hlt : k < l.length
      · obtain ⟨x, hx⟩ : ∃ x, l[k]? = some x := ⟨_, List.getElem?_eq_getElem hlt⟩
        obtain ⟨ad, rfl, c0, c1, c2⟩ := Fils.at_ (HO.out.below hb1) hx
        obtain ⟨W2, hW2⟩ : ∃ W2, W2 = wr.alloc (.cells #[.string x.1, .int .i64 x.2.1, .string x.2.2] 49) := ⟨_, rfl⟩
        have b2 : Below wr.heap.size wr W2 := by rw [hW2]; exact (Below.refl _ _).alloc (Nat.le_refl _) _
        have BW2 : Below w.heap.size w W2 := hb1.trans (b2.mono hb1.size)
        obtain ⟨q, hQ⟩ : ∃ q, q = wr.heap.size := ⟨_, rfl⟩
        have k2 : W2.heap[q]? = some (.cells #[.string x.1, .int .i64 x.2.1, .string x.2.2] 49 (0, 0)) := by rw [hW2, hQ]; exact heap_alloc_new wr _
        have hq2 : q < W2.heap.size := by rw [hW2, hQ]; simp
        have CT := Lib.hid (containsF_any W2 W2 W2.heap.size (Below.refl _ _) (Nat.le_refl _) (.slice (some ad) k c) (l.take k) 46 (.pointer (some ⟨q, 0, none⟩)) (fun y => cls y.1.data.toList x.1.data.toList) ((HO.out.front (i := k) (by omega)).below BW2) (fun y hy => HS.out y (List.mem_of_mem_take hy)) (by rw [List.length_take]; omega) enters_ways (ways_pred W2 _ q x.1 (HS.out.at_ hx) (cell_of_row W2 q 0 _ 49 (0, 0) k2) hq2 (Nat.le_refl _)))
        have HX := Lib.hid hx
        have HBW2 := Lib.hid BW2
        have hkc : (k : Int) ≤ (c : Int) := by omega
        have hkc2 : k ≤ c := by omega
        have hk0 : (0 : Int) ≤ (k : Int) := Int.natCast_nonneg _
        have hkl : (k : Int) < (l.length : Int) := by omega
        obtain ⟨r, hr⟩ : ∃ r, r = (l.take k).any (fun y => cls y.1.data.toList x.1.data.toList) := ⟨_, rfl⟩
        rw [← hr] at CT
        have HRR := Lib.hid (show clashF (l.take k) x.1 = r from hr.symm)
        clear hx hb1 hr
        go_wp2_with fail
        rw [← hW2, ← hQ]
        clear hW2 hQ b2 BW2 k2 c0 c1 c2
        refine CT.out.mono ?_
        rintro e w5 ⟨rfl, b5⟩
        have B6 := Lib.hid (HBW2.out.trans (b5.mono HBW2.out.size))
        clear b5 CT
        cases r with
        | false =>
          have HI : Hid (∀ j g, j < k + 1 → l[j]? = some g → clashF (l.take j) g.1 = false) := Lib.hid fun j g hj hg => by
            rcases Nat.lt_or_ge j k with h1 | h1
            · exact I.out j g h1 hg
            · obtain rfl : j = k := by omega
              rw [HX.out] at hg
              cases hg
              exact HRR.out
          go_wp2_with fail
          go_roundw
          case rel => exact ⟨k + 1, by omega, by go_num, B6.out, HI⟩
          case measure => simp [intOf]; omega
        | true =>
          have HV : Hid (wayV l = some (k, 11)) := Lib.hid (wayV_bad HL.out I.out HX.out HRR.out)
          go_wp2_with fail
          go_ret
          exact .inr ⟨k, 11, w5.heap.size, HV.out, rfl, B6.out.size, heap_alloc_new w5 _, B6.out.alloc B6.out.size _⟩
      · obtain rfl : k = l.length := by omega
        have HV : Hid (wayV l = none) := Lib.hid (wayV_good HL.out fun i f hf => I.out i f (List.getElem?_eq_some_iff.1 hf).1 hf)
        go_wp2_with fail
        go_ret
        exact .inl ⟨HV.out, rfl, hb1⟩
end Go.Proofs.YtapcnmnnichamaaGreatDoor

namespace Go.Proofs.YtapcnmnnichamaaGreatDoor
open Go Go.RowKit

theorem grown_cellF (w : World) (g p : Nat) (u : Value) : w.grownBy (w.setCell ⟨g, p, none⟩ u) (some g) :=
  ⟨rfl, rfl, rfl, by simp, fun k _ hk => Below.heap_setCell _ _ _ _ (fun e => hk (by rw [e]))⟩
theorem own_own_ne {w : World} {B B' k k' n n' : Nat} {e e' : TypeId} {v v' : Value} {xs xs' : List Value} (h : w.ownsRow B e k v n xs) (g : w.ownsRow B' e' k' v' n' xs') (hne : e ≠ e') : v.ownBlock = none ∨ v.ownBlock ≠ v'.ownBlock := by
  rcases h.2 with ⟨rfl, _⟩ | ⟨g0, cap, cur, rfl, _, hb, _⟩
  · exact .inl rfl
  · refine .inr fun e => ?_
    exact own_blk_ne g (show Blk w g0 _ cur from hb) (fun e => hne e.symm) e.symm
theorem own_set {w : World} {B k n g : Nat} {e : TypeId} {v : Value} {xs : List Value} (h : w.ownsRow B e k v n xs) (hg : g < B) (j : Nat) (u : Value) : (w.setCell ⟨g, j, none⟩ u).ownsRow B e k v n xs :=
  h.kept (grown_cellF w g j u) (Or.inr fun e => by have := (h.lt g e).1; omega)
abbrev OneF := ByteArray → Option Fl × Bool
def mrgF (f : OneF) (P : List ByteArray) : List Fl := P.filterMap fun p => (f p).1
def mrgC (f : OneF) (P : List ByteArray) : List ByteArray := P.filter fun p => (f p).2
def mrgE (f : OneF) (g : ByteArray → List En) (P : List ByteArray) : List En := (mrgC f P).flatMap g
theorem mrgF_snoc (f : OneF) {P : List ByteArray} {k : Nat} {p : ByteArray} (h : P[k]? = some p) : mrgF f (P.take (k + 1)) = mrgF f (P.take k) ++ (match (f p).1 with | some x => [x] | none => []) := by
  rw [take_snoc h]
  unfold mrgF
  rw [List.filterMap_append]
  congr 1
  cases h2 : (f p).1 <;> simp [h2]
theorem mrgC_snoc (f : OneF) {P : List ByteArray} {k : Nat} {p : ByteArray} (h : P[k]? = some p) : mrgC f (P.take (k + 1)) = mrgC f (P.take k) ++ (if (f p).2 = true then [p] else []) := by
  rw [take_snoc h]
  unfold mrgC
  rw [List.filter_append]
  congr 1
  cases h2 : (f p).2 <;> simp [h2]
theorem mrgE_snoc (f : OneF) (g : ByteArray → List En) {P : List ByteArray} {k : Nat} {p : ByteArray} (h : P[k]? = some p) : mrgE f g (P.take (k + 1)) = mrgE f g (P.take k) ++ (if (f p).2 = true then g p else []) := by
  unfold mrgE
  rw [mrgC_snoc f h, List.flatMap_append]
  congr 1
  cases h2 : (f p).2 <;> simp
theorem mrgF_len (f : OneF) (P : List ByteArray) : (mrgF f P).length ≤ P.length := List.length_filterMap_le _ _
theorem mrgC_len (f : OneF) (P : List ByteArray) : (mrgC f P).length ≤ P.length := List.length_filter_le _ _
theorem mrgE_len (f : OneF) (g : ByteArray → List En) (hg : ∀ p, (g p).length ≤ 3) (P : List ByteArray) : (mrgE f g P).length ≤ 3 * P.length := by
  have h : ∀ l : List ByteArray, (l.flatMap g).length ≤ 3 * l.length := fun l => by
    induction l with
    | nil => simp
    | cons x l ih => have := hg x; rw [List.flatMap_cons, List.length_append, List.length_cons]; omega
  have := h (mrgC f P)
  have := mrgC_len f P
  unfold mrgE
  omega
theorem entV_len (p : ByteArray) (x y z : Option Fl) : (entV p x y z).length ≤ 3 := by
  have h1 := entP_len p 0 x
  have h2 := entP_len p 1 y
  have h3 := entP_len p 2 z
  unfold entV
  rw [List.length_append, List.length_append]
  omega

/-! ### The result as it grows -/
structure MSt (w wM wr : World) (gB M : Nat) (vf ve vc : Value) (fs : List Fl) (es : List En) (cs : List ByteArray) : Prop where
  x : Blk wr gB 29 #[vf, ve, vc]
  f : wr.ownsRow M 49 3 vf fs.length (fs.flatMap cF)
  e : wr.ownsRow M 100 6 ve es.length (es.flatMap cE)
  c : wr.ownsRow M 9 1 vc cs.length (cs.map Value.string)
  b : Below w.heap.size w wr
  k : ∀ j, j < M → j ≠ gB → wr.heap[j]? = wM.heap[j]?
  s : M ≤ wr.heap.size
  g : gB < M
  wg : w.heap.size ≤ gB
section
variable {w wM wr w' w5 : World} {gB M : Nat} {vf ve vc : Value} {fs : List Fl} {es : List En} {cs : List ByteArray}
theorem MSt.below (h : MSt w wM wr gB M vf ve vc fs es cs) (hb : Below wr.heap.size wr w') : MSt w wM w' gB M vf ve vc fs es cs :=
  ⟨h.x.below hb h.x.lt, own_keep h.f hb, own_keep h.e hb, own_keep h.c hb, h.b.trans (hb.mono h.b.size), fun j hj hne => (hb.block j (by have := h.s; omega)).trans (h.k j hj hne), Nat.le_trans h.s hb.size, h.g, h.wg⟩
theorem MSt.alloc (h : MSt w wM wr gB M vf ve vc fs es cs) (o : Obj) : MSt w wM (wr.alloc o) gB M vf ve vc fs es cs := h.below ((Below.refl _ wr).alloc (Nat.le_refl _) o)
theorem MSt.putF (h : MSt w wM wr gB M vf ve vc fs es cs) {v' : Value} {l' : List Fl} (ho : w5.ownsRow M 49 3 v' l'.length (l'.flatMap cF)) (hb : Below M wr w5) (hg : wr.grownBy w5 vf.ownBlock) : MSt w wM (w5.setCell ⟨gB, 0, none⟩ v') gB M v' ve vc l' es cs := by
  have x5 : Blk w5 gB 29 #[vf, ve, vc] := (hb.block gB h.g).trans h.x
  have hM : w.heap.size ≤ M := Nat.le_trans h.wg (Nat.le_of_lt h.g)
  exact ⟨by simpa using x5.set_ 0 v', own_set ho h.g 0 v', own_set (h.e.kept hg (own_own_ne h.e h.f (by decide))) h.g 0 v', own_set (h.c.kept hg (own_own_ne h.c h.f (by decide))) h.g 0 v', (h.b.trans (hb.mono hM)).setCell (p := ⟨gB, 0, none⟩) h.wg v', fun j hj hne => (Below.heap_setCell w5 ⟨gB, 0, none⟩ v' j hne).trans ((hb.block j hj).trans (h.k j hj hne)), by simpa using Nat.le_trans h.s hb.size, h.g, h.wg⟩
theorem MSt.putE (h : MSt w wM wr gB M vf ve vc fs es cs) {v' : Value} {l' : List En} (ho : w5.ownsRow M 100 6 v' l'.length (l'.flatMap cE)) (hb : Below M wr w5) (hg : wr.grownBy w5 ve.ownBlock) : MSt w wM (w5.setCell ⟨gB, 1, none⟩ v') gB M vf v' vc fs l' cs := by
  have x5 : Blk w5 gB 29 #[vf, ve, vc] := (hb.block gB h.g).trans h.x
  have hM : w.heap.size ≤ M := Nat.le_trans h.wg (Nat.le_of_lt h.g)
  exact ⟨by simpa using x5.set_ 1 v', own_set (h.f.kept hg (own_own_ne h.f h.e (by decide))) h.g 1 v', own_set ho h.g 1 v', own_set (h.c.kept hg (own_own_ne h.c h.e (by decide))) h.g 1 v', (h.b.trans (hb.mono hM)).setCell (p := ⟨gB, 1, none⟩) h.wg v', fun j hj hne => (Below.heap_setCell w5 ⟨gB, 1, none⟩ v' j hne).trans ((hb.block j hj).trans (h.k j hj hne)), by simpa using Nat.le_trans h.s hb.size, h.g, h.wg⟩
theorem MSt.putC (h : MSt w wM wr gB M vf ve vc fs es cs) {v' : Value} {l' : List ByteArray} (ho : w5.ownsRow M 9 1 v' l'.length (l'.map Value.string)) (hb : Below M wr w5) (hg : wr.grownBy w5 vc.ownBlock) : MSt w wM (w5.setCell ⟨gB, 2, none⟩ v') gB M vf ve v' fs es l' := by
  have x5 : Blk w5 gB 29 #[vf, ve, vc] := (hb.block gB h.g).trans h.x
  have hM : w.heap.size ≤ M := Nat.le_trans h.wg (Nat.le_of_lt h.g)
  exact ⟨by simpa using x5.set_ 2 v', own_set (h.f.kept hg (own_own_ne h.f h.c (by decide))) h.g 2 v', own_set (h.e.kept hg (own_own_ne h.e h.c (by decide))) h.g 2 v', own_set ho h.g 2 v', (h.b.trans (hb.mono hM)).setCell (p := ⟨gB, 2, none⟩) h.wg v', fun j hj hne => (Below.heap_setCell w5 ⟨gB, 2, none⟩ v' j hne).trans ((hb.block j hj).trans (h.k j hj hne)), by simpa using Nat.le_trans h.s hb.size, h.g, h.wg⟩
end
theorem step_append_ents (w : World) {ops : Array Oper} {o : Oper} {a : Act} {K : Act → World → Prop} {Q : Exit → Act → World → Prop} {E : Prop} (hgd : o.guard = none) (s x : Operand)
    (ho : o.op = .call { callee := .builtin .append, args := #[s, x], argTypes := #[26, 26] })
    (base : Nat) (v : Value) (xs ys : List En) (hs : a.eval s = v) (hown : w.ownsRow base 100 6 v xs.length (xs.flatMap cE)) (A : Option Addr) (m c : Nat) (hx : a.eval x = .slice A m c) (h : Reads 6 cE w (.slice A m c) ys) (hl : xs.length + ys.length ≤ 1000000) (hbase : base ≤ w.heap.size) (n : Nat) (hn : n = (xs ++ ys).length)
    (hk : ∀ A' c' w', w'.ownsRow base 100 6 (.slice A' n c') (xs ++ ys).length ((xs ++ ys).flatMap cE) → Below base w w' → w.grownBy w' v.ownBlock → K (a.put o.dst (.slice A' n c')) w') :
    if Region.wanted o (yielded ops a.tmps) = true then Oper.wp Tryz.prog o a w K Q else E := by
  have hw : Region.wanted o (yielded ops a.tmps) = true := by simp [Region.wanted, hgd]
  subst hn
  rw [if_pos hw]
  obtain ⟨A', c', w', hr, h2, h3, h4⟩ := run_append_ents w o.type base v xs ys hown A m c h hl hbase
  unfold Oper.wp execOp
  simp only [ho, resolve, invoke, builtin, Sem.run_bind, Sem.run_pure, Result.andThen_ok, List.map_toArray, List.map_cons, List.map_nil, hs, hx, hr]
  exact hk A' c' w' h2 h3 h4
theorem reads_one_file {w : World} {g : Nat} (x : Fl) (z : Blk w g 49 #[.string x.1, .int .i64 x.2.1, .string x.2.2]) : Reads 3 cF w (.slice (some ⟨g, 0, none⟩) 1 1) [x] := by
  refine ⟨some ⟨g, 0, none⟩, 1, rfl, Nat.le_refl _, by decide, by simp, fun ad hA i y hy j u hu => ?_⟩
  obtain rfl := Option.some.inj hA
  match i, hy with
  | 0, hy =>
    simp at hy
    subst hy
    match j, hu with
    | 0, hu => simp [cF] at hu; subst hu; exact z.cell 0
    | 1, hu => simp [cF] at hu; subst hu; exact z.cell 1
    | 2, hu => simp [cF] at hu; subst hu; exact z.cell 2
    | j + 3, hu => simp [cF] at hu
  | i + 1, hy => simp at hy
theorem strs_one {w : World} {g : Nat} (x : ByteArray) (z : Blk w g 9 #[.string x]) : Strs w (.slice (some ⟨g, 0, none⟩) 1 1) [x] := by
  refine ⟨some ⟨g, 0, none⟩, 1, rfl, Nat.le_refl _, by decide, by simp, fun ad hA i y hy => ?_⟩
  obtain rfl := Option.some.inj hA
  match i, hy with
  | 0, hy => simp at hy; subst hy; exact z.cell 0
  | i + 1, hy => simp at hy
end Go.Proofs.YtapcnmnnichamaaGreatDoor
