/-
  tmerge: what a tree has at a path; the mode that two sides make.
  tmerge: the bytes that two sides make, by what merge.Text says.
  tmerge: whether two sides are alike.
  tmerge: one path of three trees.
-/
import Derived.Test.YtapcnmnnichamaaGreatDoorFCheck
import Derived.Test.YtapcnmnnichamaaGreatDoorKMem
import Derived.Laws.StructEq
import Derived.Deep.RegionHeld3

namespace Go.Proofs.YtapcnmnnichamaaGreatDoor
open Go Go.RowKit

def sP (x : Option Fl) : ByteArray := match x with | some f => f.1 | none => ⟨#[]⟩
def sM (x : Option Fl) : Int := match x with | some f => f.2.1 | none => 0
def sD (x : Option Fl) : ByteArray := match x with | some f => f.2.2 | none => ⟨#[]⟩
/-- A file as a value, or a zero one. -/
abbrev fileA (x : Option Fl) : Array Value := #[.string (sP x), .int .i64 (sM x), .string (sD x)]
/-- A side as a value. -/
abbrev sideA (x : Option Fl) : Array Value := #[.string (sP x), .int .i64 (sM x), .string (sD x), .bool x.isSome]
theorem gotV_eq (o : Option Fl) : gotV o = .tuple #[.agg (fileA o), .bool o.isSome] := by cases o <;> rfl
theorem sideSize : (Tryz.prog.info? 88).map (·.size) = some 4 := by kernel_rfl
set_option maxRecDepth 100000 in
set_option maxHeartbeats 2000000 in
theorem sideOf_any (w : World) (v : Value) (l : List Fl) (s : ByteArray) (h : Reads 3 cF w v l) (hr : RiseF l) (hl : l.length ≤ 100000) :
    Calls Tryz.prog 35 #[v, .string s] w fun e w' => e = .returned (.agg (sideA (getF l s))) ∧ Below w.heap.size w w' := by
  have GT := Lib.hid (get_any (w.alloc (.cells #[.string ⟨#[]⟩, .int .i64 0, .string ⟨#[]⟩, .bool false] 88)) v l s (h.alloc _) hr hl)
  obtain ⟨A, c, rfl⟩ := h.form
  have B1 := Lib.hid ((Below.refl w.heap.size w).alloc (Nat.le_refl _) (.cells #[.string ⟨#[]⟩, .int .i64 0, .string ⟨#[]⟩, .bool false] 88))
  have K1 := Lib.hid (Blk.new w 88 #[.string ⟨#[]⟩, .int .i64 0, .string ⟨#[]⟩, .bool false])
  unfold Got at GT
  rw [gotV_eq] at GT
  obtain ⟨o, ho⟩ : ∃ o, o = getF l s := ⟨_, rfl⟩
  rw [← ho] at GT ⊢
  clear h hr ho
  go_enter Tryz.func35, Tryz.ntmps35
  go_wp2_with (go_at_call 44; refine GT.out.mono ?_; rintro e w2 ⟨rfl, b2⟩; have K2 := Lib.hid (K1.out.below b2 K1.out.lt); have c0 := K2.out.cell 0; have c1 := K2.out.cell 1; have c2 := K2.out.cell 2; have c3 := K2.out.cell 3; have f0 := K2.out.frozen 0; have f1 := K2.out.frozen 1; have f2 := K2.out.frozen 2; have f3 := K2.out.frozen 3; have hlt : w.heap.size < w2.heap.size := K2.out.lt; have B2 := Lib.hid (B1.out.trans (b2.mono B1.out.size)); clear b2)
  have HS := Lib.hid (show (w.heap.size ≤ w.heap.size) from Nat.le_refl _)
  have HROW : Blk (((((w2.setCell ⟨w.heap.size, 0, none⟩ (.string (sP o))).setCell ⟨w.heap.size, 1, none⟩ (.int .i64 (sM o))).setCell ⟨w.heap.size, 2, none⟩ (.string (sD o))).setCell ⟨w.heap.size, 3, none⟩ (.bool o.isSome)).alloc (.cells (fileA o) 49)) w.heap.size 88 (sideA o) := by simpa using ((((K2.out.set_ 0 (.string (sP o))).set_ 1 (.int .i64 (sM o))).set_ 2 (.string (sD o))).set_ 3 (.bool o.isSome)).alloc (.cells (fileA o) 49)
  refine bodyPost_ret (results_cell_row (fn := Tryz.f35) rfl _ _ w.heap.size 88 (sideA o) (0, 0) _ rfl HROW Tryz.underlying88 rfl sideSize) rfl ⟨rfl, ?_⟩
  exact ((((B2.out.setCell (p := ⟨w.heap.size, 0, none⟩) HS.out _).setCell (p := ⟨w.heap.size, 1, none⟩) HS.out _).setCell (p := ⟨w.heap.size, 2, none⟩) HS.out _).setCell (p := ⟨w.heap.size, 3, none⟩) HS.out _).alloc (by simp; omega) _
set_option maxRecDepth 100000 in
set_option maxHeartbeats 2000000 in
theorem mode_any (w : World) (x y z : Option Fl) :
    Calls Tryz.prog 36 #[.agg (sideA x), .agg (sideA y), .agg (sideA z)] w fun e w' => e = .returned (.int .i64 (if x.isSome = true ∧ sM x = sM y then sM z else sM y)) ∧ Below w.heap.size w w' := by
  have B1 := Lib.hid ((((Below.refl w.heap.size w).alloc (Nat.le_refl _) (.cells (sideA x) 88)).alloc (by simp) (.cells (sideA y) 88)).alloc (by simp; omega) (.cells (sideA z) 88))
  cases hx : x.isSome with
  | true =>
    by_cases hm : sM x = sM y
    · have e1 : (sM x == sM y) = true := by simpa using hm
      rw [if_pos ⟨rfl, hm⟩]
      clear hm
      go_enter Tryz.func36, Tryz.ntmps36
      go_wp2
      go_ret
      exact ⟨rfl, B1.out⟩
    · have e1 : (sM x == sM y) = false := by simpa using hm
      rw [if_neg (fun h => hm h.2)]
      clear hm
      go_enter Tryz.func36, Tryz.ntmps36
      go_wp2
      go_ret
      exact ⟨rfl, B1.out⟩
  | false =>
    rw [if_neg (by simp)]
    go_enter Tryz.func36, Tryz.ntmps36
    go_wp2
    go_ret
    exact ⟨rfl, B1.out⟩
end Go.Proofs.YtapcnmnnichamaaGreatDoor

namespace Go.Proofs.YtapcnmnnichamaaGreatDoor
open Go Go.RowKit

/-- What merge.Text answers: a text and how much of it clashes, or nothing. -/
abbrev TxO := Option (ByteArray × Nat)
def TextSays (o : TxO) (b y z a n : ByteArray) (w : World) : Prop :=
  Calls Tryz.prog 62 #[.string b, .string y, .string z, .string a, .string n] w fun e w' => (match o with
    | some (s, k) => e = .returned (.tuple #[.string s, .int .i64 (k : Nat), .nilIface])
    | none => ∃ p, e = .returned (.tuple #[.string ⟨#[]⟩, .int .i64 0, .iface 76 p])) ∧ Below w.heap.size w w'
/-- The bytes, and whether they clash. -/
def mdV (o : TxO) (x : Option Fl) (y z : ByteArray) : ByteArray × Bool :=
  if y = z then (y, false) else if x.isSome = true ∧ sD x = y then (z, false) else if x.isSome = true ∧ sD x = z then (y, false)
  else match o with
    | none => (y, true)
    | some (s, k) => if 4096 < s.size then (y, true) else (s, decide (0 < k))
def Told (d : ByteArray × Bool) (w : World) (e : Ending) (w' : World) : Prop := e = .returned (.tuple #[.string d.1, .bool d.2]) ∧ Below w.heap.size w w'
theorem ba_eqT {a b : ByteArray} (h : a = b) : (a.toList == b.toList) = true := by rw [h]; exact beq_self_eq_true _
theorem ba_neF {a b : ByteArray} (h : a ≠ b) : (a.toList == b.toList) = false := by
  rw [beq_eq_false_iff_ne]
  exact fun e => h (tl_eq e)
set_option maxRecDepth 100000 in
set_option maxHeartbeats 4000000 in
theorem data_any (w : World) (x y z : Option Fl) (a n : ByteArray) (o : TxO) (hT : ∀ W, TextSays o (sD x) (sD y) (sD z) a n W) (ho : ∀ s k, o = some (s, k) → k ≤ 1000000 ∧ s.size ≤ 1000000000) :
    Calls Tryz.prog 37 #[.agg (sideA x), .agg (sideA y), .agg (sideA z), .string a, .string n] w (Told (mdV o x (sD y) (sD z)) w) := by
  have B1 := Lib.hid ((((Below.refl w.heap.size w).alloc (Nat.le_refl _) (.cells (sideA x) 88)).alloc (by simp) (.cells (sideA y) 88)).alloc (by simp; omega) (.cells (sideA z) 88))
  have HT := Lib.hid hT
  have HO := Lib.hid ho
  clear hT ho
  unfold TextSays at HT
  unfold Told
  by_cases h1 : sD y = sD z
  · have hv : mdV o x (sD y) (sD z) = (sD y, false) := by unfold mdV; rw [if_pos h1]
    rw [hv]
    have e1 := ba_eqT h1
    clear h1 hv HT
    go_enter Tryz.func37, Tryz.ntmps37
    go_upto_region 1 with fail
    go_quiet (fail)
    go_wp2
    go_ret2
    exact ⟨rfl, below_drewN B1.out _⟩
  have e1 := ba_neF h1
  by_cases h2 : x.isSome = true ∧ sD x = sD y
  · have hv : mdV o x (sD y) (sD z) = (sD z, false) := by unfold mdV; rw [if_neg h1, if_pos h2]
    rw [hv]
    have e2 := ba_eqT h2.2
    have e3 := h2.1
    clear h1 h2 hv HT
    go_enter Tryz.func37, Tryz.ntmps37
    go_upto_region 1 with fail
    go_quiet (fail)
    go_wp2
    go_ret2
    exact ⟨rfl, below_drewN B1.out _⟩
  by_cases h3 : x.isSome = true ∧ sD x = sD z
  · have hv : mdV o x (sD y) (sD z) = (sD y, false) := by unfold mdV; rw [if_neg h1, if_neg h2, if_pos h3]
    rw [hv]
    have e2 := ba_eqT h3.2
    have e3 := h3.1
    have e4 := ba_neF (fun e => h2 ⟨h3.1, e⟩)
    clear h1 h2 h3 hv HT
    go_enter Tryz.func37, Tryz.ntmps37
    go_upto_region 1 with fail
    go_quiet (fail)
    go_wp2
    go_ret2
    exact ⟨rfl, below_drewN B1.out _⟩
  cases hx : x.isSome with
  | true =>
    cases o with
    | none =>
      have hv : mdV none x (sD y) (sD z) = (sD y, true) := by unfold mdV; rw [if_neg h1, if_neg h2, if_neg h3]
      rw [hv]
      have e2 := ba_neF (fun e => h2 ⟨hx, e⟩); have e3 := ba_neF (fun e => h3 ⟨hx, e⟩)
      clear h1 h2 h3 hv
      go_enter Tryz.func37, Tryz.ntmps37
      go_upto_region 1 with fail
      go_quiet (fail)
      go_wp2_with (go_at_call 62; refine (HT.out _).mono ?_; rintro e w2 ⟨⟨p, rfl⟩, b2⟩; have B2 := Lib.hid ((below_drewN B1.out nq).trans (b2.mono (below_drewN B1.out nq).size)); clear b2)
      go_ret2
      exact ⟨rfl, B2.out⟩
    | some sk =>
      obtain ⟨s, k⟩ := sk
      have hb := HO.out s k rfl
      by_cases h4 : 4096 < s.size
      · have hv : mdV (some (s, k)) x (sD y) (sD z) = (sD y, true) := by unfold mdV; rw [if_neg h1, if_neg h2, if_neg h3]; exact if_pos h4
        rw [hv]
        have e2 := ba_neF (fun e => h2 ⟨hx, e⟩); have e3 := ba_neF (fun e => h3 ⟨hx, e⟩)
        have d4 : decide ((4096 : Int) < (s.size : Int)) = true := decide_eq_true (by omega)
        have hs : (s.size : Int) ≤ 1000000000 := by omega
        clear h1 h2 h3 hv h4 hb
        go_enter Tryz.func37, Tryz.ntmps37
        go_upto_region 1 with fail
        go_quiet (fail)
        go_wp2_with (go_at_call 62; refine (HT.out _).mono ?_; rintro e w2 ⟨rfl, b2⟩; have B2 := Lib.hid ((below_drewN B1.out nq).trans (b2.mono (below_drewN B1.out nq).size)); clear b2)
        go_ret2
        exact ⟨rfl, B2.out⟩
      · have hv : mdV (some (s, k)) x (sD y) (sD z) = (s, decide (0 < k)) := by unfold mdV; rw [if_neg h1, if_neg h2, if_neg h3]; exact if_neg h4
        rw [hv]
        have e2 := ba_neF (fun e => h2 ⟨hx, e⟩); have e3 := ba_neF (fun e => h3 ⟨hx, e⟩)
        have d4 : decide ((4096 : Int) < (s.size : Int)) = false := decide_eq_false (by omega)
        have hs : (s.size : Int) ≤ 1000000000 := by omega
        have dk : decide ((0 : Int) < (k : Int)) = decide (0 < k) := by by_cases hk : 0 < k <;> simp [hk]
        clear h1 h2 h3 hv h4 hb
        go_enter Tryz.func37, Tryz.ntmps37
        go_upto_region 1 with fail
        go_quiet (fail)
        go_wp2_with (go_at_call 62; refine (HT.out _).mono ?_; rintro e w2 ⟨rfl, b2⟩; have B2 := Lib.hid ((below_drewN B1.out nq).trans (b2.mono (below_drewN B1.out nq).size)); clear b2)
        go_ret2
        exact ⟨(by first | rfl | (simp; done) | simp [dk]), B2.out⟩
  | false =>
    cases o with
    | none =>
      have hv : mdV none x (sD y) (sD z) = (sD y, true) := by unfold mdV; rw [if_neg h1, if_neg h2, if_neg h3]
      rw [hv]
      clear h1 h2 h3 hv
      go_enter Tryz.func37, Tryz.ntmps37
      go_upto_region 1 with fail
      go_quiet (fail)
      go_wp2_with (go_at_call 62; refine (HT.out _).mono ?_; rintro e w2 ⟨⟨p, rfl⟩, b2⟩; have B2 := Lib.hid ((below_drewN B1.out nq).trans (b2.mono (below_drewN B1.out nq).size)); clear b2)
      go_ret2
      exact ⟨rfl, B2.out⟩
    | some sk =>
      obtain ⟨s, k⟩ := sk
      have hb := HO.out s k rfl
      by_cases h4 : 4096 < s.size
      · have hv : mdV (some (s, k)) x (sD y) (sD z) = (sD y, true) := by unfold mdV; rw [if_neg h1, if_neg h2, if_neg h3]; exact if_pos h4
        rw [hv]
        have d4 : decide ((4096 : Int) < (s.size : Int)) = true := decide_eq_true (by omega)
        have hs : (s.size : Int) ≤ 1000000000 := by omega
        clear h1 h2 h3 hv h4 hb
        go_enter Tryz.func37, Tryz.ntmps37
        go_upto_region 1 with fail
        go_quiet (fail)
        go_wp2_with (go_at_call 62; refine (HT.out _).mono ?_; rintro e w2 ⟨rfl, b2⟩; have B2 := Lib.hid ((below_drewN B1.out nq).trans (b2.mono (below_drewN B1.out nq).size)); clear b2)
        go_ret2
        exact ⟨rfl, B2.out⟩
      · have hv : mdV (some (s, k)) x (sD y) (sD z) = (s, decide (0 < k)) := by unfold mdV; rw [if_neg h1, if_neg h2, if_neg h3]; exact if_neg h4
        rw [hv]
        have d4 : decide ((4096 : Int) < (s.size : Int)) = false := decide_eq_false (by omega)
        have hs : (s.size : Int) ≤ 1000000000 := by omega
        have dk : decide ((0 : Int) < (k : Int)) = decide (0 < k) := by by_cases hk : 0 < k <;> simp [hk]
        clear h1 h2 h3 hv h4 hb
        go_enter Tryz.func37, Tryz.ntmps37
        go_upto_region 1 with fail
        go_quiet (fail)
        go_wp2_with (go_at_call 62; refine (HT.out _).mono ?_; rintro e w2 ⟨rfl, b2⟩; have B2 := Lib.hid ((below_drewN B1.out nq).trans (b2.mono (below_drewN B1.out nq).size)); clear b2)
        go_ret2
        exact ⟨(by first | rfl | (simp; done) | simp [dk]), B2.out⟩
end Go.Proofs.YtapcnmnnichamaaGreatDoor

namespace Go.Proofs.YtapcnmnnichamaaGreatDoor
open Go Go.RowKit

theorem side_ext {x y : Option Fl} : x = y ↔ sP x = sP y ∧ sM x = sM y ∧ sD x = sD y ∧ x.isSome = y.isSome := by
  cases x with
  | none => cases y with
    | none => simp
    | some g => simp
  | some f => cases y with
    | none => simp
    | some g =>
      obtain ⟨a, b, c⟩ := f
      obtain ⟨a', b', c'⟩ := g
      simp [sP, sM, sD]
set_option maxRecDepth 100000 in
set_option maxHeartbeats 2000000 in
theorem eq_side4 (p q : ByteArray) (m k : Int) (d e : ByteArray) (s t : Bool) (w : World) : (Op.equalIn 10000 88 (.agg #[.string p, .int .i64 m, .string d, .bool s]) (.agg #[.string q, .int .i64 k, .string e, .bool t])).run Tryz.prog w = .ok (p.toList == q.toList && m == k && d.toList == e.toList && s == t) w := by
  have hS : Tryz.prog.underlying 88 = some (.struct (Tryz.prog.fieldsOf 88)) := by kernel_rfl
  have hS2 : Tryz.prog.underlying 49 = some (.struct (Tryz.prog.fieldsOf 49)) := by kernel_rfl
  have hp : Tryz.prog.stoodInHeld 88 = false := by kernel_rfl
  have hp2 : Tryz.prog.stoodInHeld 49 = false := by kernel_rfl
  rw [show (10000 : Nat) = 9999 + 1 from rfl, run_equalIn_agg w 9999 88 _ _ hS hp]
  simp only [Program.fieldsOf, Tryz.underlying88]
  clear hS hS2 hp
  have u3 := Tryz.underlying3
  have u4 := Tryz.underlying4
  have u9 := Tryz.underlying9
  have u49 := Tryz.underlying49
  have a3 := Tryz.isAgg3
  have a4 := Tryz.isAgg4
  have a9 := Tryz.isAgg9
  have a49 := Tryz.isAgg49
  have z49 := Tryz.sizeOf49
  go_simp
  by_cases h1 : p.toList = q.toList <;> by_cases h2 : m = k <;> by_cases h3 : d.toList = e.toList <;> by_cases h4 : s = t <;> simp [h1, h2, h3, h4]
@[go_sem] theorem eq_side (x y : Option Fl) (w : World) : (Op.equalIn 10000 88 (.agg #[.string (sP x), .int .i64 (sM x), .string (sD x), .bool x.isSome]) (.agg #[.string (sP y), .int .i64 (sM y), .string (sD y), .bool y.isSome])).run Tryz.prog w = .ok (decide (x = y)) w := by
  rw [eq_side4]
  congr 1
  by_cases h : x = y
  · rw [decide_eq_true h, h]
    simp
  · rw [decide_eq_false h]
    rw [side_ext] at h
    by_cases h1 : sP x = sP y
    · by_cases h2 : sM x = sM y
      · by_cases h3 : sD x = sD y
        · have h4 : ¬ x.isSome = y.isSome := fun e => h ⟨h1, h2, h3, e⟩
          simp [h4]
        · rw [ba_neF h3]; simp
      · simp [h2]
    · rw [ba_neF h1]; simp
end Go.Proofs.YtapcnmnnichamaaGreatDoor

namespace Go.Proofs.YtapcnmnnichamaaGreatDoor
open Go Go.RowKit

/-- What three trees make at a path: its file, or none; whether it clashes. -/
def oneV (o : TxO) (p : ByteArray) (x y z : Option Fl) : Option Fl × Bool :=
  if y = z ∨ x = z then (y, false) else if x = y then (z, false)
  else if y.isSome = true ∧ z.isSome = true then (some (p, if x.isSome = true ∧ sM x = sM y then sM z else sM y, (mdV o x (sD y) (sD z)).1), (mdV o x (sD y) (sD z)).2)
  else if y.isSome = true then (y, true) else (z, true)
def OneTold (r : Option Fl × Bool) (w : World) (e : Ending) (w' : World) : Prop := e = .returned (.tuple #[.agg (fileA r.1), .bool r.1.isSome, .bool r.2]) ∧ Below w.heap.size w w'
theorem results_cell_tmp2 {fn : Func} {p u v : Tmp} {ty : TypeId} (h : fn.results = #[.cell p ty, .tmp u, .tmp v]) (tmps : Array Value) (P : Program) (w : World) :
    (results fn tmps).run P w =
      ((asAddr (tmps.getD p undef)).run P w).andThen fun a w1 => ((loadVar ty a).run P w1).andThen fun x w2 => .ok (.tuple #[x, tmps.getD u undef, tmps.getD v undef]) w2 := by
  simp only [results, h]
  simp [Sem.run_bind, Result.andThen]
theorem results_row_tmp2 {P : Program} {fn : Func} {p u v : Tmp} {ty : TypeId} (h : fn.results = #[.cell p ty, .tmp u, .tmp v]) (tmps : Array Value) (w : World) (g : Nat) (t : TypeId) (cs : Array Value) (fr : Nat × Nat) (d : TypeDesc)
    (hp : tmps.getD p undef = .pointer (some ⟨g, 0, none⟩)) (hg : w.heap[g]? = some (.cells cs t fr))
    (hu : P.underlying ty = some d) (hd : (match d with | .struct _ | .array _ _ => true | _ => false) = true) (hi : (P.info? ty).map (·.size) = some cs.size) :
    (results fn tmps).run P w = .ok (.tuple #[.agg cs, tmps.getD u undef, tmps.getD v undef]) w := by
  rw [results_cell_tmp2 h, hp]
  simp [asAddr, run_loadVar_row w g t ty cs fr d hg hu hd hi, Result.andThen]
/-- A result row of three cells, set anew. -/
theorem row3 {w : World} {g : Nat} {cs : Array Value} (h : Blk w g 49 cs) (hs : cs.size = 3) (a : ByteArray) (m : Int) (d : ByteArray) : Blk (((w.setCell ⟨g, 0, none⟩ (.string a)).setCell ⟨g, 1, none⟩ (.int .i64 m)).setCell ⟨g, 2, none⟩ (.string d)) g 49 #[.string a, .int .i64 m, .string d] := by
  have := ((h.set_ 0 (.string a)).set_ 1 (.int .i64 m)).set_ 2 (.string d)
  match cs, hs with
  | ⟨[x, y, z]⟩, _ => simpa using this
theorem below3 {B : Nat} {w w' : World} {g : Nat} (h : Below B w w') (hg : B ≤ g) (a b c : Value) : Below B w (((w'.setCell ⟨g, 0, none⟩ a).setCell ⟨g, 1, none⟩ b).setCell ⟨g, 2, none⟩ c) :=
  ((h.setCell (p := ⟨g, 0, none⟩) hg a).setCell (p := ⟨g, 1, none⟩) hg b).setCell (p := ⟨g, 2, none⟩) hg c
attribute [-go_sem] run_equalIn_agg
set_option maxRecDepth 100000 in
set_option maxHeartbeats 4000000 in
theorem one_any (w : World) (p : ByteArray) (vb vo vt : Value) (b o t : List Fl) (a n : ByteArray) (hb : Reads 3 cF w vb b) (ho : Reads 3 cF w vo o) (ht : Reads 3 cF w vt t) (rb : RiseF b) (ro : RiseF o) (rt : RiseF t) (lb : b.length ≤ 100000) (lo : o.length ≤ 100000) (lt : t.length ≤ 100000)
    (x : TxO) (hT : getF o p ≠ getF t p → getF b p ≠ getF t p → getF b p ≠ getF o p → ∀ W, TextSays x (sD (getF b p)) (sD (getF o p)) (sD (getF t p)) a n W) (hx : ∀ s k, x = some (s, k) → k ≤ 1000000 ∧ s.size ≤ 1000000000) :
    Calls Tryz.prog 16 #[.string p, vb, vo, vt, .string a, .string n] w (OneTold (oneV x p (getF b p) (getF o p) (getF t p)) w) := by
  have G0 := Lib.hid (Blk.new w 49 #[.string ⟨#[]⟩, .int .i64 0, .string ⟨#[]⟩])
  have W1 := Lib.hid ((Below.refl w.heap.size w).alloc (Nat.le_refl _) (.cells #[.string ⟨#[]⟩, .int .i64 0, .string ⟨#[]⟩] 49))
  have S1 := Lib.hid fun W (hW : Below w.heap.size w W) => sideOf_any W vb b p (hb.below hW) rb lb
  have S2 := Lib.hid fun W (hW : Below w.heap.size w W) => sideOf_any W vo o p (ho.below hW) ro lo
  have S3 := Lib.hid fun W (hW : Below w.heap.size w W) => sideOf_any W vt t p (ht.below hW) rt lt
  obtain ⟨Ab, cb, rfl⟩ := hb.form
  obtain ⟨Ao, co, rfl⟩ := ho.form
  obtain ⟨At, ct, rfl⟩ := ht.form
  obtain ⟨X, hX⟩ : ∃ X, X = getF b p := ⟨_, rfl⟩
  obtain ⟨Y, hY⟩ : ∃ X, X = getF o p := ⟨_, rfl⟩
  obtain ⟨Z, hZ⟩ : ∃ X, X = getF t p := ⟨_, rfl⟩
  rw [← hX] at S1 hT ⊢
  rw [← hY] at S2 hT ⊢
  rw [← hZ] at S3 hT ⊢
  have MD0 := Lib.hid fun h1 h2 h3 W => data_any W X Y Z a n x (hT h1 h2 h3) hx
  have MM := Lib.hid fun W => mode_any W X Y Z
  clear hb ho ht rb ro rt hX hY hZ hT hx
  go_enter Tryz.func16, Tryz.ntmps16
  go_upto_region 2 with (first
    | (go_at_call 35; refine (S3.out _ B3.out).mono ?_; rintro e w4 ⟨rfl, b4⟩; have B4 := Lib.hid (B3.out.trans (b4.mono B3.out.size)); have G4 := Lib.hid (G3.out.below b4 G3.out.lt); clear b4)
    | (go_at_call 35; refine (S2.out _ B2.out).mono ?_; rintro e w3 ⟨rfl, b3⟩; have B3 := Lib.hid (B2.out.trans (b3.mono B2.out.size)); have G3 := Lib.hid (G2.out.below b3 G2.out.lt); clear b3)
    | (go_at_call 35; refine (S1.out _ W1.out).mono ?_; rintro e w2 ⟨rfl, b2⟩; have B2 := Lib.hid (W1.out.trans (b2.mono W1.out.size)); have G2 := Lib.hid (G0.out.below b2 G0.out.lt); clear b2))
  obtain ⟨gr, hgr⟩ : ∃ x, x = w.heap.size := ⟨_, rfl⟩
  obtain ⟨g4, hg4⟩ : ∃ x, x = w4.heap.size := ⟨_, rfl⟩
  have XX := Lib.hid (((Blk.new w4 88 (sideA X)).alloc (.cells (sideA Y) 88)).alloc (.cells (sideA Z) 88))
  have YY := Lib.hid ((Blk.new (w4.alloc (.cells (sideA X) 88)) 88 (sideA Y)).alloc (.cells (sideA Z) 88))
  have ZZ := Lib.hid (Blk.new ((w4.alloc (.cells (sideA X) 88)).alloc (.cells (sideA Y) 88)) 88 (sideA Z))
  have G5 := Lib.hid (((G4.out.alloc (.cells (sideA X) 88)).alloc (.cells (sideA Y) 88)).alloc (.cells (sideA Z) 88))
  have B5 := Lib.hid (((B4.out.alloc B4.out.size (.cells (sideA X) 88)).alloc (by have := B4.out.size; simp; omega) (.cells (sideA Y) 88)).alloc (by have := B4.out.size; simp; omega) (.cells (sideA Z) 88))
  have HLT := Lib.hid (show gr < g4 by rw [hgr, hg4]; exact G4.out.lt)
  have HG := Lib.hid hgr
  simp only [World.size_alloc] at YY ZZ
  rw [← hg4] at XX YY ZZ ⊢
  rw [← hgr] at G5 ⊢
  clear hgr hg4 G0 G2 G3 G4 B2 B3 B4 W1 S1 S2 S3
  generalize hW5 : ((w4.alloc (.cells (sideA X) 88)).alloc (.cells (sideA Y) 88)).alloc (.cells (sideA Z) 88) = w5 at *
  clear hW5
  have x0 := XX.out.cell 0
  have x1 := XX.out.cell 1
  have x2 := XX.out.cell 2
  have x3 := XX.out.cell 3
  have y0 := YY.out.cell 0
  have y1 := YY.out.cell 1
  have y2 := YY.out.cell 2
  have y3 := YY.out.cell 3
  have z0 := ZZ.out.cell 0
  have z1 := ZZ.out.cell 1
  have z2 := ZZ.out.cell 2
  have z3 := ZZ.out.cell 3
  have g0 := G5.out.cell 0
  have g1 := G5.out.cell 1
  have g2 := G5.out.cell 2
  have f0 := G5.out.frozen 0
  have f1 := G5.out.frozen 1
  have f2 := G5.out.frozen 2
  have CY := Lib.hid fun W (hx : Blk W (g4 + 1) 88 (sideA Y)) => (⟨hx.cell 0, hx.cell 1, hx.cell 2, hx.cell 3⟩ : W.cell? ⟨g4 + 1, 0, none⟩ = some (.string (sP Y)) ∧ W.cell? ⟨g4 + 1, 1, none⟩ = some (.int .i64 (sM Y)) ∧ W.cell? ⟨g4 + 1, 2, none⟩ = some (.string (sD Y)) ∧ W.cell? ⟨g4 + 1, 3, none⟩ = some (.bool Y.isSome))
  have CZ := Lib.hid fun W (hx : Blk W (g4 + 1 + 1) 88 (sideA Z)) => (⟨hx.cell 0, hx.cell 1, hx.cell 2, hx.cell 3⟩ : W.cell? ⟨g4 + 1 + 1, 0, none⟩ = some (.string (sP Z)) ∧ W.cell? ⟨g4 + 1 + 1, 1, none⟩ = some (.int .i64 (sM Z)) ∧ W.cell? ⟨g4 + 1 + 1, 2, none⟩ = some (.string (sD Z)) ∧ W.cell? ⟨g4 + 1 + 1, 3, none⟩ = some (.bool Z.isSome))
  have k0 := CY.out w5.drew YY.out
  have k1 := CY.out _ (((show Blk w5.drew (g4 + 1) 88 (sideA Y) from YY.out).far (p := ⟨gr, 0, none⟩) (show g4 + 1 ≠ gr by have := HLT.out; omega) (.string (sP Y))).far (p := ⟨gr, 1, none⟩) (show g4 + 1 ≠ gr by have := HLT.out; omega) (.int .i64 (sM Y)) |>.far (p := ⟨gr, 2, none⟩) (show g4 + 1 ≠ gr by have := HLT.out; omega) (.string (sD Y)))
  have l0 := CZ.out w5.drew ZZ.out
  have l1 := CZ.out _ (((show Blk w5.drew (g4 + 1 + 1) 88 (sideA Z) from ZZ.out).far (p := ⟨gr, 0, none⟩) (show g4 + 1 + 1 ≠ gr by have := HLT.out; omega) (.string (sP Z))).far (p := ⟨gr, 1, none⟩) (show g4 + 1 + 1 ≠ gr by have := HLT.out; omega) (.int .i64 (sM Z)) |>.far (p := ⟨gr, 2, none⟩) (show g4 + 1 + 1 ≠ gr by have := HLT.out; omega) (.string (sD Z)))
  have KY := Lib.hid (And.intro k0 k1)
  have KZ := Lib.hid (And.intro l0 l1)
  clear k0 k1 l0 l1
  have qg : Tryz.prog.eqGuardType Tryz.prog.depth 88 = false := by kernel_rfl
  by_cases h1 : Y = Z
  · have hv : oneV x p X Y Z = (Y, false) := by unfold oneV; rw [if_pos (.inl h1)]
    have HV := Lib.hid hv
    clear hv
    subst h1
    clear KZ CZ
    go_upto_region 4 with fail
    have k0 := KY.out.1
    have k1 := KY.out.2
    go_region_held3 (fun w' => w'.cell? ⟨g4 + 1, 0, none⟩ = some (.string (sP Y)) ∧ w'.cell? ⟨g4 + 1, 1, none⟩ = some (.int .i64 (sM Y)) ∧ w'.cell? ⟨g4 + 1, 2, none⟩ = some (.string (sD Y)) ∧ w'.cell? ⟨g4 + 1, 3, none⟩ = some (.bool Y.isSome)) (first | exact k0 | exact k1) (fail)
    go_wp2
    exact bodyPost_ret (results_row_tmp2 (fn := Tryz.f16) rfl _ _ gr 49 (fileA Y) (0, 0) _ rfl (row3 (show Blk w5.drew gr 49 _ from G5.out) rfl _ _ _) Tryz.underlying49 rfl fileSize) rfl ⟨by rw [HV.out]; rfl, below3 (below_drewN B5.out 1) (by rw [HG.out]; exact Nat.le_refl _) _ _ _⟩
  by_cases h2 : X = Z
  · have hv : oneV x p X Y Z = (Y, false) := by unfold oneV; rw [if_pos (.inr h2)]
    have HV := Lib.hid hv
    have d1 : decide (Y = Z) = false := decide_eq_false h1
    clear hv h1
    subst h2
    clear KZ CZ
    go_upto_region 4 with fail
    have k0 := KY.out.1
    have k1 := KY.out.2
    go_region_held3 (fun w' => w'.cell? ⟨g4 + 1, 0, none⟩ = some (.string (sP Y)) ∧ w'.cell? ⟨g4 + 1, 1, none⟩ = some (.int .i64 (sM Y)) ∧ w'.cell? ⟨g4 + 1, 2, none⟩ = some (.string (sD Y)) ∧ w'.cell? ⟨g4 + 1, 3, none⟩ = some (.bool Y.isSome)) (first | exact k0 | exact k1) (fail)
    go_wp2
    exact bodyPost_ret (results_row_tmp2 (fn := Tryz.f16) rfl _ _ gr 49 (fileA Y) (0, 0) _ rfl (row3 (show Blk w5.drew gr 49 _ from G5.out) rfl _ _ _) Tryz.underlying49 rfl fileSize) rfl ⟨by rw [HV.out]; rfl, below3 (below_drewN B5.out 1) (by rw [HG.out]; exact Nat.le_refl _) _ _ _⟩
  by_cases h3 : X = Y
  · have hv : oneV x p X Y Z = (Z, false) := by unfold oneV; rw [if_neg (fun h => h.elim h1 h2), if_pos h3]
    have HV := Lib.hid hv
    have d1 : decide (Y = Z) = false := decide_eq_false h1
    clear hv h1 h2
    subst h3
    clear KY CY
    go_upto_region 6 with fail
    have k0 := KZ.out.1
    have k1 := KZ.out.2
    go_region_held3 (fun w' => w'.cell? ⟨g4 + 1 + 1, 0, none⟩ = some (.string (sP Z)) ∧ w'.cell? ⟨g4 + 1 + 1, 1, none⟩ = some (.int .i64 (sM Z)) ∧ w'.cell? ⟨g4 + 1 + 1, 2, none⟩ = some (.string (sD Z)) ∧ w'.cell? ⟨g4 + 1 + 1, 3, none⟩ = some (.bool Z.isSome)) (first | exact k0 | exact k1) (fail)
    go_wp2
    exact bodyPost_ret (results_row_tmp2 (fn := Tryz.f16) rfl _ _ gr 49 (fileA Z) (0, 0) _ rfl (row3 (show Blk w5.drew gr 49 _ from G5.out) rfl _ _ _) Tryz.underlying49 rfl fileSize) rfl ⟨by rw [HV.out]; rfl, below3 (below_drewN B5.out 1) (by rw [HG.out]; exact Nat.le_refl _) _ _ _⟩
  have d1 : decide (Y = Z) = false := decide_eq_false h1
  have d2 : decide (X = Z) = false := decide_eq_false h2
  have d3 : decide (X = Y) = false := decide_eq_false h3
  have ng : gr ≠ g4 ∧ gr ≠ g4 + 1 ∧ gr ≠ g4 + 1 + 1 := by have := HLT.out; omega
  have NG := Lib.hid ng
  clear CY CZ KY KZ ng
  have H1 := Lib.hid h1
  have H2 := Lib.hid h2
  have H3 := Lib.hid h3
  clear h1 h2 h3
  go_upto_region 7 with fail
  clear d1 d2 d3 y3 z3
  have h1 := H1.out
  have h2 := H2.out
  have h3 := H3.out
  clear H1 H2 H3
  cases hy : Y.isSome with
  | false =>
    have hv : oneV x p X Y Z = (Z, true) := by unfold oneV; rw [if_neg (fun h => h.elim h1 h2), if_neg h3, if_neg (by rw [hy]; simp), if_neg (by rw [hy]; simp)]
    have hz : Z.isSome = true := by
      cases hz : Z with
      | some f => rfl
      | none =>
        cases hy2 : Y with
        | none => exact absurd (hy2.trans hz.symm) h1
        | some f => rw [hy2] at hy; cases hy
    have HV := Lib.hid (show oneV x p X Y Z = (Z, true) ∧ Z.isSome = true from ⟨hv, hz⟩)
    clear hv h1 h2 h3 hz
    have y3 : w5.cell? ⟨g4 + 1, 3, none⟩ = some (.bool false) := (show _ = some (Value.bool Y.isSome) from YY.out.cell 3).trans (by rw [hy])
    clear hy
    go_wp2
    exact bodyPost_ret (results_row_tmp2 (fn := Tryz.f16) rfl _ _ gr 49 (fileA Z) (0, 0) _ rfl (row3 (show Blk w5 gr 49 _ from G5.out) rfl _ _ _) Tryz.underlying49 rfl fileSize) rfl ⟨by rw [HV.out.1]; dsimp only; rw [HV.out.2]; rfl, below3 B5.out (by rw [HG.out]; exact Nat.le_refl _) _ _ _⟩
  | true =>
    cases hz : Z.isSome with
    | false =>
      have hv : oneV x p X Y Z = (Y, true) := by unfold oneV; rw [if_neg (fun h => h.elim h1 h2), if_neg h3, if_neg (by rw [hz]; simp), if_pos hy]
      have HV := Lib.hid (show oneV x p X Y Z = (Y, true) ∧ Y.isSome = true from ⟨hv, hy⟩)
      have y3 : w5.cell? ⟨g4 + 1, 3, none⟩ = some (.bool true) := (show _ = some (Value.bool Y.isSome) from YY.out.cell 3).trans (by rw [hy])
      have z3 : w5.cell? ⟨g4 + 1 + 1, 3, none⟩ = some (.bool false) := (show _ = some (Value.bool Z.isSome) from ZZ.out.cell 3).trans (by rw [hz])
      clear hv h1 h2 h3 hy hz
      go_wp2
      exact bodyPost_ret (results_row_tmp2 (fn := Tryz.f16) rfl _ _ gr 49 (fileA Y) (0, 0) _ rfl (row3 (show Blk w5 gr 49 _ from G5.out) rfl _ _ _) Tryz.underlying49 rfl fileSize) rfl ⟨by rw [HV.out.1]; dsimp only; rw [HV.out.2]; rfl, below3 B5.out (by rw [HG.out]; exact Nat.le_refl _) _ _ _⟩
    | true =>
      obtain ⟨md, hmd⟩ : ∃ md, md = (if X.isSome = true ∧ sM X = sM Y then sM Z else sM Y) := ⟨_, rfl⟩
      obtain ⟨dt, hdt⟩ : ∃ dt, dt = mdV x X (sD Y) (sD Z) := ⟨_, rfl⟩
      have hv : oneV x p X Y Z = (some (p, md, dt.1), dt.2) := by unfold oneV; rw [if_neg (fun h => h.elim h1 h2), if_neg h3, if_pos ⟨hy, hz⟩, hmd, hdt]
      rw [← hmd] at MM
      have MD := Lib.hid (MD0.out h1 h2 h3)
      rw [← hdt] at MD
      have HV := Lib.hid hv
      have y3 : w5.cell? ⟨g4 + 1, 3, none⟩ = some (.bool true) := (show _ = some (Value.bool Y.isSome) from YY.out.cell 3).trans (by rw [hy])
      have z3 : w5.cell? ⟨g4 + 1 + 1, 3, none⟩ = some (.bool true) := (show _ = some (Value.bool Z.isSome) from ZZ.out.cell 3).trans (by rw [hz])
      clear hv h1 h2 h3 hmd hdt hy hz
      have fd : Tryz.prog.follows .mixedOrders = true := by kernel_rfl
      clear fd
      go_upto_region 8 with fail
      clear y3 z3
      have y3 := YY.out.cell 3
      have z3 := ZZ.out.cell 3
      go_upto_region 9 with (go_at_call 36; refine (MM.out _).mono ?_; rintro e w6 ⟨rfl, b6⟩; have B6 := Lib.hid (B5.out.trans (b6.mono B5.out.size)); have X6 := Lib.hid (XX.out.below b6 XX.out.lt); have Y6 := Lib.hid (YY.out.below b6 YY.out.lt); have Z6 := Lib.hid (ZZ.out.below b6 ZZ.out.lt); have G6 := Lib.hid (G5.out.below b6 G5.out.lt); clear b6 g0 g1 g2 f0 f1 f2 x0 x1 x2 x3 y0 y1 y2 y3 z0 z1 z2 z3; have g0 := G6.out.cell 0; have g1 := G6.out.cell 1; have f0 := G6.out.frozen 0; have f1 := G6.out.frozen 1)
      have X7 := Lib.hid ((X6.out.far (p := ⟨gr, 0, none⟩) NG.out.1.symm (.string p)).far (p := ⟨gr, 1, none⟩) NG.out.1.symm (.int .i64 md))
      have Y7 := Lib.hid ((Y6.out.far (p := ⟨gr, 0, none⟩) NG.out.2.1.symm (.string p)).far (p := ⟨gr, 1, none⟩) NG.out.2.1.symm (.int .i64 md))
      have Z7 := Lib.hid ((Z6.out.far (p := ⟨gr, 0, none⟩) NG.out.2.2.symm (.string p)).far (p := ⟨gr, 1, none⟩) NG.out.2.2.symm (.int .i64 md))
      have G7 := Lib.hid (show Blk ((w6.setCell ⟨gr, 0, none⟩ (.string p)).setCell ⟨gr, 1, none⟩ (.int .i64 md)) gr 49 #[.string p, .int .i64 md, .string ⟨#[]⟩] from by simpa using (G6.out.set_ 0 (.string p)).set_ 1 (.int .i64 md))
      have B7 := Lib.hid ((B6.out.setCell (p := ⟨gr, 0, none⟩) (by rw [HG.out]; exact Nat.le_refl _) (.string p)).setCell (p := ⟨gr, 1, none⟩) (by rw [HG.out]; exact Nat.le_refl _) (.int .i64 md))
      clear g0 g1 f0 f1 X6 Y6 Z6 G6 B6 XX YY ZZ G5 B5
      generalize hW7 : (w6.setCell ⟨gr, 0, none⟩ (.string p)).setCell ⟨gr, 1, none⟩ (.int .i64 md) = w7 at *
      clear hW7
      have x0 := X7.out.cell 0
      have x1 := X7.out.cell 1
      have x2 := X7.out.cell 2
      have x3 := X7.out.cell 3
      have y0 := Y7.out.cell 0
      have y1 := Y7.out.cell 1
      have y2 := Y7.out.cell 2
      have y3 := Y7.out.cell 3
      have z0 := Z7.out.cell 0
      have z1 := Z7.out.cell 1
      have z2 := Z7.out.cell 2
      have z3 := Z7.out.cell 3
      go_upto_region 10 with (go_at_call 37; refine (MD.out _).mono ?_; rintro e w8 ⟨rfl, b8⟩; have B8 := Lib.hid (B7.out.trans (b8.mono B7.out.size)); have G8 := Lib.hid (G7.out.below b8 G7.out.lt); clear b8 x0 x1 x2 x3 y0 y1 y2 y3 z0 z1 z2 z3; have g2 := G8.out.cell 2; have f2 := G8.out.frozen 2)
      have G9 := Lib.hid (show Blk (w8.setCell ⟨gr, 2, none⟩ (.string dt.1)) gr 49 #[.string p, .int .i64 md, .string dt.1] from by simpa using G8.out.set_ 2 (.string dt.1))
      have B9 := Lib.hid (B8.out.setCell (p := ⟨gr, 2, none⟩) (by rw [HG.out]; exact Nat.le_refl _) (.string dt.1))
      clear g2 f2 G8 B8 G7 B7 X7 Y7 Z7
      generalize hW9 : w8.setCell ⟨gr, 2, none⟩ (.string dt.1) = w9 at *
      clear hW9
      have g0 := G9.out.cell 0
      have g1 := G9.out.cell 1
      have g2 := G9.out.cell 2
      have f0 := G9.out.frozen 0
      have f1 := G9.out.frozen 1
      have f2 := G9.out.frozen 2
      go_wp2
      exact bodyPost_ret (results_row_tmp2 (fn := Tryz.f16) rfl _ _ gr 49 #[.string p, .int .i64 md, .string dt.1] (0, 0) _ rfl (row3 G9.out rfl _ _ _) Tryz.underlying49 rfl fileSize) rfl ⟨by rw [HV.out]; rfl, below3 B9.out (by rw [HG.out]; exact Nat.le_refl _) _ _ _⟩
end Go.Proofs.YtapcnmnnichamaaGreatDoor
