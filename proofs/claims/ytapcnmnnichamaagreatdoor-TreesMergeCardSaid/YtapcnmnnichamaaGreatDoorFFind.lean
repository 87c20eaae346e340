/-
  slices.BinarySearchFunc at a tree that rises, (Row).find and (Row).Get: the file at a path; status.unlike and status.changed: what became of it.
-/
import Derived.Test.YtapcnmnnichamaaGreatDoorSSort
namespace Go.Proofs.YtapcnmnnichamaaGreatDoor
open Go.RowKit

theorem fcmp_any (f : Fl) (s : ByteArray) (w : World) :
    Calls Tryz.prog 98 #[.agg #[.string f.1, .int .i64 f.2.1, .string f.2.2], .string s] w fun e w' => e = .returned (.int .i64 (cb f.1 s)) ∧ Below w.heap.size w w' := by
  go_enter Tryz.func98, Tryz.ntmps98
  go_wp2_with (go_at_call 42; refine (comp_any _ _ _).mono ?_; rintro e w' ⟨rfl, rfl⟩)
  go_ret
  exact ⟨rfl, (Below.refl _ _).alloc (Nat.le_refl _) _⟩

theorem ret_fb {a b : Int} {p q : Bool} (h : a = b) (g : p = q) : Ending.returned (.tuple #[.int .i64 a, .bool p]) = .returned (.tuple #[.int .i64 b, .bool q]) := by rw [h, g]
theorem cb_hit {x s : ByteArray} : ((cb x s == 0) : Bool) = decide (cb x s = 0) := by
  by_cases h : cb x s = 0
  · simp [h]
  · simp [h]
/-- All files ahead of i come ahead of s. -/
def SplitF (l : List Fl) (s : ByteArray) (i : Nat) : Prop := (∀ (t : Nat) (x : Fl), t < i → l[t]? = some x → cb x.1 s < 0) ∧ (∀ (t : Nat) (x : Fl), i ≤ t → l[t]? = some x → 0 ≤ cb x.1 s)
/-- Where the file at s stands, and whether it is there. -/
def FoundF (l : List Fl) (s : ByteArray) (w : World) (e : Ending) (w' : World) : Prop :=
  ∃ (i : Nat) (b : Bool), e = .returned (.tuple #[.int .i64 i, .bool b]) ∧ Below w.heap.size w w' ∧ i ≤ l.length ∧ SplitF l s i ∧ (b = true → ∃ f, l[i]? = some f ∧ getF l s = some f) ∧ (b = false → getF l s = none)

set_option maxHeartbeats 2000000 in
theorem search_any (w : World) (v : Value) (l : List Fl) (s : ByteArray) (h : Reads 3 cF w v l) (hr : RiseF l) (hl : l.length ≤ 100000) :
    Calls Tryz.prog 97 #[v, .string s, .func (.func 98) #[] #[]] w (FoundF l s w) := by
  obtain ⟨A, c, rfl⟩ := h.form
  have hn := h.len
  have HO := Lib.hid h
  have HR := Lib.hid hr
  have hrise : Hid (∀ (i j : Nat) (x y : Fl), i < j → l[i]? = some x → l[j]? = some y → cb x.1 y.1 < 0) := Lib.hid fun i j x y hij hx hy => by
    obtain ⟨hi, rfl⟩ := List.getElem?_eq_some_iff.1 hx
    obtain ⟨hj, rfl⟩ := List.getElem?_eq_some_iff.1 hy
    exact List.pairwise_iff_getElem.1 HR.out i j hi hj hij
  clear h hr hn
  go_enter Tryz.func97, Tryz.ntmps97
  go_wp2
  go_loopw [9, 10] (fun s9 s10 wr => ∃ lo hi : Nat, s9 = .int .i64 lo ∧ s10 = .int .i64 hi ∧ lo ≤ hi ∧ hi ≤ l.length ∧ Below w.heap.size w wr ∧
    Hid ((∀ (t : Nat) (x : Fl), t < lo → l[t]? = some x → cb x.1 s < 0) ∧ (∀ (t : Nat) (x : Fl), hi ≤ t → l[t]? = some x → 0 ≤ cb x.1 s))) (fun s9 s10 _ => (intOf s10).toNat - (intOf s9).toNat)
  case atStart => exact ⟨0, l.length, rfl, rfl, Nat.zero_le _, Nat.le_refl _, Below.refl _ _, ⟨fun t x ht => absurd ht (Nat.not_lt_zero _), fun t x ht hx => by have := (List.getElem?_eq_some_iff.1 hx).1; omega⟩⟩
  case round =>
    obtain ⟨lo, hi, rfl, rfl, hlh, hin, hb, I⟩ := hrel
    by_cases hlt : lo < hi
    · have hm1 : lo ≤ (lo + hi) / 2 := by omega
      have hm2 : (lo + hi) / 2 < hi := by omega
      obtain ⟨x, hx⟩ : ∃ x, l[(lo + hi) / 2]? = some x := ⟨_, List.getElem?_eq_getElem (by omega)⟩
      obtain ⟨ad, rfl, c0, c1, c2⟩ := Fils.at_ (HO.out.below hb) hx
      have HX := Lib.hid hx
      clear hx
      by_cases hyx : cb x.1 s < 0
      · go_wp2_with (go_at_call 98; refine (fcmp_any x s _).mono ?_; rintro e w' ⟨rfl, hb'⟩)
        go_roundw
        case rel => exact ⟨(lo + hi) / 2 + 1, hi, by go_num, rfl, by omega, hin, hb.trans (hb'.mono hb.size), ⟨fun t y ht hy => by
          rcases Nat.lt_or_ge t ((lo + hi) / 2) with h1 | h1
          · have := hrise.out t ((lo + hi) / 2) y x h1 hy HX.out
            exact cb_trans this hyx
          · obtain rfl : t = (lo + hi) / 2 := by omega
            rw [HX.out] at hy
            obtain rfl := Option.some.inj hy
            exact hyx, I.out.2⟩⟩
        case measure => simp [intOf]; omega
      · go_wp2_with (go_at_call 98; refine (fcmp_any x s _).mono ?_; rintro e w' ⟨rfl, hb'⟩)
        go_roundw
        case rel => exact ⟨lo, (lo + hi) / 2, rfl, by go_num, by omega, by omega, hb.trans (hb'.mono hb.size), ⟨I.out.1, fun t y ht hy => by
          rcases Nat.eq_or_lt_of_le ht with h1 | h1
          · rw [← h1, HX.out] at hy
            obtain rfl := Option.some.inj hy
            omega
          · have := hrise.out ((lo + hi) / 2) t x y h1 HX.out hy
            rcases Int.lt_or_le (cb y.1 s) 0 with h2 | h2
            · exact absurd (cb_trans this h2) (by omega)
            · exact h2⟩⟩
        case measure => simp [intOf]; omega
    · obtain rfl : hi = lo := by omega
      have HP := Lib.hid (getF_at HR.out I.out.1 I.out.2)
      by_cases hlen : hi < l.length
      · obtain ⟨x, hx⟩ : ∃ x, l[hi]? = some x := ⟨_, List.getElem?_eq_getElem hlen⟩
        obtain ⟨ad, rfl, c0, c1, c2⟩ := Fils.at_ (HO.out.below hb) hx
        have HX := Lib.hid hx
        clear hx
        go_wp2_with (go_at_call 98; refine (fcmp_any x s _).mono ?_; rintro e w' ⟨rfl, hb'⟩)
        go_ret2
        refine ⟨hi, decide (cb x.1 s = 0), ret_fb rfl cb_hit, hb.trans (hb'.mono hb.size), hin, I.out, fun hd => ⟨x, HX.out, ?_⟩, fun hd => ?_⟩
        · rw [HP.out, HX.out]; simp only [of_decide_eq_true hd, if_true]
        · rw [HP.out, HX.out]; simp only [of_decide_eq_false hd, if_false]
      · go_wp2_with fail
        go_ret2
        refine ⟨hi, false, rfl, hb, hin, I.out, (fun hd => by cases hd), fun _ => ?_⟩
        rw [HP.out, List.getElem?_eq_none (by omega)]

set_option maxHeartbeats 1000000 in
theorem find_any (w : World) (v : Value) (l : List Fl) (s : ByteArray) (h : Reads 3 cF w v l) (hr : RiseF l) (hl : l.length ≤ 100000) :
    Calls Tryz.prog 67 #[v, .string s] w (FoundF l s w) := by
  have S := Lib.hid fun W hW => search_any W v l s (h.below hW) hr hl
  clear h hr
  go_enter Tryz.func67, Tryz.ntmps67
  go_wp2_with fail
  refine (S.out _ (Below.refl _ _)).mono ?_
  rintro e w' ⟨i, b, rfl, hb, hi, h0, h1, h2⟩
  have H0 := Lib.hid h0
  have H1 := Lib.hid h1
  have H2 := Lib.hid h2
  clear h0 h1 h2
  go_wp2
  go_ret2
  exact ⟨i, b, rfl, hb, hi, H0.out, H1.out, H2.out⟩

/-- A file found, or none. -/
def gotV : Option Fl → Value
  | some f => .tuple #[.agg #[.string f.1, .int .i64 f.2.1, .string f.2.2], .bool true]
  | none => .tuple #[.agg #[.string ⟨#[]⟩, .int .i64 0, .string ⟨#[]⟩], .bool false]
def Got (o : Option Fl) (w : World) (e : Ending) (w' : World) : Prop := e = .returned (gotV o) ∧ Below w.heap.size w w'

theorem results_row_tmp {P : Program} {fn : Func} {p u : Tmp} {ty : TypeId} (h : fn.results = #[.cell p ty, .tmp u]) (tmps : Array Value) (w : World) (g : Nat) (t : TypeId) (cs : Array Value) (fr : Nat × Nat) (d : TypeDesc)
    (hp : tmps.getD p undef = .pointer (some ⟨g, 0, none⟩)) (hg : w.heap[g]? = some (.cells cs t fr))
    (hu : P.underlying ty = some d) (hd : (match d with | .struct _ | .array _ _ => true | _ => false) = true) (hi : (P.info? ty).map (·.size) = some cs.size) :
    (results fn tmps).run P w = .ok (.tuple #[.agg cs, tmps.getD u undef]) w := by
  rw [results_cell_tmp h, hp]
  simp [asAddr, run_loadVar_row w g t ty cs fr d hg hu hd hi, Result.andThen]
theorem fileSize : (Tryz.prog.info? 49).map (·.size) = some 3 := by kernel_rfl
theorem set_row (w : World) (g : Nat) (t : TypeId) (cs : Array Value) (fr : Nat × Nat) (i : Nat) (u : Value) (h : w.heap[g]? = some (.cells cs t fr)) : (w.setCell ⟨g, i, none⟩ u).heap[g]? = some (.cells (cs.setIfInBounds i u) t fr) := by
  simp [World.setCell, Array.getElem?_modify, h]

set_option maxHeartbeats 1000000 in
theorem get_any (w : World) (v : Value) (l : List Fl) (s : ByteArray) (h : Reads 3 cF w v l) (hr : RiseF l) (hl : l.length ≤ 100000) :
    Calls Tryz.prog 44 #[v, .string s] w (Got (getF l s) w) := by
  obtain ⟨W1, hW1⟩ : ∃ W1, W1 = w.alloc (.cells #[.string ⟨#[]⟩, .int .i64 0, .string ⟨#[]⟩] 49) := ⟨_, rfl⟩
  have S := Lib.hid (find_any W1 v l s (by rw [hW1]; exact h.alloc _) hr hl)
  have B1 : Below w.heap.size w W1 := by rw [hW1]; exact (Below.refl _ _).alloc (Nat.le_refl _) _
  have K1 : W1.heap[w.heap.size]? = some (.cells #[.string ⟨#[]⟩, .int .i64 0, .string ⟨#[]⟩] 49 (0, 0)) := by rw [hW1]; exact heap_alloc_new w _
  have hs1 : W1.heap.size = w.heap.size + 1 := by rw [hW1]; simp
  obtain ⟨A, c, rfl⟩ := h.form
  have HO := Lib.hid h
  clear h hr
  go_enter Tryz.func44, Tryz.ntmps44
  go_wp2_with fail
  rw [← hW1]
  refine S.out.mono ?_
  rintro e w' ⟨i, b, rfl, hb, hi, -, h1, h2⟩
  obtain ⟨g, hg⟩ : ∃ g, g = w.heap.size := ⟨_, rfl⟩
  rw [← hg] at K1 ⊢
  have K2 : w'.heap[g]? = some (.cells #[.string ⟨#[]⟩, .int .i64 0, .string ⟨#[]⟩] 49 (0, 0)) := (hb.block g (by omega)).trans K1
  have hb2 : Below w.heap.size w w' := B1.trans (hb.mono (by omega))
  have d0 := cell_of_row w' g 0 _ 49 (0, 0) K2
  have d1 := cell_of_row w' g 1 _ 49 (0, 0) K2
  have d2 := cell_of_row w' g 2 _ 49 (0, 0) K2
  have e0 : w'.frozen? ⟨g, 0, none⟩ = false := by simp [World.frozen?, K2]
  have e1 : w'.frozen? ⟨g, 1, none⟩ = false := by simp [World.frozen?, K2]
  have e2 : w'.frozen? ⟨g, 2, none⟩ = false := by simp [World.frozen?, K2]
  have HK2 := Lib.hid K2
  have HHG := Lib.hid hg
  clear hW1 K1 K2 hg S
  cases b with
  | true =>
    obtain ⟨f, hf, hg⟩ := h1 rfl
    obtain ⟨ad, rfl, c0, c1, c2⟩ := Fils.at_ (HO.out.below hb2) hf
    have hil := (List.getElem?_eq_some_iff.1 hf).1
    have HG := Lib.hid hg
    clear hf hg h1 h2
    go_wp2
    refine bodyPost_ret (results_row_tmp (fn := Tryz.f44) rfl _ _ g 49 #[.string f.1, .int .i64 f.2.1, .string f.2.2] (0, 0) _ rfl (by first | exact set_row _ _ _ _ _ _ _ (set_row _ _ _ _ _ _ _ (set_row _ _ _ _ _ _ _ HK2.out)) | simpa using set_row _ _ _ _ _ _ _ (set_row _ _ _ _ _ _ _ (set_row _ _ _ _ _ _ _ HK2.out))) Tryz.underlying49 rfl fileSize) rfl ⟨by rw [HG.out]; rfl, ?_⟩
    have hle : w.heap.size ≤ g := by rw [HHG.out]; exact Nat.le_refl _
    exact ((hb2.setCell (p := ⟨g, 0, none⟩) hle _).setCell (p := ⟨g, 1, none⟩) hle _).setCell (p := ⟨g, 2, none⟩) hle _
  | false =>
    have HG := Lib.hid (h2 rfl)
    clear h1 h2
    go_wp2
    refine bodyPost_ret (results_row_tmp (fn := Tryz.f44) rfl _ _ g 49 #[.string ⟨#[]⟩, .int .i64 0, .string ⟨#[]⟩] (0, 0) _ rfl (by first | exact set_row _ _ _ _ _ _ _ (set_row _ _ _ _ _ _ _ (set_row _ _ _ _ _ _ _ HK2.out)) | simpa using set_row _ _ _ _ _ _ _ (set_row _ _ _ _ _ _ _ (set_row _ _ _ _ _ _ _ HK2.out))) Tryz.underlying49 rfl fileSize) rfl ⟨by rw [HG.out]; rfl, ?_⟩
    have hle : w.heap.size ≤ g := by rw [HHG.out]; exact Nat.le_refl _
    exact ((hb2.setCell (p := ⟨g, 0, none⟩) hle _).setCell (p := ⟨g, 1, none⟩) hle _).setCell (p := ⟨g, 2, none⟩) hle _
end Go.Proofs.YtapcnmnnichamaaGreatDoor
