/-
  files.Diff: where two trees are unlike, by path.
  rectolaw14.known is true.
  rectolaw14.known is true.
  rectolaw15.known: its entries.
  rectolaw15.known is true.
  The walk of IndexPlays.
-/
import Derived.Test.YtplleaimmmanhaaGreatDoorP2
import Derived.Test.YtplleaimmmanhaaGreatDoorP1
import Derived.Test.YtplleaimmmanhaaGreatDoorP4
import Derived.Test.YtplleaimmmanhaaGreatDoorP3
import Derived.Test.YtplleaimmmanhaaGreatDoorP6
import Derived.Test.YtplleaimmmanhaaGreatDoorP5
namespace Go.Proofs.YtplleaimmmanhaaGreatDoor
open Go.RowKit

/-- The cells of a difference. -/
def whB (n : Int) : ByteArray := ⟨#[UInt8.ofNat n.toNat]⟩
def cD (x : Dl) : List Value := [.string x.1, .string (whB x.2)]
theorem cD_len (x : Dl) : (cD x).length = 2 := rfl
theorem deltaInfo : (Tryz.prog.info? 84).map (fun i => (i.zero, i.size, i.bytes)) = some (some (.agg #[.string ⟨#[]⟩, .string ⟨#[]⟩]), 2, 32) := by kernel_rfl
theorem pathsR_two (v u : Value) (a b : List Fl) : nrm (pathsR [(v, a), (u, b)]) = paths2 a b := by simp [pathsR, paths2]
theorem trees_two {w : World} {v u : Value} {a b : List Fl} (h : Reads 3 cF w v a) (g : Reads 3 cF w u b) : Trees (w.alloc (.cells #[v, u] 23)) ⟨w.heap.size, 0, none⟩ [(v, a), (u, b)] := fun i r hr => by
  match i, hr with
  | 0, hr => obtain rfl := Option.some.inj hr; exact ⟨cell_of_row _ _ 0 _ 23 (0, 0) (heap_alloc_new w _), h.alloc _⟩
  | 1, hr => obtain rfl := Option.some.inj hr; exact ⟨cell_of_row _ _ 1 _ 23 (0, 0) (heap_alloc_new w _), g.alloc _⟩
  | i + 2, hr => simp at hr
/-- files.Paths of two trees. -/
theorem paths_two (w : World) (v u : Value) (a b : List Fl) (h : Reads 3 cF w v a) (g : Reads 3 cF w u b) (ha : a.length ≤ 10000) (hb : b.length ≤ 10000) :
    Calls Tryz.prog 43 #[.slice (some ⟨w.heap.size, 0, none⟩) 2 2] (w.alloc (.cells #[v, u] 23)) (TextsTo (paths2 a b) (w.alloc (.cells #[v, u] 23))) := by
  have := paths_any _ ⟨w.heap.size, 0, none⟩ 2 [(v, a), (u, b)] (trees_two h g) (by simp) (by simp [pathsR]; omega)
  rw [pathsR_two] at this
  exact this
theorem isSome_of {a b : List Fl} {p : ByteArray} (h : p ∈ paths2 a b) (hn : (getF a p).isSome = false) : (getF b p).isSome = true := by
  rw [paths2_mem] at h
  have key : ∀ {l : List Fl}, p ∈ l.map (·.1) → (getF l p).isSome = true := fun {l} hm => by
    obtain ⟨f, hf, he⟩ := List.mem_map.1 hm
    unfold getF
    rw [List.find?_isSome]
    exact ⟨f, hf, by simpa using he⟩
  rcases h with h | h
  · rw [key h] at hn; cases hn
  · exact key h
theorem unl_add {x y : Option Fl} (h1 : x.isSome = false) (h2 : y.isSome = true) : unl x y = 65 := by cases x <;> cases y <;> simp_all [unl]
theorem unl_del {x y : Option Fl} (h1 : x.isSome = true) (h2 : y.isSome = false) : unl x y = 68 := by cases x <;> cases y <;> simp_all [unl]
theorem unl_yes {x y : Option Fl} (h1 : x.isSome = true) (h2 : y.isSome = true) (h : flZ x = flZ y) : unl x y = 32 := by cases x <;> cases y <;> simp_all [unl, flZ]
theorem unl_mod {x y : Option Fl} (h1 : x.isSome = true) (h2 : y.isSome = true) (h : flZ x ≠ flZ y) : unl x y = 77 := by cases x <;> cases y <;> simp_all [unl, flZ]

set_option maxRecDepth 100000 in
set_option maxHeartbeats 8000000 in
theorem diff_any (w : World) (v u : Value) (a b : List Fl) (h : Reads 3 cF w v a) (g : Reads 3 cF w u b) (ra : RiseF a) (rb : RiseF b) (ha : a.length ≤ 10000) (hb : b.length ≤ 10000) :
    Calls Tryz.prog 42 #[v, u] w (OwnTo 84 2 cD (diffF a b) w) := by
  have PT := Lib.hid (paths_two w v u a b h g ha hb)
  have HD := Lib.hid (show diffF a b = diffOf (fun p => unl (getF a p) (getF b p)) (paths2 a b) from rfl)
  have HI := Lib.hid fun p (hp : p ∈ paths2 a b) => @isSome_of a b p hp
  have G1 := Lib.hid fun W (hW : Below w.heap.size w W) p => get_any W v a p (h.below hW) ra (by omega)
  have G2 := Lib.hid fun W (hW : Below w.heap.size w W) p => get_any W u b p (g.below hW) rb (by omega)
  have LP := paths2_len a b
  obtain ⟨A, c, rfl⟩ := h.form
  obtain ⟨A2, c2, rfl⟩ := g.form
  obtain ⟨ps, hps⟩ : ∃ ps, ps = paths2 a b := ⟨_, rfl⟩
  obtain ⟨fL, hfL⟩ : ∃ f, f = fun p => unl (getF a p) (getF b p) := ⟨_, rfl⟩
  have FP := Lib.hid (show ∀ p, fL p = unl (getF a p) (getF b p) from fun p => by rw [hfL])
  rw [← hps] at PT HD HI LP
  rw [← hfL] at HD
  obtain ⟨i0, hi, hz0, hz1, hz2⟩ := info_parts deltaInfo
  have hpm : ps.length ≤ 20000 := by omega
  have B1 : Below w.heap.size w (w.alloc (.cells #[.slice A a.length c, .slice A2 b.length c2] 23)) := (Below.refl _ _).alloc (Nat.le_refl _) _
  clear h g ra rb hps hfL LP
  go_enter Tryz.func42, Tryz.ntmps42
  go_wp2_with fail
  refine PT.out.mono ?_
  rintro e w1 ⟨v1, rfl, o1, b1⟩
  have B2 := Lib.hid (B1.trans (b1.mono B1.size))
  have RP := Lib.hid (Strs.of_own o1 rfl)
  obtain ⟨A1, c1, rfl⟩ := own_form o1
  clear o1 b1 PT B1
  go_wp2_with fail
  obtain ⟨wo, hwo⟩ : ∃ wo, wo = w1 := ⟨_, rfl⟩
  subst hwo
  go_loopw [5, 17] (fun s5 s17 wr => ∃ (k : Nat) (acc : List Dl), k ≤ ps.length ∧ s17 = .int .i64 k ∧ Hid (acc = diffOf fL (ps.take k)) ∧ Hid (wr.ownsRow wo.heap.size 84 2 s5 acc.length (acc.flatMap cD)) ∧ Below wo.heap.size wo wr) (fun _ s17 _ => ps.length - (intOf s17).toNat)
  case atStart => exact ⟨0, [], Nat.zero_le _, rfl, Lib.hid rfl, Lib.hid (World.ownsRow_nil _ _ _ _), Below.refl _ _⟩
  case round =>
    obtain ⟨k, acc, hk, rfl, hacc, hown, hb⟩ := hrel
    by_cases hlt : k < ps.length
    · obtain ⟨ad, p, rfl, hp, c0⟩ := strs_at RP.out hlt
      have c0' := (hb.cell (World.block_lt_of_cell? _ _ c0)).trans c0
      have HT := Lib.hid (show diffOf fL (ps.take (k + 1)) = acc ++ (if fL p ≠ 32 then [(p, fL p)] else []) by rw [take_snoc hp, diffOf_snoc, hacc.out])
      have hsl : acc.length ≤ 20000 := by
        rw [hacc.out]
        exact Nat.le_trans (diffOf_len _ _) (by rw [List.length_take]; omega)
      have HIp := Lib.hid (HI.out p (List.mem_of_getElem? hp))
      have hbs := hb.size
      have BW := Lib.hid (B2.out.trans (hb.mono B2.out.size))
      have GA := Lib.hid (G1.out wr BW.out p)
      have GB := Lib.hid fun W (hW : Below wr.heap.size wr W) => G2.out W (BW.out.trans (hW.mono BW.out.size)) p
      have FPp := Lib.hid (FP.out p)
      obtain ⟨oa, hoa⟩ : ∃ o, o = getF a p := ⟨_, rfl⟩
      obtain ⟨ob, hob⟩ : ∃ o, o = getF b p := ⟨_, rfl⟩
      rw [← hoa] at GA FPp HIp
      rw [← hob] at GB FPp HIp
      unfold Got at GA GB
      simp only [gotV_flZ] at GA GB
      obtain ⟨x, hx⟩ : ∃ x, x = flZ oa := ⟨_, rfl⟩
      obtain ⟨y, hy⟩ : ∃ y, y = flZ ob := ⟨_, rfl⟩
      obtain ⟨xa, hxa⟩ : ∃ q, q = oa.isSome := ⟨_, rfl⟩
      obtain ⟨xb, hxb⟩ : ∃ q, q = ob.isSome := ⟨_, rfl⟩
      have HX := Lib.hid hx
      have HY := Lib.hid hy
      have HXA := Lib.hid hxa
      have HXB := Lib.hid hxb
      rw [← hx, ← hxa] at GA
      rw [← hy, ← hxb] at GB
      obtain ⟨x1, x2, x3⟩ := x
      obtain ⟨y1, y2, y3⟩ := y
      have k0 : (0 : Int) ≤ (k : Int) := Int.natCast_nonneg _
      have k1 : (k : Int) < (ps.length : Int) := by omega
      clear hp c0 hoa hob hx hy hxa hxb hacc
      go_wp2_with fail
      refine GA.out.mono ?_
      rintro e w2 ⟨rfl, b2⟩
      have b2' := b2.alloc b2.size (.cells #[.string x1, .int .i64 x2, .string x3] 25)
      go_wp2_with fail
      refine (GB.out _ b2').mono ?_
      rintro e w3 ⟨rfl, b3⟩
      have K1 := (b3.block w2.heap.size (by simp)).trans (heap_alloc_new w2 (.cells #[.string x1, .int .i64 x2, .string x3] 25))
      have B3 := b2'.trans (b3.mono b2'.size)
      have hlt2 : w2.heap.size + 1 ≤ w3.heap.size := by simpa using b3.size
      obtain ⟨g, hg⟩ : ∃ g, g = w2.heap.size := ⟨_, rfl⟩
      rw [← hg] at K1 hlt2
      have d0 := cell_of_row w3 g 0 _ 25 (0, 0) K1
      have d1 := cell_of_row w3 g 1 _ 25 (0, 0) K1
      have d2 := cell_of_row w3 g 2 _ 25 (0, 0) K1
      have B4 := hb.trans (B3.mono hbs)
      have Ob := Lib.hid (own_keep hown.out B3)
      have B4s := B4.size
      have hcl : g < w3.heap.size := by omega
      rw [← hg]
      clear K1 B3 b2 b2' b3 hlt2 hown hb hbs c0' GA GB hg
      cases xa with
      | false =>
        have HV := Lib.hid (show fL p = 65 from FPp.out.trans (unl_add HXA.out.symm (HIp.out HXA.out.symm)))
        clear HX HY
        have HK := Lib.hid (show diffOf fL (ps.take (k + 1)) = acc ++ [(p, 65)] by rw [HT.out, if_pos (by rw [HV.out]; decide), HV.out])
        have own4 := (Ob.out.alloc (.cells #[.string y1, .int .i64 y2, .string y3] 25)).alloc (.cells #[.string p, .string ⟨#[65]⟩] 84)
        have news4 := news_one (w3.alloc (.cells #[.string y1, .int .i64 y2, .string y3] 25)) #[.string p, .string ⟨#[65]⟩] 84 (w3.heap.size + 1) (by simp)
        go_wp2_with (at_builtin; refine wpList_append_own _ rfl _ _ 80 rfl wo.heap.size 84 i0 (.agg #[.string ⟨#[]⟩, .string ⟨#[]⟩]) 2 32 Tryz.underlying80 hi hz0 hz1 hz2 rfl (by decide) _ _ _ rfl own4 ⟨w3.heap.size + 1, 0, none⟩ 1 1 [.string p, .string ⟨#[65]⟩] rfl rfl news4 (by simp [Value.oneCell']) (by unfold maxLen; omega) (by omega) (by simp; omega) ?_; intro v5 w5 own5 hg5 _)
        have b5 : Below wo.heap.size wo w5 := ((B4.alloc B4s _).alloc (by simp; omega) _).grown hg5 (by simp; omega) (fun k hk => (Ob.out.lt k hk).1)
        clear news4 own4 hg5
        go_roundw
        case rel => exact ⟨k + 1, acc ++ [(p, 65)], by omega, by go_num, Lib.hid HK.out.symm, Lib.hid (by rw [List.length_append, flat_snoc]; exact own5), b5⟩
        case measure => simp [intOf]; omega
      | true =>
        cases xb with
        | false =>
          have HV := Lib.hid (show fL p = 68 from FPp.out.trans (unl_del HXA.out.symm HXB.out.symm))
          clear HX HY
          have HK := Lib.hid (show diffOf fL (ps.take (k + 1)) = acc ++ [(p, 68)] by rw [HT.out, if_pos (by rw [HV.out]; decide), HV.out])
          have own4 := (Ob.out.alloc (.cells #[.string y1, .int .i64 y2, .string y3] 25)).alloc (.cells #[.string p, .string ⟨#[68]⟩] 84)
          have news4 := news_one (w3.alloc (.cells #[.string y1, .int .i64 y2, .string y3] 25)) #[.string p, .string ⟨#[68]⟩] 84 (w3.heap.size + 1) (by simp)
          go_wp2_with (at_builtin; refine wpList_append_own _ rfl _ _ 80 rfl wo.heap.size 84 i0 (.agg #[.string ⟨#[]⟩, .string ⟨#[]⟩]) 2 32 Tryz.underlying80 hi hz0 hz1 hz2 rfl (by decide) _ _ _ rfl own4 ⟨w3.heap.size + 1, 0, none⟩ 1 1 [.string p, .string ⟨#[68]⟩] rfl rfl news4 (by simp [Value.oneCell']) (by unfold maxLen; omega) (by omega) (by simp; omega) ?_; intro v5 w5 own5 hg5 _)
          have b5 : Below wo.heap.size wo w5 := ((B4.alloc B4s _).alloc (by simp; omega) _).grown hg5 (by simp; omega) (fun k hk => (Ob.out.lt k hk).1)
          clear news4 own4 hg5
          go_roundw
          case rel => exact ⟨k + 1, acc ++ [(p, 68)], by omega, by go_num, Lib.hid HK.out.symm, Lib.hid (by rw [List.length_append, flat_snoc]; exact own5), b5⟩
          case measure => simp [intOf]; omega
        | true =>
          by_cases h1 : x1 = y1
          · subst h1
            by_cases h2 : x2 = y2
            · subst h2
              by_cases h3 : x3 = y3
              · subst h3
                have HV := Lib.hid (show fL p = 32 from FPp.out.trans (unl_yes HXA.out.symm HXB.out.symm (by rw [← HX.out, ← HY.out])))
                have HK := Lib.hid (show diffOf fL (ps.take (k + 1)) = acc by rw [HT.out, if_neg (by rw [HV.out]; decide), List.append_nil])
                clear HX HY
                go_wp2_with fail
                go_roundw
                case rel => exact ⟨k + 1, acc, by omega, by go_num, Lib.hid HK.out.symm, Lib.hid (Ob.out.alloc _), B4.alloc B4s _⟩
                case measure => simp [intOf]; omega
              · have n3 : ¬ x3.toList = y3.toList := fun e => h3 (tl_eq e)
                have n3' : (x3.toList == y3.toList) = false := by simpa using n3
                have HV := Lib.hid (show fL p = 77 from FPp.out.trans (unl_mod HXA.out.symm HXB.out.symm (by rw [← HX.out, ← HY.out]; exact fun e => h3 (congrArg (fun z => z.2.2) e))))
                clear HX HY
                clear h3
                have HK := Lib.hid (show diffOf fL (ps.take (k + 1)) = acc ++ [(p, 77)] by rw [HT.out, if_pos (by rw [HV.out]; decide), HV.out])
                have own4 := (Ob.out.alloc (.cells #[.string x1, .int .i64 x2, .string y3] 25)).alloc (.cells #[.string p, .string ⟨#[77]⟩] 84)
                have news4 := news_one (w3.alloc (.cells #[.string x1, .int .i64 x2, .string y3] 25)) #[.string p, .string ⟨#[77]⟩] 84 (w3.heap.size + 1) (by simp)
                go_wp2_with (at_builtin; refine wpList_append_own _ rfl _ _ 80 rfl wo.heap.size 84 i0 (.agg #[.string ⟨#[]⟩, .string ⟨#[]⟩]) 2 32 Tryz.underlying80 hi hz0 hz1 hz2 rfl (by decide) _ _ _ rfl own4 ⟨w3.heap.size + 1, 0, none⟩ 1 1 [.string p, .string ⟨#[77]⟩] rfl rfl news4 (by simp [Value.oneCell']) (by unfold maxLen; omega) (by omega) (by simp; omega) ?_; intro v5 w5 own5 hg5 _)
                have b5 : Below wo.heap.size wo w5 := ((B4.alloc B4s _).alloc (by simp; omega) _).grown hg5 (by simp; omega) (fun k hk => (Ob.out.lt k hk).1)
                clear news4 own4 hg5
                go_roundw
                case rel => exact ⟨k + 1, acc ++ [(p, 77)], by omega, by go_num, Lib.hid HK.out.symm, Lib.hid (by rw [List.length_append, flat_snoc]; exact own5), b5⟩
                case measure => simp [intOf]; omega
            · have n2' : (x2 == y2) = false := by simpa using h2
              have HV := Lib.hid (show fL p = 77 from FPp.out.trans (unl_mod HXA.out.symm HXB.out.symm (by rw [← HX.out, ← HY.out]; exact fun e => h2 (congrArg (fun z => z.2.1) e))))
              clear HX HY
              have HK := Lib.hid (show diffOf fL (ps.take (k + 1)) = acc ++ [(p, 77)] by rw [HT.out, if_pos (by rw [HV.out]; decide), HV.out])
              have own4 := (Ob.out.alloc (.cells #[.string x1, .int .i64 y2, .string y3] 25)).alloc (.cells #[.string p, .string ⟨#[77]⟩] 84)
              have news4 := news_one (w3.alloc (.cells #[.string x1, .int .i64 y2, .string y3] 25)) #[.string p, .string ⟨#[77]⟩] 84 (w3.heap.size + 1) (by simp)
              go_wp2_with (at_builtin; refine wpList_append_own _ rfl _ _ 80 rfl wo.heap.size 84 i0 (.agg #[.string ⟨#[]⟩, .string ⟨#[]⟩]) 2 32 Tryz.underlying80 hi hz0 hz1 hz2 rfl (by decide) _ _ _ rfl own4 ⟨w3.heap.size + 1, 0, none⟩ 1 1 [.string p, .string ⟨#[77]⟩] rfl rfl news4 (by simp [Value.oneCell']) (by unfold maxLen; omega) (by omega) (by simp; omega) ?_; intro v5 w5 own5 hg5 _)
              have b5 : Below wo.heap.size wo w5 := ((B4.alloc B4s _).alloc (by simp; omega) _).grown hg5 (by simp; omega) (fun k hk => (Ob.out.lt k hk).1)
              clear news4 own4 hg5
              go_roundw
              case rel => exact ⟨k + 1, acc ++ [(p, 77)], by omega, by go_num, Lib.hid HK.out.symm, Lib.hid (by rw [List.length_append, flat_snoc]; exact own5), b5⟩
              case measure => simp [intOf]; omega
          · have n1 : ¬ x1.toList = y1.toList := fun e => h1 (tl_eq e)
            have n1' : (x1.toList == y1.toList) = false := by simpa using n1
            have HV := Lib.hid (show fL p = 77 from FPp.out.trans (unl_mod HXA.out.symm HXB.out.symm (by rw [← HX.out, ← HY.out]; exact fun e => h1 (congrArg (fun z => z.1) e))))
            clear HX HY
            clear h1
            have HK := Lib.hid (show diffOf fL (ps.take (k + 1)) = acc ++ [(p, 77)] by rw [HT.out, if_pos (by rw [HV.out]; decide), HV.out])
            have own4 := (Ob.out.alloc (.cells #[.string y1, .int .i64 y2, .string y3] 25)).alloc (.cells #[.string p, .string ⟨#[77]⟩] 84)
            have news4 := news_one (w3.alloc (.cells #[.string y1, .int .i64 y2, .string y3] 25)) #[.string p, .string ⟨#[77]⟩] 84 (w3.heap.size + 1) (by simp)
            go_wp2_with (at_builtin; refine wpList_append_own _ rfl _ _ 80 rfl wo.heap.size 84 i0 (.agg #[.string ⟨#[]⟩, .string ⟨#[]⟩]) 2 32 Tryz.underlying80 hi hz0 hz1 hz2 rfl (by decide) _ _ _ rfl own4 ⟨w3.heap.size + 1, 0, none⟩ 1 1 [.string p, .string ⟨#[77]⟩] rfl rfl news4 (by simp [Value.oneCell']) (by unfold maxLen; omega) (by omega) (by simp; omega) ?_; intro v5 w5 own5 hg5 _)
            have b5 : Below wo.heap.size wo w5 := ((B4.alloc B4s _).alloc (by simp; omega) _).grown hg5 (by simp; omega) (fun k hk => (Ob.out.lt k hk).1)
            clear news4 own4 hg5
            go_roundw
            case rel => exact ⟨k + 1, acc ++ [(p, 77)], by omega, by go_num, Lib.hid HK.out.symm, Lib.hid (by rw [List.length_append, flat_snoc]; exact own5), b5⟩
            case measure => simp [intOf]; omega
    · obtain rfl : k = ps.length := by omega
      rw [List.take_length] at hacc
      have HB := Lib.hid (B2.out.trans (hb.mono B2.out.size))
      have HO := Lib.hid (own_base hown.out B2.out.size)
      clear hown hb
      go_wp2
      go_ret
      exact ⟨_, rfl, by rw [HD.out, ← hacc.out]; exact HO.out, HB.out⟩
end Go.Proofs.YtplleaimmmanhaaGreatDoor
namespace Go.Proofs.YtplleaimmmanhaaGreatDoor
open Go Go.RowKit

def YesTo (w : World) (e : Ending) (w' : World) : Prop := e = .returned (.bool true) ∧ Below w.heap.size w w'
def pa : ByteArray := ⟨#[97]⟩
def pb : ByteArray := ⟨#[98]⟩
def fB : Fl := (⟨#[98]⟩, 1, ⟨#[120]⟩)
def fA : Fl := (⟨#[97]⟩, 1, ⟨#[]⟩)
def fC : Fl := (⟨#[98]⟩, 2, ⟨#[120]⟩)
theorem pab : cb pa pb < 0 := by decide
theorem kn_put1 : putF [] fB = [fB] := by decide
theorem kn_put2 : putF [fB] fA = [fA, fB] := by decide
theorem kn_put3 : putF [fA, fB] fC = [fA, fC] := by decide
theorem kn_rise1 : RiseF [fB] := List.pairwise_singleton _ _
theorem kn_rise2 : RiseF [fA, fB] := List.pairwise_pair.2 pab
theorem kn_rise3 : RiseF [fA, fC] := List.pairwise_pair.2 pab
theorem kn_get : getF [fA, fB] ⟨#[98]⟩ = some fB := by decide
theorem kn_paths : paths2 [fA, fB] [fA, fC] = [pa, pb] := rise_unique (nrm_rise _) (List.pairwise_pair.2 pab) fun s => by
  unfold paths2
  rw [nrm_mem]
  simp only [fA, fB, fC, pa, pb, List.map_cons, List.map_nil, List.cons_append, List.nil_append, List.mem_cons, List.not_mem_nil, or_false]
  constructor
  · rintro (h | h | h | h) <;> simp [h]
  · rintro (h | h) <;> simp [h]
theorem kn_diff : diffF [fA, fB] [fA, fC] = [(⟨#[98]⟩, 77)] := by
  unfold diffF
  rw [kn_paths]
  decide
theorem kn_check : chkF [fA, fB] = none := by decide
theorem kn_cut : cutF [fA, fB] ⟨#[97]⟩ = [fB] := by decide
theorem kn_clear : clearF [fA, fB] ⟨#[97, 47, 120]⟩ = [fB] := by decide
theorem kn_same : decide ([fA, fB] = [fA, fC]) = false := by decide
theorem kn_sized : SizedD [fA, fB] := fun x hx => by
  simp only [List.mem_cons, List.not_mem_nil, or_false] at hx
  rcases hx with rfl | rfl <;> exact ⟨by decide, by decide⟩
end Go.Proofs.YtplleaimmmanhaaGreatDoor
namespace Go.Proofs.YtplleaimmmanhaaGreatDoor
open Go Go.RowKit

theorem own_first {w : World} {B : Nat} {e : TypeId} {k : Nat} {v : Value} {n : Nat} {xs : List Value} (h : w.ownsRow B e k v n xs) (hn : 0 < n) :
    ∃ g cap, v = .slice (some ⟨g, 0, none⟩) n cap ∧ n ≤ cap ∧ cap ≤ 9223372036854775807 ∧ g < w.heap.size := by
  rcases h.2 with ⟨_, h0⟩ | ⟨g, cap, cur, hv, hg, hgb, hnc, hcm, _⟩
  · omega
  · exact ⟨g, cap, hv, hnc, by unfold maxLen at hcm; omega, (Array.getElem?_eq_some_iff.1 hgb).1⟩

theorem kn_gotV : gotV (some fB) = .tuple #[.agg #[.string ⟨#[98]⟩, .int .i64 1, .string ⟨#[120]⟩], .bool true] := rfl
set_option maxRecDepth 100000 in
set_option maxHeartbeats 4000000 in
theorem known_yes (w : World) : Calls Tryz.prog 7 #[] w (YesTo w) := by
  have P1 := Lib.hid (put_any w (.slice none 0 0) [] fB (Reads.nil w) List.Pairwise.nil (by decide))
  rw [kn_put1] at P1
  go_enter Tryz.func7, Tryz.ntmps7
  go_wp2_with fail
  refine P1.out.mono ?_
  rintro e w1 ⟨v1, rfl, o1, b1⟩
  have P2 := Lib.hid (put_any w1 v1 [fB] fA (Reads.of_own cF_len o1) kn_rise1 (by decide))
  rw [kn_put2] at P2
  have B1 := Lib.hid b1
  clear P1 o1 b1
  go_wp2_with fail
  refine P2.out.mono ?_
  rintro e w2 ⟨v2, rfl, o2, b2⟩
  have R2 := Lib.hid (Reads.of_own cF_len o2)
  have G2 := Lib.hid (get_any w2 v2 [fA, fB] ⟨#[98]⟩ R2.out kn_rise2 (by decide))
  rw [kn_get] at G2
  have O2 := Lib.hid (own_base (B' := w.heap.size) o2 B1.out.size)
  have B2 := Lib.hid (B1.out.trans (b2.mono B1.out.size))
  clear P2 o2 b2 B1
  go_wp2_with fail
  refine G2.out.mono ?_
  rintro e w3 ⟨rfl, b3⟩
  obtain ⟨W3, hW3⟩ : ∃ W3, W3 = w3.alloc (.cells #[.string ⟨#[98]⟩, .int .i64 1, .string ⟨#[120]⟩] 25) := ⟨_, rfl⟩
  have a3 : Below w3.heap.size w3 W3 := by rw [hW3]; exact (Below.refl _ _).alloc (Nat.le_refl _) _
  obtain ⟨q, hQ⟩ : ∃ q, q = w3.heap.size := ⟨_, rfl⟩
  have k3 : Hid (W3.heap[q]? = some (.cells #[.string ⟨#[98]⟩, .int .i64 1, .string ⟨#[120]⟩] 25 (0, 0))) := Lib.hid (by rw [hW3, hQ]; exact heap_alloc_new w3 _)
  have q3 : Hid (q < W3.heap.size) := Lib.hid (by rw [hW3, hQ]; simp)
  have b23 : Below w2.heap.size w2 W3 := b3.trans (a3.mono b3.size)
  have B3 := Lib.hid (B2.out.trans (b23.mono B2.out.size))
  have O3 := Lib.hid (own_keep O2.out b23)
  have R3 := Lib.hid (R2.out.below b23)
  have P3 := Lib.hid (put_any W3 v2 [fA, fB] fC R3.out kn_rise2 (by decide))
  rw [kn_put3] at P3
  obtain ⟨gr, cr, rfl, hcr, hcm, hgr⟩ := own_first O3.out (by decide)
  clear G2 b3 a3 b23 O2 R2 B2
  rw [kn_gotV]
  go_wp2_with fail
  rw [← hW3, ← hQ]
  clear hW3 hQ
  refine P3.out.mono ?_
  rintro e w4 ⟨v4, rfl, o4, b4⟩
  obtain ⟨A4, c4, hv4⟩ := own_form o4
  simp only [List.length_cons, List.length_nil, Nat.zero_add, Nat.reduceAdd] at hv4
  subst hv4
  have R4 := Lib.hid (R3.out.below b4)
  have O4 := Lib.hid (own_keep O3.out b4)
  have Q4 := Lib.hid (Reads.of_own cF_len o4)
  have B4 := Lib.hid (B3.out.trans (b4.mono B3.out.size))
  have k4 : Hid (w4.heap[q]? = some (.cells #[.string ⟨#[98]⟩, .int .i64 1, .string ⟨#[120]⟩] 25 (0, 0))) := Lib.hid ((b4.block q q3.out).trans k3.out)
  have q4 : Hid (q < w4.heap.size) := Lib.hid (Nat.lt_of_lt_of_le q3.out b4.size)
  have D4 := Lib.hid (diff_any w4 _ (.slice A4 2 c4) [fA, fB] [fA, fC] R4.out Q4.out kn_rise2 kn_rise3 (by decide) (by decide))
  rw [kn_diff] at D4
  clear P3 o4 b4 R3 O3 B3 k3 q3
  go_wp2_with fail
  refine D4.out.mono ?_
  rintro e w5 ⟨v5, rfl, o5, b5⟩
  have R5 := Lib.hid (R4.out.below b5)
  have O5 := Lib.hid (own_keep O4.out b5)
  have Q5 := Lib.hid (Q4.out.below b5)
  have B5 := Lib.hid (B4.out.trans (b5.mono B4.out.size))
  have k5 : Hid (w5.heap[q]? = some (.cells #[.string ⟨#[98]⟩, .int .i64 1, .string ⟨#[120]⟩] 25 (0, 0))) := Lib.hid ((b5.block q q4.out).trans k4.out)
  have q5 : Hid (q < w5.heap.size) := Lib.hid (Nat.lt_of_lt_of_le q4.out b5.size)
  have D5 := Lib.hid o5
  obtain ⟨gd, cd, rfl, hcd, hcdm, hgd⟩ := own_first o5 (by decide)
  have P5 := Lib.hid (paths_two w5 _ (.slice A4 2 c4) [fA, fB] [fA, fC] R5.out Q5.out (by decide) (by decide))
  rw [kn_paths] at P5
  obtain ⟨W5, hW5⟩ : ∃ W5, W5 = w5.alloc (.cells #[.slice (some ⟨gr, 0, none⟩) 2 cr, .slice A4 2 c4] 23) := ⟨_, rfl⟩
  have a5 : Below w5.heap.size w5 W5 := by rw [hW5]; exact (Below.refl _ _).alloc (Nat.le_refl _) _
  have HW5 := Lib.hid hW5
  simp only [List.length_cons, List.length_nil, Nat.zero_add, Nat.reduceAdd] at P5
  rw [← hW5] at P5
  clear D4 o5 b5 R4 O4 Q4 B4 k4 q4 hW5
  go_wp2_with fail
  rw [← HW5.out]
  refine P5.out.mono ?_
  rintro e w6 ⟨v6, rfl, o6, b6⟩
  have b56 : Below w5.heap.size w5 w6 := a5.trans (b6.mono a5.size)
  have R6 := Lib.hid (R5.out.below b56)
  have Q6 := Lib.hid (Q5.out.below b56)
  have B6 := Lib.hid (B5.out.trans (b56.mono B5.out.size))
  have D6 := Lib.hid (own_keep D5.out b56)
  have O6 := own_keep O5.out b56
  have x0 : w6.cell? ⟨gr, 0, none⟩ = some (.string ⟨#[97]⟩) := O6.cellAt 0 (by decide)
  have k6 := (b56.block q q5.out).trans k5.out
  have y0 := cell_of_row w6 q 2 _ 25 (0, 0) k6
  obtain ⟨A6, c6, rfl⟩ := own_form o6
  have C6 := Lib.hid (checkF_any w6 _ [fA, fB] R6.out kn_sized (by decide))
  rw [kn_check] at C6
  clear P5 R5 O5 Q5 B5 k5 q5 D5 o6 b6 a5 b56 O6 k6 HW5
  go_wp2_with fail
  refine C6.out.mono ?_
  rintro e w7 h7
  obtain ⟨rfl, b7⟩ : e = .returned .nilIface ∧ Below w6.heap.size w6 w7 := by
    rcases h7 with ⟨_, he, hb⟩ | ⟨i, k, F, ho, _⟩
    · exact ⟨he, hb⟩
    · cases ho
  have R7 := Lib.hid (R6.out.below b7)
  have Q7 := Lib.hid (Q6.out.below b7)
  have B7 := Lib.hid (B6.out.trans (b7.mono B6.out.size))
  have D7 := own_keep D6.out b7
  have x1 : w7.cell? ⟨gd, 1, none⟩ = some (.string ⟨#[77]⟩) := D7.cellAt 1 (by decide)
  have U7 := Lib.hid (cut_any w7 _ [fA, fB] ⟨#[97]⟩ R7.out kn_sized.paths (by decide))
  rw [kn_cut] at U7
  clear C6 h7 R6 Q6 B6 D6 D7 b7 x0 y0
  go_wp2_with fail
  refine U7.out.mono ?_
  rintro e w8 ⟨v8, rfl, r8, b8⟩
  obtain ⟨A8, c8, rfl⟩ := r8.form
  have R8 := Lib.hid (R7.out.below b8)
  have Q8 := Lib.hid (Q7.out.below b8)
  have B8 := Lib.hid (B7.out.trans (b8.mono B7.out.size))
  have L8 := Lib.hid (clear_any w8 _ [fA, fB] ⟨#[97, 47, 120]⟩ R8.out kn_sized.paths (by decide) (by decide))
  rw [kn_clear] at L8
  clear U7 r8 b8 R7 Q7 B7 x1
  go_wp2_with fail
  refine L8.out.mono ?_
  rintro e w9 ⟨v9, rfl, r9, b9⟩
  obtain ⟨A9, c9, rfl⟩ := r9.form
  have B9 := Lib.hid (B8.out.trans (b9.mono B8.out.size))
  have S9 := Lib.hid (sameF_any w9 _ (.slice A4 2 c4) [fA, fB] [fA, fC] (R8.out.below b9) (Q8.out.below b9))
  rw [kn_same] at S9
  clear L8 r9 b9 R8 Q8 B8
  go_wp2_with fail
  refine S9.out.mono ?_
  rintro e w10 ⟨rfl, n10, rfl⟩
  go_wp2_with fail
  go_ret
  exact ⟨rfl, below_drewN B9.out _⟩
end Go.Proofs.YtplleaimmmanhaaGreatDoor
namespace Go.Proofs.YtplleaimmmanhaaGreatDoor
open Go Go.RowKit

def fX : Fl := (⟨#[97]⟩, 1, ⟨#[120]⟩)
def eX : En := (⟨#[97]⟩, 0, 1, ⟨#[120]⟩, 0, 0)
def eY : En := (⟨#[97]⟩, 2, 1, ⟨#[121]⟩, 0, 0)
def eZ : En := (⟨#[97]⟩, 1, 1, ⟨#[122]⟩, 0, 0)
theorem kq_of : [fX].map toE = [eX] := rfl
theorem kq_put1 : putL [eX] eY = [eY] := by decide
theorem kq_put2 : putL [eY] eZ = [eZ, eY] := by decide
theorem kq_put3 : putL [eZ, eY] eX = [eX] := by decide
theorem kq_rise1 : RiseE [eX] := List.pairwise_singleton _ _
theorem kq_rise2 : RiseE [eY] := List.pairwise_singleton _ _
theorem kq_rise3 : RiseE [eZ, eY] := List.pairwise_pair.2 (by decide)
theorem kq_chk : chkE [eZ, eY] = none := by decide
theorem kq_conf : nrm (confE [eZ, eY]) = [⟨#[97]⟩] := nrm_of (List.pairwise_singleton _ _) fun s => by
  rw [show confE [eZ, eY] = [⟨#[97]⟩, ⟨#[97]⟩] from by decide]
  simp
theorem kq_stage : stageE [eZ, eY] 2 = [(⟨#[97]⟩, 1, ⟨#[121]⟩)] := by decide
theorem kq_same : decide ([eZ, eY].map stillE = [eZ, eY].map stillE) = true := by decide
theorem kq_drop : dropE [eZ, eY] ⟨#[97]⟩ = [] := by decide
theorem kq_sized : SizedDE [eZ, eY] := fun x hx => by
  simp only [List.mem_cons, List.not_mem_nil, or_false] at hx
  rcases hx with rfl | rfl <;> exact ⟨by decide, by decide⟩
theorem kq_sized1 : SizedE [eX] := fun x hx => by
  simp only [List.mem_cons, List.not_mem_nil, or_false] at hx
  rcases hx with rfl; decide
theorem kq_sized2 : SizedE [eY] := fun x hx => by
  simp only [List.mem_cons, List.not_mem_nil, or_false] at hx
  rcases hx with rfl; decide
theorem kq_fit : ∀ x ∈ [eZ, eY], FitE x := fun x hx => by
  simp only [List.mem_cons, List.not_mem_nil, or_false] at hx
  rcases hx with rfl | rfl <;> exact ⟨by decide, by decide, ⟨by decide, by decide⟩, ⟨by decide, by decide⟩, ⟨by decide, by decide⟩, ⟨by decide, by decide⟩⟩
end Go.Proofs.YtplleaimmmanhaaGreatDoor
namespace Go.Proofs.YtplleaimmmanhaaGreatDoor
open Go Go.RowKit

theorem own_made3 (w : World) : (w.alloc (.cells #[.string ⟨#[97]⟩, .int .i64 1, .string ⟨#[120]⟩] 25)).ownsRow w.heap.size 25 3 (.slice (some ⟨w.heap.size, 0, none⟩) 1 1) 1 ([fX].flatMap cF) :=
  ⟨rfl, .inr ⟨w.heap.size, 1, #[.string ⟨#[97]⟩, .int .i64 1, .string ⟨#[120]⟩], rfl, Nat.le_refl _, heap_alloc_new w _, Nat.le_refl _, by decide, rfl, rfl⟩⟩

set_option maxRecDepth 100000 in
set_option maxHeartbeats 4000000 in
theorem known15_yes (w : World) (hh : Halves w) : Calls Tryz.prog 23 #[] w (YesTo w) := by
  obtain ⟨W0, hW0⟩ : ∃ W0, W0 = w.alloc (.cells #[.string ⟨#[97]⟩, .int .i64 1, .string ⟨#[120]⟩] 25) := ⟨_, rfl⟩
  have b0 : Below w.heap.size w W0 := by rw [hW0]; exact (Below.refl _ _).alloc (Nat.le_refl _) _
  have o0 := own_made3 w
  rw [← hW0] at o0
  have C0 := Lib.hid (of_any W0 (.slice (some ⟨w.heap.size, 0, none⟩) 1 1) [fX] (Reads.of_own cF_len o0) (by decide))
  rw [kq_of] at C0
  have HH := Lib.hid hh
  have B0 := Lib.hid b0
  clear hh b0 o0
  go_enter Tryz.func23, Tryz.ntmps23
  go_wp2_with fail
  rw [← hW0]
  clear hW0
  refine C0.out.mono ?_
  rintro e w1 ⟨v1, rfl, o1, b1⟩
  have B1 := Lib.hid (B0.out.trans (b1.mono B0.out.size))
  have O1 := Lib.hid (own_base (B' := w.heap.size) o1 B0.out.size)
  have P1 := Lib.hid (put_is w1 v1 [eX] eY (Reads.of_own cE_len o1) kq_rise1 kq_sized1 (by decide) (by decide))
  obtain ⟨g1, k1, rfl, hk1, hm1, hg1⟩ := own_first o1 (by decide)
  clear C0 o1 b1 B0
  go_wp2_with fail
  refine P1.out.mono ?_
  rintro e w2 ⟨v2, rfl, o2, b2, _, _⟩
  rw [kq_put1] at o2
  have B2 := Lib.hid (B1.out.trans (b2.mono B1.out.size))
  have O2 := Lib.hid (own_keep O1.out b2)
  have P2 := Lib.hid (put_is w2 v2 [eY] eZ (Reads.of_own cE_len o2) kq_rise2 kq_sized2 (by decide) (by decide))
  obtain ⟨A2, c2, hv2⟩ := own_form o2
  simp only [List.length_cons, List.length_nil, Nat.zero_add] at hv2
  subst hv2
  clear P1 o2 b2 B1 O1
  go_wp2_with fail
  refine P2.out.mono ?_
  rintro e w3 ⟨v3, rfl, o3, b3, _, _⟩
  rw [kq_put2] at o3
  have B3 := Lib.hid (B2.out.trans (b3.mono B2.out.size))
  have O3 := Lib.hid (own_keep O2.out b3)
  have N3 := Lib.hid (own_base (B' := w.heap.size) o3 B2.out.size)
  have R3 := Lib.hid (Reads.of_own cE_len o3)
  obtain ⟨g3, k3, rfl, hk3, hm3, hg3⟩ := own_first o3 (by decide)
  have C3 := Lib.hid (conflicts_any w3 _ [eZ, eY] R3.out (by decide))
  rw [kq_conf] at C3
  clear P2 o3 b3 B2 O2
  go_wp2_with fail
  refine C3.out.mono ?_
  rintro e w4 ⟨v4, rfl, o4, b4⟩
  have B4 := Lib.hid (B3.out.trans (b4.mono B3.out.size))
  have O4 := Lib.hid (own_keep O3.out b4)
  have N4 := Lib.hid (own_keep N3.out b4)
  have R4 := Lib.hid (R3.out.below b4)
  obtain ⟨A4, c4, hv4⟩ := own_form o4
  simp only [List.length_cons, List.length_nil, Nat.zero_add] at hv4
  subst hv4
  have E4 := Lib.hid (encode_any w4 _ [eZ, eY] R4.out kq_fit (by decide) kq_chk (HH.out.below B4.out HH.out.1))
  clear C3 o4 b4 B3 O3 N3 R3
  go_wp2_with fail
  refine E4.out.mono ?_
  rintro e w5 ⟨v5, rfl, o5, b5⟩
  have B5 := Lib.hid (B4.out.trans (b5.mono B4.out.size))
  have O5 := Lib.hid (own_keep O4.out b5)
  have N5 := Lib.hid (own_keep N4.out b5)
  have R5 := Lib.hid (R4.out.below b5)
  obtain ⟨A5, n5, c5, rfl⟩ : ∃ A n c, v5 = .slice A n c := by obtain ⟨A, c, h⟩ := own_form o5; exact ⟨A, _, c, h⟩
  have D5 := Lib.hid (decode_any w5 _ [eZ, eY] (ReadsB.of_own o5) kq_fit (by decide) kq_chk (HH.out.below B5.out HH.out.1))
  clear E4 o5 b5 B4 O4 N4 R4
  go_wp2_with fail
  refine D5.out.mono ?_
  rintro e w6 ⟨v6, rfl, o6, b6⟩
  have B6 := Lib.hid (B5.out.trans (b6.mono B5.out.size))
  have O6 := Lib.hid (own_keep O5.out b6)
  have N6 := Lib.hid (own_keep N5.out b6)
  have R6 := Lib.hid (R5.out.below b6)
  have Q6 := Lib.hid (Reads.of_own cE_len o6)
  obtain ⟨A6, c6, hv6⟩ := own_form o6
  simp only [List.length_cons, List.length_nil, Nat.zero_add, Nat.reduceAdd] at hv6
  subst hv6
  have x6 : w6.cell? ⟨g3, 1, none⟩ = some (.int .i64 1) := N6.out.cellAt 1 (by decide)
  have S6 := Lib.hid (stage_any w6 _ [eZ, eY] 2 R6.out (by decide))
  rw [kq_stage] at S6
  clear D5 o6 b6 B5 O5 N5 R5
  go_wp2_with fail
  refine S6.out.mono ?_
  rintro e w7 ⟨v7, rfl, o7, b7⟩
  have B7 := Lib.hid (B6.out.trans (b7.mono B6.out.size))
  have O7 := Lib.hid (own_keep O6.out b7)
  have R7 := Lib.hid (R6.out.below b7)
  have Q7 := Lib.hid (Q6.out.below b7)
  obtain ⟨A7, c7, hv7⟩ := own_form o7
  simp only [List.length_cons, List.length_nil, Nat.zero_add] at hv7
  subst hv7
  have M7 := Lib.hid (sameE_any w7 (.slice A6 2 c6) (.slice (some ⟨g3, 0, none⟩) 2 k3) [eZ, eY] [eZ, eY] Q7.out R7.out)
  clear S6 o7 b7 B6 O6 N6 R6 Q6 x6
  go_wp2_with fail
  refine M7.out.mono ?_
  rintro e w8 ⟨he, b8⟩
  rw [kq_same] at he
  subst he
  have B8 := Lib.hid (B7.out.trans (b8.mono B7.out.size))
  have O8 := Lib.hid (own_keep O7.out b8)
  have R8 := Lib.hid (R7.out.below b8)
  have D8 := Lib.hid (drop_any w8 _ [eZ, eY] ⟨#[97]⟩ R8.out kq_sized.paths (by decide))
  rw [kq_drop] at D8
  clear M7 b8 B7 O7 R7 Q7
  go_wp2_with fail
  refine D8.out.mono ?_
  rintro e w9 ⟨v9, rfl, r9, b9, _⟩
  have B9 := Lib.hid (B8.out.trans (b9.mono B8.out.size))
  have O9 := Lib.hid (own_keep O8.out b9)
  have R9 := Lib.hid (R8.out.below b9)
  obtain ⟨A9, c9, rfl⟩ := r9.form
  have C9 := Lib.hid (checkE_any w9 _ [eZ, eY] R9.out kq_sized (by decide))
  rw [kq_chk] at C9
  clear D8 r9 b9 B8 O8 R8
  go_wp2_with fail
  refine C9.out.mono ?_
  rintro e w10 h10
  obtain ⟨rfl, b10⟩ : e = .returned .nilIface ∧ Below w9.heap.size w9 w10 := by
    rcases h10 with ⟨_, he, hb⟩ | ⟨i, k, F, ho, _⟩
    · exact ⟨he, hb⟩
    · cases ho
  have B10 := Lib.hid (B9.out.trans (b10.mono B9.out.size))
  have O10 := own_keep O9.out b10
  have R10 := Lib.hid (R9.out.below b10)
  have z0 : w10.cell? ⟨g1, 0, none⟩ = some (.string ⟨#[97]⟩) := O10.cellAt 0 (by decide)
  have z1 : w10.cell? ⟨g1, 1, none⟩ = some (.int .i64 0) := O10.cellAt 1 (by decide)
  have z2 : w10.cell? ⟨g1, 2, none⟩ = some (.int .i64 1) := O10.cellAt 2 (by decide)
  have z3 : w10.cell? ⟨g1, 3, none⟩ = some (.string ⟨#[120]⟩) := O10.cellAt 3 (by decide)
  have z4 : w10.cell? ⟨g1, 4, none⟩ = some (.int .i64 0) := O10.cellAt 4 (by decide)
  have z5 : w10.cell? ⟨g1, 5, none⟩ = some (.int .i64 0) := O10.cellAt 5 (by decide)
  have P10 := Lib.hid (put_is w10 _ [eZ, eY] eX R10.out kq_rise3 kq_sized.paths (by decide) (by decide))
  clear C9 h10 b10 B9 O9 R9 O10
  go_wp2_with fail
  refine P10.out.mono ?_
  rintro e w11 ⟨v11, rfl, o11, b11, _, _⟩
  rw [kq_put3] at o11
  have B11 := Lib.hid (B10.out.trans (b11.mono B10.out.size))
  obtain ⟨A11, c11, hv11⟩ := own_form o11
  simp only [List.length_cons, List.length_nil, Nat.zero_add] at hv11
  subst hv11
  clear P10 o11 b11 B10 R10
  go_wp2_with fail
  go_ret
  exact ⟨rfl, B11.out⟩
end Go.Proofs.YtplleaimmmanhaaGreatDoor
namespace Go.Proofs.YtplleaimmmanhaaGreatDoor
open Go Go.RowKit

set_option maxRecDepth 100000 in
set_option maxHeartbeats 8000000 in
theorem plays_walk (W : World) (hh : Halves W) (v u : Value) (l : List En) (ss : List ByteArray) (rd : Reads 6 cE W v l) (rs : Strs W u ss) :
    Calls Tryz.prog 5 #[v, u] W (YesTo W) := by
  have KN := Lib.hid (known15_yes W hh)
  obtain ⟨A, c, rfl⟩ := rd.form
  obtain ⟨B, d, rfl, hd1, hd2, hd3, hd4⟩ := rs
  have hlen := rd.len
  have hlc : l.length ≤ c := hlen.2.1
  have hcm : c ≤ 9223372036854775807 := by have := hlen.2.2; unfold maxLen at this; omega
  have HCM := Lib.hid hlen.2.2
  have HR := Lib.hid rd
  have HD := Lib.hid (show ∀ V, Below W.heap.size W V → ∀ (ad : Addr) (i : Nat) (s : ByteArray), B = some ad → ss[i]? = some s → V.cell? (ad.add i) = some (.string s) from fun V hV ad i s ha hs => (hV.cell (World.block_lt_of_cell? _ _ (hd4 ad ha i s hs))).trans (hd4 ad ha i s hs))
  have HDN := Lib.hid hd3
  have hdm : d ≤ 9223372036854775807 := by unfold maxLen at hd2; omega
  clear hh rd hlen hd3 hd4
  go_enter Tryz.func5, Tryz.ntmps5
  go_wp2_with fail
  refine KN.out.mono ?_
  rintro e w1 ⟨rfl, b1⟩
  have FW := Lib.hid (fewE_any w1 (.slice A l.length c) l (HR.out.below b1))
  have B1 := Lib.hid b1
  clear b1 KN
  go_wp2_with fail
  refine FW.out.mono ?_
  rintro e w2 ⟨b, rfl, hfew, n2, rfl⟩
  have B2 := Lib.hid (below_drewN B1.out n2)
  cases b with
  | false =>
    go_wp2_with fail
    go_ret
    exact ⟨rfl, B2.out⟩
  | true =>
    obtain ⟨hl80, hsz⟩ := hfew rfl
    have HSZ := Lib.hid hsz
    clear hfew hsz FW
    by_cases hbig : 40 < ss.length
    · have hb1 : (40 : Int) < (ss.length : Int) := by omega
      go_wp2_with fail
      go_ret
      exact ⟨rfl, B2.out⟩
    have hb1 : ¬ (40 : Int) < (ss.length : Int) := by omega
    obtain ⟨w2, hw2⟩ : ∃ w2, w2 = w1.drewN n2 := ⟨_, rfl⟩
    rw [← hw2] at B2 ⊢
    clear hw2 B1
    go_wp2_with fail
    go_loopw [5, 6, 7] (fun s5 s6 s7 wr => ∃ (i : Nat) (L : List En), i ≤ l.length ∧ L.length ≤ i ∧ s7 = .int .i64 i ∧ Hid (wr.ownsRow W.heap.size 71 6 s5 L.length (L.flatMap cE)) ∧ Hid (wr.ownsRow W.heap.size 73 6 s6 L.length (L.flatMap cE)) ∧ Hid (OkE L) ∧ Hid (SizedDE L) ∧ Hid (Below W.heap.size W wr)) (fun _ _ s7 _ => l.length - (intOf s7).toNat)
    case atStart => exact ⟨0, [], Nat.zero_le _, Nat.zero_le _, rfl, Lib.hid (World.ownsRow_nil _ _ _ _), Lib.hid (World.ownsRow_nil _ _ _ _), Lib.hid OkE.nil, Lib.hid (fun x hx => by cases hx), B2⟩
    case round =>
      obtain ⟨i, L, hil, hLi, rfl, o5, o6, hok, hLs, hb⟩ := hrel
      have i00 : (0 : Int) ≤ (i : Int) := Int.natCast_nonneg _
      by_cases hlt : i < l.length
      · obtain ⟨x, hx⟩ : ∃ x, l[i]? = some x := ⟨_, List.getElem?_eq_getElem hlt⟩
        have HXS := Lib.hid (HSZ.out x (List.mem_of_getElem? hx))
        have hi1 : (i : Int) < (l.length : Int) := by omega
        have hci : ¬ c = i := by omega
        have hc1 : Hid (1 ≤ c - i) := Lib.hid (by omega)
        have hc2 : Hid (c - i ≤ maxLen) := Lib.hid (by have := HCM.out; omega)
        obtain ⟨ad, rfl, _⟩ := Ents.at_ HR.out hx
        have hadc : ∀ V, Below W.heap.size W V → V.cell? (ad.add (i * 6)) = some (.string x.1) ∧ V.cell? ⟨(ad.add (i * 6)).block, (ad.add (i * 6)).off + 1, none⟩ = some (.int .i64 x.2.1) ∧ V.cell? ⟨(ad.add (i * 6)).block, (ad.add (i * 6)).off + 2, none⟩ = some (.int .i64 x.2.2.1) ∧
            V.cell? ⟨(ad.add (i * 6)).block, (ad.add (i * 6)).off + 3, none⟩ = some (.string x.2.2.2.1) ∧ V.cell? ⟨(ad.add (i * 6)).block, (ad.add (i * 6)).off + 4, none⟩ = some (.int .i64 x.2.2.2.2.1) ∧ V.cell? ⟨(ad.add (i * 6)).block, (ad.add (i * 6)).off + 5, none⟩ = some (.int .i64 x.2.2.2.2.2) := fun V hV => by
          obtain ⟨ad2, h2, hcs⟩ := Ents.at_ (HR.out.below hV) hx
          obtain rfl := Option.some.inj h2
          exact hcs
        have HAD := Lib.hid hadc
        clear hadc hx
        have OF := Lib.hid (ofE_any wr (.slice (some (ad.add (i * 6))) 1 (c - i)) [x] (reads_one hc1.out hc2.out (HAD.out _ hb.out)) (by simp))
        go_wp2_with fail
        refine OF.out.mono ?_
        rintro e w3 ⟨v3, rfl, o3, b3⟩
        have CI := Lib.hid (checkIndex_any w3 v3 [x] (Reads.of_own cE_len o3) (by simp) (fun y hy => by rw [List.mem_singleton.1 hy]; have := HXS.out.1; omega))
        have B3 := Lib.hid (hb.out.trans (b3.mono hb.out.size))
        have O53 := Lib.hid (own_keep o5.out b3)
        have O63 := Lib.hid (own_keep o6.out b3)
        obtain ⟨A3, c3, hv3⟩ := own_form o3
        simp only [List.length_cons, List.length_nil, Nat.zero_add] at hv3
        subst hv3
        clear o3 b3 OF o5 o6 hb
        go_wp2_with fail
        refine CI.out.mono ?_
        rintro e w4 ⟨A4, k4, c4, n4, rfl, hn4, b4⟩
        have B4 := Lib.hid (B3.out.trans (b4.mono B3.out.size))
        have O54 := Lib.hid (own_keep O53.out b4)
        have O64 := Lib.hid (own_keep O63.out b4)
        have HN4 := Lib.hid hn4
        have fld : ∀ V : World, (Instr.field 36 (.agg #[.slice A4 k4 c4, .int .i64 n4]) 1).run Tryz.prog V = .ok (.int .i64 n4) V := fun _ => rfl
        clear b4 CI B3 O53 O63 hn4
        by_cases hn0 : n4 = 0
        · have HOWN := Lib.hid (one_own (HN4.out.1 hn0))
          subst hn0
          have hx6 := HAD.out _ B4.out
          obtain ⟨xp, xs, xm, xd, xt, xz⟩ := x
          obtain ⟨x0, x1, x2, x3, x4, x5⟩ := hx6
          have PI := Lib.hid (put_is w4 _ L (xp, xs, xm, xd, xt, xz) (Reads.of_own cE_len O54.out) hok.out.rise hLs.out.paths (Nat.le_trans HXS.out.1 (by decide)) (by omega))
          go_wp2_with fail
          refine PI.out.mono ?_
          rintro e w5 ⟨v5, rfl, o5, b5, r5, l5⟩
          have OF := Lib.hid (ofE_any w5 (.slice (some (ad.add (i * 6))) 1 (c - i)) [(xp, xs, xm, xd, xt, xz)] (reads_one hc1.out hc2.out (HAD.out _ (B4.out.trans (b5.mono B4.out.size)))) (by simp))
          have B5 := Lib.hid (B4.out.trans (b5.mono B4.out.size))
          have O55 := Lib.hid (own_base (B' := W.heap.size) o5 B4.out.size)
          have O65 := Lib.hid (own_keep O64.out b5)
          have HOK := Lib.hid (hok.out.put HOWN.out r5)
          have HSD := Lib.hid (putL_sized (e := (xp, xs, xm, xd, xt, xz)) hLs.out ⟨Nat.le_trans HXS.out.1 (by decide), Nat.le_trans HXS.out.2 (by decide)⟩)
          obtain ⟨P, hP⟩ : ∃ P, P = putL L (xp, xs, xm, xd, xt, xz) := ⟨_, rfl⟩
          have HP := Lib.hid hP
          rw [← hP] at O55 HOK HSD l5
          have hPl : P.length ≤ 81 := by omega
          have hPi : P.length ≤ i + 1 := by omega
          obtain ⟨A5, n5, c5, rfl⟩ : ∃ A n c, v5 = .slice A n c := by obtain ⟨A, c, h⟩ := own_form o5; exact ⟨A, _, c, h⟩
          clear o5 b5 r5 hP PI O54 O64 l5 x0 x1 x2 x3 x4 x5
          go_wp2_with fail
          refine OF.out.mono ?_
          rintro e w6 ⟨v6, rfl, o6, b6⟩
          have B6 := Lib.hid (B5.out.trans (b6.mono B5.out.size))
          have O56 := Lib.hid (own_keep O55.out b6)
          have O66 := Lib.hid (own_keep O65.out b6)
          obtain ⟨g6, k6, rfl, hk6, hm6, hg6⟩ := own_first o6 (show 0 < 1 by decide)
          have x0 : w6.cell? ⟨g6, 0, none⟩ = some (.string xp) := o6.cellAt 0 (show 0 < 1 * 6 by decide)
          have x1 : w6.cell? ⟨g6, 1, none⟩ = some (.int .i64 xs) := o6.cellAt 1 (show 1 < 1 * 6 by decide)
          have x2 : w6.cell? ⟨g6, 2, none⟩ = some (.int .i64 xm) := o6.cellAt 2 (show 2 < 1 * 6 by decide)
          have x3 : w6.cell? ⟨g6, 3, none⟩ = some (.string xd) := o6.cellAt 3 (show 3 < 1 * 6 by decide)
          have x4 : w6.cell? ⟨g6, 4, none⟩ = some (.int .i64 xt) := o6.cellAt 4 (show 4 < 1 * 6 by decide)
          have x5 : w6.cell? ⟨g6, 5, none⟩ = some (.int .i64 xz) := o6.cellAt 5 (show 5 < 1 * 6 by decide)
          have PR := Lib.hid (refPutE_any w6 _ L (xp, xs, xm, xd, xt, xz) (Reads.of_own cE_len O66.out) hok.out.rise hLs.out.paths (Nat.le_trans HXS.out.1 (by decide)) (by omega))
          rw [← HP.out] at PR
          clear o6 b6 OF O55 O65 B5 hok hLs
          go_wp2_with fail
          refine PR.out.mono ?_
          rintro e w7 ⟨v7, rfl, o7, b7⟩
          have B7 := Lib.hid (B6.out.trans (b7.mono B6.out.size))
          have O57 := Lib.hid (own_keep O56.out b7)
          have O67 := Lib.hid (own_base (B' := W.heap.size) o7 B6.out.size)
          obtain ⟨A7, c7, rfl⟩ := own_form o7
          clear o7 b7 PR O56 O66 B6 x0 x1 x2 x3 x4 x5
          by_cases hdl : i < ss.length
          · obtain ⟨s, hs⟩ : ∃ s, ss[i]? = some s := ⟨_, List.getElem?_eq_getElem hdl⟩
            have hd1' : (i : Int) < (ss.length : Int) := by omega
            obtain ⟨bd, rfl⟩ : ∃ bd, B = some bd := by
              cases B with
              | none => have := HDN.out rfl; omega
              | some bd => exact ⟨bd, rfl⟩
            have y0 := HD.out _ B7.out bd i s rfl hs
            have HDS := Lib.hid (fun V (hV : Below W.heap.size W V) => HD.out V hV bd i s rfl hs)
            clear hs
            by_cases hlong : 100 < s.size
            · have hl1 : (100 : Int) < (s.size : Int) := by omega
              go_wp2_with fail
              go_ret
              exact ⟨rfl, B7.out⟩
            · have hl1 : ¬ (100 : Int) < (s.size : Int) := by omega
              have DR := Lib.hid (drop_any w7 _ P s (Reads.of_own cE_len O57.out) HSD.out.paths (by omega))
              go_wp2_with fail
              refine DR.out.mono ?_
              rintro e w8 ⟨v8, rfl, _, b8, o8⟩
              have B8 := Lib.hid (B7.out.trans (b8.mono B7.out.size))
              have O58 := Lib.hid (own_base (B' := W.heap.size) o8 B7.out.size)
              have O68 := Lib.hid (own_keep O67.out b8)
              have RR := Lib.hid (refDrop_any w8 _ P s (Reads.of_own cE_len O68.out) (by omega))
              have y0 := HDS.out _ B8.out
              obtain ⟨A8, n8, c8, rfl⟩ : ∃ A n c, v8 = .slice A n c := by obtain ⟨A, c, h⟩ := own_form o8; exact ⟨A, _, c, h⟩
              clear o8 b8 DR O57 O67 B7
              go_wp2_with fail
              refine RR.out.mono ?_
              rintro e w9 ⟨v9, rfl, o9, b9⟩
              have B9 := Lib.hid (B8.out.trans (b9.mono B8.out.size))
              have O59 := Lib.hid (own_keep O58.out b9)
              have O69 := Lib.hid (own_base (B' := W.heap.size) o9 B8.out.size)
              have HOK2 := Lib.hid (HOK.out.drop s)
              have HSD2 := Lib.hid (dropE_sized HSD.out s)
              obtain ⟨Z, hZ⟩ : ∃ Z, Z = dropE P s := ⟨_, rfl⟩
              have hZl : Z.length ≤ P.length := by rw [hZ]; exact dropE_len _ _
              rw [← hZ] at O59 O69 HOK2 HSD2
              obtain ⟨A9, n9, c9, rfl⟩ : ∃ A n c, v9 = .slice A n c := by obtain ⟨A, c, h⟩ := own_form o9; exact ⟨A, _, c, h⟩
              clear o9 b9 RR O58 O68 B8 hZ y0 HOK HSD
              have AL := Lib.hid (allE_any w9 _ _ Z Z (Reads.of_own cE_len O59.out) (Reads.of_own cE_len O69.out) (by omega))
              have HTT := Lib.hid (decide_eq_true (show Z = Z from rfl))
              go_wp2_with fail
              refine AL.out.mono ?_
              rintro e wa ⟨rfl, ba⟩
              rw [HTT.out]
              have BA := Lib.hid (B9.out.trans (ba.mono B9.out.size))
              have O5a := Lib.hid (own_keep O59.out ba)
              have O6a := Lib.hid (own_keep O69.out ba)
              have CA := Lib.hid (checkE_any wa _ Z (Reads.of_own cE_len O5a.out) HSD2.out (by omega))
              rw [HOK2.out.check (by omega)] at CA
              clear ba AL O59 O69 B9
              go_wp2_with fail
              refine CA.out.mono ?_
              rintro e wb hbb
              obtain ⟨rfl, b10⟩ : e = .returned .nilIface ∧ Below wa.heap.size wa wb := by
                rcases hbb with ⟨_, he, hb⟩ | ⟨i, k, F, ho, _⟩
                · exact ⟨he, hb⟩
                · cases ho
              have BB := Lib.hid (BA.out.trans (b10.mono BA.out.size))
              have O5b := Lib.hid (own_keep O5a.out b10)
              have O6b := Lib.hid (own_keep O6a.out b10)
              clear hbb b10 CA O5a O6a BA
              go_wp2_with fail
              go_roundw
              case rel => exact ⟨i + 1, Z, by omega, by omega, by go_num, O5b, O6b, HOK2, HSD2, BB⟩
              case measure => simp [intOf]; omega
          · have hd1' : ¬ (i : Int) < (ss.length : Int) := by omega
            have AL := Lib.hid (allE_any w7 _ _ P P (Reads.of_own cE_len O57.out) (Reads.of_own cE_len O67.out) (by omega))
            have HTT := Lib.hid (decide_eq_true (show P = P from rfl))
            go_wp2_with fail
            refine AL.out.mono ?_
            rintro e wa ⟨rfl, ba⟩
            rw [HTT.out]
            have BA := Lib.hid (B7.out.trans (ba.mono B7.out.size))
            have O5a := Lib.hid (own_keep O57.out ba)
            have O6a := Lib.hid (own_keep O67.out ba)
            have CA := Lib.hid (checkE_any wa _ P (Reads.of_own cE_len O5a.out) HSD.out (by omega))
            rw [HOK.out.check (by omega)] at CA
            clear ba AL O57 O67 B7
            go_wp2_with fail
            refine CA.out.mono ?_
            rintro e wb hbb
            obtain ⟨rfl, b10⟩ : e = .returned .nilIface ∧ Below wa.heap.size wa wb := by
              rcases hbb with ⟨_, he, hb⟩ | ⟨i, k, F, ho, _⟩
              · exact ⟨he, hb⟩
              · cases ho
            have BB := Lib.hid (BA.out.trans (b10.mono BA.out.size))
            have O5b := Lib.hid (own_keep O5a.out b10)
            have O6b := Lib.hid (own_keep O6a.out b10)
            clear hbb b10 CA O5a O6a BA
            go_wp2_with fail
            go_roundw
            case rel => exact ⟨i + 1, P, by omega, by omega, by go_num, O5b, O6b, HOK, HSD, BB⟩
            case measure => simp [intOf]; omega
        · have hnb : (n4 == 0) = false := by simpa using hn0
          have hnb2 : (n4 != 0) = true := by simp [hn0]
          clear HN4
          go_wp2_with fail
          go_ret
          exact ⟨rfl, B4.out⟩
      · obtain rfl : i = l.length := by omega
        go_wp2_with fail
        go_ret
        exact ⟨rfl, hb.out⟩
end Go.Proofs.YtplleaimmmanhaaGreatDoor
