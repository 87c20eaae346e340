/-
  files.Diff: where two trees are unlike, by path.
-/
import Derived.Test.YtplleaimmmanhaaDoorFThy
import Derived.Test.YtplleaimmmanhaaDoorFApp
namespace Go.Proofs.YtplleaimmmanhaaDoor
open Go.RowKit

/-- The cells of a difference. -/
def whB (n : Int) : ByteArray := ⟨#[UInt8.ofNat n.toNat]⟩
def cD (x : Dl) : List Value := [.string x.1, .string (whB x.2)]
theorem cD_len (x : Dl) : (cD x).length = 2 := rfl
theorem deltaInfo : (Tryd.prog.info? 35).map (fun i => (i.zero, i.size, i.bytes)) = some (some (.agg #[.string ⟨#[]⟩, .string ⟨#[]⟩]), 2, 32) := by kernel_rfl
theorem pathsR_two (v u : Value) (a b : List Fl) : nrm (pathsR [(v, a), (u, b)]) = paths2 a b := by simp [pathsR, paths2]
theorem trees_two {w : World} {v u : Value} {a b : List Fl} (h : Reads 3 cF w v a) (g : Reads 3 cF w u b) : Trees (w.alloc (.cells #[v, u] 23)) ⟨w.heap.size, 0, none⟩ [(v, a), (u, b)] := fun i r hr => by
  match i, hr with
  | 0, hr => obtain rfl := Option.some.inj hr; exact ⟨cell_of_row _ _ 0 _ 23 (0, 0) (heap_alloc_new w _), h.alloc _⟩
  | 1, hr => obtain rfl := Option.some.inj hr; exact ⟨cell_of_row _ _ 1 _ 23 (0, 0) (heap_alloc_new w _), g.alloc _⟩
  | i + 2, hr => simp at hr
/-- files.Paths of two trees. -/
theorem paths_two (w : World) (v u : Value) (a b : List Fl) (h : Reads 3 cF w v a) (g : Reads 3 cF w u b) (ha : a.length ≤ 10000) (hb : b.length ≤ 10000) :
    Calls Tryd.prog 17 #[.slice (some ⟨w.heap.size, 0, none⟩) 2 2] (w.alloc (.cells #[v, u] 23)) (TextsTo (paths2 a b) (w.alloc (.cells #[v, u] 23))) := by
  have := paths_any _ ⟨w.heap.size, 0, none⟩ 2 [(v, a), (u, b)] (trees_two h g) (by simp) (by simp [pathsR]; omega)
  rw [pathsR_two] at this
  exact this
theorem isSome_of {a b : List Fl} {p : ByteArray} (h : p ∈ paths2 a b) (hn : (getF a p).isSome = false) : (getF b p).isSome = true := by
  rw [paths2_mem] at h
  have key : ∀ {l : List Fl}, p ∈ l.map (·.1) → (getF l p).isSome = true := fun {l} hm => by
    obtain ⟨f, hf, he⟩ := List.mem_map.1 hm
    unfold getF
    rw [List.find?_isSome]
    exact ⟨f, hf, by simpa using he⟩
  rcases h with h | h
  · rw [key h] at hn; cases hn
  · exact key h
theorem unl_add {x y : Option Fl} (h1 : x.isSome = false) (h2 : y.isSome = true) : unl x y = 65 := by cases x <;> cases y <;> simp_all [unl]
theorem unl_del {x y : Option Fl} (h1 : x.isSome = true) (h2 : y.isSome = false) : unl x y = 68 := by cases x <;> cases y <;> simp_all [unl]
theorem unl_yes {x y : Option Fl} (h1 : x.isSome = true) (h2 : y.isSome = true) (h : flZ x = flZ y) : unl x y = 32 := by cases x <;> cases y <;> simp_all [unl, flZ]
theorem unl_mod {x y : Option Fl} (h1 : x.isSome = true) (h2 : y.isSome = true) (h : flZ x ≠ flZ y) : unl x y = 77 := by cases x <;> cases y <;> simp_all [unl, flZ]

set_option maxRecDepth 100000 in
set_option maxHeartbeats 8000000 in
theorem diff_any (w : World) (v u : Value) (a b : List Fl) (h : Reads 3 cF w v a) (g : Reads 3 cF w u b) (ra : RiseF a) (rb : RiseF b) (ha : a.length ≤ 10000) (hb : b.length ≤ 10000) :
    Calls Tryd.prog 12 #[v, u] w (OwnTo 35 2 cD (diffF a b) w) := by
  have PT := Lib.hid (paths_two w v u a b h g ha hb)
  have HD := Lib.hid (show diffF a b = diffOf (fun p => unl (getF a p) (getF b p)) (paths2 a b) from rfl)
  have HI := Lib.hid fun p (hp : p ∈ paths2 a b) => @isSome_of a b p hp
  have G1 := Lib.hid fun W (hW : Below w.heap.size w W) p => get_any W v a p (h.below hW) ra (by omega)
  have G2 := Lib.hid fun W (hW : Below w.heap.size w W) p => get_any W u b p (g.below hW) rb (by omega)
  have LP := paths2_len a b
  obtain ⟨A, c, rfl⟩ := h.form
  obtain ⟨A2, c2, rfl⟩ := g.form
  obtain ⟨ps, hps⟩ : ∃ ps, ps = paths2 a b := ⟨_, rfl⟩
  obtain ⟨fL, hfL⟩ : ∃ f, f = fun p => unl (getF a p) (getF b p) := ⟨_, rfl⟩
  have FP := Lib.hid (show ∀ p, fL p = unl (getF a p) (getF b p) from fun p => by rw [hfL])
  rw [← hps] at PT HD HI LP
  rw [← hfL] at HD
  obtain ⟨i0, hi, hz0, hz1, hz2⟩ := info_parts deltaInfo
  have hpm : ps.length ≤ 20000 := by omega
  have B1 : Below w.heap.size w (w.alloc (.cells #[.slice A a.length c, .slice A2 b.length c2] 23)) := (Below.refl _ _).alloc (Nat.le_refl _) _
  clear h g ra rb hps hfL LP
  go_enter Tryd.func12, Tryd.ntmps12
  go_wp2_with fail
  refine PT.out.mono ?_
  rintro e w1 ⟨v1, rfl, o1, b1⟩
  have B2 := Lib.hid (B1.trans (b1.mono B1.size))
  have RP := Lib.hid (Strs.of_own o1 rfl)
  obtain ⟨A1, c1, rfl⟩ := own_form o1
  clear o1 b1 PT B1
  go_wp2_with fail
  obtain ⟨wo, hwo⟩ : ∃ wo, wo = w1 := ⟨_, rfl⟩
  subst hwo
  go_loopw [5, 17] (fun s5 s17 wr => ∃ (k : Nat) (acc : List Dl), k ≤ ps.length ∧ s17 = .int .i64 k ∧ Hid (acc = diffOf fL (ps.take k)) ∧ Hid (wr.ownsRow wo.heap.size 35 2 s5 acc.length (acc.flatMap cD)) ∧ Below wo.heap.size wo wr) (fun _ s17 _ => ps.length - (intOf s17).toNat)
  case atStart => exact ⟨0, [], Nat.zero_le _, rfl, Lib.hid rfl, Lib.hid (World.ownsRow_nil _ _ _ _), Below.refl _ _⟩
  case round =>
    obtain ⟨k, acc, hk, rfl, hacc, hown, hb⟩ := hrel
    by_cases hlt : k < ps.length
    · obtain ⟨ad, p, rfl, hp, c0⟩ := strs_at RP.out hlt
      have c0' := (hb.cell (World.block_lt_of_cell? _ _ c0)).trans c0
      have HT := Lib.hid (show diffOf fL (ps.take (k + 1)) = acc ++ (if fL p ≠ 32 then [(p, fL p)] else []) by rw [take_snoc hp, diffOf_snoc, hacc.out])
      have hsl : acc.length ≤ 20000 := by
        rw [hacc.out]
        exact Nat.le_trans (diffOf_len _ _) (by rw [List.length_take]; omega)
      have HIp := Lib.hid (HI.out p (List.mem_of_getElem? hp))
      have hbs := hb.size
      have BW := Lib.hid (B2.out.trans (hb.mono B2.out.size))
      have GA := Lib.hid (G1.out wr BW.out p)
      have GB := Lib.hid fun W (hW : Below wr.heap.size wr W) => G2.out W (BW.out.trans (hW.mono BW.out.size)) p
      have FPp := Lib.hid (FP.out p)
      obtain ⟨oa, hoa⟩ : ∃ o, o = getF a p := ⟨_, rfl⟩
      obtain ⟨ob, hob⟩ : ∃ o, o = getF b p := ⟨_, rfl⟩
      rw [← hoa] at GA FPp HIp
      rw [← hob] at GB FPp HIp
      unfold Got at GA GB
      simp only [gotV_flZ] at GA GB
      obtain ⟨x, hx⟩ : ∃ x, x = flZ oa := ⟨_, rfl⟩
      obtain ⟨y, hy⟩ : ∃ y, y = flZ ob := ⟨_, rfl⟩
      obtain ⟨xa, hxa⟩ : ∃ q, q = oa.isSome := ⟨_, rfl⟩
      obtain ⟨xb, hxb⟩ : ∃ q, q = ob.isSome := ⟨_, rfl⟩
      have HX := Lib.hid hx
      have HY := Lib.hid hy
      have HXA := Lib.hid hxa
      have HXB := Lib.hid hxb
      rw [← hx, ← hxa] at GA
      rw [← hy, ← hxb] at GB
      obtain ⟨x1, x2, x3⟩ := x
      obtain ⟨y1, y2, y3⟩ := y
      have k0 : (0 : Int) ≤ (k : Int) := Int.natCast_nonneg _
      have k1 : (k : Int) < (ps.length : Int) := by omega
      clear hp c0 hoa hob hx hy hxa hxb hacc
      go_wp2_with fail
      refine GA.out.mono ?_
      rintro e w2 ⟨rfl, b2⟩
      have b2' := b2.alloc b2.size (.cells #[.string x1, .int .i64 x2, .string x3] 42)
      go_wp2_with fail
      refine (GB.out _ b2').mono ?_
      rintro e w3 ⟨rfl, b3⟩
      have K1 := (b3.block w2.heap.size (by simp)).trans (heap_alloc_new w2 (.cells #[.string x1, .int .i64 x2, .string x3] 42))
      have B3 := b2'.trans (b3.mono b2'.size)
      have hlt2 : w2.heap.size + 1 ≤ w3.heap.size := by simpa using b3.size
      obtain ⟨g, hg⟩ : ∃ g, g = w2.heap.size := ⟨_, rfl⟩
      rw [← hg] at K1 hlt2
      have d0 := cell_of_row w3 g 0 _ 42 (0, 0) K1
      have d1 := cell_of_row w3 g 1 _ 42 (0, 0) K1
      have d2 := cell_of_row w3 g 2 _ 42 (0, 0) K1
      have B4 := hb.trans (B3.mono hbs)
      have Ob := Lib.hid (own_keep hown.out B3)
      have B4s := B4.size
      have hcl : g < w3.heap.size := by omega
      rw [← hg]
      clear K1 B3 b2 b2' b3 hlt2 hown hb hbs c0' GA GB hg
      cases xa with
      | false =>
        have HV := Lib.hid (show fL p = 65 from FPp.out.trans (unl_add HXA.out.symm (HIp.out HXA.out.symm)))
        clear HX HY
        have HK := Lib.hid (show diffOf fL (ps.take (k + 1)) = acc ++ [(p, 65)] by rw [HT.out, if_pos (by rw [HV.out]; decide), HV.out])
        have own4 := (Ob.out.alloc (.cells #[.string y1, .int .i64 y2, .string y3] 42)).alloc (.cells #[.string p, .string ⟨#[65]⟩] 35)
        have news4 := news_one (w3.alloc (.cells #[.string y1, .int .i64 y2, .string y3] 42)) #[.string p, .string ⟨#[65]⟩] 35 (w3.heap.size + 1) (by simp)
        go_wp2_with (at_builtin; refine wpList_append_own _ rfl _ _ 31 rfl wo.heap.size 35 i0 (.agg #[.string ⟨#[]⟩, .string ⟨#[]⟩]) 2 32 Tryd.underlying31 hi hz0 hz1 hz2 rfl (by decide) _ _ _ rfl own4 ⟨w3.heap.size + 1, 0, none⟩ 1 1 [.string p, .string ⟨#[65]⟩] rfl rfl news4 (by simp [Value.oneCell']) (by unfold maxLen; omega) (by omega) (by simp; omega) ?_; intro v5 w5 own5 hg5 _)
        have b5 : Below wo.heap.size wo w5 := ((B4.alloc B4s _).alloc (by simp; omega) _).grown hg5 (by simp; omega) (fun k hk => (Ob.out.lt k hk).1)
        clear news4 own4 hg5
        go_roundw
        case rel => exact ⟨k + 1, acc ++ [(p, 65)], by omega, by go_num, Lib.hid HK.out.symm, Lib.hid (by rw [List.length_append, flat_snoc]; exact own5), b5⟩
        case measure => simp [intOf]; omega
      | true =>
        cases xb with
        | false =>
          have HV := Lib.hid (show fL p = 68 from FPp.out.trans (unl_del HXA.out.symm HXB.out.symm))
          clear HX HY
          have HK := Lib.hid (show diffOf fL (ps.take (k + 1)) = acc ++ [(p, 68)] by rw [HT.out, if_pos (by rw [HV.out]; decide), HV.out])
          have own4 := (Ob.out.alloc (.cells #[.string y1, .int .i64 y2, .string y3] 42)).alloc (.cells #[.string p, .string ⟨#[68]⟩] 35)
          have news4 := news_one (w3.alloc (.cells #[.string y1, .int .i64 y2, .string y3] 42)) #[.string p, .string ⟨#[68]⟩] 35 (w3.heap.size + 1) (by simp)
          go_wp2_with (at_builtin; refine wpList_append_own _ rfl _ _ 31 rfl wo.heap.size 35 i0 (.agg #[.string ⟨#[]⟩, .string ⟨#[]⟩]) 2 32 Tryd.underlying31 hi hz0 hz1 hz2 rfl (by decide) _ _ _ rfl own4 ⟨w3.heap.size + 1, 0, none⟩ 1 1 [.string p, .string ⟨#[68]⟩] rfl rfl news4 (by simp [Value.oneCell']) (by unfold maxLen; omega) (by omega) (by simp; omega) ?_; intro v5 w5 own5 hg5 _)
          have b5 : Below wo.heap.size wo w5 := ((B4.alloc B4s _).alloc (by simp; omega) _).grown hg5 (by simp; omega) (fun k hk => (Ob.out.lt k hk).1)
          clear news4 own4 hg5
          go_roundw
          case rel => exact ⟨k + 1, acc ++ [(p, 68)], by omega, by go_num, Lib.hid HK.out.symm, Lib.hid (by rw [List.length_append, flat_snoc]; exact own5), b5⟩
          case measure => simp [intOf]; omega
        | true =>
          by_cases h1 : x1 = y1
          · subst h1
            by_cases h2 : x2 = y2
            · subst h2
              by_cases h3 : x3 = y3
              · subst h3
                have HV := Lib.hid (show fL p = 32 from FPp.out.trans (unl_yes HXA.out.symm HXB.out.symm (by rw [← HX.out, ← HY.out])))
                have HK := Lib.hid (show diffOf fL (ps.take (k + 1)) = acc by rw [HT.out, if_neg (by rw [HV.out]; decide), List.append_nil])
                clear HX HY
                go_wp2_with fail
                go_roundw
                case rel => exact ⟨k + 1, acc, by omega, by go_num, Lib.hid HK.out.symm, Lib.hid (Ob.out.alloc _), B4.alloc B4s _⟩
                case measure => simp [intOf]; omega
              · have n3 : ¬ x3.toList = y3.toList := fun e => h3 (tl_eq e)
                have n3' : (x3.toList == y3.toList) = false := by simpa using n3
                have HV := Lib.hid (show fL p = 77 from FPp.out.trans (unl_mod HXA.out.symm HXB.out.symm (by rw [← HX.out, ← HY.out]; exact fun e => h3 (congrArg (fun z => z.2.2) e))))
                clear HX HY
                clear h3
                have HK := Lib.hid (show diffOf fL (ps.take (k + 1)) = acc ++ [(p, 77)] by rw [HT.out, if_pos (by rw [HV.out]; decide), HV.out])
                have own4 := (Ob.out.alloc (.cells #[.string x1, .int .i64 x2, .string y3] 42)).alloc (.cells #[.string p, .string ⟨#[77]⟩] 35)
                have news4 := news_one (w3.alloc (.cells #[.string x1, .int .i64 x2, .string y3] 42)) #[.string p, .string ⟨#[77]⟩] 35 (w3.heap.size + 1) (by simp)
                go_wp2_with (at_builtin; refine wpList_append_own _ rfl _ _ 31 rfl wo.heap.size 35 i0 (.agg #[.string ⟨#[]⟩, .string ⟨#[]⟩]) 2 32 Tryd.underlying31 hi hz0 hz1 hz2 rfl (by decide) _ _ _ rfl own4 ⟨w3.heap.size + 1, 0, none⟩ 1 1 [.string p, .string ⟨#[77]⟩] rfl rfl news4 (by simp [Value.oneCell']) (by unfold maxLen; omega) (by omega) (by simp; omega) ?_; intro v5 w5 own5 hg5 _)
                have b5 : Below wo.heap.size wo w5 := ((B4.alloc B4s _).alloc (by simp; omega) _).grown hg5 (by simp; omega) (fun k hk => (Ob.out.lt k hk).1)
                clear news4 own4 hg5
                go_roundw
                case rel => exact ⟨k + 1, acc ++ [(p, 77)], by omega, by go_num, Lib.hid HK.out.symm, Lib.hid (by rw [List.length_append, flat_snoc]; exact own5), b5⟩
                case measure => simp [intOf]; omega
            · have n2' : (x2 == y2) = false := by simpa using h2
              have HV := Lib.hid (show fL p = 77 from FPp.out.trans (unl_mod HXA.out.symm HXB.out.symm (by rw [← HX.out, ← HY.out]; exact fun e => h2 (congrArg (fun z => z.2.1) e))))
              clear HX HY
              have HK := Lib.hid (show diffOf fL (ps.take (k + 1)) = acc ++ [(p, 77)] by rw [HT.out, if_pos (by rw [HV.out]; decide), HV.out])
              have own4 := (Ob.out.alloc (.cells #[.string x1, .int .i64 y2, .string y3] 42)).alloc (.cells #[.string p, .string ⟨#[77]⟩] 35)
              have news4 := news_one (w3.alloc (.cells #[.string x1, .int .i64 y2, .string y3] 42)) #[.string p, .string ⟨#[77]⟩] 35 (w3.heap.size + 1) (by simp)
              go_wp2_with (at_builtin; refine wpList_append_own _ rfl _ _ 31 rfl wo.heap.size 35 i0 (.agg #[.string ⟨#[]⟩, .string ⟨#[]⟩]) 2 32 Tryd.underlying31 hi hz0 hz1 hz2 rfl (by decide) _ _ _ rfl own4 ⟨w3.heap.size + 1, 0, none⟩ 1 1 [.string p, .string ⟨#[77]⟩] rfl rfl news4 (by simp [Value.oneCell']) (by unfold maxLen; omega) (by omega) (by simp; omega) ?_; intro v5 w5 own5 hg5 _)
              have b5 : Below wo.heap.size wo w5 := ((B4.alloc B4s _).alloc (by simp; omega) _).grown hg5 (by simp; omega) (fun k hk => (Ob.out.lt k hk).1)
              clear news4 own4 hg5
              go_roundw
              case rel => exact ⟨k + 1, acc ++ [(p, 77)], by omega, by go_num, Lib.hid HK.out.symm, Lib.hid (by rw [List.length_append, flat_snoc]; exact own5), b5⟩
              case measure => simp [intOf]; omega
          · have n1 : ¬ x1.toList = y1.toList := fun e => h1 (tl_eq e)
            have n1' : (x1.toList == y1.toList) = false := by simpa using n1
            have HV := Lib.hid (show fL p = 77 from FPp.out.trans (unl_mod HXA.out.symm HXB.out.symm (by rw [← HX.out, ← HY.out]; exact fun e => h1 (congrArg (fun z => z.1) e))))
            clear HX HY
            clear h1
            have HK := Lib.hid (show diffOf fL (ps.take (k + 1)) = acc ++ [(p, 77)] by rw [HT.out, if_pos (by rw [HV.out]; decide), HV.out])
            have own4 := (Ob.out.alloc (.cells #[.string y1, .int .i64 y2, .string y3] 42)).alloc (.cells #[.string p, .string ⟨#[77]⟩] 35)
            have news4 := news_one (w3.alloc (.cells #[.string y1, .int .i64 y2, .string y3] 42)) #[.string p, .string ⟨#[77]⟩] 35 (w3.heap.size + 1) (by simp)
            go_wp2_with (at_builtin; refine wpList_append_own _ rfl _ _ 31 rfl wo.heap.size 35 i0 (.agg #[.string ⟨#[]⟩, .string ⟨#[]⟩]) 2 32 Tryd.underlying31 hi hz0 hz1 hz2 rfl (by decide) _ _ _ rfl own4 ⟨w3.heap.size + 1, 0, none⟩ 1 1 [.string p, .string ⟨#[77]⟩] rfl rfl news4 (by simp [Value.oneCell']) (by unfold maxLen; omega) (by omega) (by simp; omega) ?_; intro v5 w5 own5 hg5 _)
            have b5 : Below wo.heap.size wo w5 := ((B4.alloc B4s _).alloc (by simp; omega) _).grown hg5 (by simp; omega) (fun k hk => (Ob.out.lt k hk).1)
            clear news4 own4 hg5
            go_roundw
            case rel => exact ⟨k + 1, acc ++ [(p, 77)], by omega, by go_num, Lib.hid HK.out.symm, Lib.hid (by rw [List.length_append, flat_snoc]; exact own5), b5⟩
            case measure => simp [intOf]; omega
    · obtain rfl : k = ps.length := by omega
      rw [List.take_length] at hacc
      have HB := Lib.hid (B2.out.trans (hb.mono B2.out.size))
      have HO := Lib.hid (own_base hown.out B2.out.size)
      clear hown hb
      go_wp2
      go_ret
      exact ⟨_, rfl, by rw [HD.out, ← hacc.out]; exact HO.out, HB.out⟩
end Go.Proofs.YtplleaimmmanhaaDoor
