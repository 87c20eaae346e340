/-
  Stack.anew: shelves in a row of their own; Stack.Get.
-/
import Derived.Test.YtkhdjlakclidoaaDoorSfB2
namespace Go.Proofs.YtkhdjlakclidoaaDoor
open Go Go.RowKit

theorem four_new (w : World) (x y z u : Value) (t : TypeId) : ∀ j v, [x, y, z, u][j]? = some v → (w.alloc (.cells #[x, y, z, u] t)).cell? ((⟨w.heap.size, 0, none⟩ : Addr).add j) = some v := by
  intro j v hj
  match j, hj with
  | 0, hj => simp at hj; subst hj; simp [Addr.add]
  | 1, hj => simp at hj; subst hj; simp [Addr.add]
  | 2, hj => simp at hj; subst hj; simp [Addr.add]
  | 3, hj => simp at hj; subst hj; simp [Addr.add]
  | (j + 4), hj => simp at hj

theorem Wk.grown40 {w w' : World} {B n : Nat} {v x : Value} {xs : List Value} (h : Wk w x) (ho : w.ownsRow B 40 4 v n xs) (hg : w.grownBy w' v.ownBlock) : Wk w' x := by
  rcases h with rfl | ⟨ys, h, h1⟩
  · exact .inl rfl
  · refine .inr ⟨ys, h.kept hg ?_, h1⟩
    rcases h.2 with ⟨_, h2⟩ | ⟨g, cap, cur, rfl, _, hh, _⟩
    · cases h2
    · exact .inr fun e => own_blk_ne ho (t := 52) hh (by decide) e.symm
theorem Wks.grown40 {w w' : World} {B n : Nat} {v : Value} {xs : List Value} {l : List Sf} (h : Wks w l) (ho : w.ownsRow B 40 4 v n xs) (hg : w.grownBy w' v.ownBlock) : Wks w' l := fun r hr => (h r hr).grown40 ho hg

set_option maxRecDepth 100000 in
set_option maxHeartbeats 2000000 in
theorem sf_anews (w : World) (B : Nat) (v : Value) (K : List Ky) (h : Stk w B v K) (hl : K.length ≤ 100) :
    Calls Tryd.prog 35 #[v] w fun e w' => ∃ v', e = .returned v' ∧ Stk w' w.heap.size v' K ∧ Below w.heap.size w w' := by
  obtain ⟨i0, hi, hz0, hz1, hz2⟩ := info_parts sfInfo
  obtain ⟨l, hO, hW, hK⟩ := h
  obtain ⟨A, c, rfl⟩ := own_form hO
  rw [← hK, List.length_map] at hl
  have HK := Lib.hid hK
  have HO := Lib.hid hO
  have HW := Lib.hid hW
  clear hO hW hK
  go_enter Tryd.func35, Tryd.ntmps35
  go_wp2_with fail
  go_loopw [3, 8] (fun o i wr => ∃ (k : Nat) (m : List Sf), i = .int .i64 k ∧ k ≤ l.length ∧ m.length = k ∧ wr.ownsRow w.heap.size 40 4 o k (sce m) ∧ Wks wr m ∧ Hid (m.map key = (l.take k).map key) ∧ Below w.heap.size w wr) (fun _ i _ => l.length - (intOf i).toNat)
  case atStart => exact ⟨0, [], rfl, Nat.zero_le _, rfl, World.ownsRow_nil _ _ _ _, fun r hr => by simp at hr, Lib.hid (by simp), Below.refl _ _⟩
  case round =>
    obtain ⟨k, m, rfl, hk, hml, hown, hwk, hkey, hb⟩ := hrel
    have HM := Lib.hid hml
    have HWK := Lib.hid hwk
    clear hml hwk
    by_cases hlt : k < l.length
    · obtain ⟨⟨b, wv, s⟩, hx⟩ : ∃ r, l[k]? = some r := ⟨_, List.getElem?_eq_getElem hlt⟩
      obtain ⟨g, cap', hv, x0, x1, x2, x3, hn, hm, hg⟩ := SOwn.at_ (own_keep HO.out hb) hx
      have hwv : Wk wr wv := (HW.out _ (List.mem_of_getElem? hx)).below hb
      obtain ⟨wA, wc, hwf, _⟩ := hwv.form
      have hv := Lib.hid hv
      obtain ⟨rfl, rfl⟩ : A = some ⟨g, 0, none⟩ ∧ c = cap' := by have := hv.out; injection this with a b c; exact ⟨a, c⟩
      have HT : Hid ((l.take (k + 1)).map key = (l.take k).map key ++ [key (b, wv, s)]) := Lib.hid (by
        have e := (List.getElem?_eq_some_iff.1 hx).2
        rw [List.take_succ_eq_append_getElem hlt, e]; simp)
      have k0 : (0 : Int) ≤ (k : Int) := Int.natCast_nonneg _
      have k1 : (k : Int) < (l.length : Int) := by omega
      have HWV := Lib.hid hwv
      obtain ⟨wn, hwn⟩ : ∃ wn, wn = vlen wv := ⟨_, rfl⟩
      rw [← hwn] at hwf
      have HWN := Lib.hid hwn
      clear hv hx hwv hwn
      subst hwf
      go_wp2_with fail
      have HWV1 := HWV.out.below ((Below.refl wr.heap.size wr).alloc (Nat.le_refl _) (.cells #[.int .i64 b, .slice none 0 0, .slice wA wn wc, .string s] 40))
      refine (sf_anew_any b s _ _ HWV1).mono ?_
      rintro e w5 ⟨v5, rfl, hk5, hn5, b5⟩
      clear HWV1
      have hb5 := (hb.alloc hb.size (.cells #[.int .i64 b, .slice none 0 0, .slice wA wn wc, .string s] 40)).trans (b5.mono (by have := hb.size; simp; omega))
      have b15 : Below wr.heap.size wr w5 := ((Below.refl wr.heap.size wr).alloc (Nat.le_refl _) (.cells #[.int .i64 b, .slice none 0 0, .slice wA wn wc, .string s] 40)).trans (b5.mono (by simp))
      have o5 : w5.ownsRow w.heap.size 40 4 u3 k (sce m) := own_keep hown b15
      have HWK5 := Lib.hid (HWK.out.below b15)
      obtain ⟨A5, c5, rfl⟩ : ∃ A c, v5 = .slice A wn c := by obtain ⟨A, c, h, _⟩ := hk5.form; rw [hn5] at h; exact ⟨A, c, h⟩
      have HK5 := Lib.hid hk5
      have HN5 := Lib.hid hn5
      clear hown b5 hk5 hn5 b15
      go_wp2_with (at_builtin; refine wpList_append_own_at _ rfl _ _ 34 rfl w.heap.size 40 i0 (.agg #[.int .i64 0, .slice none 0 0, .slice none 0 0, .string ⟨#[]⟩]) 4 72 Tryd.underlying34 hi hz0 hz1 hz2 rfl (by decide) _ _ _ rfl (o5.alloc _) ⟨w5.heap.size, 0, none⟩ 1 1 (rcs (b, .slice A5 wn c5, s)) rfl ?a1 ?a2 ?a3 ?a4 ?a5 ?a6 ?_)
      try case a1 => rfl
      try case a2 => exact four_new _ _ _ _ _ _
      case a3 => first | exact rcs_one rfl | (intro u hu; simp at hu; rcases hu with rfl | rfl | rfl | rfl <;> rfl)
      case a4 => unfold maxLen; omega
      case a5 => omega
      case a6 => have := hb5.size; simp; omega
      intro v6 w6 hown6 hg6 _ hat6
      have hb6 := (hb5.alloc hb5.size _).grown hg6 (by have := hb5.size; simp; omega) fun z hz => (o5.lt z hz).1
      have HWK6 := (HWK5.out.below ((Below.refl w5.heap.size w5).alloc (Nat.le_refl _) (.cells (rcs (b, .slice A5 wn c5, s)).toArray 40))).grown40 (o5.alloc _) hg6
      have hk6 := (HK5.out.below ((Below.refl w5.heap.size w5).alloc (Nat.le_refl _) (.cells (rcs (b, .slice A5 wn c5, s)).toArray 40))).grown40 (o5.alloc _) hg6
      have HA6 : Hid (w6.ownsRow w.heap.size 40 4 v6 (k + 1) (sce (m ++ [(b, Value.slice A5 wn c5, s)])) ∧ Wks w6 (m ++ [(b, Value.slice A5 wn c5, s)]) ∧ Hid ((m ++ [(b, Value.slice A5 wn c5, s)]).map key = (l.take (k + 1)).map key)) := Lib.hid ⟨by rw [sce_app]; exact hown6, fun r hr => by
          rcases List.mem_append.1 hr with hr | hr
          · exact HWK6 r hr
          · rw [List.mem_singleton.1 hr]; exact hk6, Lib.hid (by rw [HT.out, List.map_append, hkey.out]; rfl)⟩
      have HL6 : Hid ((m ++ [(b, Value.slice A5 wn c5, s)]).length = k + 1) := Lib.hid (by rw [List.length_append, HM.out]; rfl)
      clear hg6 o5 hown6 HWK6 hk6 hat6
      go_wp2
      go_roundw
      case rel => exact ⟨k + 1, _, by go_num, hlt, HL6.out, HA6.out.1, HA6.out.2.1, HA6.out.2.2, hb6⟩
      case measure => simp [intOf]; omega
    · obtain rfl : k = l.length := by omega
      have HE : Hid (Stk wr w.heap.size u3 K) := Lib.hid ⟨m, by show wr.ownsRow _ _ _ _ _ _; rw [HM.out]; exact hown, HWK.out, by rw [hkey.out, List.take_length, HK.out]⟩
      clear hown
      go_wp2
      go_ret
      exact ⟨_, rfl, HE.out, hb⟩
#print axioms sf_anews
end Go.Proofs.YtkhdjlakclidoaaDoor
