/-
  index.Decode of what index.Encode made.
  (Row).Put: a file put into a tree that rises.
  files.Diff: where two trees are unlike, by path.
  rectolaw14.known is true.
  rectolaw14.known is true.
  rectolaw15.known: its entries.
  rectolaw15.known is true.
  IndexStages: which entries are there.
  The walk of IndexStages.
-/
import Derived.Test.YtplleaimmmanhaaDoorG5
import Derived.Test.YtplleaimmmanhaaDoorG4
import Derived.Test.YtplleaimmmanhaaDoorG2
import Derived.Test.YtplleaimmmanhaaDoorG1
import Derived.Test.YtplleaimmmanhaaDoorG3
import Derived.Test.YtplleaimmmanhaaDoorFArgsK
import Derived.Laws.IdiomStrings
import Derived.Laws.BytesArg
namespace Go.Proofs.YtplleaimmmanhaaDoor
open Go Go.RowKit

theorem Stood.go {w w' : World} {B D b : Nat} {v : Value} {L : List UInt8} {a : Nat} (h0 : DecAt w B D v L a) (hB : B ≤ w.heap.size) (h : Stood w B D v L b w') : DecAt w' B D v L b ∧ Below B w w' :=
  ⟨h.1, h.2.below hB h0.lo fun _ e => by cases e⟩
theorem Stood.own {w w' : World} {B D a b B2 k n : Nat} {v u : Value} {L : List UInt8} {t : TypeId} {xs : List Value} (h0 : DecAt w B D v L a) (h : Stood w B D v L b w') (ho : w.ownsRow B2 t k u n xs) (ht : t ≠ 147) : w'.ownsRow B2 t k u n xs :=
  h.2.own ho (own_blk_ne ho h0.blk ht) (by cases u.ownBlock <;> simp)
theorem own_typed {w : World} {B j n : Nat} {v : Value} {t : TypeId} {k : Nat} {xs : List Value} (h : w.ownsRow B t k v n xs) (hv : v.ownBlock = some j) : ∃ cs, Blk w j t cs := by
  rcases h.2 with ⟨rfl, _⟩ | ⟨g, cap, cur, rfl, _, hh, _⟩
  · cases hv
  · obtain rfl : g = j := by simpa [Value.ownBlock] using hv
    exact ⟨cur, hh⟩
/-- A row grows, beside a Dec. -/
theorem DecAt.grown {w w' : World} {B D a : Nat} {v : Value} {L : List UInt8} {o : Obj} {r : Option Nat} (h : DecAt w B D v L a) (hg : (w.alloc o).grownBy w' r) (h1 : r ≠ some D) (h2 : v.ownBlock = none ∨ v.ownBlock ≠ r) : DecAt w' B D v L a :=
  ⟨(h.blk.alloc o).grown hg (fun e => h1 e.symm), (h.own.alloc o).kept hg h2, h.lo⟩
theorem drop_step {L a b : List UInt8} {n : Nat} (h : L.drop n = a ++ b) : L.drop (n + a.length) = b := by
  rw [← List.drop_drop, h, List.drop_left]
theorem encE_eq (x : En) : encE x = encT x.1 ++ (encI x.2.1 ++ (encI x.2.2.1 ++ (encT x.2.2.2.1 ++ (encI x.2.2.2.2.1 ++ encI x.2.2.2.2.2)))) := by
  simp [encE, encTs, encIs, List.append_assoc]
theorem encL_eq (l : List En) : encL l = encI (l.length : Int) ++ encEs l := by simp [encL, encIs]
theorem encEs_drop {l : List En} {k : Nat} {x : En} (h : l[k]? = some x) : encEs l = encEs (l.take k) ++ (encE x ++ encEs (l.drop (k + 1))) := by
  obtain ⟨hlt, rfl⟩ := List.getElem?_eq_some_iff.1 h
  have e : l = l.take k ++ (l[k] :: l.drop (k + 1)) := by rw [← List.drop_eq_getElem_cons hlt, List.take_append_drop]
  unfold encEs
  conv => lhs; rw [e]
  rw [List.flatMap_append, List.flatMap_cons]
/-- Where entry k begins. -/
def atE (l : List En) (k : Nat) : Nat := (encI (l.length : Int)).length + (encEs (l.take k)).length
theorem atE_drop {l : List En} {k : Nat} {x : En} (h : l[k]? = some x) : (encL l).drop (atE l k) = encE x ++ encEs (l.drop (k + 1)) := by
  unfold atE
  rw [encL_eq, ← List.drop_drop, List.drop_left, encEs_drop h, List.drop_left]
theorem atE_next {l : List En} {k : Nat} {x : En} (h : l[k]? = some x) : atE l (k + 1) = atE l k + (encE x).length := by
  unfold atE
  rw [encEs_take h, List.length_append, Nat.add_assoc]
theorem atE_end (l : List En) : atE l l.length = (encL l).length := by
  unfold atE
  rw [List.take_length, encL_eq, List.length_append]
theorem encL_len {l : List En} (h : ∀ x ∈ l, FitE x) (hl : l.length ≤ 90) : (encL l).length ≤ 900000 := by
  have LN := encEs_len h l.length
  rw [List.take_length] at LN
  have L1 := encIs_len1 (n := (l.length : Int)) ⟨by omega, by omega⟩
  unfold encL
  rw [List.length_append]
  omega
def lenV : Value → Nat | .slice _ n _ => n | _ => 0

set_option maxRecDepth 100000 in
set_option maxHeartbeats 4000000 in
theorem decode_any (w : World) (v : Value) (l : List En) (h : ReadsB w v (seald (encL l))) (hf : ∀ x ∈ l, FitE x) (hl : l.length ≤ 90) (hc : chkE l = none) (hh : Halves w) :
    Calls Tryd.prog 50 #[v] w fun e w' => ∃ v', e = .returned (.tuple #[v', .nilIface]) ∧ w'.ownsRow w.heap.size 57 6 v' l.length (l.flatMap cE) ∧ Below w.heap.size w w' := by
  obtain ⟨i0, hi0, hz0, hz1, hz2⟩ := info_parts entryInfo
  have hpos : 0 < (encL l).length := encIs_one_pos _ _
  have hLl := encL_len hf hl
  have OP := Lib.hid (sealOpen_any w v (encL l) hh h hpos hLl)
  obtain ⟨A, c, rfl⟩ := h.form
  have HF := Lib.hid hf
  have HH := Lib.hid hh
  have HC := Lib.hid hc
  clear h hf hh hc
  go_enter Tryd.func50, Tryd.ntmps50
  go_wp2_with fail
  refine OP.out.mono ?_
  rintro e w1 ⟨v1, rfl, o1, b1⟩
  have OF := Lib.hid (ofK_any w1 w.heap.size v1 (encL l) o1 (by omega))
  have B1 := Lib.hid b1
  obtain ⟨A1, c1, rfl⟩ := own_form o1
  clear o1 b1 OP
  go_wp2_with fail
  refine OF.out.mono ?_
  rintro e w2 ⟨D, v2, rfl, d2, b2⟩
  obtain ⟨B, hB⟩ : ∃ B, B = w1.heap.size := ⟨_, rfl⟩
  rw [← hB] at d2
  have hwB : Hid (w.heap.size ≤ B) := Lib.hid (by rw [hB]; exact B1.out.size)
  have hB2 : Hid (B ≤ w2.heap.size) := Lib.hid (by rw [hB]; exact b2.size)
  have B2 : Hid (Below w.heap.size w w2) := Lib.hid (B1.out.trans (b2.mono B1.out.size))
  have D2 := Lib.hid d2
  have I2 := Lib.hid (decInt_any w2 B D 0 v2 (encL l) (encEs l) (l.length : Int) d2 (by rw [List.drop_zero, encL_eq]) (by omega) ⟨by omega, by omega⟩)
  rw [Nat.zero_add] at I2
  clear d2 b2 OF B1 hB
  go_wp2_with fail
  refine I2.out.mono ?_
  rintro e w3 ⟨rfl, s3⟩
  obtain ⟨d3, b3⟩ := s3.go D2.out hB2.out
  have D3 : Hid (DecAt w3 B D v2 (encL l) (atE l 0)) := Lib.hid (by unfold atE; simpa [encEs] using d3)
  have B3 := Lib.hid (B2.out.trans (b3.mono hwB.out))
  have hB3 : Hid (B ≤ w3.heap.size) := Lib.hid (Nat.le_trans hB2.out b3.size)
  clear s3 d3 b3 I2 D2 B2 hB2
  have n0 : (0 : Int) ≤ (l.length : Int) := Int.natCast_nonneg _
  have n1 : (l.length : Int) ≤ 90 := by omega
  go_wp2_with fail
  go_loopw [8] (fun s8 wr => ∃ k : Nat, k ≤ l.length ∧ Hid (wr.ownsRow w.heap.size 57 6 s8 k ((l.take k).flatMap cE)) ∧ Hid (DecAt wr B D v2 (encL l) (atE l k)) ∧ Hid (Below w.heap.size w wr) ∧ Hid (B ≤ wr.heap.size)) (fun s8 _ => l.length - lenV s8)
  case atStart => exact ⟨0, Nat.zero_le _, Lib.hid (World.ownsRow_nil _ _ _ _), D3, B3, hB3⟩
  case round =>
    obtain ⟨k, hk, hO, hD, hB, hBr⟩ := hrel
    obtain ⟨A8, c8, rfl⟩ := own_form hO.out
    have k0 : (0 : Int) ≤ (k : Int) := Int.natCast_nonneg _
    by_cases hlt : k < l.length
    · have k1 : (k : Int) < (l.length : Int) := by omega
      obtain ⟨x, hx⟩ : ∃ x, l[k]? = some x := ⟨_, List.getElem?_eq_getElem hlt⟩
      have FX := Lib.hid (HF.out x (List.mem_of_getElem? hx))
      have DR := Lib.hid (atE_drop hx)
      have NX := Lib.hid (atE_next hx)
      rw [encE_eq] at DR NX
      have HX := Lib.hid (take_snoc hx)
      have ER := Lib.hid (decErr_any wr B D (atE l k) v2 (encL l) hD.out)
      obtain ⟨p, st, m, d, tm, sz⟩ := x
      go_wp2_with fail
      refine ER.out.mono ?_
      rintro e w4 ⟨rfl, rfl⟩
      clear ER
      have Lm := Lib.hid (show (encL l).length ≤ 1000000 by omega)
      obtain ⟨a4, ha4⟩ : ∃ a, a = atE l k := ⟨_, rfl⟩
      have HA4 := Lib.hid ha4
      rw [← ha4] at DR hD
      clear ha4
      have R4 : Hid ((encL l).drop a4 = encT p ++ (encI st ++ (encI m ++ (encT d ++ (encI tm ++ (encI sz ++ encEs (l.drop (k + 1)))))))) := Lib.hid (by have := DR.out; simpa only [List.append_assoc] using this)
      clear DR
      have O4 := hO
      have D4 := hD
      have B4 := hB
      have hB4 := hBr
      have C4 := Lib.hid (decText_any w4 B D a4 v2 (encL l) _ p D4.out R4.out Lm.out (by have := FX.out.1; simp only at this; omega))
      go_wp2_with fail
      refine C4.out.mono ?_
      rintro e w5 ⟨rfl, s5⟩
      have O5 := Lib.hid (s5.own D4.out O4.out (by decide))
      obtain ⟨d5, b5⟩ := s5.go D4.out hB4.out
      obtain ⟨a5, ha5⟩ : ∃ a, a = a4 + (encT p).length := ⟨_, rfl⟩
      have HA5 := Lib.hid ha5
      have R5 := Lib.hid (drop_step R4.out)
      rw [← ha5] at d5 R5
      have D5 := Lib.hid d5
      have B5 := Lib.hid (B4.out.trans (b5.mono hwB.out))
      have hB5 : Hid (B ≤ w5.heap.size) := Lib.hid (Nat.le_trans hB4.out b5.size)
      clear C4 s5 d5 b5 ha5 O4 D4 B4 hB4 R4
      have C5 := Lib.hid (decInt_any w5 B D a5 v2 (encL l) _ st D5.out R5.out Lm.out FX.out.2.2.1)
      go_wp2_with fail
      refine C5.out.mono ?_
      rintro e w6 ⟨rfl, s6⟩
      have O6 := Lib.hid (s6.own D5.out O5.out (by decide))
      obtain ⟨d6, b6⟩ := s6.go D5.out hB5.out
      obtain ⟨a6, ha6⟩ : ∃ a, a = a5 + (encI st).length := ⟨_, rfl⟩
      have HA6 := Lib.hid ha6
      have R6 := Lib.hid (drop_step R5.out)
      rw [← ha6] at d6 R6
      have D6 := Lib.hid d6
      have B6 := Lib.hid (B5.out.trans (b6.mono hwB.out))
      have hB6 : Hid (B ≤ w6.heap.size) := Lib.hid (Nat.le_trans hB5.out b6.size)
      clear C5 s6 d6 b6 ha6 O5 D5 B5 hB5 R5
      have C6 := Lib.hid (decInt_any w6 B D a6 v2 (encL l) _ m D6.out R6.out Lm.out FX.out.2.2.2.1)
      go_wp2_with fail
      refine C6.out.mono ?_
      rintro e w7 ⟨rfl, s7⟩
      have O7 := Lib.hid (s7.own D6.out O6.out (by decide))
      obtain ⟨d7, b7⟩ := s7.go D6.out hB6.out
      obtain ⟨a7, ha7⟩ : ∃ a, a = a6 + (encI m).length := ⟨_, rfl⟩
      have HA7 := Lib.hid ha7
      have R7 := Lib.hid (drop_step R6.out)
      rw [← ha7] at d7 R7
      have D7 := Lib.hid d7
      have B7 := Lib.hid (B6.out.trans (b7.mono hwB.out))
      have hB7 : Hid (B ≤ w7.heap.size) := Lib.hid (Nat.le_trans hB6.out b7.size)
      clear C6 s7 d7 b7 ha7 O6 D6 B6 hB6 R6
      have C7 := Lib.hid (decText_any w7 B D a7 v2 (encL l) _ d D7.out R7.out Lm.out (by have := FX.out.2.1; simp only at this; omega))
      go_wp2_with fail
      refine C7.out.mono ?_
      rintro e w8 ⟨rfl, s8⟩
      have O8 := Lib.hid (s8.own D7.out O7.out (by decide))
      obtain ⟨d8, b8⟩ := s8.go D7.out hB7.out
      obtain ⟨a8, ha8⟩ : ∃ a, a = a7 + (encT d).length := ⟨_, rfl⟩
      have HA8 := Lib.hid ha8
      have R8 := Lib.hid (drop_step R7.out)
      rw [← ha8] at d8 R8
      have D8 := Lib.hid d8
      have B8 := Lib.hid (B7.out.trans (b8.mono hwB.out))
      have hB8 : Hid (B ≤ w8.heap.size) := Lib.hid (Nat.le_trans hB7.out b8.size)
      clear C7 s8 d8 b8 ha8 O7 D7 B7 hB7 R7
      have C8 := Lib.hid (decInt_any w8 B D a8 v2 (encL l) _ tm D8.out R8.out Lm.out FX.out.2.2.2.2.1)
      go_wp2_with fail
      refine C8.out.mono ?_
      rintro e w9 ⟨rfl, s9⟩
      have O9 := Lib.hid (s9.own D8.out O8.out (by decide))
      obtain ⟨d9, b9⟩ := s9.go D8.out hB8.out
      obtain ⟨a9, ha9⟩ : ∃ a, a = a8 + (encI tm).length := ⟨_, rfl⟩
      have HA9 := Lib.hid ha9
      have R9 := Lib.hid (drop_step R8.out)
      rw [← ha9] at d9 R9
      have D9 := Lib.hid d9
      have B9 := Lib.hid (B8.out.trans (b9.mono hwB.out))
      have hB9 : Hid (B ≤ w9.heap.size) := Lib.hid (Nat.le_trans hB8.out b9.size)
      clear C8 s9 d9 b9 ha9 O8 D8 B8 hB8 R8
      have C9 := Lib.hid (decInt_any w9 B D a9 v2 (encL l) _ sz D9.out R9.out Lm.out FX.out.2.2.2.2.2)
      go_wp2_with fail
      refine C9.out.mono ?_
      rintro e w10 ⟨rfl, s10⟩
      have O10 := Lib.hid (s10.own D9.out O9.out (by decide))
      obtain ⟨d10, b10⟩ := s10.go D9.out hB9.out
      obtain ⟨a10, ha10⟩ : ∃ a, a = a9 + (encI sz).length := ⟨_, rfl⟩
      have HA10 := Lib.hid ha10
      have R10 := Lib.hid (drop_step R9.out)
      rw [← ha10] at d10 R10
      have D10 := Lib.hid d10
      have B10 := Lib.hid (B9.out.trans (b10.mono hwB.out))
      have hB10 : Hid (B ≤ w10.heap.size) := Lib.hid (Nat.le_trans hB9.out b10.size)
      clear C9 s10 d10 b10 ha10 O9 D9 B9 hB9 R9
      have hbs := B10.out.size
      have hown4 := Lib.hid (O10.out.alloc (.cells #[.string p, .int .i64 st, .int .i64 m, .string d, .int .i64 tm, .int .i64 sz] 57))
      have hnews := Lib.hid (news_one w10 #[.string p, .int .i64 st, .int .i64 m, .string d, .int .i64 tm, .int .i64 sz] 57 w10.heap.size (by simp))
      go_wp2_with (at_builtin; refine wpList_append_own _ rfl _ _ 54 rfl w.heap.size 57 i0 (.agg #[.string ⟨#[]⟩, .int .i64 0, .int .i64 0, .string ⟨#[]⟩, .int .i64 0, .int .i64 0]) 6 64 Tryd.underlying54 hi0 hz0 hz1 hz2 rfl (by decide) _ _ _ rfl hown4.out ⟨w10.heap.size, 0, none⟩ 1 1 [.string p, .int .i64 st, .int .i64 m, .string d, .int .i64 tm, .int .i64 sz] rfl rfl hnews.out ?c1 ?c2 ?c3 ?c4 ?_)
      case c1 => intro u hu; simp at hu; rcases hu with rfl | rfl | rfl | rfl | rfl | rfl <;> rfl
      case c2 => unfold maxLen; omega
      case c3 => omega
      case c4 => rw [World.size_alloc]; omega
      intro v11 w11 hown11 hg11 _
      have B11 := Lib.hid ((B10.out.alloc hbs (.cells #[.string p, .int .i64 st, .int .i64 m, .string d, .int .i64 tm, .int .i64 sz] 57)).grown hg11 (by rw [World.size_alloc]; omega) (fun j hj => (O10.out.lt j hj).1))
      have O11 : Hid (w11.ownsRow w.heap.size 57 6 v11 (k + 1) ((l.take (k + 1)).flatMap cE)) := Lib.hid (by rw [HX.out, flat_snoc]; exact hown11)
      have D11 : Hid (DecAt w11 B D v2 (encL l) (atE l (k + 1))) := Lib.hid (by
        have e : atE l (k + 1) = a10 := by
          rw [NX.out, HA10.out, HA9.out, HA8.out, HA7.out, HA6.out, HA5.out, HA4.out]
          simp only [List.length_append]
          omega
        rw [e]
        have hne : v2.ownBlock = none ∨ v2.ownBlock ≠ (Value.slice A8 k c8).ownBlock := by
          cases hv : v2.ownBlock with
          | none => exact .inl rfl
          | some j =>
            refine .inr fun e => ?_
            obtain ⟨cs, hcs⟩ := own_typed D10.out.own hv
            exact own_blk_ne O10.out hcs (by decide) e.symm
        have e2 := D10.out.grown hg11 (own_blk_ne O10.out D10.out.blk (by decide)) hne
        exact e2)
      have hB11 : Hid (B ≤ w11.heap.size) := Lib.hid (Nat.le_trans hB10.out (Nat.le_trans (by rw [World.size_alloc]; omega) hg11.size))
      obtain ⟨A11, n11, c11, rfl⟩ : ∃ A n c, v11 = .slice A n c := by obtain ⟨A, c, h⟩ := own_form hown11; exact ⟨A, _, c, h⟩
      have hn11 : n11 = k + 1 := (own_len hown11).1
      clear hown11 hg11 hown4 hnews O10 D10 B10 hB10
      go_wp2_with fail
      go_roundw
      case rel => exact ⟨k + 1, hlt, O11, D11, B11, hB11⟩
      case measure => simp [lenV, hn11]; omega
    · obtain rfl : k = l.length := by omega
      have DN : Hid (DecAt wr B D v2 (encL l) (encL l).length) := Lib.hid (by have := hD.out; rwa [atE_end] at this)
      have ER := Lib.hid (decErr_any wr B D _ v2 (encL l) DN.out)
      have LF := Lib.hid (decLeft_any wr B D _ v2 (encL l) DN.out (by omega) (Nat.le_refl _))
      rw [Nat.sub_self] at LF
      have OR : Hid (wr.ownsRow w.heap.size 57 6 (.slice A8 l.length c8) l.length (l.flatMap cE)) := Lib.hid (by have := hO.out; rwa [List.take_length] at this)
      go_wp2_with fail
      refine ER.out.mono ?_
      rintro e w4 ⟨rfl, rfl⟩
      go_wp2_with fail
      refine LF.out.mono ?_
      rintro e w5 ⟨rfl, n5, rfl⟩
      have O5 : Hid ((w4.drewN n5).ownsRow w.heap.size 57 6 (.slice A8 l.length c8) l.length (l.flatMap cE)) := Lib.hid (own_keep OR.out (below_drewN (Below.refl _ _) _))
      have B5 := Lib.hid (below_drewN hB.out n5)
      have CK := Lib.hid (checkE_any (w4.drewN n5) _ l (Reads.of_own cE_len O5.out) (fun x hx => ⟨by have := (HF.out x hx).1; omega, by have := (HF.out x hx).2.1; omega⟩) (by omega))
      rw [HC.out] at CK
      clear ER LF
      go_wp2_with fail
      refine CK.out.mono ?_
      rintro e w6 h6
      obtain ⟨rfl, b6⟩ : e = .returned .nilIface ∧ Below (w4.drewN n5).heap.size (w4.drewN n5) w6 := by
        rcases h6 with ⟨_, he, hb⟩ | ⟨i, k, F, ho, _⟩
        · exact ⟨he, hb⟩
        · cases ho
      have O6 := Lib.hid (own_keep O5.out b6)
      have B6 := Lib.hid (B5.out.trans (b6.mono B5.out.size))
      clear CK h6 b6
      go_wp2_with fail
      go_ret2
      exact ⟨_, rfl, O6.out, B6.out⟩
end Go.Proofs.YtplleaimmmanhaaDoor
namespace Go.Proofs.YtplleaimmmanhaaDoor
open Go.RowKit

set_option maxRecDepth 100000 in
set_option maxHeartbeats 4000000 in
theorem put_any (w : World) (v : Value) (l : List Fl) (f : Fl) (h : Reads 3 cF w v l) (hr : RiseF l) (hl : l.length ≤ 10000) :
    Calls Tryd.prog 21 #[v, .agg #[.string f.1, .int .i64 f.2.1, .string f.2.2]] w (OwnTo 42 3 cF (putF l f) w) := by
  obtain ⟨p, m, d⟩ := f
  obtain ⟨W1, hW1⟩ : ∃ W1, W1 = w.alloc (.cells #[.string p, .int .i64 m, .string d] 42) := ⟨_, rfl⟩
  have B1 : Below w.heap.size w W1 := by rw [hW1]; exact (Below.refl _ _).alloc (Nat.le_refl _) _
  obtain ⟨G, hG⟩ : ∃ G, G = w.heap.size := ⟨_, rfl⟩
  have K1 : W1.heap[G]? = some (.cells #[.string p, .int .i64 m, .string d] 42 (0, 0)) := by rw [hW1, hG]; exact heap_alloc_new w _
  have R1 := h.below B1
  have FN := Lib.hid (find_any W1 v l p R1 hr (by omega))
  obtain ⟨A, c, rfl⟩ := h.form
  have hlen := h.len
  have d0 := cell_of_row W1 G 0 _ 42 (0, 0) K1
  have HR1 := Lib.hid R1
  have HB1 := Lib.hid B1
  have HRI := Lib.hid hr
  have HK := Lib.hid K1
  have B1s := B1.size
  clear h R1 hr B1 K1
  go_enter Tryd.func21, Tryd.ntmps21
  go_wp2_with fail
  rw [← hW1, ← hG]
  clear hW1
  have HG := Lib.hid hG
  clear hG
  refine FN.out.mono ?_
  rintro e w2 ⟨i, b, rfl, b2, hi, hs, h1, h2⟩
  have R2 := Lib.hid (HR1.out.below b2)
  have hGl : G < W1.heap.size := (Array.getElem?_eq_some_iff.1 HK.out).1
  have K2 : w2.heap[G]? = some (.cells #[.string p, .int .i64 m, .string d] 42 (0, 0)) := (b2.block G hGl).trans HK.out
  have z0 : w2.drew.cell? ⟨G, 0, none⟩ = some (.string p) ∧ w2.drew.cell? ⟨G, 1, none⟩ = some (.int .i64 m) ∧ w2.drew.cell? ⟨G, 2, none⟩ = some (.string d) :=
    ⟨cell_of_row w2 G 0 _ 42 (0, 0) K2, cell_of_row w2 G 1 _ 42 (0, 0) K2, cell_of_row w2 G 2 _ 42 (0, 0) K2⟩
  have ZZ := Lib.hid fun W (hW : Below w2.heap.size w2 W) => (show W.cell? ⟨G, 0, none⟩ = some (.string p) ∧ W.cell? ⟨G, 1, none⟩ = some (.int .i64 m) ∧ W.cell? ⟨G, 2, none⟩ = some (.string d) from
    ⟨cell_of_row W G 0 _ 42 (0, 0) ((hW.block G (Array.getElem?_eq_some_iff.1 K2).1).trans K2), cell_of_row W G 1 _ 42 (0, 0) ((hW.block G (Array.getElem?_eq_some_iff.1 K2).1).trans K2), cell_of_row W G 2 _ 42 (0, 0) ((hW.block G (Array.getElem?_eq_some_iff.1 K2).1).trans K2)⟩)
  have BB := Lib.hid fun (o1 o2 : Obj) (W : World) (hW : Below ((w2.alloc o1).alloc o2).drew.heap.size ((w2.alloc o1).alloc o2).drew W) => (show Below w2.heap.size w2 W from Below.trans ((((Below.refl _ _).alloc (Nat.le_refl _) _).alloc (by simp) _).drew) (hW.mono (by simp; omega)))
  have B2 := Lib.hid (HB1.out.trans (b2.mono B1s))
  have hGw : G < w2.heap.size := (Array.getElem?_eq_some_iff.1 K2).1
  have i0 : (0 : Int) ≤ (i : Int) := Int.natCast_nonneg _
  have hic : i ≤ c := by omega
  have hi1 : (i : Int) ≤ (l.length : Int) := by omega
  have hi2 : (i : Int) ≤ (c : Int) := by omega
  have hcm : c ≤ 9223372036854775807 := by have := hlen.2.2; unfold maxLen at this; omega
  clear FN K2 b2 d0 HR1 HK hGl
  cases b with
  | false =>
    have HP := Lib.hid (put_none (f := (p, m, d)) hs (h2 rfl))
    have CT := Lib.hid (put_core w2 A c l p d m i i R2.out (Nat.le_refl i) hi (by omega))
    by_cases hci : c = i
    · rw [if_pos hci] at CT
      have hct : (c = i) = True := eq_true hci
      clear hci
      clear h1 h2 hs
      go_wp2_with fail
      go_region_held3 (fun w' => w'.cell? ⟨G, 0, none⟩ = some (.string p) ∧ w'.cell? ⟨G, 1, none⟩ = some (.int .i64 m) ∧ w'.cell? ⟨G, 2, none⟩ = some (.string d)) (first | exact z0 | exact z5 | exact ZZ.out _ (((Below.refl _ _).alloc (Nat.le_refl _) _).drew) | exact ZZ.out _ ((((Below.refl _ _).alloc (Nat.le_refl _) _).alloc (by simp) _).drew))
        ((go_at_call 45; refine (CT.out (World.drew _) (fun _ => rfl)).mono ?_; rintro e w5 ⟨v5, rfl, o5, b5⟩; have b6 := BB.out _ _ _ b5; have z5 := ZZ.out _ b6))
      have B6 := Lib.hid (B2.out.trans (b6.mono B2.out.size))
      have O6 := Lib.hid (own_base o5 (B' := w.heap.size) (by have := B2.out.size; simp; omega))
      clear o5 b5 b6 z0 z5
      go_wp2_with fail
      go_ret
      exact ⟨_, rfl, by rw [HP.out]; exact O6.out, B6.out⟩
    · rw [if_neg hci] at CT
      clear h1 h2 hs
      go_wp2_with fail
      go_region_held3 (fun w' => w'.cell? ⟨G, 0, none⟩ = some (.string p) ∧ w'.cell? ⟨G, 1, none⟩ = some (.int .i64 m) ∧ w'.cell? ⟨G, 2, none⟩ = some (.string d)) (first | exact z0 | exact z5 | exact ZZ.out _ (((Below.refl _ _).alloc (Nat.le_refl _) _).drew) | exact ZZ.out _ ((((Below.refl _ _).alloc (Nat.le_refl _) _).alloc (by simp) _).drew))
        ((go_at_call 45; refine (CT.out (World.drew _) (fun _ => rfl)).mono ?_; rintro e w5 ⟨v5, rfl, o5, b5⟩; have b6 := BB.out _ _ _ b5; have z5 := ZZ.out _ b6))
      have B6 := Lib.hid (B2.out.trans (b6.mono B2.out.size))
      have O6 := Lib.hid (own_base o5 (B' := w.heap.size) (by have := B2.out.size; simp; omega))
      clear o5 b5 b6 z0 z5
      go_wp2_with fail
      go_ret
      exact ⟨_, rfl, by rw [HP.out]; exact O6.out, B6.out⟩
  | true =>
    obtain ⟨g, hg, hgf⟩ := h1 rfl
    have hil := (List.getElem?_eq_some_iff.1 hg).1
    have HP := Lib.hid (put_some (f := (p, m, d)) HRI.out hs hg hgf)
    have CT := Lib.hid (put_core w2 A c l p d m i (i + 1) R2.out (Nat.le_succ i) hil (by omega))
    have hw1 : IntKind.i64.wrap ((i : Int) + 1) = (i : Int) + 1 := by rw [IntKind.wrap_i64] <;> omega
    have htn : ((i : Int) + 1).toNat = i + 1 := by omega
    have hj0 : (0 : Int) ≤ (i : Int) + 1 := by omega
    have hj1 : (i : Int) + 1 ≤ (l.length : Int) := by omega
    have hj2 : (i : Int) + 1 ≤ (c : Int) := by omega
    clear hg hgf
    by_cases hci : c = i + 1
    · rw [if_pos hci] at CT
      have hct : (c = i + 1) = True := eq_true hci
      clear hci
      clear h1 h2 hs
      go_wp2_with fail
      go_region_held3 (fun w' => w'.cell? ⟨G, 0, none⟩ = some (.string p) ∧ w'.cell? ⟨G, 1, none⟩ = some (.int .i64 m) ∧ w'.cell? ⟨G, 2, none⟩ = some (.string d)) (first | exact z0 | exact z5 | exact ZZ.out _ (((Below.refl _ _).alloc (Nat.le_refl _) _).drew) | exact ZZ.out _ ((((Below.refl _ _).alloc (Nat.le_refl _) _).alloc (by simp) _).drew))
        ((go_at_call 45; refine (CT.out (World.drew _) (fun _ => rfl)).mono ?_; rintro e w5 ⟨v5, rfl, o5, b5⟩; have b6 := BB.out _ _ _ b5; have z5 := ZZ.out _ b6))
      have B6 := Lib.hid (B2.out.trans (b6.mono B2.out.size))
      have O6 := Lib.hid (own_base o5 (B' := w.heap.size) (by have := B2.out.size; simp; omega))
      clear o5 b5 b6 z0 z5
      go_wp2_with fail
      go_ret
      exact ⟨_, rfl, by rw [HP.out]; exact O6.out, B6.out⟩
    · rw [if_neg hci] at CT
      clear h1 h2 hs
      go_wp2_with fail
      go_region_held3 (fun w' => w'.cell? ⟨G, 0, none⟩ = some (.string p) ∧ w'.cell? ⟨G, 1, none⟩ = some (.int .i64 m) ∧ w'.cell? ⟨G, 2, none⟩ = some (.string d)) (first | exact z0 | exact z5 | exact ZZ.out _ (((Below.refl _ _).alloc (Nat.le_refl _) _).drew) | exact ZZ.out _ ((((Below.refl _ _).alloc (Nat.le_refl _) _).alloc (by simp) _).drew))
        ((go_at_call 45; refine (CT.out (World.drew _) (fun _ => rfl)).mono ?_; rintro e w5 ⟨v5, rfl, o5, b5⟩; have b6 := BB.out _ _ _ b5; have z5 := ZZ.out _ b6))
      have B6 := Lib.hid (B2.out.trans (b6.mono B2.out.size))
      have O6 := Lib.hid (own_base o5 (B' := w.heap.size) (by have := B2.out.size; simp; omega))
      clear o5 b5 b6 z0 z5
      go_wp2_with fail
      go_ret
      exact ⟨_, rfl, by rw [HP.out]; exact O6.out, B6.out⟩
end Go.Proofs.YtplleaimmmanhaaDoor
namespace Go.Proofs.YtplleaimmmanhaaDoor
open Go.RowKit

/-- The cells of a difference. -/
def whB (n : Int) : ByteArray := ⟨#[UInt8.ofNat n.toNat]⟩
def cD (x : Dl) : List Value := [.string x.1, .string (whB x.2)]
theorem cD_len (x : Dl) : (cD x).length = 2 := rfl
theorem deltaInfo : (Tryd.prog.info? 35).map (fun i => (i.zero, i.size, i.bytes)) = some (some (.agg #[.string ⟨#[]⟩, .string ⟨#[]⟩]), 2, 32) := by kernel_rfl
theorem pathsR_two (v u : Value) (a b : List Fl) : nrm (pathsR [(v, a), (u, b)]) = paths2 a b := by simp [pathsR, paths2]
theorem trees_two {w : World} {v u : Value} {a b : List Fl} (h : Reads 3 cF w v a) (g : Reads 3 cF w u b) : Trees (w.alloc (.cells #[v, u] 23)) ⟨w.heap.size, 0, none⟩ [(v, a), (u, b)] := fun i r hr => by
  match i, hr with
  | 0, hr => obtain rfl := Option.some.inj hr; exact ⟨cell_of_row _ _ 0 _ 23 (0, 0) (heap_alloc_new w _), h.alloc _⟩
  | 1, hr => obtain rfl := Option.some.inj hr; exact ⟨cell_of_row _ _ 1 _ 23 (0, 0) (heap_alloc_new w _), g.alloc _⟩
  | i + 2, hr => simp at hr
/-- files.Paths of two trees. -/
theorem paths_two (w : World) (v u : Value) (a b : List Fl) (h : Reads 3 cF w v a) (g : Reads 3 cF w u b) (ha : a.length ≤ 10000) (hb : b.length ≤ 10000) :
    Calls Tryd.prog 17 #[.slice (some ⟨w.heap.size, 0, none⟩) 2 2] (w.alloc (.cells #[v, u] 23)) (TextsTo (paths2 a b) (w.alloc (.cells #[v, u] 23))) := by
  have := paths_any _ ⟨w.heap.size, 0, none⟩ 2 [(v, a), (u, b)] (trees_two h g) (by simp) (by simp [pathsR]; omega)
  rw [pathsR_two] at this
  exact this
theorem isSome_of {a b : List Fl} {p : ByteArray} (h : p ∈ paths2 a b) (hn : (getF a p).isSome = false) : (getF b p).isSome = true := by
  rw [paths2_mem] at h
  have key : ∀ {l : List Fl}, p ∈ l.map (·.1) → (getF l p).isSome = true := fun {l} hm => by
    obtain ⟨f, hf, he⟩ := List.mem_map.1 hm
    unfold getF
    rw [List.find?_isSome]
    exact ⟨f, hf, by simpa using he⟩
  rcases h with h | h
  · rw [key h] at hn; cases hn
  · exact key h
theorem unl_add {x y : Option Fl} (h1 : x.isSome = false) (h2 : y.isSome = true) : unl x y = 65 := by cases x <;> cases y <;> simp_all [unl]
theorem unl_del {x y : Option Fl} (h1 : x.isSome = true) (h2 : y.isSome = false) : unl x y = 68 := by cases x <;> cases y <;> simp_all [unl]
theorem unl_yes {x y : Option Fl} (h1 : x.isSome = true) (h2 : y.isSome = true) (h : flZ x = flZ y) : unl x y = 32 := by cases x <;> cases y <;> simp_all [unl, flZ]
theorem unl_mod {x y : Option Fl} (h1 : x.isSome = true) (h2 : y.isSome = true) (h : flZ x ≠ flZ y) : unl x y = 77 := by cases x <;> cases y <;> simp_all [unl, flZ]

set_option maxRecDepth 100000 in
set_option maxHeartbeats 8000000 in
theorem diff_any (w : World) (v u : Value) (a b : List Fl) (h : Reads 3 cF w v a) (g : Reads 3 cF w u b) (ra : RiseF a) (rb : RiseF b) (ha : a.length ≤ 10000) (hb : b.length ≤ 10000) :
    Calls Tryd.prog 12 #[v, u] w (OwnTo 35 2 cD (diffF a b) w) := by
  have PT := Lib.hid (paths_two w v u a b h g ha hb)
  have HD := Lib.hid (show diffF a b = diffOf (fun p => unl (getF a p) (getF b p)) (paths2 a b) from rfl)
  have HI := Lib.hid fun p (hp : p ∈ paths2 a b) => @isSome_of a b p hp
  have G1 := Lib.hid fun W (hW : Below w.heap.size w W) p => get_any W v a p (h.below hW) ra (by omega)
  have G2 := Lib.hid fun W (hW : Below w.heap.size w W) p => get_any W u b p (g.below hW) rb (by omega)
  have LP := paths2_len a b
  obtain ⟨A, c, rfl⟩ := h.form
  obtain ⟨A2, c2, rfl⟩ := g.form
  obtain ⟨ps, hps⟩ : ∃ ps, ps = paths2 a b := ⟨_, rfl⟩
  obtain ⟨fL, hfL⟩ : ∃ f, f = fun p => unl (getF a p) (getF b p) := ⟨_, rfl⟩
  have FP := Lib.hid (show ∀ p, fL p = unl (getF a p) (getF b p) from fun p => by rw [hfL])
  rw [← hps] at PT HD HI LP
  rw [← hfL] at HD
  obtain ⟨i0, hi, hz0, hz1, hz2⟩ := info_parts deltaInfo
  have hpm : ps.length ≤ 20000 := by omega
  have B1 : Below w.heap.size w (w.alloc (.cells #[.slice A a.length c, .slice A2 b.length c2] 23)) := (Below.refl _ _).alloc (Nat.le_refl _) _
  clear h g ra rb hps hfL LP
  go_enter Tryd.func12, Tryd.ntmps12
  go_wp2_with fail
  refine PT.out.mono ?_
  rintro e w1 ⟨v1, rfl, o1, b1⟩
  have B2 := Lib.hid (B1.trans (b1.mono B1.size))
  have RP := Lib.hid (Strs.of_own o1 rfl)
  obtain ⟨A1, c1, rfl⟩ := own_form o1
  clear o1 b1 PT B1
  go_wp2_with fail
  obtain ⟨wo, hwo⟩ : ∃ wo, wo = w1 := ⟨_, rfl⟩
  subst hwo
  go_loopw [5, 17] (fun s5 s17 wr => ∃ (k : Nat) (acc : List Dl), k ≤ ps.length ∧ s17 = .int .i64 k ∧ Hid (acc = diffOf fL (ps.take k)) ∧ Hid (wr.ownsRow wo.heap.size 35 2 s5 acc.length (acc.flatMap cD)) ∧ Below wo.heap.size wo wr) (fun _ s17 _ => ps.length - (intOf s17).toNat)
  case atStart => exact ⟨0, [], Nat.zero_le _, rfl, Lib.hid rfl, Lib.hid (World.ownsRow_nil _ _ _ _), Below.refl _ _⟩
  case round =>
    obtain ⟨k, acc, hk, rfl, hacc, hown, hb⟩ := hrel
    by_cases hlt : k < ps.length
    · obtain ⟨ad, p, rfl, hp, c0⟩ := strs_at RP.out hlt
      have c0' := (hb.cell (World.block_lt_of_cell? _ _ c0)).trans c0
      have HT := Lib.hid (show diffOf fL (ps.take (k + 1)) = acc ++ (if fL p ≠ 32 then [(p, fL p)] else []) by rw [take_snoc hp, diffOf_snoc, hacc.out])
      have hsl : acc.length ≤ 20000 := by
        rw [hacc.out]
        exact Nat.le_trans (diffOf_len _ _) (by rw [List.length_take]; omega)
      have HIp := Lib.hid (HI.out p (List.mem_of_getElem? hp))
      have hbs := hb.size
      have BW := Lib.hid (B2.out.trans (hb.mono B2.out.size))
      have GA := Lib.hid (G1.out wr BW.out p)
      have GB := Lib.hid fun W (hW : Below wr.heap.size wr W) => G2.out W (BW.out.trans (hW.mono BW.out.size)) p
      have FPp := Lib.hid (FP.out p)
      obtain ⟨oa, hoa⟩ : ∃ o, o = getF a p := ⟨_, rfl⟩
      obtain ⟨ob, hob⟩ : ∃ o, o = getF b p := ⟨_, rfl⟩
      rw [← hoa] at GA FPp HIp
      rw [← hob] at GB FPp HIp
      unfold Got at GA GB
      simp only [gotV_flZ] at GA GB
      obtain ⟨x, hx⟩ : ∃ x, x = flZ oa := ⟨_, rfl⟩
      obtain ⟨y, hy⟩ : ∃ y, y = flZ ob := ⟨_, rfl⟩
      obtain ⟨xa, hxa⟩ : ∃ q, q = oa.isSome := ⟨_, rfl⟩
      obtain ⟨xb, hxb⟩ : ∃ q, q = ob.isSome := ⟨_, rfl⟩
      have HX := Lib.hid hx
      have HY := Lib.hid hy
      have HXA := Lib.hid hxa
      have HXB := Lib.hid hxb
      rw [← hx, ← hxa] at GA
      rw [← hy, ← hxb] at GB
      obtain ⟨x1, x2, x3⟩ := x
      obtain ⟨y1, y2, y3⟩ := y
      have k0 : (0 : Int) ≤ (k : Int) := Int.natCast_nonneg _
      have k1 : (k : Int) < (ps.length : Int) := by omega
      clear hp c0 hoa hob hx hy hxa hxb hacc
      go_wp2_with fail
      refine GA.out.mono ?_
      rintro e w2 ⟨rfl, b2⟩
      have b2' := b2.alloc b2.size (.cells #[.string x1, .int .i64 x2, .string x3] 42)
      go_wp2_with fail
      refine (GB.out _ b2').mono ?_
      rintro e w3 ⟨rfl, b3⟩
      have K1 := (b3.block w2.heap.size (by simp)).trans (heap_alloc_new w2 (.cells #[.string x1, .int .i64 x2, .string x3] 42))
      have B3 := b2'.trans (b3.mono b2'.size)
      have hlt2 : w2.heap.size + 1 ≤ w3.heap.size := by simpa using b3.size
      obtain ⟨g, hg⟩ : ∃ g, g = w2.heap.size := ⟨_, rfl⟩
      rw [← hg] at K1 hlt2
      have d0 := cell_of_row w3 g 0 _ 42 (0, 0) K1
      have d1 := cell_of_row w3 g 1 _ 42 (0, 0) K1
      have d2 := cell_of_row w3 g 2 _ 42 (0, 0) K1
      have B4 := hb.trans (B3.mono hbs)
      have Ob := Lib.hid (own_keep hown.out B3)
      have B4s := B4.size
      have hcl : g < w3.heap.size := by omega
      rw [← hg]
      clear K1 B3 b2 b2' b3 hlt2 hown hb hbs c0' GA GB hg
      cases xa with
      | false =>
        have HV := Lib.hid (show fL p = 65 from FPp.out.trans (unl_add HXA.out.symm (HIp.out HXA.out.symm)))
        clear HX HY
        have HK := Lib.hid (show diffOf fL (ps.take (k + 1)) = acc ++ [(p, 65)] by rw [HT.out, if_pos (by rw [HV.out]; decide), HV.out])
        have own4 := (Ob.out.alloc (.cells #[.string y1, .int .i64 y2, .string y3] 42)).alloc (.cells #[.string p, .string ⟨#[65]⟩] 35)
        have news4 := news_one (w3.alloc (.cells #[.string y1, .int .i64 y2, .string y3] 42)) #[.string p, .string ⟨#[65]⟩] 35 (w3.heap.size + 1) (by simp)
        go_wp2_with (at_builtin; refine wpList_append_own _ rfl _ _ 31 rfl wo.heap.size 35 i0 (.agg #[.string ⟨#[]⟩, .string ⟨#[]⟩]) 2 32 Tryd.underlying31 hi hz0 hz1 hz2 rfl (by decide) _ _ _ rfl own4 ⟨w3.heap.size + 1, 0, none⟩ 1 1 [.string p, .string ⟨#[65]⟩] rfl rfl news4 (by simp [Value.oneCell']) (by unfold maxLen; omega) (by omega) (by simp; omega) ?_; intro v5 w5 own5 hg5 _)
        have b5 : Below wo.heap.size wo w5 := ((B4.alloc B4s _).alloc (by simp; omega) _).grown hg5 (by simp; omega) (fun k hk => (Ob.out.lt k hk).1)
        clear news4 own4 hg5
        go_roundw
        case rel => exact ⟨k + 1, acc ++ [(p, 65)], by omega, by go_num, Lib.hid HK.out.symm, Lib.hid (by rw [List.length_append, flat_snoc]; exact own5), b5⟩
        case measure => simp [intOf]; omega
      | true =>
        cases xb with
        | false =>
          have HV := Lib.hid (show fL p = 68 from FPp.out.trans (unl_del HXA.out.symm HXB.out.symm))
          clear HX HY
          have HK := Lib.hid (show diffOf fL (ps.take (k + 1)) = acc ++ [(p, 68)] by rw [HT.out, if_pos (by rw [HV.out]; decide), HV.out])
          have own4 := (Ob.out.alloc (.cells #[.string y1, .int .i64 y2, .string y3] 42)).alloc (.cells #[.string p, .string ⟨#[68]⟩] 35)
          have news4 := news_one (w3.alloc (.cells #[.string y1, .int .i64 y2, .string y3] 42)) #[.string p, .string ⟨#[68]⟩] 35 (w3.heap.size + 1) (by simp)
          go_wp2_with (at_builtin; refine wpList_append_own _ rfl _ _ 31 rfl wo.heap.size 35 i0 (.agg #[.string ⟨#[]⟩, .string ⟨#[]⟩]) 2 32 Tryd.underlying31 hi hz0 hz1 hz2 rfl (by decide) _ _ _ rfl own4 ⟨w3.heap.size + 1, 0, none⟩ 1 1 [.string p, .string ⟨#[68]⟩] rfl rfl news4 (by simp [Value.oneCell']) (by unfold maxLen; omega) (by omega) (by simp; omega) ?_; intro v5 w5 own5 hg5 _)
          have b5 : Below wo.heap.size wo w5 := ((B4.alloc B4s _).alloc (by simp; omega) _).grown hg5 (by simp; omega) (fun k hk => (Ob.out.lt k hk).1)
          clear news4 own4 hg5
          go_roundw
          case rel => exact ⟨k + 1, acc ++ [(p, 68)], by omega, by go_num, Lib.hid HK.out.symm, Lib.hid (by rw [List.length_append, flat_snoc]; exact own5), b5⟩
          case measure => simp [intOf]; omega
        | true =>
          by_cases h1 : x1 = y1
          · subst h1
            by_cases h2 : x2 = y2
            · subst h2
              by_cases h3 : x3 = y3
              · subst h3
                have HV := Lib.hid (show fL p = 32 from FPp.out.trans (unl_yes HXA.out.symm HXB.out.symm (by rw [← HX.out, ← HY.out])))
                have HK := Lib.hid (show diffOf fL (ps.take (k + 1)) = acc by rw [HT.out, if_neg (by rw [HV.out]; decide), List.append_nil])
                clear HX HY
                go_wp2_with fail
                go_roundw
                case rel => exact ⟨k + 1, acc, by omega, by go_num, Lib.hid HK.out.symm, Lib.hid (Ob.out.alloc _), B4.alloc B4s _⟩
                case measure => simp [intOf]; omega
              · have n3 : ¬ x3.toList = y3.toList := fun e => h3 (tl_eq e)
                have n3' : (x3.toList == y3.toList) = false := by simpa using n3
                have HV := Lib.hid (show fL p = 77 from FPp.out.trans (unl_mod HXA.out.symm HXB.out.symm (by rw [← HX.out, ← HY.out]; exact fun e => h3 (congrArg (fun z => z.2.2) e))))
                clear HX HY
                clear h3
                have HK := Lib.hid (show diffOf fL (ps.take (k + 1)) = acc ++ [(p, 77)] by rw [HT.out, if_pos (by rw [HV.out]; decide), HV.out])
                have own4 := (Ob.out.alloc (.cells #[.string x1, .int .i64 x2, .string y3] 42)).alloc (.cells #[.string p, .string ⟨#[77]⟩] 35)
                have news4 := news_one (w3.alloc (.cells #[.string x1, .int .i64 x2, .string y3] 42)) #[.string p, .string ⟨#[77]⟩] 35 (w3.heap.size + 1) (by simp)
                go_wp2_with (at_builtin; refine wpList_append_own _ rfl _ _ 31 rfl wo.heap.size 35 i0 (.agg #[.string ⟨#[]⟩, .string ⟨#[]⟩]) 2 32 Tryd.underlying31 hi hz0 hz1 hz2 rfl (by decide) _ _ _ rfl own4 ⟨w3.heap.size + 1, 0, none⟩ 1 1 [.string p, .string ⟨#[77]⟩] rfl rfl news4 (by simp [Value.oneCell']) (by unfold maxLen; omega) (by omega) (by simp; omega) ?_; intro v5 w5 own5 hg5 _)
                have b5 : Below wo.heap.size wo w5 := ((B4.alloc B4s _).alloc (by simp; omega) _).grown hg5 (by simp; omega) (fun k hk => (Ob.out.lt k hk).1)
                clear news4 own4 hg5
                go_roundw
                case rel => exact ⟨k + 1, acc ++ [(p, 77)], by omega, by go_num, Lib.hid HK.out.symm, Lib.hid (by rw [List.length_append, flat_snoc]; exact own5), b5⟩
                case measure => simp [intOf]; omega
            · have n2' : (x2 == y2) = false := by simpa using h2
              have HV := Lib.hid (show fL p = 77 from FPp.out.trans (unl_mod HXA.out.symm HXB.out.symm (by rw [← HX.out, ← HY.out]; exact fun e => h2 (congrArg (fun z => z.2.1) e))))
              clear HX HY
              have HK := Lib.hid (show diffOf fL (ps.take (k + 1)) = acc ++ [(p, 77)] by rw [HT.out, if_pos (by rw [HV.out]; decide), HV.out])
              have own4 := (Ob.out.alloc (.cells #[.string x1, .int .i64 y2, .string y3] 42)).alloc (.cells #[.string p, .string ⟨#[77]⟩] 35)
              have news4 := news_one (w3.alloc (.cells #[.string x1, .int .i64 y2, .string y3] 42)) #[.string p, .string ⟨#[77]⟩] 35 (w3.heap.size + 1) (by simp)
              go_wp2_with (at_builtin; refine wpList_append_own _ rfl _ _ 31 rfl wo.heap.size 35 i0 (.agg #[.string ⟨#[]⟩, .string ⟨#[]⟩]) 2 32 Tryd.underlying31 hi hz0 hz1 hz2 rfl (by decide) _ _ _ rfl own4 ⟨w3.heap.size + 1, 0, none⟩ 1 1 [.string p, .string ⟨#[77]⟩] rfl rfl news4 (by simp [Value.oneCell']) (by unfold maxLen; omega) (by omega) (by simp; omega) ?_; intro v5 w5 own5 hg5 _)
              have b5 : Below wo.heap.size wo w5 := ((B4.alloc B4s _).alloc (by simp; omega) _).grown hg5 (by simp; omega) (fun k hk => (Ob.out.lt k hk).1)
              clear news4 own4 hg5
              go_roundw
              case rel => exact ⟨k + 1, acc ++ [(p, 77)], by omega, by go_num, Lib.hid HK.out.symm, Lib.hid (by rw [List.length_append, flat_snoc]; exact own5), b5⟩
              case measure => simp [intOf]; omega
          · have n1 : ¬ x1.toList = y1.toList := fun e => h1 (tl_eq e)
            have n1' : (x1.toList == y1.toList) = false := by simpa using n1
            have HV := Lib.hid (show fL p = 77 from FPp.out.trans (unl_mod HXA.out.symm HXB.out.symm (by rw [← HX.out, ← HY.out]; exact fun e => h1 (congrArg (fun z => z.1) e))))
            clear HX HY
            clear h1
            have HK := Lib.hid (show diffOf fL (ps.take (k + 1)) = acc ++ [(p, 77)] by rw [HT.out, if_pos (by rw [HV.out]; decide), HV.out])
            have own4 := (Ob.out.alloc (.cells #[.string y1, .int .i64 y2, .string y3] 42)).alloc (.cells #[.string p, .string ⟨#[77]⟩] 35)
            have news4 := news_one (w3.alloc (.cells #[.string y1, .int .i64 y2, .string y3] 42)) #[.string p, .string ⟨#[77]⟩] 35 (w3.heap.size + 1) (by simp)
            go_wp2_with (at_builtin; refine wpList_append_own _ rfl _ _ 31 rfl wo.heap.size 35 i0 (.agg #[.string ⟨#[]⟩, .string ⟨#[]⟩]) 2 32 Tryd.underlying31 hi hz0 hz1 hz2 rfl (by decide) _ _ _ rfl own4 ⟨w3.heap.size + 1, 0, none⟩ 1 1 [.string p, .string ⟨#[77]⟩] rfl rfl news4 (by simp [Value.oneCell']) (by unfold maxLen; omega) (by omega) (by simp; omega) ?_; intro v5 w5 own5 hg5 _)
            have b5 : Below wo.heap.size wo w5 := ((B4.alloc B4s _).alloc (by simp; omega) _).grown hg5 (by simp; omega) (fun k hk => (Ob.out.lt k hk).1)
            clear news4 own4 hg5
            go_roundw
            case rel => exact ⟨k + 1, acc ++ [(p, 77)], by omega, by go_num, Lib.hid HK.out.symm, Lib.hid (by rw [List.length_append, flat_snoc]; exact own5), b5⟩
            case measure => simp [intOf]; omega
    · obtain rfl : k = ps.length := by omega
      rw [List.take_length] at hacc
      have HB := Lib.hid (B2.out.trans (hb.mono B2.out.size))
      have HO := Lib.hid (own_base hown.out B2.out.size)
      clear hown hb
      go_wp2
      go_ret
      exact ⟨_, rfl, by rw [HD.out, ← hacc.out]; exact HO.out, HB.out⟩
end Go.Proofs.YtplleaimmmanhaaDoor
namespace Go.Proofs.YtplleaimmmanhaaDoor
open Go Go.RowKit

def YesTo (w : World) (e : Ending) (w' : World) : Prop := e = .returned (.bool true) ∧ Below w.heap.size w w'
def pa : ByteArray := ⟨#[97]⟩
def pb : ByteArray := ⟨#[98]⟩
def fB : Fl := (⟨#[98]⟩, 1, ⟨#[120]⟩)
def fA : Fl := (⟨#[97]⟩, 1, ⟨#[]⟩)
def fC : Fl := (⟨#[98]⟩, 2, ⟨#[120]⟩)
theorem pab : cb pa pb < 0 := by decide
theorem kn_put1 : putF [] fB = [fB] := by decide
theorem kn_put2 : putF [fB] fA = [fA, fB] := by decide
theorem kn_put3 : putF [fA, fB] fC = [fA, fC] := by decide
theorem kn_rise1 : RiseF [fB] := List.pairwise_singleton _ _
theorem kn_rise2 : RiseF [fA, fB] := List.pairwise_pair.2 pab
theorem kn_rise3 : RiseF [fA, fC] := List.pairwise_pair.2 pab
theorem kn_get : getF [fA, fB] ⟨#[98]⟩ = some fB := by decide
theorem kn_paths : paths2 [fA, fB] [fA, fC] = [pa, pb] := rise_unique (nrm_rise _) (List.pairwise_pair.2 pab) fun s => by
  unfold paths2
  rw [nrm_mem]
  simp only [fA, fB, fC, pa, pb, List.map_cons, List.map_nil, List.cons_append, List.nil_append, List.mem_cons, List.not_mem_nil, or_false]
  constructor
  · rintro (h | h | h | h) <;> simp [h]
  · rintro (h | h) <;> simp [h]
theorem kn_diff : diffF [fA, fB] [fA, fC] = [(⟨#[98]⟩, 77)] := by
  unfold diffF
  rw [kn_paths]
  decide
theorem kn_check : chkF [fA, fB] = none := by decide
theorem kn_cut : cutF [fA, fB] ⟨#[97]⟩ = [fB] := by decide
theorem kn_clear : clearF [fA, fB] ⟨#[97, 47, 120]⟩ = [fB] := by decide
theorem kn_same : decide ([fA, fB] = [fA, fC]) = false := by decide
theorem kn_sized : SizedD [fA, fB] := fun x hx => by
  simp only [List.mem_cons, List.not_mem_nil, or_false] at hx
  rcases hx with rfl | rfl <;> exact ⟨by decide, by decide⟩
end Go.Proofs.YtplleaimmmanhaaDoor
namespace Go.Proofs.YtplleaimmmanhaaDoor
open Go Go.RowKit

theorem own_first {w : World} {B : Nat} {e : TypeId} {k : Nat} {v : Value} {n : Nat} {xs : List Value} (h : w.ownsRow B e k v n xs) (hn : 0 < n) :
    ∃ g cap, v = .slice (some ⟨g, 0, none⟩) n cap ∧ n ≤ cap ∧ cap ≤ 9223372036854775807 ∧ g < w.heap.size := by
  rcases h.2 with ⟨_, h0⟩ | ⟨g, cap, cur, hv, hg, hgb, hnc, hcm, _⟩
  · omega
  · exact ⟨g, cap, hv, hnc, by unfold maxLen at hcm; omega, (Array.getElem?_eq_some_iff.1 hgb).1⟩

theorem kn_gotV : gotV (some fB) = .tuple #[.agg #[.string ⟨#[98]⟩, .int .i64 1, .string ⟨#[120]⟩], .bool true] := rfl
set_option maxRecDepth 100000 in
set_option maxHeartbeats 4000000 in
theorem known_yes (w : World) : Calls Tryd.prog 7 #[] w (YesTo w) := by
  have P1 := Lib.hid (put_any w (.slice none 0 0) [] fB (Reads.nil w) List.Pairwise.nil (by decide))
  rw [kn_put1] at P1
  go_enter Tryd.func7, Tryd.ntmps7
  go_wp2_with fail
  refine P1.out.mono ?_
  rintro e w1 ⟨v1, rfl, o1, b1⟩
  have P2 := Lib.hid (put_any w1 v1 [fB] fA (Reads.of_own cF_len o1) kn_rise1 (by decide))
  rw [kn_put2] at P2
  have B1 := Lib.hid b1
  clear P1 o1 b1
  go_wp2_with fail
  refine P2.out.mono ?_
  rintro e w2 ⟨v2, rfl, o2, b2⟩
  have R2 := Lib.hid (Reads.of_own cF_len o2)
  have G2 := Lib.hid (get_any w2 v2 [fA, fB] ⟨#[98]⟩ R2.out kn_rise2 (by decide))
  rw [kn_get] at G2
  have O2 := Lib.hid (own_base (B' := w.heap.size) o2 B1.out.size)
  have B2 := Lib.hid (B1.out.trans (b2.mono B1.out.size))
  clear P2 o2 b2 B1
  go_wp2_with fail
  refine G2.out.mono ?_
  rintro e w3 ⟨rfl, b3⟩
  obtain ⟨W3, hW3⟩ : ∃ W3, W3 = w3.alloc (.cells #[.string ⟨#[98]⟩, .int .i64 1, .string ⟨#[120]⟩] 42) := ⟨_, rfl⟩
  have a3 : Below w3.heap.size w3 W3 := by rw [hW3]; exact (Below.refl _ _).alloc (Nat.le_refl _) _
  obtain ⟨q, hQ⟩ : ∃ q, q = w3.heap.size := ⟨_, rfl⟩
  have k3 : Hid (W3.heap[q]? = some (.cells #[.string ⟨#[98]⟩, .int .i64 1, .string ⟨#[120]⟩] 42 (0, 0))) := Lib.hid (by rw [hW3, hQ]; exact heap_alloc_new w3 _)
  have q3 : Hid (q < W3.heap.size) := Lib.hid (by rw [hW3, hQ]; simp)
  have b23 : Below w2.heap.size w2 W3 := b3.trans (a3.mono b3.size)
  have B3 := Lib.hid (B2.out.trans (b23.mono B2.out.size))
  have O3 := Lib.hid (own_keep O2.out b23)
  have R3 := Lib.hid (R2.out.below b23)
  have P3 := Lib.hid (put_any W3 v2 [fA, fB] fC R3.out kn_rise2 (by decide))
  rw [kn_put3] at P3
  obtain ⟨gr, cr, rfl, hcr, hcm, hgr⟩ := own_first O3.out (by decide)
  clear G2 b3 a3 b23 O2 R2 B2
  rw [kn_gotV]
  go_wp2_with fail
  rw [← hW3, ← hQ]
  clear hW3 hQ
  refine P3.out.mono ?_
  rintro e w4 ⟨v4, rfl, o4, b4⟩
  obtain ⟨A4, c4, hv4⟩ := own_form o4
  simp only [List.length_cons, List.length_nil, Nat.zero_add, Nat.reduceAdd] at hv4
  subst hv4
  have R4 := Lib.hid (R3.out.below b4)
  have O4 := Lib.hid (own_keep O3.out b4)
  have Q4 := Lib.hid (Reads.of_own cF_len o4)
  have B4 := Lib.hid (B3.out.trans (b4.mono B3.out.size))
  have k4 : Hid (w4.heap[q]? = some (.cells #[.string ⟨#[98]⟩, .int .i64 1, .string ⟨#[120]⟩] 42 (0, 0))) := Lib.hid ((b4.block q q3.out).trans k3.out)
  have q4 : Hid (q < w4.heap.size) := Lib.hid (Nat.lt_of_lt_of_le q3.out b4.size)
  have D4 := Lib.hid (diff_any w4 _ (.slice A4 2 c4) [fA, fB] [fA, fC] R4.out Q4.out kn_rise2 kn_rise3 (by decide) (by decide))
  rw [kn_diff] at D4
  clear P3 o4 b4 R3 O3 B3 k3 q3
  go_wp2_with fail
  refine D4.out.mono ?_
  rintro e w5 ⟨v5, rfl, o5, b5⟩
  have R5 := Lib.hid (R4.out.below b5)
  have O5 := Lib.hid (own_keep O4.out b5)
  have Q5 := Lib.hid (Q4.out.below b5)
  have B5 := Lib.hid (B4.out.trans (b5.mono B4.out.size))
  have k5 : Hid (w5.heap[q]? = some (.cells #[.string ⟨#[98]⟩, .int .i64 1, .string ⟨#[120]⟩] 42 (0, 0))) := Lib.hid ((b5.block q q4.out).trans k4.out)
  have q5 : Hid (q < w5.heap.size) := Lib.hid (Nat.lt_of_lt_of_le q4.out b5.size)
  have D5 := Lib.hid o5
  obtain ⟨gd, cd, rfl, hcd, hcdm, hgd⟩ := own_first o5 (by decide)
  have P5 := Lib.hid (paths_two w5 _ (.slice A4 2 c4) [fA, fB] [fA, fC] R5.out Q5.out (by decide) (by decide))
  rw [kn_paths] at P5
  obtain ⟨W5, hW5⟩ : ∃ W5, W5 = w5.alloc (.cells #[.slice (some ⟨gr, 0, none⟩) 2 cr, .slice A4 2 c4] 23) := ⟨_, rfl⟩
  have a5 : Below w5.heap.size w5 W5 := by rw [hW5]; exact (Below.refl _ _).alloc (Nat.le_refl _) _
  have HW5 := Lib.hid hW5
  simp only [List.length_cons, List.length_nil, Nat.zero_add, Nat.reduceAdd] at P5
  rw [← hW5] at P5
  clear D4 o5 b5 R4 O4 Q4 B4 k4 q4 hW5
  go_wp2_with fail
  rw [← HW5.out]
  refine P5.out.mono ?_
  rintro e w6 ⟨v6, rfl, o6, b6⟩
  have b56 : Below w5.heap.size w5 w6 := a5.trans (b6.mono a5.size)
  have R6 := Lib.hid (R5.out.below b56)
  have Q6 := Lib.hid (Q5.out.below b56)
  have B6 := Lib.hid (B5.out.trans (b56.mono B5.out.size))
  have D6 := Lib.hid (own_keep D5.out b56)
  have O6 := own_keep O5.out b56
  have x0 : w6.cell? ⟨gr, 0, none⟩ = some (.string ⟨#[97]⟩) := O6.cellAt 0 (by decide)
  have k6 := (b56.block q q5.out).trans k5.out
  have y0 := cell_of_row w6 q 2 _ 42 (0, 0) k6
  obtain ⟨A6, c6, rfl⟩ := own_form o6
  have C6 := Lib.hid (checkF_any w6 _ [fA, fB] R6.out kn_sized (by decide))
  rw [kn_check] at C6
  clear P5 R5 O5 Q5 B5 k5 q5 D5 o6 b6 a5 b56 O6 k6 HW5
  go_wp2_with fail
  refine C6.out.mono ?_
  rintro e w7 h7
  obtain ⟨rfl, b7⟩ : e = .returned .nilIface ∧ Below w6.heap.size w6 w7 := by
    rcases h7 with ⟨_, he, hb⟩ | ⟨i, k, F, ho, _⟩
    · exact ⟨he, hb⟩
    · cases ho
  have R7 := Lib.hid (R6.out.below b7)
  have Q7 := Lib.hid (Q6.out.below b7)
  have B7 := Lib.hid (B6.out.trans (b7.mono B6.out.size))
  have D7 := own_keep D6.out b7
  have x1 : w7.cell? ⟨gd, 1, none⟩ = some (.string ⟨#[77]⟩) := D7.cellAt 1 (by decide)
  have U7 := Lib.hid (cut_any w7 _ [fA, fB] ⟨#[97]⟩ R7.out kn_sized.paths (by decide))
  rw [kn_cut] at U7
  clear C6 h7 R6 Q6 B6 D6 D7 b7 x0 y0
  go_wp2_with fail
  refine U7.out.mono ?_
  rintro e w8 ⟨v8, rfl, r8, b8⟩
  obtain ⟨A8, c8, rfl⟩ := r8.form
  have R8 := Lib.hid (R7.out.below b8)
  have Q8 := Lib.hid (Q7.out.below b8)
  have B8 := Lib.hid (B7.out.trans (b8.mono B7.out.size))
  have L8 := Lib.hid (clear_any w8 _ [fA, fB] ⟨#[97, 47, 120]⟩ R8.out kn_sized.paths (by decide) (by decide))
  rw [kn_clear] at L8
  clear U7 r8 b8 R7 Q7 B7 x1
  go_wp2_with fail
  refine L8.out.mono ?_
  rintro e w9 ⟨v9, rfl, r9, b9⟩
  obtain ⟨A9, c9, rfl⟩ := r9.form
  have B9 := Lib.hid (B8.out.trans (b9.mono B8.out.size))
  have S9 := Lib.hid (sameF_any w9 _ (.slice A4 2 c4) [fA, fB] [fA, fC] (R8.out.below b9) (Q8.out.below b9))
  rw [kn_same] at S9
  clear L8 r9 b9 R8 Q8 B8
  go_wp2_with fail
  refine S9.out.mono ?_
  rintro e w10 ⟨rfl, n10, rfl⟩
  go_wp2_with fail
  go_ret
  exact ⟨rfl, below_drewN B9.out _⟩
end Go.Proofs.YtplleaimmmanhaaDoor
namespace Go.Proofs.YtplleaimmmanhaaDoor
open Go Go.RowKit

def fX : Fl := (⟨#[97]⟩, 1, ⟨#[120]⟩)
def eX : En := (⟨#[97]⟩, 0, 1, ⟨#[120]⟩, 0, 0)
def eY : En := (⟨#[97]⟩, 2, 1, ⟨#[121]⟩, 0, 0)
def eZ : En := (⟨#[97]⟩, 1, 1, ⟨#[122]⟩, 0, 0)
theorem kq_of : [fX].map toE = [eX] := rfl
theorem kq_put1 : putL [eX] eY = [eY] := by decide
theorem kq_put2 : putL [eY] eZ = [eZ, eY] := by decide
theorem kq_put3 : putL [eZ, eY] eX = [eX] := by decide
theorem kq_rise1 : RiseE [eX] := List.pairwise_singleton _ _
theorem kq_rise2 : RiseE [eY] := List.pairwise_singleton _ _
theorem kq_rise3 : RiseE [eZ, eY] := List.pairwise_pair.2 (by decide)
theorem kq_chk : chkE [eZ, eY] = none := by decide
theorem kq_conf : nrm (confE [eZ, eY]) = [⟨#[97]⟩] := nrm_of (List.pairwise_singleton _ _) fun s => by
  rw [show confE [eZ, eY] = [⟨#[97]⟩, ⟨#[97]⟩] from by decide]
  simp
theorem kq_stage : stageE [eZ, eY] 2 = [(⟨#[97]⟩, 1, ⟨#[121]⟩)] := by decide
theorem kq_same : decide ([eZ, eY].map stillE = [eZ, eY].map stillE) = true := by decide
theorem kq_drop : dropE [eZ, eY] ⟨#[97]⟩ = [] := by decide
theorem kq_sized : SizedDE [eZ, eY] := fun x hx => by
  simp only [List.mem_cons, List.not_mem_nil, or_false] at hx
  rcases hx with rfl | rfl <;> exact ⟨by decide, by decide⟩
theorem kq_sized1 : SizedE [eX] := fun x hx => by
  simp only [List.mem_cons, List.not_mem_nil, or_false] at hx
  rcases hx with rfl; decide
theorem kq_sized2 : SizedE [eY] := fun x hx => by
  simp only [List.mem_cons, List.not_mem_nil, or_false] at hx
  rcases hx with rfl; decide
theorem kq_fit : ∀ x ∈ [eZ, eY], FitE x := fun x hx => by
  simp only [List.mem_cons, List.not_mem_nil, or_false] at hx
  rcases hx with rfl | rfl <;> exact ⟨by decide, by decide, ⟨by decide, by decide⟩, ⟨by decide, by decide⟩, ⟨by decide, by decide⟩, ⟨by decide, by decide⟩⟩
end Go.Proofs.YtplleaimmmanhaaDoor
namespace Go.Proofs.YtplleaimmmanhaaDoor
open Go Go.RowKit

theorem own_made3 (w : World) : (w.alloc (.cells #[.string ⟨#[97]⟩, .int .i64 1, .string ⟨#[120]⟩] 42)).ownsRow w.heap.size 42 3 (.slice (some ⟨w.heap.size, 0, none⟩) 1 1) 1 ([fX].flatMap cF) :=
  ⟨rfl, .inr ⟨w.heap.size, 1, #[.string ⟨#[97]⟩, .int .i64 1, .string ⟨#[120]⟩], rfl, Nat.le_refl _, heap_alloc_new w _, Nat.le_refl _, by decide, rfl, rfl⟩⟩

set_option maxRecDepth 100000 in
set_option maxHeartbeats 4000000 in
theorem known15_yes (w : World) (hh : Halves w) : Calls Tryd.prog 25 #[] w (YesTo w) := by
  obtain ⟨W0, hW0⟩ : ∃ W0, W0 = w.alloc (.cells #[.string ⟨#[97]⟩, .int .i64 1, .string ⟨#[120]⟩] 42) := ⟨_, rfl⟩
  have b0 : Below w.heap.size w W0 := by rw [hW0]; exact (Below.refl _ _).alloc (Nat.le_refl _) _
  have o0 := own_made3 w
  rw [← hW0] at o0
  have C0 := Lib.hid (of_any W0 (.slice (some ⟨w.heap.size, 0, none⟩) 1 1) [fX] (Reads.of_own cF_len o0) (by decide))
  rw [kq_of] at C0
  have HH := Lib.hid hh
  have B0 := Lib.hid b0
  clear hh b0 o0
  go_enter Tryd.func25, Tryd.ntmps25
  go_wp2_with fail
  rw [← hW0]
  clear hW0
  refine C0.out.mono ?_
  rintro e w1 ⟨v1, rfl, o1, b1⟩
  have B1 := Lib.hid (B0.out.trans (b1.mono B0.out.size))
  have O1 := Lib.hid (own_base (B' := w.heap.size) o1 B0.out.size)
  have P1 := Lib.hid (put_is w1 v1 [eX] eY (Reads.of_own cE_len o1) kq_rise1 kq_sized1 (by decide) (by decide))
  obtain ⟨g1, k1, rfl, hk1, hm1, hg1⟩ := own_first o1 (by decide)
  clear C0 o1 b1 B0
  go_wp2_with fail
  refine P1.out.mono ?_
  rintro e w2 ⟨v2, rfl, o2, b2, _, _⟩
  rw [kq_put1] at o2
  have B2 := Lib.hid (B1.out.trans (b2.mono B1.out.size))
  have O2 := Lib.hid (own_keep O1.out b2)
  have P2 := Lib.hid (put_is w2 v2 [eY] eZ (Reads.of_own cE_len o2) kq_rise2 kq_sized2 (by decide) (by decide))
  obtain ⟨A2, c2, hv2⟩ := own_form o2
  simp only [List.length_cons, List.length_nil, Nat.zero_add] at hv2
  subst hv2
  clear P1 o2 b2 B1 O1
  go_wp2_with fail
  refine P2.out.mono ?_
  rintro e w3 ⟨v3, rfl, o3, b3, _, _⟩
  rw [kq_put2] at o3
  have B3 := Lib.hid (B2.out.trans (b3.mono B2.out.size))
  have O3 := Lib.hid (own_keep O2.out b3)
  have N3 := Lib.hid (own_base (B' := w.heap.size) o3 B2.out.size)
  have R3 := Lib.hid (Reads.of_own cE_len o3)
  obtain ⟨g3, k3, rfl, hk3, hm3, hg3⟩ := own_first o3 (by decide)
  have C3 := Lib.hid (conflicts_any w3 _ [eZ, eY] R3.out (by decide))
  rw [kq_conf] at C3
  clear P2 o3 b3 B2 O2
  go_wp2_with fail
  refine C3.out.mono ?_
  rintro e w4 ⟨v4, rfl, o4, b4⟩
  have B4 := Lib.hid (B3.out.trans (b4.mono B3.out.size))
  have O4 := Lib.hid (own_keep O3.out b4)
  have N4 := Lib.hid (own_keep N3.out b4)
  have R4 := Lib.hid (R3.out.below b4)
  obtain ⟨A4, c4, hv4⟩ := own_form o4
  simp only [List.length_cons, List.length_nil, Nat.zero_add] at hv4
  subst hv4
  have E4 := Lib.hid (encode_any w4 _ [eZ, eY] R4.out kq_fit (by decide) kq_chk (HH.out.below B4.out HH.out.1))
  clear C3 o4 b4 B3 O3 N3 R3
  go_wp2_with fail
  refine E4.out.mono ?_
  rintro e w5 ⟨v5, rfl, o5, b5⟩
  have B5 := Lib.hid (B4.out.trans (b5.mono B4.out.size))
  have O5 := Lib.hid (own_keep O4.out b5)
  have N5 := Lib.hid (own_keep N4.out b5)
  have R5 := Lib.hid (R4.out.below b5)
  obtain ⟨A5, n5, c5, rfl⟩ : ∃ A n c, v5 = .slice A n c := by obtain ⟨A, c, h⟩ := own_form o5; exact ⟨A, _, c, h⟩
  have D5 := Lib.hid (decode_any w5 _ [eZ, eY] (ReadsB.of_own o5) kq_fit (by decide) kq_chk (HH.out.below B5.out HH.out.1))
  clear E4 o5 b5 B4 O4 N4 R4
  go_wp2_with fail
  refine D5.out.mono ?_
  rintro e w6 ⟨v6, rfl, o6, b6⟩
  have B6 := Lib.hid (B5.out.trans (b6.mono B5.out.size))
  have O6 := Lib.hid (own_keep O5.out b6)
  have N6 := Lib.hid (own_keep N5.out b6)
  have R6 := Lib.hid (R5.out.below b6)
  have Q6 := Lib.hid (Reads.of_own cE_len o6)
  obtain ⟨A6, c6, hv6⟩ := own_form o6
  simp only [List.length_cons, List.length_nil, Nat.zero_add, Nat.reduceAdd] at hv6
  subst hv6
  have x6 : w6.cell? ⟨g3, 1, none⟩ = some (.int .i64 1) := N6.out.cellAt 1 (by decide)
  have S6 := Lib.hid (stage_any w6 _ [eZ, eY] 2 R6.out (by decide))
  rw [kq_stage] at S6
  clear D5 o6 b6 B5 O5 N5 R5
  go_wp2_with fail
  refine S6.out.mono ?_
  rintro e w7 ⟨v7, rfl, o7, b7⟩
  have B7 := Lib.hid (B6.out.trans (b7.mono B6.out.size))
  have O7 := Lib.hid (own_keep O6.out b7)
  have R7 := Lib.hid (R6.out.below b7)
  have Q7 := Lib.hid (Q6.out.below b7)
  obtain ⟨A7, c7, hv7⟩ := own_form o7
  simp only [List.length_cons, List.length_nil, Nat.zero_add] at hv7
  subst hv7
  have M7 := Lib.hid (sameE_any w7 (.slice A6 2 c6) (.slice (some ⟨g3, 0, none⟩) 2 k3) [eZ, eY] [eZ, eY] Q7.out R7.out)
  clear S6 o7 b7 B6 O6 N6 R6 Q6 x6
  go_wp2_with fail
  refine M7.out.mono ?_
  rintro e w8 ⟨he, b8⟩
  rw [kq_same] at he
  subst he
  have B8 := Lib.hid (B7.out.trans (b8.mono B7.out.size))
  have O8 := Lib.hid (own_keep O7.out b8)
  have R8 := Lib.hid (R7.out.below b8)
  have D8 := Lib.hid (drop_any w8 _ [eZ, eY] ⟨#[97]⟩ R8.out kq_sized.paths (by decide))
  rw [kq_drop] at D8
  clear M7 b8 B7 O7 R7 Q7
  go_wp2_with fail
  refine D8.out.mono ?_
  rintro e w9 ⟨v9, rfl, r9, b9, _⟩
  have B9 := Lib.hid (B8.out.trans (b9.mono B8.out.size))
  have O9 := Lib.hid (own_keep O8.out b9)
  have R9 := Lib.hid (R8.out.below b9)
  obtain ⟨A9, c9, rfl⟩ := r9.form
  have C9 := Lib.hid (checkE_any w9 _ [eZ, eY] R9.out kq_sized (by decide))
  rw [kq_chk] at C9
  clear D8 r9 b9 B8 O8 R8
  go_wp2_with fail
  refine C9.out.mono ?_
  rintro e w10 h10
  obtain ⟨rfl, b10⟩ : e = .returned .nilIface ∧ Below w9.heap.size w9 w10 := by
    rcases h10 with ⟨_, he, hb⟩ | ⟨i, k, F, ho, _⟩
    · exact ⟨he, hb⟩
    · cases ho
  have B10 := Lib.hid (B9.out.trans (b10.mono B9.out.size))
  have O10 := own_keep O9.out b10
  have R10 := Lib.hid (R9.out.below b10)
  have z0 : w10.cell? ⟨g1, 0, none⟩ = some (.string ⟨#[97]⟩) := O10.cellAt 0 (by decide)
  have z1 : w10.cell? ⟨g1, 1, none⟩ = some (.int .i64 0) := O10.cellAt 1 (by decide)
  have z2 : w10.cell? ⟨g1, 2, none⟩ = some (.int .i64 1) := O10.cellAt 2 (by decide)
  have z3 : w10.cell? ⟨g1, 3, none⟩ = some (.string ⟨#[120]⟩) := O10.cellAt 3 (by decide)
  have z4 : w10.cell? ⟨g1, 4, none⟩ = some (.int .i64 0) := O10.cellAt 4 (by decide)
  have z5 : w10.cell? ⟨g1, 5, none⟩ = some (.int .i64 0) := O10.cellAt 5 (by decide)
  have P10 := Lib.hid (put_is w10 _ [eZ, eY] eX R10.out kq_rise3 kq_sized.paths (by decide) (by decide))
  clear C9 h10 b10 B9 O9 R9 O10
  go_wp2_with fail
  refine P10.out.mono ?_
  rintro e w11 ⟨v11, rfl, o11, b11, _, _⟩
  rw [kq_put3] at o11
  have B11 := Lib.hid (B10.out.trans (b11.mono B10.out.size))
  obtain ⟨A11, c11, hv11⟩ := own_form o11
  simp only [List.length_cons, List.length_nil, Nat.zero_add] at hv11
  subst hv11
  clear P10 o11 b11 B10 R10
  go_wp2_with fail
  go_ret
  exact ⟨rfl, B11.out⟩
end Go.Proofs.YtplleaimmmanhaaDoor
namespace Go.Proofs.YtplleaimmmanhaaDoor
open Go Go.RowKit

def sE (s : Int) (d : ByteArray) : En := (⟨#[97]⟩, s, 1, d, 0, 0)
def e00 : En := (⟨#[97]⟩, 0, 1, ⟨#[48]⟩, 0, 0)
def eFin : En := (⟨#[97]⟩, 0, 2, ⟨#[49]⟩, 0, 0)
def bitM (m k : Nat) : Bool := decide (m / 2 ^ k % 2 = 1)
/-- The stages below k that are chosen. -/
def chs (m : Nat) : Nat → List Int
  | 0 => []
  | k + 1 => chs m k ++ (if 1 ≤ k ∧ bitM m k = true then [(k : Int)] else [])
def lst (m : Nat) (d : ByteArray) (k : Nat) : List En := if chs m k = [] then [e00] else (chs m k).map fun s => sE s d
theorem chs_in (m : Nat) : ∀ (k : Nat) (x : Int), x ∈ chs m k → 1 ≤ x ∧ x < k
  | 0, x, h => by simp [chs] at h
  | k + 1, x, h => by
    rcases List.mem_append.1 h with h | h
    · have := chs_in m k x h; omega
    · split at h
      · rename_i hk
        rw [List.mem_singleton.1 h]; omega
      · simp at h
theorem chs_up (m : Nat) : ∀ k : Nat, (chs m k).Pairwise (· < ·)
  | 0 => List.Pairwise.nil
  | k + 1 => by
    refine List.pairwise_append.2 ⟨chs_up m k, ?_, fun a ha b hb => ?_⟩
    · split
      · exact List.pairwise_singleton _ _
      · exact List.Pairwise.nil
    · split at hb
      · rw [List.mem_singleton.1 hb]; exact (chs_in m k a ha).2
      · simp at hb
theorem chs_len (m : Nat) : ∀ k : Nat, (chs m k).length ≤ k
  | 0 => Nat.le_refl _
  | k + 1 => by
    have := chs_len m k
    show (chs m k ++ _).length ≤ _
    rw [List.length_append]
    split
    · simp; omega
    · simp; omega
theorem ec_same {x y : En} (h : x.1 = y.1) : ec x y = ci x.2.1 y.2.1 := by
  unfold ec
  rw [h, cb_self]; simp
theorem cls_a : cls [97] [97] = false := by decide
theorem exB_a {e x : En} (he : e.1 = ⟨#[97]⟩) (hx : x.1 = ⟨#[97]⟩) : exB e x = (decide (x.2.1 = e.2.1) || (decide (x.2.1 = 0) || decide (e.2.1 = 0))) := by
  unfold exB
  rw [he, hx]; simp
theorem gone_a {e x : En} (he : e.1 = ⟨#[97]⟩) (hx : x.1 = ⟨#[97]⟩) : goneB e x = (decide (x.2.1 = e.2.1) || (decide (x.2.1 = 0) || decide (e.2.1 = 0))) := by
  unfold goneB
  rw [exB_a he hx, he, hx]
  show (_ || cls [97] [97]) = _
  rw [cls_a, Bool.or_false]
theorem put_late {a : List Int} {d : ByteArray} {k : Int} (hk : 1 ≤ k) (h : ∀ x ∈ a, 1 ≤ x ∧ x < k) : putL (a.map fun s => sE s d) (sE k d) = (a.map fun s => sE s d) ++ [sE k d] := by
  have hkeep : keepE (a.map fun s => sE s d) (sE k d) = a.map fun s => sE s d := List.filter_eq_self.2 fun x hx => by
    obtain ⟨y, hy, rfl⟩ := List.mem_map.1 hx
    have := h y hy
    rw [gone_a rfl rfl]
    show (!(decide (y = k) || (decide (y = 0) || decide (k = 0)))) = true
    rw [decide_eq_false (by omega), decide_eq_false (by omega), decide_eq_false (by omega)]; rfl
  have hlt : ∀ x ∈ (a.map fun s => sE s d), ec x (sE k d) < 0 := fun x hx => by
    obtain ⟨y, hy, rfl⟩ := List.mem_map.1 hx
    rw [ec_same (x := sE y d) (y := sE k d) rfl]
    exact ci_neg.2 (h y hy).2
  unfold putL
  rw [hkeep, List.filter_eq_self.2 fun x hx => decide_eq_true (hlt x hx), List.filter_eq_nil_iff.2 fun x hx => by simpa using hlt x hx]
theorem put_first {d : ByteArray} {k : Int} : putL [e00] (sE k d) = [sE k d] := by
  have hkeep : keepE [e00] (sE k d) = [] := List.filter_eq_nil_iff.2 fun x hx => by
    rw [List.mem_singleton.1 hx, gone_a rfl rfl]
    simp [e00]
  unfold putL
  rw [hkeep]; rfl
theorem put_fin {a : List En} (h : ∀ x ∈ a, x.1 = ⟨#[97]⟩) : putL a eFin = [eFin] := by
  have hkeep : keepE a eFin = [] := List.filter_eq_nil_iff.2 fun x hx => by
    rw [gone_a rfl (h x hx)]
    simp [eFin]
  unfold putL
  rw [hkeep]; rfl
theorem put_nil : putL [] e00 = [e00] := by decide
theorem chs_one (m : Nat) : chs m 1 = [] := by
  show [] ++ (if 1 ≤ 0 ∧ bitM m 0 = true then [((0 : Nat) : Int)] else []) = []
  rw [if_neg (fun h => absurd h.1 (by decide))]; rfl
theorem lst_one (m : Nat) (d : ByteArray) : lst m d 1 = [e00] := by
  unfold lst
  rw [if_pos (chs_one m)]
theorem lst_put {m k : Nat} {d : ByteArray} (hk : 1 ≤ k) (hb : bitM m k = true) : putL (lst m d k) (sE k d) = lst m d (k + 1) := by
  have e : chs m (k + 1) = chs m k ++ [(k : Int)] := by
    show _ ++ (if _ then _ else _) = _
    rw [if_pos ⟨hk, hb⟩]
  have hr : lst m d (k + 1) = (chs m k).map (fun s => sE s d) ++ [sE k d] := by
    unfold lst
    rw [e, if_neg (by simp), List.map_append]; rfl
  rw [hr]
  unfold lst
  split
  · rename_i h0
    rw [h0, put_first]; rfl
  · exact put_late (by omega) fun x hx => chs_in m k x hx
theorem lst_skip {m k : Nat} {d : ByteArray} (hb : bitM m k = false) : lst m d (k + 1) = lst m d k ∧ chs m (k + 1) = chs m k := by
  have e : chs m (k + 1) = chs m k := by
    show _ ++ (if _ then _ else _) = _
    rw [if_neg (by rw [hb]; simp), List.append_nil]
  exact ⟨by unfold lst; rw [e], e⟩
theorem chs_put {m k : Nat} (hk : 1 ≤ k) (hb : bitM m k = true) : (chs m (k + 1)).length = (chs m k).length + 1 := by
  show (chs m k ++ (if 1 ≤ k ∧ bitM m k = true then [(k : Int)] else [])).length = _
  rw [if_pos ⟨hk, hb⟩, List.length_append]; rfl
theorem lst_path {m k : Nat} {d : ByteArray} : ∀ x ∈ lst m d k, x.1 = ⟨#[97]⟩ := fun x hx => by
  unfold lst at hx
  split at hx
  · rw [List.mem_singleton.1 hx]; rfl
  · obtain ⟨y, _, rfl⟩ := List.mem_map.1 hx; rfl
theorem lst_sized {m k : Nat} {d : ByteArray} (hd : d.size ≤ 300) : SizedDE (lst m d k) := fun x hx => by
  unfold lst at hx
  split at hx
  · rw [List.mem_singleton.1 hx]; exact ⟨by decide, by decide⟩
  · obtain ⟨y, _, rfl⟩ := List.mem_map.1 hx
    exact ⟨by show (1 : Nat) ≤ 1000000; decide, by show d.size ≤ 1000000; omega⟩
theorem lst_len {m k : Nat} {d : ByteArray} (hk : k ≤ 4) : (lst m d k).length ≤ 4 := by
  have := chs_len m k
  unfold lst
  split
  · simp
  · rw [List.length_map]; omega
theorem lst_nil {m k : Nat} {d : ByteArray} (h : chs m k = []) : lst m d k = [e00] := if_pos h
theorem lst_some {m k : Nat} {d : ByteArray} (h : chs m k ≠ []) : lst m d k = (chs m k).map fun s => sE s d := if_neg h
theorem st_conf {a : List Int} {d : ByteArray} (h : ∀ x ∈ a, 1 ≤ x ∧ x < 4) (h0 : a ≠ []) : nrm (confE (a.map fun s => sE s d)) = [⟨#[97]⟩] := nrm_of (List.pairwise_singleton _ _) fun s => by
  have hm : ∀ y : ByteArray, y ∈ confE (a.map fun s => sE s d) ↔ y = ⟨#[97]⟩ := fun y => by
    unfold confE
    constructor
    · intro hy
      obtain ⟨x, hx, rfl⟩ := List.mem_map.1 hy
      obtain ⟨z, _, rfl⟩ := List.mem_map.1 (List.mem_filter.1 hx).1
      rfl
    · rintro rfl
      obtain ⟨z, hz⟩ := List.exists_mem_of_ne_nil a h0
      refine List.mem_map.2 ⟨sE z d, List.mem_filter.2 ⟨List.mem_map.2 ⟨z, hz, rfl⟩, ?_⟩, rfl⟩
      have := h z hz
      exact decide_eq_true (by show z ≠ 0; omega)
  rw [hm s, List.mem_singleton]
theorem st_zero {a : List Int} {d : ByteArray} (h : ∀ x ∈ a, 1 ≤ x ∧ x < 4) : stageE (a.map fun s => sE s d) 0 = [] := by
  unfold stageE
  rw [List.filter_eq_nil_iff.2 fun x hx => ?_]
  · rfl
  · obtain ⟨y, hy, rfl⟩ := List.mem_map.1 hx
    have := h y hy
    show ¬ decide (y = 0) = true
    rw [decide_eq_false (by omega)]; simp
theorem own_st {d : ByteArray} {x : Int} (h : 1 ≤ x ∧ x < 4) (hd : d.size ≤ 300) : ownE (sE x d) = 0 := by
  have hc : chk (sE x d).1.data.toList = 0 := by show chk [97] = 0; decide
  have hb : badE (sE x d) = false := by
    show (decide (x < 0) || (decide (3 < x) || (!(decide ((1 : Int) = 1) || decide ((1 : Int) = 2)) || (decide ((0 : Int) < 0) || decide ((0 : Int) < 0))))) = false
    rw [decide_eq_false (by omega), decide_eq_false (by omega)]; decide
  unfold ownE
  rw [hc, hb, if_neg (by simp), if_neg (by simp), if_neg (by show ¬ 4096 < d.size; omega)]
theorem wr_st {a : List Int} {d : ByteArray} {x : Int} (h : ∀ y ∈ a, 1 ≤ y ∧ y < x) (hx : 1 ≤ x ∧ x < 4) (hd : d.size ≤ 300) : wrE (a.map fun s => sE s d) (sE x d) = 0 := by
  rw [wrE_rest (own_st hx hd)]
  have h1 : lateE (a.map fun s => sE s d) (sE x d) = false := by
    unfold lateE
    split
    · rfl
    · rename_i g hg
      obtain ⟨y, hy, rfl⟩ := List.mem_map.1 (List.mem_of_getLast? hg)
      rw [ec_same (x := sE y d) (y := sE x d) rfl]
      have := ci_neg.2 (h y hy).2
      exact decide_eq_false (by show ¬ 0 ≤ ci y x; omega)
  have h2 : (a.map fun s => sE s d).any (exB (sE x d)) = false := List.any_eq_false.2 fun z hz => by
    obtain ⟨y, hy, rfl⟩ := List.mem_map.1 hz
    have := h y hy
    rw [exB_a rfl rfl]
    show ¬ (decide (y = x) || (decide (y = 0) || decide (x = 0))) = true
    rw [decide_eq_false (by omega), decide_eq_false (by omega), decide_eq_false (by omega)]; simp
  have h3 : (a.map fun s => sE s d).any (fun z => cls z.1.data.toList (sE x d).1.data.toList) = false := List.any_eq_false.2 fun z hz => by
    obtain ⟨y, _, rfl⟩ := List.mem_map.1 hz
    show ¬ cls [97] [97] = true
    rw [cls_a]; simp
  rw [h1, h2, h3]; rfl
theorem st_check {a : List Int} {d : ByteArray} (hu : a.Pairwise (· < ·)) (h : ∀ x ∈ a, 1 ≤ x ∧ x < 4) (hl : a.length ≤ 4) (hd : d.size ≤ 300) : chkE (a.map fun s => sE s d) = none :=
  chkE_good (by rw [List.length_map]; omega) fun i f hf => by
    rw [List.getElem?_map] at hf
    obtain ⟨x, hx, rfl⟩ := Option.map_eq_some_iff.1 hf
    rw [← List.map_take]
    refine wr_st (fun y hy => ?_) (h x (List.mem_of_getElem? hx)) hd
    refine ⟨(h y (List.mem_of_mem_take hy)).1, ?_⟩
    obtain ⟨hi, rfl⟩ := List.getElem?_eq_some_iff.1 hx
    obtain ⟨j, hj, rfl⟩ := List.getElem_of_mem hy
    rw [List.length_take] at hj
    rw [List.getElem_take]
    exact List.pairwise_iff_getElem.1 hu j i (by omega) hi (by omega)
theorem fin_conf : nrm (confE [eFin]) = [] := nrm_of List.Pairwise.nil fun s => by
  rw [show confE [eFin] = [] from by decide]
theorem e00_conf : nrm (confE [e00]) = [] := nrm_of List.Pairwise.nil fun s => by
  rw [show confE [e00] = [] from by decide]
theorem e00_stage : stageE [e00] 0 = [(⟨#[97]⟩, 1, ⟨#[48]⟩)] := by decide
theorem bit_and {m x : Nat} (hx : x = m) (h : x < 256) : bits .and .u8 (x : Int) 1 = ((m % 2 : Nat) : Int) := by
  subst hx
  have := bits_mask .u8 8 (by decide) (fun n h0 h1 => by rw [IntKind.wrap_u8']; omega) 1 (by decide) (x : Int) (by omega) (by omega)
  rw [show ((2 : Int) ^ 1 - 1) = 1 from rfl] at this
  rw [this]; omega
end Go.Proofs.YtplleaimmmanhaaDoor
namespace Go.Proofs.YtplleaimmmanhaaDoor
open Go Go.RowKit

theorem conv_is {w : World} {A : Option Addr} {l : List UInt8} (h : BytesAt w A l) (c : Nat) : ∃ s : ByteArray, s.size ≤ l.length ∧ ∀ W, Below w.heap.size w W → (convert 36 9 (.slice A l.length c)).run Tryd.prog W = .ok (.string s) W := by
  cases A with
  | none => exact ⟨ByteArray.empty, Nat.zero_le _, fun W _ => run_convert_bytes_nil W 36 5 Tryd.underlying36 Tryd.underlying5 l.length c 9 Tryd.underlying9⟩
  | some a =>
    refine ⟨⟨l.toArray⟩, Nat.le_refl _, fun W hb => run_convert_bytes_back W 36 9 5 a c l Tryd.underlying36 Tryd.underlying5 Tryd.underlying9 fun j hj => ?_⟩
    have := h a rfl j hj
    rw [hb.cell (World.block_lt_of_cell? _ _ this), this]
    simp [List.getD_eq_getElem?_getD, List.getElem?_eq_getElem hj]

set_option maxRecDepth 100000 in
set_option maxHeartbeats 4000000 in
theorem stages_walk (W : World) (hh : Halves W) (A : Option Addr) (l : List UInt8) (c : Nat) (a : Int) (rd : BytesAt W A l) (rl : l.length ≤ 9223372036854775807) (ba : 0 ≤ a ∧ a ≤ 255) :
    Calls Tryd.prog 6 #[.slice A l.length c, .int .u8 a] W (YesTo W) := by
  have KN := Lib.hid (known15_yes W hh)
  obtain ⟨m, rfl⟩ := Int.eq_ofNat_of_zero_le ba.1
  have hm : m < 256 := by omega
  have l0 : (0 : Int) ≤ (l.length : Int) := Int.natCast_nonneg _
  have RD := Lib.hid rd
  clear hh rd ba
  by_cases hbig : 300 < l.length
  · have h1 : (300 : Int) < (l.length : Int) := by omega
    clear hbig
    go_enter Tryd.func6, Tryd.ntmps6
    go_wp2_with fail
    refine KN.out.mono ?_
    rintro e w1 ⟨rfl, b1⟩
    go_wp2_with fail
    go_ret
    exact ⟨rfl, b1⟩
  have h1 : ¬ (300 : Int) < (l.length : Int) := by omega
  obtain ⟨d, hd, hcv⟩ := conv_is RD.out c
  have HCV := Lib.hid hcv
  have HD : Hid (d.size ≤ 300) := Lib.hid (by omega)
  clear hcv hbig hd
  go_enter Tryd.func6, Tryd.ntmps6
  go_wp2_with fail
  refine KN.out.mono ?_
  rintro e w1 ⟨rfl, b1⟩
  have B1 := Lib.hid b1
  have P1 := Lib.hid (put_is w1 (.slice none 0 0) [] e00 (Reads.nil w1) List.Pairwise.nil (fun x hx => by cases hx) (by decide) (by decide))
  clear b1 KN
  go_wp2_with fail
  refine P1.out.mono ?_
  rintro e w2 ⟨v2, rfl, o2, b2, r2, _⟩
  rw [put_nil] at o2 r2
  rw [← lst_one m d] at o2 r2
  have B2 := Lib.hid (B1.out.trans (b2.mono B1.out.size))
  have O2 := Lib.hid (own_base (B' := W.heap.size) o2 B1.out.size)
  have R2 := Lib.hid r2
  clear P1 o2 b2 r2 B1
  go_wp2_with fail
  go_loopw [5, 6, 7] (fun s5 s6 s7 wr => ∃ k : Nat, 1 ≤ k ∧ k ≤ 4 ∧ s6 = .int .i64 ((chs m k).length : Nat) ∧ s7 = .int .i64 k ∧ Hid (wr.ownsRow W.heap.size 57 6 s5 (lst m d k).length ((lst m d k).flatMap cE)) ∧ Hid (RiseE (lst m d k)) ∧ Hid (Below W.heap.size W wr)) (fun _ _ s7 _ => 4 - (intOf s7).toNat)
  case atStart => exact ⟨1, by decide, by decide, by rw [chs_one]; rfl, rfl, O2, R2, B2⟩
  case round =>
    obtain ⟨k, hk1, hk4, rfl, rfl, hO, hR, hB⟩ := hrel
    have hcl := chs_len m k
    obtain ⟨q, hq⟩ : ∃ q, q = (chs m k).length := ⟨_, rfl⟩
    have HQ := Lib.hid hq
    rw [← hq] at hcl ⊢
    have q0 : (0 : Int) ≤ (q : Int) := Int.natCast_nonneg _
    have q4 : (q : Int) ≤ 4 := by omega
    clear hq
    obtain rfl | rfl | rfl | rfl : k = 1 ∨ k = 2 ∨ k = 3 ∨ k = 4 := by omega
    · by_cases hb : bitM m 1 = true
      · have hbit : bits .and .u8 ((m : Int) / 2) 1 = 1 := by
          have h2 : m / 2 ^ 1 % 2 = 1 := of_decide_eq_true hb
          have := bit_and (m := m / 2) (x := m / 2) rfl (by omega)
          rw [show ((m / 2 : Nat) : Int) = (m : Int) / 2 by omega] at this
          rw [this]
          simp only [Nat.reducePow] at h2
          omega
        have PK := Lib.hid (fun V (hV : Below wr.heap.size wr V) => put_is V _ (lst m d 1) (sE 1 d) ((Reads.of_own cE_len hO.out).below hV) hR.out (lst_sized HD.out).paths (by show (1 : Nat) ≤ 1000000; decide) (by have := lst_len (m := m) (d := d) (k := 1) (by decide); omega))
        have CV := Lib.hid (fun V (hV : Below wr.heap.size wr V) => HCV.out V (hB.out.trans (hV.mono hB.out.size)))
        obtain ⟨A5, c5, rfl⟩ := own_form hO.out
        have cv0 := CV.out wr (Below.refl _ _)
        have HBT := Lib.hid hb
        clear hb
        go_wp2_with fail
        refine (PK.out _ (by first | exact Below.refl _ _ | exact below_drewN (Below.refl _ _) 1)).mono ?_
        rintro e w5 ⟨v5, rfl, o5, b5, r5, _⟩
        rw [show ((1 : Int)) = ((1 : Nat) : Int) from rfl, lst_put (by decide) HBT.out] at o5 r5
        have O5 := Lib.hid (own_base (B' := W.heap.size) o5 (by exact hB.out.size))
        have R5 := Lib.hid r5
        have B5 : Hid (Below W.heap.size W w5) := Lib.hid (hB.out.trans (b5.mono hB.out.size))
        have Q5 : Hid ((chs m 2).length = q + 1) := Lib.hid (by rw [chs_put (by decide) HBT.out, HQ.out])
        obtain ⟨A6, n6, c6, rfl⟩ : ∃ A n c, v5 = .slice A n c := by obtain ⟨A, c, h⟩ := own_form o5; exact ⟨A, _, c, h⟩
        clear PK CV cv0 o5 b5 r5
        go_wp2_with fail
        go_roundw
        case rel => exact ⟨2, by decide, by decide, by rw [Q5.out]; go_num, by first | rfl | go_num, O5, R5, B5⟩
        case measure => simp [intOf]
      · have hb' : bitM m 1 = false := by simpa using hb
        have hbit : bits .and .u8 ((m : Int) / 2) 1 = 0 := by
          have h2 : ¬ m / 2 ^ 1 % 2 = 1 := of_decide_eq_false hb'
          have := bit_and (m := m / 2) (x := m / 2) rfl (by omega)
          rw [show ((m / 2 : Nat) : Int) = (m : Int) / 2 by omega] at this
          rw [this]
          simp only [Nat.reducePow] at h2
          omega
        have SK := Lib.hid (lst_skip (m := m) (k := 1) (d := d) hb')
        clear hb hb'
        go_wp2_with fail
        go_roundw
        case rel => exact ⟨2, by decide, by decide, by rw [SK.out.2, ← HQ.out], by first | rfl | go_num, by rw [SK.out.1]; exact hO, by rw [SK.out.1]; exact hR, hB⟩
        case measure => simp [intOf]
    · by_cases hb : bitM m 2 = true
      · have hbit : bits .and .u8 ((m : Int) / 4) 1 = 1 := by
          have h2 : m / 2 ^ 2 % 2 = 1 := of_decide_eq_true hb
          have := bit_and (m := m / 4) (x := m / 4) rfl (by omega)
          rw [show ((m / 4 : Nat) : Int) = (m : Int) / 4 by omega] at this
          rw [this]
          simp only [Nat.reducePow] at h2
          omega
        have PK := Lib.hid (fun V (hV : Below wr.heap.size wr V) => put_is V _ (lst m d 2) (sE 2 d) ((Reads.of_own cE_len hO.out).below hV) hR.out (lst_sized HD.out).paths (by show (1 : Nat) ≤ 1000000; decide) (by have := lst_len (m := m) (d := d) (k := 2) (by decide); omega))
        have CV := Lib.hid (fun V (hV : Below wr.heap.size wr V) => HCV.out V (hB.out.trans (hV.mono hB.out.size)))
        obtain ⟨A5, c5, rfl⟩ := own_form hO.out
        have cv0 := CV.out wr (Below.refl _ _)
        have HBT := Lib.hid hb
        clear hb
        go_wp2_with fail
        refine (PK.out _ (by first | exact Below.refl _ _ | exact below_drewN (Below.refl _ _) 1)).mono ?_
        rintro e w5 ⟨v5, rfl, o5, b5, r5, _⟩
        rw [show ((2 : Int)) = ((2 : Nat) : Int) from rfl, lst_put (by decide) HBT.out] at o5 r5
        have O5 := Lib.hid (own_base (B' := W.heap.size) o5 (by exact hB.out.size))
        have R5 := Lib.hid r5
        have B5 : Hid (Below W.heap.size W w5) := Lib.hid (hB.out.trans (b5.mono hB.out.size))
        have Q5 : Hid ((chs m 3).length = q + 1) := Lib.hid (by rw [chs_put (by decide) HBT.out, HQ.out])
        obtain ⟨A6, n6, c6, rfl⟩ : ∃ A n c, v5 = .slice A n c := by obtain ⟨A, c, h⟩ := own_form o5; exact ⟨A, _, c, h⟩
        clear PK CV cv0 o5 b5 r5
        go_wp2_with fail
        go_roundw
        case rel => exact ⟨3, by decide, by decide, by rw [Q5.out]; go_num, by first | rfl | go_num, O5, R5, B5⟩
        case measure => simp [intOf]
      · have hb' : bitM m 2 = false := by simpa using hb
        have hbit : bits .and .u8 ((m : Int) / 4) 1 = 0 := by
          have h2 : ¬ m / 2 ^ 2 % 2 = 1 := of_decide_eq_false hb'
          have := bit_and (m := m / 4) (x := m / 4) rfl (by omega)
          rw [show ((m / 4 : Nat) : Int) = (m : Int) / 4 by omega] at this
          rw [this]
          simp only [Nat.reducePow] at h2
          omega
        have SK := Lib.hid (lst_skip (m := m) (k := 2) (d := d) hb')
        clear hb hb'
        go_wp2_with fail
        go_roundw
        case rel => exact ⟨3, by decide, by decide, by rw [SK.out.2, ← HQ.out], by first | rfl | go_num, by rw [SK.out.1]; exact hO, by rw [SK.out.1]; exact hR, hB⟩
        case measure => simp [intOf]
    · by_cases hb : bitM m 3 = true
      · have hbit : bits .and .u8 ((m : Int) / 8) 1 = 1 := by
          have h2 : m / 2 ^ 3 % 2 = 1 := of_decide_eq_true hb
          have := bit_and (m := m / 8) (x := m / 8) rfl (by omega)
          rw [show ((m / 8 : Nat) : Int) = (m : Int) / 8 by omega] at this
          rw [this]
          simp only [Nat.reducePow] at h2
          omega
        have PK := Lib.hid (fun V (hV : Below wr.heap.size wr V) => put_is V _ (lst m d 3) (sE 3 d) ((Reads.of_own cE_len hO.out).below hV) hR.out (lst_sized HD.out).paths (by show (1 : Nat) ≤ 1000000; decide) (by have := lst_len (m := m) (d := d) (k := 3) (by decide); omega))
        have CV := Lib.hid (fun V (hV : Below wr.heap.size wr V) => HCV.out V (hB.out.trans (hV.mono hB.out.size)))
        obtain ⟨A5, c5, rfl⟩ := own_form hO.out
        have cv0 := CV.out wr (Below.refl _ _)
        have HBT := Lib.hid hb
        clear hb
        go_wp2_with fail
        refine (PK.out _ (by first | exact Below.refl _ _ | exact below_drewN (Below.refl _ _) 1)).mono ?_
        rintro e w5 ⟨v5, rfl, o5, b5, r5, _⟩
        rw [show ((3 : Int)) = ((3 : Nat) : Int) from rfl, lst_put (by decide) HBT.out] at o5 r5
        have O5 := Lib.hid (own_base (B' := W.heap.size) o5 (by exact hB.out.size))
        have R5 := Lib.hid r5
        have B5 : Hid (Below W.heap.size W w5) := Lib.hid (hB.out.trans (b5.mono hB.out.size))
        have Q5 : Hid ((chs m 4).length = q + 1) := Lib.hid (by rw [chs_put (by decide) HBT.out, HQ.out])
        obtain ⟨A6, n6, c6, rfl⟩ : ∃ A n c, v5 = .slice A n c := by obtain ⟨A, c, h⟩ := own_form o5; exact ⟨A, _, c, h⟩
        clear PK CV cv0 o5 b5 r5
        go_wp2_with fail
        go_roundw
        case rel => exact ⟨4, by decide, by decide, by rw [Q5.out]; go_num, by first | rfl | go_num, O5, R5, B5⟩
        case measure => simp [intOf]
      · have hb' : bitM m 3 = false := by simpa using hb
        have hbit : bits .and .u8 ((m : Int) / 8) 1 = 0 := by
          have h2 : ¬ m / 2 ^ 3 % 2 = 1 := of_decide_eq_false hb'
          have := bit_and (m := m / 8) (x := m / 8) rfl (by omega)
          rw [show ((m / 8 : Nat) : Int) = (m : Int) / 8 by omega] at this
          rw [this]
          simp only [Nat.reducePow] at h2
          omega
        have SK := Lib.hid (lst_skip (m := m) (k := 3) (d := d) hb')
        clear hb hb'
        go_wp2_with fail
        go_roundw
        case rel => exact ⟨4, by decide, by decide, by rw [SK.out.2, ← HQ.out], by first | rfl | go_num, by rw [SK.out.1]; exact hO, by rw [SK.out.1]; exact hR, hB⟩
        case measure => simp [intOf]
    · obtain ⟨A8, c8, rfl⟩ := own_form hO.out
      have R8 := Lib.hid (Reads.of_own cE_len hO.out)
      have L8 := Lib.hid (lst_len (m := m) (d := d) (k := 4) (by decide))
      have C8 := Lib.hid (conflicts_any wr _ _ R8.out (by have := L8.out; omega))
      by_cases he : chs m 4 = []
      · have hq0 : q = 0 := by rw [HQ.out, he]; rfl
        subst hq0
        rw [lst_nil he] at C8 R8 ⊢
        rw [e00_conf] at C8
        have HB := hB
        have RV := R8
        clear he hO hR hB R8 HQ
        go_wp2_with fail
        refine C8.out.mono ?_
        rintro e w5 ⟨v5, rfl, o5, b5⟩
        have S5 := Lib.hid (stage_any w5 _ [e00] 0 (RV.out.below b5) (by decide))
        rw [e00_stage] at S5
        have B5 := Lib.hid (HB.out.trans (b5.mono HB.out.size))
        obtain ⟨A5, c5, hv5⟩ := own_form o5
        simp only [List.length_nil] at hv5
        subst hv5
        clear C8 o5 b5
        go_wp2_with fail
        refine S5.out.mono ?_
        rintro e w6 ⟨v6, rfl, o6, b6⟩
        have B6 := Lib.hid (B5.out.trans (b6.mono B5.out.size))
        obtain ⟨A6, c6, hv6⟩ := own_form o6
        simp only [List.length_cons, List.length_nil, Nat.zero_add] at hv6
        subst hv6
        clear S5 o6 b6 B5
        go_wp2_with fail
        go_ret
        exact ⟨rfl, B6.out⟩
      · have CIN := Lib.hid (fun x (hx : x ∈ chs m 4) => (show 1 ≤ x ∧ x < 4 from by have := chs_in m 4 x hx; omega))
        have hqp : 0 < q := by rw [HQ.out]; exact List.length_pos_iff.2 he
        have HL : Hid ((lst m d 4).length = q) := Lib.hid (by rw [lst_some he, List.length_map, HQ.out])
        have HCF : Hid (nrm (confE (lst m d 4)) = [⟨#[97]⟩]) := Lib.hid (by rw [lst_some he]; exact st_conf CIN.out he)
        have HST : Hid (stageE (lst m d 4) 0 = []) := Lib.hid (by rw [lst_some he]; exact st_zero CIN.out)
        have HCK : Hid (chkE (lst m d 4) = none) := Lib.hid (by rw [lst_some he]; exact st_check (chs_up m 4) CIN.out (by have := HQ.out; omega) HD.out)
        have HPF : Hid (putL (lst m d 4) eFin = [eFin]) := Lib.hid (put_fin lst_path)
        have HSZ : Hid (SizedDE (lst m d 4)) := Lib.hid (lst_sized HD.out)
        obtain ⟨L, hL⟩ : ∃ L, L = lst m d 4 := ⟨_, rfl⟩
        rw [← hL] at HL HCF HST HCK HPF HSZ C8 R8 L8 hR
        rw [← hL]
        rw [HCF.out] at C8
        have hLl : L.length ≤ 4 := L8.out
        have hqe : L.length = q := HL.out
        have HB := hB
        rw [hqe]
        rw [hqe] at C8 R8
        clear he hL hO hB HQ HCV CIN hqe
        have hq1 : ¬ (q : Int) = 0 := by omega
        go_wp2_with fail
        refine C8.out.mono ?_
        rintro e w5 ⟨v5, rfl, o5, b5⟩
        have R5 := Lib.hid (R8.out.below b5)
        have S5 := Lib.hid (stage_any w5 _ L 0 R5.out (by omega))
        rw [HST.out] at S5
        have B5 := Lib.hid (HB.out.trans (b5.mono HB.out.size))
        obtain ⟨A5, c5, hv5⟩ := own_form o5
        simp only [List.length_cons, List.length_nil, Nat.zero_add] at hv5
        subst hv5
        clear C8 o5 b5 R8
        go_wp2_with fail
        refine S5.out.mono ?_
        rintro e w6 ⟨v6, rfl, o6, b6⟩
        have R6 := Lib.hid (R5.out.below b6)
        have B6 := Lib.hid (B5.out.trans (b6.mono B5.out.size))
        obtain ⟨A6, c6, hv6⟩ := own_form o6
        simp only [List.length_nil] at hv6
        subst hv6
        have K6 := Lib.hid (checkE_any w6 _ L R6.out HSZ.out (by omega))
        rw [HCK.out] at K6
        clear S5 o6 b6 B5 R5
        go_wp2_with fail
        refine K6.out.mono ?_
        rintro e w7 h7
        obtain ⟨rfl, b7⟩ : e = .returned .nilIface ∧ Below w6.heap.size w6 w7 := by
          rcases h7 with ⟨_, he, hb⟩ | ⟨i, k, F, ho, _⟩
          · exact ⟨he, hb⟩
          · cases ho
        have R7 := Lib.hid (R6.out.below b7)
        have B7 := Lib.hid (B6.out.trans (b7.mono B6.out.size))
        have P7 := Lib.hid (put_is w7 _ L eFin R7.out hR.out HSZ.out.paths (by decide) (by omega))
        clear K6 h7 b7 R6 B6
        go_wp2_with fail
        refine P7.out.mono ?_
        rintro e w8 ⟨v8, rfl, o8, b8, _, _⟩
        rw [HPF.out] at o8
        have B8 := Lib.hid (B7.out.trans (b8.mono B7.out.size))
        have R8 := Lib.hid (Reads.of_own cE_len o8)
        obtain ⟨g8, k8, rfl, hk8, hm8, hg8⟩ := own_first o8 (by decide)
        have x1 : w8.cell? ⟨g8, 1, none⟩ = some (.int .i64 0) := o8.cellAt 1 (by decide)
        have x3 : w8.cell? ⟨g8, 3, none⟩ = some (.string ⟨#[49]⟩) := o8.cellAt 3 (by decide)
        have C9 := Lib.hid (conflicts_any w8 _ [eFin] R8.out (by decide))
        rw [fin_conf] at C9
        clear P7 o8 b8 B7 R7
        go_wp2_with fail
        refine C9.out.mono ?_
        rintro e w9 ⟨v9, rfl, o9, b9⟩
        have B9 := Lib.hid (B8.out.trans (b9.mono B8.out.size))
        obtain ⟨A9, c9, hv9⟩ := own_form o9
        simp only [List.length_nil] at hv9
        subst hv9
        clear C9 o9 b9 B8
        go_wp2_with fail
        go_ret
        exact ⟨rfl, B9.out⟩
end Go.Proofs.YtplleaimmmanhaaDoor
