/-
  patch.turned, patch.Turned, of hunks without a line that is kept.
-/
import Derived.Test.YtdpoeagmeiedcaaDoorP11
namespace Go.Proofs.YtdpoeagmeiedcaaDoor
open Go Go.RowKit

/-- What was added ahead, deleted now; what was deleted behind it, added now. -/
def turnO (l : List EdI) : List EdI := l.flatMap fun e => if e.1 = 3 then [(2, e.2)] else []
def turnA (l : List EdI) : List EdI := l.flatMap fun e => if e.1 = 3 then [] else [(3, e.2)]
theorem turnO_snoc (l : List EdI) (e : EdI) : turnO (l ++ [e]) = turnO l ++ if e.1 = 3 then [(2, e.2)] else [] := by unfold turnO; rw [List.flatMap_append]; simp
theorem turnA_snoc (l : List EdI) (e : EdI) : turnA (l ++ [e]) = turnA l ++ if e.1 = 3 then [] else [(3, e.2)] := by unfold turnA; rw [List.flatMap_append]; simp
theorem turnO_le (l : List EdI) : (turnO l).length ≤ l.length := by
  induction l with
  | nil => simp [turnO]
  | cons e l ih =>
    unfold turnO at ih ⊢
    rw [List.flatMap_cons, List.length_append, List.length_cons]
    have : (if e.1 = 3 then [((2 : Int), e.2)] else []).length ≤ 1 := by split <;> simp
    omega
theorem turnA_le (l : List EdI) : (turnA l).length ≤ l.length := by
  induction l with
  | nil => simp [turnA]
  | cons e l ih =>
    unfold turnA at ih ⊢
    rw [List.flatMap_cons, List.length_append, List.length_cons]
    have : (if e.1 = 3 then [] else [((3 : Int), e.2)]).length ≤ 1 := by split <;> simp
    omega

set_option maxRecDepth 100000 in
set_option maxHeartbeats 4000000 in
theorem turned_any (w : World) (v : Value) (l : List EdI) (h : Reads 2 cEd w v l) (hl : l.length ≤ 1000) (hops : ∀ e ∈ l, e.1 = 2 ∨ e.1 = 3) :
    Calls Tryd.prog 56 #[v] w (OwnTo 66 2 cEd (turnO l ++ turnA l) w) := by
  obtain ⟨A, c, rfl⟩ := h.form
  have hnm : c ≤ 9223372036854775807 := by have := h.len.2.2; unfold maxLen at this; omega
  have HO := Lib.hid h
  have HP := Lib.hid hops
  obtain ⟨i0, hi, hz0, hz1, hz2⟩ := info_parts editInfo
  clear h hops
  go_enter Tryd.func56, Tryd.ntmps56
  go_wp2_with fail
  go_loopw [3, 4, 9] (fun s3 s4 s9 wr => ∃ k : Nat, k ≤ l.length ∧ s9 = .int .i64 k ∧ Hid (wr.ownsRow w.heap.size 66 2 s3 (turnO (l.take k)).length ((turnO (l.take k)).flatMap cEd)) ∧ Hid (wr.ownsRow w.heap.size 66 2 s4 (turnA (l.take k)).length ((turnA (l.take k)).flatMap cEd)) ∧
    Hid (∀ g, s3.ownBlock = some g → s4.ownBlock ≠ some g) ∧ Hid (Below w.heap.size w wr)) (fun _ _ s9 _ => l.length - (intOf s9).toNat)
  case atStart => exact ⟨0, Nat.zero_le _, rfl, Lib.hid (World.ownsRow_nil _ _ _ _), Lib.hid (World.ownsRow_nil _ _ _ _), Lib.hid (fun g hg => by cases hg), Lib.hid (Below.refl _ _)⟩
  case round =>
    obtain ⟨k, hk, rfl, ho, ha, hne, hb⟩ := hrel
    have k0 : (0 : Int) ≤ (k : Int) := Int.natCast_nonneg _
    have t1 := turnO_le (l.take k)
    have t2 := turnA_le (l.take k)
    have t3 := List.length_take_le k l
    obtain ⟨A3, c3, rfl⟩ := own_formP ho.out
    obtain ⟨A4, c4, rfl⟩ := own_formP ha.out
    by_cases hlt : k < l.length
    · have k1 : (k : Int) < (l.length : Int) := by omega
      obtain ⟨x, hx⟩ : ∃ x, l[k]? = some x := ⟨_, List.getElem?_eq_getElem hlt⟩
      obtain ⟨ad, rfl, c0, c1⟩ := Eds.at_ (HO.out.below hb.out) hx
      have hop := HP.out x (List.mem_of_getElem? hx)
      have TO := Lib.hid (turnO_snoc (l.take k) x)
      have TA := Lib.hid (turnA_snoc (l.take k) x)
      rw [← take_snocP hx] at TO TA
      obtain ⟨o, s⟩ := x
      simp only at hop
      have hbE := hb.out.alloc hb.out.size (.cells #[.int .i64 o, .string s] 66)
      have hoE := ho.out.alloc (.cells #[.int .i64 o, .string s] 66)
      have haE := ha.out.alloc (.cells #[.int .i64 o, .string s] 66)
      have kE := Blk.new wr 66 #[.int .i64 o, .string s]
      have e1 := kE.cell 1
      have hblt := fun g (hg : (Value.slice A4 (turnA (l.take k)).length c4).ownBlock = some g) => (ha.out.lt g hg).2
      have holt := fun g (hg : (Value.slice A3 (turnO (l.take k)).length c3).ownBlock = some g) => (ho.out.lt g hg).2
      generalize hLO : turnO (l.take k) = LO at *
      generalize hLA : turnA (l.take k) = LA at *
      have HB1 := Lib.hid hblt
      have HB2 := Lib.hid holt
      clear hx hLO hLA hblt holt
      rcases hop with rfl | rfl
      · go_upto_region 11 with fail
        generalize hW : wr.alloc (.cells #[.int .i64 2, .string s] 66) = W at *
        have HSZ : Hid (wr.heap.size < W.heap.size) := Lib.hid (by rw [← hW]; simp)
        clear hW
        have hown4 := haE.alloc (.cells #[.int .i64 3, .string s] 66)
        have hnews := World.news_of_block (cs := #[.int .i64 3, .string s]) (t := 66) (fr := (0, 0)) (heap_alloc_new W (.cells #[.int .i64 3, .string s] 66))
        have hb4 := hbE.alloc hbE.size (.cells #[.int .i64 3, .string s] 66)
        have hsz4 := hb4.size
        have HOE := Lib.hid (hoE.alloc (.cells #[.int .i64 3, .string s] 66))
        have HAE := Lib.hid haE
        go_wp2_with (at_builtin; refine wpList_append_own_at _ rfl (.tmp 31) (.tmp 35) 25 rfl w.heap.size 66 i0 (.agg #[.int .i64 0, .string ⟨#[]⟩]) 2 24 Tryd.underlying25 hi hz0 hz1 hz2 rfl (by decide) _ _ _ rfl hown4 ⟨W.heap.size, 0, none⟩ 1 1 [.int .i64 3, .string s] rfl rfl hnews (by simp [Value.oneCell']) (by unfold maxLen; omega) (by omega) hsz4 ?_; intro v5 w5 hown5 hg5 _ hat5)
        have hb5 : Below w.heap.size w w5 := hb4.grown hg5 hsz4 (fun z hz => (HAE.out.lt z hz).1)
        have ho5 : w5.ownsRow w.heap.size 66 2 (.slice A3 LO.length c3) LO.length (LO.flatMap cEd) := by
          refine HOE.out.kept hg5 ?_
          cases hy : (Value.slice A3 LO.length c3).ownBlock with
          | none => exact .inl rfl
          | some g => exact .inr fun e => hne.out g hy e.symm
        have hn5 : ∀ g, (Value.slice A3 LO.length c3).ownBlock = some g → v5.ownBlock ≠ some g := fun g hg hv => by
          rcases hat5 with h | h
          · exact hne.out g hg (h.symm.trans hv)
          · rw [hv] at h
            have h1 := HB2.out g hg
            have h2 := HSZ.out
            injection h with h
            simp at h
            omega
        have HB5 := Lib.hid hb5
        have HO5 := Lib.hid ho5
        have HN5 := Lib.hid hn5
        have HA5 := Lib.hid hown5
        clear hnews hown4 hg5 hb4 hat5 hb5 ho5 hn5 hown5
        go_roundw
        case rel => exact ⟨k + 1, by omega, by go_num, Lib.hid (by rw [TO.out, if_neg (show ¬ (2 : Int) = 3 by decide), List.append_nil]; exact HO5.out), Lib.hid (by rw [TA.out, if_neg (show ¬ (2 : Int) = 3 by decide), List.length_append, flat_snocP]; exact HA5.out), HN5, HB5⟩
        case measure => simp [intOf]; omega
      · go_upto_region 9 with fail
        generalize hW : wr.alloc (.cells #[.int .i64 3, .string s] 66) = W at *
        have HSZ : Hid (wr.heap.size < W.heap.size) := Lib.hid (by rw [← hW]; simp)
        clear hW
        have hown4 := hoE.alloc (.cells #[.int .i64 2, .string s] 66)
        have hnews := World.news_of_block (cs := #[.int .i64 2, .string s]) (t := 66) (fr := (0, 0)) (heap_alloc_new W (.cells #[.int .i64 2, .string s] 66))
        have hb4 := hbE.alloc hbE.size (.cells #[.int .i64 2, .string s] 66)
        have hsz4 := hb4.size
        have HAE := Lib.hid (haE.alloc (.cells #[.int .i64 2, .string s] 66))
        have HOE := Lib.hid hoE
        go_wp2_with (at_builtin; refine wpList_append_own_at _ rfl (.tmp 23) (.tmp 27) 25 rfl w.heap.size 66 i0 (.agg #[.int .i64 0, .string ⟨#[]⟩]) 2 24 Tryd.underlying25 hi hz0 hz1 hz2 rfl (by decide) _ _ _ rfl hown4 ⟨W.heap.size, 0, none⟩ 1 1 [.int .i64 2, .string s] rfl rfl hnews (by simp [Value.oneCell']) (by unfold maxLen; omega) (by omega) hsz4 ?_; intro v5 w5 hown5 hg5 _ hat5)
        have hb5 : Below w.heap.size w w5 := hb4.grown hg5 hsz4 (fun z hz => (HOE.out.lt z hz).1)
        have ha5 : w5.ownsRow w.heap.size 66 2 (.slice A4 LA.length c4) LA.length (LA.flatMap cEd) := by
          refine HAE.out.kept hg5 ?_
          cases hy : (Value.slice A4 LA.length c4).ownBlock with
          | none => exact .inl rfl
          | some g => exact .inr fun e => hne.out g e.symm hy
        have hn5 : ∀ g, v5.ownBlock = some g → (Value.slice A4 LA.length c4).ownBlock ≠ some g := fun g hg hv => by
          rcases hat5 with h | h
          · exact hne.out g (h.symm.trans hg) hv
          · rw [hg] at h
            have h1 := HB1.out g hv
            have h2 := HSZ.out
            injection h with h
            simp at h
            omega
        have HB5 := Lib.hid hb5
        have HA5 := Lib.hid ha5
        have HN5 := Lib.hid hn5
        have HO5 := Lib.hid hown5
        clear hnews hown4 hg5 hb4 hat5 hb5 ha5 hn5 hown5
        go_roundw
        case rel => exact ⟨k + 1, by omega, by go_num, Lib.hid (by rw [TO.out, if_pos rfl, List.length_append, flat_snocP]; exact HO5.out), Lib.hid (by rw [TA.out, if_pos rfl, List.append_nil]; exact HA5.out), HN5, HB5⟩
        case measure => simp [intOf]; omega
    · obtain rfl : k = l.length := by omega
      rw [List.take_length] at ho ha t1 t2
      rw [List.take_length]
      have HRA := Lib.hid (Reads.of_own cEd_len ha.out)
      have hbs := hb.out.size
      go_wp2_with (at_builtin; refine wpList_append_eds _ rfl (.tmp 38) (.tmp 39) rfl w.heap.size _ (turnO l) (turnA l) rfl ho.out _ _ _ rfl HRA.out (by omega) hbs ?_; intro A5 c5 w5 hown5 hb5 _)
      rw [List.length_append] at hown5
      have HO5 := Lib.hid hown5
      have HB5 := Lib.hid (hb.out.trans hb5)
      clear hown5 hb5
      go_ret
      exact ⟨_, rfl, by rw [List.length_append]; exact HO5.out, HB5.out⟩

/-- Hunks turned. -/
def turnH (h : Hk) : Hk := ⟨h.to_, h.add, h.at_, h.del, turnO h.ls ++ turnA h.ls⟩

set_option maxRecDepth 100000 in
set_option maxHeartbeats 8000000 in
theorem turnedH_any (w : World) (v : Value) (hs : List Hk) (h : HksIn w v hs) (hl : hs.length ≤ 1000) (hll : ∀ x ∈ hs, x.ls.length ≤ 1000 ∧ ∀ e ∈ x.ls, e.1 = 2 ∨ e.1 = 3) :
    Calls Tryd.prog 27 #[v] w (HunksTo 64 66 (hs.map turnH) w) := by
  obtain ⟨A, c, rfl⟩ := h.form
  have hnm : c ≤ 9223372036854775807 := by have := h.len.2.2; unfold maxLen at this; omega
  have hnc := h.len.2.1
  have HH := Lib.hid h
  have HLL := Lib.hid hll
  obtain ⟨i0, hi, hz0, hz1, hz2⟩ := info_parts hunkInfo
  clear h hll
  go_enter Tryd.func27, Tryd.ntmps27
  go_wp2_with fail
  go_loopw [3, 8] (fun s3 s8 wr => ∃ (i : Nat) (vals : List Value), i ≤ hs.length ∧ s8 = .int .i64 i ∧ Hid (wr.ownsRow w.heap.size 64 5 s3 i vals) ∧ Hid (HkV 66 wr w.heap.size vals ((hs.take i).map turnH)) ∧ Hid (Below w.heap.size w wr)) (fun _ s8 _ => hs.length - (intOf s8).toNat)
  case atStart => exact ⟨0, [], Nat.zero_le _, rfl, Lib.hid (World.ownsRow_nil _ _ _ _), Lib.hid rfl, Lib.hid (Below.refl _ _)⟩
  case round =>
    obtain ⟨i, vals, hil, rfl, hown, hv, hb⟩ := hrel
    have i0' : (0 : Int) ≤ (i : Int) := Int.natCast_nonneg _
    by_cases hlt : i < hs.length
    · obtain ⟨x, hx⟩ : ∃ x, hs[i]? = some x := ⟨_, List.getElem?_eq_getElem hlt⟩
      obtain ⟨ad, vl, rfl, c0, c1, c2, c3, c4, hrd⟩ := HH.out.at2 hb.out hx
      obtain ⟨hxl, hxo⟩ := HLL.out x (List.mem_of_getElem? hx)
      have HF := Lib.hid hx
      obtain ⟨at_, del, to_, add, ls⟩ := x
      simp only at c0 c1 c2 c3 hrd hxl hxo
      obtain ⟨Al, cl, rfl⟩ := hrd.form
      have hi1 : (i : Int) < (hs.length : Int) := by omega
      have b1 := hb.out.alloc hb.out.size (.cells #[.int .i64 at_, .int .i64 del, .int .i64 to_, .int .i64 add, .slice Al ls.length cl] 64)
      have O1 := Lib.hid (hown.out.alloc (.cells #[.int .i64 at_, .int .i64 del, .int .i64 to_, .int .i64 add, .slice Al ls.length cl] 64))
      have V1 := Lib.hid (hv.out.keep fun v n xs hr => hr.alloc (.cells #[.int .i64 at_, .int .i64 del, .int .i64 to_, .int .i64 add, .slice Al ls.length cl] 64))
      have KX := Lib.hid (Blk.new wr 64 #[.int .i64 at_, .int .i64 del, .int .i64 to_, .int .i64 add, .slice Al ls.length cl])
      have hOX : u3.ownBlock ≠ some wr.heap.size := fun hg => by have := (hown.out.lt _ hg).2; omega
      obtain ⟨TL, hTL⟩ : ∃ TL, TL = turnO ls ++ turnA ls := ⟨_, rfl⟩
      have T := Lib.hid (fun (w' : World) (hb' : Below w.heap.size w w') => (by rw [hTL]; exact turned_any w' (.slice Al ls.length cl) ls (hrd.below hb') hxl hxo : Calls Tryd.prog 56 #[.slice Al ls.length cl] w' (OwnTo 66 2 cEd TL w')))
      have HTL := Lib.hid hTL
      clear hTL
      have B1 := Lib.hid b1
      clear hx hrd hxl hxo b1 hown hv hb
      go_upto_block 1 with fail
      go_cut [3] (fun x3 wy => ∃ vals2, Hid (wy.ownsRow w.heap.size 64 5 x3 (i + 1) vals2) ∧ Hid (HkV 66 wy w.heap.size vals2 ((hs.take (i + 1)).map turnH)) ∧ Hid (Below w.heap.size w wy))
      case first =>
        go_upto_region 5 with fail
        generalize hW1 : wr.alloc (.cells #[.int .i64 at_, .int .i64 del, .int .i64 to_, .int .i64 add, .slice Al ls.length cl] 64) = W1 at *
        generalize wr.heap.size = X at *
        clear hW1 c0 c1 c2 c3 c4
        have z0 : W1.drew.cell? ⟨X, 0, none⟩ = some (.int .i64 at_) ∧ W1.drew.cell? ⟨X, 1, none⟩ = some (.int .i64 del) ∧ W1.drew.cell? ⟨X, 2, none⟩ = some (.int .i64 to_) ∧ W1.drew.cell? ⟨X, 3, none⟩ = some (.int .i64 add) ∧ W1.drew.cell? ⟨X, 4, none⟩ = some (.slice Al ls.length cl) := ⟨KX.out.cell 0, KX.out.cell 1, KX.out.cell 2, KX.out.cell 3, KX.out.cell 4⟩
        have KXd : Hid (Blk W1.drew X 64 #[.int .i64 at_, .int .i64 del, .int .i64 to_, .int .i64 add, .slice Al ls.length cl]) := Lib.hid KX.out
        have ZZ := Lib.hid (fun (w' : World) (k : Blk w' X 64 #[.int .i64 at_, .int .i64 del, .int .i64 to_, .int .i64 add, .slice Al ls.length cl]) => (show w'.cell? ⟨X, 0, none⟩ = some (.int .i64 at_) ∧ w'.cell? ⟨X, 1, none⟩ = some (.int .i64 del) ∧ w'.cell? ⟨X, 2, none⟩ = some (.int .i64 to_) ∧ w'.cell? ⟨X, 3, none⟩ = some (.int .i64 add) ∧ w'.cell? ⟨X, 4, none⟩ = some (.slice Al ls.length cl) from ⟨k.cell 0, k.cell 1, k.cell 2, k.cell 3, k.cell 4⟩))
        have HB := Lib.hid (fun (w' : World) (b' : Below W1.drew.heap.size W1.drew w') => B1.out.drew.trans (b'.mono B1.out.drew.size))
        go_region_held3 (fun w' => w'.cell? ⟨X, 0, none⟩ = some (.int .i64 at_) ∧ w'.cell? ⟨X, 1, none⟩ = some (.int .i64 del) ∧ w'.cell? ⟨X, 2, none⟩ = some (.int .i64 to_) ∧ w'.cell? ⟨X, 3, none⟩ = some (.int .i64 add) ∧ w'.cell? ⟨X, 4, none⟩ = some (.slice Al ls.length cl)) (first | exact z0 | exact z6 | exact ZZ.out _ (KX6.alloc _) | exact z7) (first
          | (refine step_append_lies _ (by rfl) _ _ 50 (by rfl) w.heap.size 64 i0 (.agg #[.int .i64 0, .int .i64 0, .int .i64 0, .int .i64 0, .slice none 0 0]) 5 56 Tryd.underlying50 hi hz0 hz1 hz2 rfl (by omega) _ i vals (by rfl) (hown6.alloc _) ⟨w6.heap.size, 0, none⟩ 1 1 [.int .i64 to_, .int .i64 add, .int .i64 at_, .int .i64 del, .slice A6 TL.length c6] (by rfl) (by rfl) (World.news_of_block (cs := #[.int .i64 to_, .int .i64 add, .int .i64 at_, .int .i64 del, .slice A6 TL.length c6]) (t := 64) (fr := (0, 0)) (heap_alloc_new w6 _)) (by simp [Value.oneCell']) (by omega) (by unfold maxLen; omega) (by omega) (by simp; omega) (w6.heap.size + 1) (by simp) ?_; intro gg cap w7 hown7 hg7 hat hlt7; have d7 := (d6.alloc d6.size (.cells #[.int .i64 to_, .int .i64 add, .int .i64 at_, .int .i64 del, .slice A6 TL.length c6] 64)).grown hg7 (by simp; omega) (fun z hz => (hown6.lt z hz).1); have z7 := ZZ.out _ ((KX6.alloc _).grown hg7 (fun e => hOX e.symm)))
          | (go_at_call 56; (with_reducible refine (T.out W1.drew B1.out.drew).mono ?_); rintro e w6 ⟨v6, rfl, o6, b6⟩; have d6 := HB.out _ b6; have KX6 := KXd.out.below b6 KXd.out.lt; have z6 := ZZ.out _ KX6; have hown6 := own2_keep O1.out.drew b6; have hws6 := d6.size; obtain ⟨A6, c6, rfl⟩ := own_formP o6))
        all_goals
          go_wp2_with fail
          go_meet
          exact ⟨vals ++ [.int .i64 to_, .int .i64 add, .int .i64 at_, .int .i64 del, .slice A6 TL.length c6], Lib.hid hown7, Lib.hid (by
            rw [take_snocP HF.out, List.map_append]
            show HkV 66 w7 w.heap.size _ (List.map turnH (hs.take i) ++ [⟨to_, add, at_, del, turnO ls ++ turnA ls⟩])
            rw [← HTL.out]
            exact HkV.snoc (h := ⟨to_, add, at_, del, TL⟩) (kept_ne ((own2_le o6 B1.out.drew.size).alloc _) (hown6.alloc _) (by decide) hg7) (V1.out.keep fun v n xs hr => kept_ne ((own2_keep hr.drew b6).alloc _) (hown6.alloc _) (by decide) hg7)), Lib.hid d7⟩
      case rest =>
        obtain ⟨vals2, h1, h2, h3⟩ := hcut
        go_wp2
        go_roundw
        case rel => exact ⟨i + 1, vals2, by omega, by go_num, h1, h2, h3⟩
        case measure => simp [intOf]; omega
    · obtain rfl : i = hs.length := by omega
      have HL : Hid (hs.take hs.length = hs) := Lib.hid (by rw [List.take_length])
      go_wp2
      go_ret
      exact ⟨_, vals, rfl, by rw [List.length_map]; exact hown.out, by rw [HL.out] at hv; exact hv.out, hb.out⟩
end Go.Proofs.YtdpoeagmeiedcaaDoor
