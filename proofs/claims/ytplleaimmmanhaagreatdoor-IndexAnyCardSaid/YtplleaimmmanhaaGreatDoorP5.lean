/-
  rectolaw15.Of: entries as the document's.
  rectoref14.Drop: the entries without a path's.
  (Entry).still.
  index.Same's closure.
  index.Same.
  index.Put as one function of the entries.
  rectoref14.before, rectoref14.PutEntry: the document's entries with one more, as the program's.
  Entries that may be, and stay so where one is put and dropped.
  rectolaw15.All: are the program's entries the document's, with all they have?
  rectolaw15.Few.
  The sum of bytes (CRC-32) by halves of a byte; bytes sealed.
  seal.Sum of one row of bytes.
-/
import Derived.Test.YtplleaimmmanhaaGreatDoorP1
import Derived.Test.YtplleaimmmanhaaGreatDoorP3
import Derived.Test.YtplleaimmmanhaaGreatDoorP4
import Derived.Test.YtplleaimmmanhaaGreatDoorP2
import Derived.Laws.BitsAllLaws
namespace Go.Proofs.YtplleaimmmanhaaGreatDoor
open Go Go.RowKit

theorem refEntryInfo : (Tryz.prog.info? 73).map (fun i => (i.zero, i.size, i.bytes)) = some (some (.agg #[.string ⟨#[]⟩, .int .i64 0, .int .i64 0, .string ⟨#[]⟩, .int .i64 0, .int .i64 0]), 6, 64) := by kernel_rfl
set_option maxHeartbeats 2000000 in
theorem ofE_any (w : World) (v : Value) (l : List En) (h : Reads 6 cE w v l) (hl : l.length ≤ 100000) :
    Calls Tryz.prog 25 #[v] w (OwnTo 73 6 cE l w) := by
  obtain ⟨A, c, rfl⟩ := h.form
  have hn := h.len
  have hnm : l.length ≤ 9223372036854775807 := by omega
  have HO := Lib.hid h
  obtain ⟨i0, hi, hz0, hz1, hz2⟩ := info_parts refEntryInfo
  clear h hn
  go_enter Tryz.func25, Tryz.ntmps25
  go_wp2
  go_loopw [3, 4] (fun s3 s4 wr => ∃ i : Nat, i ≤ l.length ∧ s4 = .int .i64 i ∧ Hid (wr.ownsRow w.heap.size 73 6 s3 i ((l.take i).flatMap cE)) ∧ Below w.heap.size w wr) (fun _ s4 _ => l.length - (intOf s4).toNat)
  case atStart => exact ⟨0, Nat.zero_le _, rfl, Lib.hid (World.ownsRow_nil _ _ _ _), Below.refl _ _⟩
  case round =>
    obtain ⟨i, hil, rfl, hown, hb⟩ := hrel
    by_cases hlt : i < l.length
    · obtain ⟨e, he⟩ : ∃ e, l[i]? = some e := ⟨_, List.getElem?_eq_getElem hlt⟩
      obtain ⟨ad, rfl, c0, c1, c2, c3, c4, c5⟩ := Ents.at_ (HO.out.below hb) he
      obtain ⟨p, st, m, d, tm, sz⟩ := e
      have HF := Lib.hid he
      have i0' : (0 : Int) ≤ (i : Int) := Int.natCast_nonneg _
      have hi1 : (i : Int) < (l.length : Int) := by omega
      have hcl := World.block_lt_of_cell? _ _ c0
      have hsz := hb.size
      have hown4 := ((hown.out.alloc (.cells #[.string p, .int .i64 st, .int .i64 m, .string d, .int .i64 tm, .int .i64 sz] 71)).alloc (.cells #[.string p, .int .i64 st, .int .i64 m, .string d, .int .i64 tm, .int .i64 sz] 73))
      have hnews := news_one (wr.alloc (.cells #[.string p, .int .i64 st, .int .i64 m, .string d, .int .i64 tm, .int .i64 sz] 71)) #[.string p, .int .i64 st, .int .i64 m, .string d, .int .i64 tm, .int .i64 sz] 73 (wr.heap.size + 1) (by simp)
      clear he
      go_wp2_with (at_builtin; refine wpList_append_own _ rfl _ _ 51 rfl w.heap.size 73 i0 (.agg #[.string ⟨#[]⟩, .int .i64 0, .int .i64 0, .string ⟨#[]⟩, .int .i64 0, .int .i64 0]) 6 64 Tryz.underlying51 hi hz0 hz1 hz2 rfl (by decide) _ _ _ rfl hown4 ⟨wr.heap.size + 1, 0, none⟩ 1 1 [.string p, .int .i64 st, .int .i64 m, .string d, .int .i64 tm, .int .i64 sz] rfl rfl hnews (by simp [Value.oneCell']) (by unfold maxLen; omega) (by omega) (by simp; omega) ?_; intro v5 w5 hown5 hg5 _)
      have hb5 : Below w.heap.size w w5 := ((hb.alloc hsz _).alloc (by simp; omega) _).grown hg5 (by simp; omega) (fun k hk => (hown.out.lt k hk).1)
      clear hnews hown4 hg5
      go_roundw
      case rel => exact ⟨i + 1, by omega, by go_num, Lib.hid (by rw [take_snoc HF.out, flat_snoc]; exact hown5), hb5⟩
      case measure => simp [intOf]; omega
    · obtain rfl : i = l.length := by omega
      have HL : Hid ((l.take l.length).flatMap cE = l.flatMap cE) := Lib.hid (by rw [List.take_length])
      go_wp2
      go_ret
      exact ⟨_, rfl, by rw [← HL.out]; exact hown.out, hb⟩
end Go.Proofs.YtplleaimmmanhaaGreatDoor
namespace Go.Proofs.YtplleaimmmanhaaGreatDoor
open Go Go.RowKit

theorem dropE_snoc {l : List En} {q : ByteArray} {i : Nat} {x : En} (hx : l[i]? = some x) : dropE (l.take (i + 1)) q = dropE (l.take i) q ++ (if x.1 = q then [] else [x]) := by
  unfold dropE
  rw [take_snoc hx, List.filter_append]
  congr 1
  by_cases h : x.1 = q <;> simp [h]
set_option maxRecDepth 100000 in
set_option maxHeartbeats 4000000 in
theorem refDrop_any (w : World) (v : Value) (l : List En) (q : ByteArray) (h : Reads 6 cE w v l) (hl : l.length ≤ 100000) :
    Calls Tryz.prog 40 #[v, .string q] w (OwnTo 73 6 cE (dropE l q) w) := by
  obtain ⟨A, c, rfl⟩ := h.form
  have hn := h.len
  have hnm : l.length ≤ 9223372036854775807 := by omega
  have HO := Lib.hid h
  obtain ⟨i0, hi, hz0, hz1, hz2⟩ := info_parts refEntryInfo
  clear h hn
  go_enter Tryz.func40, Tryz.ntmps40
  go_wp2_with fail
  go_loopw [5, 6] (fun s5 s6 wr => ∃ i : Nat, i ≤ l.length ∧ s6 = .int .i64 i ∧ Hid (wr.ownsRow w.heap.size 73 6 s5 (dropE (l.take i) q).length ((dropE (l.take i) q).flatMap cE)) ∧ Below w.heap.size w wr) (fun _ s6 _ => l.length - (intOf s6).toNat)
  case atStart => exact ⟨0, Nat.zero_le _, rfl, Lib.hid (World.ownsRow_nil _ _ _ _), Below.refl _ _⟩
  case round =>
    obtain ⟨i, hil, rfl, hown, hb⟩ := hrel
    by_cases hlt : i < l.length
    · obtain ⟨e, he⟩ : ∃ e, l[i]? = some e := ⟨_, List.getElem?_eq_getElem hlt⟩
      obtain ⟨ad, rfl, c0, c1, c2, c3, c4, c5⟩ := Ents.at_ (HO.out.below hb) he
      have HT := Lib.hid (dropE_snoc (q := q) he)
      have hdl : (dropE (l.take i) q).length ≤ 100000 := Nat.le_trans (List.length_filter_le _ _) (by rw [List.length_take]; omega)
      obtain ⟨p, st, m, d, tm, sz⟩ := e
      have i0' : (0 : Int) ≤ (i : Int) := Int.natCast_nonneg _
      have hi1 : (i : Int) < (l.length : Int) := by omega
      have hcl := World.block_lt_of_cell? _ _ c0
      have hsz := hb.size
      clear he
      obtain ⟨A5, c5', rfl⟩ := own_form hown.out
      by_cases hpq : p = q
      · subst hpq
        have HT2 : Hid (dropE (l.take (i + 1)) p = dropE (l.take i) p) := Lib.hid (by rw [HT.out]; simp)
        go_wp2_with fail
        go_roundw
        case rel => exact ⟨i + 1, by omega, by go_num, by rw [HT2.out]; exact hown, hb⟩
        case measure => simp [intOf]; omega
      · have hne : (p.toList == q.toList) = false := by rw [bytes_beq]; exact decide_eq_false hpq
        have hne2 : ¬ p.toList = q.toList := fun e => hpq (tl_eq e)
        have HT2 : Hid (dropE (l.take (i + 1)) q = dropE (l.take i) q ++ [(p, st, m, d, tm, sz)]) := Lib.hid (by rw [HT.out, if_neg hpq])
        have hown4 := Lib.hid (hown.out.alloc (.cells #[.string p, .int .i64 st, .int .i64 m, .string d, .int .i64 tm, .int .i64 sz] 73))
        have hnews := Lib.hid (news_one wr #[.string p, .int .i64 st, .int .i64 m, .string d, .int .i64 tm, .int .i64 sz] 73 wr.heap.size (by simp))
        clear hpq
        go_wp2_with (at_builtin; refine wpList_append_own _ rfl _ _ 51 rfl w.heap.size 73 i0 (.agg #[.string ⟨#[]⟩, .int .i64 0, .int .i64 0, .string ⟨#[]⟩, .int .i64 0, .int .i64 0]) 6 64 Tryz.underlying51 hi hz0 hz1 hz2 rfl (by decide) _ _ _ rfl hown4.out ⟨wr.heap.size, 0, none⟩ 1 1 [.string p, .int .i64 st, .int .i64 m, .string d, .int .i64 tm, .int .i64 sz] rfl rfl hnews.out ?c1 ?c2 ?c3 ?c4 ?_)
        case c1 => first | (simp [Value.oneCell']; done) | (intro u hu; simp at hu; rcases hu with rfl | rfl | rfl | rfl | rfl | rfl <;> rfl)
        case c2 => unfold maxLen; omega
        case c3 => omega
        case c4 => first | omega | (rw [World.size_alloc]; omega)
        intro v11 w11 hown11 hg11 _
        have B11 := Lib.hid ((hb.alloc hsz (.cells #[.string p, .int .i64 st, .int .i64 m, .string d, .int .i64 tm, .int .i64 sz] 73)).grown hg11 (by rw [World.size_alloc]; omega) (fun j hj => (hown.out.lt j hj).1))
        have O11 : Hid (w11.ownsRow w.heap.size 73 6 v11 (dropE (l.take (i + 1)) q).length ((dropE (l.take (i + 1)) q).flatMap cE)) := Lib.hid (by rw [HT2.out, flat_snoc, List.length_append]; exact hown11)
        clear hown11 hg11 hown4 hnews
        go_wp2_with fail
        go_roundw
        case rel => exact ⟨i + 1, by omega, by go_num, O11, B11.out⟩
        case measure => simp [intOf]; omega
    · obtain rfl : i = l.length := by omega
      have HL : Hid (dropE (l.take l.length) q = dropE l q) := Lib.hid (by rw [List.take_length])
      go_wp2
      go_ret
      exact ⟨_, rfl, by rw [← HL.out]; exact hown.out, hb⟩
end Go.Proofs.YtplleaimmmanhaaGreatDoor
namespace Go.Proofs.YtplleaimmmanhaaGreatDoor
open Go Go.RowKit

def stillE (e : En) : En := (e.1, e.2.1, e.2.2.1, e.2.2.2.1, 0, 0)
set_option maxHeartbeats 1000000 in
theorem still_any (e : En) (w : World) : Calls Tryz.prog 115 #[eV e] w fun r w' => r = .returned (eV (stillE e)) ∧ Below w.heap.size w w' := by
  obtain ⟨p, st, m, d, t, z⟩ := e
  go_enter Tryz.func115, Tryz.ntmps115
  go_wp2
  exact bodyPost_ret (results_cell_row (fn := Tryz.f115) rfl _ _ (w.heap.size + 1) 71 #[.string p, .int .i64 st, .int .i64 m, .string d, .int .i64 0, .int .i64 0] (0, 0) _ rfl (heap_alloc2_new w _ _) Tryz.underlying71 rfl (by simpa using sizeEn)) rfl ⟨rfl, ((Below.refl _ _).alloc (Nat.le_refl _) _).alloc (by simp) _⟩
end Go.Proofs.YtplleaimmmanhaaGreatDoor
namespace Go.Proofs.YtplleaimmmanhaaGreatDoor
open Go Go.RowKit

theorem tl_iff (p q : ByteArray) : (p.toList = q.toList) = (p = q) := propext ⟨tl_eq, fun h => by rw [h]⟩
theorem same_val (p : ByteArray) (st m : Int) (d : ByteArray) (t z : Int) (p' : ByteArray) (st' m' : Int) (d' : ByteArray) (t' z' : Int) (w' : World) :
    (if (stillE (p, st, m, d, t, z)).fst.toList = (stillE (p', st', m', d', t', z')).fst.toList then (if (stillE (p, st, m, d, t, z)).snd.fst = (stillE (p', st', m', d', t', z')).snd.fst then (if (stillE (p, st, m, d, t, z)).snd.snd.fst = (stillE (p', st', m', d', t', z')).snd.snd.fst then (if (stillE (p, st, m, d, t, z)).snd.snd.snd.fst.toList = (stillE (p', st', m', d', t', z')).snd.snd.snd.fst.toList then (if (stillE (p, st, m, d, t, z)).snd.snd.snd.snd.fst = (stillE (p', st', m', d', t', z')).snd.snd.snd.snd.fst then (if (stillE (p, st, m, d, t, z)).snd.snd.snd.snd.snd = (stillE (p', st', m', d', t', z')).snd.snd.snd.snd.snd then Result.ok (Next.value (Value.bool true)) w' else Result.ok (Next.value (Value.bool false)) w') else Result.ok (Next.value (Value.bool false)) w') else Result.ok (Next.value (Value.bool false)) w') else Result.ok (Next.value (Value.bool false)) w') else Result.ok (Next.value (Value.bool false)) w') else Result.ok (Next.value (Value.bool false)) w') = Result.ok (Next.value (Value.bool (decide (stillE (p, st, m, d, t, z) = stillE (p', st', m', d', t', z'))))) w' := by
  simp only [stillE, tl_iff, Prod.mk.injEq]
  repeat' split
  all_goals simp_all

set_option maxRecDepth 100000 in
set_option maxHeartbeats 4000000 in
theorem same1_any (x y : En) (w : World) : Calls Tryz.prog 114 #[eV x, eV y] w (FlagE (decide (stillE x = stillE y)) w) := by
  obtain ⟨p, st, m, d, t, z⟩ := x
  obtain ⟨p', st', m', d', t', z'⟩ := y
  obtain ⟨W2, hW2⟩ : ∃ W2, W2 = (w.alloc (.cells #[.string p, .int .i64 st, .int .i64 m, .string d, .int .i64 t, .int .i64 z] 71)).alloc (.cells #[.string p', .int .i64 st', .int .i64 m', .string d', .int .i64 t', .int .i64 z'] 71) := ⟨_, rfl⟩
  have B2 := Lib.hid (show Below w.heap.size w W2 by rw [hW2]; exact ((Below.refl _ _).alloc (Nat.le_refl _) _).alloc (by simp) _)
  obtain ⟨A, hA⟩ : ∃ A, A = w.heap.size := ⟨_, rfl⟩
  obtain ⟨B, hB⟩ : ∃ B, B = w.heap.size + 1 := ⟨_, rfl⟩
  have kA : W2.heap[A]? = some (.cells #[.string p, .int .i64 st, .int .i64 m, .string d, .int .i64 t, .int .i64 z] 71 (0, 0)) := by rw [hW2, hA]; exact heap_alloc2_old w _ _
  have kB : W2.heap[B]? = some (.cells #[.string p', .int .i64 st', .int .i64 m', .string d', .int .i64 t', .int .i64 z'] 71 (0, 0)) := by rw [hW2, hB]; exact heap_alloc2_new w _ _
  have lA : A < W2.heap.size := by rw [hW2, hA]; simp; omega
  have lB : B < W2.heap.size := by rw [hW2, hB]; simp
  have HSS : Hid (∀ W, Below W2.heap.size W2 W → (fun w' => (w'.cell? ⟨A, 0, none⟩ = some (.string p) ∧ w'.cell? ⟨A, 1, none⟩ = some (.int .i64 st) ∧ w'.cell? ⟨A, 2, none⟩ = some (.int .i64 m) ∧ w'.cell? ⟨A, 3, none⟩ = some (.string d) ∧ w'.cell? ⟨A, 4, none⟩ = some (.int .i64 t) ∧ w'.cell? ⟨A, 5, none⟩ = some (.int .i64 z)) ∧ (w'.cell? ⟨B, 0, none⟩ = some (.string p') ∧ w'.cell? ⟨B, 1, none⟩ = some (.int .i64 st') ∧ w'.cell? ⟨B, 2, none⟩ = some (.int .i64 m') ∧ w'.cell? ⟨B, 3, none⟩ = some (.string d') ∧ w'.cell? ⟨B, 4, none⟩ = some (.int .i64 t') ∧ w'.cell? ⟨B, 5, none⟩ = some (.int .i64 z'))) W) := Lib.hid fun W hW =>
    have qA := (hW.block A lA).trans kA
    have qB := (hW.block B lB).trans kB
    ⟨⟨cell_of_row W A 0 _ _ (0, 0) qA, cell_of_row W A 1 _ _ (0, 0) qA, cell_of_row W A 2 _ _ (0, 0) qA, cell_of_row W A 3 _ _ (0, 0) qA, cell_of_row W A 4 _ _ (0, 0) qA, cell_of_row W A 5 _ _ (0, 0) qA⟩,
      ⟨cell_of_row W B 0 _ _ (0, 0) qB, cell_of_row W B 1 _ _ (0, 0) qB, cell_of_row W B 2 _ _ (0, 0) qB, cell_of_row W B 3 _ _ (0, 0) qB, cell_of_row W B 4 _ _ (0, 0) qB, cell_of_row W B 5 _ _ (0, 0) qB⟩⟩
  have ST := Lib.hid fun e W => still_any e W
  have b2s := B2.out.size
  clear kA kB
  go_enter Tryz.func114, Tryz.ntmps114
  go_wp2_with fail
  rw [← hW2, ← hB, ← hA]
  clear hW2 hB hA
  refine wp_region_held_drew (S := fun w' => (w'.cell? ⟨A, 0, none⟩ = some (.string p) ∧ w'.cell? ⟨A, 1, none⟩ = some (.int .i64 st) ∧ w'.cell? ⟨A, 2, none⟩ = some (.int .i64 m) ∧ w'.cell? ⟨A, 3, none⟩ = some (.string d) ∧ w'.cell? ⟨A, 4, none⟩ = some (.int .i64 t) ∧ w'.cell? ⟨A, 5, none⟩ = some (.int .i64 z)) ∧ (w'.cell? ⟨B, 0, none⟩ = some (.string p') ∧ w'.cell? ⟨B, 1, none⟩ = some (.int .i64 st') ∧ w'.cell? ⟨B, 2, none⟩ = some (.int .i64 m') ∧ w'.cell? ⟨B, 3, none⟩ = some (.string d') ∧ w'.cell? ⟨B, 4, none⟩ = some (.int .i64 t') ∧ w'.cell? ⟨B, 5, none⟩ = some (.int .i64 z'))) (by kernel_rfl) (HSS.out W2.drew (Below.refl _ _).drew) (fun hHeld => ?_)
  refine wpAnyH_take (i := 0) (oi := { dst := some 5, op := Op.load 71 (Operand.tmp 2), type := 71, pos := "index.go:170", after := #[], guard := none }) (v := ?vp0) rfl (by kernel_rfl) (by kernel_rfl) (by kernel_rfl) (fun _ _ _ h => h) (Or.inl ⟨by rfl, ?yp0⟩) (by assumption) ?rp0
  case yp0 => (intro w' hSw; (try dsimp only at hSw); go_simp; try with_reducible rfl)
  try simp only [Act.put, List.setIfInBounds_toArray, List.set_cons_zero, List.set_cons_succ]
  refine wpAnyH_take (i := 2) (oi := { dst := some 7, op := Op.load 71 (Operand.tmp 3), type := 71, pos := "index.go:170", after := #[], guard := none }) (v := ?vp2) rfl (by kernel_rfl) (by kernel_rfl) (by kernel_rfl) (fun _ _ _ h => h) (Or.inl ⟨by rfl, ?yp2⟩) (by assumption) ?rp2
  case yp2 => (intro w' hSw; (try dsimp only at hSw); go_simp; try with_reducible rfl)
  try simp only [Act.put, List.setIfInBounds_toArray, List.set_cons_zero, List.set_cons_succ]
  refine wpAnyH_ready (rs := [1]) (by kernel_rfl) (by simp) ?_
  refine AllReadyH.cons (o := { dst := some 6, op := Op.call { callee := Callee.value (Operand.func 115), args := #[Operand.tmp 5], argTypes := #[71] }, type := 71, pos := "index.go:170", after := #[{ on := 0, ground := Ground.data }], guard := none }) rfl (fun K hK => ?_) AllReadyH.nil
  go_simp
  refine (ST.out (p, st, m, d, t, z) _).mono ?_
  rintro e w3 ⟨rfl, b3⟩
  have hb3 : Below W2.heap.size W2 w3 := ((Below.refl _ _).drew).trans b3
  go_wp2_with fail
  refine hK.out _ _ (HSS.out _ hb3) (fun hHeldp1 => ?_)
  clear hK K hHeld
  try simp only [Act.put, List.setIfInBounds_toArray, List.set_cons_zero, List.set_cons_succ]
  refine wpAnyH_ready (rs := [3]) (by kernel_rfl) (by simp) ?_
  refine AllReadyH.cons (o := { dst := some 8, op := Op.call { callee := Callee.value (Operand.func 115), args := #[Operand.tmp 7], argTypes := #[71] }, type := 71, pos := "index.go:170", after := #[{ on := 2, ground := Ground.data }, { on := 1, ground := Ground.chain }], guard := none }) rfl (fun K hK => ?_) AllReadyH.nil
  go_simp
  refine (ST.out (p', st', m', d', t', z') _).mono ?_
  rintro e w4 ⟨rfl, b4⟩
  have hb4 : Below W2.heap.size W2 w4 := hb3.trans (b4.mono hb3.size)
  go_wp2_with fail
  refine hK.out _ _ (HSS.out _ hb4) (fun hHeldp3 => ?_)
  clear hK K hHeldp1
  try simp only [Act.put, List.setIfInBounds_toArray, List.set_cons_zero, List.set_cons_succ]
  refine wpAnyH_take (i := 4) (oi := { dst := some 9, op := Op.binOp BinOp.eql 71 (Operand.tmp 6) (Operand.tmp 8) 71, type := 4, pos := "index.go:170", after := #[{ on := 1, ground := Ground.data }, { on := 3, ground := Ground.data }], guard := none }) (v := .bool (decide (stillE (p, st, m, d, t, z) = stillE (p', st', m', d', t', z')))) rfl (by kernel_rfl) (by kernel_rfl) (by kernel_rfl) (fun _ _ _ h => h) (Or.inl ⟨by rfl, ?yp4⟩) (by assumption) ?rp4
  case yp4 => (intro w' hSw; (try dsimp only at hSw); go_simp; exact same_val _ _ _ _ _ _ _ _ _ _ _ _ _)
  try simp only [Act.put, List.setIfInBounds_toArray, List.set_cons_zero, List.set_cons_succ]
  refine wpAnyH_take (i := 5) (oi := { dst := some 4, op := Op.assign (Operand.tmp 9), type := 4, pos := "index.go:170", after := #[{ on := 4, ground := Ground.data }, { on := 3, ground := Ground.chain }, { on := 0, ground := Ground.phase }, { on := 1, ground := Ground.phase }, { on := 2, ground := Ground.phase }, { on := 3, ground := Ground.phase }, { on := 4, ground := Ground.phase }], guard := none }) (v := ?vp5) rfl (by kernel_rfl) (by kernel_rfl) (by kernel_rfl) (fun _ _ _ h => h) (Or.inl ⟨by rfl, ?yp5⟩) (by assumption) ?rp5
  case yp5 => (intro w' hSw; (try dsimp only at hSw); go_simp; try with_reducible rfl)
  try simp only [Act.put, List.setIfInBounds_toArray, List.set_cons_zero, List.set_cons_succ]
  refine wpAnyH_done (by kernel_rfl) ?_ _
  go_wp2_with fail
  go_ret
  refine ⟨ret_b ?_, B2.out.trans (hb4.mono b2s)⟩
  rfl
end Go.Proofs.YtplleaimmmanhaaGreatDoor
namespace Go.Proofs.YtplleaimmmanhaaGreatDoor
open Go Go.RowKit

def EqTo (a b : List En) (w : World) (e : Ending) (w' : World) : Prop := FlagE (decide (a.map stillE = b.map stillE)) w e w'
set_option maxRecDepth 100000 in
set_option maxHeartbeats 4000000 in
theorem equalE_any (w : World) (v u : Value) (a b : List En) (h : Reads 6 cE w v a) (g : Reads 6 cE w u b) :
    Calls Tryz.prog 113 #[v, u, .func (.func 114) #[] #[]] w (EqTo a b w) := by
  obtain ⟨A, c, rfl⟩ := h.form
  obtain ⟨B, d, rfl⟩ := g.form
  have hn := h.len
  have gn := g.len
  have hm1 : a.length ≤ 9223372036854775807 := by have := hn.2; unfold maxLen at this; omega
  have hm2 : b.length ≤ 9223372036854775807 := by have := gn.2; unfold maxLen at this; omega
  have HA := Lib.hid h
  have HB := Lib.hid g
  have SM := Lib.hid fun x y W => same1_any x y W
  clear h g hn gn
  by_cases hnm : a.length = b.length
  · have hi0 : (a.length : Int) = (b.length : Int) := by omega
    have HN := Lib.hid hnm
    clear hnm
    go_enter Tryz.func113, Tryz.ntmps113
    go_wp2
    go_loopw [7, 8, 9, 17] (fun _ _ _ s17 wr => ∃ k : Nat, k ≤ b.length ∧ s17 = .int .i64 k ∧ Below w.heap.size w wr ∧ Hid (∀ i, i < k → (a.map stillE)[i]? = (b.map stillE)[i]?)) (fun _ _ _ s17 _ => b.length - (intOf s17).toNat)
    case atStart => exact ⟨0, Nat.zero_le _, rfl, Below.refl _ _, Lib.hid (fun i hi => absurd hi (Nat.not_lt_zero _))⟩
    case round =>
      obtain ⟨k, hk, rfl, hb, hp⟩ := hrel
      by_cases hlt : k < b.length
      · obtain ⟨x, hx⟩ : ∃ x, a[k]? = some x := ⟨_, List.getElem?_eq_getElem (by rw [HN.out]; exact hlt)⟩
        obtain ⟨y, hy⟩ : ∃ y, b[k]? = some y := ⟨_, List.getElem?_eq_getElem hlt⟩
        obtain ⟨ad, rfl, c0, c1, c2, c3, c4, c5⟩ := Ents.at_ (HA.out.below hb) hx
        obtain ⟨W1, hW1⟩ : ∃ W1, W1 = wr.alloc (.cells #[.string x.1, .int .i64 x.2.1, .int .i64 x.2.2.1, .string x.2.2.2.1, .int .i64 x.2.2.2.2.1, .int .i64 x.2.2.2.2.2] 71) := ⟨_, rfl⟩
        have b1 : Below wr.heap.size wr W1 := by rw [hW1]; exact (Below.refl _ _).alloc (Nat.le_refl _) _
        obtain ⟨ad2, rfl, d0, d1, d2, d3, d4, d5⟩ := Ents.at_ (HB.out.below (hb.trans (b1.mono hb.size))) hy
        rw [hW1] at d0 d1 d2 d3 d4 d5
        have HB1 := Lib.hid (hb.trans (b1.mono hb.size))
        have HX := Lib.hid hx
        have HY := Lib.hid hy
        have k0 : (0 : Int) ≤ (k : Int) := Int.natCast_nonneg _
        have k1 : (k : Int) < (b.length : Int) := by omega
        have HNE := Lib.hid (show stillE x ≠ stillE y → decide (a.map stillE = b.map stillE) = false from fun hne => decide_eq_false fun e => by
          have h1 : (a.map stillE)[k]? = some (stillE x) := by rw [List.getElem?_map, hx]; rfl
          have h2 : (b.map stillE)[k]? = some (stillE y) := by rw [List.getElem?_map, hy]; rfl
          rw [e, h2] at h1
          exact hne (Option.some.inj h1).symm)
        clear hx hy b1
        go_wp2_with fail
        refine (SM.out x y _).mono ?_
        rintro e w3 ⟨rfl, b3⟩
        have HB3 := Lib.hid (HB1.out.trans ((Below.trans (show Below W1.heap.size W1 (W1.alloc (.cells #[.string y.1, .int .i64 y.2.1, .int .i64 y.2.2.1, .string y.2.2.2.1, .int .i64 y.2.2.2.2.1, .int .i64 y.2.2.2.2.2] 71)) from (Below.refl _ _).alloc (Nat.le_refl _) _) (by rw [hW1]; exact b3.mono (by simp))).mono HB1.out.size))
        clear b3 hb c0 c1 c2 c3 c4 c5 d0 d1 d2 d3 d4 d5
        by_cases hxy : stillE x = stillE y
        · rw [decide_eq_true hxy]
          have HXY := Lib.hid hxy
          clear hxy
          go_wp2_with fail
          go_roundw
          case rel => exact ⟨k + 1, by omega, by go_num, HB3.out, Lib.hid (fun i hi => by
            rcases Nat.lt_or_ge i k with h1 | h1
            · exact hp.out i h1
            · obtain rfl : i = k := by omega
              rw [List.getElem?_map, List.getElem?_map, HX.out, HY.out]
              exact congrArg some HXY.out)⟩
          case measure => simp [intOf]; omega
        · have HC := Lib.hid (HNE.out hxy)
          rw [decide_eq_false hxy]
          clear hxy
          go_wp2_with fail
          go_ret
          exact ⟨ret_b HC.out.symm, HB3.out⟩
      · obtain rfl : k = b.length := by omega
        have HE := Lib.hid (show decide (a.map stillE = b.map stillE) = true from decide_eq_true (prefix_all hp.out (by rw [List.length_map, HN.out]) (by rw [List.length_map])))
        go_wp2_with fail
        go_ret
        exact ⟨ret_b HE.out.symm, hb⟩
  · have hi0 : ¬ (a.length : Int) = (b.length : Int) := by omega
    have HE := Lib.hid (show decide (a.map stillE = b.map stillE) = false from decide_eq_false fun e => hnm (by have := congrArg List.length e; simpa using this))
    go_enter Tryz.func113, Tryz.ntmps113
    go_wp2
    go_ret
    exact ⟨ret_b HE.out.symm, Below.refl _ _⟩

set_option maxHeartbeats 1000000 in
theorem sameE_any (w : World) (v u : Value) (a b : List En) (h : Reads 6 cE w v a) (g : Reads 6 cE w u b) :
    Calls Tryz.prog 59 #[v, u] w (EqTo a b w) := by
  have S := Lib.hid (equalE_any w v u a b h g)
  obtain ⟨A, c, rfl⟩ := h.form
  obtain ⟨B, d, rfl⟩ := g.form
  clear h g
  go_enter Tryz.func59, Tryz.ntmps59
  go_wp2_with fail
  refine S.out.mono ?_
  rintro e w' ⟨rfl, hb⟩
  go_wp2_with fail
  go_ret
  exact ⟨rfl, hb⟩
end Go.Proofs.YtplleaimmmanhaaGreatDoor
namespace Go.Proofs.YtplleaimmmanhaaGreatDoor
open Go Go.RowKit

/-- What index.Put makes of l and e. -/
def putL (l : List En) (e : En) : List En := (keepE l e).filter (fun x => decide (ec x e < 0)) ++ e :: (keepE l e).filter (fun x => !decide (ec x e < 0))
theorem split_ins {k : List En} {s : En} {i : Nat} (h : SplitE k s i) : insE k i s = k.filter (fun x => decide (ec x s < 0)) ++ s :: k.filter (fun x => !decide (ec x s < 0)) := by
  have h1 : ∀ x ∈ k.take i, ec x s < 0 := fun x hx => by
    obtain ⟨t, ht, rfl⟩ := List.getElem_of_mem hx
    rw [List.length_take] at ht
    rw [List.getElem_take]
    exact h.1 t _ (by omega) (List.getElem?_eq_getElem (by omega))
  have h2 : ∀ x ∈ k.drop i, ¬ ec x s < 0 := fun x hx => by
    obtain ⟨t, ht, rfl⟩ := List.getElem_of_mem hx
    rw [List.length_drop] at ht
    rw [List.getElem_drop]
    have := h.2 (i + t) _ (by omega) (List.getElem?_eq_getElem (by omega))
    omega
  have e : k = k.take i ++ k.drop i := (List.take_append_drop i k).symm
  have f1 : k.filter (fun x => decide (ec x s < 0)) = k.take i := by
    conv => lhs; rw [e]
    rw [List.filter_append, List.filter_eq_self.2 (fun x hx => decide_eq_true (h1 x hx)), List.filter_eq_nil_iff.2 (fun x hx => by simpa using h2 x hx), List.append_nil]
  have f2 : k.filter (fun x => !decide (ec x s < 0)) = k.drop i := by
    conv => lhs; rw [e]
    rw [List.filter_append, List.filter_eq_nil_iff.2 (fun x hx => by simpa using h1 x hx), List.filter_eq_self.2 (fun x hx => by simpa using h2 x hx), List.nil_append]
  rw [f1, f2]
  rfl
def PutIs (l : List En) (e : En) (w : World) (r : Ending) (w' : World) : Prop :=
  ∃ v : Value, r = .returned v ∧ w'.ownsRow w.heap.size 71 6 v (putL l e).length ((putL l e).flatMap cE) ∧ Below w.heap.size w w' ∧ RiseE (putL l e) ∧ (putL l e).length ≤ l.length + 1
theorem put_is (w : World) (v : Value) (l : List En) (s : En) (h : Reads 6 cE w v l) (hr : RiseE l) (hz : SizedE l) (hs : s.1.size ≤ 1000000) (hl : l.length ≤ 1000) :
    Calls Tryz.prog 37 #[v, eV s] w (PutIs l s w) := by
  refine (putE_any w v l s h hr hz hs hl).mono ?_
  rintro e w' ⟨v', i, rfl, hi, hsp, _, hb, ho⟩
  have h1 := putE_rise hr hsp
  have h2 := putE_len hi
  rw [split_ins hsp] at ho h1 h2
  exact ⟨v', rfl, ho, hb, h1, h2⟩
theorem putL_sized {l : List En} {e : En} (hl : SizedDE l) (he : e.1.size ≤ 1000000 ∧ e.2.2.2.1.size ≤ 1000000) : SizedDE (putL l e) := fun x hx => by
  unfold putL at hx
  rcases List.mem_append.1 hx with h | h
  · exact hl x (List.mem_filter.1 (List.mem_filter.1 h).1).1
  · rcases List.mem_cons.1 h with rfl | h
    · exact he
    · exact hl x (List.mem_filter.1 (List.mem_filter.1 h).1).1
end Go.Proofs.YtplleaimmmanhaaGreatDoor
namespace Go.Proofs.YtplleaimmmanhaaGreatDoor
open Go Go.RowKit

set_option maxRecDepth 100000 in
set_option maxHeartbeats 2000000 in
theorem before_any (x y : En) (w : World) : Calls Tryz.prog 86 #[eV x, eV y] w (FlagE (decide (ec x y < 0)) w) := by
  obtain ⟨xp, xs, xm, xd, xt, xz⟩ := x
  obtain ⟨yp, ys, ym, yd, yt, yz⟩ := y
  have hlc := less_cb xp yp
  by_cases hc : cb xp yp < 0
  · have hls : Op.bytesLess xp.toList yp.toList = true := by rw [hlc]; exact decide_eq_true hc
    have HV : Hid (decide (ec (xp, xs, xm, xd, xt, xz) (yp, ys, ym, yd, yt, yz) < 0) = true) := Lib.hid (decide_eq_true (ec_neg.2 (.inl hc)))
    clear hc hlc
    go_enter Tryz.func86, Tryz.ntmps86
    go_wp2_with fail
    go_ret
    exact ⟨ret_b HV.out.symm, ((Below.refl _ _).alloc (Nat.le_refl _) _).alloc (by simp) _⟩
  · have hls : Op.bytesLess xp.toList yp.toList = false := by rw [hlc]; exact decide_eq_false hc
    by_cases hp : xp = yp
    · subst hp
      by_cases hs : xs < ys
      · have HV : Hid (decide (ec (xp, xs, xm, xd, xt, xz) (xp, ys, ym, yd, yt, yz) < 0) = true) := Lib.hid (decide_eq_true (ec_neg.2 (.inr ⟨rfl, hs⟩)))
        clear hc hlc
        go_enter Tryz.func86, Tryz.ntmps86
        go_wp2_with fail
        go_ret
        exact ⟨ret_b HV.out.symm, ((Below.refl _ _).alloc (Nat.le_refl _) _).alloc (by simp) _⟩
      · have HV : Hid (decide (ec (xp, xs, xm, xd, xt, xz) (xp, ys, ym, yd, yt, yz) < 0) = false) := Lib.hid (decide_eq_false fun h => by
          rcases ec_neg.1 h with h | h
          · exact hc h
          · exact hs h.2)
        clear hc hlc
        go_enter Tryz.func86, Tryz.ntmps86
        go_wp2_with fail
        go_ret
        exact ⟨ret_b HV.out.symm, ((Below.refl _ _).alloc (Nat.le_refl _) _).alloc (by simp) _⟩
    · have hne : (xp.toList == yp.toList) = false := by rw [bytes_beq]; exact decide_eq_false hp
      have hne2 : ¬ xp.toList = yp.toList := fun e => hp (tl_eq e)
      have HV : Hid (decide (ec (xp, xs, xm, xd, xt, xz) (yp, ys, ym, yd, yt, yz) < 0) = false) := Lib.hid (decide_eq_false fun h => by
        rcases ec_neg.1 h with h | h
        · exact hc h
        · exact hp h.1)
      clear hc hlc hp
      go_enter Tryz.func86, Tryz.ntmps86
      go_wp2_with fail
      go_ret
      exact ⟨ret_b HV.out.symm, ((Below.refl _ _).alloc (Nat.le_refl _) _).alloc (by simp) _⟩

theorem keepE_snoc {l : List En} {e : En} {i : Nat} {x : En} (hx : l[i]? = some x) : keepE (l.take (i + 1)) e = keepE (l.take i) e ++ (if goneB e x = true then [] else [x]) := by
  unfold keepE
  rw [take_snoc hx, List.filter_append]
  congr 1
  cases h : goneB e x <;> simp [h]
def PutSt (l : List En) (e : En) (i : Nat) : Bool → List En → Prop
  | false, acc => acc = keepE (l.take i) e ∧ ∀ x ∈ l.take i, ¬ ec e x < 0
  | true, acc => acc = putL (l.take i) e ∧ ∃ x ∈ l.take i, ec e x < 0
theorem kept_less {a : List En} {e : En} (h : ∀ x ∈ a, ¬ ec e x < 0) : ∀ x ∈ keepE a e, ec x e < 0 := fun x hx => by
  have h1 := h x (List.mem_filter.1 hx).1
  have hne : ec e x ≠ 0 := fun h0 => by
    have := ec_zero.1 h0
    exact keepE_ne hx (ec_zero.2 ⟨this.1.symm, this.2.symm⟩)
  exact ec_flip (by omega) hne
theorem putL_all {a : List En} {e : En} (h : ∀ x ∈ keepE a e, ec x e < 0) : putL a e = keepE a e ++ [e] := by
  unfold putL
  rw [List.filter_eq_self.2 fun x hx => decide_eq_true (h x hx), List.filter_eq_nil_iff.2 fun x hx => by simpa using h x hx]
theorem not_less {e x : En} (h : ec e x < 0) : ¬ ec x e < 0 := fun g => by
  have := ec_trans h g
  rw [ec_zero.2 ⟨rfl, rfl⟩] at this; omega
theorem putL_gt {l : List En} {e x : En} {i : Nat} (hx : l[i]? = some x) (h : ec e x < 0) : putL (l.take (i + 1)) e = putL (l.take i) e ++ (if goneB e x = true then [] else [x]) := by
  unfold putL
  rw [keepE_snoc hx]
  cases hg : goneB e x
  · rw [if_neg (by simp), List.filter_append, List.filter_append]
    have h1 : [x].filter (fun x => decide (ec x e < 0)) = [] := List.filter_eq_nil_iff.2 fun y hy => by rw [List.mem_singleton.1 hy]; simpa using not_less h
    have h2 : [x].filter (fun x => !decide (ec x e < 0)) = [x] := List.filter_eq_self.2 fun y hy => by rw [List.mem_singleton.1 hy]; simpa using not_less h
    rw [h1, h2, List.append_nil, List.append_assoc]; rfl
  · rw [if_pos rfl, List.append_nil, List.append_nil]
theorem filt_two (p : En → Bool) : ∀ l : List En, (l.filter p).length + (l.filter fun x => !p x).length = l.length
  | [] => rfl
  | x :: l => by
    have := filt_two p l
    cases h : p x <;> simp [h] <;> omega
theorem PutSt.len {l : List En} {e : En} {i : Nat} {b : Bool} {acc : List En} (h : PutSt l e i b acc) : acc.length ≤ i + 1 := by
  have hk := keepE_len (l.take i) e
  have ht : (l.take i).length ≤ i := by rw [List.length_take]; omega
  cases b with
  | false => rw [h.1]; omega
  | true =>
    rw [h.1]
    unfold putL
    have h3 := filt_two (fun x => decide (ec x e < 0)) (keepE (l.take i) e)
    rw [List.length_append, List.length_cons]
    omega
theorem PutSt.a {l : List En} {e x : En} {i : Nat} {acc : List En} (h : PutSt l e i false acc) (hx : l[i]? = some x) (hb : ¬ ec e x < 0) : PutSt l e (i + 1) false (acc ++ (if goneB e x = true then [] else [x])) :=
  ⟨by rw [h.1, keepE_snoc hx], fun y hy => by
    rw [take_snoc hx] at hy
    rcases List.mem_append.1 hy with h1 | h1
    · exact h.2 y h1
    · rw [List.mem_singleton.1 h1]; exact hb⟩
theorem PutSt.b {l : List En} {e x : En} {i : Nat} {acc : List En} (h : PutSt l e i false acc) (hx : l[i]? = some x) (hb : ec e x < 0) : PutSt l e (i + 1) true (acc ++ [e] ++ (if goneB e x = true then [] else [x])) :=
  ⟨by rw [putL_gt hx hb, putL_all (kept_less h.2), h.1], x, by rw [take_snoc hx]; simp, hb⟩
theorem PutSt.c {l : List En} {e x : En} {i : Nat} {acc : List En} (hr : RiseE l) (h : PutSt l e i true acc) (hx : l[i]? = some x) : PutSt l e (i + 1) true (acc ++ (if goneB e x = true then [] else [x])) := by
  obtain ⟨h1, y, hy, hl⟩ := h
  have hyx : ec y x < 0 := by
    obtain ⟨hi, rfl⟩ := List.getElem?_eq_some_iff.1 hx
    obtain ⟨j, hj, rfl⟩ := List.getElem_of_mem hy
    rw [List.length_take] at hj
    rw [List.getElem_take]
    exact List.pairwise_iff_getElem.1 hr j i (by omega) hi (by omega)
  have hex := ec_trans hl hyx
  exact ⟨by rw [putL_gt hx hex, h1], y, by rw [take_snoc hx]; exact List.mem_append_left _ hy, hl⟩
theorem PutSt.end_ {l : List En} {e : En} {b : Bool} {acc : List En} (h : PutSt l e l.length b acc) : putL l e = if b = true then acc else acc ++ [e] := by
  cases b with
  | false =>
    have h1 := h.1; have h2 := h.2
    rw [List.take_length] at h1 h2
    rw [putL_all (kept_less h2), h1]; rfl
  | true =>
    have h1 := h.1
    rw [List.take_length] at h1
    rw [h1]; rfl

def eBlk (W : World) (q : Nat) (e : En) : Prop := W.heap[q]? = some (.cells (cE e).toArray 73 (0, 0))
theorem eBlk.cells {W : World} {q : Nat} {e : En} (h : eBlk W q e) : W.cell? ⟨q, 0, none⟩ = some (.string e.1) ∧ W.cell? ⟨q, 1, none⟩ = some (.int .i64 e.2.1) ∧ W.cell? ⟨q, 2, none⟩ = some (.int .i64 e.2.2.1) ∧ W.cell? ⟨q, 3, none⟩ = some (.string e.2.2.2.1) ∧ W.cell? ⟨q, 4, none⟩ = some (.int .i64 e.2.2.2.2.1) ∧ W.cell? ⟨q, 5, none⟩ = some (.int .i64 e.2.2.2.2.2) :=
  ⟨cell_of_row W q 0 _ _ (0, 0) h, cell_of_row W q 1 _ _ (0, 0) h, cell_of_row W q 2 _ _ (0, 0) h, cell_of_row W q 3 _ _ (0, 0) h, cell_of_row W q 4 _ _ (0, 0) h, cell_of_row W q 5 _ _ (0, 0) h⟩
theorem eBlk.lt {W : World} {q : Nat} {e : En} (h : eBlk W q e) : q < W.heap.size := (Array.getElem?_eq_some_iff.1 h).1
theorem eBlk.below {W W' : World} {q B : Nat} {e : En} (h : eBlk W q e) (hb : Below B W W') (hq : q < B) : eBlk W' q e := (hb.block q hq).trans h
theorem eBlk.grown {W W' : World} {q : Nat} {e : En} {o : Obj} {r : Option Nat} (h : eBlk W q e) (hg : (W.alloc o).grownBy W' r) (hr : some q ≠ r) : eBlk W' q e := (hg.block q (by rw [World.size_alloc]; have := h.lt; omega) hr).trans ((Below.heap_alloc W o q h.lt).trans h)

set_option maxRecDepth 100000 in
set_option maxHeartbeats 8000000 in
theorem refPutE_any (w : World) (v : Value) (l : List En) (e : En) (h : Reads 6 cE w v l) (hr : RiseE l) (hs : SizedE l) (he : e.1.size ≤ 1000000) (hl : l.length ≤ 1000) :
    Calls Tryz.prog 38 #[v, eV e] w (OwnTo 73 6 cE (putL l e) w) := by
  obtain ⟨A, c, rfl⟩ := h.form
  obtain ⟨i0, hi, hz0, hz1, hz2⟩ := info_parts refEntryInfo
  have hn := h.len
  have hnm : l.length ≤ 9223372036854775807 := by omega
  obtain ⟨ep, es, em, ed, et, ez⟩ := e
  obtain ⟨W0, hW0⟩ : ∃ W0, W0 = w.alloc (.cells #[.string ep, .int .i64 es, .int .i64 em, .string ed, .int .i64 et, .int .i64 ez] 73) := ⟨_, rfl⟩
  have b0 : Below w.heap.size w W0 := by rw [hW0]; exact (Below.refl _ _).alloc (Nat.le_refl _) _
  obtain ⟨q, hq⟩ : ∃ q, q = w.heap.size := ⟨_, rfl⟩
  have QE0 : eBlk W0 q (ep, es, em, ed, et, ez) := by rw [hW0, hq]; exact heap_alloc_new w _
  have hq0 := QE0.lt
  obtain ⟨B, hB⟩ : ∃ B, B = W0.heap.size := ⟨_, rfl⟩
  rw [← hB] at hq0
  have HO := Lib.hid (h.below b0)
  have HQE0 := Lib.hid QE0
  have HB0 := Lib.hid b0
  have HR := Lib.hid hr
  have HS := Lib.hid hs
  have HBB := Lib.hid hB
  have hwB : Hid (w.heap.size ≤ B) := Lib.hid (by rw [hB]; exact b0.size)
  clear h hr hs hn QE0 b0 hB
  go_enter Tryz.func38, Tryz.ntmps38
  go_wp2_with fail
  rw [← hW0, ← hq]
  clear hW0 hq
  go_loopw [5, 6, 7] (fun s5 s6 s7 wr => ∃ (i : Nat) (b : Bool) (acc : List En), i ≤ l.length ∧ s7 = .int .i64 i ∧ s6 = .bool b ∧ Hid (wr.ownsRow B 73 6 s5 acc.length (acc.flatMap cE)) ∧ Hid (PutSt l (ep, es, em, ed, et, ez) i b acc) ∧ Hid (Below B W0 wr)) (fun _ _ s7 _ => l.length - (intOf s7).toNat)
  case atStart => exact ⟨0, false, [], Nat.zero_le _, rfl, rfl, Lib.hid (World.ownsRow_nil _ _ _ _), Lib.hid ⟨rfl, fun x hx => by simp at hx⟩, Lib.hid (Below.refl _ _)⟩
  case round =>
    obtain ⟨i, b, acc, hil, rfl, rfl, hown, hst, hb⟩ := hrel
    have hal := hst.out.len
    have i00 : (0 : Int) ≤ (i : Int) := Int.natCast_nonneg _
    have hBs : B ≤ wr.heap.size := by have := hb.out.size; rw [← HBB.out] at this; exact this
    by_cases hlt : i < l.length
    · obtain ⟨x, hx⟩ : ∃ x, l[i]? = some x := ⟨_, List.getElem?_eq_getElem hlt⟩
      obtain ⟨ad, rfl, c0, c1, c2, c3, c4, c5⟩ := Ents.at_ (HO.out.below (by rw [HBB.out] at hb; exact hb.out)) hx
      have HX := Lib.hid hx
      have hxs := HS.out x (List.mem_of_getElem? hx)
      have CL := Lib.hid fun W => refClash_any x.1 ep W hxs he
      have BF := Lib.hid fun W => before_any (ep, es, em, ed, et, ez) x W
      obtain ⟨gn, hgn⟩ : ∃ gn, gn = goneB (ep, es, em, ed, et, ez) x := ⟨_, rfl⟩
      have HG := Lib.hid hgn
      obtain ⟨xp, xs, xm, xd, xt, xz⟩ := x
      have hi1 : (i : Int) < (l.length : Int) := by omega
      have hcl := World.block_lt_of_cell? _ _ c0
      obtain ⟨W2, hW2⟩ : ∃ W2, W2 = wr.alloc (.cells #[.string xp, .int .i64 xs, .int .i64 xm, .string xd, .int .i64 xt, .int .i64 xz] 73) := ⟨_, rfl⟩
      have b2 : Below wr.heap.size wr W2 := by rw [hW2]; exact (Below.refl _ _).alloc (Nat.le_refl _) _
      obtain ⟨r, hr⟩ : ∃ r, r = wr.heap.size := ⟨_, rfl⟩
      have QX2 : eBlk W2 r (xp, xs, xm, xd, xt, xz) := by rw [hW2, hr]; exact heap_alloc_new wr _
      have hBr : B ≤ r := by rw [hr]; exact hBs
      have QE2 : eBlk W2 q (ep, es, em, ed, et, ez) := (HQE0.out.below hb.out hq0).below b2 (by omega)
      have O2 := Lib.hid (own_keep hown.out b2)
      have B2 := Lib.hid (hb.out.trans (b2.mono hBs))
      have OR : Hid (∀ k, u5.ownBlock = some k → k < r) := Lib.hid fun k hk => by rw [hr]; exact (hown.out.lt k hk).2
      have hBs2 : B ≤ W2.heap.size := Nat.le_trans hBs b2.size
      obtain ⟨x0, x1, x2, x3, x4, x5⟩ := QX2.cells
      obtain ⟨y0, y1, y2, y3, y4, y5⟩ := QE2.cells
      have xl := QX2.lt
      have yl := QE2.lt
      have HQX2 := Lib.hid QX2
      have HQE2 := Lib.hid QE2
      clear hx hxs hgn b2 QX2 QE2 hown hb hlt
      go_upto_region 7 with fail
      rw [← hW2, ← hr]
      clear hW2 hr hcl c0 c1 c2 c3 c4 c5
      go_cut [9] (fun z9 wx => z9 = .bool gn ∧ wx = W2)
      case first =>
        cases hcl : cls xp.data.toList ep.data.toList with
        | true =>
          have HV : Hid (gn = true) := Lib.hid (by rw [HG.out]; show (_ || cls xp.data.toList ep.data.toList) = true; rw [hcl, Bool.or_true])
          have HC2 := Lib.hid hcl
          clear hcl
          go_wp2_with fail
          refine (CL.out _).mono ?_
          rintro e w' ⟨he', rfl⟩
          simp only [HC2.out] at he'
          subst he'
          go_wp2_with fail
          go_meet
          exact ⟨by rw [HV.out], rfl⟩
        | false =>
          have HC2 := Lib.hid hcl
          have HG2 : Hid (gn = exB (ep, es, em, ed, et, ez) (xp, xs, xm, xd, xt, xz)) := Lib.hid (by rw [HG.out]; show (_ || cls xp.data.toList ep.data.toList) = _; rw [hcl, Bool.or_false])
          clear hcl
          by_cases hp : xp = ep
          · subst hp
            by_cases h1 : es = 0
            · subst h1
              have HV : Hid (gn = true) := Lib.hid (by rw [HG2.out]; simp [exB])
              go_wp2_with fail
              refine (CL.out _).mono ?_
              rintro e w' ⟨he', rfl⟩
              simp only [HC2.out] at he'
              subst he'
              go_wp2_with fail
              go_meet
              exact ⟨by rw [HV.out], rfl⟩
            · have h1b : (es == 0) = false := by simpa using h1
              by_cases h2 : xs = 0
              · subst h2
                have HV : Hid (gn = true) := Lib.hid (by rw [HG2.out]; simp [exB])
                go_wp2_with fail
                refine (CL.out _).mono ?_
                rintro e w' ⟨he', rfl⟩
                simp only [HC2.out] at he'
                subst he'
                go_wp2_with fail
                go_meet
                exact ⟨by rw [HV.out], rfl⟩
              · have h2b : (xs == 0) = false := by simpa using h2
                by_cases h3 : xs = es
                · subst h3
                  have HV : Hid (gn = true) := Lib.hid (by rw [HG2.out]; simp [exB])
                  go_wp2_with fail
                  refine (CL.out _).mono ?_
                  rintro e w' ⟨he', rfl⟩
                  simp only [HC2.out] at he'
                  subst he'
                  go_wp2_with fail
                  go_meet
                  exact ⟨by rw [HV.out], rfl⟩
                · have h3b : (xs == es) = false := by simpa using h3
                  have HV : Hid (gn = false) := Lib.hid (by rw [HG2.out]; simp [exB, h1, h2, h3])
                  go_wp2_with fail
                  refine (CL.out _).mono ?_
                  rintro e w' ⟨he', rfl⟩
                  simp only [HC2.out] at he'
                  subst he'
                  go_wp2_with fail
                  go_meet
                  exact ⟨by rw [HV.out], rfl⟩
          · have e1 : ¬ xp.toList = ep.toList := fun h => hp (tl_eq h)
            have e1b : (xp.toList == ep.toList) = false := by simpa using e1
            have HV : Hid (gn = false) := Lib.hid (by rw [HG2.out]; simp [exB, hp])
            go_wp2_with fail
            refine (CL.out _).mono ?_
            rintro e w' ⟨he', rfl⟩
            simp only [HC2.out] at he'
            subst he'
            go_wp2_with fail
            go_meet
            exact ⟨by rw [HV.out], rfl⟩
      case rest =>
        obtain ⟨rfl, rfl⟩ := hcut
        obtain ⟨A5, c5', rfl⟩ := own_form O2.out
        cases b with
        | true =>
          have ST := Lib.hid (hst.out.c HR.out HX.out)
          rw [← HG.out] at ST
          cases gn with
          | true =>
            have ST2 : Hid (PutSt l (ep, es, em, ed, et, ez) (i + 1) true acc) := Lib.hid (by have := ST.out; simpa using this)
            go_wp2_with fail
            go_roundw
            case rel => exact ⟨i + 1, true, acc, by omega, by go_num, rfl, O2, ST2, B2⟩
            case measure => simp [intOf]; omega
          | false =>
            have ST2 : Hid (PutSt l (ep, es, em, ed, et, ez) (i + 1) true (acc ++ [(xp, xs, xm, xd, xt, xz)])) := Lib.hid (by have := ST.out; simpa using this)
            have hown7 := Lib.hid (O2.out.alloc (.cells #[.string xp, .int .i64 xs, .int .i64 xm, .string xd, .int .i64 xt, .int .i64 xz] 73))
            have hnews7 := Lib.hid (news_one wc #[.string xp, .int .i64 xs, .int .i64 xm, .string xd, .int .i64 xt, .int .i64 xz] 73 wc.heap.size (by simp))
            go_wp2_with (at_builtin; refine wpList_append_own _ rfl _ _ 51 rfl B 73 i0 (.agg #[.string ⟨#[]⟩, .int .i64 0, .int .i64 0, .string ⟨#[]⟩, .int .i64 0, .int .i64 0]) 6 64 Tryz.underlying51 hi hz0 hz1 hz2 rfl (by decide) _ _ _ rfl hown7.out ⟨wc.heap.size, 0, none⟩ 1 1 [.string xp, .int .i64 xs, .int .i64 xm, .string xd, .int .i64 xt, .int .i64 xz] rfl rfl hnews7.out ?a71 ?a72 ?a73 ?a74 ?_)
            case a71 => first | (simp [Value.oneCell']; done) | (intro u hu; simp at hu; rcases hu with rfl | rfl | rfl | rfl | rfl | rfl <;> rfl)
            case a72 => unfold maxLen; omega
            case a73 => omega
            case a74 => first | omega | (rw [World.size_alloc]; omega)
            intro v7 w7 ho7 hg7 _
            have B7 := Lib.hid ((B2.out.alloc (by omega) (.cells #[.string xp, .int .i64 xs, .int .i64 xm, .string xd, .int .i64 xt, .int .i64 xz] 73)).grown hg7 (by rw [World.size_alloc]; omega) (fun j hj => (O2.out.lt j (by first | exact hj | simpa [Value.ownBlock] using hj)).1))
            have O7 : Hid (w7.ownsRow B 73 6 v7 (acc ++ [(xp, xs, xm, xd, xt, xz)]).length ((acc ++ [(xp, xs, xm, xd, xt, xz)]).flatMap cE)) := Lib.hid (by rw [flat_snoc, List.length_append]; exact ho7)
            clear ho7 hg7 hown7 hnews7
            go_wp2_with fail
            go_roundw
            case rel => exact ⟨i + 1, true, _, by omega, by go_num, rfl, O7, ST2, B7⟩
            case measure => simp [intOf]; omega
        | false =>
          go_wp2_with fail
          refine (BF.out _).mono ?_
          rintro e w3 ⟨rfl, b3⟩
          have O3 := Lib.hid (own_keep O2.out b3)
          have B3 := Lib.hid (B2.out.trans (b3.mono hBs2))
          have QX3 := Lib.hid (HQX2.out.below b3 xl)
          have QE3 := Lib.hid (HQE2.out.below b3 yl)
          have hBs3 : B ≤ w3.heap.size := Nat.le_trans hBs2 b3.size
          have ORB : Hid (∀ k, (Value.slice A5 acc.length c5').ownBlock = some k → k < r) := OR
          clear b3 x0 x1 x2 x3 x4 x5 y0 y1 y2 y3 y4 y5
          obtain ⟨x0, x1, x2, x3, x4, x5⟩ := QX3.out.cells
          obtain ⟨y0, y1, y2, y3, y4, y5⟩ := QE3.out.cells
          have xl3 := QX3.out.lt
          have yl3 := QE3.out.lt
          by_cases hbb : ec (ep, es, em, ed, et, ez) (xp, xs, xm, xd, xt, xz) < 0
          · have HBB1 := Lib.hid (decide_eq_true hbb)
            rw [decide_eq_true hbb]
            have ST := Lib.hid (hst.out.b HX.out hbb)
            rw [← HG.out] at ST
            clear hbb
            have hown8 := Lib.hid (O3.out.alloc (.cells #[.string ep, .int .i64 es, .int .i64 em, .string ed, .int .i64 et, .int .i64 ez] 73))
            have hnews8 := Lib.hid (news_one w3 #[.string ep, .int .i64 es, .int .i64 em, .string ed, .int .i64 et, .int .i64 ez] 73 w3.heap.size (by simp))
            go_wp2_with (at_builtin; refine wpList_append_own _ rfl _ _ 51 rfl B 73 i0 (.agg #[.string ⟨#[]⟩, .int .i64 0, .int .i64 0, .string ⟨#[]⟩, .int .i64 0, .int .i64 0]) 6 64 Tryz.underlying51 hi hz0 hz1 hz2 rfl (by decide) _ _ _ rfl hown8.out ⟨w3.heap.size, 0, none⟩ 1 1 [.string ep, .int .i64 es, .int .i64 em, .string ed, .int .i64 et, .int .i64 ez] rfl rfl hnews8.out ?a81 ?a82 ?a83 ?a84 ?_)
            case a81 => first | (simp [Value.oneCell']; done) | (intro u hu; simp at hu; rcases hu with rfl | rfl | rfl | rfl | rfl | rfl <;> rfl)
            case a82 => unfold maxLen; omega
            case a83 => omega
            case a84 => first | omega | (rw [World.size_alloc]; omega)
            intro v8 w8 ho8 hg8 _
            have B8 := Lib.hid ((B3.out.alloc (by omega) (.cells #[.string ep, .int .i64 es, .int .i64 em, .string ed, .int .i64 et, .int .i64 ez] 73)).grown hg8 (by rw [World.size_alloc]; omega) (fun j hj => (O3.out.lt j (by first | exact hj | simpa [Value.ownBlock] using hj)).1))
            have O8 : Hid (w8.ownsRow B 73 6 v8 (acc ++ [(ep, es, em, ed, et, ez)]).length ((acc ++ [(ep, es, em, ed, et, ez)]).flatMap cE)) := Lib.hid (by rw [flat_snoc, List.length_append]; exact ho8)
            have QX8 : eBlk w8 r (xp, xs, xm, xd, xt, xz) := QX3.out.grown hg8 (fun e => by have := ORB.out r (by simpa [Value.ownBlock] using e.symm); omega)
            obtain ⟨x0, x1, x2, x3, x4, x5⟩ := QX8.cells
            have xl8 := QX8.lt
            have hBs8 : B ≤ w8.heap.size := by omega
            obtain ⟨A8, n8, c8, rfl⟩ : ∃ A n c, v8 = .slice A n c := by obtain ⟨A, c, h⟩ := own_form ho8; exact ⟨A, _, c, h⟩
            have hn8 : n8 = acc.length + 1 := (own_len ho8).1
            subst hn8
            clear ho8 hg8 hown8 hnews8 QX8
            cases gn with
            | true =>
              have ST2 : Hid (PutSt l (ep, es, em, ed, et, ez) (i + 1) true (acc ++ [(ep, es, em, ed, et, ez)])) := Lib.hid (by have := ST.out; simpa using this)
              go_wp2_with fail
              go_roundw
              case rel => exact ⟨i + 1, true, _, by omega, by go_num, rfl, O8, ST2, B8⟩
              case measure => simp [intOf]; omega
            | false =>
              have ST2 : Hid (PutSt l (ep, es, em, ed, et, ez) (i + 1) true (acc ++ [(ep, es, em, ed, et, ez)] ++ [(xp, xs, xm, xd, xt, xz)])) := Lib.hid (by have := ST.out; simpa using this)
              have hln : (acc ++ [(ep, es, em, ed, et, ez)]).length = acc.length + 1 := by rw [List.length_append]; rfl
              rw [hln] at O8
              have hown9 := Lib.hid (O8.out.alloc (.cells #[.string xp, .int .i64 xs, .int .i64 xm, .string xd, .int .i64 xt, .int .i64 xz] 73))
              have hnews9 := Lib.hid (news_one w8 #[.string xp, .int .i64 xs, .int .i64 xm, .string xd, .int .i64 xt, .int .i64 xz] 73 w8.heap.size (by simp))
              go_wp2_with (at_builtin; refine wpList_append_own _ rfl _ _ 51 rfl B 73 i0 (.agg #[.string ⟨#[]⟩, .int .i64 0, .int .i64 0, .string ⟨#[]⟩, .int .i64 0, .int .i64 0]) 6 64 Tryz.underlying51 hi hz0 hz1 hz2 rfl (by decide) _ _ _ rfl hown9.out ⟨w8.heap.size, 0, none⟩ 1 1 [.string xp, .int .i64 xs, .int .i64 xm, .string xd, .int .i64 xt, .int .i64 xz] rfl rfl hnews9.out ?a91 ?a92 ?a93 ?a94 ?_)
              case a91 => first | (simp [Value.oneCell']; done) | (intro u hu; simp at hu; rcases hu with rfl | rfl | rfl | rfl | rfl | rfl <;> rfl)
              case a92 => unfold maxLen; omega
              case a93 => omega
              case a94 => first | omega | (rw [World.size_alloc]; omega)
              intro v9 w9 ho9 hg9 _
              have B9 := Lib.hid ((B8.out.alloc (by omega) (.cells #[.string xp, .int .i64 xs, .int .i64 xm, .string xd, .int .i64 xt, .int .i64 xz] 73)).grown hg9 (by rw [World.size_alloc]; omega) (fun j hj => (O8.out.lt j (by first | exact hj | simpa [Value.ownBlock] using hj)).1))
              have O9 : Hid (w9.ownsRow B 73 6 v9 ((acc ++ [(ep, es, em, ed, et, ez)]) ++ [(xp, xs, xm, xd, xt, xz)]).length (((acc ++ [(ep, es, em, ed, et, ez)]) ++ [(xp, xs, xm, xd, xt, xz)]).flatMap cE)) := Lib.hid (by rw [show (acc ++ [(ep, es, em, ed, et, ez)] ++ [(xp, xs, xm, xd, xt, xz)]).length = acc.length + 1 + 1 by simp, flat_snoc, flat_snoc, List.append_assoc]; exact ho9)
              clear ho9 hg9 hown9 hnews9
              go_wp2_with fail
              go_roundw
              case rel => exact ⟨i + 1, true, _, by omega, by go_num, rfl, O9, ST2, B9⟩
              case measure => simp [intOf]; omega
          · rw [decide_eq_false hbb]
            have ST := Lib.hid (hst.out.a HX.out hbb)
            rw [← HG.out] at ST
            clear hbb
            cases gn with
            | true =>
              have ST2 : Hid (PutSt l (ep, es, em, ed, et, ez) (i + 1) false acc) := Lib.hid (by have := ST.out; simpa using this)
              go_wp2_with fail
              go_roundw
              case rel => exact ⟨i + 1, false, acc, by omega, by go_num, rfl, O3, ST2, B3⟩
              case measure => simp [intOf]; omega
            | false =>
              have ST2 : Hid (PutSt l (ep, es, em, ed, et, ez) (i + 1) false (acc ++ [(xp, xs, xm, xd, xt, xz)])) := Lib.hid (by have := ST.out; simpa using this)
              have hown7 := Lib.hid (O3.out.alloc (.cells #[.string xp, .int .i64 xs, .int .i64 xm, .string xd, .int .i64 xt, .int .i64 xz] 73))
              have hnews7 := Lib.hid (news_one w3 #[.string xp, .int .i64 xs, .int .i64 xm, .string xd, .int .i64 xt, .int .i64 xz] 73 w3.heap.size (by simp))
              go_wp2_with (at_builtin; refine wpList_append_own _ rfl _ _ 51 rfl B 73 i0 (.agg #[.string ⟨#[]⟩, .int .i64 0, .int .i64 0, .string ⟨#[]⟩, .int .i64 0, .int .i64 0]) 6 64 Tryz.underlying51 hi hz0 hz1 hz2 rfl (by decide) _ _ _ rfl hown7.out ⟨w3.heap.size, 0, none⟩ 1 1 [.string xp, .int .i64 xs, .int .i64 xm, .string xd, .int .i64 xt, .int .i64 xz] rfl rfl hnews7.out ?a71 ?a72 ?a73 ?a74 ?_)
              case a71 => first | (simp [Value.oneCell']; done) | (intro u hu; simp at hu; rcases hu with rfl | rfl | rfl | rfl | rfl | rfl <;> rfl)
              case a72 => unfold maxLen; omega
              case a73 => omega
              case a74 => first | omega | (rw [World.size_alloc]; omega)
              intro v7 w7 ho7 hg7 _
              have B7 := Lib.hid ((B3.out.alloc (by omega) (.cells #[.string xp, .int .i64 xs, .int .i64 xm, .string xd, .int .i64 xt, .int .i64 xz] 73)).grown hg7 (by rw [World.size_alloc]; omega) (fun j hj => (O3.out.lt j (by first | exact hj | simpa [Value.ownBlock] using hj)).1))
              have O7 : Hid (w7.ownsRow B 73 6 v7 (acc ++ [(xp, xs, xm, xd, xt, xz)]).length ((acc ++ [(xp, xs, xm, xd, xt, xz)]).flatMap cE)) := Lib.hid (by rw [flat_snoc, List.length_append]; exact ho7)
              clear ho7 hg7 hown7 hnews7
              go_wp2_with fail
              go_roundw
              case rel => exact ⟨i + 1, false, _, by omega, by go_num, rfl, O7, ST2, B7⟩
              case measure => simp [intOf]; omega
    · obtain rfl : i = l.length := by omega
      have HE := Lib.hid hst.out.end_
      have QE2 : eBlk wr q (ep, es, em, ed, et, ez) := HQE0.out.below hb.out hq0
      obtain ⟨y0, y1, y2, y3, y4, y5⟩ := QE2.cells
      have yl := QE2.lt
      obtain ⟨A5, c5', rfl⟩ := own_form hown.out
      clear QE2
      cases b with
      | true =>
        have HE2 : Hid (putL l (ep, es, em, ed, et, ez) = acc) := Lib.hid (by rw [HE.out]; rfl)
        go_wp2_with fail
        go_ret
        exact ⟨_, rfl, by rw [HE2.out]; exact own_base hown.out hwB.out, HB0.out.trans (hb.out.mono hwB.out)⟩
      | false =>
        have HE2 : Hid (putL l (ep, es, em, ed, et, ez) = acc ++ [(ep, es, em, ed, et, ez)]) := Lib.hid (by rw [HE.out]; rfl)
        have hown4 := Lib.hid (hown.out.alloc (.cells #[.string ep, .int .i64 es, .int .i64 em, .string ed, .int .i64 et, .int .i64 ez] 73))
        have hnews := Lib.hid (news_one wr #[.string ep, .int .i64 es, .int .i64 em, .string ed, .int .i64 et, .int .i64 ez] 73 wr.heap.size (by simp))
        go_wp2_with (at_builtin; refine wpList_append_own _ rfl _ _ 51 rfl B 73 i0 (.agg #[.string ⟨#[]⟩, .int .i64 0, .int .i64 0, .string ⟨#[]⟩, .int .i64 0, .int .i64 0]) 6 64 Tryz.underlying51 hi hz0 hz1 hz2 rfl (by decide) _ _ _ rfl hown4.out ⟨wr.heap.size, 0, none⟩ 1 1 [.string ep, .int .i64 es, .int .i64 em, .string ed, .int .i64 et, .int .i64 ez] rfl rfl hnews.out ?z1 ?z2 ?z3 ?z4 ?_)
        case z1 => first | (simp [Value.oneCell']; done) | (intro u hu; simp at hu; rcases hu with rfl | rfl | rfl | rfl | rfl | rfl <;> rfl)
        case z2 => unfold maxLen; omega
        case z3 => omega
        case z4 => first | omega | (rw [World.size_alloc]; omega)
        intro v11 w11 hown11 hg11 _
        have B11 := Lib.hid ((hb.out.alloc hBs (.cells #[.string ep, .int .i64 es, .int .i64 em, .string ed, .int .i64 et, .int .i64 ez] 73)).grown hg11 (by rw [World.size_alloc]; omega) (fun j hj => (hown.out.lt j hj).1))
        have O11 : Hid (w11.ownsRow B 73 6 v11 (putL l (ep, es, em, ed, et, ez)).length ((putL l (ep, es, em, ed, et, ez)).flatMap cE)) := Lib.hid (by rw [HE2.out, flat_snoc, List.length_append]; exact hown11)
        clear hown11 hg11 hown4 hnews
        go_wp2_with fail
        go_ret
        exact ⟨_, rfl, own_base O11.out hwB.out, HB0.out.trans (B11.out.mono hwB.out)⟩
end Go.Proofs.YtplleaimmmanhaaGreatDoor
namespace Go.Proofs.YtplleaimmmanhaaGreatDoor
open Go Go.RowKit

structure OkE (l : List En) : Prop where
  rise : RiseE l
  own : ∀ x ∈ l, ownE x = 0
  apart : ∀ x ∈ l, ∀ y ∈ l, ec x y ≠ 0 → exB x y = false ∧ clsB x y = false
theorem exB_symm (x y : En) : exB x y = exB y x := by
  unfold exB
  by_cases h1 : y.1 = x.1
  · by_cases h2 : y.2.1 = x.2.1
    · simp [h1, h2]
    · have h3 : ¬ x.2.1 = y.2.1 := fun e => h2 e.symm
      simp [h1, h2, h3, Bool.or_comm]
  · have h3 : ¬ x.1 = y.1 := fun e => h1 e.symm
    simp [h1, h3]
theorem clsB_symm (x y : En) : clsB x y = clsB y x := cls_symm _ _
theorem ec_ne {x y : En} (h : ec x y < 0) : ec y x ≠ 0 := fun h0 => by
  have := ec_zero.1 h0
  rw [ec_zero.2 ⟨this.1.symm, this.2.symm⟩] at h; omega
theorem OkE.check {l : List En} (h : OkE l) (hl : l.length ≤ 256) : chkE l = none := chkE_good (by omega) fun i f hf => by
  have hi := (List.getElem?_eq_some_iff.1 hf).1
  have hfm := List.mem_of_getElem? hf
  have hlt : ∀ y ∈ l.take i, ec y f < 0 := fun y hy => by
    obtain ⟨_, rfl⟩ := List.getElem?_eq_some_iff.1 hf
    obtain ⟨j, hj, rfl⟩ := List.getElem_of_mem hy
    rw [List.length_take] at hj
    rw [List.getElem_take]
    exact List.pairwise_iff_getElem.1 h.rise j i (by omega) hi (by omega)
  rw [wrE_rest (h.own f hfm)]
  have h1 : lateE (l.take i) f = false := by
    unfold lateE
    split
    · rfl
    · rename_i g hg
      have := hlt g (List.mem_of_getLast? hg)
      exact decide_eq_false (by omega)
  have h2 : (l.take i).any (exB f) = false := List.any_eq_false.2 fun y hy => by
    rw [(h.apart f hfm y (List.mem_of_mem_take hy) (ec_ne (hlt y hy))).1]; simp
  have h3 : (l.take i).any (fun z => cls z.1.data.toList f.1.data.toList) = false := List.any_eq_false.2 fun y hy => by
    have := (h.apart f hfm y (List.mem_of_mem_take hy) (ec_ne (hlt y hy))).2
    unfold clsB at this
    rw [this]; simp
  rw [h1, h2, h3]; rfl
theorem OkE.nil : OkE [] := ⟨List.Pairwise.nil, (fun _ h => by cases h), (fun _ h => by cases h)⟩
theorem putL_mem {l : List En} {e x : En} (h : x ∈ putL l e) : x = e ∨ x ∈ keepE l e := by
  unfold putL at h
  rcases List.mem_append.1 h with h | h
  · exact .inr (List.mem_filter.1 h).1
  · rcases List.mem_cons.1 h with h | h
    · exact .inl h
    · exact .inr (List.mem_filter.1 h).1
theorem keep_apart {l : List En} {e x : En} (h : x ∈ keepE l e) : x ∈ l ∧ exB e x = false ∧ clsB e x = false := by
  obtain ⟨h1, h2⟩ := List.mem_filter.1 h
  have h3 : goneB e x = false := by simpa using h2
  unfold goneB at h3
  rw [Bool.or_eq_false_iff] at h3
  exact ⟨h1, h3.1, h3.2⟩
theorem OkE.put {l : List En} {e : En} (h : OkE l) (he : ownE e = 0) (hr : RiseE (putL l e)) : OkE (putL l e) where
  rise := hr
  own := fun x hx => by
    rcases putL_mem hx with rfl | hx
    · exact he
    · exact h.own x (keep_apart hx).1
  apart := fun x hx y hy hne => by
    rcases putL_mem hx with rfl | hx
    · rcases putL_mem hy with rfl | hy
      · exact absurd (ec_zero.2 ⟨rfl, rfl⟩) hne
      · exact (keep_apart hy).2
    · rcases putL_mem hy with rfl | hy
      · rw [exB_symm, clsB_symm]; exact (keep_apart hx).2
      · exact h.apart x (keep_apart hx).1 y (keep_apart hy).1 hne
theorem OkE.drop {l : List En} (h : OkE l) (q : ByteArray) : OkE (dropE l q) where
  rise := List.Pairwise.filter _ h.rise
  own := fun x hx => h.own x (List.mem_filter.1 hx).1
  apart := fun x hx y hy hne => h.apart x (List.mem_filter.1 hx).1 y (List.mem_filter.1 hy).1 hne
theorem dropE_sized {l : List En} (h : SizedDE l) (q : ByteArray) : SizedDE (dropE l q) := fun x hx => h x (List.mem_filter.1 hx).1
theorem dropE_len (l : List En) (q : ByteArray) : (dropE l q).length ≤ l.length := List.length_filter_le _ _
theorem one_own {x : En} (h : chkE [x] = none) : ownE x = 0 := by
  have := chkE_at h (i := 0) (f := x) rfl
  by_cases h0 : ownE x = 0
  · exact h0
  · rw [wrE_own h0] at this; exact this
theorem reads_one {w : World} {ad : Addr} {c : Nat} {x : En} (hc : 1 ≤ c) (hm : c ≤ maxLen) (h : w.cell? ad = some (.string x.1) ∧ w.cell? ⟨ad.block, ad.off + 1, none⟩ = some (.int .i64 x.2.1) ∧ w.cell? ⟨ad.block, ad.off + 2, none⟩ = some (.int .i64 x.2.2.1) ∧ w.cell? ⟨ad.block, ad.off + 3, none⟩ = some (.string x.2.2.2.1) ∧ w.cell? ⟨ad.block, ad.off + 4, none⟩ = some (.int .i64 x.2.2.2.2.1) ∧ w.cell? ⟨ad.block, ad.off + 5, none⟩ = some (.int .i64 x.2.2.2.2.2)) :
    Reads 6 cE w (.slice (some ad) 1 c) [x] :=
  ⟨some ad, c, rfl, hc, hm, (fun h => by cases h), fun a ha i y hy j u hu => by
    obtain rfl := Option.some.inj ha
    have hi : i = 0 := by have := (List.getElem?_eq_some_iff.1 hy).1; simp at this; omega
    subst hi
    obtain rfl : x = y := by simpa using hy
    obtain ⟨h0, h1, h2, h3, h4, h5⟩ := h
    match j, hu with
    | 0, hu => simp [cE] at hu; subst hu; simpa [adr, Addr.add_zero'] using h0
    | 1, hu => simp [cE] at hu; subst hu; simpa [adr, Addr.add_zero'] using h1
    | 2, hu => simp [cE] at hu; subst hu; simpa [adr, Addr.add_zero'] using h2
    | 3, hu => simp [cE] at hu; subst hu; simpa [adr, Addr.add_zero'] using h3
    | 4, hu => simp [cE] at hu; subst hu; simpa [adr, Addr.add_zero'] using h4
    | 5, hu => simp [cE] at hu; subst hu; simpa [adr, Addr.add_zero'] using h5
    | j + 6, hu => simp [cE] at hu⟩
end Go.Proofs.YtplleaimmmanhaaGreatDoor
namespace Go.Proofs.YtplleaimmmanhaaGreatDoor
open Go Go.RowKit

theorem prefixE {a b : List En} {k : Nat} (h : ∀ i, i < k → a[i]? = b[i]?) (h1 : k = a.length) (h2 : k = b.length) : a = b := List.ext_getElem? fun i => by
  rcases Nat.lt_or_ge i k with hi | hi
  · exact h i hi
  · rw [List.getElem?_eq_none (by omega), List.getElem?_eq_none (by omega)]
set_option maxRecDepth 100000 in
set_option maxHeartbeats 4000000 in
theorem allE_any (w : World) (v u : Value) (a b : List En) (h : Reads 6 cE w v a) (g : Reads 6 cE w u b) (hl : a.length ≤ 100000) :
    Calls Tryz.prog 33 #[v, u] w (FlagE (decide (a = b)) w) := by
  have OF := Lib.hid (ofE_any w v a h hl)
  obtain ⟨A, c, rfl⟩ := h.form
  obtain ⟨B, d, rfl⟩ := g.form
  have gn := g.len
  have hm2 : b.length ≤ 9223372036854775807 := by have := gn.2; unfold maxLen at this; omega
  have HB := Lib.hid g
  clear h g gn
  go_enter Tryz.func33, Tryz.ntmps33
  go_wp2_with fail
  refine OF.out.mono ?_
  rintro e w1 ⟨v1, rfl, o1, b1⟩
  have HA := Lib.hid (Reads.of_own cE_len o1)
  have HU := Lib.hid (HB.out.below b1)
  have B1 := Lib.hid b1
  obtain ⟨A1, c1, rfl⟩ := own_form o1
  clear o1 b1 OF HB
  by_cases hnm : a.length = b.length
  · have hi0 : ((a.length : Int) != (b.length : Int)) = false := by simp [hnm]
    have HN := Lib.hid hnm
    clear hnm
    go_wp2_with fail
    go_loopw [6] (fun s6 wr => ∃ k q : Nat, k ≤ a.length ∧ s6 = .int .i64 k ∧ Hid (∀ i, i < k → a[i]? = b[i]?) ∧ wr = w1.drewN q) (fun s6 _ => a.length - (intOf s6).toNat)
    case atStart => exact ⟨0, 0, Nat.zero_le _, rfl, Lib.hid (fun i hi => absurd hi (Nat.not_lt_zero _)), rfl⟩
    case round =>
      obtain ⟨k, q, hk, rfl, hp, rfl⟩ := hrel
      by_cases hlt : k < a.length
      · obtain ⟨x, hx⟩ : ∃ x, a[k]? = some x := ⟨_, List.getElem?_eq_getElem hlt⟩
        obtain ⟨y, hy⟩ : ∃ y, b[k]? = some y := ⟨_, List.getElem?_eq_getElem (by rw [← HN.out]; exact hlt)⟩
        obtain ⟨ad, rfl, c0, c1, c2, c3, c4, c5⟩ := Ents.at_ HA.out hx
        obtain ⟨ad2, rfl, d0, d1, d2, d3, d4, d5⟩ := Ents.at_ HU.out hy
        have HX := Lib.hid hx
        have HY := Lib.hid hy
        have k0 : (0 : Int) ≤ (k : Int) := Int.natCast_nonneg _
        have k1 : (k : Int) < (a.length : Int) := by omega
        have k2 : (k : Int) < (b.length : Int) := by have := HN.out; omega
        have HNE := Lib.hid (show x ≠ y → decide (a = b) = false from fun hne => decide_eq_false fun e => by
          rw [e, hy] at hx
          exact hne (Option.some.inj hx).symm)
        clear hx hy
        by_cases hxy : x = y
        · subst hxy
          obtain ⟨p, st, m, d, t, z⟩ := x
          go_wp2_with fail
          go_quiet (fail)
          go_wp2
          go_roundw
          case rel => exact ⟨k + 1, _, by omega, by go_num, Lib.hid (fun i hi => by
            rcases Nat.lt_or_ge i k with h1 | h1
            · exact hp.out i h1
            · obtain rfl : i = k := by omega
              rw [HX.out, HY.out]), rfl⟩
          case measure => simp [intOf]; omega
        · have HC := Lib.hid (HNE.out hxy)
          obtain ⟨p, st, m, d, t, z⟩ := x
          obtain ⟨p', st', m', d', t', z'⟩ := y
          by_cases hf : p = p'
          · subst hf
            by_cases hf : st = st'
            · subst hf
              by_cases hf : m = m'
              · subst hf
                by_cases hf : d = d'
                · subst hf
                  by_cases hf : t = t'
                  · subst hf
                    have hf : ¬ z = z' := fun e => hxy (by rw [e])
                    have e1 : (z == z') = false := by simpa using hf
                    clear hxy
                    go_wp2_with fail
                    go_quiet (fail)
                    go_wp2
                    go_ret
                    exact ⟨ret_b HC.out.symm, below_drewN (below_drewN B1.out _) _⟩
                  · have e1 : (t == t') = false := by simpa using hf
                    clear hxy
                    go_wp2_with fail
                    go_quiet (fail)
                    go_wp2
                    go_ret
                    exact ⟨ret_b HC.out.symm, below_drewN (below_drewN B1.out _) _⟩
                · have e1 : ¬ d.toList = d'.toList := fun e => hf (tl_eq e)
                  have e1' : (d.toList == d'.toList) = false := by simpa using e1
                  clear hf
                  clear hxy
                  go_wp2_with fail
                  go_quiet (fail)
                  go_wp2
                  go_ret
                  exact ⟨ret_b HC.out.symm, below_drewN (below_drewN B1.out _) _⟩
              · have e1 : (m == m') = false := by simpa using hf
                clear hxy
                go_wp2_with fail
                go_quiet (fail)
                go_wp2
                go_ret
                exact ⟨ret_b HC.out.symm, below_drewN (below_drewN B1.out _) _⟩
            · have e1 : (st == st') = false := by simpa using hf
              clear hxy
              go_wp2_with fail
              go_quiet (fail)
              go_wp2
              go_ret
              exact ⟨ret_b HC.out.symm, below_drewN (below_drewN B1.out _) _⟩
          · have e1 : ¬ p.toList = p'.toList := fun e => hf (tl_eq e)
            have e1' : (p.toList == p'.toList) = false := by simpa using e1
            clear hf
            clear hxy
            go_wp2_with fail
            go_quiet (fail)
            go_wp2
            go_ret
            exact ⟨ret_b HC.out.symm, below_drewN (below_drewN B1.out _) _⟩
      · obtain rfl : k = a.length := by omega
        have HC : Hid (decide (a = b) = true) := Lib.hid (decide_eq_true (prefixE hp.out rfl HN.out))
        go_wp2
        go_ret
        exact ⟨ret_b HC.out.symm, below_drewN B1.out _⟩
  · have hi0 : ((a.length : Int) != (b.length : Int)) = true := by simp; omega
    have hi1 : ¬ (a.length : Int) = (b.length : Int) := by omega
    have HC : Hid (decide (a = b) = false) := Lib.hid (decide_eq_false fun e => hnm (by rw [e]))
    clear hnm
    go_wp2_with fail
    go_ret
    exact ⟨ret_b HC.out.symm, B1.out⟩
end Go.Proofs.YtplleaimmmanhaaGreatDoor
namespace Go.Proofs.YtplleaimmmanhaaGreatDoor
open Go Go.RowKit

def FewToE (l : List En) (w : World) (e : Ending) (w' : World) : Prop := ∃ b : Bool, e = .returned (.bool b) ∧ (b = true → l.length ≤ 80 ∧ ∀ x ∈ l, x.1.size ≤ 100 ∧ x.2.2.2.1.size ≤ 5000) ∧ ∃ q, w' = w.drewN q
set_option maxHeartbeats 4000000 in
theorem fewE_any (w : World) (v : Value) (l : List En) (h : Reads 6 cE w v l) : Calls Tryz.prog 24 #[v] w (FewToE l w) := by
  obtain ⟨A, c, rfl⟩ := h.form
  have hn := h.len
  have hnm : l.length ≤ 9223372036854775807 := by have := hn.2; unfold maxLen at this; omega
  have HO := Lib.hid h
  clear h hn
  by_cases hbig : 80 < l.length
  · have hb : (80 : Int) < (l.length : Int) := by omega
    go_enter Tryz.func24, Tryz.ntmps24
    go_wp2
    go_ret
    exact ⟨false, rfl, (fun h => by cases h), 0, rfl⟩
  · have hb : ¬ (80 : Int) < (l.length : Int) := by omega
    have HB := Lib.hid hbig
    go_enter Tryz.func24, Tryz.ntmps24
    go_wp2
    go_loopw [3] (fun s3 wr => ∃ k : Nat, k ≤ l.length ∧ s3 = .int .i64 k ∧ Hid (∀ x ∈ l.take k, x.1.size ≤ 100 ∧ x.2.2.2.1.size ≤ 5000) ∧ SameW wr w) (fun s3 _ => l.length - (intOf s3).toNat)
    case atStart => exact ⟨0, Nat.zero_le _, rfl, Lib.hid (fun x hx => by simp at hx), rfl⟩
    case round =>
      obtain ⟨k, hk, rfl, hp, hw⟩ := hrel
      unfold SameW at hw
      subst hw
      by_cases hlt : k < l.length
      · obtain ⟨x, hx⟩ : ∃ x, l[k]? = some x := ⟨_, List.getElem?_eq_getElem hlt⟩
        obtain ⟨ad, rfl, c0, c1, c2, c3, c4, c5⟩ := Ents.at_ HO.out hx
        have HT := Lib.hid (take_snoc hx)
        obtain ⟨p, st, m, d, tm, sz⟩ := x
        have k0 : (0 : Int) ≤ (k : Int) := Int.natCast_nonneg _
        have k1 : (k : Int) < (l.length : Int) := by omega
        clear hx
        by_cases h1 : 100 < p.size
        · have h1' : (100 : Int) < (p.size : Int) := by omega
          go_wp2
          go_ret
          exact ⟨false, rfl, (fun h => by cases h), 0, rfl⟩
        · have h1' : ¬ (100 : Int) < (p.size : Int) := by omega
          by_cases h2 : 5000 < d.size
          · have h2' : (5000 : Int) < (d.size : Int) := by omega
            go_wp2
            go_ret
            exact ⟨false, rfl, (fun h => by cases h), 0, rfl⟩
          · have h2' : ¬ (5000 : Int) < (d.size : Int) := by omega
            have HP : Hid (∀ x ∈ l.take (k + 1), x.1.size ≤ 100 ∧ x.2.2.2.1.size ≤ 5000) := Lib.hid (by
              rw [HT.out]
              intro x hx
              rcases List.mem_append.1 hx with hx | hx
              · exact hp.out x hx
              · rw [List.mem_singleton.1 hx]; exact ⟨Nat.not_lt.1 h1, Nat.not_lt.1 h2⟩)
            go_wp2
            go_roundw
            case rel => exact ⟨k + 1, by omega, by go_num, HP, rfl⟩
            case measure => simp [intOf]; omega
      · obtain rfl : k = l.length := by omega
        have HP := Lib.hid (show ∀ x ∈ l, x.1.size ≤ 100 ∧ x.2.2.2.1.size ≤ 5000 by have := hp.out; rw [List.take_length] at this; exact this)
        go_wp2
        go_ret
        exact ⟨true, rfl, fun _ => ⟨Nat.not_lt.1 HB.out, HP.out⟩, 0, rfl⟩
end Go.Proofs.YtplleaimmmanhaaGreatDoor
namespace Go.Proofs.YtplleaimmmanhaaGreatDoor
open Go Go.RowKit

def hvl : List Nat := [0, 498536548, 997073096, 651767980, 1994146192, 1802195444, 1303535960, 1342533948, 3988292384, 4027552580, 3604390888, 3412177804, 2607071920, 2262029012, 2685067896, 3183342108]
def hv (i : Nat) : Nat := hvl.getD i 0
theorem hv_lt (i : Nat) : hv i < 4294967296 := by
  rcases Nat.lt_or_ge i 16 with h | h
  · have : ∀ j : Fin 16, hv j.val < 4294967296 := by decide +kernel
    exact this ⟨i, h⟩
  · unfold hv
    rw [List.getD_eq_getElem?_getD, List.getElem?_eq_none (by simpa [hvl] using h)]
    decide
/-- The listed table's cells. -/
def Halves (w : World) : Prop := 1 < w.heap.size ∧ ∀ i, i < 16 → w.cell? ⟨1, i, none⟩ = some (.int .u32 (hv i))
theorem Halves.below {w w' : World} {B : Nat} (h : Halves w) (hb : Below B w w') (hB : 1 < B) : Halves w' :=
  ⟨Nat.lt_of_lt_of_le h.1 hb.size, fun i hi => by
    have := h.2 i hi
    unfold World.cell? at this ⊢
    rw [hb.block _ hB]; exact this⟩

def halfS (s : Nat) : Nat := hv (s % 16) ^^^ (s / 16)
theorem halfS_lt {s : Nat} (h : s < 4294967296) : halfS s < 4294967296 := by
  have := Nat.xor_lt_two_pow (n := 32) (hv_lt (s % 16)) (show s / 16 < 2 ^ 32 by omega)
  exact this
theorem xor_lt32 {a b : Nat} (ha : a < 4294967296) (hb : b < 4294967296) : a ^^^ b < 4294967296 := Nat.xor_lt_two_pow (n := 32) ha hb
def byteS (s c : Nat) : Nat := halfS (halfS (s ^^^ c))
theorem byteS_lt {s c : Nat} (h : s < 4294967296) (hc : c < 256) : byteS s c < 4294967296 := halfS_lt (halfS_lt (xor_lt32 h (by omega)))
def crcF (l : List UInt8) : Nat := l.foldl (fun s c => byteS s c.toNat) 4294967295
theorem foldS_lt : ∀ (l : List UInt8) (s : Nat), s < 4294967296 → l.foldl (fun s c => byteS s c.toNat) s < 4294967296
  | [], _, h => h
  | c :: l, _, h => foldS_lt l _ (byteS_lt h c.toNat_lt)
theorem crcF_lt (l : List UInt8) : crcF l < 4294967296 := foldS_lt l _ (by decide)
theorem crcF_take {l : List UInt8} {k : Nat} {c : UInt8} (h : l[k]? = some c) : crcF (l.take (k + 1)) = byteS (crcF (l.take k)) c.toNat := by
  have hlt := (List.getElem?_eq_some_iff.1 h).1
  have e := (List.getElem?_eq_some_iff.1 h).2
  unfold crcF
  rw [List.take_succ_eq_append_getElem hlt, e, List.foldl_append]; rfl
def crc (l : List UInt8) : Nat := 4294967295 - crcF l
theorem crc_lt (l : List UInt8) : crc l < 4294967296 := by unfold crc; omega
/-- A number of 32 bits, its low byte first. -/
def le4 (n : Nat) : List UInt8 := [UInt8.ofNat (n % 256), UInt8.ofNat (n / 256 % 256), UInt8.ofNat (n / 65536 % 256), UInt8.ofNat (n / 16777216 % 256)]
def seald (l : List UInt8) : List UInt8 := l ++ le4 (crc l)
theorem seald_len (l : List UInt8) : (seald l).length = l.length + 4 := by simp [seald, le4]
theorem le4_at (n : Nat) : ∀ i, i < 4 → (le4 n)[i]? = some (UInt8.ofNat (n / 2 ^ (8 * i) % 256))
  | 0, _ => by simp [le4]
  | 1, _ => by simp [le4]
  | 2, _ => by simp [le4]
  | 3, _ => by simp [le4]
  | i + 4, h => absurd h (by omega)

/-! Bits. -/
theorem u32_xorN {a b : Nat} (ha : a < 4294967296) (hb : b < 4294967296) : bits .xor .u32 (a : Int) (b : Int) = ((a ^^^ b : Nat) : Int) := u32_xor_nat a b ha hb
theorem u32_and15 {n : Nat} (h : n < 4294967296) : bits .and .u32 (n : Int) 15 = ((n % 16 : Nat) : Int) := by
  have := bits_mask .u32 32 (by decide) (fun n h0 h1 => by rw [IntKind.wrap_u32']; omega) 4 (by decide) (n : Int) (by omega) (by exact_mod_cast h)
  rw [show ((2 : Int) ^ 4 - 1) = 15 from rfl] at this
  rw [this]; omega
theorem u32_notN {e : Nat} (h : e < 4294967296) : bits .xor .u32 IntKind.u32.max (e : Int) = ((4294967295 - e : Nat) : Int) := by
  have hx : e ^^^ 4294967295 = 4294967295 - e := by
    have e0 := BitVec.xor_allOnes (x := BitVec.ofNat 32 e)
    have e2 := congrArg BitVec.toNat e0
    rw [BitVec.toNat_xor, BitVec.toNat_not, BitVec.toNat_ofNat, BitVec.toNat_allOnes, Nat.mod_eq_of_lt (by simpa using h)] at e2
    exact e2
  rw [show IntKind.u32.max = ((4294967295 : Nat) : Int) from rfl, u32_xor_nat 4294967295 e (by decide) h, Nat.xor_comm, hx]
end Go.Proofs.YtplleaimmmanhaaGreatDoor
namespace Go.Proofs.YtplleaimmmanhaaGreatDoor
open Go Go.RowKit

def cU (b : UInt8) : List Value := [.int .u8 (b.toNat : Int)]
theorem cU_len (b : UInt8) : (cU b).length = 1 := rfl
theorem cU_flat : ∀ l : List UInt8, l.flatMap cU = bc l
  | [] => rfl
  | b :: l => by rw [List.flatMap_cons, cU_flat l]; rfl
abbrev ReadsB (w : World) (v : Value) (l : List UInt8) : Prop := Reads 1 cU w v l
theorem ReadsB.of_own {w : World} {B : Nat} {v : Value} {l : List UInt8} (h : BOwn w B v l) : ReadsB w v l := Reads.of_own (base := B) (e := 5) cU_len (by rw [cU_flat]; exact h)
theorem ReadsB.at_ {w : World} {A : Option Addr} {n c : Nat} {l : List UInt8} (h : ReadsB w (.slice A n c) l) {i : Nat} {b : UInt8} (hi : l[i]? = some b) :
    ∃ ad : Addr, A = some ad ∧ w.cell? (ad.add i) = some (.int .u8 (b.toNat : Int)) := by
  obtain ⟨ad, ha, hc⟩ := Reads.at_ h hi
  refine ⟨ad, ha, ?_⟩
  have := hc 0 _ rfl
  unfold adr at this
  rwa [Nat.mul_one] at this

set_option maxRecDepth 100000 in
set_option maxHeartbeats 2000000 in
theorem sum_any (w : World) (g : Nat) (v : Value) (l : List UInt8) (hh : Halves w) (hg : Blk w g 54 #[v]) (hr : ReadsB w v l) :
    Calls Tryz.prog 117 #[.slice (some ⟨g, 0, none⟩) 1 1] w fun e w' => e = .returned (.int .u32 (crc l : Nat)) ∧ Below w.heap.size w w' := by
  obtain ⟨A, c, rfl⟩ := hr.form
  have hlen := hr.len
  have hlc : l.length ≤ c := hlen.2.1
  have hcm : c ≤ 9223372036854775807 := by have := hlen.2.2; unfold maxLen at this; omega
  have HH := Lib.hid hh
  have HG := Lib.hid hg
  have HR := Lib.hid hr
  clear hh hg hr hlen
  go_enter Tryz.func117, Tryz.ntmps117
  go_wp2_with fail
  go_loopw [3, 10] (fun s3 s10 wr => (s3 = .int .u32 4294967295 ∧ s10 = .int .i64 0 ∧ Below w.heap.size w wr) ∨ (s3 = .int .u32 (crcF l : Nat) ∧ s10 = .int .i64 1 ∧ Below w.heap.size w wr)) (fun _ s10 _ => 1 - (intOf s10).toNat)
  case atStart => exact .inl ⟨rfl, rfl, Below.refl _ _⟩
  case round =>
    rcases hrel with ⟨rfl, rfl, hb⟩ | ⟨rfl, rfl, hb⟩
    · have x0 : wr.cell? ⟨g, 0, none⟩ = some (.slice A l.length c) := by
        have := (HG.out.below hb HG.out.lt).cell 0
        simpa using this
      have HB := Lib.hid hb
      clear hb
      go_wp2_with fail
      go_loopw [3, 16] (fun s3 s16 wi => ∃ j : Nat, j ≤ l.length ∧ s16 = .int .i64 j ∧ s3 = .int .u32 (crcF (l.take j) : Nat) ∧ Below w.heap.size w wi) (fun _ s16 _ => l.length - (intOf s16).toNat)
      case atStart => exact ⟨0, Nat.zero_le _, rfl, rfl, HB.out⟩
      case round =>
        obtain ⟨j, hj, rfl, rfl, hbi⟩ := hrel
        by_cases hlt : j < l.length
        · obtain ⟨b, hx⟩ : ∃ b, l[j]? = some b := ⟨_, List.getElem?_eq_getElem hlt⟩
          obtain ⟨ad, rfl, c0⟩ := ReadsB.at_ (HR.out.below hbi) hx
          have HS := (HH.out.below hbi HH.out.1).2
          have HT := Lib.hid (crcF_take hx)
          have hsl := crcF_lt (l.take j)
          obtain ⟨s, hs⟩ : ∃ s, s = crcF (l.take j) := ⟨_, rfl⟩
          rw [← hs] at HT hsl ⊢
          obtain ⟨y, hy⟩ : ∃ y, y = b.toNat := ⟨_, rfl⟩
          have hyl : y < 256 := by rw [hy]; exact b.toNat_lt
          rw [← hy] at HT c0
          obtain ⟨s1, h1⟩ : ∃ s1, s1 = s ^^^ y := ⟨_, rfl⟩
          have l1 : s1 < 4294967296 := by rw [h1]; exact xor_lt32 hsl (by omega)
          obtain ⟨s2, h2⟩ : ∃ s2, s2 = halfS s1 := ⟨_, rfl⟩
          have l2 : s2 < 4294967296 := by rw [h2]; exact halfS_lt l1
          obtain ⟨s4, h4⟩ : ∃ s4, s4 = halfS s2 := ⟨_, rfl⟩
          have l4 : s4 < 4294967296 := by rw [h4]; exact halfS_lt l2
          have e1 : bits .xor .u32 (s : Int) (y : Int) = (s1 : Int) := by rw [u32_xorN hsl (by omega), h1]
          obtain ⟨i1, hi1⟩ : ∃ i1, i1 = s1 % 16 := ⟨_, rfl⟩
          obtain ⟨i2, hi2⟩ : ∃ i2, i2 = s2 % 16 := ⟨_, rfl⟩
          have a1 : bits .and .u32 (s1 : Int) 15 = (i1 : Int) := by rw [u32_and15 l1, hi1]
          have a2 : bits .and .u32 (s2 : Int) 15 = (i2 : Int) := by rw [u32_and15 l2, hi2]
          have t1 := HS i1 (by omega)
          have t2 := HS i2 (by omega)
          have f1 : bits .xor .u32 (hv i1 : Int) ((s1 : Int) / 16) = (s2 : Int) := by
            rw [show (s1 : Int) / 16 = ((s1 / 16 : Nat) : Int) by omega, u32_xorN (hv_lt _) (by omega), h2, hi1]; rfl
          have f2 : bits .xor .u32 (hv i2 : Int) ((s2 : Int) / 16) = (s4 : Int) := by
            rw [show (s2 : Int) / 16 = ((s2 / 16 : Nat) : Int) by omega, u32_xorN (hv_lt _) (by omega), h4, hi2]; rfl
          have HE : Hid (s4 = crcF (l.take (j + 1))) := Lib.hid (by rw [HT.out, h4, h2, h1]; rfl)
          have i10 : i1 < 16 := by omega
          have i20 : i2 < 16 := by omega
          have HBI := Lib.hid hbi
          have j0 : (0 : Int) ≤ (j : Int) := Int.natCast_nonneg _
          have j1 : (j : Int) < (l.length : Int) := by omega
          generalize hv i1 = z1 at t1 f1
          generalize hv i2 = z2 at t2 f2
          clear hs hy h1 h2 h4 hi1 hi2 HS HT hx hbi
          go_wp2_with fail
          go_roundw
          case rel => exact ⟨j + 1, hlt, by go_num, by rw [← HE.out], HBI.out⟩
          case measure => simp [intOf]; omega
        · obtain rfl : j = l.length := by omega
          rw [List.take_length]
          go_wp2_with fail
          go_roundw
          case rel => exact .inr ⟨rfl, rfl, hbi⟩
          case measure => simp [intOf]
    · have HN := Lib.hid (u32_notN (crcF_lt l))
      go_wp2_with fail
      go_ret
      exact ⟨by rw [HN.out]; rfl, hb⟩
end Go.Proofs.YtplleaimmmanhaaGreatDoor
