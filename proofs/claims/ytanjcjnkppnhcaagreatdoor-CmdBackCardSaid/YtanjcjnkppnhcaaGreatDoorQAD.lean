/-
  todo.Parse: any text as steps, or the first line that is none.
  cmd: the verbs, a verb's place, a refusal; which fields a verb has.
  names.Good and the document's Good: whether a text may be a branch's name.
-/
import Derived.Test.YtanjcjnkppnhcaaGreatDoorQAC
import Derived.Test.YtanjcjnkppnhcaaGreatDoorQAB
import Derived.Lib.Hide
import Derived.LoopTactic
import Derived.WalkSmall

namespace Go.Proofs.YtanjcjnkppnhcaaGreatDoor
open Go Go.RowKit

def parseP : List (List UInt8) → Nat → List Fl → (List Fl) ⊕ (Nat × Int)
  | [], _, acc => .inl acc
  | l :: ls, i, acc =>
    if (lineP l).2.2 ≠ 0 then .inr (i, (lineP l).2.2)
    else if (lineP l).2.1 = false then parseP ls (i + 1) acc
    else if acc.length = 32 then .inr (32, 4)
    else parseP ls (i + 1) (acc ++ [(lineP l).1])
def bLine : ByteArray := ⟨#[108, 105, 110, 101]⟩
def FaultOf (F : Nat) (p : ByteArray) (n e : Int) (w : World) : Prop := w.heap[F]? = some (.cells #[.string p, .int .i64 n, .iface 73 (.int .i64 e)] 78 (0, 0))
def ParsedTo (r : (List Fl) ⊕ (Nat × Int)) (w : World) (e : Ending) (w' : World) : Prop :=
  (∃ xs u, r = .inl xs ∧ e = .returned (.tuple #[u, .nilIface]) ∧ w'.ownsRow w.heap.size 41 3 u xs.length (xs.flatMap cF) ∧ xs.length ≤ 32 ∧ Below w.heap.size w w') ∨
  ∃ i k F, r = .inr (i, k) ∧ e = .returned (.tuple #[.slice none 0 0, .iface 76 (.pointer (some ⟨F, 0, none⟩))]) ∧ w.heap.size ≤ F ∧ FaultOf F bLine i k w' ∧ Below w.heap.size w w'
theorem reads_one_step {w : World} {g : Nat} (x : Fl) (z : Blk w g 41 #[.string x.1, .int .i64 x.2.1, .string x.2.2]) : Reads 3 cF w (.slice (some ⟨g, 0, none⟩) 1 1) [x] := by
  refine ⟨some ⟨g, 0, none⟩, 1, rfl, Nat.le_refl _, by decide, by simp, fun ad hA i y hy j u hu => ?_⟩
  obtain rfl := Option.some.inj hA
  match i, hy with
  | 0, hy =>
    simp at hy
    subst hy
    match j, hu with
    | 0, hu => simp [cF] at hu; subst hu; exact z.cell 0
    | 1, hu => simp [cF] at hu; subst hu; exact z.cell 1
    | 2, hu => simp [cF] at hu; subst hu; exact z.cell 2
    | j + 3, hu => simp [cF] at hu
  | i + 1, hy => simp at hy
theorem drop_consB {α : Type} {l : List α} {k : Nat} {x : α} (h : l[k]? = some x) : l.drop k = x :: l.drop (k + 1) := by
  obtain ⟨hk, rfl⟩ := List.getElem?_eq_some_iff.1 h
  exact List.drop_eq_getElem_cons hk
theorem own_lower {w : World} {B B' k n : Nat} {e : TypeId} {v : Value} {xs : List Value} (h : w.ownsRow B e k v n xs) (hb : B' ≤ B) : w.ownsRow B' e k v n xs := ⟨h.1, h.2.imp id fun ⟨g, cap, cur, a, b, r⟩ => ⟨g, cap, cur, a, Nat.le_trans hb b, r⟩⟩
set_option maxRecDepth 100000 in
set_option maxHeartbeats 4000000 in
theorem parse_any (s : ByteArray) (w : World) (m : Int) (hm : w.cell? ⟨1, 0, none⟩ = some (.int .i64 m)) (hs : s.size ≤ 1000000) :
    Calls Tryz.prog 9 #[.string s] w (ParsedTo (parseP (nls s.data.toList) 0 []) w) := by
  have SP := Lib.hid (Tryz.strings_Split s ⟨#[10]⟩ m w (by omega) hm (by decide))
  have LN := splitB_len s
  have LS := splitB_nls s
  obtain ⟨L, hL⟩ : ∃ L, L = Lib.splitB ⟨#[10]⟩ 0 (Lib.countB s ⟨#[10]⟩) s := ⟨_, rfl⟩
  obtain ⟨R, hR⟩ : ∃ R, R = parseP (nls s.data.toList) 0 [] := ⟨_, rfl⟩
  rw [← hR]
  rw [← hL] at SP LN LS
  rw [← LN] at SP
  have HR0 := Lib.hid (show parseP ((L.drop 0).map (·.data.toList)) 0 [] = R by rw [List.drop_zero, LS, hR])
  have HSZ := Lib.hid (show ∀ x ∈ L, x.size ≤ 9223372036854775807 from fun x hx => by
    have h1 : x.data.toList ∈ nls s.data.toList := by rw [← LS]; exact List.mem_map_of_mem hx
    have h2 := nls_le h1
    rw [size_listB, size_listB] at h2
    omega)
  have HLN := Lib.hid (show L.length ≤ 1000001 by rw [← List.length_map (f := (·.data.toList)), LS]; have := nls_len s.data.toList; rw [size_listB] at this; omega)
  clear hL hR LN LS
  have ln0 : (0 : Int) ≤ (L.length : Int) := Int.natCast_nonneg _
  have ln1 : (L.length : Int) ≤ 1000001 := by have := HLN.out; omega
  have C0 := Lib.hid (show ∀ (k : Nat) (x : ByteArray), L[k]? = some x → (w.alloc (.cells (L.map Value.string).toArray 9)).cell? ⟨w.heap.size, k, none⟩ = some (.string x) from fun k x hx => by
    rw [cell_of_row _ _ k _ 9 (0, 0) (heap_alloc_new w _)]
    simp [hx])
  have B1 := Lib.hid ((Below.refl w.heap.size w).alloc (Nat.le_refl _) (.cells (L.map Value.string).toArray 9))
  have HW := Lib.hid (show w.heap.size < (w.alloc (.cells (L.map Value.string).toArray 9)).heap.size by simp)
  obtain ⟨gL, hgL⟩ : ∃ g, g = w.heap.size := ⟨_, rfl⟩
  have HGL := Lib.hid hgL
  go_enter Tryz.func9, Tryz.ntmps9
  go_wp2_with fail
  refine SP.out.mono ?_
  rintro e w1 ⟨rfl, hw1⟩
  rw [← hw1] at C0 B1 HW
  rw [← hgL] at C0 HW ⊢
  clear hw1 SP hgL
  go_wp2_with fail
  go_loopw [4, 5, 6, 7, 8, 9, 13] (fun s4 _ _ _ _ _ s13 wr => ∃ (k : Nat) (acc : List Fl), k ≤ L.length ∧ s13 = .int .i64 k ∧ Hid (acc.length ≤ 32) ∧ Hid (wr.ownsRow w1.heap.size 41 3 s4 acc.length (acc.flatMap cF)) ∧ Hid (parseP ((L.drop k).map (·.data.toList)) k acc = R) ∧ Hid (Below w1.heap.size w1 wr)) (fun _ _ _ _ _ _ s13 _ => L.length - (intOf s13).toNat)
  case atStart => exact ⟨0, [], Nat.zero_le _, rfl, Lib.hid (by simp), Lib.hid (World.ownsRow_nil _ _ _ _), HR0, Lib.hid (Below.refl _ _)⟩
  case round =>
    obtain ⟨k, acc, hk, rfl, HA, HO, HR, HB⟩ := hrel
    have k0 : (0 : Int) ≤ (k : Int) := Int.natCast_nonneg _
    by_cases hlt : k < L.length
    · obtain ⟨x, hx⟩ : ∃ x, L[k]? = some x := ⟨_, List.getElem?_eq_getElem hlt⟩
      have hki : (k : Int) < (L.length : Int) := by omega
      have c0 : wr.cell? ⟨gL, k, none⟩ = some (.string x) := (HB.out.cell (p := ⟨gL, k, none⟩) HW.out).trans (C0.out k x hx)
      have LA := Lib.hid (line_any x wr (HSZ.out x (List.mem_of_getElem? hx)))
      have HP := Lib.hid (show parseP (x.data.toList :: (L.drop (k + 1)).map (·.data.toList)) k acc = R by have := HR.out; rw [drop_consB hx] at this; exact this)
      have HLT := Lib.hid hlt
      unfold LineTo at LA
      unfold parseP at HP
      obtain ⟨o, ho⟩ : ∃ o, o = lineP x.data.toList := ⟨_, rfl⟩
      rw [← ho] at LA HP
      clear hx hlt hk HR ho
      go_wp2_with fail
      clear c0
      refine LA.out.mono ?_
      rintro e w2 ⟨rfl, b2⟩
      obtain ⟨⟨f1, f2, f3⟩, fb, fe⟩ := o
      dsimp only at HP ⊢
      have B2 := Lib.hid ((HB.out.trans (b2.mono HB.out.size)).alloc (Nat.le_trans HB.out.size b2.size) (.cells #[.string f1, .int .i64 f2, .string f3] 41))
      have O2 := Lib.hid ((own_keep HO.out b2).alloc (.cells #[.string f1, .int .i64 f2, .string f3] 41))
      clear b2 LA HO HB
      have Z2 := Lib.hid (Blk.new w2 41 #[.string f1, .int .i64 f2, .string f3])
      obtain ⟨z, hz⟩ : ∃ z, z = w2.heap.size := ⟨_, rfl⟩
      go_upto_region 6 with fail
      rw [← hz] at Z2 ⊢
      clear hz
      generalize w2.alloc (.cells #[.string f1, .int .i64 f2, .string f3] 41) = W at *
      have HBW := Lib.hid (B1.out.trans (B2.out.mono B1.out.size))
      by_cases he : fe = 0
      · subst he
        cases fb with
        | false =>
          have HP2 := Lib.hid (show parseP ((L.drop (k + 1)).map (·.data.toList)) (k + 1) acc = R by have := HP.out; rw [if_neg (by simp), if_pos rfl] at this; exact this)
          clear HP
          go_wp2
          go_roundw
          case rel => exact ⟨k + 1, acc, by have := HLT.out; omega, by go_num, HA, O2, HP2, B2⟩
          case measure => have := HLT.out; simp [intOf]; omega
        | true =>
          obtain ⟨A4, c4, hv4⟩ := own_form O2.out
          have al0 : (0 : Int) ≤ (acc.length : Int) := Int.natCast_nonneg _
          by_cases h32 : acc.length = 32
          · have HP2 := Lib.hid (show R = .inr (32, 4) by have := HP.out; rw [if_neg (by simp), if_neg (by simp), if_pos h32] at this; exact this.symm)
            have h32b : ((acc.length : Int) == 32) = true := by rw [h32]; rfl
            have h32c : (acc.length : Int) = 32 := by omega
            clear HP h32
            subst hv4
            go_wp2
            go_ret2
            exact .inr ⟨32, 4, W.heap.size, HP2.out, rfl, HBW.out.size, heap_alloc_new W _, HBW.out.alloc HBW.out.size _⟩
          · have HP2 := Lib.hid (show parseP ((L.drop (k + 1)).map (·.data.toList)) (k + 1) (acc ++ [(f1, f2, f3)]) = R by have := HP.out; rw [if_neg (by simp), if_neg (by simp), if_neg h32] at this; exact this)
            have HA2 := Lib.hid (show (acc ++ [(f1, f2, f3)]).length ≤ 32 by rw [List.length_append, List.length_singleton]; have := HA.out; omega)
            have h32c : ¬ (acc.length : Int) = 32 := by omega
            have h32b : ((acc.length : Int) == 32) = false := by simpa using h32c
            have O4 := Lib.hid (O2.out.alloc (.cells #[.string f1, .int .i64 f2, .string f3] 41))
            have R4 := Lib.hid (reads_one_step (f1, f2, f3) (Blk.new W 41 #[.string f1, .int .i64 f2, .string f3]))
            have B4 := Lib.hid (B2.out.alloc B2.out.size (.cells #[.string f1, .int .i64 f2, .string f3] 41))
            have z0 := Z2.out.cell 0
            have z1 := Z2.out.cell 1
            have z2 := Z2.out.cell 2
            have zlt : z < W.heap.size := Z2.out.lt
            clear HP h32
            subst hv4
            go_upto_region 12 with (at_builtin; go_loud (refine wpList_append_steps (W.alloc (.cells #[.string f1, .int .i64 f2, .string f3] 41)) rfl (.tmp 41) (.tmp 43) rfl w1.heap.size _ acc [(f1, f2, f3)] rfl O4.out _ _ _ rfl R4.out (by have := HA.out; simp; omega) B4.out.size ?_; intro A' c' w5 o5 b5 g5; have O5 := Lib.hid o5; have B5 := Lib.hid (B4.out.trans b5); clear o5 b5 g5))
            clear z0 z1 z2 O4 R4 B4 O2 Z2
            go_wp2
            go_roundw
            case rel => exact ⟨k + 1, acc ++ [(f1, f2, f3)], by have := HLT.out; omega, by go_num, HA2, Lib.hid (by have := O5.out; rw [show (acc ++ [(f1, f2, f3)]).length = acc.length + 1 by simp] at this; rw [show (acc ++ [(f1, f2, f3)]).length = acc.length + 1 by simp]; exact this), HP2, B5⟩
            case measure => have := HLT.out; simp [intOf]; omega
      · have HP2 := Lib.hid (show R = .inr (k, fe) by have := HP.out; rw [if_pos he] at this; exact this.symm)
        have heb : (fe == 0) = false := by simpa using he
        clear HP
        go_wp2
        go_ret2
        exact .inr ⟨k, fe, W.heap.size, HP2.out, rfl, HBW.out.size, heap_alloc_new W _, HBW.out.alloc HBW.out.size _⟩
    · obtain rfl : k = L.length := by omega
      have HP2 := Lib.hid (show R = .inl acc by have := HR.out; rw [List.drop_length] at this; exact this.symm)
      have HBW := Lib.hid (B1.out.trans (HB.out.mono B1.out.size))
      clear hlt hk
      go_wp2
      go_ret2
      exact .inl ⟨acc, _, HP2.out, rfl, own_lower HO.out B1.out.size, HA.out, HBW.out⟩
end Go.Proofs.YtanjcjnkppnhcaaGreatDoor

namespace Go.Proofs.YtanjcjnkppnhcaaGreatDoor
open Go Go.RowKit

/-- The k-th verb. -/
def vB : Nat → ByteArray
  | 0 => ⟨#[97, 100, 100]⟩
  | 1 => ⟨#[114, 109]⟩
  | 2 => ⟨#[99, 111, 109, 109, 105, 116]⟩
  | 3 => ⟨#[98, 114, 97, 110, 99, 104]⟩
  | 4 => ⟨#[100, 101, 108, 101, 116, 101]⟩
  | 5 => ⟨#[115, 119, 105, 116, 99, 104]⟩
  | 6 => ⟨#[114, 101, 115, 101, 116]⟩
  | 7 => ⟨#[109, 101, 114, 103, 101]⟩
  | 8 => ⟨#[112, 105, 99, 107]⟩
  | 9 => ⟨#[114, 101, 118, 101, 114, 116]⟩
  | 10 => ⟨#[115, 116, 97, 115, 104]⟩
  | 11 => ⟨#[112, 111, 112]⟩
  | 12 => ⟨#[97, 112, 112, 108, 121]⟩
  | 13 => ⟨#[115, 104, 101, 108, 118, 101]⟩
  | 14 => ⟨#[114, 101, 98, 97, 115, 101]⟩
  | 15 => ⟨#[99, 111, 110, 116, 105, 110, 117, 101]⟩
  | 16 => ⟨#[115, 107, 105, 112]⟩
  | 17 => ⟨#[97, 98, 111, 114, 116]⟩
  | 18 => ⟨#[117, 110, 100, 111]⟩
  | _ => ⟨#[114, 101, 100, 111]⟩
def verbsB : List ByteArray := [⟨#[97, 100, 100]⟩, ⟨#[114, 109]⟩, ⟨#[99, 111, 109, 109, 105, 116]⟩, ⟨#[98, 114, 97, 110, 99, 104]⟩, ⟨#[100, 101, 108, 101, 116, 101]⟩, ⟨#[115, 119, 105, 116, 99, 104]⟩, ⟨#[114, 101, 115, 101, 116]⟩, ⟨#[109, 101, 114, 103, 101]⟩, ⟨#[112, 105, 99, 107]⟩, ⟨#[114, 101, 118, 101, 114, 116]⟩, ⟨#[115, 116, 97, 115, 104]⟩, ⟨#[112, 111, 112]⟩, ⟨#[97, 112, 112, 108, 121]⟩, ⟨#[115, 104, 101, 108, 118, 101]⟩, ⟨#[114, 101, 98, 97, 115, 101]⟩, ⟨#[99, 111, 110, 116, 105, 110, 117, 101]⟩, ⟨#[115, 107, 105, 112]⟩, ⟨#[97, 98, 111, 114, 116]⟩, ⟨#[117, 110, 100, 111]⟩, ⟨#[114, 101, 100, 111]⟩]
theorem verbsB_at {k : Nat} (h : k < 20) : verbsB[k]? = some (vB k) := by
  have : ∀ j : Fin 20, verbsB[j.1]? = some (vB j.1) := by decide +kernel
  exact this ⟨k, h⟩
theorem k20 {k : Nat} (h : k < 20) : k = 0 ∨ k = 1 ∨ k = 2 ∨ k = 3 ∨ k = 4 ∨ k = 5 ∨ k = 6 ∨ k = 7 ∨ k = 8 ∨ k = 9 ∨ k = 10 ∨ k = 11 ∨ k = 12 ∨ k = 13 ∨ k = 14 ∨ k = 15 ∨ k = 16 ∨ k = 17 ∨ k = 18 ∨ k = 19 := by omega
/-- The place of a text in a row of texts, told from i on; -1: it is not there. -/
def goP : List ByteArray → ByteArray → Nat → Int
  | [], _, _ => -1
  | x :: xs, v, i => if x = v then i else goP xs v (i + 1)
def placeV (v : ByteArray) : Int := goP verbsB v 0
theorem place_vB {k : Nat} (h : k < 20) : placeV (vB k) = k := by
  have : ∀ j : Fin 20, placeV (vB j.1) = j.1 := by decide +kernel
  exact this ⟨k, h⟩
theorem goP_spec : ∀ (l : List ByteArray) (v : ByteArray) (i : Nat), (goP l v i = -1 ∧ ∀ x ∈ l, x ≠ v) ∨ ∃ j, goP l v i = ((i + j : Nat) : Int) ∧ l[j]? = some v
  | [], v, i => .inl ⟨rfl, fun x hx => by cases hx⟩
  | x :: xs, v, i => by
    unfold goP
    by_cases h : x = v
    · rw [if_pos h]; exact .inr ⟨0, rfl, by rw [h]; rfl⟩
    · rw [if_neg h]
      rcases goP_spec xs v (i + 1) with ⟨h1, h2⟩ | ⟨j, h1, h2⟩
      · exact .inl ⟨h1, fun y hy => (List.mem_cons.1 hy).elim (fun e => e ▸ h) (h2 y)⟩
      · exact .inr ⟨j + 1, by rw [h1]; congr 1; omega, h2⟩
/-- A verb is one of the twenty, or its place is -1. -/
theorem place_cases (v : ByteArray) : (placeV v = -1) ∨ ∃ k, k < 20 ∧ v = vB k ∧ placeV v = k := by
  rcases goP_spec verbsB v 0 with ⟨h, _⟩ | ⟨j, h, hj⟩
  · exact .inl h
  · have hl : j < 20 := (List.getElem?_eq_some_iff.1 hj).1
    rw [verbsB_at hl] at hj
    exact .inr ⟨j, hl, (Option.some.inj hj).symm, by unfold placeV; rw [h]; simp⟩
theorem eq_bytes {a b : ByteArray} : (a.toList == b.toList) = decide (a = b) := by
  by_cases h : a = b
  · subst h; simp
  · rw [decide_eq_false h, beq_eq_false_iff_ne]
    exact fun e => h (bytesB_eq (by rw [← ByteArray.toList_eq, e, ByteArray.toList_eq]))
set_option maxRecDepth 100000 in
set_option maxHeartbeats 2000000 in
theorem verbs_any (w : World) : Calls Tryz.prog 27 #[] w fun e w' => e = .returned (.slice (some ⟨w.heap.size, 0, none⟩) 20 20) ∧ w' = w.alloc (.cells #[.string ⟨#[97, 100, 100]⟩, .string ⟨#[114, 109]⟩, .string ⟨#[99, 111, 109, 109, 105, 116]⟩, .string ⟨#[98, 114, 97, 110, 99, 104]⟩, .string ⟨#[100, 101, 108, 101, 116, 101]⟩, .string ⟨#[115, 119, 105, 116, 99, 104]⟩, .string ⟨#[114, 101, 115, 101, 116]⟩, .string ⟨#[109, 101, 114, 103, 101]⟩, .string ⟨#[112, 105, 99, 107]⟩, .string ⟨#[114, 101, 118, 101, 114, 116]⟩, .string ⟨#[115, 116, 97, 115, 104]⟩, .string ⟨#[112, 111, 112]⟩, .string ⟨#[97, 112, 112, 108, 121]⟩, .string ⟨#[115, 104, 101, 108, 118, 101]⟩, .string ⟨#[114, 101, 98, 97, 115, 101]⟩, .string ⟨#[99, 111, 110, 116, 105, 110, 117, 101]⟩, .string ⟨#[115, 107, 105, 112]⟩, .string ⟨#[97, 98, 111, 114, 116]⟩, .string ⟨#[117, 110, 100, 111]⟩, .string ⟨#[114, 101, 100, 111]⟩] 9) := by
  go_enter Tryz.func27, Tryz.ntmps27
  go_wp2
  go_ret
  exact ⟨rfl, rfl⟩
set_option maxRecDepth 100000 in
set_option maxHeartbeats 2000000 in
theorem refVerbs_any (w : World) : Calls Tryz.prog 28 #[] w fun e w' => e = .returned (.slice (some ⟨w.heap.size, 0, none⟩) 20 20) ∧ w' = w.alloc (.cells #[.string ⟨#[97, 100, 100]⟩, .string ⟨#[114, 109]⟩, .string ⟨#[99, 111, 109, 109, 105, 116]⟩, .string ⟨#[98, 114, 97, 110, 99, 104]⟩, .string ⟨#[100, 101, 108, 101, 116, 101]⟩, .string ⟨#[115, 119, 105, 116, 99, 104]⟩, .string ⟨#[114, 101, 115, 101, 116]⟩, .string ⟨#[109, 101, 114, 103, 101]⟩, .string ⟨#[112, 105, 99, 107]⟩, .string ⟨#[114, 101, 118, 101, 114, 116]⟩, .string ⟨#[115, 116, 97, 115, 104]⟩, .string ⟨#[112, 111, 112]⟩, .string ⟨#[97, 112, 112, 108, 121]⟩, .string ⟨#[115, 104, 101, 108, 118, 101]⟩, .string ⟨#[114, 101, 98, 97, 115, 101]⟩, .string ⟨#[99, 111, 110, 116, 105, 110, 117, 101]⟩, .string ⟨#[115, 107, 105, 112]⟩, .string ⟨#[97, 98, 111, 114, 116]⟩, .string ⟨#[117, 110, 100, 111]⟩, .string ⟨#[114, 101, 100, 111]⟩] 9) := by
  go_enter Tryz.func28, Tryz.ntmps28
  go_wp2
  go_ret
  exact ⟨rfl, rfl⟩
theorem verbs_cells (w : World) (k : Nat) (x : ByteArray) (hx : verbsB[k]? = some x) : (w.alloc (.cells #[.string ⟨#[97, 100, 100]⟩, .string ⟨#[114, 109]⟩, .string ⟨#[99, 111, 109, 109, 105, 116]⟩, .string ⟨#[98, 114, 97, 110, 99, 104]⟩, .string ⟨#[100, 101, 108, 101, 116, 101]⟩, .string ⟨#[115, 119, 105, 116, 99, 104]⟩, .string ⟨#[114, 101, 115, 101, 116]⟩, .string ⟨#[109, 101, 114, 103, 101]⟩, .string ⟨#[112, 105, 99, 107]⟩, .string ⟨#[114, 101, 118, 101, 114, 116]⟩, .string ⟨#[115, 116, 97, 115, 104]⟩, .string ⟨#[112, 111, 112]⟩, .string ⟨#[97, 112, 112, 108, 121]⟩, .string ⟨#[115, 104, 101, 108, 118, 101]⟩, .string ⟨#[114, 101, 98, 97, 115, 101]⟩, .string ⟨#[99, 111, 110, 116, 105, 110, 117, 101]⟩, .string ⟨#[115, 107, 105, 112]⟩, .string ⟨#[97, 98, 111, 114, 116]⟩, .string ⟨#[117, 110, 100, 111]⟩, .string ⟨#[114, 101, 100, 111]⟩] 9)).cell? ⟨w.heap.size, k, none⟩ = some (.string x) := by
  have : (#[.string ⟨#[97, 100, 100]⟩, .string ⟨#[114, 109]⟩, .string ⟨#[99, 111, 109, 109, 105, 116]⟩, .string ⟨#[98, 114, 97, 110, 99, 104]⟩, .string ⟨#[100, 101, 108, 101, 116, 101]⟩, .string ⟨#[115, 119, 105, 116, 99, 104]⟩, .string ⟨#[114, 101, 115, 101, 116]⟩, .string ⟨#[109, 101, 114, 103, 101]⟩, .string ⟨#[112, 105, 99, 107]⟩, .string ⟨#[114, 101, 118, 101, 114, 116]⟩, .string ⟨#[115, 116, 97, 115, 104]⟩, .string ⟨#[112, 111, 112]⟩, .string ⟨#[97, 112, 112, 108, 121]⟩, .string ⟨#[115, 104, 101, 108, 118, 101]⟩, .string ⟨#[114, 101, 98, 97, 115, 101]⟩, .string ⟨#[99, 111, 110, 116, 105, 110, 117, 101]⟩, .string ⟨#[115, 107, 105, 112]⟩, .string ⟨#[97, 98, 111, 114, 116]⟩, .string ⟨#[117, 110, 100, 111]⟩, .string ⟨#[114, 101, 100, 111]⟩] : Array Value) = (verbsB.map Value.string).toArray := rfl
  rw [this, cell_of_row _ _ k _ 9 (0, 0) (heap_alloc_new w _)]
  simp [hx]
set_option maxRecDepth 100000 in
set_option maxHeartbeats 4000000 in
theorem index_any (w : World) (A : Option Addr) (c : Nat) (ss : List ByteArray) (v : ByteArray) (hs : ss.length ≤ 1000000) (h : ∀ ad, A = some ad → ∀ k x, ss[k]? = some x → w.cell? (ad.add k) = some (.string x)) (hA : ss ≠ [] → A ≠ none) :
    Calls Tryz.prog 91 #[.slice A ss.length c, .string v] w fun e w' => e = .returned (.int .i64 (goP ss v 0)) ∧ w' = w := by
  have HC := Lib.hid h
  have HA := Lib.hid hA
  have n0 : (0 : Int) ≤ (ss.length : Int) := Int.natCast_nonneg _
  have n1 : (ss.length : Int) ≤ 1000000 := by omega
  obtain ⟨R, hR⟩ : ∃ R, R = goP ss v 0 := ⟨_, rfl⟩
  have HR := Lib.hid (show goP (ss.drop 0) v 0 = R by rw [hR]; rfl)
  rw [← hR]
  clear h hA hR
  go_enter Tryz.func91, Tryz.ntmps91
  go_wp2_with fail
  go_loopw [5, 8] (fun _ s8 wr => ∃ k : Nat, k ≤ ss.length ∧ s8 = .int .i64 k ∧ Hid (goP (ss.drop k) v k = R) ∧ Hid (wr = w)) (fun _ s8 _ => ss.length - (intOf s8).toNat)
  case atStart => exact ⟨0, Nat.zero_le _, rfl, HR, Lib.hid rfl⟩
  case round =>
    clear HR
    obtain ⟨k, hk, rfl, HR, HW⟩ := hrel
    have k0 : (0 : Int) ≤ (k : Int) := Int.natCast_nonneg _
    by_cases hlt : k < ss.length
    · have hli : (k : Int) < (ss.length : Int) := by omega
      obtain ⟨x, hx⟩ : ∃ x, ss[k]? = some x := ⟨_, List.getElem?_eq_getElem hlt⟩
      obtain ⟨ad, rfl⟩ : ∃ ad, A = some ad := by
        cases A with
        | none => exact absurd rfl (HA.out (by intro e; rw [e] at hlt; cases hlt))
        | some ad => exact ⟨ad, rfl⟩
      have c0 : wr.cell? (ad.add k) = some (.string x) := by rw [HW.out]; exact HC.out ad rfl k x hx
      have HP := HR.out
      rw [drop_consB hx, goP] at HP
      have e1 := eq_bytes (a := v) (b := x)
      have HLT := Lib.hid hlt
      by_cases hv : x = v
      · rw [if_pos hv] at HP
        replace HP := Lib.hid HP
        clear hx hlt hk e1
        subst hv
        go_wp2
        go_ret
        exact ⟨by rw [← HP.out]; rfl, HW.out⟩
      · rw [if_neg hv] at HP
        rw [decide_eq_false (fun e => hv e.symm)] at e1
        replace HP := Lib.hid HP
        clear hx hv hlt hk
        go_wp2
        go_roundw
        case rel => exact ⟨k + 1, by have := HLT.out; omega, by go_num, HP, HW⟩
        case measure => have := HLT.out; simp [intOf]; omega
    · obtain rfl : k = ss.length := by omega
      have HP := HR.out
      rw [List.drop_length, goP] at HP
      replace HP := Lib.hid HP
      clear hlt hk
      go_wp2
      go_ret
      exact ⟨by rw [← HP.out]; rfl, HW.out⟩
set_option maxHeartbeats 2000000 in
theorem place_any (v : ByteArray) (w : World) : Calls Tryz.prog 54 #[.string v] w fun e w' => e = .returned (.int .i64 (placeV v)) ∧ Below w.heap.size w w' := by
  have VS := Lib.hid (verbs_any w)
  have HC := Lib.hid (verbs_cells w)
  have HB := Lib.hid ((Below.refl w.heap.size w).alloc (Nat.le_refl _) (.cells #[.string ⟨#[97, 100, 100]⟩, .string ⟨#[114, 109]⟩, .string ⟨#[99, 111, 109, 109, 105, 116]⟩, .string ⟨#[98, 114, 97, 110, 99, 104]⟩, .string ⟨#[100, 101, 108, 101, 116, 101]⟩, .string ⟨#[115, 119, 105, 116, 99, 104]⟩, .string ⟨#[114, 101, 115, 101, 116]⟩, .string ⟨#[109, 101, 114, 103, 101]⟩, .string ⟨#[112, 105, 99, 107]⟩, .string ⟨#[114, 101, 118, 101, 114, 116]⟩, .string ⟨#[115, 116, 97, 115, 104]⟩, .string ⟨#[112, 111, 112]⟩, .string ⟨#[97, 112, 112, 108, 121]⟩, .string ⟨#[115, 104, 101, 108, 118, 101]⟩, .string ⟨#[114, 101, 98, 97, 115, 101]⟩, .string ⟨#[99, 111, 110, 116, 105, 110, 117, 101]⟩, .string ⟨#[115, 107, 105, 112]⟩, .string ⟨#[97, 98, 111, 114, 116]⟩, .string ⟨#[117, 110, 100, 111]⟩, .string ⟨#[114, 101, 100, 111]⟩] 9))
  go_enter Tryz.func54, Tryz.ntmps54
  go_wp2_with fail
  refine VS.out.mono ?_
  rintro e w1 ⟨rfl, hw⟩
  rw [← hw] at HC HB
  have IX := Lib.hid (index_any w1 (some ⟨w.heap.size, 0, none⟩) 20 verbsB v (by decide) (fun ad e k x hx => by
    obtain rfl := Option.some.inj e
    have := HC.out k x hx
    rwa [show (⟨w.heap.size, 0, none⟩ : Addr).add k = ⟨w.heap.size, k, none⟩ from Lib.add_plain w.heap.size 0 k |>.trans (by rw [Nat.zero_add])]) (fun _ e => by cases e))
  rw [show verbsB.length = 20 from rfl] at IX
  clear hw VS HC
  go_wp2_with fail
  refine IX.out.mono ?_
  rintro e w2 ⟨rfl, hw⟩
  rw [← hw] at HB
  clear hw IX
  go_wp2
  go_ret
  exact ⟨rfl, HB.out⟩
/-- A refusal of a command. -/
def bCmd : ByteArray := ⟨#[99, 109, 100]⟩
set_option maxHeartbeats 2000000 in
theorem fault_cmd (v : ByteArray) (ty : TypeId) (y : Value) (w : World) : Calls Tryz.prog 55 #[.string v, .iface ty y] w fun e w' => ∃ F, e = .returned (.iface 76 (.pointer (some ⟨F, 0, none⟩))) ∧ Blk w' F 78 #[.string bCmd, .int .i64 (placeV v), .iface ty y] ∧ w.heap.size ≤ F ∧ Below w.heap.size w w' := by
  have PL := Lib.hid (place_any v w)
  go_enter Tryz.func55, Tryz.ntmps55
  go_wp2_with fail
  refine PL.out.mono ?_
  rintro e w1 ⟨rfl, d1⟩
  have D1 := Lib.hid d1
  clear d1 PL
  go_wp2
  go_ret
  exact ⟨w1.heap.size, rfl, heap_alloc_new w1 _, D1.out.size, D1.out.alloc D1.out.size _⟩
end Go.Proofs.YtanjcjnkppnhcaaGreatDoor

namespace Go.Proofs.YtanjcjnkppnhcaaGreatDoor.Nm
open Go Go.RowKit

theorem ret_b {p q : Bool} (h : p = q) : Ending.returned (.bool p) = .returned (.bool q) := by rw [h]
def gbv (c i : Int) : Bool := (decide (97 ≤ c) && decide (c ≤ 122)) || (((decide (48 ≤ c) && decide (c ≤ 57)) || decide (c = 45)) && decide (0 < i))
set_option maxHeartbeats 1000000 in
theorem byte_any (c i : Int) (w : World) (h0 : 0 ≤ c) (h1 : c ≤ 255) (hi : 0 ≤ i) (hi2 : i ≤ 1000000) :
    Calls Tryz.prog 115 #[.int .u8 c, .int .i64 i] w fun e w' => e = .returned (.bool (gbv c i)) ∧ w = w' := by
  by_cases h45 : c = 45
  · subst h45
    have hg : Hid (decide (0 < i) = gbv 45 i) := by show decide (0 < i) = gbv 45 i; unfold gbv; simp
    go_enter Tryz.func115, Tryz.ntmps115
    go_wp2
    all_goals
      go_ret
      exact ⟨ret_b hg.out, rfl⟩
  · have hb : (c == 45) = false := by rw [beq_eq_false_iff_ne]; exact h45
    go_enter Tryz.func115, Tryz.ntmps115
    go_wp2
    all_goals
      go_ret
      exact ⟨ret_b (by unfold gbv; rw [Bool.eq_iff_iff]; simp only [Bool.or_eq_true, Bool.and_eq_true, decide_eq_true_eq, Bool.false_eq_true, true_iff, false_iff] <;> omega), rfl⟩
/-- The bytes from k on are good. -/
def tailOk (s : ByteArray) (k : Nat) : Bool := (List.range s.size).all fun j => decide (j < k) || gbv ((s[j]?.getD 0).toNat : Int) (j : Int)
def goodN (s : ByteArray) : Bool := decide (0 < s.size) && decide (s.size ≤ 32) && tailOk s 0
theorem tail_bad {s : ByteArray} {k j : Nat} (hk : k ≤ j) (h : j < s.size) (hb : gbv (s[j].toNat : Int) (j : Int) = false) : tailOk s k = false := by
  rw [Bool.eq_false_iff]
  intro ht
  unfold tailOk at ht
  rw [List.all_eq_true] at ht
  have := ht j (List.mem_range.2 h)
  rw [show s[j]? = some s[j] from getElem?_pos s j h] at this
  simp [hb] at this
  omega
theorem tail_all {s : ByteArray} (h : ∀ j (hj : j < s.size), gbv (s[j].toNat : Int) (j : Int) = true) : tailOk s 0 = true := by
  unfold tailOk
  rw [List.all_eq_true]
  intro j hj
  have hj := List.mem_range.1 hj
  rw [show s[j]? = some s[j] from getElem?_pos s j hj]
  simp [h j hj]

set_option maxHeartbeats 2000000 in
theorem good_any (s : ByteArray) (w : World) (hs : s.size ≤ 1000000) :
    Calls Tryz.prog 93 #[.string s] w fun e w' => e = .returned (.bool (goodN s)) ∧ w = w' := by
  have hsz : s.data.toList.length = s.size := by rw [Array.length_toList]; rfl
  by_cases h0 : s.size = 0
  · have HG : Hid (goodN s = false) := by show goodN s = false; unfold goodN; simp [h0]
    have he : s.toList = [] := by rw [ByteArray.toList_eq]; exact List.eq_nil_of_length_eq_zero (by omega)
    have he2 : s.toList.isEmpty = true := by rw [List.isEmpty_iff]; exact he
    clear h0 hsz
    go_enter Tryz.func93, Tryz.ntmps93
    go_wp2
    all_goals
      go_ret
      exact ⟨ret_b (by rw [HG.out]), rfl⟩
  · have hne : ¬ s.toList = [] := by
      rw [ByteArray.toList_eq]
      intro h
      rw [h] at hsz
      exact h0 hsz.symm
    have hne2 : s.toList.isEmpty = false := by rw [List.isEmpty_eq_false_iff]; exact hne
    by_cases h1 : s.size ≤ 32
    · have hi1 : (s.size : Int) ≤ 32 := by omega
      have HG0 : Hid (goodN s = tailOk s 0) := by show goodN s = tailOk s 0; unfold goodN; rw [decide_eq_true (by omega), decide_eq_true h1]; simp
      clear hsz
      go_enter Tryz.func93, Tryz.ntmps93
      go_wp2
      go_loop [3, 13] (fun _ i => ∃ k : Nat, k ≤ s.size ∧ i = .int .i64 k ∧ Hid (∀ j (hj : j < s.size), j < k → gbv (s[j].toNat : Int) (j : Int) = true)) (fun _ i => s.size - (intOf i).toNat)
      case atStart => exact ⟨0, Nat.zero_le _, rfl, fun j _ h => absurd h (Nat.not_lt_zero _)⟩
      case round =>
        obtain ⟨k, hk, rfl, I⟩ := hrel
        have hk0 : (0 : Int) ≤ (k : Int) := Int.natCast_nonneg _
        by_cases hlt : k < s.size
        · have hki : (k : Int) < (s.size : Int) := by omega
          have hb := UInt8.toNat_lt s[k]
          have B := Lib.hid fun W => byte_any (s[k].toNat : Int) (k : Int) W (by omega) (by omega) hk0 (by omega)
          cases hg : gbv (s[k].toNat : Int) (k : Int) with
          | true =>
            rw [hg] at B
            have HX := Lib.hid hg
            clear hg
            go_wp2_with (go_at_call 115; refine (B.out _).mono ?_; rintro e w' ⟨rfl, rfl⟩)
            go_round
            case rel => exact ⟨k + 1, by omega, by go_num, fun j hj hjk => by
              rcases Nat.lt_or_ge j k with h | h
              · exact I.out j hj h
              · obtain rfl : j = k := by omega
                exact HX.out⟩
            case measure => simp [intOf]; omega
          | false =>
            rw [hg] at B
            have HX := Lib.hid hg
            clear hg
            go_wp2_with (go_at_call 115; refine (B.out _).mono ?_; rintro e w' ⟨rfl, rfl⟩)
            go_ret
            exact ⟨ret_b (by rw [HG0.out, tail_bad (Nat.zero_le _) hlt HX.out]), rfl⟩
        · go_wp2
          go_ret
          exact ⟨ret_b (by rw [HG0.out, tail_all fun j hj => I.out j hj (by omega)]), rfl⟩
    · have hi1 : ¬ (s.size : Int) ≤ 32 := by omega
      have hi2 : (32 : Int) < (s.size : Int) := by omega
      have HG : Hid (goodN s = false) := by show goodN s = false; unfold goodN; rw [decide_eq_false h1]; simp
      clear hsz
      go_enter Tryz.func93, Tryz.ntmps93
      go_wp2
      all_goals
        go_ret
        exact ⟨ret_b (by rw [HG.out]), rfl⟩
def SameW (a b : World) : Prop := a = b
theorem goodN_short {s : ByteArray} (h : s.size = 0) : goodN s = false := by unfold goodN; simp [h]
theorem goodN_long {s : ByteArray} (h : 32 < s.size) : goodN s = false := by
  unfold goodN
  rw [decide_eq_false (p := s.size ≤ 32) (by omega), Bool.and_false, Bool.false_and]
theorem goodN_bad {s : ByteArray} {j : Nat} (h : j < s.size) (hb : gbv (s[j].toNat : Int) (j : Int) = false) : goodN s = false := by
  unfold goodN
  rw [tail_bad (Nat.zero_le j) h hb, Bool.and_false]
theorem goodN_all {s : ByteArray} (h0 : 0 < s.size) (h1 : s.size ≤ 32) (h : ∀ j (hj : j < s.size), gbv (s[j].toNat : Int) (j : Int) = true) : goodN s = true := by
  unfold goodN
  rw [tail_all h, decide_eq_true h0, decide_eq_true h1]; rfl

set_option maxHeartbeats 4000000 in
theorem refGood_any (s : ByteArray) (w : World) (hs : s.size ≤ 9223372036854775807) :
    Calls Tryz.prog 89 #[.string s] w fun e w' => e = .returned (.bool (goodN s)) ∧ w = w' := by
  by_cases h0 : s.size = 0
  · have HG := Lib.hid (goodN_short h0)
    have h0i : (s.size : Int) < 1 := by omega
    clear h0
    go_enter Tryz.func89, Tryz.ntmps89
    go_wp2
    all_goals
      go_ret
      exact ⟨ret_b (by rw [HG.out]), rfl⟩
  by_cases h32 : 32 < s.size
  · have HG := Lib.hid (goodN_long h32)
    have h0i : ¬ (s.size : Int) < 1 := by omega
    have h32i : (32 : Int) < (s.size : Int) := by omega
    clear h0 h32
    go_enter Tryz.func89, Tryz.ntmps89
    go_wp2
    all_goals
      go_ret
      exact ⟨ret_b (by rw [HG.out]), rfl⟩
  have h0i : ¬ (s.size : Int) < 1 := by omega
  have h32i : ¬ (32 : Int) < (s.size : Int) := by omega
  have hp : 0 < s.size := by omega
  have hp1 : (0 : Int) < (s.size : Int) := by omega
  by_cases ha : (s[0].toNat : Int) < 97
  · have HG := Lib.hid (goodN_bad hp (by unfold gbv; rw [Bool.eq_false_iff]; simp only [ne_eq, Bool.or_eq_true, Bool.and_eq_true, decide_eq_true_eq]; omega))
    go_enter Tryz.func89, Tryz.ntmps89
    go_wp2
    all_goals
      go_ret
      exact ⟨ret_b (by rw [HG.out]), rfl⟩
  by_cases hz : (122 : Int) < (s[0].toNat : Int)
  · have HG := Lib.hid (goodN_bad hp (by unfold gbv; rw [Bool.eq_false_iff]; simp only [ne_eq, Bool.or_eq_true, Bool.and_eq_true, decide_eq_true_eq]; omega))
    go_enter Tryz.func89, Tryz.ntmps89
    go_wp2
    all_goals
      go_ret
      exact ⟨ret_b (by rw [HG.out]), rfl⟩
  have HZ := Lib.hid (And.intro ha hz)
  go_enter Tryz.func89, Tryz.ntmps89
  go_wp2_with fail
  clear ha hz
  go_loopw [3] (fun i wr => ∃ k : Nat, i = .int .i64 k ∧ k ≤ s.size ∧ SameW wr w ∧ Hid (∀ j (hj : j < s.size), j < k → gbv (s[j].toNat : Int) (j : Int) = true)) (fun i _ => s.size - (intOf i).toNat)
  case atStart => exact ⟨0, rfl, Nat.zero_le _, rfl, Lib.hid fun j _ hj => absurd hj (Nat.not_lt_zero _)⟩
  case round =>
    obtain ⟨k, rfl, hk, hw, hall⟩ := hrel
    unfold SameW at hw
    subst hw
    by_cases hlt : k < s.size
    · have hk0 : (0 : Int) ≤ (k : Int) := Int.natCast_nonneg _
      have hk1 : (k : Int) < (s.size : Int) := by omega
      have hc0 : (0 : Int) ≤ (s[k].toNat : Int) := Int.natCast_nonneg _
      have K0 : Hid (k = 0 → 97 ≤ (s[k].toNat : Int) ∧ (s[k].toNat : Int) ≤ 122) := Lib.hid fun e => by subst e; have := HZ.out; omega
      by_cases c1 : (s[k].toNat : Int) < 97
      · by_cases c2 : (s[k].toNat : Int) < 48
        · have c3 : ¬ (57 : Int) < (s[k].toNat : Int) := by omega
          by_cases c4 : (s[k].toNat : Int) = 45
          · have c5 : ((s[k].toNat : Int) == 45) = true := by rw [beq_iff_eq]; exact c4
            have HA : Hid (∀ j (hj : j < s.size), j < k + 1 → gbv (s[j].toNat : Int) (j : Int) = true) := Lib.hid fun j hj hjk => by
              by_cases e : j = k
              · subst e
                have hK := K0.out
                unfold gbv
                simp only [Bool.or_eq_true, Bool.and_eq_true, decide_eq_true_eq]
                omega
              · exact hall.out j hj (by omega)
            clear hall
            go_wp2
            go_roundw
            case rel => exact ⟨k + 1, by go_num, hlt, rfl, HA⟩
            case measure => simp [intOf]; omega
          · have c5 : ((s[k].toNat : Int) == 45) = false := by rw [beq_eq_false_iff_ne]; exact c4
            have HG := Lib.hid (goodN_bad hlt (by unfold gbv; rw [Bool.eq_false_iff]; simp only [ne_eq, Bool.or_eq_true, Bool.and_eq_true, decide_eq_true_eq]; omega))
            clear hall
            go_wp2
            all_goals
              go_ret
              exact ⟨ret_b (by rw [HG.out]), rfl⟩
        · have c5 : ((s[k].toNat : Int) == 45) = false := by rw [beq_eq_false_iff_ne]; omega
          by_cases c3 : (57 : Int) < (s[k].toNat : Int)
          · have c6 : True := trivial
            have HG := Lib.hid (goodN_bad hlt (by unfold gbv; rw [Bool.eq_false_iff]; simp only [ne_eq, Bool.or_eq_true, Bool.and_eq_true, decide_eq_true_eq]; omega))
            clear hall
            go_wp2
            all_goals
              go_ret
              exact ⟨ret_b (by rw [HG.out]), rfl⟩
          · have c6 : True := trivial
            have HA : Hid (∀ j (hj : j < s.size), j < k + 1 → gbv (s[j].toNat : Int) (j : Int) = true) := Lib.hid fun j hj hjk => by
              by_cases e : j = k
              · subst e
                have hK := K0.out
                unfold gbv
                simp only [Bool.or_eq_true, Bool.and_eq_true, decide_eq_true_eq]
                omega
              · exact hall.out j hj (by omega)
            clear hall
            go_wp2
            go_roundw
            case rel => exact ⟨k + 1, by go_num, hlt, rfl, HA⟩
            case measure => simp [intOf]; omega
      · by_cases c2 : (122 : Int) < (s[k].toNat : Int)
        · have c3 : ¬ (s[k].toNat : Int) < 48 := by omega
          have c4 : (57 : Int) < (s[k].toNat : Int) := by omega
          have c5 : ((s[k].toNat : Int) == 45) = false := by rw [beq_eq_false_iff_ne]; omega
          have HG := Lib.hid (goodN_bad hlt (by unfold gbv; rw [Bool.eq_false_iff]; simp only [ne_eq, Bool.or_eq_true, Bool.and_eq_true, decide_eq_true_eq]; omega))
          clear hall
          go_wp2
          all_goals
            go_ret
            exact ⟨ret_b (by rw [HG.out]), rfl⟩
        · have c3 : ¬ (s[k].toNat : Int) < 48 := by omega
          have c4 : (57 : Int) < (s[k].toNat : Int) := by omega
          have c5 : ((s[k].toNat : Int) == 45) = false := by rw [beq_eq_false_iff_ne]; omega
          have HA : Hid (∀ j (hj : j < s.size), j < k + 1 → gbv (s[j].toNat : Int) (j : Int) = true) := Lib.hid fun j hj hjk => by
            by_cases e : j = k
            · subst e
              have hK := K0.out
              unfold gbv
              simp only [Bool.or_eq_true, Bool.and_eq_true, decide_eq_true_eq]
              omega
            · exact hall.out j hj (by omega)
          clear hall
          go_wp2
          go_roundw
          case rel => exact ⟨k + 1, by go_num, hlt, rfl, HA⟩
          case measure => simp [intOf]; omega
    · have HG := Lib.hid (goodN_all hp (by omega) fun j hj => hall.out j hj (by omega))
      clear hall
      go_wp2
      go_ret
      exact ⟨ret_b (by rw [HG.out]), rfl⟩
end Go.Proofs.YtanjcjnkppnhcaaGreatDoor.Nm
