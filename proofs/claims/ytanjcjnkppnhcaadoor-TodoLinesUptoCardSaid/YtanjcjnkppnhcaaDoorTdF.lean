/-
  todo.Parse: any text as steps, or the first line that is none.
-/
import Derived.Test.YtanjcjnkppnhcaaDoorTdE
import Derived.Test.YtanjcjnkppnhcaaDoorTdSplit
namespace Go.Proofs.YtanjcjnkppnhcaaDoor
open Go Go.RowKit

def parseP : List (List UInt8) → Nat → List Fl → (List Fl) ⊕ (Nat × Int)
  | [], _, acc => .inl acc
  | l :: ls, i, acc =>
    if (lineP l).2.2 ≠ 0 then .inr (i, (lineP l).2.2)
    else if (lineP l).2.1 = false then parseP ls (i + 1) acc
    else if acc.length = 32 then .inr (32, 4)
    else parseP ls (i + 1) (acc ++ [(lineP l).1])
def bLine : ByteArray := ⟨#[108, 105, 110, 101]⟩
def bStep : ByteArray := ⟨#[115, 116, 101, 112]⟩
def FaultOf (F : Nat) (p : ByteArray) (n e : Int) (w : World) : Prop := w.heap[F]? = some (.cells #[.string p, .int .i64 n, .iface 47 (.int .i64 e)] 49 (0, 0))
def ParsedTo (r : (List Fl) ⊕ (Nat × Int)) (w : World) (e : Ending) (w' : World) : Prop :=
  (∃ xs u, r = .inl xs ∧ e = .returned (.tuple #[u, .nilIface]) ∧ w'.ownsRow w.heap.size 37 3 u xs.length (xs.flatMap cF) ∧ xs.length ≤ 32 ∧ Below w.heap.size w w') ∨
  ∃ i k F, r = .inr (i, k) ∧ e = .returned (.tuple #[.slice none 0 0, .iface 46 (.pointer (some ⟨F, 0, none⟩))]) ∧ w.heap.size ≤ F ∧ FaultOf F bLine i k w' ∧ Below w.heap.size w w'
theorem reads_one_step {w : World} {g : Nat} (x : Fl) (z : Blk w g 37 #[.string x.1, .int .i64 x.2.1, .string x.2.2]) : Reads 3 cF w (.slice (some ⟨g, 0, none⟩) 1 1) [x] := by
  refine ⟨some ⟨g, 0, none⟩, 1, rfl, Nat.le_refl _, by decide, by simp, fun ad hA i y hy j u hu => ?_⟩
  obtain rfl := Option.some.inj hA
  match i, hy with
  | 0, hy =>
    simp at hy
    subst hy
    match j, hu with
    | 0, hu => simp [cF] at hu; subst hu; exact z.cell 0
    | 1, hu => simp [cF] at hu; subst hu; exact z.cell 1
    | 2, hu => simp [cF] at hu; subst hu; exact z.cell 2
    | j + 3, hu => simp [cF] at hu
  | i + 1, hy => simp at hy
theorem drop_consB {α : Type} {l : List α} {k : Nat} {x : α} (h : l[k]? = some x) : l.drop k = x :: l.drop (k + 1) := by
  obtain ⟨hk, rfl⟩ := List.getElem?_eq_some_iff.1 h
  exact List.drop_eq_getElem_cons hk
theorem own_lower {w : World} {B B' k n : Nat} {e : TypeId} {v : Value} {xs : List Value} (h : w.ownsRow B e k v n xs) (hb : B' ≤ B) : w.ownsRow B' e k v n xs := ⟨h.1, h.2.imp id fun ⟨g, cap, cur, a, b, r⟩ => ⟨g, cap, cur, a, Nat.le_trans hb b, r⟩⟩
theorem ret_2u {a b c d : Value} (h1 : a = c) (h2 : b = d) : Ending.returned (.tuple #[a, b]) = .returned (.tuple #[c, d]) := by rw [h1, h2]
set_option maxRecDepth 100000 in
set_option maxHeartbeats 4000000 in
theorem parse_any (s : ByteArray) (w : World) (m : Int) (hm : w.cell? ⟨1, 0, none⟩ = some (.int .i64 m)) (hs : s.size ≤ 200000000) :
    Calls Tryd.prog 12 #[.string s] w (ParsedTo (parseP (nls s.data.toList) 0 []) w) := by
  have SP := Lib.hid (Tryd.strings_Split s ⟨#[10]⟩ m w (by omega) hm (by decide))
  have LN := splitB_len s
  have LS := splitB_nls s
  obtain ⟨L, hL⟩ : ∃ L, L = Lib.splitB ⟨#[10]⟩ 0 (Lib.countB s ⟨#[10]⟩) s := ⟨_, rfl⟩
  obtain ⟨R, hR⟩ : ∃ R, R = parseP (nls s.data.toList) 0 [] := ⟨_, rfl⟩
  rw [← hR]
  rw [← hL] at SP LN LS
  rw [← LN] at SP
  have HR0 := Lib.hid (show parseP ((L.drop 0).map (·.data.toList)) 0 [] = R by rw [List.drop_zero, LS, hR])
  have HSZ := Lib.hid (show ∀ x ∈ L, x.size ≤ 9223372036854775807 from fun x hx => by
    have h1 : x.data.toList ∈ nls s.data.toList := by rw [← LS]; exact List.mem_map_of_mem hx
    have h2 := nls_le h1
    rw [size_listB, size_listB] at h2
    omega)
  have HLN := Lib.hid (show L.length ≤ 200000001 by rw [← List.length_map (f := (·.data.toList)), LS]; have := nls_len s.data.toList; rw [size_listB] at this; omega)
  clear hL hR LN LS
  have ln0 : (0 : Int) ≤ (L.length : Int) := Int.natCast_nonneg _
  have ln1 : (L.length : Int) ≤ 200000001 := by have := HLN.out; omega
  have C0 := Lib.hid (show ∀ (k : Nat) (x : ByteArray), L[k]? = some x → (w.alloc (.cells (L.map Value.string).toArray 9)).cell? ⟨w.heap.size, k, none⟩ = some (.string x) from fun k x hx => by
    rw [cell_of_row _ _ k _ 9 (0, 0) (heap_alloc_new w _)]
    simp [hx])
  have B1 := Lib.hid ((Below.refl w.heap.size w).alloc (Nat.le_refl _) (.cells (L.map Value.string).toArray 9))
  have HW := Lib.hid (show w.heap.size < (w.alloc (.cells (L.map Value.string).toArray 9)).heap.size by simp)
  obtain ⟨gL, hgL⟩ : ∃ g, g = w.heap.size := ⟨_, rfl⟩
  have HGL := Lib.hid hgL
  go_enter Tryd.func12, Tryd.ntmps12
  go_wp2_with fail
  refine SP.out.mono ?_
  rintro e w1 ⟨rfl, hw1⟩
  rw [← hw1] at C0 B1 HW
  rw [← hgL] at C0 HW ⊢
  clear hw1 SP hgL
  go_wp2_with fail
  go_loopw [4, 5, 6, 7, 8, 9, 13] (fun s4 _ _ _ _ _ s13 wr => ∃ (k : Nat) (acc : List Fl), k ≤ L.length ∧ s13 = .int .i64 k ∧ Hid (acc.length ≤ 32) ∧ Hid (wr.ownsRow w1.heap.size 37 3 s4 acc.length (acc.flatMap cF)) ∧ Hid (parseP ((L.drop k).map (·.data.toList)) k acc = R) ∧ Hid (Below w1.heap.size w1 wr)) (fun _ _ _ _ _ _ s13 _ => L.length - (intOf s13).toNat)
  case atStart => exact ⟨0, [], Nat.zero_le _, rfl, Lib.hid (by simp), Lib.hid (World.ownsRow_nil _ _ _ _), HR0, Lib.hid (Below.refl _ _)⟩
  case round =>
    obtain ⟨k, acc, hk, rfl, HA, HO, HR, HB⟩ := hrel
    have k0 : (0 : Int) ≤ (k : Int) := Int.natCast_nonneg _
    by_cases hlt : k < L.length
    · obtain ⟨x, hx⟩ : ∃ x, L[k]? = some x := ⟨_, List.getElem?_eq_getElem hlt⟩
      have hki : (k : Int) < (L.length : Int) := by omega
      have c0 : wr.cell? ⟨gL, k, none⟩ = some (.string x) := (HB.out.cell (p := ⟨gL, k, none⟩) HW.out).trans (C0.out k x hx)
      have LA := Lib.hid (line_any x wr (HSZ.out x (List.mem_of_getElem? hx)))
      have HP := Lib.hid (show parseP (x.data.toList :: (L.drop (k + 1)).map (·.data.toList)) k acc = R by have := HR.out; rw [drop_consB hx] at this; exact this)
      have HLT := Lib.hid hlt
      unfold LineTo at LA
      unfold parseP at HP
      obtain ⟨o, ho⟩ : ∃ o, o = lineP x.data.toList := ⟨_, rfl⟩
      rw [← ho] at LA HP
      clear hx hlt hk HR ho
      go_wp2_with fail
      clear c0
      refine LA.out.mono ?_
      rintro e w2 ⟨rfl, b2⟩
      obtain ⟨⟨f1, f2, f3⟩, fb, fe⟩ := o
      dsimp only at HP ⊢
      have B2 := Lib.hid ((HB.out.trans (b2.mono HB.out.size)).alloc (Nat.le_trans HB.out.size b2.size) (.cells #[.string f1, .int .i64 f2, .string f3] 37))
      have O2 := Lib.hid ((own_keep HO.out b2).alloc (.cells #[.string f1, .int .i64 f2, .string f3] 37))
      clear b2 LA HO HB
      have Z2 := Lib.hid (Blk.new w2 37 #[.string f1, .int .i64 f2, .string f3])
      obtain ⟨z, hz⟩ : ∃ z, z = w2.heap.size := ⟨_, rfl⟩
      go_upto_region 6 with fail
      rw [← hz] at Z2 ⊢
      clear hz
      generalize w2.alloc (.cells #[.string f1, .int .i64 f2, .string f3] 37) = W at *
      have HBW := Lib.hid (B1.out.trans (B2.out.mono B1.out.size))
      by_cases he : fe = 0
      · subst he
        cases fb with
        | false =>
          have HP2 := Lib.hid (show parseP ((L.drop (k + 1)).map (·.data.toList)) (k + 1) acc = R by have := HP.out; rw [if_neg (by simp), if_pos rfl] at this; exact this)
          clear HP
          go_wp2
          go_roundw
          case rel => exact ⟨k + 1, acc, by have := HLT.out; omega, by go_num, HA, O2, HP2, B2⟩
          case measure => have := HLT.out; simp [intOf]; omega
        | true =>
          obtain ⟨A4, c4, hv4⟩ := own_form O2.out
          have al0 : (0 : Int) ≤ (acc.length : Int) := Int.natCast_nonneg _
          by_cases h32 : acc.length = 32
          · have HP2 := Lib.hid (show R = .inr (32, 4) by have := HP.out; rw [if_neg (by simp), if_neg (by simp), if_pos h32] at this; exact this.symm)
            have h32b : ((acc.length : Int) == 32) = true := by rw [h32]; rfl
            have h32c : (acc.length : Int) = 32 := by omega
            clear HP h32
            subst hv4
            go_wp2
            go_ret2
            exact .inr ⟨32, 4, W.heap.size, HP2.out, rfl, HBW.out.size, heap_alloc_new W _, HBW.out.alloc HBW.out.size _⟩
          · have HP2 := Lib.hid (show parseP ((L.drop (k + 1)).map (·.data.toList)) (k + 1) (acc ++ [(f1, f2, f3)]) = R by have := HP.out; rw [if_neg (by simp), if_neg (by simp), if_neg h32] at this; exact this)
            have HA2 := Lib.hid (show (acc ++ [(f1, f2, f3)]).length ≤ 32 by rw [List.length_append, List.length_singleton]; have := HA.out; omega)
            have h32c : ¬ (acc.length : Int) = 32 := by omega
            have h32b : ((acc.length : Int) == 32) = false := by simpa using h32c
            have O4 := Lib.hid (O2.out.alloc (.cells #[.string f1, .int .i64 f2, .string f3] 37))
            have R4 := Lib.hid (reads_one_step (f1, f2, f3) (Blk.new W 37 #[.string f1, .int .i64 f2, .string f3]))
            have B4 := Lib.hid (B2.out.alloc B2.out.size (.cells #[.string f1, .int .i64 f2, .string f3] 37))
            have z0 := Z2.out.cell 0
            have z1 := Z2.out.cell 1
            have z2 := Z2.out.cell 2
            have zlt : z < W.heap.size := Z2.out.lt
            clear HP h32
            subst hv4
            go_upto_region 12 with (at_builtin; go_loud (refine wpList_append_steps (W.alloc (.cells #[.string f1, .int .i64 f2, .string f3] 37)) rfl (.tmp 41) (.tmp 43) rfl w1.heap.size _ acc [(f1, f2, f3)] rfl O4.out _ _ _ rfl R4.out (by have := HA.out; simp; omega) B4.out.size ?_; intro A' c' w5 o5 b5 g5; have O5 := Lib.hid o5; have B5 := Lib.hid (B4.out.trans b5); clear o5 b5 g5))
            clear z0 z1 z2 O4 R4 B4 O2 Z2
            go_wp2
            go_roundw
            case rel => exact ⟨k + 1, acc ++ [(f1, f2, f3)], by have := HLT.out; omega, by go_num, HA2, Lib.hid (by have := O5.out; rw [show (acc ++ [(f1, f2, f3)]).length = acc.length + 1 by simp] at this; rw [show (acc ++ [(f1, f2, f3)]).length = acc.length + 1 by simp]; exact this), HP2, B5⟩
            case measure => have := HLT.out; simp [intOf]; omega
      · have HP2 := Lib.hid (show R = .inr (k, fe) by have := HP.out; rw [if_pos he] at this; exact this.symm)
        have heb : (fe == 0) = false := by simpa using he
        clear HP
        go_wp2
        go_ret2
        exact .inr ⟨k, fe, W.heap.size, HP2.out, rfl, HBW.out.size, heap_alloc_new W _, HBW.out.alloc HBW.out.size _⟩
    · obtain rfl : k = L.length := by omega
      have HP2 := Lib.hid (show R = .inl acc by have := HR.out; rw [List.drop_length] at this; exact this.symm)
      have HBW := Lib.hid (B1.out.trans (HB.out.mono B1.out.size))
      clear hlt hk
      go_wp2
      go_ret2
      exact .inl ⟨acc, _, HP2.out, rfl, own_lower HO.out B1.out.size, HA.out, HBW.out⟩
end Go.Proofs.YtanjcjnkppnhcaaDoor
