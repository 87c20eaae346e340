/-
  rectolaw12.Of: hunks as the document's.
-/
import Derived.Test.YtdpoeagmeiedcaaDoorP7
import Derived.Deep.RegionHeld3
namespace Go.Proofs.YtdpoeagmeiedcaaDoor
open Go Go.RowKit

theorem refHunkInfo : (Tryd.prog.info? 114).map (fun i => (i.zero, i.size, i.bytes)) = some (some (.agg #[.int .i64 0, .int .i64 0, .int .i64 0, .int .i64 0, .slice none 0 0]), 5, 56) := by kernel_rfl
/-- Five values a hunk, its lines in a row of the call's own of type e. -/
def HkV (e : TypeId) (w : World) (B : Nat) : List Value → List Hk → Prop
  | vals, [] => vals = []
  | vals, h :: hs => ∃ vl rest, vals = .int .i64 h.at_ :: .int .i64 h.del :: .int .i64 h.to_ :: .int .i64 h.add :: vl :: rest ∧ w.ownsRow B e 2 vl h.ls.length (h.ls.flatMap cEd) ∧ HkV e w B rest hs
theorem HkV.keep {e : TypeId} {w w' : World} {B : Nat} (hk : ∀ v n xs, w.ownsRow B e 2 v n xs → w'.ownsRow B e 2 v n xs) : ∀ {hs : List Hk} {vals : List Value}, HkV e w B vals hs → HkV e w' B vals hs
  | [], _, h => h
  | _ :: _, _, ⟨vl, rest, hv, h1, h2⟩ => ⟨vl, rest, hv, hk _ _ _ h1, HkV.keep hk h2⟩
theorem HkV.snoc {e : TypeId} {w : World} {B : Nat} {h : Hk} {vl : Value} (h1 : w.ownsRow B e 2 vl h.ls.length (h.ls.flatMap cEd)) : ∀ {hs : List Hk} {vals : List Value}, HkV e w B vals hs → HkV e w B (vals ++ [.int .i64 h.at_, .int .i64 h.del, .int .i64 h.to_, .int .i64 h.add, vl]) (hs ++ [h])
  | [], _, h0 => by rw [show _ = [] from h0]; exact ⟨vl, [], rfl, h1, rfl⟩
  | _ :: _, _, ⟨vl', rest, hv, g1, g2⟩ => ⟨vl', _, by rw [hv]; rfl, g1, HkV.snoc h1 g2⟩
theorem HkV.at_ {e : TypeId} {w : World} {B : Nat} : ∀ {hs : List Hk} {vals : List Value} {i : Nat} {h : Hk}, HkV e w B vals hs → hs[i]? = some h →
    ∃ vl, vals[i * 5]? = some (.int .i64 h.at_) ∧ vals[i * 5 + 1]? = some (.int .i64 h.del) ∧ vals[i * 5 + 2]? = some (.int .i64 h.to_) ∧ vals[i * 5 + 3]? = some (.int .i64 h.add) ∧ vals[i * 5 + 4]? = some vl ∧ w.ownsRow B e 2 vl h.ls.length (h.ls.flatMap cEd)
  | [], _, _, _, _, hi => by simp at hi
  | h0 :: hs, _, 0, h, ⟨vl, rest, hv, g1, _⟩, hi => by
    simp at hi
    subst hi
    rw [hv]
    exact ⟨vl, rfl, rfl, rfl, rfl, rfl, g1⟩
  | h0 :: hs, _, i + 1, h, ⟨vl, rest, hv, _, g2⟩, hi => by
    rw [List.getElem?_cons_succ] at hi
    obtain ⟨vl', k0, k1, k2, k3, k4, r⟩ := HkV.at_ g2 hi
    rw [hv]
    refine ⟨vl', ?_, ?_, ?_, ?_, ?_, r⟩
    · rw [show (i + 1) * 5 = i * 5 + 5 by omega]; exact k0
    · rw [show (i + 1) * 5 + 1 = i * 5 + 1 + 5 by omega]; exact k1
    · rw [show (i + 1) * 5 + 2 = i * 5 + 2 + 5 by omega]; exact k2
    · rw [show (i + 1) * 5 + 3 = i * 5 + 3 + 5 by omega]; exact k3
    · rw [show (i + 1) * 5 + 4 = i * 5 + 4 + 5 by omega]; exact k4
theorem own_formP {w : World} {base k n : Nat} {e : TypeId} {v : Value} {xs : List Value} (h : w.ownsRow base e k v n xs) : ∃ A c, v = .slice A n c := by
  rcases h.2 with ⟨rfl, h0⟩ | ⟨g, cap, cur, rfl, _⟩
  · exact ⟨_, _, by rw [h0]⟩
  · exact ⟨_, _, rfl⟩
/-- Rows of unlike types lie apart. -/
theorem rows_ne {w : World} {b1 b2 k1 k2 n1 n2 : Nat} {e1 e2 : TypeId} {v1 v2 : Value} {x1 x2 : List Value} (h1 : w.ownsRow b1 e1 k1 v1 n1 x1) (h2 : w.ownsRow b2 e2 k2 v2 n2 x2) (hne : e1 ≠ e2) : ∀ g, v1.ownBlock = some g → v2.ownBlock ≠ some g := by
  intro g g1 g2
  rcases h1.2 with ⟨rfl, _⟩ | ⟨g', cap, cur, rfl, _, hh, _⟩
  · simp [Value.ownBlock] at g1
  · rcases h2.2 with ⟨rfl, _⟩ | ⟨g'', cap', cur', rfl, _, hh', _⟩
    · simp [Value.ownBlock] at g2
    · simp [Value.ownBlock] at g1 g2
      subst g1; subst g2
      rw [hh] at hh'
      injection hh' with e
      injection e with _ e2
      exact hne e2
theorem kept_ne {w w' : World} {b1 b2 k1 k2 n1 n2 : Nat} {e1 e2 : TypeId} {v1 v2 : Value} {x1 x2 : List Value} (h1 : w.ownsRow b1 e1 k1 v1 n1 x1) (h2 : w.ownsRow b2 e2 k2 v2 n2 x2) (hne : e1 ≠ e2) (hg : w.grownBy w' v2.ownBlock) : w'.ownsRow b1 e1 k1 v1 n1 x1 := by
  refine h1.kept hg ?_
  cases hy : v1.ownBlock with
  | none => exact .inl rfl
  | some k => exact .inr fun e => rows_ne h1 h2 hne k hy e.symm
theorem HksIn.of_own {w : World} {base B : Nat} {e t : TypeId} {v : Value} {hs : List Hk} {vals : List Value} (h : w.ownsRow base t 5 v hs.length vals) (hv : HkV e w B vals hs) : HksIn w v hs := by
  rcases h.2 with ⟨rfl, h0⟩ | ⟨g, cap, cur, rfl, hb, hg, hnc, hm, hcs, ht⟩
  · have : hs = [] := List.eq_nil_of_length_eq_zero h0
    subst this
    exact HksIn.nil w
  · refine ⟨some ⟨g, 0, none⟩, cap, rfl, hnc, hm, (fun h => by cases h), fun ad ha i x hx => ?_⟩
    obtain rfl := Option.some.inj ha
    obtain ⟨vl, k0, k1, k2, k3, k4, r⟩ := hv.at_ hx
    have c := fun j u (hu : vals[j]? = some u) => h.cells (g := g) rfl j u hu
    have ar : ∀ j u, vals[i * 5 + j]? = some u → w.cell? (adr ⟨g, 0, none⟩ i 5 j) = some u := fun j u hu => by
      have := c _ _ hu
      rw [add_zero_addr] at this
      cases j with
      | zero => unfold adr; rw [add_zero_addr]; exact this
      | succ j => unfold adr; rw [add_zero_addr]; exact this
    exact ⟨vl, ar 0 _ k0, ar 1 _ k1, ar 2 _ k2, ar 3 _ k3, ar 4 _ k4, Reads.of_own cEd_len r⟩

/-- Hunks in a row of the call's own. -/
def HunksTo (t e : TypeId) (hs : List Hk) (w : World) (x : Ending) (w' : World) : Prop := ∃ v vals, x = .returned v ∧ w'.ownsRow w.heap.size t 5 v hs.length vals ∧ HkV e w' w.heap.size vals hs ∧ Below w.heap.size w w'

set_option maxRecDepth 100000 in
set_option maxHeartbeats 8000000 in
theorem ofHk_any (w : World) (v : Value) (hs : List Hk) (h : HksIn w v hs) (hl : hs.length ≤ 1000) (hll : ∀ x ∈ hs, x.ls.length ≤ 1000) :
    Calls Tryd.prog 32 #[v] w (HunksTo 114 91 hs w) := by
  obtain ⟨A, c, rfl⟩ := h.form
  have hnm : c ≤ 9223372036854775807 := by have := h.len.2.2; unfold maxLen at this; omega
  have hnc := h.len.2.1
  have HH := Lib.hid h
  have HLL := Lib.hid hll
  obtain ⟨i0, hi, hz0, hz1, hz2⟩ := info_parts refHunkInfo
  clear h hll
  go_enter Tryd.func32, Tryd.ntmps32
  go_wp2_with fail
  go_loopw [3, 4] (fun s3 s4 wr => ∃ (i : Nat) (vals : List Value), i ≤ hs.length ∧ s4 = .int .i64 i ∧ Hid (wr.ownsRow w.heap.size 114 5 s3 i vals) ∧ Hid (HkV 91 wr w.heap.size vals (hs.take i)) ∧ Hid (Below w.heap.size w wr)) (fun _ s4 _ => hs.length - (intOf s4).toNat)
  case atStart => exact ⟨0, [], Nat.zero_le _, rfl, Lib.hid (World.ownsRow_nil _ _ _ _), Lib.hid rfl, Lib.hid (Below.refl _ _)⟩
  case round =>
    obtain ⟨i, vals, hil, rfl, hown, hv, hb⟩ := hrel
    have i0' : (0 : Int) ≤ (i : Int) := Int.natCast_nonneg _
    by_cases hlt : i < hs.length
    · obtain ⟨x, hx⟩ : ∃ x, hs[i]? = some x := ⟨_, List.getElem?_eq_getElem hlt⟩
      obtain ⟨ad, vl, rfl, c0, c1, c2, c3, c4, hrd⟩ := HH.out.at2 (Below.refl _ _) hx
      have hxl := HLL.out x (List.mem_of_getElem? hx)
      have HF := Lib.hid hx
      obtain ⟨at_, del, to_, add, ls⟩ := x
      simp only at c0 c1 c2 c3 hrd hxl
      obtain ⟨Al, cl, rfl⟩ := hrd.form
      have hi1 : (i : Int) < (hs.length : Int) := by omega
      have hsz := hb.out.size
      have ZZ := Lib.hid (fun (w' : World) (hb' : Below w.heap.size w w') => And.intro ((hb'.cell (World.block_lt_of_cell? _ _ c0)).trans c0) (And.intro ((hb'.cell (World.block_lt_of_cell? _ _ c1)).trans c1) (And.intro ((hb'.cell (World.block_lt_of_cell? _ _ c2)).trans c2) (And.intro ((hb'.cell (World.block_lt_of_cell? _ _ c3)).trans c3) ((hb'.cell (World.block_lt_of_cell? _ _ c4)).trans c4)))))
      have z0 := ZZ.out _ hb.out.drew
      have T := Lib.hid (fun (w' : World) (hb' : Below w.heap.size w w') => ofEd_any w' (.slice Al ls.length cl) ls (hrd.below hb') hxl)
      have HB := Lib.hid (fun (w' : World) (b' : Below wr.drew.heap.size wr.drew w') => hb.out.drew.trans (b'.mono hb.out.drew.size))
      clear hx hrd hxl c0 c1 c2 c3 c4
      go_upto_block 1 with fail
      go_cut [3] (fun x3 wy => ∃ vals2, Hid (wy.ownsRow w.heap.size 114 5 x3 (i + 1) vals2) ∧ Hid (HkV 91 wy w.heap.size vals2 (hs.take (i + 1))) ∧ Hid (Below w.heap.size w wy))
      case first =>
        go_wp2_with fail
        go_region_held3 (fun w' => w'.cell? (ad.add (i * 5)) = some (.int .i64 at_) ∧ w'.cell? ⟨(ad.add (i * 5)).block, (ad.add (i * 5)).off + 1, none⟩ = some (.int .i64 del) ∧ w'.cell? ⟨(ad.add (i * 5)).block, (ad.add (i * 5)).off + 2, none⟩ = some (.int .i64 to_) ∧ w'.cell? ⟨(ad.add (i * 5)).block, (ad.add (i * 5)).off + 3, none⟩ = some (.int .i64 add) ∧ w'.cell? ⟨(ad.add (i * 5)).block, (ad.add (i * 5)).off + 4, none⟩ = some (.slice Al ls.length cl)) (first | exact z0 | exact z6 | exact ZZ.out _ (d6.alloc d6.size _) | exact z7) (first
          | (refine step_append_lies _ (by rfl) _ _ 53 (by rfl) w.heap.size 114 i0 (.agg #[.int .i64 0, .int .i64 0, .int .i64 0, .int .i64 0, .slice none 0 0]) 5 56 Tryd.underlying53 hi hz0 hz1 hz2 rfl (by omega) _ i vals (by rfl) (hown6.alloc _) ⟨w6.heap.size, 0, none⟩ 1 1 [.int .i64 at_, .int .i64 del, .int .i64 to_, .int .i64 add, .slice A6 ls.length c6] (by rfl) (by rfl) (World.news_of_block (cs := #[.int .i64 at_, .int .i64 del, .int .i64 to_, .int .i64 add, .slice A6 ls.length c6]) (t := 114) (fr := (0, 0)) (heap_alloc_new w6 _)) (by simp [Value.oneCell']) (by omega) (by unfold maxLen; omega) (by omega) (by simp; omega) (w6.heap.size + 1) (by simp) ?_; intro gg cap w7 hown7 hg7 hat hlt7; have d7 := (d6.alloc d6.size (.cells #[.int .i64 at_, .int .i64 del, .int .i64 to_, .int .i64 add, .slice A6 ls.length c6] 114)).grown hg7 (by simp; omega) (fun z hz => (hown6.lt z hz).1); have z7 := ZZ.out _ d7)
          | (go_at_call 60; (with_reducible refine (T.out wr.drew hb.out.drew).mono ?_); rintro e w6 ⟨v6, rfl, o6, b6⟩; have d6 := HB.out _ b6; have z6 := ZZ.out _ d6; have hown6 := own2_keep hown.out.drew b6; have hws6 := d6.size; obtain ⟨A6, c6, rfl⟩ := own_formP o6))
        all_goals
          go_wp2_with fail
          go_meet
          exact ⟨vals ++ [.int .i64 at_, .int .i64 del, .int .i64 to_, .int .i64 add, .slice A6 ls.length c6], Lib.hid hown7, Lib.hid (by
            rw [take_snocP HF.out]
            exact HkV.snoc (h := ⟨at_, del, to_, add, ls⟩) (kept_ne ((own2_le o6 hb.out.drew.size).alloc _) (hown6.alloc _) (by decide) hg7) (hv.out.keep fun v n xs hr => kept_ne ((own2_keep hr.drew b6).alloc _) (hown6.alloc _) (by decide) hg7)), Lib.hid d7⟩
      case rest =>
        obtain ⟨vals2, h1, h2, h3⟩ := hcut
        go_wp2
        go_roundw
        case rel => exact ⟨i + 1, vals2, by omega, by go_num, h1, h2, h3⟩
        case measure => simp [intOf]; omega
    · obtain rfl : i = hs.length := by omega
      have HL : Hid (hs.take hs.length = hs) := Lib.hid (by rw [List.take_length])
      go_wp2
      go_ret
      exact ⟨_, vals, rfl, hown.out, by rw [HL.out] at hv; exact hv.out, hb.out⟩
end Go.Proofs.YtdpoeagmeiedcaaDoor
