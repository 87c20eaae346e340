/-
  rectoref14.Paths: the paths of trees, rising, each once.
-/
import Derived.Test.YtplleaimmmanhaaDoorFRefP
import Derived.Test.YtplleaimmmanhaaDoorSPaths
namespace Go.Proofs.YtplleaimmmanhaaDoor
open Go.RowKit

theorem nrm_nil2 : nrm [] = [] := nrm_of List.Pairwise.nil fun s => by simp
theorem nrm_app (a : List ByteArray) (p : ByteArray) : nrm (nrm a ++ [p]) = nrm (a ++ [p]) := nrm_of (nrm_rise _) fun s => by
  rw [nrm_mem, List.mem_append, List.mem_append, nrm_mem]
theorem nrm_id {a : List ByteArray} (h : RiseP a) : nrm a = a := nrm_of h fun _ => Iff.rfl

set_option maxRecDepth 100000 in
set_option maxHeartbeats 4000000 in
theorem refPaths_any (w : World) (ad : Addr) (c : Nat) (rs : List (Value × List Fl)) (h : Trees w ad rs) (hl : rs.length ≤ 1000) (hp : (pathsR rs).length ≤ 100000) :
    Calls Tryd.prog 11 #[.slice (some ad) rs.length c] w (TextsTo (nrm (pathsR rs)) w) := by
  have hnm : rs.length ≤ 9223372036854775807 := by omega
  have HO := Lib.hid h
  have HP := Lib.hid hp
  obtain ⟨i0, hi, hz0, hz1, hz2⟩ := info_parts strInfo
  clear h hp
  go_enter Tryd.func11, Tryd.ntmps11
  go_wp2
  go_loopw [3, 4] (fun s3 s4 wr => ∃ (i : Nat) (cur : List ByteArray), i ≤ rs.length ∧ s4 = .int .i64 i ∧ Hid (cur = nrm (pathsR (rs.take i))) ∧ Hid (wr.ownsRow w.heap.size 47 3 s3 cur.length (cur.flatMap cP)) ∧ Below w.heap.size w wr) (fun _ s4 _ => rs.length - (intOf s4).toNat)
  case atStart => exact ⟨0, [], Nat.zero_le _, rfl, Lib.hid nrm_nil2.symm, Lib.hid (World.ownsRow_nil _ _ _ _), Below.refl _ _⟩
  case round =>
    obtain ⟨i, cur, hil, rfl, HC, hown, hb⟩ := hrel
    by_cases hlt : i < rs.length
    · obtain ⟨r, hr⟩ : ∃ r, rs[i]? = some r := ⟨_, List.getElem?_eq_getElem hlt⟩
      have HT := Lib.hid (show pathsR (rs.take (i + 1)) = pathsR (rs.take i) ++ r.2.map (·.1) by rw [take_snoc hr, pathsR_snoc])
      have hle := pathsR_take rs (i + 1)
      rw [HT.out, List.length_append, List.length_map] at hle
      have CC := Lib.hid fun W (hW : Below w.heap.size w W) => (HO.out.below hW i r hr).1
      have hrd := (HO.out i r hr).2
      obtain ⟨rv, l⟩ := r
      obtain ⟨B, d, hrv⟩ := hrd.form
      simp only at hrv
      subst hrv
      have HR := Lib.hid hrd
      have i0' : (0 : Int) ≤ (i : Int) := Int.natCast_nonneg _
      have hi1 : (i : Int) < (rs.length : Int) := by omega
      have hlm : l.length ≤ 9223372036854775807 := by have := HP.out; simp only at hle; omega
      obtain ⟨acc, hacc⟩ : ∃ acc, acc = pathsR (rs.take i) := ⟨_, rfl⟩
      rw [← hacc] at HC HT hle
      have HLE := Lib.hid hle
      clear hr hrd hacc hle
      go_wp2
      go_loopw [3, 5] (fun s3 s5 wq => ∃ (j : Nat) (cur : List ByteArray), j ≤ l.length ∧ s5 = .int .i64 j ∧ Hid (cur = nrm (acc ++ (l.take j).map (·.1))) ∧ Hid (wq.ownsRow w.heap.size 47 3 s3 cur.length (cur.flatMap cP)) ∧ Below w.heap.size w wq) (fun _ s5 _ => l.length - (intOf s5).toNat)
      case atStart => exact ⟨0, cur, Nat.zero_le _, rfl, Lib.hid (by rw [List.take_zero, List.map_nil, List.append_nil]; exact HC.out), hown, hb⟩
      case round =>
        clear HC hown hb
        obtain ⟨j, cur, hjl, rfl, HC, hown, hb⟩ := hrel
        have cc := CC.out _ hb
        by_cases hjt : j < l.length
        · obtain ⟨f, hf⟩ : ∃ f, l[j]? = some f := ⟨_, List.getElem?_eq_getElem hjt⟩
          obtain ⟨ad2, rfl, c0, c1, c2⟩ := Fils.at_ (HR.out.below hb) hf
          obtain ⟨p, m, dd⟩ := f
          have HE := Lib.hid (show nrm (acc ++ (l.take (j + 1)).map (fun x => x.1)) = nrm (cur ++ [p]) by rw [HC.out, nrm_app, take_snoc hf]; simp)
          have hcl : cur.length ≤ 100000 := by
            have h1 := HLE.out
            have h2 := HP.out
            rw [HC.out]
            refine Nat.le_trans (nrm_len _) ?_
            rw [List.length_append, List.length_map, List.length_take]
            omega
          have j0' : (0 : Int) ≤ (j : Int) := Int.natCast_nonneg _
          have hj1 : (j : Int) < (l.length : Int) := by omega
          have hrise : RiseP cur := by rw [HC.out]; exact nrm_rise _
          obtain ⟨A3, c3, rfl⟩ := own_form hown.out
          have PT := Lib.hid (refPut_any wr _ cur p (Reads.of_own cP_len hown.out) hrise hcl)
          obtain ⟨nx, hnx⟩ : ∃ nx, nx = nrm (cur ++ [p]) := ⟨_, rfl⟩
          rw [← hnx] at PT HE
          have hsz := hb.size
          clear hf hrise hnx
          go_wp2_with fail
          refine PT.out.mono ?_
          rintro e w5 ⟨v5, rfl, o5, b5⟩
          have HB5 := hb.trans (b5.mono hsz)
          have HO5 := Lib.hid (own_base o5 hsz)
          clear o5 b5
          go_wp2
          go_roundw
          case rel => exact ⟨j + 1, nx, by omega, by go_num, Lib.hid HE.out.symm, HO5, HB5⟩
          case measure => simp [intOf]; omega
        · obtain rfl : j = l.length := by omega
          go_wp2
          go_roundw
          case rel => exact ⟨i + 1, cur, by omega, by go_num, Lib.hid (by rw [HT.out, HC.out, List.take_length]), hown, hb⟩
          case measure => simp [intOf]; omega
    · obtain rfl : i = rs.length := by omega
      rw [List.take_length] at HC
      have hcl : cur.length ≤ 100000 := by rw [HC.out]; exact Nat.le_trans (nrm_len _) HP.out
      obtain ⟨A3, c3, rfl⟩ := own_form hown.out
      have RR := Lib.hid (Reads.of_own cP_len hown.out)
      have hB := Lib.hid hb
      have hsz0 := hb.size
      have HCE : Hid (nrm (pathsR rs) = cur) := Lib.hid HC.out.symm
      clear hown HC hb
      obtain ⟨wo, hwo⟩ : ∃ wo, wo = wr := ⟨_, rfl⟩
      subst hwo
      go_wp2
      go_loopw [6, 7] (fun s6 s7 wq => ∃ k : Nat, k ≤ cur.length ∧ s7 = .int .i64 k ∧ Hid (wq.ownsRow wo.heap.size 9 1 s6 k ((cur.take k).map Value.string)) ∧ Below wo.heap.size wo wq) (fun _ s7 _ => cur.length - (intOf s7).toNat)
      case atStart => exact ⟨0, Nat.zero_le _, rfl, Lib.hid (World.ownsRow_nil _ _ _ _), Below.refl _ _⟩
      case round =>
        obtain ⟨k, hk, rfl, hown, hb⟩ := hrel
        by_cases hkt : k < cur.length
        · obtain ⟨p, hp⟩ : ∃ p, cur[k]? = some p := ⟨_, List.getElem?_eq_getElem hkt⟩
          obtain ⟨ad2, rfl, c0, c1, c2⟩ := Pats.at_ (RR.out.below hb) hp
          have HE := Lib.hid (show cur.take (k + 1) = cur.take k ++ [p] from take_snoc hp)
          have k0' : (0 : Int) ≤ (k : Int) := Int.natCast_nonneg _
          have hk1 : (k : Int) < (cur.length : Int) := by omega
          have hsz := hb.size
          have hown4 := hown.out.alloc (.cells #[.string p] 9)
          have hnews := news_one wr #[.string p] 9 wr.heap.size rfl
          clear hp
          go_wp2_with (at_builtin; refine wpList_append_own _ rfl _ _ 28 rfl wo.heap.size 9 i0 (.string { data := #[] }) 1 16 Tryd.underlying28 hi hz0 hz1 hz2 rfl (by decide) _ _ _ rfl hown4 ⟨wr.heap.size, 0, none⟩ 1 1 [.string p] rfl rfl hnews (by simp [Value.oneCell']) (by unfold maxLen; omega) (by omega) (by simp; omega) ?_; intro v5 w5 hown5 hg5 _)
          have hb5 : Below wo.heap.size wo w5 := (hb.alloc hsz _).grown hg5 (by simp; omega) (fun k hk => (hown.out.lt k hk).1)
          clear hnews hown4 hg5
          go_roundw
          case rel => exact ⟨k + 1, by omega, by go_num, Lib.hid (by rw [HE.out, str_snoc]; exact hown5), hb5⟩
          case measure => simp [intOf]; omega
        · obtain rfl : k = cur.length := by omega
          have HE : Hid (cur.take cur.length = cur) := Lib.hid (List.take_length)
          go_wp2
          go_ret
          exact ⟨_, rfl, by rw [HCE.out]; exact own_base (by have := hown.out; rw [HE.out] at this; exact this) hsz0, hB.out.trans (hb.mono hsz0)⟩
end Go.Proofs.YtplleaimmmanhaaDoor
