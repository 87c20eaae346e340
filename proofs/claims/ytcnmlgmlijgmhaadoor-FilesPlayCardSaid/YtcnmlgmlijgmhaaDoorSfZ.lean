/-
  FilesArms' walk.
-/
import Derived.Test.YtcnmlgmlijgmhaaDoorSfY
import Derived.Test.YtcnmlgmlijgmhaaDoorSfP
namespace Go.Proofs.YtcnmlgmlijgmhaaDoor
open Go Go.RowKit Go.Maps

/-- The names of the laws. -/
def nm (i : Nat) : ByteArray := ⟨#[102, UInt8.ofNat (97 + i)]⟩
def nmOk (m : Nat) : Bool := (List.range m).all fun i => (chk (nm i).data.toList == 0) && (List.range m).all fun j => !(cls (nm i).data.toList (nm j).data.toList)
theorem nm_ok : nmOk 26 = true := by kernel_rfl
theorem chk_nm {i : Nat} (h : i < 26) : chk (nm i).data.toList = 0 := by
  have := List.all_eq_true.1 nm_ok i (List.mem_range.2 h)
  simp only [Bool.and_eq_true, beq_iff_eq] at this
  exact this.1
theorem cls_nm {i j : Nat} (h : i < 26) (g : j < 26) : cls (nm i).data.toList (nm j).data.toList = false := by
  have := List.all_eq_true.1 nm_ok i (List.mem_range.2 h)
  simp only [Bool.and_eq_true] at this
  have := List.all_eq_true.1 this.2 j (List.mem_range.2 g)
  simpa using this
theorem nm_size (i : Nat) : (nm i).size = 2 := rfl
theorem nm_free {T : Tr} (h : ∀ x ∈ T, ∃ j, j < 26 ∧ x.1 = nm j) {i : Nat} (hi : i < 26) (fr : ByteArray) : T.any (badX fr (nm i)) = false := by
  rw [List.any_eq_false]
  intro x hx
  obtain ⟨j, hj, e⟩ := h x hx
  unfold badX
  rw [e, cls_nm hj hi]
  simp
theorem mem_ins {x y : ByteArray × FV} : ∀ {T : Tr}, y ∈ insT x T → y = x ∨ y ∈ T
  | [], h => by simp [insT] at h; exact .inl h
  | z :: T, h => by
    unfold insT at h
    split at h
    · rcases List.mem_cons.1 h with rfl | h
      · exact .inl rfl
      · exact .inr h
    · rcases List.mem_cons.1 h with rfl | h
      · exact .inr (List.mem_cons_self ..)
      · rcases mem_ins h with rfl | h
        · exact .inl rfl
        · exact .inr (List.mem_cons_of_mem _ h)
theorem mem_put {T : Tr} {p : ByteArray} {f : FV} {y : ByteArray × FV} (h : y ∈ putT T p f) : y.1 = p ∨ y ∈ T := by
  rcases mem_ins h with rfl | h
  · exact .inl rfl
  · exact .inr (List.mem_filter.1 h).1
theorem inoNew_le (T : Tr) (p : ByteArray) {i : Int} : inoNew T p i = i ∨ inoNew T p i = i + 1 := by
  unfold inoNew; split
  · exact .inl rfl
  · exact .inr rfl
/-- The disk before write i. -/
structure ArmD (m i : Nat) (D : DK) : Prop where
  q : D.q = 0
  S : D.S = []
  ks : D.ks = []
  on : i < m → D.off = false ∧ D.armed = (m : Int) - (i : Int) ∧ D.ops = (i : Int) ∧ D.ps.length = i ∧ (∀ x ∈ D.T, ∃ j, j < 26 ∧ x.1 = nm j) ∧ 0 ≤ D.ino ∧ D.ino ≤ i
  down : m ≤ i → D.off = true ∧ D.T = [] ∧ D.ps = [] ∧ D.ops = (m : Int) - 1
theorem cutN_nil (ps : List Ov) : ∀ i, cutN [] ps [] i = []
  | 0 => rfl
  | i + 1 => by
    unfold cutN
    rw [cutN_nil ps i]
    split <;> simp
set_option maxRecDepth 100000 in
set_option maxHeartbeats 2000000 in
theorem arm_nil {w : World} {B N : Nat} {L : Loc} {D : DK} (h : DiskIs w B L N D) (m : Int) :
    Calls Tryd.prog 25 #[.pointer (some ⟨L.F, 0, none⟩), .int .i64 m, .slice none 0 0] w fun e w' => ∃ L', e = .returned (.tuple #[]) ∧ DiskIs w' B L' N { D with armed := max m 1, ks := [] } ∧ Next w L w' L' := by
  have FS := Lib.hid h
  have c8 := h.fs.x.cell 8
  have f8 := h.fs.x.frozen 8
  have c9 := h.fs.x.cell 9
  have f9 := h.fs.x.frozen 9
  have CL := Lib.hid (fun W => cloneB_none W _ rfl)
  clear h
  go_enter Tryd.func25, Tryd.ntmps25
  go_wp2_with (go_at_call 38; refine (CL.out _).mono ?_; rintro e w' ⟨rfl, rfl⟩)
  have G : w.grownBy ((w.setCell ⟨L.F, 8, none⟩ (.int .i64 (max m 1))).setCell ⟨L.F, 9, none⟩ (.slice none 0 0)) (some L.F) := World.grownBy.trans (grown_cellF w L.F 8 _) (grown_cellF _ L.F 9 _)
  refine ⟨rfl, _, (by first | rfl | kernel_rfl), ⟨L.F, L.bf, L.bs, L.vp, .slice none 0 0⟩, rfl, ⟨(FS.out.fs.setArmed (max m 1)).setKeep _, ?_, ⟨by simp, .inl ⟨rfl, rfl⟩⟩, FS.out.lo, FS.out.sT, FS.out.sS, FS.out.so⟩, rfl, fun k hk => .inl hk, Turns.of_grown G (.inl rfl)⟩
  exact FS.out.ps.kept G (Or.inr (own_blk_ne FS.out.ps FS.out.fs.x (by decide)))
abbrev lt1 (c : Nat) : ByteArray := ⟨#[UInt8.ofNat (97 + c)]⟩
theorem nm_sum (c : Nat) (w : World) : (Op.stringOp .add ⟨#[102]⟩ (lt1 c)).run Tryd.prog w = .ok (.string (nm c)) w := by
  rw [run_string_add_sum w ⟨#[102]⟩ (lt1 c) (show 1 + 1 ≤ 9223372036854775807 by omega)]
  rfl
theorem nm_conv (W : World) (c : Nat) (hc : c < 26) : (convert 32 9 (.slice (some ⟨W.heap.size, 0, none⟩) 1 1)).run Tryd.prog (W.alloc (.cells #[.int .u8 (97 + (c : Int))] 5)) = .ok (.string (lt1 c)) (W.alloc (.cells #[.int .u8 (97 + (c : Int))] 5)) :=
  run_convert_bytes_back (P := Tryd.prog) _ 32 9 5 ⟨W.heap.size, 0, none⟩ 1 [UInt8.ofNat (97 + c)] Tryd.underlying32 Tryd.underlying5 Tryd.underlying9 (fun j hj => by
    have hj0 : j = 0 := by simpa using hj
    subst hj0
    rw [add_zero_addr, cell_of_row _ _ 0 _ 5 _ (heap_alloc_new W _)]
    simp
    omega)
theorem namesV_nil : namesV [] = [] := by first | kernel_rfl | simp [namesV, srt]
attribute [-go_sem] run_string_add_if
set_option maxRecDepth 100000 in
set_option maxHeartbeats 8000000 in
theorem filesArms_any (w : World) (a : Int) (h0 : 0 ≤ a) (h1 : a ≤ 255) : Calls Tryd.prog 6 #[.int .u8 a] w fun e w' => e = .returned (.bool true) ∧ Below w.heap.size w w' := by
  have KN := Lib.hid (known5_any w)
  obtain ⟨k, hk⟩ : ∃ k : Nat, (k : Int) = a % 20 := ⟨(a % 20).toNat, by omega⟩
  have hk19 : k < 20 := by omega
  obtain ⟨m, hm⟩ : ∃ m : Nat, m = max k 1 := ⟨_, rfl⟩
  have hmk : ((max (k : Int) 1 : Int)) = (m : Int) := by omega
  go_enter Tryd.func6, Tryd.ntmps6
  go_wp2_with fail
  refine KN.out.mono ?_
  rintro e w1 ⟨rfl, b1⟩
  have B1 := Lib.hid b1
  have NW := Lib.hid (new_disk w1 0)
  clear KN b1
  go_wp2_with fail
  refine NW.out.mono ?_
  rintro e w2 ⟨L, rfl, d2, b2⟩
  have B2 := Lib.hid (B1.out.trans (b2.mono B1.out.size))
  have H2 := Lib.hid d2
  have SZ := Lib.hid B1.out.size
  have AR := arm_nil d2 (k : Int)
  rw [hmk] at AR
  have AR := Lib.hid AR
  clear NW d2 b2 B1
  rw [← hk] at *
  go_wp2_with fail
  refine AR.out.mono ?_
  rintro e w3 ⟨L3, rfl, d3, n3⟩
  have hF3 : L3.F = L.F := n3.F
  rw [← hF3]
  have B3 := Lib.hid (B2.out.trans ((n3.below H2.out (Nat.le_trans (Nat.le_refl _) (by have := H2.out.lo; have := H2.out.fs.x.lt; omega))).mono SZ.out))
  have H3 := Lib.hid d3
  have HM := Lib.hid hm
  clear AR d3 n3 hF3 H2 B2 hmk hm
  have hm0 : m = max k 1 := HM.out
  go_wp2_with fail
  go_loopw [5, 6] (fun s5 s6 wr => ∃ (i : Nat) (L' : Loc) (N : Nat) (D : DK), i ≤ k + 3 ∧ s6 = .int .i64 i ∧ s5 = .int .i64 ((min i (m - 1) : Nat) : Int) ∧ L'.F = L3.F ∧ Hid (DiskIs wr w1.heap.size L' N D ∧ N ≤ 100 * i ∧ ArmD m i D) ∧ Hid (Below w.heap.size w wr) ∧ Hid (w1.heap.size ≤ wr.heap.size)) (fun _ s6 _ => k + 3 - (intOf s6).toNat)
  case atStart =>
    refine ⟨0, L3, 0, _, by omega, rfl, by simp, rfl, Lib.hid ⟨H3.out, by omega, ⟨rfl, rfl, rfl, fun _ => ⟨rfl, ?_, rfl, rfl, fun x hx => absurd hx (by simp [D0]), ?_, ?_⟩, fun h => by omega⟩⟩, B3, Lib.hid (by have := H3.out.lo; have := H3.out.fs.x.lt; omega)⟩
    · simp
    · exact Int.le_refl 0
    · exact Int.le_refl 0
  case round =>
    obtain ⟨i, L', N, D, hi, rfl, rfl, hF, HD, HB, HS⟩ := hrel
    by_cases hlt : i < k + 3
    · have hd : decide ((i : Int) < (k : Int) + 3) = true := decide_eq_true (by omega)
      have cv := nm_conv wr i (by omega)
      have sm := nm_sum i
      have hi22 : (i : Int) ≤ 22 := by omega
      have B4 := Lib.hid (HB.out.alloc HB.out.size (.cells #[.int .u8 (97 + (i : Int))] 5))
      have H4 := Lib.hid (HD.out.1.alloc (.cells #[.int .u8 (97 + (i : Int))] 5))
      have AD := Lib.hid HD.out.2.2
      have HNN := Lib.hid HD.out.2.1
      have S4 := Lib.hid (show w1.heap.size ≤ (wr.alloc (.cells #[.int .u8 (97 + (i : Int))] 5)).heap.size by have := HS.out; simp; omega)
      rw [← hF]
      have HF := Lib.hid hF
      clear hF
      by_cases him : i < m
      · obtain ⟨a1, a2, a3, a4, a5, a6, a7⟩ := AD.out.on him
        have WR := Lib.hid (write_w H4.out AD.out.q a1 (nm i) 1 (.slice none 0 0) ⟨#[]⟩ (bytesIn_none _ _) (by decide) (.inl rfl) (chk_nm (by omega)) (nm_free a5 (by omega) _) (by rw [a2]; omega) (by rw [nm_size]; omega) (by have := HNN.out; omega) (by omega) S4.out a6 (by omega) (by rw [a3]; omega) (by rw [a3]; omega))
        have HA := Lib.hid (And.intro a3 (And.intro a4 (And.intro a5 (And.intro a6 a7))))
        by_cases hlast : i + 1 = m
        · have hE : stepE D = 13 := by unfold stepE; rw [if_pos (by rw [a2]; omega)]
          have hD : stepD D (0, ⟨#[]⟩, nm i, 1, D.now, inoOf D.T (nm i) D.ino, ⟨#[]⟩) (inoNew D.T (nm i) D.ino) = cutD D [] := by unfold stepD; rw [if_pos (by rw [a2]; omega), AD.out.ks]
          rw [hE, hD] at WR
          have hd2 : decide ((i : Int) + 1 < (k : Int)) = false := decide_eq_false (by omega)
          have HLA := Lib.hid (And.intro hlast (And.intro hm0 (And.intro hlt hi)))
          obtain ⟨z, hz⟩ : ∃ z : Int, z = ((min i (m - 1) : Nat) : Int) := ⟨_, rfl⟩
          rw [← hz]
          have HZ := Lib.hid hz
          clear a1 a2 a3 a4 a5 a6 a7 hE hD hlast hm0 hlt hi him hz hk
          go_wp2_with (go_at_call 16; refine WR.out.mono ?_; rintro e w5 ⟨L5, rfl, d5, n5⟩; have H5 := Lib.hid d5; have B5 := Lib.hid (B4.out.trans ((n5.below H4.out S4.out).mono SZ.out)); have hF5 := n5.F; have S5 := Lib.hid (Nat.le_trans S4.out n5.t.size); rw [← hF5]; clear d5 n5 WR cv)
          go_roundw
          case rel => exact ⟨i + 1, L5, _, _, by have := HLA.out; omega, by go_num, by rw [HZ.out]; have := HLA.out; congr 2; omega, hF5, Lib.hid ⟨H5.out, by have := HNN.out; have := HA.out.2.1; omega, ⟨AD.out.q, by show cutN D.S D.ps [] _ = []; rw [AD.out.S]; exact cutN_nil _ _, rfl, fun h => by have := HLA.out; omega, fun _ => ⟨rfl, by show cutN D.S D.ps [] _ = []; rw [AD.out.S]; exact cutN_nil _ _, rfl, by show D.ops = _; rw [HA.out.1]; have := HLA.out; omega⟩⟩⟩, B5, S5⟩
          case measure => have := HLA.out; simp [intOf]; omega
        · have hE : stepE D = 0 := by unfold stepE; rw [if_neg (by rw [a2]; omega)]
          have hD : stepD D (0, ⟨#[]⟩, nm i, 1, D.now, inoOf D.T (nm i) D.ino, ⟨#[]⟩) (inoNew D.T (nm i) D.ino) = { D with T := doO D.T (0, ⟨#[]⟩, nm i, 1, D.now, inoOf D.T (nm i) D.ino, ⟨#[]⟩), ps := D.ps ++ [(0, ⟨#[]⟩, nm i, 1, D.now, inoOf D.T (nm i) D.ino, ⟨#[]⟩)], ino := inoNew D.T (nm i) D.ino, ops := D.ops + 1, armed := D.armed - 1 } := by
            unfold stepD; rw [if_neg (by rw [a2]; omega), if_neg (by rw [a2]; omega)]
          rw [hE, hD] at WR
          have hd2 : decide ((i : Int) + 1 < (k : Int)) = true := decide_eq_true (by omega)
          have HLA := Lib.hid (And.intro hlast (And.intro hm0 (And.intro hlt (And.intro hi (And.intro him a2)))))
          obtain ⟨z, hz⟩ : ∃ z : Int, z = ((min i (m - 1) : Nat) : Int) := ⟨_, rfl⟩
          rw [← hz]
          have HZ := Lib.hid hz
          have hzb : 0 ≤ z ∧ z ≤ 100 := by omega
          clear a1 a2 a3 a4 a5 a6 a7 hE hD hlast hm0 hlt hi him hz hk
          go_wp2_with (go_at_call 16; refine WR.out.mono ?_; rintro e w5 ⟨L5, rfl, d5, n5⟩; have H5 := Lib.hid d5; have B5 := Lib.hid (B4.out.trans ((n5.below H4.out S4.out).mono SZ.out)); have hF5 := n5.F; have S5 := Lib.hid (Nat.le_trans S4.out n5.t.size); rw [← hF5]; clear d5 n5 WR cv)
          go_roundw
          case rel =>
            refine ⟨i + 1, L5, _, _, by have := HLA.out; omega, by go_num, by rw [HZ.out]; have := HLA.out; congr 1; omega, hF5, Lib.hid ⟨H5.out, by have := HNN.out; have := HA.out.2.1; omega, ⟨AD.out.q, AD.out.S, AD.out.ks, fun _ => ⟨AD.out.on (HLA.out.2.2.2.2.1) |>.1, ?_, ?_, ?_, ?_, ?_, ?_⟩, fun h => by have := HLA.out; omega⟩⟩, B5, S5⟩
            · show D.armed - 1 = _
              have := HLA.out; omega
            · show D.ops + 1 = _
              rw [HA.out.1]; push_cast; rfl
            · show (D.ps ++ [_]).length = _
              rw [List.length_append, HA.out.2.1]; rfl
            · intro x hx
              rcases mem_put hx with e | hx
              · exact ⟨i, by have := HLA.out; omega, e⟩
              · exact HA.out.2.2.1 x hx
            · show 0 ≤ inoNew _ _ _
              have := HA.out.2.2.2
              rcases inoNew_le D.T (nm i) (i := D.ino) with e | e <;> rw [e] <;> omega
            · show inoNew _ _ _ ≤ _
              have := HA.out.2.2.2
              rcases inoNew_le D.T (nm i) (i := D.ino) with e | e <;> rw [e] <;> push_cast <;> omega
          case measure => have := HLA.out; simp [intOf]; omega
      · obtain ⟨a1, a2, a3, a4⟩ := AD.out.down (by omega)
        have fs4 := H4.out.fs
        rw [a1] at fs4
        have WR := Lib.hid (write_off fs4 (nm i) 1 (.slice none 0 0))
        have hd2 : decide ((i : Int) + 1 < (k : Int)) = false := decide_eq_false (by omega)
        have HLA := Lib.hid (And.intro hm0 (And.intro hlt (And.intro hi him)))
        obtain ⟨z, hz⟩ : ∃ z : Int, z = ((min i (m - 1) : Nat) : Int) := ⟨_, rfl⟩
        rw [← hz]
        have HZ := Lib.hid hz
        have HA := Lib.hid (And.intro a1 (And.intro a2 (And.intro a3 a4)))
        clear a1 a2 a3 a4 fs4 hm0 hlt hi him hz hk
        go_wp2_with (go_at_call 16; refine WR.out.mono ?_; rintro e w' ⟨rfl, rfl⟩)
        go_roundw
        case rel =>
          refine ⟨i + 1, L', _, _, by have := HLA.out; omega, by go_num, by rw [HZ.out]; have := HLA.out; congr 2; omega, rfl, Lib.hid ⟨H4.out, by have := HNN.out; omega, ⟨AD.out.q, AD.out.S, AD.out.ks, fun h => by have := HLA.out; omega, fun _ => ⟨HA.out.1, HA.out.2.1, HA.out.2.2.1, HA.out.2.2.2⟩⟩⟩, B4, S4⟩
        case measure => have := HLA.out; simp [intOf]; omega
    · have hie : i = k + 3 := by omega
      subst hie
      have hd : decide (((k + 3 : Nat) : Int) < (k : Int) + 3) = false := decide_eq_false (by omega)
      obtain ⟨a1, a2, a3, a4⟩ := HD.out.2.2.down (by omega)
      have H4 := Lib.hid HD.out.1
      have OF := off_any H4.out.fs
      have ON := on_any H4.out.fs
      rw [a1] at OF
      have OF := Lib.hid OF
      have ON := Lib.hid ON
      have HA := Lib.hid (And.intro a2 (And.intro a3 a4))
      obtain ⟨z, hz⟩ : ∃ z : Int, z = ((min (k + 3) (m - 1) : Nat) : Int) := ⟨_, rfl⟩
      have HZ := Lib.hid (show z = (m : Int) - 1 by rw [hz]; omega)
      obtain ⟨i, hi3⟩ : ∃ i : Int, i = ((k + 3 : Nat) : Int) := ⟨_, rfl⟩
      rw [← hz, ← hF]
      rw [← hi3] at hd ⊢
      clear a1 a2 a3 a4 hz hF hm0 hi hlt hi3 hk
      go_wp2_with (first
        | (go_at_call 26; refine OF.out.mono ?_; rintro e w' ⟨rfl, rfl⟩)
        | (go_at_call 18; go_loud (refine ON.out.mono ?_; rintro e w6 ⟨rfl, hw6⟩; have H6 := Lib.hid (show DiskIs w6 w1.heap.size L' N { D with off := false } from by rw [hw6]; exact H4.out.setOff false); have B6 := Lib.hid (show Below w.heap.size w w6 from by rw [hw6]; exact HB.out.setCell (p := ⟨L'.F, 7, none⟩) (Nat.le_trans SZ.out H4.out.lo.1) _); clear hw6 H4 HB ON OF; have LS0 := list_on H6.out.fs (by show D.T.length ≤ 1000000; rw [HA.out.1]; decide); rw [show ({ D with off := false } : DK).T = [] from HA.out.1, namesV_nil] at LS0; have LS := Lib.hid LS0; clear LS0))
        | (go_at_call 20; refine LS.out.mono ?_; rintro e w7 ⟨v2, rfl, own, b7⟩; obtain ⟨A2, c2, rfl⟩ := own_form own; have H7 := Lib.hid (H6.out.below b7); have B7 := Lib.hid (B6.out.trans (b7.mono B6.out.size)); clear own b7 LS H6 B6; have OP := Lib.hid (show Calls Tryd.prog 27 #[.pointer (some ⟨L'.F, 0, none⟩)] w7 fun e w' => e = .returned (.int .i64 z) ∧ w7 = w' from by have := ops_any H7.out.fs; rw [show ({ D with off := false } : DK).ops = z from by rw [HZ.out]; exact HA.out.2.2] at this; exact this); have PD := Lib.hid (show Calls Tryd.prog 24 #[.pointer (some ⟨L'.F, 0, none⟩)] w7 fun e w' => e = .returned (.int .i64 0) ∧ w7 = w' from by have := pending_any H7.out.fs H7.out.ps; rw [show ({ D with off := false } : DK).ps = [] from HA.out.2.1] at this; exact this))
        | (go_at_call 27; refine OP.out.mono ?_; rintro e w' ⟨rfl, rfl⟩)
        | (go_at_call 24; refine PD.out.mono ?_; rintro e w' ⟨rfl, rfl⟩))
      go_ret
      exact ⟨rfl, B7.out⟩
theorem filesArms_law (w : World) (a : Int) (h : 0 ≤ a ∧ a ≤ 255) : Calls Tryd.prog 6 #[.int .u8 a] w fun e w' => e = .returned (.bool true) ∧ Below w.heap.size w w' := filesArms_any w a h.1 h.2
end Go.Proofs.YtcnmlgmlijgmhaaDoor
