/-
  simfs.Write without a quota; the known case of stage 5.
-/
import Derived.Test.YtcnmlgmlijgmhaaDoorSfW
import Derived.Test.YtcnmlgmlijgmhaaDoorSfI
namespace Go.Proofs.YtcnmlgmlijgmhaaDoor
open Go Go.RowKit Go.Maps

set_option maxRecDepth 100000 in
set_option maxHeartbeats 4000000 in
theorem write_w {w : World} {B N : Nat} {L : Loc} {D : DK} (h : DiskIs w B L N D) (hq : D.q = 0) (hoff : D.off = false) (p : ByteArray) (mode : Int) (v : Value) (s : ByteArray) (hv : BytesIn w L.foot v s) (hs : s.size ≤ 65536) (hm : mode = 1 ∨ mode = 2) (hc : chk p.data.toList = 0) (hr : D.T.any (badX ⟨#[]⟩ p) = false)
    (ha : 0 ≤ D.armed ∧ D.armed ≤ 9223372036854775807) (hpp : p.size ≤ 1000) (hN : N ≤ 1000000) (hp : D.ps.length ≤ 100000) (hB : B ≤ w.heap.size) (h0 : 0 ≤ D.ino) (h1 : D.ino ≤ 1000000) (o0 : 0 ≤ D.ops) (o1 : D.ops ≤ 1000000) :
    Calls Tryd.prog 16 #[.pointer (some ⟨L.F, 0, none⟩), .string p, .int .i64 mode, v] w fun e w' => ∃ L', e = .returned (.int .i64 (stepE D)) ∧ DiskIs w' B L' (N + D.ps.length + 1) (stepD D (0, ⟨#[]⟩, p, mode, D.now, inoOf D.T p D.ino, s) (inoNew D.T p D.ino)) ∧ Next w L w' L' := by
  have fs := h.fs
  rw [hq, hoff] at fs
  have RF := Lib.hid (refusesFile_ok fs p mode v s hpp (fun x hx => Nat.le_trans (h.sT x hx) (by omega)) (hv.of (Turns.refl _ _) (.inl rfl)) hs hm hc hr)
  have ST := Lib.hid (fun W (hb : Below w.heap.size w W) => (show Calls Tryd.prog 56 #[.pointer (some ⟨L.F, 0, none⟩), .agg #[.int .i64 0, .string ⟨#[]⟩, .string p, .int .i64 0, .int .i64 0, .int .i64 0, .string ⟨#[]⟩], .int .i64 mode, v] W _ from step_w (h.below hb) ⟨#[]⟩ p 0 0 0 ⟨#[]⟩ mode v s (hv.turns (Turns.of_below hb)) ha (by decide) hpp hN hp (Nat.le_trans hB hb.size) h0 h1 o0 o1))
  clear h fs hv hs hm hc hr hq hoff ha hpp hN hp hB h0 h1 o0 o1
  go_enter Tryd.func16, Tryd.ntmps16
  go_wp2_with fail
  refine RF.out.mono ?_
  rintro e w1 ⟨rfl, b1⟩
  go_wp2_with fail
  refine (ST.out w1 b1).mono ?_
  rintro e w2 ⟨L', rfl, hd, hn⟩
  have HD := Lib.hid hd
  have HN := Lib.hid ((Next.of_below L b1).trans hn)
  clear hd hn b1 RF ST
  go_wp2_with fail
  go_ret
  exact ⟨L', rfl, HD.out, HN.out⟩

/-- A new disk. -/
def D0 (q : Int) : DK := ⟨[], [], [], q, 0, 0, 0, false, 0, []⟩
theorem new_disk (w : World) (q : Int) : Calls Tryd.prog 11 #[.int .i64 q] w fun e w' => ∃ L, e = .returned (.pointer (some ⟨L.F, 0, none⟩)) ∧ DiskIs w' w.heap.size L 0 (D0 q) ∧ Below w.heap.size w w' := by
  refine (new_own w q).mono ?_
  rintro e w' ⟨F, bf, bs, rfl, fs, hb, h1, h2, h3⟩
  exact ⟨⟨F, bf, bs, .slice none 0 0, .slice none 0 0⟩, rfl, ⟨fs, ⟨by simp [D0], .inl ⟨rfl, rfl⟩⟩, ⟨by simp [D0], .inl ⟨rfl, rfl⟩⟩, ⟨h1, h2, h3⟩, fun x hx => absurd hx (by simp [D0]), fun x hx => absurd hx (by simp [D0]), fun x hx => absurd hx (by simp [D0])⟩, hb⟩
theorem bytesIn_none (w : World) (X : Nat → Prop) : BytesIn w X (.slice none 0 0) ⟨#[]⟩ :=
  ⟨⟨_, _, rfl⟩, fun w' _ => by rw [run_convert_bytes_string w' 32 9 5 none 0 0 Tryd.underlying32 Tryd.underlying5 Tryd.underlying9]; rfl⟩
/-- Bytes in a block that nobody turns. -/
theorem bytesIn_blk {w : World} {X : Nat → Prop} {g : Nat} {fr : Nat × Nat} {l : List UInt8} {cs : Array Value} {cap : Nat} (hb : w.heap[g]? = some (.cells cs 5 fr)) (hc : ∀ j, j < l.length → cs[j]? = some (.int .u8 (l.getD j 0).toNat)) (hx : ¬ X g) : BytesIn w X (.slice (some ⟨g, 0, none⟩) l.length cap) ⟨l.toArray⟩ :=
  ⟨⟨some ⟨g, 0, none⟩, cap, by rw [Lib.size_eq]⟩, fun w' ht => by
    have z : w'.heap[g]? = some (.cells cs 5 fr) := (ht.block g (Array.getElem?_eq_some_iff.1 hb).1 hx).trans hb
    have h := run_convert_bytes_back (P := Tryd.prog) w' 32 9 5 ⟨g, 0, none⟩ cap l Tryd.underlying32 Tryd.underlying5 Tryd.underlying9 (fun j hj => by
      rw [add_zero_addr, cell_of_row w' g j _ 5 _ z, hc j hj, List.getD_eq_getElem?_getD, List.getElem?_eq_getElem hj]
      rfl)
    exact h⟩
end Go.Proofs.YtcnmlgmlijgmhaaDoor
