/-
  A tree of files in memory: a map by path.
-/
import Derived.Test.YtcnmlgmlijgmhaaDoorKMem
import Derived.Maps.OwnSet
import Derived.Maps.RangeWalk
import Derived.StringKeys
namespace Go.Proofs.YtcnmlgmlijgmhaaDoor
open Go Go.RowKit Go.Maps

/-- A file. -/
structure FV where
  mode : Int
  time : Int
  inode : Int
  data : ByteArray
def fV (f : FV) : Value := .agg #[.int .i64 f.mode, .int .i64 f.time, .int .i64 f.inode, .string f.data]
def fD (f : FV) : DataW Unit := .agg [.lit (.int .i64 f.mode), .lit (.int .i64 f.time), .lit (.int .i64 f.inode), .lit (.string f.data.data.toList)]
def fileL : List Value → Option (DataW Unit × List MemPlace)
  | [.int .i64 m, .int .i64 t, .int .i64 i, .string s] => some (fD ⟨m, t, i, s⟩, [])
  | _ => none
def fileR : Value → Option (DataW Unit × List MemPlace)
  | .agg a => fileL a.toList
  | _ => none
theorem fileR_mk (f : FV) : fileR (fV f) = some (fD f, []) := rfl
theorem fileR_inv {v : Value} {y : DataW Unit × List MemPlace} (h : fileR v = some y) : ∃ f, v = fV f ∧ y = (fD f, []) := by
  unfold fileR at h
  split at h
  · rename_i a
    unfold fileL at h
    split at h
    · rename_i m t i s e
      cases h
      refine ⟨⟨m, t, i, s⟩, ?_, rfl⟩
      show Value.agg a = .agg #[.int .i64 m, .int .i64 t, .int .i64 i, .string s]
      rw [← Array.toArray_toList (xs := a), e]
    · cases h
  · cases h
theorem bytes_ext {a b : ByteArray} (h : a.data.toList = b.data.toList) : a = b := by
  cases a; cases b
  rename_i x y
  have : x = y := Array.toList_inj.1 h
  rw [this]
theorem fD_inj {f g : FV} (h : fD f = fD g) : f = g := by
  obtain ⟨m, t, i, s⟩ := f
  obtain ⟨m', t', i', s'⟩ := g
  simp [fD] at h
  obtain ⟨rfl, rfl, rfl, h4⟩ := h
  have : s = s' := bytes_ext (by rw [h4])
  rw [this]
def noF : FV := ⟨0, 0, 0, ⟨#[]⟩⟩
def kS (s : ByteArray) : Lit := .string s.data.toList
theorem same_kS (a b : ByteArray) : (kS a).sameKey (kS b) = decide (a = b) := by
  unfold kS Lit.sameKey
  by_cases h : a = b
  · subst h; simp
  · rw [decide_eq_false h, beq_eq_false_iff_ne]
    exact fun e => h (bytes_ext e)

/-! ### Trees as rows -/
abbrev Tr := List (ByteArray × FV)
def mapD (T : Tr) : DataW Unit := .map (T.map fun x => (kS x.1, fD x.2))
def getT (T : Tr) (p : ByteArray) : Option FV := (T.find? fun x => decide (x.1 = p)).map (·.2)
def insT (x : ByteArray × FV) : Tr → Tr
  | [] => [x]
  | y :: r => if (kS x.1).before (kS y.1) then x :: y :: r else y :: insT x r
def delT (T : Tr) (p : ByteArray) : Tr := T.filter fun x => !decide (x.1 = p)
def putT (T : Tr) (p : ByteArray) (f : FV) : Tr := insT (p, f) (delT T p)
theorem has_mapD : ∀ (T : Tr) (p : ByteArray), Maps.has (mapD T) (kS p) = (getT T p).isSome
  | [], _ => rfl
  | x :: T, p => by
    have ih := has_mapD T p
    unfold mapD getT at *
    rw [List.map_cons, Maps.has_eq, List.any_cons, List.find?_cons]
    rw [Maps.has_eq] at ih
    simp only
    rw [same_kS]
    by_cases h : x.1 = p
    · simp [h]
    · rw [decide_eq_false h]; simpa using ih
theorem atKey_mapD (z : FV) : ∀ (T : Tr) (p : ByteArray), (mapD T).atKey (kS p) (fD z) = fD ((getT T p).getD z)
  | [], _ => rfl
  | x :: T, p => by
    have ih := atKey_mapD z T p
    unfold mapD getT DataW.atKey at *
    simp only [List.map_cons, List.find?_cons, same_kS] at ih ⊢
    by_cases h : x.1 = p
    · simp [h]
    · rw [decide_eq_false h]; exact ih
theorem insert_mapD (x : ByteArray × FV) : ∀ T : Tr, DataW.insert (kS x.1, fD x.2) (T.map fun x => (kS x.1, fD x.2)) = (insT x T).map fun x => (kS x.1, fD x.2)
  | [] => rfl
  | y :: T => by
    rw [List.map_cons, DataW.insert, insT]
    split
    · rfl
    · rw [insert_mapD x T]; rfl
theorem filter_mapD (p : ByteArray) : ∀ T : Tr, (T.map fun x => (kS x.1, fD x.2)).filter (fun q => !q.1.sameKey (kS p)) = (delT T p).map fun x => (kS x.1, fD x.2)
  | [] => rfl
  | y :: T => by
    have ih := filter_mapD p T
    unfold delT at *
    rw [List.map_cons, List.filter_cons, List.filter_cons]
    simp only [same_kS]
    split
    · rw [ih]; rfl
    · exact ih
theorem put_mapD (T : Tr) (p : ByteArray) (f : FV) : (mapD T).put (kS p) (fD f) = mapD (putT T p f) := by
  unfold mapD DataW.put putT
  simp only
  rw [filter_mapD, insert_mapD (p, f)]
theorem del_mapD (T : Tr) (p : ByteArray) : (mapD T).del (kS p) = mapD (delT T p) := by
  unfold mapD DataW.del
  simp only
  rw [filter_mapD]

/-! ### In memory -/
theorem key_kS {s : ByteArray} (hs : s.size ≤ maxLen) : keyOf Tryd.prog 9 (.string s) = some (kS s) := WideMaps.keyOf_string_mk Tryd.underlying9 hs
theorem keyed_s : Keyed Tryd.prog 9 := string_keyed Tryd.underlying9
def TreeIs (w : World) (b n : Nat) (T : Tr) : Prop := w.ownsMap Tryd.prog 9 fileR b n (mapD T)
set_option maxRecDepth 100000 in
theorem zeroF (w : World) : (zeroValue 77).run Tryd.prog w = .ok (fV noF) w := by kernel_rfl
section
variable {w : World} {b n : Nat} {T : Tr}
theorem TreeIs.made (w : World) : TreeIs (w.alloc (.map #[] 0)) w.heap.size 0 [] := World.ownsMap_made w _ _ _
theorem TreeIs.kept {w' : World} {row : Option Nat} (h : TreeIs w b n T) (hg : w.grownBy w' row) (hne : some b ≠ row) : TreeIs w' b n T := World.ownsMap.kept h hg hne
theorem TreeIs.alloc (h : TreeIs w b n T) (o : Obj) : TreeIs (w.alloc o) b n T := World.ownsMap.alloc h o
theorem TreeIs.lt (h : TreeIs w b n T) : b < w.heap.size := World.ownsMap.lt h
theorem TreeIs.mono (h : TreeIs w b n T) {n' : Nat} (hn : n ≤ n') : TreeIs w b n' T := World.ownsMap.mono h hn
theorem TreeIs.setCell (h : TreeIs w b n T) {a : Addr} (ha : b ≠ a.block) (u : Value) : TreeIs (w.setCell a u) b n T := World.ownsMap.setCell h ha u
theorem TreeIs.below {w' : World} (h : TreeIs w b n T) (hb : Below w.heap.size w w') : TreeIs w' b n T := by
  have hlt := h.lt
  obtain ⟨es, clock, hh, r⟩ := h
  exact ⟨es, clock, (hb.block b hlt).trans hh, r⟩
set_option maxRecDepth 100000 in
theorem TreeIs.look (h : TreeIs w b n T) {p : ByteArray} (hp : p.size ≤ maxLen) : (Instr.lookup 71 (.map (some b)) (.string p) false).run Tryd.prog w = .ok (fV ((getT T p).getD noF)) w := by
  obtain ⟨v, ps, hrun, hv⟩ := World.ownsMap.lookup h keyed_s Tryd.underlying71 (zeroF w) (fileR_mk noF) (key_kS hp)
  rw [atKey_mapD] at hv
  obtain ⟨f, rfl, hf⟩ := fileR_inv hv
  injection hf with hf
  rw [hrun, fD_inj hf]
set_option maxRecDepth 100000 in
theorem TreeIs.look_ok (h : TreeIs w b n T) {p : ByteArray} (hp : p.size ≤ maxLen) : (Instr.lookup 71 (.map (some b)) (.string p) true).run Tryd.prog w = .ok (.tuple #[fV ((getT T p).getD noF), .bool (getT T p).isSome]) w := by
  obtain ⟨v, ps, hrun, hv⟩ := World.ownsMap.look_ok h keyed_s Tryd.underlying71 (zeroF w) (fileR_mk noF) (key_kS hp)
  rw [atKey_mapD] at hv
  obtain ⟨f, rfl, hf⟩ := fileR_inv hv
  injection hf with hf
  rw [hrun, fD_inj hf, has_mapD]
set_option maxRecDepth 100000 in
theorem TreeIs.put (h : TreeIs w b n T) (hn : n < maxLen) {p : ByteArray} (hp : p.size ≤ maxLen) (f : FV) : ∃ w', (Instr.mapUpdate 71 (.map (some b)) (.string p) (fV f)).run Tryd.prog w = .ok () w' ∧ TreeIs w' b (n + 1) (putT T p f) ∧ w.mapTurned w' b := by
  obtain ⟨w', hrun, ho, hm⟩ := World.ownsMap.store h keyed_s Tryd.underlying71 hn (key_kS hp) (fileR_mk f)
  rw [put_mapD] at ho
  exact ⟨w', hrun, ho, hm⟩
set_option maxRecDepth 100000 in
theorem TreeIs.drop (h : TreeIs w b n T) {p : ByteArray} (hp : p.size ≤ maxLen) (ty : TypeId) : ∃ w', (Builtin.delete_ #[71, 9] ty #[.map (some b), .string p]).run Tryd.prog w = .ok (.tuple #[]) w' ∧ TreeIs w' b n (delT T p) ∧ w.mapTurned w' b := by
  obtain ⟨w', hrun, ho, hm⟩ := World.ownsMap.drop h keyed_s Tryd.underlying71 (key_kS hp) ty
  rw [del_mapD] at ho
  exact ⟨w', hrun, ho, hm⟩
end
end Go.Proofs.YtcnmlgmlijgmhaaDoor
