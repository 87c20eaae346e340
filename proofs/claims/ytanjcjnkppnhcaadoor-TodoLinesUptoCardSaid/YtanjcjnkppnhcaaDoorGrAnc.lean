/-
  Who comes from whom, by plain lists: the commits that are reached; rows of marks.
-/
namespace Go.Proofs.YtanjcjnkppnhcaaDoor.G

def par (gs : List (List Int)) (x : Int) : List Int := gs.getD (x.toNat - 1) []

/-- What is reached from cs. -/
inductive Anc (gs : List (List Int)) (cs : List Int) : Int → Prop
  | base {c : Int} : c ∈ cs → 1 ≤ c → c ≤ gs.length → Anc gs cs c
  | step {y p : Int} : Anc gs cs y → p ∈ par gs y → 1 ≤ p → p ≤ gs.length → Anc gs cs p

theorem Anc.vld {gs : List (List Int)} {cs : List Int} {x : Int} (h : Anc gs cs x) : 1 ≤ x ∧ x ≤ gs.length := by
  cases h with
  | base _ h1 h2 => exact ⟨h1, h2⟩
  | step _ _ h1 h2 => exact ⟨h1, h2⟩

theorem Anc.trans {gs : List (List Int)} {cs ds : List Int} {x : Int} (h : Anc gs cs x) (hd : ∀ c ∈ cs, 1 ≤ c → c ≤ gs.length → Anc gs ds c) : Anc gs ds x := by
  induction h with
  | base h1 h2 h3 => exact hd _ h1 h2 h3
  | step _ h1 h2 h3 ih => exact .step ih h1 h2 h3

theorem Anc.self {gs : List (List Int)} {x : Int} (h1 : 1 ≤ x) (h2 : x ≤ gs.length) : Anc gs [x] x := .base (by simp) h1 h2

/-- Reached from one of them. -/
theorem Anc.one {gs : List (List Int)} {cs : List Int} {x : Int} (h : Anc gs cs x) : ∃ c ∈ cs, 1 ≤ c ∧ c ≤ gs.length ∧ Anc gs [c] x := by
  induction h with
  | base h1 h2 h3 => exact ⟨_, h1, h2, h3, .self h2 h3⟩
  | step _ h1 h2 h3 ih =>
    obtain ⟨c, hc, a, b, hx⟩ := ih
    exact ⟨c, hc, a, b, .step hx h1 h2 h3⟩

/-- By way of a parent, if it is another one. -/
theorem Anc.way {gs : List (List Int)} {c x : Int} (h : Anc gs [c] x) : x = c ∨ Anc gs (par gs c) x := by
  induction h with
  | base h1 _ _ => exact .inl (by simpa using h1)
  | step _ h1 h2 h3 ih =>
    rcases ih with rfl | ih
    · exact .inr (.base h1 h2 h3)
    · exact .inr (.step ih h1 h2 h3)

open Classical in
noncomputable def anc (gs : List (List Int)) (cs : List Int) (i : Nat) : Bool := decide (Anc gs cs (i : Int))
theorem anc_iff {gs : List (List Int)} {cs : List Int} {i : Nat} : anc gs cs i = true ↔ Anc gs cs (i : Int) := by unfold anc; simp
theorem anc_zero {gs : List (List Int)} {cs : List Int} : anc gs cs 0 = false := by
  cases h : anc gs cs 0 with
  | false => rfl
  | true => have := (anc_iff.1 h).vld; omega

/-- A row of marks. -/
def mkL (n : Nat) (f : Nat → Bool) : List Bool := (List.range n).map f
theorem mkL_len (n : Nat) (f : Nat → Bool) : (mkL n f).length = n := by simp [mkL]
theorem mkL_at {n : Nat} {f : Nat → Bool} {i : Nat} (h : i < n) : (mkL n f)[i]? = some (f i) := by simp [mkL, h]
theorem mkL_ext {n : Nat} {f g : Nat → Bool} (h : ∀ i, i < n → f i = g i) : mkL n f = mkL n g := by
  unfold mkL
  apply List.map_congr_left
  intro i hi
  exact h i (List.mem_range.1 hi)
theorem mkL_of {n : Nat} {S : List Bool} {f : Nat → Bool} (hl : S.length = n) (h : ∀ i, i < n → S[i]? = some (f i)) : S = mkL n f := by
  apply List.ext_getElem?
  intro i
  by_cases hi : i < n
  · rw [h i hi, mkL_at hi]
  · rw [List.getElem?_eq_none (by omega), List.getElem?_eq_none (by rw [mkL_len]; omega)]
theorem mkL_set {n : Nat} {f : Nat → Bool} {k : Nat} (b : Bool) : (mkL n f).set k b = mkL n (fun i => if i = k then b else f i) := by
  refine mkL_of (by simp [mkL]) fun i hi => ?_
  rw [List.getElem?_set]
  by_cases e : k = i
  · subst e; rw [if_pos rfl, if_pos rfl, if_pos (by simpa [mkL] using hi)]
  · rw [if_neg e, if_neg (fun h => e h.symm), mkL_at hi]

/-- The numbers that are marked, rising. -/
def rowF (n : Nat) (f : Nat → Bool) : List Int := ((List.range n).filter f).map fun i : Nat => (i : Int)
theorem rowF_succ (n : Nat) (f : Nat → Bool) : rowF (n + 1) f = rowF n f ++ (if f n then [(n : Int)] else []) := by
  unfold rowF
  rw [List.range_succ, List.filter_append, List.map_append]
  congr 1
  by_cases h : f n = true <;> simp [h]
theorem rowF_len (n : Nat) (f : Nat → Bool) : (rowF n f).length ≤ n := by
  unfold rowF
  rw [List.length_map]
  exact Nat.le_trans (List.length_filter_le _ _) (by simp)
theorem mem_rowF {n : Nat} {f : Nat → Bool} {x : Int} : x ∈ rowF n f ↔ ∃ i : Nat, i < n ∧ f i = true ∧ (i : Int) = x := by
  simp only [rowF, List.mem_map, List.mem_filter, List.mem_range]
  constructor
  · rintro ⟨i, ⟨h1, h2⟩, h3⟩; exact ⟨i, h1, h2, h3⟩
  · rintro ⟨i, h1, h2, h3⟩; exact ⟨i, ⟨h1, h2⟩, h3⟩
theorem rowF_ext {n : Nat} {f g : Nat → Bool} (h : ∀ i, i < n → f i = g i) : rowF n f = rowF n g := by
  induction n with
  | zero => rfl
  | succ n ih => rw [rowF_succ, rowF_succ, ih (fun i hi => h i (by omega)), h n (by omega)]

/-- One look at a row of numbers: what is not marked yet is, and waits. -/
def see1 (n : Nat) (s : List Bool × List Int) (x : Int) : List Bool × List Int :=
  if 1 ≤ x ∧ x ≤ n ∧ s.1.getD x.toNat true = false then (s.1.set x.toNat true, s.2 ++ [x]) else s
def seeL (n : Nat) (l : List Int) (s : List Bool × List Int) : List Bool × List Int := l.foldl (see1 n) s

def cf (S : List Bool) : Nat := S.countP (fun b => !b)

theorem cf_set : ∀ (S : List Bool) (i : Nat), S[i]? = some false → cf (S.set i true) + 1 = cf S
  | [], i, h => by simp at h
  | b :: S, 0, h => by simp at h; subst h; simp [cf]
  | b :: S, i + 1, h => by
    have := cf_set S i (by simpa using h)
    cases b <;> simp [cf] at this ⊢ <;> omega

/-- What stands between two looks. -/
structure Inv (gs : List (List Int)) (cs : List Int) (S : List Bool) (W : List Int) : Prop where
  len : S.length = gs.length + 1
  zero : S[0]? = some false
  wait : ∀ x ∈ W, 1 ≤ x ∧ x ≤ gs.length ∧ S[x.toNat]? = some true
  sound : ∀ x : Int, 1 ≤ x → S[x.toNat]? = some true → Anc gs cs x
  done : ∀ y : Int, 1 ≤ y → S[y.toNat]? = some true → y ∈ W ∨ ∀ p ∈ par gs y, 1 ≤ p → p ≤ gs.length → S[p.toNat]? = some true
  room : W.length + cf S ≤ gs.length + 1

/-- What a look leaves: what was marked still is; what could be seen is; what is new is one of them, and waits. -/
structure Seen (n : Nat) (l : List Int) (S : List Bool) (W : List Int) (S' : List Bool) (W' : List Int) : Prop where
  len : S'.length = S.length
  old : ∀ i : Nat, S[i]? = some true → S'[i]? = some true
  now : ∀ x ∈ l, 1 ≤ x → x ≤ n → S'[x.toNat]? = some true
  new : ∀ i : Nat, S'[i]? = some true → S[i]? = some true ∨ ((i : Int) ∈ l ∧ (i : Int) ∈ W' ∧ 1 ≤ i ∧ i ≤ n)
  sub : ∀ x ∈ W, x ∈ W'
  wait : ∀ x ∈ W', x ∈ W ∨ (x ∈ l ∧ 1 ≤ x ∧ x ≤ n)
  room : W'.length + cf S' = W.length + cf S
  le : W.length ≤ W'.length
  zero : S'[0]? = S[0]?

theorem seen_nil {n : Nat} {S : List Bool} {W : List Int} : Seen n [] S W S W :=
  ⟨rfl, fun _ h => h, (by simp), fun _ h => .inl h, fun _ h => h, fun _ h => .inl h, rfl, Nat.le_refl _, rfl⟩

theorem seen_snoc {n : Nat} {l : List Int} {S S1 : List Bool} {W W1 : List Int} (hS : S.length = n + 1) (h : Seen n l S W S1 W1) (x : Int) :
    Seen n (l ++ [x]) S W (see1 n (S1, W1) x).1 (see1 n (S1, W1) x).2 := by
  have hl := h.len
  unfold see1
  by_cases hx : 1 ≤ x ∧ x ≤ n ∧ S1.getD x.toNat true = false
  · obtain ⟨h1, h2, h3⟩ := hx
    rw [if_pos ⟨h1, h2, h3⟩]
    have hlt : x.toNat < S1.length := by omega
    have h4 : S1[x.toNat]? = some false := by
      rw [List.getD_eq_getElem?_getD, List.getElem?_eq_getElem hlt] at h3
      rw [List.getElem?_eq_getElem hlt]
      simpa using h3
    have hc := cf_set S1 x.toNat h4
    have hr := h.room
    have hle := h.le
    refine ⟨by simp [hl], fun i hi => ?_, fun y hy a b => ?_, fun i hi => ?_, fun y hy => List.mem_append_left _ (h.sub y hy), fun y hy => ?_, by simp only [List.length_append, List.length_singleton]; omega, by simp; omega, ?_⟩
    · rw [List.getElem?_set]
      split
      · rfl
      · exact h.old i hi
    · rw [List.mem_append, List.mem_singleton] at hy
      rw [List.getElem?_set]
      split
      · rfl
      · rcases hy with hy | rfl
        · exact h.now y hy a b
        · exact absurd rfl ‹_›
    · rw [List.getElem?_set] at hi
      split at hi
      · rename_i e
        have : (i : Int) = x := by omega
        rw [this]
        exact .inr ⟨by simp, by simp, by omega, by omega⟩
      · rcases h.new i hi with g | ⟨g1, g2, g3, g4⟩
        · exact .inl g
        · exact .inr ⟨List.mem_append_left _ g1, List.mem_append_left _ g2, g3, g4⟩
    · rw [List.mem_append, List.mem_singleton] at hy
      rcases hy with hy | rfl
      · rcases h.wait y hy with g | ⟨g, k⟩
        · exact .inl g
        · exact .inr ⟨List.mem_append_left _ g, k⟩
      · exact .inr ⟨by simp, h1, h2⟩
    · rw [List.getElem?_set, if_neg (by omega)]
      exact h.zero
  · rw [if_neg hx]
    refine ⟨hl, h.old, fun y hy a b => ?_, fun i hi => ?_, h.sub, fun y hy => ?_, h.room, h.le, h.zero⟩
    · rw [List.mem_append, List.mem_singleton] at hy
      rcases hy with hy | rfl
      · exact h.now y hy a b
      · have hlt : y.toNat < S1.length := by omega
        have : ¬ S1.getD y.toNat true = false := fun e => hx ⟨a, b, e⟩
        rw [List.getD_eq_getElem?_getD, List.getElem?_eq_getElem hlt] at this
        rw [List.getElem?_eq_getElem hlt]
        simpa using this
    · rcases h.new i hi with g | ⟨g1, g⟩
      · exact .inl g
      · exact .inr ⟨List.mem_append_left _ g1, g⟩
    · rcases h.wait y hy with g | ⟨g, k⟩
      · exact .inl g
      · exact .inr ⟨List.mem_append_left _ g, k⟩

theorem inv_start {gs : List (List Int)} {cs : List Int} {S : List Bool} {W : List Int} (hs : Seen gs.length cs (List.replicate (gs.length + 1) false) [] S W) : Inv gs cs S W := by
  have hz : ∀ i : Nat, (List.replicate (gs.length + 1) false)[i]? ≠ some true := fun i h => by
    rw [List.getElem?_replicate] at h
    split at h <;> simp at h
  refine ⟨by rw [hs.len]; simp, by rw [hs.zero]; simp, fun x hx => ?_, fun x h1 hx => ?_, fun y h1 hy => ?_, ?_⟩
  · rcases hs.wait x hx with h | ⟨h, h1, h2⟩
    · cases h
    · exact ⟨h1, h2, hs.now x h h1 h2⟩
  · rcases hs.new _ hx with h | ⟨h, _, h2, h3⟩
    · exact absurd h (hz _)
    · rw [show ((x.toNat : Nat) : Int) = x by omega] at h
      exact .base h h1 (by omega)
  · rcases hs.new _ hy with h | ⟨_, h, _⟩
    · exact absurd h (hz _)
    · rw [show ((y.toNat : Nat) : Int) = y by omega] at h
      exact .inl h
  · have := hs.room
    have e : cf (List.replicate (gs.length + 1) false) = gs.length + 1 := by simp [cf, List.countP_replicate]
    rw [e] at this
    simp at this
    omega

theorem inv_step {gs : List (List Int)} {cs : List Int} {S S' : List Bool} {W W' : List Int} {y : Int} (h : Inv gs cs S (W ++ [y])) (hs : Seen gs.length (par gs y) S W S' W') : Inv gs cs S' W' := by
  obtain ⟨y1, y2, y3⟩ := h.wait y (by simp)
  have hy := h.sound y y1 y3
  refine ⟨by rw [hs.len, h.len], by rw [hs.zero, h.zero], fun x hx => ?_, fun x h1 hx => ?_, fun z h1 hz => ?_, ?_⟩
  · rcases hs.wait x hx with g | ⟨g, h1, h2⟩
    · obtain ⟨a, b, c⟩ := h.wait x (List.mem_append_left _ g)
      exact ⟨a, b, hs.old _ c⟩
    · exact ⟨h1, h2, hs.now x g h1 h2⟩
  · rcases hs.new _ hx with g | ⟨g, _, g2, g3⟩
    · exact h.sound x h1 g
    · rw [show ((x.toNat : Nat) : Int) = x by omega] at g
      exact .step hy g h1 (by omega)
  · rcases hs.new _ hz with g | ⟨_, g, _⟩
    · rcases h.done z h1 g with g | g
      · rw [List.mem_append, List.mem_singleton] at g
        rcases g with g | rfl
        · exact .inl (hs.sub z g)
        · exact .inr fun p hp a b => hs.now p hp a b
      · exact .inr fun p hp a b => hs.old _ (g p hp a b)
    · rw [show ((z.toNat : Nat) : Int) = z by omega] at g
      exact .inl g
  · have := hs.room
    have := h.room
    simp at this
    omega

theorem inv_base {gs : List (List Int)} {cs : List Int} {S S' : List Bool} {W W' : List Int} {y : Int} (hb : ∀ c ∈ cs, 1 ≤ c → c ≤ gs.length → S[c.toNat]? = some true) (hs : Seen gs.length (par gs y) S W S' W') :
    ∀ c ∈ cs, 1 ≤ c → c ≤ gs.length → S'[c.toNat]? = some true := fun c hc a b => hs.old _ (hb c hc a b)

theorem inv_end {gs : List (List Int)} {cs : List Int} {S : List Bool} (h : Inv gs cs S []) (hb : ∀ c ∈ cs, 1 ≤ c → c ≤ gs.length → S[c.toNat]? = some true) : S = mkL (gs.length + 1) (anc gs cs) := by
  have full : ∀ x : Int, Anc gs cs x → S[x.toNat]? = some true := by
    intro x hx
    induction hx with
    | base h1 h2 h3 => exact hb _ h1 h2 h3
    | step hy h1 h2 h3 ih =>
      rcases h.done _ hy.vld.1 ih with g | g
      · cases g
      · exact g _ h1 h2 h3
  refine mkL_of h.len fun i hi => ?_
  by_cases h0 : i = 0
  · subst h0; rw [anc_zero]; exact h.zero
  · have hlt : i < S.length := by rw [h.len]; exact hi
    cases ha : anc gs cs i with
    | true =>
      have := full _ (anc_iff.1 ha)
      simpa using this
    | false =>
      rw [List.getElem?_eq_getElem hlt]
      cases hb : S[i] with
      | false => rfl
      | true =>
        have := h.sound (i : Int) (by omega) (by simp [List.getElem?_eq_getElem hlt, hb])
        rw [anc_iff.2 this] at ha
        cases ha

/-! ### Where parents come first -/

/-- Each commit's parents are lesser ones. -/
def Ok (gs : List (List Int)) : Prop := ∀ (i : Nat) (l : List Int), gs[i]? = some l → ∀ p ∈ l, 1 ≤ p ∧ p ≤ (i : Int)

theorem Ok.par {gs : List (List Int)} (h : Ok gs) {y p : Int} (hy : 1 ≤ y) (hp : p ∈ par gs y) : 1 ≤ p ∧ p < y ∧ p ≤ gs.length := by
  unfold Go.Proofs.YtanjcjnkppnhcaaDoor.G.par at hp
  rw [List.getD_eq_getElem?_getD] at hp
  cases e : gs[y.toNat - 1]? with
  | none => rw [e] at hp; simp at hp
  | some l =>
    rw [e] at hp
    have := h _ l e p (by simpa using hp)
    have hl := (List.getElem?_eq_some_iff.1 e).1
    omega

theorem Anc.le {gs : List (List Int)} (ok : Ok gs) {c x : Int} (h : Anc gs [c] x) : x ≤ c := by
  induction h with
  | base h1 _ _ => simp at h1; omega
  | step hy h1 _ _ ih => have := ok.par hy.vld.1 h1; omega

/-- By fuel. -/
def upF (gs : List (List Int)) : Nat → Int → Int → Bool
  | 0, c, x => c == x
  | f + 1, c, x => c == x || (par gs c).any fun p => decide (1 ≤ p) && decide (p ≤ gs.length) && upF gs f p x

theorem upF_sound {gs : List (List Int)} : ∀ (f : Nat) {c x : Int}, 1 ≤ c → c ≤ gs.length → upF gs f c x = true → Anc gs [c] x
  | 0, c, x, h1, h2, h => by simp [upF] at h; subst h; exact .self h1 h2
  | f + 1, c, x, h1, h2, h => by
    unfold upF at h
    rw [Bool.or_eq_true] at h
    rcases h with h | h
    · simp at h; subst h; exact .self h1 h2
    · rw [List.any_eq_true] at h
      obtain ⟨p, hp, h⟩ := h
      simp only [Bool.and_eq_true, decide_eq_true_eq] at h
      obtain ⟨⟨a, b⟩, h⟩ := h
      exact (upF_sound f a b h).trans fun d hd _ _ => by
        rw [List.mem_singleton] at hd
        subst hd
        exact .step (.self h1 h2) hp a b
theorem upF_full {gs : List (List Int)} (ok : Ok gs) : ∀ (f : Nat) {c x : Int}, c ≤ f → Anc gs [c] x → upF gs f c x = true
  | 0, c, x, hc, h => by
    obtain ⟨c', hc', h1, _, _⟩ := h.one
    rw [List.mem_singleton] at hc'
    omega
  | f + 1, c, x, hc, h => by
    unfold upF
    rw [Bool.or_eq_true]
    rcases h.way with rfl | g
    · exact .inl (by simp)
    · obtain ⟨p, hp, h1, h2, g⟩ := g.one
      have hc1 : 1 ≤ c := by
        obtain ⟨c', hc', a, _, _⟩ := h.one
        rw [List.mem_singleton] at hc'
        omega
      have := ok.par hc1 hp
      refine .inr (List.any_eq_true.2 ⟨p, hp, ?_⟩)
      simp only [Bool.and_eq_true, decide_eq_true_eq]
      exact ⟨⟨h1, h2⟩, upF_full ok f (by omega) g⟩

/-- What is reached, by reckoning. -/
def ancC (gs : List (List Int)) (cs : List Int) (i : Nat) : Bool := cs.any fun c => decide (1 ≤ c) && decide (c ≤ gs.length) && upF gs gs.length c (i : Int)
theorem anc_reck {gs : List (List Int)} (ok : Ok gs) (cs : List Int) : anc gs cs = ancC gs cs := by
  funext i
  rw [Bool.eq_iff_iff, anc_iff]
  unfold ancC
  rw [List.any_eq_true]
  constructor
  · intro h
    obtain ⟨c, hc, h1, h2, g⟩ := h.one
    refine ⟨c, hc, ?_⟩
    simp only [Bool.and_eq_true, decide_eq_true_eq]
    exact ⟨⟨h1, h2⟩, upF_full ok _ (by omega) g⟩
  · rintro ⟨c, hc, h⟩
    simp only [Bool.and_eq_true, decide_eq_true_eq] at h
    exact (upF_sound _ h.1.1 h.1.2 h.2).trans fun d hd _ _ => by
      rw [List.mem_singleton] at hd
      subst hd
      exact .base hc h.1.1 h.1.2

/-! ### What the program answers -/

/-- Common ancestors, those that no other common one comes from, those of one alone: as marks. -/
noncomputable def com (gs : List (List Int)) (a b : Int) (i : Nat) : Bool := anc gs [a] i && anc gs [b] i
noncomputable def pars (gs : List (List Int)) (a b : Int) : List Int := (rowF (gs.length + 1) (com gs a b)).flatMap (par gs)
noncomputable def bas (gs : List (List Int)) (a b : Int) (i : Nat) : Bool := com gs a b i && !anc gs (pars gs a b) i
noncomputable def onl (gs : List (List Int)) (a b : Int) (i : Nat) : Bool := anc gs [a] i && !anc gs [b] i
noncomputable def basL (gs : List (List Int)) (a b : Int) : List Int := rowF (gs.length + 1) (bas gs a b)
noncomputable def ancR (gs : List (List Int)) (cs : List Int) : List Int := rowF (gs.length + 1) (anc gs cs)
noncomputable def onlL (gs : List (List Int)) (a b : Int) : List Int := rowF (gs.length + 1) (onl gs a b)
noncomputable def isB (gs : List (List Int)) (a c : Int) : Bool := decide (1 ≤ a) && decide (a ≤ gs.length) && anc gs [c] a.toNat
noncomputable def base1 (gs : List (List Int)) (a b : Int) : Int := (basL gs a b).getLast?.getD 0

theorem isB_iff {gs : List (List Int)} {a c : Int} : isB gs a c = true ↔ Anc gs [c] a := by
  unfold isB
  simp only [Bool.and_eq_true, decide_eq_true_eq, anc_iff]
  constructor
  · rintro ⟨⟨h1, _⟩, h⟩
    rwa [show ((a.toNat : Nat) : Int) = a by omega] at h
  · intro h
    have := h.vld
    rw [show ((a.toNat : Nat) : Int) = a by omega]
    exact ⟨this, h⟩

theorem com_iff {gs : List (List Int)} {a b : Int} {i : Nat} : com gs a b i = true ↔ Anc gs [a] i ∧ Anc gs [b] i := by
  unfold com; rw [Bool.and_eq_true, anc_iff, anc_iff]

theorem mem_pars {gs : List (List Int)} {a b p : Int} : p ∈ pars gs a b ↔ ∃ y, Anc gs [a] y ∧ Anc gs [b] y ∧ p ∈ par gs y := by
  unfold pars
  rw [List.mem_flatMap]
  constructor
  · rintro ⟨y, hy, hp⟩
    obtain ⟨i, _, h, rfl⟩ := mem_rowF.1 hy
    exact ⟨_, (com_iff.1 h).1, (com_iff.1 h).2, hp⟩
  · rintro ⟨y, h1, h2, hp⟩
    have := h1.vld
    refine ⟨y, mem_rowF.2 ⟨y.toNat, by omega, ?_, by omega⟩, hp⟩
    rw [com_iff, show ((y.toNat : Nat) : Int) = y by omega]
    exact ⟨h1, h2⟩

theorem mem_basL {gs : List (List Int)} {a b x : Int} : x ∈ basL gs a b ↔ Anc gs [a] x ∧ Anc gs [b] x ∧ ¬ Anc gs (pars gs a b) x := by
  unfold basL
  rw [mem_rowF]
  constructor
  · rintro ⟨i, _, h, rfl⟩
    unfold bas at h
    rw [Bool.and_eq_true, com_iff, Bool.not_eq_true', ← Bool.not_eq_true, anc_iff] at h
    exact ⟨h.1.1, h.1.2, h.2⟩
  · rintro ⟨h1, h2, h3⟩
    have := h1.vld
    refine ⟨x.toNat, by omega, ?_, by omega⟩
    unfold bas
    rw [Bool.and_eq_true, com_iff, Bool.not_eq_true', ← Bool.not_eq_true, anc_iff, show ((x.toNat : Nat) : Int) = x by omega]
    exact ⟨⟨h1, h2⟩, h3⟩

theorem com_turn (gs : List (List Int)) (a b : Int) : com gs b a = com gs a b := by funext i; unfold com; rw [Bool.and_comm]
theorem bas_turn (gs : List (List Int)) (a b : Int) : basL gs b a = basL gs a b := by
  unfold basL bas pars
  rw [com_turn]

/-- None of them comes from another one. -/
theorem bas_apart {gs : List (List Int)} {a b x y : Int} (hx : x ∈ basL gs a b) (hy : y ∈ basL gs a b) (hne : x ≠ y) : ¬ Anc gs [y] x := by
  intro h
  obtain ⟨y1, y2, _⟩ := mem_basL.1 hy
  rcases h.way with e | h
  · exact hne e
  · refine (mem_basL.1 hx).2.2 (h.trans fun c hc h1 h2 => .base (mem_pars.2 ⟨y, y1, y2, hc⟩) h1 h2)

theorem anc_step {gs : List (List Int)} {c y x : Int} (h : Anc gs [c] y) (g : Anc gs [y] x) : Anc gs [c] x :=
  g.trans fun d hd _ _ => by rw [List.mem_singleton] at hd; subst hd; exact h

/-- Each common one comes to one of them. -/
theorem bas_under {gs : List (List Int)} (ok : Ok gs) {a b c : Int} (h1 : Anc gs [a] c) (h2 : Anc gs [b] c) : ∃ m ∈ basL gs a b, Anc gs [m] c := by
  have key : ∀ (f : Nat) (x : Int), (gs.length : Int) - x < f → Anc gs [a] x → Anc gs [b] x → Anc gs [x] c → ∃ m ∈ basL gs a b, Anc gs [m] c := by
    intro f
    induction f with
    | zero => intro x hf hx _ _; have := hx.vld; omega
    | succ f ih =>
      intro x hf hx1 hx2 hc
      by_cases hp : Anc gs (pars gs a b) x
      · obtain ⟨p, hp, p1, p2, g⟩ := hp.one
        obtain ⟨y, y1, y2, hpy⟩ := mem_pars.1 hp
        have hlt := ok.par y1.vld.1 hpy
        have hle := g.le ok
        exact ih y (by omega) y1 y2 (anc_step (anc_step (.step (.self y1.vld.1 y1.vld.2) hpy p1 p2) g) hc)
      · exact ⟨x, mem_basL.2 ⟨hx1, hx2, hp⟩, hc⟩
  exact key (gs.length + 1) c (by have := h1.vld; omega) h1 h2 (.self h1.vld.1 h1.vld.2)

theorem rowF_single {n : Nat} {f : Nat → Bool} {a : Nat} (ha : a < n) (h : ∀ i, i < n → (f i = true ↔ i = a)) : rowF n f = [(a : Int)] := by
  induction n with
  | zero => omega
  | succ n ih =>
    rw [rowF_succ]
    by_cases e : a = n
    · subst e
      have h0 : rowF a f = [] := by
        apply List.eq_nil_iff_forall_not_mem.2
        intro x hx
        obtain ⟨i, hi, hf, _⟩ := mem_rowF.1 hx
        have := (h i (by omega)).1 hf
        omega
      rw [h0, if_pos ((h a (by omega)).2 rfl)]
      rfl
    · rw [ih (by omega) (fun i hi => h i (by omega)), if_neg (fun hf => e ((h n (by omega)).1 hf).symm), List.append_nil]

/-- An ancestor is the base itself. -/
theorem bas_self {gs : List (List Int)} (ok : Ok gs) {a b : Int} (h : Anc gs [b] a) : basL gs a b = [a] := by
  have hv := h.vld
  have hmem : ∀ x, x ∈ basL gs a b ↔ x = a := by
    intro x
    rw [mem_basL]
    constructor
    · rintro ⟨h1, h2, h3⟩
      rcases h1.way with e | g
      · exact e
      · exact absurd (g.trans fun c hc c1 c2 => .base (mem_pars.2 ⟨a, .self hv.1 hv.2, h, hc⟩) c1 c2) h3
    · rintro rfl
      refine ⟨.self hv.1 hv.2, h, fun g => ?_⟩
      obtain ⟨p, hp, p1, p2, g⟩ := g.one
      obtain ⟨y, y1, y2, hpy⟩ := mem_pars.1 hp
      have := y1.le ok
      have := g.le ok
      have := ok.par y1.vld.1 hpy
      omega
  have : basL gs a b = [((a.toNat : Nat) : Int)] := by
    unfold basL
    refine rowF_single (by omega) fun i hi => ?_
    have := hmem (i : Int)
    unfold basL at this
    constructor
    · intro hf
      have := this.1 (mem_rowF.2 ⟨i, hi, hf, rfl⟩)
      omega
    · rintro rfl
      obtain ⟨j, _, hf, e⟩ := mem_rowF.1 (this.2 (by omega))
      have : j = a.toNat := by omega
      rwa [this] at hf
  rw [this, show ((a.toNat : Nat) : Int) = a by omega]

end Go.Proofs.YtanjcjnkppnhcaaDoor.G
