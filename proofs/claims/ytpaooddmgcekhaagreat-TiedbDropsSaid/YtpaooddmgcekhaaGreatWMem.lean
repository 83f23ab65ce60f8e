/-
  HOW MEMORY STANDS WHILE A PACKET IS GONE THROUGH: some values at a place of a block; what a call may turn.
-/
import Derived.Test.YtpaooddmgcekhaaGreatWSpec
namespace Go.Proofs.YtpaooddmgcekhaaGreat
open Go.RowKit Go.Shelf
set_option linter.unusedVariables false

/-- The blocks that are a writer's, or a reader's, own; those that a traversal's functions leave alone. -/
def machT (t : TypeId) : Bool := t == 146 || t == 123
def keepT (t : TypeId) : Bool := !machT t && !(t == 127)

/-- Nothing is turned but a writer's own, and the traversal. -/
structure Keep (base : Nat) (W W' : World) : Prop where
  bel : Below base W W'
  keep : ∀ (k : Nat) (cs : Array Value) (t : TypeId) (z : Nat × Nat), W.heap[k]? = some (.cells cs t z) → keepT t = true → W'.heap[k]? = some (.cells cs t z)
/-- .. and some cells of one block. -/
structure Chg (base B lo hi : Nat) (W W' : World) : Prop where
  bel : Below base W W'
  keep : ∀ (k : Nat) (cs : Array Value) (t : TypeId) (z : Nat × Nat), k ≠ B → W.heap[k]? = some (.cells cs t z) → keepT t = true → W'.heap[k]? = some (.cells cs t z)
  at_ : ∀ (cs : Array Value) (t : TypeId) (z : Nat × Nat), W.heap[B]? = some (.cells cs t z) → keepT t = true → ∃ cs', W'.heap[B]? = some (.cells cs' t z) ∧ cs'.size = cs.size ∧ ∀ j, (j < lo ∨ hi ≤ j) → cs'[j]? = cs[j]?
/-- What is a writer's own is as it was. -/
structure Calm (base : Nat) (W W' : World) : Prop where
  bel : Below base W W'
  keep : ∀ (k : Nat) (cs : Array Value) (t : TypeId) (z : Nat × Nat), W.heap[k]? = some (.cells cs t z) → machT t = true → W'.heap[k]? = some (.cells cs t z)

theorem lt_of_block {W : World} {k : Nat} {o : Obj} (h : W.heap[k]? = some o) : k < W.heap.size := (Array.getElem?_eq_some_iff.1 h).1

theorem Keep.refl (base : Nat) (W : World) : Keep base W W := ⟨Below.refl _ _, fun _ _ _ _ h _ => h⟩
theorem Keep.trans {base : Nat} {a b c : World} (h : Keep base a b) (k : Keep base b c) : Keep base a c := ⟨h.bel.trans k.bel, fun i cs t z hi ht => k.keep i cs t z (h.keep i cs t z hi ht) ht⟩
theorem Keep.alloc {base : Nat} {a W : World} (h : Keep base a W) (hb : base ≤ W.heap.size) (o : Obj) : Keep base a (W.alloc o) := h.trans ⟨(Below.refl _ _).alloc hb o, fun k cs t z hk _ => by rw [Below.heap_alloc _ _ _ (lt_of_block hk)]; exact hk⟩
theorem Keep.drew {base : Nat} {a W : World} (h : Keep base a W) : Keep base a W.drew := ⟨h.bel.drew, h.keep⟩
theorem Keep.chg {base : Nat} {W W' : World} (h : Keep base W W') (B lo hi : Nat) : Chg base B lo hi W W' := ⟨h.bel, fun k cs t z _ hk ht => h.keep k cs t z hk ht, fun cs t z hk ht => ⟨cs, h.keep B cs t z hk ht, rfl, fun _ _ => rfl⟩⟩
theorem Chg.trans {base B lo hi : Nat} {a b c : World} (h : Chg base B lo hi a b) (k : Chg base B lo hi b c) : Chg base B lo hi a c := ⟨h.bel.trans k.bel, fun i cs t z hne hi ht => k.keep i cs t z hne (h.keep i cs t z hne hi ht) ht, fun cs t z hc ht => by
  obtain ⟨c1, h1, s1, g1⟩ := h.at_ cs t z hc ht
  obtain ⟨c2, h2, s2, g2⟩ := k.at_ c1 t z h1 ht
  exact ⟨c2, h2, s2.trans s1, fun j hj => (g2 j hj).trans (g1 j hj)⟩⟩
theorem Chg.mono {base B lo hi lo' hi' : Nat} {a b : World} (h : Chg base B lo hi a b) (h1 : lo' ≤ lo) (h2 : hi ≤ hi') : Chg base B lo' hi' a b := ⟨h.bel, h.keep, fun cs t z hc ht => by
  obtain ⟨c1, e1, s1, g1⟩ := h.at_ cs t z hc ht
  exact ⟨c1, e1, s1, fun j hj => g1 j (by omega)⟩⟩
/-- A block that was not there is turned: of what was there nothing. -/
theorem Chg.fresh {base B lo hi : Nat} {a b c : World} (h : Keep base a b) (k : Chg base B lo hi b c) (hB : a.heap.size ≤ B) : Keep base a c := ⟨h.bel.trans k.bel, fun i cs t z hi ht => k.keep i cs t z (fun e => by have := lt_of_block hi; omega) (h.keep i cs t z hi ht) ht⟩
theorem Chg.set {base B lo hi : Nat} {a W : World} (h : Chg base B lo hi a W) (hB : base ≤ B) {j : Nat} (h1 : lo ≤ j) (h2 : j < hi) (v : Value) : Chg base B lo hi a (W.setCell ⟨B, j, none⟩ v) := h.trans ⟨(Below.refl _ _).setCell (p := ⟨B, j, none⟩) hB v, fun k cs t z hne hk ht => by rw [Below.heap_setCell _ _ _ _ hne]; exact hk, fun cs t z hk ht =>
  ⟨cs.setIfInBounds j v, by simp [World.setCell, Array.getElem?_modify, hk], by simp, fun i hi => by rw [Array.getElem?_setIfInBounds]; rw [if_neg (by omega)]⟩⟩
theorem Keep.set {base B : Nat} {a W : World} (h : Keep base a W) (hB : base ≤ B) (hn : a.heap.size ≤ B) (j : Nat) (v : Value) : Keep base a (W.setCell ⟨B, j, none⟩ v) :=
  ⟨h.bel.setCell (p := ⟨B, j, none⟩) hB v, fun k cs t z hk ht => by rw [Below.heap_setCell _ _ _ _ (fun e => by have := lt_of_block hk; simp at e; omega)]; exact h.keep k cs t z hk ht⟩
theorem Keep.turn {base B : Nat} {a W : World} (h : Keep base a W) (hB : base ≤ B) {cs : Array Value} {t : TypeId} {z : Nat × Nat} (hb : W.heap[B]? = some (.cells cs t z)) (ht : keepT t = false) (j : Nat) (v : Value) : Keep base a (W.setCell ⟨B, j, none⟩ v) :=
  ⟨h.bel.setCell (p := ⟨B, j, none⟩) hB v, fun k c1 t1 z1 hk ht1 => by
    have h1 := h.keep k c1 t1 z1 hk ht1
    rw [Below.heap_setCell _ _ _ _ (fun e => ?_)]
    · exact h1
    · simp only at e
      subst e
      rw [hb] at h1
      injection h1 with h1
      injection h1 with _ h2
      subst h2
      rw [ht] at ht1
      cases ht1⟩
theorem Keep.grown {base : Nat} {a W W' : World} {row : Option Nat} (h : Keep base a W) (hg : W.grownBy W' row) (hb : base ≤ W.heap.size) (hr : ∀ r, row = some r → base ≤ r ∧ ∀ cs t z, W.heap[r]? = some (.cells cs t z) → keepT t = false) : Keep base a W' :=
  h.trans ⟨(Below.refl _ _).grown hg hb (fun k hk => (hr k hk).1), fun k cs t z hk ht => by
    rw [hg.block k (lt_of_block hk) (fun e => by have := (hr k e.symm).2 cs t z hk; rw [ht] at this; cases this)]
    exact hk⟩

theorem Calm.refl (base : Nat) (W : World) : Calm base W W := ⟨Below.refl _ _, fun _ _ _ _ h _ => h⟩
theorem Calm.trans {base : Nat} {a b c : World} (h : Calm base a b) (k : Calm base b c) : Calm base a c := ⟨h.bel.trans k.bel, fun i cs t z hi ht => k.keep i cs t z (h.keep i cs t z hi ht) ht⟩
theorem Calm.alloc {base : Nat} {a W : World} (h : Calm base a W) (hb : base ≤ W.heap.size) (o : Obj) : Calm base a (W.alloc o) := h.trans ⟨(Below.refl _ _).alloc hb o, fun k cs t z hk _ => by rw [Below.heap_alloc _ _ _ (lt_of_block hk)]; exact hk⟩
theorem Calm.drew {base : Nat} {a W : World} (h : Calm base a W) : Calm base a W.drew := ⟨h.bel.drew, h.keep⟩
theorem Calm.set {base B : Nat} {a W : World} (h : Calm base a W) (hB : base ≤ B) {cs : Array Value} {t : TypeId} {z : Nat × Nat} (hb : W.heap[B]? = some (.cells cs t z)) (ht : machT t = false) (j : Nat) (v : Value) : Calm base a (W.setCell ⟨B, j, none⟩ v) :=
  h.trans ⟨(Below.refl _ _).setCell (p := ⟨B, j, none⟩) hB v, fun k c1 t1 z1 hk ht1 => by
    rw [Below.heap_setCell _ _ _ _ (fun e => ?_)]
    · exact hk
    · simp only at e
      subst e
      rw [hb] at hk
      injection hk with hk
      injection hk with _ h2
      subst h2
      rw [ht] at ht1
      cases ht1⟩
theorem Calm.grown {base : Nat} {a W W' : World} {row : Option Nat} (h : Calm base a W) (hg : W.grownBy W' row) (hb : base ≤ W.heap.size) (hr : ∀ r, row = some r → base ≤ r ∧ ∀ cs t z, W.heap[r]? = some (.cells cs t z) → machT t = false) : Calm base a W' :=
  h.trans ⟨(Below.refl _ _).grown hg hb (fun k hk => (hr k hk).1), fun k cs t z hk ht => by
    rw [hg.block k (lt_of_block hk) (fun e => by have := (hr k e.symm).2 cs t z hk; rw [ht] at this; cases this)]
    exact hk⟩

/-- Some values stand in a block of the call's own, from a place on. -/
def At (base : Nat) (W : World) (B off : Nat) (vs : List Value) : Prop := base ≤ B ∧ ∃ cs t, W.heap[B]? = some (.cells cs t (0, 0)) ∧ keepT t = true ∧ ∀ i v, vs[i]? = some v → cs[off + i]? = some v
theorem At.lt {base : Nat} {W : World} {B off : Nat} {vs : List Value} (h : At base W B off vs) : B < W.heap.size := by
  obtain ⟨_, cs, t, h, _⟩ := h
  exact lt_of_block h
theorem At.cell {base : Nat} {W : World} {B off : Nat} {vs : List Value} (h : At base W B off vs) (i : Nat) {v : Value} (hv : vs[i]? = some v) : W.cell? ⟨B, off + i, none⟩ = some v := by
  obtain ⟨_, cs, t, h, _, hc⟩ := h
  rw [cell_of_row W B _ cs t (0, 0) h]
  exact hc i v hv
theorem At.cell0 {base : Nat} {W : World} {B off : Nat} {vs : List Value} (h : At base W B off vs) {v : Value} (hv : vs[0]? = some v) : W.cell? ⟨B, off, none⟩ = some v := h.cell 0 hv
theorem At.frozen {base : Nat} {W : World} {B off : Nat} {vs : List Value} (h : At base W B off vs) (i : Nat) : W.frozen? ⟨B, i, none⟩ = false := by
  obtain ⟨_, cs, t, h, _, hc⟩ := h
  simp [World.frozen?, h]
theorem At.keep {base : Nat} {W W' : World} {B off : Nat} {vs : List Value} (h : At base W B off vs) (k : Keep base W W') : At base W' B off vs := by
  obtain ⟨hb, cs, t, h, ht, hc⟩ := h
  exact ⟨hb, cs, t, k.keep B cs t _ h ht, ht, hc⟩
theorem At.chg {base : Nat} {W W' : World} {B off C lo hi : Nat} {vs : List Value} (h : At base W B off vs) (k : Chg base C lo hi W W') (hd : B ≠ C ∨ hi ≤ off ∨ off + vs.length ≤ lo) : At base W' B off vs := by
  obtain ⟨hb, cs, t, h, ht, hc⟩ := h
  by_cases hBC : B = C
  · subst hBC
    obtain ⟨c1, e1, s1, g1⟩ := k.at_ cs t _ h ht
    refine ⟨hb, c1, t, e1, ht, fun i v hv => ?_⟩
    have hi' : i < vs.length := (List.getElem?_eq_some_iff.1 hv).1
    rw [g1 (off + i) (by omega)]
    exact hc i v hv
  · exact ⟨hb, cs, t, k.keep B cs t _ hBC h ht, ht, hc⟩
theorem At.part {base : Nat} {W : World} {B off : Nat} {vs : List Value} (h : At base W B off vs) (i n : Nat) : At base W B (off + i) ((vs.drop i).take n) := by
  obtain ⟨hb, cs, t, h, ht, hc⟩ := h
  refine ⟨hb, cs, t, h, ht, fun j v hv => ?_⟩
  have hj : j < n := by
    have := (List.getElem?_eq_some_iff.1 hv).1
    rw [List.length_take] at this
    omega
  rw [List.getElem?_take, if_pos hj, List.getElem?_drop] at hv
  rw [Nat.add_assoc]
  exact hc _ v hv
/-- Some of the values are turned, the others not. -/
theorem At.join {base : Nat} {W W' : World} {B off i : Nat} {a b b' c : List Value} (h : At base W B off (a ++ (b ++ c))) (hn : b'.length = b.length) (hia : a.length = i) (k : Chg base B (off + i) (off + i + b.length) W W') (h' : At base W' B (off + i) b') : At base W' B off (a ++ (b' ++ c)) := by
  subst hia
  obtain ⟨hb, cs, t, h, ht, hc⟩ := h
  obtain ⟨c1, e1, s1, g1⟩ := k.at_ cs t _ h ht
  obtain ⟨_, c2, t2, e2, _, hc2⟩ := h'
  rw [e1] at e2
  injection e2 with e2
  injection e2 with e2 e3
  subst e2 e3
  refine ⟨hb, c1, t, e1, ht, fun j v hv => ?_⟩
  rcases Nat.lt_or_ge j a.length with h1 | h1
  · rw [List.getElem?_append_left h1] at hv
    rw [g1 (off + j) (by omega)]
    exact hc j v (by rw [List.getElem?_append_left h1]; exact hv)
  · rw [List.getElem?_append_right h1] at hv
    rcases Nat.lt_or_ge (j - a.length) b.length with h2 | h2
    · rw [List.getElem?_append_left (by omega)] at hv
      have := hc2 (j - a.length) v hv
      rwa [show off + a.length + (j - a.length) = off + j by omega] at this
    · rw [List.getElem?_append_right (by omega), hn] at hv
      rw [g1 (off + j) (by omega)]
      refine hc j v ?_
      rw [List.getElem?_append_right h1, List.getElem?_append_right h2]
      exact hv
theorem At.put {base : Nat} {W W' : World} {B off i : Nat} {vs : List Value} {v : Value} (h : At base W B off vs) (k : Chg base B (off + i) (off + i + 1) W W') (h' : At base W' B (off + i) [v]) (hi : i < vs.length) : At base W' B off (vs.set i v) := by
  have e1 : vs = vs.take i ++ ([vs[i]] ++ vs.drop (i + 1)) := by
    rw [List.singleton_append, ← List.drop_eq_getElem_cons hi, List.take_append_drop]
  have hl : (vs.take i).length = i := by rw [List.length_take]; omega
  have e2 : vs.set i v = vs.take i ++ ([v] ++ vs.drop (i + 1)) := by
    rw [List.set_eq_take_append_cons_drop, if_pos hi]
    rfl
  rw [e2]
  rw [e1] at h
  exact h.join (b' := [v]) rfl hl k h'
theorem At.pick {base : Nat} {W : World} {B off : Nat} {vs : List Value} (h : At base W B off vs) (i : Nat) {v : Value} (hv : vs[i]? = some v) : At base W B (off + i) [v] := by
  obtain ⟨hb, cs, t, h, ht, hc⟩ := h
  refine ⟨hb, cs, t, h, ht, fun j u hu => ?_⟩
  cases j with
  | zero =>
    simp at hu
    subst hu
    exact hc i _ hv
  | succ j => simp at hu
theorem At.alloc {base : Nat} {W : World} {B off : Nat} {vs : List Value} (h : At base W B off vs) (hb : base ≤ W.heap.size) (o : Obj) : At base (W.alloc o) B off vs := h.keep ((Keep.refl base W).alloc hb o)
theorem At.drew {base : Nat} {W : World} {B off : Nat} {vs : List Value} (h : At base W B off vs) : At base W.drew B off vs := h
theorem At.new (base : Nat) (W : World) (hb : base ≤ W.heap.size) (cs : List Value) (t : TypeId) (ht : keepT t = true) : At base (W.alloc (.cells cs.toArray t)) W.heap.size 0 cs :=
  ⟨hb, cs.toArray, t, World.alloc_heap_new W _, ht, fun i v hv => by simpa using hv⟩
theorem At.box {base : Nat} {W : World} {B : Nat} {v : Value} {t : TypeId} (h : Boxed W B t v) (hb : base ≤ B) (ht : keepT t = true) : At base W B 0 [v] := ⟨hb, _, t, h, ht, fun i u hu => by
  cases i with
  | zero => simpa using hu
  | succ i => simp at hu⟩
theorem At.set {base : Nat} {W : World} {B off : Nat} {vs : List Value} (h : At base W B off vs) (i : Nat) (hi : i < vs.length) (v : Value) : At base (W.setCell ⟨B, off + i, none⟩ v) B off (vs.set i v) := by
  obtain ⟨hb, cs, t, h, ht, hc⟩ := h
  refine ⟨hb, cs.setIfInBounds (off + i) v, t, by simp [World.setCell, Array.getElem?_modify, h], ht, fun j u hu => ?_⟩
  have hs : off + i < cs.size := (Array.getElem?_eq_some_iff.1 (hc i _ (List.getElem?_eq_getElem hi))).1
  rw [Array.getElem?_setIfInBounds]
  rw [List.getElem?_set] at hu
  by_cases e : i = j
  · subst e
    rw [if_pos rfl, if_pos hi] at hu
    rw [if_pos rfl, if_pos hs]
    exact hu
  · rw [if_neg e] at hu
    rw [if_neg (by omega)]
    exact hc j u hu
theorem At.other {base : Nat} {W : World} {B off C : Nat} {vs : List Value} (h : At base W B off vs) (hne : B ≠ C) (j : Nat) (v : Value) : At base (W.setCell ⟨C, j, none⟩ v) B off vs := by
  obtain ⟨hb, cs, t, h, ht, hc⟩ := h
  exact ⟨hb, cs, t, by rw [Below.heap_setCell _ _ _ _ hne]; exact h, ht, hc⟩
end Go.Proofs.YtpaooddmgcekhaaGreat
