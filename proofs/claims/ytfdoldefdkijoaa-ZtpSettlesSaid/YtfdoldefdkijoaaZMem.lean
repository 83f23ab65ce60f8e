/-
  OFFERS in memory: rows of one's own; the document's node.
-/
import Derived.Test.YtfdoldefdkijoaaZSet
import Derived.Test.YtfdoldefdkijoaaProg
import Derived.WalkKit
import Derived.Lib.Hide
import Derived.Below
import Derived.BigQuiet
import Derived.BigRegion
import Derived.Deep.QuietTactic
import Derived.Laws.Rows
import Derived.Laws.AppendOwn
import Derived.IntWalk
import Derived.OwnWalk
namespace Go.Proofs.Ytfdoldefdkijoaa
set_option linter.unusedSimpArgs false
set_option linter.unusedVariables false
open Go.RowKit
def cellsO (x : OffT) : List Value := [.int .i64 x.link, .int .i64 x.level, .int .i64 x.till]
def rowO (l : List OffT) : List Value := l.flatMap cellsO
theorem rowO_length (l : List OffT) : (rowO l).length = l.length * 3 := by
  induction l with
  | nil => rfl
  | cons p l ih => unfold rowO at ih ⊢; rw [List.flatMap_cons, List.length_append, ih]; simp [cellsO]; omega
theorem rowO_append (l m : List OffT) : rowO (l ++ m) = rowO l ++ rowO m := by unfold rowO; rw [List.flatMap_append]
theorem rowO_one (p : OffT) : rowO [p] = cellsO p := by simp [rowO]
theorem rowO_cons (p : OffT) (l : List OffT) : rowO (p :: l) = .int .i64 p.link :: .int .i64 p.level :: .int .i64 p.till :: rowO l := rfl
theorem rowO_get {l : List OffT} {j : Nat} {p : OffT} (h : l[j]? = some p) : (rowO l)[j * 3]? = some (.int .i64 p.link) ∧ (rowO l)[j * 3 + 1]? = some (.int .i64 p.level) ∧ (rowO l)[j * 3 + 2]? = some (.int .i64 p.till) := by
  induction l generalizing j with
  | nil => simp at h
  | cons q l ih =>
    rw [rowO_cons]
    match j, h with
    | 0, h => simp at h; subst h; exact ⟨rfl, rfl, rfl⟩
    | j + 1, h =>
      have := ih (by simpa using h)
      rw [show (j + 1) * 3 = j * 3 + 1 + 1 + 1 by omega]
      simpa using this
theorem rowO_one_cell {l : List OffT} : ∀ u ∈ rowO l, u.oneCell' = true := fun u hu => by
  obtain ⟨p, _, hp⟩ := List.mem_flatMap.1 hu
  simp [cellsO] at hp
  rcases hp with rfl | rfl | rfl <;> rfl
/-- A slice of jobs over memory of one's own (T: the element's type). -/
def OwnO (T : TypeId) (W : World) (base : Nat) (v : Value) (l : List OffT) : Prop := W.ownsRow base T 3 v l.length (rowO l)
theorem OwnO.nil (T : TypeId) (W : World) (base : Nat) : OwnO T W base (.slice none 0 0) [] := World.ownsRow_nil _ _ _ _
theorem OwnO.form {T : TypeId} {W : World} {base : Nat} {v : Value} {l : List OffT} (h : OwnO T W base v l) : (v = .slice none 0 0 ∧ l = []) ∨ ∃ g cap, v = .slice (some ⟨g, 0, none⟩) l.length cap ∧ base ≤ g ∧ g < W.heap.size ∧ l.length ≤ cap ∧ cap ≤ maxLen := by
  rcases h.2 with ⟨e, hl⟩ | ⟨g, cap, cur, e, hg, hh, hn, hm, _⟩
  · exact .inl ⟨e, List.eq_nil_of_length_eq_zero hl⟩
  · exact .inr ⟨g, cap, e, hg, (Array.getElem?_eq_some_iff.1 hh).1, hn, hm⟩
theorem OwnO.shape {T : TypeId} {W : World} {base : Nat} {v : Value} {l : List OffT} (h : OwnO T W base v l) : ∃ a c, v = .slice a l.length c := by
  rcases h.form with ⟨e, hs⟩ | ⟨g, cap, e, _⟩
  · exact ⟨none, 0, by rw [e, hs]; rfl⟩
  · exact ⟨_, _, e⟩
theorem OwnO.same {T : TypeId} {W W' : World} {base : Nat} {v : Value} {l : List OffT} (h : OwnO T W base v l) (k : ∀ g, v.ownBlock = some g → W'.heap[g]? = W.heap[g]?) : OwnO T W' base v l := by
  refine ⟨h.1, ?_⟩
  rcases h.2 with h2 | ⟨g, cap, cur, e, hg, hh, r⟩
  · exact .inl h2
  · exact .inr ⟨g, cap, cur, e, hg, (k g (by rw [e]; rfl)).trans hh, r⟩
theorem OwnO.mono {T : TypeId} {W : World} {base b : Nat} {v : Value} {l : List OffT} (h : OwnO T W base v l) (hb : b ≤ base) : OwnO T W b v l := by
  refine ⟨h.1, ?_⟩
  rcases h.2 with h2 | ⟨g, cap, cur, e, hg, r⟩
  · exact .inl h2
  · exact .inr ⟨g, cap, cur, e, by omega, r⟩
theorem OwnO.cell {T : TypeId} {W : World} {base g n cap : Nat} {l : List OffT} (h : OwnO T W base (.slice (some ⟨g, 0, none⟩) n cap) l) {j : Nat} {p : OffT} (hj : l[j]? = some p) : W.cell? ⟨g, j * 3, none⟩ = some (.int .i64 p.link) ∧ W.cell? ⟨g, j * 3 + 1, none⟩ = some (.int .i64 p.level) ∧ W.cell? ⟨g, j * 3 + 2, none⟩ = some (.int .i64 p.till) := by
  have hr := rowO_get hj
  have hadd : ∀ k, (⟨g, 0, none⟩ : Addr).add k = ⟨g, k, none⟩ := fun k => by unfold Addr.add; split <;> simp_all
  have h0 := World.ownsRow.cells h (g := g) rfl _ _ hr.1
  have h1 := World.ownsRow.cells h (g := g) rfl _ _ hr.2.1
  have h2 := World.ownsRow.cells h (g := g) rfl _ _ hr.2.2
  rw [hadd] at h0 h1 h2
  exact ⟨h0, h1, h2⟩

def NotT (ts : List TypeId) : Obj → Prop
  | .cells _ T _ => T ∉ ts
  | _ => True
/-- All is as it was but cells of some types. -/
def KeepO (ts : List TypeId) (W W' : World) : Prop := W.heap.size ≤ W'.heap.size ∧ ∀ (i : Nat) (o : Obj), NotT ts o → W.heap[i]? = some o → W'.heap[i]? = some o
theorem KeepO.refl (ts : List TypeId) (W : World) : KeepO ts W W := ⟨Nat.le_refl _, fun _ _ _ h => h⟩
theorem KeepO.trans {ts : List TypeId} {X Y Z : World} (h : KeepO ts X Y) (k : KeepO ts Y Z) : KeepO ts X Z := ⟨Nat.le_trans h.1 k.1, fun i o hs hc => k.2 i o hs (h.2 i o hs hc)⟩
theorem KeepO.below {ts : List TypeId} {X Y : World} (h : Below X.heap.size X Y) : KeepO ts X Y := ⟨h.size, fun i _ _ hc => (h.block i (Array.getElem?_eq_some_iff.1 hc).1).trans hc⟩
theorem KeepO.setCell {ts : List TypeId} {X : World} {b i : Nat} {cs : Array Value} {T : TypeId} {fr : Nat × Nat} (hb : X.heap[b]? = some (.cells cs T fr)) (hT : T ∈ ts) (v : Value) : KeepO ts X (X.setCell ⟨b, i, none⟩ v) :=
  ⟨by simp, fun k o hs hc => by
    have hne : k ≠ b := fun e => by rw [e, hb] at hc; cases hc; exact hs hT
    rw [heap_setCell_other _ _ _ _ hne]; exact hc⟩
/-- The document's node. -/
structure RZ (W : World) (base rb : Nat) (z : ZtT) (v : Value) : Prop where
  box : W.heap[rb]? = some (.cells #[.int .i64 z.fixed, .bool z.leaf, .bool z.top, v, .int .i64 z.taken, .bool z.down, .int .i64 z.till] 49 (0, 0))
  own : OwnO 54 W base v z.L
  le : base ≤ rb
  base : base ≤ W.heap.size
def RefZ (W : World) (base rb : Nat) (z : ZtT) : Prop := ∃ v, RZ W base rb z v
section
variable {W W' w : World} {base rb : Nat} {z : ZtT} {v : Value}
theorem RZ.same (h : RZ W base rb z v) (hs : W.heap.size ≤ W'.heap.size) (k : ∀ (i : Nat) (cs : Array Value) (T : TypeId) (fr : Nat × Nat), (T = 49 ∨ T = 54) → W.heap[i]? = some (Obj.cells cs T fr) → W'.heap[i]? = some (Obj.cells cs T fr)) : RZ W' base rb z v := by
  refine ⟨k _ _ _ _ (.inl rfl) h.box, ?_, h.le, Nat.le_trans h.base hs⟩
  refine ⟨h.own.1, ?_⟩
  rcases h.own.2 with h2 | ⟨g, cap, cur, e, hg, hh, r⟩
  · exact .inl h2
  · exact .inr ⟨g, cap, cur, e, hg, k _ _ _ _ (.inr rfl) hh, r⟩
theorem RZ.below (h : RZ W base rb z v) (k : Below W.heap.size W W') : RZ W' base rb z v := h.same k.size fun i cs T fr _ hc => (k.block i (Array.getElem?_eq_some_iff.1 hc).1).trans hc
theorem RefZ.below (h : RefZ W base rb z) (k : Below W.heap.size W W') : RefZ W' base rb z := by
  obtain ⟨v, h⟩ := h
  exact ⟨v, h.below k⟩
theorem RZ.lt (h : RZ W base rb z v) : rb < W.heap.size := (Array.getElem?_eq_some_iff.1 h.box).1
theorem RZ.cells (h : RZ W base rb z v) : W.cell? ⟨rb, 0, none⟩ = some (.int .i64 z.fixed) ∧ W.cell? ⟨rb, 1, none⟩ = some (.bool z.leaf) ∧ W.cell? ⟨rb, 2, none⟩ = some (.bool z.top) ∧ W.cell? ⟨rb, 3, none⟩ = some v ∧ W.cell? ⟨rb, 4, none⟩ = some (.int .i64 z.taken) ∧ W.cell? ⟨rb, 5, none⟩ = some (.bool z.down) ∧ W.cell? ⟨rb, 6, none⟩ = some (.int .i64 z.till) := by
  have hb := h.box
  simp [World.cell?, hb]
theorem RZ.frozen (h : RZ W base rb z v) (j : Nat) : W.frozen? ⟨rb, j, none⟩ = false := by
  have hb := h.box
  simp [World.frozen?, hb]
/-- An offer's cells. -/
theorem RZ.off (h : RZ W base rb z v) : ∃ a c, v = .slice a z.L.length c ∧ ∀ j o, z.L[j]? = some o → ∃ g, a = some ⟨g, 0, none⟩ ∧ z.L.length ≤ c ∧ g < W.heap.size ∧ base ≤ g ∧ W.cell? ⟨g, j * 3, none⟩ = some (.int .i64 o.link) ∧ W.cell? ⟨g, j * 3 + 1, none⟩ = some (.int .i64 o.level) ∧ W.cell? ⟨g, j * 3 + 2, none⟩ = some (.int .i64 o.till) := by
  have ho := h.own
  rcases ho.form with ⟨e, hl⟩ | ⟨g, cap, e, h1, h2, h3, h4⟩
  · exact ⟨none, 0, by rw [e, hl]; rfl, fun j o hj => by rw [hl] at hj; simp at hj⟩
  · subst e
    exact ⟨_, cap, rfl, fun j o hj => ⟨g, rfl, h3, h2, h1, ho.cell hj⟩⟩
end
end Go.Proofs.Ytfdoldefdkijoaa
