/-
  THE LIBRARY'S slices.AppendSeq, slices.Collect at the ids of the base's map.
-/
import Derived.Test.YtpaooddmgcekhaaVKeys
import Derived.RangeFuncBox
import Derived.Maps.AppendAt
namespace Go.Proofs.Ytpaooddmgcekhaa.ti
set_option linter.unusedSimpArgs false
set_option linter.unusedVariables false
open Go.RowKit Go.Shelf
attribute [local go_sem] Oper.semAt_some
theorem block_own {W W' : World} {k : Nat} {cs : Array Value} {t : TypeId} {fr : Nat × Nat} {row : Option Nat} (h : W.heap[k]? = some (.cells cs t fr)) (hg : W.grownBy W' row) (hr : ∀ r, row = some r → ∃ o : Obj, W.heap[r]? = some o ∧ o.isCells = false) : W'.heap[k]? = some (.cells cs t fr) :=
  (hg.block k (Array.getElem?_eq_some_iff.1 h).1 (fun e => by
    obtain ⟨o, ho, hc⟩ := hr k e.symm
    rw [h] at ho
    cases ho
    cases hc)).trans h
theorem own_not_walk {W : World} {base size n : Nat} {e : TypeId} {v : Value} {xs : List Value} (h : W.ownsRow base e size v n xs) : ∀ (j : Nat) (o : Obj), v.ownBlock = some j → W.heap[j]? = some o → o.isWalk = false := fun j o ej ho => by
  rcases h.2 with ⟨e1, _⟩ | ⟨g, cap, cur, e1, _, hh, _⟩
  · rw [e1] at ej; cases ej
  · rw [e1] at ej
    have : g = j := by cases ej; rfl
    subst this
    rw [hh] at ho
    cases ho
    rfl
def encI (x : IdV) : List Value := [.int .i64 x.1.d, .int .i64 x.1.o, .int .i64 x.1.k, .int .i64 x.1.n]
theorem kindV : KindE 59 33 4 32 (.agg #[.int .i64 0, .int .i64 0, .int .i64 0, .int .i64 0]) encI := ⟨by kernel_rfl, by kernel_rfl, rfl, by decide, fun _ => rfl, fun x u hu => by simp [encI] at hu; rcases hu with rfl | rfl | rfl | rfl <;> rfl⟩
theorem cell_four_new (W : World) (p : IdV) : ∀ (j : Nat) (u : Value), (encI p)[j]? = some u → (W.alloc (.cells #[.int .i64 p.1.d, .int .i64 p.1.o, .int .i64 p.1.k, .int .i64 p.1.n] 33)).cell? ((⟨W.heap.size, 0, none⟩ : Addr).add j) = some u := fun j u hu => by
  have hx := heap_alloc_new W (.cells #[.int .i64 p.1.d, .int .i64 p.1.o, .int .i64 p.1.k, .int .i64 p.1.n] 33)
  have := range_list (cs := encI p) hx j u hu
  rw [add_off]
  simpa using this
/-- Where the loop of AppendSeq stands. -/
structure ApAt (w w1 : World) (pre : List IdV) (v : Value) (W : World) : Prop where
  box : Boxed W w.heap.size 59 v
  own : OwnE 33 4 encI W w.heap.size v pre
  bel : Below w.heap.size w W
  size : w1.heap.size ≤ W.heap.size
theorem ApAt.ownr {w w1 : World} {pre : List IdV} {v : Value} {W W' : World} {row : Option Nat} (h : ApAt w w1 pre v W) (hg : W.grownBy W' row) (hr : ∀ r, row = some r → w1.heap.size ≤ r ∧ ∃ o : Obj, W.heap[r]? = some o ∧ o.isCells = false) (hw : w.heap.size ≤ w1.heap.size) : ApAt w w1 pre v W' := by
  refine ⟨block_own h.box hg (fun r e => (hr r e).2), ?_, h.bel.grown hg h.bel.size (fun j hj => by have := (hr j hj).1; omega), Nat.le_trans h.size hg.size⟩
  refine World.ownsRow.kept h.own hg ?_
  cases row with
  | none =>
    cases hv : v.ownBlock with
    | none => exact .inl rfl
    | some g => exact .inr (by simp)
  | some r =>
    right
    intro e
    obtain ⟨_, o, ho, hc⟩ := hr r rfl
    obtain ⟨cur, hcur⟩ : ∃ cs t fr, W.heap[r]? = some (.cells cs t fr) := by
      rcases h.own.2 with ⟨e1, _⟩ | ⟨g, cap, cur, e1, _, hh, _⟩
      · rw [e1] at e; cases e
      · rw [e1] at e
        have : g = r := by cases e; rfl
        subst this
        exact ⟨_, _, _, hh⟩
    obtain ⟨t, fr, hcur⟩ := hcur
    rw [hcur] at ho
    cases ho
    cases hc
end Go.Proofs.Ytpaooddmgcekhaa.ti
