/-
  THE DOCUMENT'S Merge.
-/
import Derived.Test.YtjfnpciecgemeaaTPutH
import Derived.Deep.RegionHeld
import Derived.Deep.DeepMust
namespace Go.Proofs.Ytjfnpciecgemeaa.ti
set_option linter.unusedSimpArgs false
set_option linter.unusedVariables false
open Go.RowKit
theorem OwnH.empty (T : TypeId) (w : World) : OwnH T (w.alloc (.cells #[] T)) w.heap.size (.slice (some ⟨w.heap.size, 0, none⟩) 0 0) [] :=
  ⟨rfl, .inr ⟨w.heap.size, 0, #[], rfl, Nat.le_refl _, heap_alloc_new w _, Nat.le_refl _, by unfold maxLen; omega, rfl, rfl⟩⟩
/-- All heads up to one, merged. -/
def outT (all : List THd) (k : Nat) : List THd := (all.take k).foldl insT []
/-- The state ahead of a round. -/
def StM (w1 W : World) (v : Value) (out : List THd) : Prop := OwnH 34 W w1.heap.size v out ∧ Below w1.heap.size w1 W
theorem OwnH.cap {T : TypeId} {W : World} {base n c : Nat} {A : Option Addr} {l : List THd} (h : OwnH T W base (.slice A n c) l) : n ≤ c := by
  rcases h.form with ⟨e, _⟩ | ⟨g', cap, e, h1, h2, h3, _⟩
  · cases e; exact Nat.le_refl _
  · cases e; exact h3
theorem RdT.made {W W' : World} {h : THd} (hb : Below (W.heap.size + 1) (W.alloc (.cells #[.int .i64 h.id.d, .int .i64 h.id.o, .int .i64 h.id.k, .int .i64 h.id.n, .int .i64 h.seq, .int .i64 h.life] 34)) W') : RdT W' (some ⟨W.heap.size, 0, none⟩) [h] := fun j p hj => by
  have hj0 : j = 0 := by have := (List.getElem?_eq_some_iff.1 hj).1; simp at this; exact this
  subst hj0
  simp at hj
  subst hj
  refine ⟨_, 0, rfl, Nat.lt_of_lt_of_le (by simp) hb.size, ?_⟩
  have := range_list (W := W') (k := W.heap.size) (cs := cellsT h) (T := 34) (fr := (0, 0)) ((hb.block _ (by omega)).trans (heap_alloc_new W _))
  simpa using this
theorem StM.step {w1 W W' : World} {v : Value} {out : List THd} (h : StM w1 W v out) (hb : Below W.heap.size W W') : StM w1 W' v out := ⟨h.1.below hb, h.2.trans (hb.mono h.2.size)⟩
theorem StM.drew {w1 W : World} {v : Value} {out : List THd} (h : StM w1 W v out) : StM w1 W.drew v out := h.step (Below.refl _ W).drew
theorem StM.drewN {w1 W : World} {v : Value} {out : List THd} (h : StM w1 W v out) (n : Nat) : StM w1 (W.drewN n) v out := h.step ⟨rfl, rfl, rfl, Nat.le_refl _, fun _ _ => rfl⟩
theorem StM.put {w1 W : World} {g o n c : Nat} {out : List THd} (h : StM w1 W (.slice (some ⟨g, o, none⟩) n c) out) {j : Nat} {x : THd} (hx : out[j]? = some x) (y : THd) :
    StM w1 ((((((W.setCell ⟨g, o + j * 6, none⟩ (.int .i64 y.id.d)).setCell ⟨g, o + j * 6 + 1, none⟩ (.int .i64 y.id.o)).setCell ⟨g, o + j * 6 + 2, none⟩ (.int .i64 y.id.k)).setCell ⟨g, o + j * 6 + 3, none⟩ (.int .i64 y.id.n)).setCell ⟨g, o + j * 6 + 4, none⟩ (.int .i64 y.seq)).setCell ⟨g, o + j * 6 + 5, none⟩ (.int .i64 y.life)) (.slice (some ⟨g, o, none⟩) n c) (out.set j y) :=
  ⟨h.1.put hx y, by
    have hg := h.1.at0.2.1
    exact (((((h.2.setCell (p := ⟨g, _, none⟩) hg _).setCell (p := ⟨g, _, none⟩) hg _).setCell (p := ⟨g, _, none⟩) hg _).setCell (p := ⟨g, _, none⟩) hg _).setCell (p := ⟨g, _, none⟩) hg _).setCell (p := ⟨g, _, none⟩) hg _⟩
section
attribute [local go_sem high] eq_head eq_id
end
end Go.Proofs.Ytjfnpciecgemeaa.ti
