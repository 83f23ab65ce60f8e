/-
  THE PROGRAM'S comparisons: cmp.Compare, compare, Compare.
-/
import Derived.Test.YtbgilngpkogapaaTRef
import Derived.Sort.Grow
namespace Go.Proofs.Ytbgilngpkogapaa.ti
set_option linter.unusedSimpArgs false
set_option linter.unusedVariables false
open Go.RowKit
/-- What was there is there, and no draw is taken back. -/
structure Fwd (w w' : World) : Prop where
  bel : Below w.heap.size w w'
  drawn : w.drawn ≤ w'.drawn
theorem Fwd.refl (w : World) : Fwd w w := ⟨Below.refl _ w, Nat.le_refl _⟩
theorem Fwd.trans {a b c : World} (h : Fwd a b) (k : Fwd b c) : Fwd a c := ⟨h.bel.trans (k.bel.mono h.bel.size), Nat.le_trans h.drawn k.drawn⟩
theorem Fwd.alloc {a b : World} (h : Fwd a b) (o : Obj) : Fwd a (b.alloc o) := ⟨h.bel.alloc h.bel.size o, h.drawn⟩
theorem Fwd.drew {a b : World} (h : Fwd a b) : Fwd a b.drew := ⟨h.bel.drew, Nat.le_succ_of_le h.drawn⟩
theorem Fwd.grown {w w' : World} (h : Fwd w w') : ∃ q os', w' = Sort.grow (w.drewN q) os' := by
  refine ⟨w'.drawn - w.drawn, w'.heap.extract w.heap.size w'.heap.size, ?_⟩
  have hh : w'.heap = w.heap ++ w'.heap.extract w.heap.size w'.heap.size := by
    apply Array.ext_getElem?
    intro i
    by_cases hi : i < w.heap.size
    · rw [Array.getElem?_append_left hi]; exact h.bel.block i hi
    · have := h.bel.size
      rw [Array.getElem?_append_right (by omega), Array.getElem?_extract]
      by_cases hj : i < w'.heap.size
      · rw [if_pos (by omega), show w.heap.size + (i - w.heap.size) = i by omega]
      · rw [if_neg (by omega), Array.getElem?_eq_none (by omega)]
  have hd := h.drawn
  obtain ⟨h1, h2, h3, -, -⟩ := h.bel
  cases w'
  cases w
  simp only [Sort.grow, World.drewN, World.mk.injEq] at *
  exact ⟨hh, h2, by omega, h1, h3⟩
theorem isnan_any (a : Int) (w : World) : Calls Try.prog 31 #[.int .i64 a] w fun e w' => e = .returned (.bool false) ∧ w' = w := by
  go_enter Try.func31, Try.ntmps31
  go_wp2
  go_ret
  exact ⟨rfl, rfl⟩
set_option maxHeartbeats 800000 in
set_option maxRecDepth 100000 in
theorem cmpint_any (a b : Int) (w : World) : Calls Try.prog 25 #[.int .i64 a, .int .i64 b] w fun e w' => e = .returned (.int .i64 (numT a b)) ∧ w' = w := by
  have hn := isnan_any
  by_cases h1 : a < b
  · rw [show numT a b = -1 from if_pos h1]
    go_enter Try.func25, Try.ntmps25
    go_wp2_with (go_at_call 31; refine (hn _ _).mono ?_; rintro e w1 ⟨rfl, rfl⟩)
    go_ret
    exact ⟨rfl, rfl⟩
  · by_cases h2 : b < a
    · rw [show numT a b = 1 from by unfold numT; rw [if_neg h1, if_pos h2]]
      go_enter Try.func25, Try.ntmps25
      go_wp2_with (go_at_call 31; refine (hn _ _).mono ?_; rintro e w1 ⟨rfl, rfl⟩)
      go_ret
      exact ⟨rfl, rfl⟩
    · rw [show numT a b = 0 from by unfold numT; rw [if_neg h1, if_neg h2]]
      go_enter Try.func25, Try.ntmps25
      go_wp2_with (go_at_call 31; refine (hn _ _).mono ?_; rintro e w1 ⟨rfl, rfl⟩)
      go_ret
      exact ⟨rfl, rfl⟩
/-- The first pair whose numbers differ. -/
def pairsT : List (Int × Int) → Int
  | [] => 0
  | p :: r => if p.1 = p.2 then pairsT r else numT p.1 p.2
/-- A row of pairs. -/
def RdP (W : World) (g : Nat) (ps : List (Int × Int)) : Prop := ∀ (j : Nat) (p : Int × Int), ps[j]? = some p → W.cell? ⟨g, j * 2, none⟩ = some (.int .i64 p.1) ∧ W.cell? ⟨g, j * 2 + 1, none⟩ = some (.int .i64 p.2)
theorem cmp_pairs (a b : TId) : pairsT [(a.d, b.d), (a.o, b.o), (a.k, b.k), (a.n, b.n)] = cmpT a b := by
  unfold cmpT
  simp only [pairsT, ne_eq, ite_not]
  by_cases h1 : a.d = b.d
  · simp only [h1, if_true]
    by_cases h2 : a.o = b.o
    · simp only [h2, if_true]
      by_cases h3 : a.k = b.k
      · simp only [h3, if_true]
        by_cases h4 : a.n = b.n
        · rw [if_pos h4]; unfold numT; rw [if_neg (by omega), if_neg (by omega)]
        · rw [if_neg h4]
      · simp only [h3, if_false]
    · simp only [h2, if_false]
  · simp only [h1, if_false]
end Go.Proofs.Ytbgilngpkogapaa.ti
