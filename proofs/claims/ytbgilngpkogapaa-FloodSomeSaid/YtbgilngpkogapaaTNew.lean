/-
  THE PROGRAM'S Newer.
-/
import Derived.Test.YtbgilngpkogapaaTCmp
namespace Go.Proofs.Ytbgilngpkogapaa.ti
set_option linter.unusedSimpArgs false
set_option linter.unusedVariables false
open Go.RowKit
theorem new_near {a b : THd} (h : ¬ farT a.life b.life ∧ ¬ farT b.life a.life) : pairsT [(a.seq, b.seq)] = newT a b := by
  simp only [pairsT]
  by_cases q : a.seq = b.seq
  · rw [if_pos q, new_eq q, if_neg h.1, if_neg h.2]
  · rw [if_neg q, new_ne q]
theorem new_far {a b : THd} (h : ¬ (¬ farT a.life b.life ∧ ¬ farT b.life a.life)) : pairsT [(a.seq, b.seq), (a.life, b.life)] = newT a b := by
  simp only [pairsT]
  by_cases q : a.seq = b.seq
  · rw [if_pos q, new_eq q]
    by_cases q1 : farT a.life b.life
    · rw [if_pos q1]
      unfold farT at q1
      rw [if_neg (by omega)]; unfold numT; rw [if_neg (by omega), if_pos (by omega)]
    · have q2 : farT b.life a.life := Classical.byContradiction fun k => h ⟨q1, k⟩
      rw [if_neg q1, if_pos q2]
      unfold farT at q2
      rw [if_neg (by omega)]; unfold numT; rw [if_pos (by omega)]
  · rw [if_neg q, new_ne q]
theorem two_new {W0 U : World} {n : Nat} (x y u v : Value) (T : TypeId) (hn : W0.heap.size = n) (hU : ((W0.alloc (.cells #[x, y] T)).alloc (.cells #[u, v] T)).drew = U) : (U.cell? ⟨n, 0, none⟩ = some x ∧ U.cell? ⟨n, 1, none⟩ = some y) ∧ U.cell? ⟨n + 1, 0, none⟩ = some u ∧ U.cell? ⟨n + 1, 1, none⟩ = some v := by
  have h1 : U.heap[n]? = some (.cells #[x, y] T (0, 0)) := by
    rw [← hU, ← hn]
    show ((W0.alloc (.cells #[x, y] T)).alloc (.cells #[u, v] T)).heap[W0.heap.size]? = _
    rw [heap_alloc_old _ _ (by simp)]
    exact heap_alloc_new W0 _
  have h2 : U.heap[n + 1]? = some (.cells #[u, v] T (0, 0)) := by
    rw [← hU, ← hn]
    show ((W0.alloc (.cells #[x, y] T)).alloc (.cells #[u, v] T)).heap[W0.heap.size + 1]? = _
    have := heap_alloc_new (W0.alloc (.cells #[x, y] T)) (.cells #[u, v] T)
    simpa using this
  simp [World.cell?, h1, h2]
end Go.Proofs.Ytbgilngpkogapaa.ti
