/-
  ShaKeys: the walk of the law.
-/
import Derived.Test.YtmmocnokgcgmnaaDoorHEq
import Derived.Test.YtmmocnokgcgmnaaDoorHZeros
namespace Go.Proofs.YtmmocnokgcgmnaaDoor
open Go.RowKit
theorem mac_zeros {key : List Nat} {n : Nat} (h : key.length + n ≤ 64) (b : List Nat) : macL (key ++ List.replicate n 0) b = macL key b := by
  have e : full (key ++ List.replicate n 0) = full key := by
    unfold full keyL
    rw [if_neg (by simp; omega), if_neg (by omega), List.append_assoc, List.length_append, List.length_replicate, List.replicate_append_replicate, show n + (64 - (key.length + n)) = 64 - key.length by omega]
  unfold macL
  rw [e]
/-- What is owned can be read, empty or not. -/
theorem own_rd0 {w : World} {base : Nat} {v : Value} {l : List Nat} {n : Nat} (h : w.ownsRow base 5 1 v n (u8s l)) (hn : l.length = n) : ∃ ad c, v = .slice ad n c ∧ n ≤ c ∧ RdN w.heap.size w ad l := by
  subst hn
  by_cases h0 : 0 < l.length
  · obtain ⟨g, c, rfl, h1, _, _, h4⟩ := own_rd h h0
    exact ⟨_, c, rfl, h1, h4⟩
  · obtain rfl : l = [] := List.eq_nil_of_length_eq_zero (by omega)
    rcases h.2 with ⟨rfl, _⟩ | ⟨g, cap, cur, rfl, _, _, h1, _⟩
    · exact ⟨none, 0, rfl, Nat.le_refl _, RdN.nil _ _ _⟩
    · exact ⟨_, cap, rfl, h1, RdN.nil _ _ _⟩
theorem own_empty (w : World) (base : Nat) (hb : base ≤ w.heap.size) : (w.alloc (.cells #[] 5)).ownsRow base 5 1 (.slice (some ⟨w.heap.size, 0, none⟩) 0 0) 0 [] :=
  ⟨rfl, .inr ⟨w.heap.size, 0, #[], rfl, hb, heap_alloc_new w _, Nat.le_refl _, Nat.zero_le _, rfl, rfl⟩⟩
end Go.Proofs.YtmmocnokgcgmnaaDoor
