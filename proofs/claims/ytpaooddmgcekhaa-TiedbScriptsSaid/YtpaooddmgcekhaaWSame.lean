/-
  SAME of two lists of heads, of two ties, of two packets.
-/
import Derived.Test.YtpaooddmgcekhaaWCode
namespace Go.Proofs.Ytpaooddmgcekhaa
open Go.RowKit Go.Shelf
set_option linter.unusedVariables false

theorem list_ne {E : Type} {l m : List E} {k : Nat} {x y : E} (hx : l[k]? = some x) (hy : m[k]? = some y) (h : ¬ x = y) : ¬ l = m := fun e => by
  subst e
  rw [hx] at hy
  exact h (Option.some.inj hy)
theorem head_eq {x y : HeadT} (e1 : x.id.dir = y.id.dir) (e2 : x.id.orig = y.id.orig) (e3 : x.id.kind = y.id.kind) (e4 : x.id.nr = y.id.nr) (e5 : x.seq = y.seq) (e6 : x.life = y.life) : x = y := by
  obtain ⟨⟨a, b, c, d⟩, e, f⟩ := x
  obtain ⟨⟨a', b', c', d'⟩, e', f'⟩ := y
  simp only at e1 e2 e3 e4 e5 e6
  subst e1 e2 e3 e4 e5 e6
  rfl
theorem edge_eq {x y : EdgeT} (e1 : x.node = y.node) (e2 : x.level = y.level) (e3 : x.cost = y.cost) : x = y := by
  obtain ⟨a, b, c⟩ := x
  obtain ⟨a', b', c'⟩ := y
  simp only at e1 e2 e3
  subst e1 e2 e3
  rfl
theorem reach_eq {x y : ReachT} (e1 : x.net = y.net) (e2 : x.bits = y.bits) (e3 : x.metric = y.metric) : x = y := by
  obtain ⟨a, b, c⟩ := x
  obtain ⟨a', b', c'⟩ := y
  simp only at e1 e2 e3
  subst e1 e2 e3
  rfl
theorem heads_next {E : Type} {l m : List E} {k : Nat} {x y : E} (h : l.take k = m.take k) (hx : l[k]? = some x) (hy : m[k]? = some y) (e : x = y) : l.take (k + 1) = m.take (k + 1) := by
  rw [List.take_add_one, List.take_add_one, h, hx, hy, e]
end Go.Proofs.Ytpaooddmgcekhaa
