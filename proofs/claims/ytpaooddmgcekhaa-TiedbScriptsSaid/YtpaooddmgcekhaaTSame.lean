/-
  ARE TWO LISTS OF HEADS THE SAME (selvageref03.SameHeads).
-/
import Derived.Test.YtpaooddmgcekhaaTMem
namespace Go.Proofs.Ytpaooddmgcekhaa.ti
set_option linter.unusedSimpArgs false
set_option linter.unusedVariables false
open Go.RowKit
theorem mid_cell {W : World} {g o : Nat} {cs : List Value} (h : W.rangeAt g o cs) (i : Nat) {v : Value} (hi : cs[i]? = some v) : W.cell? ⟨g, o + i, none⟩ = some v := h i v hi
theorem mid_cell0 {W : World} {g o : Nat} {cs : List Value} (h : W.rangeAt g o cs) {v : Value} (hi : cs[0]? = some v) : W.cell? ⟨g, o, none⟩ = some v := h 0 v hi
theorem eq_id (x y : TId) (W : World) : (Op.equalIn 10000 33 (.agg #[.int .i64 x.d, .int .i64 x.o, .int .i64 x.k, .int .i64 x.n]) (.agg #[.int .i64 y.d, .int .i64 y.o, .int .i64 y.k, .int .i64 y.n])).run Try.prog W = .ok (decide (x = y)) W := by
  go_simp
  repeat' split
  all_goals simp_all [TId.ext_iff]
set_option maxRecDepth 100000 in
theorem eq_head (x y : THd) (W : World) : (Op.equalIn 10000 35 (.agg #[.int .i64 x.id.d, .int .i64 x.id.o, .int .i64 x.id.k, .int .i64 x.id.n, .int .i64 x.seq, .int .i64 x.life]) (.agg #[.int .i64 y.id.d, .int .i64 y.id.o, .int .i64 y.id.k, .int .i64 y.id.n, .int .i64 y.seq, .int .i64 y.life])).run Try.prog W = .ok (decide (x = y)) W := by
  go_simp
  repeat' split
  all_goals simp_all [THd.ext_iff, TId.ext_iff]
/-- Two lists are alike so far. -/
def AlkT (l m : List THd) (k : Nat) : Prop := ∀ i, i < k → l[i]? = m[i]?
theorem AlkT.all {l m : List THd} (h : AlkT l m l.length) (hl : l.length = m.length) : l = m := List.ext_getElem? fun i => by
  by_cases hi : i < l.length
  · exact h i hi
  · rw [List.getElem?_eq_none (by omega), List.getElem?_eq_none (by omega)]
theorem AlkT.next {l m : List THd} {k : Nat} {p q : THd} (h : AlkT l m k) (hp : l[k]? = some p) (hq : m[k]? = some q) (e : p = q) : AlkT l m (k + 1) := fun i hi => by
  by_cases h1 : i = k
  · subst h1; rw [hp, hq, e]
  · exact h i (by omega)
theorem not_alk {l m : List THd} {k : Nat} {p q : THd} (hp : l[k]? = some p) (hq : m[k]? = some q) (e : p ≠ q) : l ≠ m := by
  rintro rfl
  rw [hp] at hq
  cases hq
  exact e rfl
section
attribute [local go_sem high] eq_head eq_id
end
end Go.Proofs.Ytpaooddmgcekhaa.ti
