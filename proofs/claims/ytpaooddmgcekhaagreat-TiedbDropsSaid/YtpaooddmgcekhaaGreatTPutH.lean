/-
  A head of a row of one's own is stored anew.
-/
import Derived.Test.YtpaooddmgcekhaaGreatTIns
import Derived.Laws.OwnMore
namespace Go.Proofs.YtpaooddmgcekhaaGreat.ti
set_option linter.unusedSimpArgs false
set_option linter.unusedVariables false
open Go.RowKit
theorem rowT_set : ∀ {l : List THd} {j : Nat} {x : THd} (_ : l[j]? = some x) (y : THd), rowT (l.set j y) = ((((((rowT l).set (j * 6) (.int .i64 y.id.d)).set (j * 6 + 1) (.int .i64 y.id.o)).set (j * 6 + 2) (.int .i64 y.id.k)).set (j * 6 + 3) (.int .i64 y.id.n)).set (j * 6 + 4) (.int .i64 y.seq)).set (j * 6 + 5) (.int .i64 y.life)
  | [], j, x, hx, _ => by simp at hx
  | p :: l, 0, x, hx, y => by
    rw [List.set_cons_zero, rowT_cons, rowT_cons]
    rfl
  | p :: l, j + 1, x, hx, y => by
    rw [List.set_cons_succ, rowT_cons, rowT_cons, rowT_set (by simpa using hx) y]
    rw [show (j + 1) * 6 = j * 6 + 6 by omega, show j * 6 + 6 + 1 = j * 6 + 1 + 6 by omega, show j * 6 + 6 + 2 = j * 6 + 2 + 6 by omega, show j * 6 + 6 + 3 = j * 6 + 3 + 6 by omega, show j * 6 + 6 + 4 = j * 6 + 4 + 6 by omega, show j * 6 + 6 + 5 = j * 6 + 5 + 6 by omega]
    rfl
theorem OwnH.at0 {T : TypeId} {W : World} {base g o n c : Nat} {l : List THd} (h : OwnH T W base (.slice (some ⟨g, o, none⟩) n c) l) : o = 0 ∧ base ≤ g ∧ g < W.heap.size := by
  rcases h.form with ⟨e, _⟩ | ⟨g', cap, e, h1, h2, _⟩
  · cases e
  · cases e; exact ⟨rfl, h1, h2⟩
theorem OwnH.frozen {T : TypeId} {W : World} {base g o n c : Nat} {l : List THd} (h : OwnH T W base (.slice (some ⟨g, o, none⟩) n c) l) (j : Nat) : W.frozen? ⟨g, j, none⟩ = false := by
  obtain ⟨rfl, _, _⟩ := h.at0
  have hl : n = l.length := by rcases h.form with ⟨e, _⟩ | ⟨g', cap, e, h1, h2, _⟩ <;> cases e; rfl
  subst hl
  exact World.ownsRow.frozenAt h j
theorem OwnH.put {T : TypeId} {W : World} {base g o n c : Nat} {l : List THd} (h : OwnH T W base (.slice (some ⟨g, o, none⟩) n c) l) {j : Nat} {x : THd} (hx : l[j]? = some x) (y : THd) :
    OwnH T ((((((W.setCell ⟨g, o + j * 6, none⟩ (.int .i64 y.id.d)).setCell ⟨g, o + j * 6 + 1, none⟩ (.int .i64 y.id.o)).setCell ⟨g, o + j * 6 + 2, none⟩ (.int .i64 y.id.k)).setCell ⟨g, o + j * 6 + 3, none⟩ (.int .i64 y.id.n)).setCell ⟨g, o + j * 6 + 4, none⟩ (.int .i64 y.seq)).setCell ⟨g, o + j * 6 + 5, none⟩ (.int .i64 y.life)) base (.slice (some ⟨g, o, none⟩) n c) (l.set j y) := by
  obtain ⟨rfl, _, _⟩ := h.at0
  have hl : n = l.length := by rcases h.form with ⟨e, _⟩ | ⟨g', cap, e, h1, h2, _⟩ <;> cases e; rfl
  subst hl
  unfold OwnH at h ⊢
  rw [rowT_set hx, List.length_set]
  simp only [Nat.zero_add]
  exact (World.ownsRow.stored (World.ownsRow.stored (World.ownsRow.stored (World.ownsRow.stored (World.ownsRow.stored (World.ownsRow.stored h (j * 6) (.int .i64 y.id.d)).1 (j * 6 + 1) (.int .i64 y.id.o)).1 (j * 6 + 2) (.int .i64 y.id.k)).1 (j * 6 + 3) (.int .i64 y.id.n)).1 (j * 6 + 4) (.int .i64 y.seq)).1 (j * 6 + 5) (.int .i64 y.life)).1
end Go.Proofs.YtpaooddmgcekhaaGreat.ti
