/-
  PREFIXES IN MEMORY: a row of them of one's own; a row that came in.
-/
import Derived.Test.YtebogllfjhiblaaDoorNUni2
import Derived.WalkSmall
namespace Go.Proofs.YtebogllfjhiblaaDoor
set_option linter.unusedVariables false
open Go.RowKit
/-- A prefix's cells. -/
def cellsP (p : Nat × Int) : List Value := [.int .u32 p.1, .int .i64 p.2]
def rowP (l : List (Nat × Int)) : List Value := l.flatMap cellsP
theorem rowP_length (l : List (Nat × Int)) : (rowP l).length = l.length * 2 := by
  induction l with
  | nil => rfl
  | cons p l ih => unfold rowP at ih ⊢; rw [List.flatMap_cons, List.length_append, ih]; simp [cellsP]; omega
theorem rowP_append (l m : List (Nat × Int)) : rowP (l ++ m) = rowP l ++ rowP m := by unfold rowP; rw [List.flatMap_append]
theorem rowP_one (p : Nat × Int) : rowP [p] = cellsP p := by simp [rowP]
theorem rowP_get {l : List (Nat × Int)} {j : Nat} {p : Nat × Int} (h : l[j]? = some p) : (rowP l)[j * 2]? = some (.int .u32 p.1) ∧ (rowP l)[j * 2 + 1]? = some (.int .i64 p.2) := by
  induction l generalizing j with
  | nil => simp at h
  | cons q l ih =>
    have e : rowP (q :: l) = .int .u32 q.1 :: .int .i64 q.2 :: rowP l := rfl
    rw [e]
    match j, h with
    | 0, h => simp at h; subst h; exact ⟨rfl, rfl⟩
    | j + 1, h =>
      have := ih (by simpa using h)
      rw [show (j + 1) * 2 = j * 2 + 1 + 1 by omega, show j * 2 + 1 + 1 + 1 = j * 2 + 1 + 1 + 1 from rfl]
      simpa using this
theorem rowP_one_cell {l : List (Nat × Int)} : ∀ u ∈ rowP l, u.oneCell' = true := fun u hu => by
  obtain ⟨p, _, hp⟩ := List.mem_flatMap.1 hu
  simp [cellsP] at hp
  rcases hp with rfl | rfl <;> rfl
/-- A slice of prefixes over memory of one's own, at or above base. -/
def OwnP (W : World) (base : Nat) (v : Value) (l : List (Nat × Int)) : Prop := W.ownsRow base 24 2 v l.length (rowP l)
theorem OwnP.nil (W : World) (base : Nat) : OwnP W base (.slice none 0 0) [] := World.ownsRow_nil _ _ _ _
theorem OwnP.form {W : World} {base : Nat} {v : Value} {l : List (Nat × Int)} (h : OwnP W base v l) : (v = .slice none 0 0 ∧ l = []) ∨ ∃ g cap, v = .slice (some ⟨g, 0, none⟩) l.length cap ∧ base ≤ g ∧ g < W.heap.size ∧ l.length ≤ cap ∧ cap ≤ maxLen := by
  rcases h.2 with ⟨e, hl⟩ | ⟨g, cap, cur, e, hg, hh, hn, hm, _⟩
  · exact .inl ⟨e, List.eq_nil_of_length_eq_zero hl⟩
  · exact .inr ⟨g, cap, e, hg, (Array.getElem?_eq_some_iff.1 hh).1, hn, hm⟩
theorem OwnP.below {W W' : World} {base B : Nat} {v : Value} {l : List (Nat × Int)} (h : OwnP W base v l) (hb : Below B W W') (hB : W.heap.size ≤ B) : OwnP W' base v l := by
  refine ⟨h.1, ?_⟩
  rcases h.2 with h2 | ⟨g, cap, cur, e, hg, hh, r⟩
  · exact .inl h2
  · have hlt := (Array.getElem?_eq_some_iff.1 hh).1
    exact .inr ⟨g, cap, cur, e, hg, by rw [hb.block g (by omega)]; exact hh, r⟩
theorem OwnP.alloc {W : World} {base : Nat} {v : Value} {l : List (Nat × Int)} (h : OwnP W base v l) (o : Obj) : OwnP (W.alloc o) base v l := World.ownsRow.alloc h o
theorem OwnP.pop {W : World} {base g cap : Nat} {l : List (Nat × Int)} {p : Nat × Int} (h : OwnP W base (.slice (some ⟨g, 0, none⟩) (l.length + 1) cap) (l ++ [p])) : OwnP W base (.slice (some ⟨g, 0, none⟩) l.length cap) l := by
  unfold OwnP at h ⊢
  rw [rowP_append, List.length_append, List.length_singleton] at h
  exact ownsRow_pop (rowP_length l) h
theorem OwnP.cell {W : World} {base g n cap : Nat} {l : List (Nat × Int)} (h : OwnP W base (.slice (some ⟨g, 0, none⟩) n cap) l) {j : Nat} {p : Nat × Int} (hj : l[j]? = some p) : W.cell? ⟨g, j * 2, none⟩ = some (.int .u32 p.1) ∧ W.cell? ⟨g, j * 2 + 1, none⟩ = some (.int .i64 p.2) := by
  have hr := rowP_get hj
  have hadd : ∀ k, (⟨g, 0, none⟩ : Addr).add k = ⟨g, k, none⟩ := fun k => by unfold Addr.add; split <;> simp_all
  have h0 := World.ownsRow.cells h (g := g) rfl _ _ hr.1
  have h1 := World.ownsRow.cells h (g := g) rfl _ _ hr.2
  rw [hadd] at h0 h1
  exact ⟨h0, h1⟩
/-- A slice of prefixes that is read: it lies below n₀. -/
def RdP (n₀ : Nat) (W : World) (a : Option Addr) (l : List (Nat × Int)) : Prop := 0 < l.length → ∃ b off, a = some ⟨b, off, none⟩ ∧ b < n₀ ∧ ∀ j p, l[j]? = some p → W.cell? ⟨b, off + j * 2, none⟩ = some (.int .u32 p.1) ∧ W.cell? ⟨b, off + j * 2 + 1, none⟩ = some (.int .i64 p.2)
theorem RdP.below {n₀ : Nat} {W W' : World} {a : Option Addr} {l : List (Nat × Int)} (h : RdP n₀ W a l) {B : Nat} (hb : Below B W W') (hB : n₀ ≤ B) : RdP n₀ W' a l := fun hl => by
  obtain ⟨b, off, e, hbn, hc⟩ := h hl
  exact ⟨b, off, e, hbn, fun j p hj => ⟨keepC hb (by show b < B; omega) (hc j p hj).1, keepC hb (by show b < B; omega) (hc j p hj).2⟩⟩
theorem RdP.mono {n₀ n₁ : Nat} {W : World} {a : Option Addr} {l : List (Nat × Int)} (h : RdP n₀ W a l) (hn : n₀ ≤ n₁) : RdP n₁ W a l := fun hl => by
  obtain ⟨b, off, e, hbn, hc⟩ := h hl
  exact ⟨b, off, e, by omega, hc⟩
theorem OwnP.rd {W : World} {base n : Nat} {a : Option Addr} {cap : Nat} {l : List (Nat × Int)} (h : OwnP W base (.slice a n cap) l) : RdP W.heap.size W a l := fun hl => by
  rcases h.form with ⟨_, e⟩ | ⟨g, c, e, _, hg, _⟩
  · subst e; simp at hl
  · injection e with e1 e2 e3
    subst e1
    exact ⟨g, 0, rfl, hg, fun j p hj => by have := h.cell hj; simpa using this⟩
end Go.Proofs.YtebogllfjhiblaaDoor
