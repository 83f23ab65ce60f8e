/-
  HEADS in memory: rows of one's own.
-/
import Derived.Test.YtpaooddmgcekhaaGreatTRef
import Derived.Laws.Rows
import Derived.Laws.AppendOwn
namespace Go.Proofs.YtpaooddmgcekhaaGreat.ti
set_option linter.unusedSimpArgs false
set_option linter.unusedVariables false
open Go.RowKit
def rowT (l : List THd) : List Value := l.flatMap cellsT
theorem cellsT_length (p : THd) : (cellsT p).length = 6 := rfl
theorem rowT_length (l : List THd) : (rowT l).length = l.length * 6 := by
  induction l with
  | nil => rfl
  | cons p l ih => unfold rowT at ih ⊢; rw [List.flatMap_cons, List.length_append, ih, cellsT_length]; simp; omega
theorem rowT_append (l m : List THd) : rowT (l ++ m) = rowT l ++ rowT m := by unfold rowT; rw [List.flatMap_append]
theorem rowT_one (p : THd) : rowT [p] = cellsT p := by simp [rowT]
theorem rowT_cons (p : THd) (l : List THd) : rowT (p :: l) = .int .i64 p.id.d :: .int .i64 p.id.o :: .int .i64 p.id.k :: .int .i64 p.id.n :: .int .i64 p.seq :: .int .i64 p.life :: rowT l := rfl
theorem rowT_get {l : List THd} {j : Nat} {p : THd} (h : l[j]? = some p) : (rowT l)[j * 6]? = some (.int .i64 p.id.d) ∧ (rowT l)[j * 6 + 1]? = some (.int .i64 p.id.o) ∧ (rowT l)[j * 6 + 2]? = some (.int .i64 p.id.k) ∧ (rowT l)[j * 6 + 3]? = some (.int .i64 p.id.n) ∧ (rowT l)[j * 6 + 4]? = some (.int .i64 p.seq) ∧ (rowT l)[j * 6 + 5]? = some (.int .i64 p.life) := by
  induction l generalizing j with
  | nil => simp at h
  | cons q l ih =>
    rw [rowT_cons]
    match j, h with
    | 0, h => simp at h; subst h; exact ⟨rfl, rfl, rfl, rfl, rfl, rfl⟩
    | j + 1, h =>
      have := ih (by simpa using h)
      rw [show (j + 1) * 6 = j * 6 + 1 + 1 + 1 + 1 + 1 + 1 by omega]
      simpa using this
theorem rowT_one_cell {l : List THd} : ∀ u ∈ rowT l, u.oneCell' = true := fun u hu => by
  obtain ⟨p, _, hp⟩ := List.mem_flatMap.1 hu
  simp [cellsT] at hp
  rcases hp with rfl | rfl | rfl | rfl | rfl | rfl <;> rfl
/-- A slice of heads over memory of one's own (T: the element's type). -/
def OwnH (T : TypeId) (W : World) (base : Nat) (v : Value) (l : List THd) : Prop := W.ownsRow base T 6 v l.length (rowT l)
theorem OwnH.nil (T : TypeId) (W : World) (base : Nat) : OwnH T W base (.slice none 0 0) [] := World.ownsRow_nil _ _ _ _
theorem OwnH.form {T : TypeId} {W : World} {base : Nat} {v : Value} {l : List THd} (h : OwnH T W base v l) : (v = .slice none 0 0 ∧ l = []) ∨ ∃ g cap, v = .slice (some ⟨g, 0, none⟩) l.length cap ∧ base ≤ g ∧ g < W.heap.size ∧ l.length ≤ cap ∧ cap ≤ maxLen := by
  rcases h.2 with ⟨e, hl⟩ | ⟨g, cap, cur, e, hg, hh, hn, hm, _⟩
  · exact .inl ⟨e, List.eq_nil_of_length_eq_zero hl⟩
  · exact .inr ⟨g, cap, e, hg, (Array.getElem?_eq_some_iff.1 hh).1, hn, hm⟩
theorem OwnH.shape {T : TypeId} {W : World} {base : Nat} {v : Value} {l : List THd} (h : OwnH T W base v l) : ∃ a c, v = .slice a l.length c := by
  rcases h.form with ⟨e, hs⟩ | ⟨g, cap, e, _⟩
  · exact ⟨none, 0, by rw [e, hs]; rfl⟩
  · exact ⟨_, _, e⟩
theorem OwnH.same {T : TypeId} {W W' : World} {base : Nat} {v : Value} {l : List THd} (h : OwnH T W base v l) (k : ∀ g, v.ownBlock = some g → W'.heap[g]? = W.heap[g]?) : OwnH T W' base v l := by
  refine ⟨h.1, ?_⟩
  rcases h.2 with h2 | ⟨g, cap, cur, e, hg, hh, r⟩
  · exact .inl h2
  · exact .inr ⟨g, cap, cur, e, hg, (k g (by rw [e]; rfl)).trans hh, r⟩
theorem OwnH.mono {T : TypeId} {W : World} {base b : Nat} {v : Value} {l : List THd} (h : OwnH T W base v l) (hb : b ≤ base) : OwnH T W b v l := by
  refine ⟨h.1, ?_⟩
  rcases h.2 with h2 | ⟨g, cap, cur, e, hg, r⟩
  · exact .inl h2
  · exact .inr ⟨g, cap, cur, e, by omega, r⟩
theorem OwnH.below {T : TypeId} {W W' : World} {base : Nat} {v : Value} {l : List THd} (h : OwnH T W base v l) (k : Below W.heap.size W W') : OwnH T W' base v l := h.same fun g hg => k.block g (World.ownsRow.lt h g hg).2
theorem OwnH.drew {T : TypeId} {W : World} {base : Nat} {v : Value} {l : List THd} (h : OwnH T W base v l) : OwnH T W.drew base v l := h.same fun _ _ => rfl
theorem OwnH.snoc {T : TypeId} {W : World} {base : Nat} {v : Value} {l : List THd} {o : THd} (h : W.ownsRow base T 6 v (l.length + 1) (rowT l ++ cellsT o)) : OwnH T W base v (l ++ [o]) := by
  unfold OwnH
  rw [rowT_append, rowT_one, List.length_append]
  exact h
/-- A row of heads that may be read: one's own, or one that came in. -/
def RdT (W : World) (a : Option Addr) (l : List THd) : Prop :=
  ∀ (j : Nat) (p : THd), l[j]? = some p → ∃ g o, a = some ⟨g, o, none⟩ ∧ g < W.heap.size ∧ W.rangeAt g (o + j * 6) (cellsT p)
theorem RdT.below {W W' : World} {a : Option Addr} {l : List THd} (h : RdT W a l) (k : Below W.heap.size W W') : RdT W' a l := fun j p hj => by
  obtain ⟨g, o, e, hg, hc⟩ := h j p hj
  exact ⟨g, o, e, Nat.lt_of_lt_of_le hg k.size, fun i v hv => (k.cell (p := ⟨g, _, none⟩) hg).trans (hc i v hv)⟩
theorem OwnH.rd {T : TypeId} {W : World} {base : Nat} {a : Option Addr} {n cap : Nat} {l : List THd} (h : OwnH T W base (.slice a n cap) l) : RdT W a l := fun j p hj => by
  rcases h.form with ⟨_, hl⟩ | ⟨g, c, e, hg, hw, _, _⟩
  · rw [hl] at hj; simp at hj
  · injection e with e1 e2 e3
    subst e1
    refine ⟨g, 0, rfl, hw, fun i v hv => ?_⟩
    have hr := rowT_get hj
    have hadd : ∀ k, (⟨g, 0, none⟩ : Addr).add k = ⟨g, k, none⟩ := fun k => by unfold Addr.add; split <;> simp_all
    have key : (rowT l)[j * 6 + i]? = some v := by
      have hi : i < 6 := by have := (List.getElem?_eq_some_iff.1 hv).1; rwa [cellsT_length] at this
      match i, hi, hv with
      | 0, _, hv => simp [cellsT] at hv; subst hv; exact hr.1
      | 1, _, hv => simp [cellsT] at hv; subst hv; exact hr.2.1
      | 2, _, hv => simp [cellsT] at hv; subst hv; exact hr.2.2.1
      | 3, _, hv => simp [cellsT] at hv; subst hv; exact hr.2.2.2.1
      | 4, _, hv => simp [cellsT] at hv; subst hv; exact hr.2.2.2.2.1
      | 5, _, hv => simp [cellsT] at hv; subst hv; exact hr.2.2.2.2.2
    have h0 := World.ownsRow.cells h (g := g) rfl _ _ key
    rw [hadd] at h0
    rw [Nat.zero_add]
    exact h0
/-- One head's cells. -/
theorem RdT.at {W : World} {a : Option Addr} {l : List THd} (h : RdT W a l) {j : Nat} {p : THd} (hj : l[j]? = some p) : ∃ g o, a = some ⟨g, o, none⟩ ∧ g < W.heap.size ∧ W.rangeAt g (o + j * 6) [.int .i64 p.id.d, .int .i64 p.id.o, .int .i64 p.id.k, .int .i64 p.id.n, .int .i64 p.seq, .int .i64 p.life] ∧ W.rangeAt g (o + j * 6) [.int .i64 p.id.d, .int .i64 p.id.o, .int .i64 p.id.k, .int .i64 p.id.n] := by
  obtain ⟨g, o, e, hg, hc⟩ := h j p hj
  refine ⟨g, o, e, hg, hc, fun i v hv => hc i v ?_⟩
  have hi : i < 4 := by have := (List.getElem?_eq_some_iff.1 hv).1; simpa using this
  match i, hi, hv with
  | 0, _, hv => exact hv
  | 1, _, hv => exact hv
  | 2, _, hv => exact hv
  | 3, _, hv => exact hv
theorem THd.ext_iff {a b : THd} : a = b ↔ a.id = b.id ∧ a.seq = b.seq ∧ a.life = b.life := ⟨fun h => by subst h; exact ⟨rfl, rfl, rfl⟩, fun h => by cases a; cases b; simp_all⟩
instance : DecidableEq THd := fun a b => decidable_of_iff (a.id = b.id ∧ a.seq = b.seq ∧ a.life = b.life) THd.ext_iff.symm
end Go.Proofs.YtpaooddmgcekhaaGreat.ti
