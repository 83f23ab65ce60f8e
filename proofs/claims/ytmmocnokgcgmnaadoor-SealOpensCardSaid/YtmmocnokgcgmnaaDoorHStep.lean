/-
  LOADS AND STORES OF A WHOLE ARRAY within a fence: in plain regions, and in those that draw.
-/
import Derived.Test.YtmmocnokgcgmnaaDoorHRange
namespace Go.Proofs.YtmmocnokgcgmnaaDoor
open Go.RowKit Go.Shelf
attribute [local go_sem] Oper.semAt_some
variable {F : Fence} {n : Nat} {P : Program} {ops : Array Oper} {rest : List Oper} {o : Oper} {a : Act} {w : World} {K : Act → World → Prop} {Q : Exit → Act → World → Prop} {E : Prop}

theorem opIn_load_mid (ty : TypeId) (x : Operand) (ho : o.op = .load ty x) (b off : Nat) (hx : a.eval x = .pointer (some ⟨b, off, none⟩)) {cs : List Value} {d : TypeDesc} (hc : w.rangeAt b off cs)
    (hu : P.underlying ty = some d) (hd : d.isRow = true) {m : Nat} (hi : (P.info? ty).map (·.size) = some m) (hm : cs.length = m) (h : K (a.put o.dst (.agg cs.toArray)) w) : o.wpIn F n P a w K Q := by
  have hr := run_loadVar_mid (P := P) w b off ty cs d hc hu hd (by rw [hi, hm])
  unfold Oper.wpIn
  refine ⟨by simp [Oper.about, ho], ?_⟩
  rw [Oper.semAt_plain F _ _ (by rw [ho]; intro c hc'; cases hc')]
  unfold execOp
  simp only [ho, hx, Instr.loadAt, Instr.sureAddr, Sem.run_bind, Sem.run_pure, Result.andThen_ok, hr]
  exact h
theorem Arr.range {w : World} {g : Nat} {t : TypeId} {vs : List Value} (h : Arr w g t vs) : w.rangeAt g 0 vs := fun j v hv => by rw [Nat.zero_add, h.cell]; exact hv
theorem opIn_load_arr (ty : TypeId) (x : Operand) (ho : o.op = .load ty x) (g : Nat) (hx : a.eval x = .pointer (some ⟨g, 0, none⟩)) {t : TypeId} {vs : List Value} {d : TypeDesc} (hg : Arr w g t vs)
    (hu : P.underlying ty = some d) (hd : d.isRow = true) {m : Nat} (hi : (P.info? ty).map (·.size) = some m) (hm : vs.length = m) (h : K (a.put o.dst (.agg vs.toArray)) w) : o.wpIn F n P a w K Q :=
  opIn_load_mid ty x ho g 0 hx hg.range hu hd hi hm h
theorem opIn_store_arr (ty : TypeId) (x y : Operand) (ho : o.op = .store ty x y) (g : Nat) (hx : a.eval x = .pointer (some ⟨g, 0, none⟩)) {vs old : List Value} (hy : a.eval y = .agg vs.toArray) {t : TypeId} (hg : Arr w g t old)
    {m : Nat} (hi : (P.info? ty).map (·.size) = some m) (hm : vs.length = m) (hold : old.length = m) (h1 : vs.toArray.all (·.oneCell') = true)
    (h : ∀ w', Hid (Arr w' g t vs) → Hid (Below g w w') → Hid (w'.heap.size = w.heap.size ∧ ∀ k, k ≠ g → w'.heap[k]? = w.heap[k]?) → K (a.put o.dst undef) w') : o.wpIn F n P a w K Q := by
  have hr := run_storeVar_row (P := P) w g t ty old.toArray vs.toArray hg (by rw [hi, ← hm]; rfl) (by simp; omega) h1
  unfold Oper.wpIn
  refine ⟨by simp [Oper.about, ho], ?_⟩
  rw [Oper.semAt_plain F _ _ (by rw [ho]; intro c hc'; cases hc')]
  unfold execOp
  simp only [ho, hx, hy, Instr.storeAt, Instr.sureAddr, Sem.run_bind, Sem.run_pure, Result.andThen_ok, hr]
  exact h _ (Arr.row hg vs) (below_setRow (Below.refl _ _) (Nat.le_refl _) _) ⟨by simp [World.setRow], fun k hk => setRow_other w g k _ hk⟩
/-- In a region that draws. -/
theorem stepIn_of (hgd : o.guard = none) (h : o.wpIn F n P a w K Q) : if Region.wanted o (yielded ops a.tmps) = true then o.wpIn F n P a w K Q else E := by
  rw [if_pos (by simp [Region.wanted, hgd])]; exact h
end Go.Proofs.YtmmocnokgcgmnaaDoor
