/-
  STRUCTS as blocks of cells: loads and stores of a whole one.
-/
import Derived.Test.YtpaooddmgcekhaaGreatVBase
import Derived.Laws.Rows
import Derived.Laws.CopyOwn
import Derived.WalkSmall
import Derived.Deep.MidRow
namespace Go.Proofs.YtpaooddmgcekhaaGreat.ti
set_option linter.unusedSimpArgs false
set_option linter.unusedVariables false
open Go.RowKit
def Arr (W : World) (g : Nat) (t : TypeId) (vs : List Value) : Prop := W.heap[g]? = some (.cells vs.toArray t (0, 0))
theorem Arr.lt {W : World} {g : Nat} {t : TypeId} {vs : List Value} (h : Arr W g t vs) : g < W.heap.size := (Array.getElem?_eq_some_iff.1 h).1
theorem Arr.cell {W : World} {g : Nat} {t : TypeId} {vs : List Value} (h : Arr W g t vs) (i : Nat) : W.cell? ⟨g, i, none⟩ = vs[i]? := by
  have := cell_of_row W g i vs.toArray t (0, 0) h
  simpa using this
theorem Arr.frozen {W : World} {g : Nat} {t : TypeId} {vs : List Value} (h : Arr W g t vs) (i : Nat) : W.frozen? ⟨g, i, none⟩ = false := by
  unfold Arr at h
  simp [World.frozen?, h]
theorem Arr.new (W : World) (t : TypeId) (vs : List Value) : Arr (W.alloc (.cells vs.toArray t)) W.heap.size t vs := heap_alloc_new W _
theorem Arr.below {W W' : World} {g n₀ : Nat} {t : TypeId} {vs : List Value} (h : Arr W g t vs) (hb : Below n₀ W W') (hg : g < n₀) : Arr W' g t vs := (hb.block g hg).trans h
theorem Arr.alloc {W : World} {g : Nat} {t : TypeId} {vs : List Value} (h : Arr W g t vs) (o : Obj) : Arr (W.alloc o) g t vs := h.below ((Below.refl _ _).alloc (Nat.le_refl _) o) h.lt
theorem Arr.drewN {W : World} {g : Nat} {t : TypeId} {vs : List Value} (h : Arr W g t vs) (n : Nat) : Arr (W.drewN n) g t vs := h
theorem Arr.set {W : World} {g : Nat} {t : TypeId} {vs : List Value} (h : Arr W g t vs) (i : Nat) (v : Value) : Arr (W.setCell ⟨g, i, none⟩ v) g t (vs.set i v) := by
  unfold Arr at h ⊢
  simp [World.setCell, Array.getElem?_modify, h]
theorem Arr.other {W : World} {g g' : Nat} {t : TypeId} {vs : List Value} (h : Arr W g t vs) (hne : g ≠ g') (i : Nat) (v : Value) : Arr (W.setCell ⟨g', i, none⟩ v) g t vs := by
  unfold Arr at h ⊢
  simp [World.setCell, Array.getElem?_modify, h, Ne.symm hne]
theorem Arr.row {W : World} {g : Nat} {t : TypeId} {vs : List Value} (h : Arr W g t vs) (us : List Value) : Arr (W.setRow g us.toArray) g t us := by
  unfold Arr at h ⊢
  simp [World.setRow, Array.getElem?_modify, h]
theorem Arr.range {w : World} {g : Nat} {t : TypeId} {vs : List Value} (h : Arr w g t vs) : w.rangeAt g 0 vs := fun j v hv => by rw [Nat.zero_add, h.cell]; exact hv
section
variable {P : Program}
theorem wpList_load_arr {ops : Array Oper} {rest : List Oper} {o : Oper} {a : Act} {w : World} {Q : Exit → Act → World → Prop} (hgd : o.guard = none) (ty : TypeId) (x : Operand) (ho : o.op = .load ty x)
    (g : Nat) (hx : a.eval x = .pointer (some ⟨g, 0, none⟩)) {t : TypeId} {vs : List Value} {d : TypeDesc} (hg : Arr w g t vs) (hu : P.underlying ty = some d) (hd : (match d with | .struct _ | .array _ _ => true | _ => false) = true)
    {n : Nat} (hi : (P.info? ty).map (·.size) = some n) (hn : vs.length = n)
    (h : wpList P ops Q rest (a.put o.dst (.agg vs.toArray)) w) : wpList P ops Q (o :: rest) a w :=
  wpList_load_row hgd ty x ho g hx t vs.toArray (0, 0) d hg hu hd (by rw [hi, ← hn]; rfl) h

theorem wpList_store_arr {ops : Array Oper} {rest : List Oper} {o : Oper} {a : Act} {w : World} {Q : Exit → Act → World → Prop} (hgd : o.guard = none) (ty : TypeId) (x y : Operand) (ho : o.op = .store ty x y)
    (g : Nat) (hx : a.eval x = .pointer (some ⟨g, 0, none⟩)) {vs old : List Value} (hy : a.eval y = .agg vs.toArray) {t : TypeId} (hg : Arr w g t old) {n : Nat} (hi : (P.info? ty).map (·.size) = some n) (hn : vs.length = n) (ho2 : old.length = n) (h1 : vs.toArray.all (·.oneCell') = true)
    (h : ∀ w', Hid (Arr w' g t vs) → Hid (Below g w w') → w'.heap.size = w.heap.size → Hid (∀ k, k ≠ g → w'.heap[k]? = w.heap[k]?) → wpList P ops Q rest (a.put o.dst undef) w') : wpList P ops Q (o :: rest) a w :=
  wpList_store_row hgd ty x y ho g vs.toArray hx hy t old.toArray hg (by rw [hi, ← hn]; rfl) (by simp; omega) h1
    (h _ (Arr.row hg vs) (below_setRow (Below.refl _ _) (Nat.le_refl _) _) (by simp [World.setRow]) (fun k hk => setRow_other w g k _ hk))

theorem Arr.same {W W' : World} {g g' : Nat} {t : TypeId} {vs : List Value} (h : Arr W g t vs) (hs : ∀ k, k ≠ g' → W'.heap[k]? = W.heap[k]?) (hne : g ≠ g') : Arr W' g t vs := (hs g hne).trans h

theorem results_arr {fn : Func} {tmps : Array Value} {w : World} {p : Tmp} {ty : TypeId} {g : Nat} {t : TypeId} {vs : List Value} {d : TypeDesc} {n : Nat} (h : fn.results = #[.cell p ty]) (hp : tmps.getD p undef = .pointer (some ⟨g, 0, none⟩)) (hg : Arr w g t vs)
    (hu : P.underlying ty = some d) (hd : (match d with | .struct _ | .array _ _ => true | _ => false) = true) (hi : (P.info? ty).map (·.size) = some n) (hn : vs.length = n) :
    (results fn tmps).run P w = .ok (.agg vs.toArray) w := results_cell_row h tmps w g t vs.toArray (0, 0) d hp hg hu hd (by rw [hi, ← hn]; rfl)

theorem results_cell2 {P : Program} {fn : Func} {tmps : Array Value} {w : World} {a t s g : Nat} {vs : List Value} {d : TypeDesc} {T : TypeId} (hf : fn.results = #[.cell a t, .tmp s]) (ha : tmps.getD a undef = .pointer (some ⟨g, 0, none⟩)) (hc : Arr w g T vs)
    (hu : P.underlying t = some d) (hd : d.isRow = true) (hi : (P.info? t).map (·.size) = some vs.length) : (results fn tmps).run P w = .ok (.tuple #[.agg vs.toArray, tmps.getD s undef]) w := by
  unfold results
  rw [hf]
  have h0 := run_loadVar_mid w g 0 t vs d hc.range hu hd hi
  have ha' : tmps[a]?.getD undef = .pointer (some ⟨g, 0, none⟩) := by simpa using ha
  simp [ha', asAddr, h0, Result.andThen_ok]
end
end Go.Proofs.YtpaooddmgcekhaaGreat.ti
