/-
  THE DOCUMENT'S numbers, ids, heads: number, Compare, far, Newer, First, Last, Right, After.
-/
import Derived.Test.YtbgilngpkogapaaTMath
import Derived.Test.YtbgilngpkogapaaProg
import Derived.WalkKit
import Derived.Lib.Hide
import Derived.Below
import Derived.BigQuiet
import Derived.BigRegion
import Derived.Deep.QuietTactic
import Derived.IntWalk
import Derived.OwnWalk
import Derived.Deep.MidRow
import Derived.StillTailTactics
namespace Go.Proofs.Ytbgilngpkogapaa.ti
set_option linter.unusedSimpArgs false
set_option linter.unusedVariables false
open Go.RowKit
def cellsI (x : TId) : List Value := [.int .i64 x.d, .int .i64 x.o, .int .i64 x.k, .int .i64 x.n]
def cellsT (x : THd) : List Value := [.int .i64 x.id.d, .int .i64 x.id.o, .int .i64 x.id.k, .int .i64 x.id.n, .int .i64 x.seq, .int .i64 x.life]
/-- An int is one of 64 bits. -/
def In64 (a : Int) : Prop := -9223372036854775808 ≤ a ∧ a ≤ 9223372036854775807
theorem heap_set_list {W : World} {k j : Nat} {v : Value} {cs : List Value} {T : TypeId} (h : W.heap[k]? = some (.cells cs.toArray T (0, 0))) : (W.setCell ⟨k, j, none⟩ v).heap[k]? = some (.cells (cs.set j v).toArray T (0, 0)) := by
  rw [heap_setCell_same _ _ _ _ _ _ h]
  simp
theorem set_other {W : World} {k b j : Nat} {v : Value} {o : Obj} (hn : k ≠ b) (h : W.heap[k]? = some o) : (W.setCell ⟨b, j, none⟩ v).heap[k]? = some o := by
  rw [heap_setCell_other _ _ _ _ hn]; exact h
theorem range_list {W : World} {k : Nat} {cs : List Value} {T : TypeId} {fr : Nat × Nat} (h : W.heap[k]? = some (.cells cs.toArray T fr)) : W.rangeAt k 0 cs := by
  intro j v hv
  rw [cell_of_row W k _ _ _ _ h, Nat.zero_add]
  simpa using hv
theorem results_row1 {P : Program} {fn : Func} {tmps : Array Value} {w : World} {a t b : Nat} {cs : List Value} {d : TypeDesc} (hf : fn.results = #[.cell a t]) (ha : tmps.getD a undef = .pointer (some ⟨b, 0, none⟩)) (hc : w.rangeAt b 0 cs)
    (hu : P.underlying t = some d) (hd : d.isRow = true) (hi : (P.info? t).map (·.size) = some cs.length) : (results fn tmps).run P w = .ok (.agg cs.toArray) w := by
  unfold results
  rw [hf]
  have h0 := run_loadVar_mid w b 0 t cs d hc hu hd hi
  have ha' : tmps[a]?.getD undef = .pointer (some ⟨b, 0, none⟩) := by simpa using ha
  simp [ha', asAddr, h0, Result.andThen_ok]
theorem results_row2 {P : Program} {fn : Func} {tmps : Array Value} {w : World} {a t s b : Nat} {cs : List Value} {d : TypeDesc} (hf : fn.results = #[.cell a t, .tmp s]) (ha : tmps.getD a undef = .pointer (some ⟨b, 0, none⟩)) (hc : w.rangeAt b 0 cs)
    (hu : P.underlying t = some d) (hd : d.isRow = true) (hi : (P.info? t).map (·.size) = some cs.length) : (results fn tmps).run P w = .ok (.tuple #[.agg cs.toArray, tmps.getD s undef]) w := by
  unfold results
  rw [hf]
  have h0 := run_loadVar_mid w b 0 t cs d hc hu hd hi
  have ha' : tmps[a]?.getD undef = .pointer (some ⟨b, 0, none⟩) := by simpa using ha
  simp [ha', asAddr, h0, Result.andThen_ok]
theorem ret_dec {p : Prop} [Decidable p] {b : Bool} (h : p ↔ b = true) : Ending.returned (.bool b) = Ending.returned (.bool (decide p)) := by
  by_cases q : p
  · rw [decide_eq_true q, h.1 q]
  · rw [decide_eq_false q]
    cases b
    · rfl
    · exact absurd (h.2 rfl) q
end Go.Proofs.Ytbgilngpkogapaa.ti
