/-
  PREFIXES: the two halves of a larger one; what a list of joined prefixes and one more are together.
-/
import Derived.Test.YtebogllfjhiblaaDoorNCmp
import Derived.Laws.Rows
namespace Go.Proofs.YtebogllfjhiblaaDoor
set_option linter.unusedVariables false
open Go.RowKit
/-- The prefix whose two halves these are. -/
def unionP (p q : Nat × Int) : Option (Nat × Int) := if rightB (p.2 - 1) = true ∧ p ≠ q ∧ p.2 = q.2 ∧ coversP (cutP p.1 (p.2 - 1)) q = true then some (cutP p.1 (p.2 - 1)) else none
def addR : List (Nat × Int) → Nat × Int → List (Nat × Int)
  | [], p => [p]
  | q :: st, p => if coversP q p = true then q :: st else match unionP q p with
    | some r => addR st r
    | none => p :: q :: st
theorem boxes2 {w : World} {cs ds es : Array Value} {t u s : TypeId} : Below w.heap.size w (((w.alloc (.cells cs t)).alloc (.cells ds u)).alloc (.cells es s)) :=
  (((Below.refl _ _).alloc (Nat.le_refl _) _).alloc (by simp) _).alloc (by simp; omega) _
theorem cutP_lt {n : Nat} (hn : n < 4294967296) (b : Int) : (cutP n b).1 < 4294967296 := by show n - n % sizeP b < _; omega
/-- A block that holds one prefix. -/
def Bx (W : World) (k : Nat) (a b : Value) : Prop := W.heap[k]? = some (.cells #[a, b] 24 (0, 0))
theorem Bx.lt {W : World} {k : Nat} {a b : Value} (h : Bx W k a b) : k < W.heap.size := (Array.getElem?_eq_some_iff.1 h).1
theorem Bx.new (w : World) (a b : Value) : Bx (w.alloc (.cells #[a, b] 24)) w.heap.size a b := heap_alloc_new w _
theorem Bx.alloc {W : World} {k : Nat} {a b : Value} (h : Bx W k a b) (o : Obj) : Bx (W.alloc o) k a b := by
  have hl := h.lt
  unfold Bx at h ⊢
  rw [heap_alloc_old W o hl, h]
theorem Bx.keep {B : Nat} {W W' : World} {k : Nat} {a b : Value} (h : Bx W k a b) (hb : Go.RowKit.Below B W W') (hk : k < B) : Bx W' k a b := by
  unfold Bx at h ⊢
  rw [hb.block k hk, h]
theorem Bx.grown {W W' : World} {k : Nat} {a b : Value} {r : Option Nat} (h : Bx W k a b) (hg : W.grownBy W' r) (hr : some k ≠ r) : Bx W' k a b := by
  have hl := h.lt
  unfold Bx at h ⊢
  rw [hg.block k hl hr, h]
theorem Bx.cells {W : World} {k : Nat} {a b : Value} (h : Bx W k a b) : W.cell? ⟨k, 0, none⟩ = some a ∧ W.cell? ⟨k, 1, none⟩ = some b ∧ W.frozen? ⟨k, 0, none⟩ = false ∧ W.frozen? ⟨k, 1, none⟩ = false := by
  unfold Bx at h
  simp [World.cell?, World.frozen?, h]
theorem Bx.range {W : World} {k : Nat} {a b : Value} (h : Bx W k a b) : W.rangeAt k 0 [a, b] := by
  obtain ⟨h0, h1, _, _⟩ := h.cells
  intro i u hi
  match i, hi with
  | 0, hi => simp at hi; subst hi; simpa using h0
  | 1, hi => simp at hi; subst hi; simpa using h1
  | i + 2, hi => simp at hi
theorem Bx.set {W : World} {k : Nat} {a b : Value} (h : Bx W k a b) (x y : Value) : Bx ((W.setCell ⟨k, 0, none⟩ x).setCell ⟨k, 1, none⟩ y) k x y := by
  unfold Bx at h ⊢
  have h1 := heap_setCell_same W k 0 _ _ x h
  rw [heap_setCell_same _ k 1 _ _ y h1]
  rfl
theorem sizePx : (Tryd.prog.info? 24).map (·.size) = some 2 := by kernel_rfl
theorem results_bx {fn : Func} {tmps : Array Value} {W : World} {a s k : Nat} {x y : Value} (hf : fn.results = #[.cell a 24, .tmp s]) (ha : tmps.getD a undef = .pointer (some ⟨k, 0, none⟩)) (h : Bx W k x y) :
    (results fn tmps).run Tryd.prog W = .ok (.tuple #[.agg #[x, y], tmps.getD s undef]) W := by
  unfold results
  rw [hf]
  have h0 := run_loadVar_mid W k 0 24 [x, y] _ h.range Tryd.underlying24 rfl sizePx
  have ha' : tmps[a]?.getD undef = .pointer (some ⟨k, 0, none⟩) := by simpa using ha
  simp [ha', asAddr, h0, Result.andThen_ok]
end Go.Proofs.YtebogllfjhiblaaDoor
