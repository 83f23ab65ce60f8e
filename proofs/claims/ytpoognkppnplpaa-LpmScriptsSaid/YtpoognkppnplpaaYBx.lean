/-
  PREFIXES in memory: boxes, rows of ones own, rows that are read.
-/
import Derived.Test.YtpoognkppnplpaaYRef
import Derived.Laws.Rows
import Derived.WalkSmall
namespace Go.Proofs.Ytpoognkppnplpaa
set_option linter.unusedVariables false
set_option linter.unusedSimpArgs false
open Go.RowKit
theorem boxes2 {w : World} {cs ds es : Array Value} {t u s : TypeId} : Below w.heap.size w (((w.alloc (.cells cs t)).alloc (.cells ds u)).alloc (.cells es s)) :=
  (((Below.refl _ _).alloc (Nat.le_refl _) _).alloc (by simp) _).alloc (by simp; omega) _
theorem cutP_lt {n : Nat} (hn : n < 4294967296) (b : Int) : (cutP n b).1 < 4294967296 := by show n - n % sizeP b < _; omega
/-- A block that holds one prefix. -/
def Bx (W : World) (k : Nat) (a b : Value) : Prop := W.heap[k]? = some (.cells #[a, b] 25 (0, 0))
theorem Bx.lt {W : World} {k : Nat} {a b : Value} (h : Bx W k a b) : k < W.heap.size := (Array.getElem?_eq_some_iff.1 h).1
theorem Bx.new (w : World) (a b : Value) : Bx (w.alloc (.cells #[a, b] 25)) w.heap.size a b := heap_alloc_new w _
theorem Bx.alloc {W : World} {k : Nat} {a b : Value} (h : Bx W k a b) (o : Obj) : Bx (W.alloc o) k a b := by
  have hl := h.lt
  unfold Bx at h ⊢
  rw [heap_alloc_old W o hl, h]
theorem Bx.keep {B : Nat} {W W' : World} {k : Nat} {a b : Value} (h : Bx W k a b) (hb : Go.RowKit.Below B W W') (hk : k < B) : Bx W' k a b := by
  unfold Bx at h ⊢
  rw [hb.block k hk, h]
theorem Bx.grown {W W' : World} {k : Nat} {a b : Value} {r : Option Nat} (h : Bx W k a b) (hg : W.grownBy W' r) (hr : some k ≠ r) : Bx W' k a b := by
  have hl := h.lt
  unfold Bx at h ⊢
  rw [hg.block k hl hr, h]
theorem Bx.cells {W : World} {k : Nat} {a b : Value} (h : Bx W k a b) : W.cell? ⟨k, 0, none⟩ = some a ∧ W.cell? ⟨k, 1, none⟩ = some b ∧ W.frozen? ⟨k, 0, none⟩ = false ∧ W.frozen? ⟨k, 1, none⟩ = false := by
  unfold Bx at h
  simp [World.cell?, World.frozen?, h]
theorem Bx.range {W : World} {k : Nat} {a b : Value} (h : Bx W k a b) : W.rangeAt k 0 [a, b] := by
  obtain ⟨h0, h1, _, _⟩ := h.cells
  intro i u hi
  match i, hi with
  | 0, hi => simp at hi; subst hi; simpa using h0
  | 1, hi => simp at hi; subst hi; simpa using h1
  | i + 2, hi => simp at hi
theorem Bx.set {W : World} {k : Nat} {a b : Value} (h : Bx W k a b) (x y : Value) : Bx ((W.setCell ⟨k, 0, none⟩ x).setCell ⟨k, 1, none⟩ y) k x y := by
  unfold Bx at h ⊢
  have h1 := heap_setCell_same W k 0 _ _ x h
  rw [heap_setCell_same _ k 1 _ _ y h1]
  rfl
theorem sizePx : (Try.prog.info? 25).map (·.size) = some 2 := by kernel_rfl
theorem results_bx {fn : Func} {tmps : Array Value} {W : World} {a s k : Nat} {x y : Value} (hf : fn.results = #[.cell a 25, .tmp s]) (ha : tmps.getD a undef = .pointer (some ⟨k, 0, none⟩)) (h : Bx W k x y) :
    (results fn tmps).run Try.prog W = .ok (.tuple #[.agg #[x, y], tmps.getD s undef]) W := by
  unfold results
  rw [hf]
  have h0 := run_loadVar_mid W k 0 25 [x, y] _ h.range Try.underlying25 rfl sizePx
  have ha' : tmps[a]?.getD undef = .pointer (some ⟨k, 0, none⟩) := by simpa using ha
  simp [ha', asAddr, h0, Result.andThen_ok]
/-- A prefix's cells. -/
def cellsP (p : Nat × Int) : List Value := [.int .u32 p.1, .int .i64 p.2]
def rowP (l : List (Nat × Int)) : List Value := l.flatMap cellsP
theorem rowP_length (l : List (Nat × Int)) : (rowP l).length = l.length * 2 := by
  induction l with
  | nil => rfl
  | cons p l ih => unfold rowP at ih ⊢; rw [List.flatMap_cons, List.length_append, ih]; simp [cellsP]; omega
theorem rowP_append (l m : List (Nat × Int)) : rowP (l ++ m) = rowP l ++ rowP m := by unfold rowP; rw [List.flatMap_append]
theorem rowP_one (p : Nat × Int) : rowP [p] = cellsP p := by simp [rowP]
theorem rowP_get {l : List (Nat × Int)} {j : Nat} {p : Nat × Int} (h : l[j]? = some p) : (rowP l)[j * 2]? = some (.int .u32 p.1) ∧ (rowP l)[j * 2 + 1]? = some (.int .i64 p.2) := by
  induction l generalizing j with
  | nil => simp at h
  | cons q l ih =>
    have e : rowP (q :: l) = .int .u32 q.1 :: .int .i64 q.2 :: rowP l := rfl
    rw [e]
    match j, h with
    | 0, h => simp at h; subst h; exact ⟨rfl, rfl⟩
    | j + 1, h =>
      have := ih (by simpa using h)
      rw [show (j + 1) * 2 = j * 2 + 1 + 1 by omega, show j * 2 + 1 + 1 + 1 = j * 2 + 1 + 1 + 1 from rfl]
      simpa using this
theorem rowP_one_cell {l : List (Nat × Int)} : ∀ u ∈ rowP l, u.oneCell' = true := fun u hu => by
  obtain ⟨p, _, hp⟩ := List.mem_flatMap.1 hu
  simp [cellsP] at hp
  rcases hp with rfl | rfl <;> rfl
/-- A slice of prefixes over memory of one's own, at or above base. -/
def OwnP (W : World) (base : Nat) (v : Value) (l : List (Nat × Int)) : Prop := W.ownsRow base 25 2 v l.length (rowP l)
theorem OwnP.nil (W : World) (base : Nat) : OwnP W base (.slice none 0 0) [] := World.ownsRow_nil _ _ _ _
theorem OwnP.form {W : World} {base : Nat} {v : Value} {l : List (Nat × Int)} (h : OwnP W base v l) : (v = .slice none 0 0 ∧ l = []) ∨ ∃ g cap, v = .slice (some ⟨g, 0, none⟩) l.length cap ∧ base ≤ g ∧ g < W.heap.size ∧ l.length ≤ cap ∧ cap ≤ maxLen := by
  rcases h.2 with ⟨e, hl⟩ | ⟨g, cap, cur, e, hg, hh, hn, hm, _⟩
  · exact .inl ⟨e, List.eq_nil_of_length_eq_zero hl⟩
  · exact .inr ⟨g, cap, e, hg, (Array.getElem?_eq_some_iff.1 hh).1, hn, hm⟩
theorem OwnP.below {W W' : World} {base B : Nat} {v : Value} {l : List (Nat × Int)} (h : OwnP W base v l) (hb : Below B W W') (hB : W.heap.size ≤ B) : OwnP W' base v l := by
  refine ⟨h.1, ?_⟩
  rcases h.2 with h2 | ⟨g, cap, cur, e, hg, hh, r⟩
  · exact .inl h2
  · have hlt := (Array.getElem?_eq_some_iff.1 hh).1
    exact .inr ⟨g, cap, cur, e, hg, by rw [hb.block g (by omega)]; exact hh, r⟩
theorem OwnP.alloc {W : World} {base : Nat} {v : Value} {l : List (Nat × Int)} (h : OwnP W base v l) (o : Obj) : OwnP (W.alloc o) base v l := World.ownsRow.alloc h o
theorem OwnP.pop {W : World} {base g cap : Nat} {l : List (Nat × Int)} {p : Nat × Int} (h : OwnP W base (.slice (some ⟨g, 0, none⟩) (l.length + 1) cap) (l ++ [p])) : OwnP W base (.slice (some ⟨g, 0, none⟩) l.length cap) l := by
  unfold OwnP at h ⊢
  rw [rowP_append, List.length_append, List.length_singleton] at h
  exact ownsRow_pop (rowP_length l) h
theorem OwnP.cell {W : World} {base g n cap : Nat} {l : List (Nat × Int)} (h : OwnP W base (.slice (some ⟨g, 0, none⟩) n cap) l) {j : Nat} {p : Nat × Int} (hj : l[j]? = some p) : W.cell? ⟨g, j * 2, none⟩ = some (.int .u32 p.1) ∧ W.cell? ⟨g, j * 2 + 1, none⟩ = some (.int .i64 p.2) := by
  have hr := rowP_get hj
  have hadd : ∀ k, (⟨g, 0, none⟩ : Addr).add k = ⟨g, k, none⟩ := fun k => by unfold Addr.add; split <;> simp_all
  have h0 := World.ownsRow.cells h (g := g) rfl _ _ hr.1
  have h1 := World.ownsRow.cells h (g := g) rfl _ _ hr.2
  rw [hadd] at h0 h1
  exact ⟨h0, h1⟩
/-- A slice of prefixes that is read: it lies below n₀. -/
def RdP (n₀ : Nat) (W : World) (a : Option Addr) (l : List (Nat × Int)) : Prop := 0 < l.length → ∃ b off, a = some ⟨b, off, none⟩ ∧ b < n₀ ∧ ∀ j p, l[j]? = some p → W.cell? ⟨b, off + j * 2, none⟩ = some (.int .u32 p.1) ∧ W.cell? ⟨b, off + j * 2 + 1, none⟩ = some (.int .i64 p.2)
theorem RdP.below {n₀ : Nat} {W W' : World} {a : Option Addr} {l : List (Nat × Int)} (h : RdP n₀ W a l) {B : Nat} (hb : Below B W W') (hB : n₀ ≤ B) : RdP n₀ W' a l := fun hl => by
  obtain ⟨b, off, e, hbn, hc⟩ := h hl
  exact ⟨b, off, e, hbn, fun j p hj => ⟨keepC hb (by show b < B; omega) (hc j p hj).1, keepC hb (by show b < B; omega) (hc j p hj).2⟩⟩
theorem RdP.mono {n₀ n₁ : Nat} {W : World} {a : Option Addr} {l : List (Nat × Int)} (h : RdP n₀ W a l) (hn : n₀ ≤ n₁) : RdP n₁ W a l := fun hl => by
  obtain ⟨b, off, e, hbn, hc⟩ := h hl
  exact ⟨b, off, e, by omega, hc⟩
theorem OwnP.rd {W : World} {base n : Nat} {a : Option Addr} {cap : Nat} {l : List (Nat × Int)} (h : OwnP W base (.slice a n cap) l) : RdP W.heap.size W a l := fun hl => by
  rcases h.form with ⟨_, e⟩ | ⟨g, c, e, _, hg, _⟩
  · subst e; simp at hl
  · injection e with e1 e2 e3
    subst e1
    exact ⟨g, 0, rfl, hg, fun j p hj => by have := h.cell hj; simpa using this⟩
end Go.Proofs.Ytpoognkppnplpaa
