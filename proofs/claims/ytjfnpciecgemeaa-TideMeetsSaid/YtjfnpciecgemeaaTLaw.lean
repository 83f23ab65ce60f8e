/-
  THE LAWS' TOOLS: what the program's functions answer (as a premise), awake.
-/
import Derived.Test.YtjfnpciecgemeaaTArg
import Derived.Test.YtjfnpciecgemeaaTMerge
import Derived.Test.YtjfnpciecgemeaaTAft
namespace Go.Proofs.Ytjfnpciecgemeaa.ti
set_option linter.unusedSimpArgs false
set_option linter.unusedVariables false
open Go.RowKit
/-- What the program's functions answer. -/
structure ProgT : Prop where
  cmp : ∀ (a b : TId) (w : World), Calls Try.prog 9 #[.agg #[.int .i64 a.d, .int .i64 a.o, .int .i64 a.k, .int .i64 a.n], .agg #[.int .i64 b.d, .int .i64 b.o, .int .i64 b.k, .int .i64 b.n]] w fun e w' => e = .returned (.int .i64 (cmpT a b)) ∧ Below w.heap.size w w'
  newer : ∀ (a b : THd) (w : World), In64 a.life → In64 b.life → Calls Try.prog 15 #[.agg #[.int .i64 a.id.d, .int .i64 a.id.o, .int .i64 a.id.k, .int .i64 a.id.n, .int .i64 a.seq, .int .i64 a.life], .agg #[.int .i64 b.id.d, .int .i64 b.id.o, .int .i64 b.id.k, .int .i64 b.id.n, .int .i64 b.seq, .int .i64 b.life]] w fun e w' => e = .returned (.int .i64 (newT a b)) ∧ Below w.heap.size w w'
  first : ∀ w : World, Calls Try.prog 17 #[] w fun e w' => e = .returned (.agg #[.int .i64 1, .int .i64 1, .int .i64 1, .int .i64 0]) ∧ Below w.heap.size w w'
  last : ∀ w : World, Calls Try.prog 18 #[] w fun e w' => e = .returned (.agg #[.int .i64 2, .int .i64 1000, .int .i64 4, .int .i64 65535]) ∧ Below w.heap.size w w'
  after : ∀ (x : TId) (w : World), Calls Try.prog 23 #[.agg #[.int .i64 x.d, .int .i64 x.o, .int .i64 x.k, .int .i64 x.n]] w (AftE x w)
  merge : ∀ (l m : List THd) (a b : Option Addr) (ca cb : Nat) (w : World), RdT w a l → RdT w b m → l.length + m.length ≤ 400 → l.length ≤ ca → m.length ≤ cb → (∀ x ∈ l ++ m, okH x) → Calls Try.prog 12 #[.slice a l.length ca, .slice b m.length cb] w fun e w' => ∃ v, e = .returned v ∧ OwnH 34 w' w.heap.size v (mergeT l m) ∧ Below w.heap.size w w'
theorem awake_after : afterT ⟨1, 1, 1, 65535⟩ = (⟨1, 1, 2, 0⟩, true) := by decide
theorem awake_newer : newT ⟨⟨0, 0, 0, 0⟩, 2, 0⟩ ⟨⟨0, 0, 0, 0⟩, 1, 0⟩ = 1 := by decide
section
attribute [local go_sem high] eq_head eq_id
end
/-- Two heads in boxes of one's own. -/
structure TwoH (w W : World) (a b : THd) : Prop where
  ba : W.heap[w.heap.size]? = some (.cells [.int .i64 a.id.d, .int .i64 a.id.o, .int .i64 a.id.k, .int .i64 a.id.n, .int .i64 a.seq, .int .i64 a.life].toArray 34 (0, 0))
  bb : W.heap[w.heap.size + 1]? = some (.cells [.int .i64 b.id.d, .int .i64 b.id.o, .int .i64 b.id.k, .int .i64 b.id.n, .int .i64 b.seq, .int .i64 b.life].toArray 34 (0, 0))
  bel : Below w.heap.size w W
theorem TwoH.new (w : World) (a b : THd) : TwoH w ((w.alloc (.cells #[.int .i64 a.id.d, .int .i64 a.id.o, .int .i64 a.id.k, .int .i64 a.id.n, .int .i64 a.seq, .int .i64 a.life] 34)).alloc (.cells #[.int .i64 b.id.d, .int .i64 b.id.o, .int .i64 b.id.k, .int .i64 b.id.n, .int .i64 b.seq, .int .i64 b.life] 34)) a b :=
  ⟨by rw [heap_alloc_old _ _ (by simp)]; exact heap_alloc_new w _, by have := heap_alloc_new (w.alloc (.cells #[.int .i64 a.id.d, .int .i64 a.id.o, .int .i64 a.id.k, .int .i64 a.id.n, .int .i64 a.seq, .int .i64 a.life] 34)) (.cells #[.int .i64 b.id.d, .int .i64 b.id.o, .int .i64 b.id.k, .int .i64 b.id.n, .int .i64 b.seq, .int .i64 b.life] 34); simpa using this, ((Below.refl _ w).alloc (Nat.le_refl _) _).alloc (by simp) _⟩
theorem TwoH.step {w W W' : World} {a b : THd} (h : TwoH w W a b) (k : Below W.heap.size W W') : TwoH w W' a b :=
  ⟨(k.block _ (Array.getElem?_eq_some_iff.1 h.ba).1).trans h.ba, (k.block _ (Array.getElem?_eq_some_iff.1 h.bb).1).trans h.bb, h.bel.trans (k.mono h.bel.size)⟩
theorem TwoH.cells {w W : World} {a b : THd} (h : TwoH w W a b) : (W.cell? ⟨w.heap.size, 0, none⟩ = some (.int .i64 a.id.d) ∧ W.cell? ⟨w.heap.size, 1, none⟩ = some (.int .i64 a.id.o) ∧ W.cell? ⟨w.heap.size, 2, none⟩ = some (.int .i64 a.id.k) ∧ W.cell? ⟨w.heap.size, 3, none⟩ = some (.int .i64 a.id.n) ∧ W.cell? ⟨w.heap.size, 4, none⟩ = some (.int .i64 a.seq) ∧ W.cell? ⟨w.heap.size, 5, none⟩ = some (.int .i64 a.life)) ∧
    W.cell? ⟨w.heap.size + 1, 0, none⟩ = some (.int .i64 b.id.d) ∧ W.cell? ⟨w.heap.size + 1, 1, none⟩ = some (.int .i64 b.id.o) ∧ W.cell? ⟨w.heap.size + 1, 2, none⟩ = some (.int .i64 b.id.k) ∧ W.cell? ⟨w.heap.size + 1, 3, none⟩ = some (.int .i64 b.id.n) ∧ W.cell? ⟨w.heap.size + 1, 4, none⟩ = some (.int .i64 b.seq) ∧ W.cell? ⟨w.heap.size + 1, 5, none⟩ = some (.int .i64 b.life) := by
  have h1 := h.ba
  have h2 := h.bb
  simp [World.cell?, h1, h2]
section
attribute [local go_sem high] eq_head eq_id
end
end Go.Proofs.Ytjfnpciecgemeaa.ti
