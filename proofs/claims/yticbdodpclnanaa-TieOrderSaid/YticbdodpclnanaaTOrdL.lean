/-
  TieOrder: Compare is an order.
-/
import Derived.Test.YticbdodpclnanaaTSort
namespace Go.Proofs.Yticbdodpclnanaa
set_option linter.unusedSimpArgs false
set_option linter.unusedVariables false
open Go.RowKit
/-- Three ids in boxes of one's own. -/
structure ThreeI (w W : World) (a b c : TId) : Prop where
  ba : W.heap[w.heap.size]? = some (.cells [.int .i64 a.d, .int .i64 a.o, .int .i64 a.k, .int .i64 a.n].toArray 23 (0, 0))
  bb : W.heap[w.heap.size + 1]? = some (.cells [.int .i64 b.d, .int .i64 b.o, .int .i64 b.k, .int .i64 b.n].toArray 23 (0, 0))
  bc : W.heap[w.heap.size + 1 + 1]? = some (.cells [.int .i64 c.d, .int .i64 c.o, .int .i64 c.k, .int .i64 c.n].toArray 23 (0, 0))
  bel : Below w.heap.size w W
theorem ThreeI.new (w : World) (a b c : TId) : ThreeI w (((w.alloc (.cells #[.int .i64 a.d, .int .i64 a.o, .int .i64 a.k, .int .i64 a.n] 23)).alloc (.cells #[.int .i64 b.d, .int .i64 b.o, .int .i64 b.k, .int .i64 b.n] 23)).alloc (.cells #[.int .i64 c.d, .int .i64 c.o, .int .i64 c.k, .int .i64 c.n] 23)) a b c := by
  refine ⟨?_, ?_, ?_, (((Below.refl _ w).alloc (Nat.le_refl _) _).alloc (by simp) _).alloc (by simp; omega) _⟩
  · rw [heap_alloc_old _ _ (by simp; omega), heap_alloc_old _ _ (by simp)]; exact heap_alloc_new w _
  · rw [heap_alloc_old _ _ (by simp)]
    have := heap_alloc_new (w.alloc (.cells #[.int .i64 a.d, .int .i64 a.o, .int .i64 a.k, .int .i64 a.n] 23)) (.cells #[.int .i64 b.d, .int .i64 b.o, .int .i64 b.k, .int .i64 b.n] 23)
    simpa using this
  · have := heap_alloc_new ((w.alloc (.cells #[.int .i64 a.d, .int .i64 a.o, .int .i64 a.k, .int .i64 a.n] 23)).alloc (.cells #[.int .i64 b.d, .int .i64 b.o, .int .i64 b.k, .int .i64 b.n] 23)) (.cells #[.int .i64 c.d, .int .i64 c.o, .int .i64 c.k, .int .i64 c.n] 23)
    simpa using this
theorem ThreeI.step {w W W' : World} {a b c : TId} (h : ThreeI w W a b c) (k : Below W.heap.size W W') : ThreeI w W' a b c :=
  ⟨(k.block _ (Array.getElem?_eq_some_iff.1 h.ba).1).trans h.ba, (k.block _ (Array.getElem?_eq_some_iff.1 h.bb).1).trans h.bb, (k.block _ (Array.getElem?_eq_some_iff.1 h.bc).1).trans h.bc, h.bel.trans (k.mono h.bel.size)⟩
theorem ThreeI.cells {w W : World} {a b c : TId} (h : ThreeI w W a b c) : (W.cell? ⟨w.heap.size, 0, none⟩ = some (.int .i64 a.d) ∧ W.cell? ⟨w.heap.size, 1, none⟩ = some (.int .i64 a.o) ∧ W.cell? ⟨w.heap.size, 2, none⟩ = some (.int .i64 a.k) ∧ W.cell? ⟨w.heap.size, 3, none⟩ = some (.int .i64 a.n)) ∧
    (W.cell? ⟨w.heap.size + 1, 0, none⟩ = some (.int .i64 b.d) ∧ W.cell? ⟨w.heap.size + 1, 1, none⟩ = some (.int .i64 b.o) ∧ W.cell? ⟨w.heap.size + 1, 2, none⟩ = some (.int .i64 b.k) ∧ W.cell? ⟨w.heap.size + 1, 3, none⟩ = some (.int .i64 b.n)) ∧
    W.cell? ⟨w.heap.size + 1 + 1, 0, none⟩ = some (.int .i64 c.d) ∧ W.cell? ⟨w.heap.size + 1 + 1, 1, none⟩ = some (.int .i64 c.o) ∧ W.cell? ⟨w.heap.size + 1 + 1, 2, none⟩ = some (.int .i64 c.k) ∧ W.cell? ⟨w.heap.size + 1 + 1, 3, none⟩ = some (.int .i64 c.n) := by
  simp [World.cell?, h.ba, h.bb, h.bc]
theorem cmp_three (a b : TId) : cmpT a b = -1 ∨ cmpT a b = 0 ∨ cmpT a b = 1 := by have := cmp_range a b; omega
theorem cmp_trans {a b c : TId} (h1 : cmpT a b ≤ 0) (h2 : cmpT b c ≤ 0) : cmpT a c ≤ 0 := by
  have k1 : ¬ lexT b a := fun q => by have := cmp_pos.2 q; omega
  have k2 : ¬ lexT c b := fun q => by have := cmp_pos.2 q; omega
  have k3 : ¬ lexT c a := fun q => by
    rcases lex_tot a b with e | e | e
    · exact k2 (lex_tr q e)
    · subst e; exact k2 q
    · exact k1 e
  have : ¬ 0 < cmpT a c := fun q => k3 (cmp_pos.1 q)
  omega
section
attribute [local go_sem high] eq_id
set_option maxHeartbeats 3200000 in
set_option maxRecDepth 100000 in
theorem order_law (a : TId) (ha : okI a) (b : TId) (hb : okI b) (c : TId) (hc : okI c) (w : World) : Calls Try.prog 5 #[.agg #[.int .i64 a.d, .int .i64 a.o, .int .i64 a.k, .int .i64 a.n], .agg #[.int .i64 b.d, .int .i64 b.o, .int .i64 b.k, .int .i64 b.n], .agg #[.int .i64 c.d, .int .i64 c.o, .int .i64 c.k, .int .i64 c.n]] w fun e w' => e = .returned (.bool true) ∧ Below w.heap.size w w' := by
  have hw := awake_any progT
  have H1 := Lib.hid (progT.cmp a b)
  have H2 := Lib.hid (progT.cmp b c)
  have H3 := Lib.hid (progT.cmp b a)
  have H4 := Lib.hid (progT.cmp a c)
  have ht := cmp_turn b a
  have htr := @cmp_trans a b c
  have hz := @cmp_zero a b
  obtain ⟨x, hx⟩ : ∃ x, cmpT a b = x := ⟨_, rfl⟩
  obtain ⟨y, hy⟩ : ∃ y, cmpT b c = y := ⟨_, rfl⟩
  obtain ⟨z, hzz⟩ : ∃ z, cmpT a c = z := ⟨_, rfl⟩
  have hr1 := cmp_three a b
  have hr2 := cmp_three b c
  rw [ht] at H3
  rw [hx] at H1 H3 htr hz hr1
  rw [hy] at H2 htr hr2
  rw [hzz] at H4 htr
  clear ht hx hy hzz ha hb hc
  have HZ := Lib.hid hz
  have XA := Lib.hid (ThreeI.new w a b c)
  clear hz
  have hcase : (x = 1 ∧ a ≠ b) ∨ (x = 0 ∧ a = b ∧ y = 1) ∨ (x = 0 ∧ a = b ∧ y = 0 ∧ z ≤ 0) ∨ (x = 0 ∧ a = b ∧ y = -1 ∧ z ≤ 0) ∨ (x = -1 ∧ a ≠ b ∧ y = 1) ∨ (x = -1 ∧ a ≠ b ∧ y = 0 ∧ z ≤ 0) ∨ (x = -1 ∧ a ≠ b ∧ y = -1 ∧ z ≤ 0) := by
    have hz := HZ.out
    rcases hr1 with rfl | rfl | rfl <;> rcases hr2 with rfl | rfl | rfl <;> simp at hz htr <;> simp [hz] <;> omega
  clear htr hr1 hr2 HZ
  rcases hcase with ⟨rfl, hne⟩ | ⟨rfl, rfl, rfl⟩ | ⟨rfl, rfl, rfl, hz⟩ | ⟨rfl, rfl, rfl, hz⟩ | ⟨rfl, hne, rfl⟩ | ⟨rfl, hne, rfl, hz⟩ | ⟨rfl, hne, rfl, hz⟩
  · have hd : decide (a = b) = false := decide_eq_false hne
    clear hne
    go_enter Try.func5, Try.ntmps5
    go_wp2_with (first
      | (go_at_call 11; refine (hw _).mono ?_; rintro e w1 ⟨rfl, hb⟩; have hx := XA.out.step hb; obtain ⟨⟨x0, x1, x2, x3⟩, ⟨y0, y1, y2, y3⟩, z0, z1, z2, z3⟩ := hx.cells; have X1 := Lib.hid hx; clear hb hx)
      | (go_at_call 14; (with_reducible refine (H1.out _).mono ?_); rintro e w2 ⟨rfl, hb⟩; have hx := X1.out.step hb; clear x0 x1 x2 x3 y0 y1 y2 y3 z0 z1 z2 z3; obtain ⟨⟨x0, x1, x2, x3⟩, ⟨y0, y1, y2, y3⟩, z0, z1, z2, z3⟩ := hx.cells; have X2 := Lib.hid hx; clear hb hx)
      | (go_at_call 14; (with_reducible refine (H2.out _).mono ?_); rintro e w3 ⟨rfl, hb⟩; have hx := X2.out.step hb; clear x0 x1 x2 x3 y0 y1 y2 y3 z0 z1 z2 z3; obtain ⟨⟨x0, x1, x2, x3⟩, ⟨y0, y1, y2, y3⟩, z0, z1, z2, z3⟩ := hx.cells; have X3 := Lib.hid hx; clear hb hx)
      | (go_at_call 14; (with_reducible refine (H3.out _).mono ?_); rintro e w4 ⟨rfl, hb⟩; have hx := X3.out.step hb; clear x0 x1 x2 x3 y0 y1 y2 y3 z0 z1 z2 z3; obtain ⟨⟨x0, x1, x2, x3⟩, ⟨y0, y1, y2, y3⟩, z0, z1, z2, z3⟩ := hx.cells; have X4 := Lib.hid hx; clear hb hx)
      | (go_at_call 14; (with_reducible refine (H4.out _).mono ?_); rintro e w5 ⟨rfl, hb⟩; have hx := X4.out.step hb; clear x0 x1 x2 x3 y0 y1 y2 y3 z0 z1 z2 z3; obtain ⟨⟨x0, x1, x2, x3⟩, ⟨y0, y1, y2, y3⟩, z0, z1, z2, z3⟩ := hx.cells; have X5 := Lib.hid hx; clear hb hx))
    go_ret
    exact ⟨rfl, X4.out.bel⟩
  · go_enter Try.func5, Try.ntmps5
    go_wp2_with (first
      | (go_at_call 11; refine (hw _).mono ?_; rintro e w1 ⟨rfl, hb⟩; have hx := XA.out.step hb; obtain ⟨⟨x0, x1, x2, x3⟩, ⟨y0, y1, y2, y3⟩, z0, z1, z2, z3⟩ := hx.cells; have X1 := Lib.hid hx; clear hb hx)
      | (go_at_call 14; (with_reducible refine (H1.out _).mono ?_); rintro e w2 ⟨rfl, hb⟩; have hx := X1.out.step hb; clear x0 x1 x2 x3 y0 y1 y2 y3 z0 z1 z2 z3; obtain ⟨⟨x0, x1, x2, x3⟩, ⟨y0, y1, y2, y3⟩, z0, z1, z2, z3⟩ := hx.cells; have X2 := Lib.hid hx; clear hb hx)
      | (go_at_call 14; (with_reducible refine (H2.out _).mono ?_); rintro e w3 ⟨rfl, hb⟩; have hx := X2.out.step hb; clear x0 x1 x2 x3 y0 y1 y2 y3 z0 z1 z2 z3; obtain ⟨⟨x0, x1, x2, x3⟩, ⟨y0, y1, y2, y3⟩, z0, z1, z2, z3⟩ := hx.cells; have X3 := Lib.hid hx; clear hb hx)
      | (go_at_call 14; (with_reducible refine (H3.out _).mono ?_); rintro e w4 ⟨rfl, hb⟩; have hx := X3.out.step hb; clear x0 x1 x2 x3 y0 y1 y2 y3 z0 z1 z2 z3; obtain ⟨⟨x0, x1, x2, x3⟩, ⟨y0, y1, y2, y3⟩, z0, z1, z2, z3⟩ := hx.cells; have X4 := Lib.hid hx; clear hb hx)
      | (go_at_call 14; (with_reducible refine (H4.out _).mono ?_); rintro e w5 ⟨rfl, hb⟩; have hx := X4.out.step hb; clear x0 x1 x2 x3 y0 y1 y2 y3 z0 z1 z2 z3; obtain ⟨⟨x0, x1, x2, x3⟩, ⟨y0, y1, y2, y3⟩, z0, z1, z2, z3⟩ := hx.cells; have X5 := Lib.hid hx; clear hb hx))
    go_ret
    exact ⟨rfl, X4.out.bel⟩
  · have hzd : decide (z ≤ 0) = true := decide_eq_true hz
    clear hz
    go_enter Try.func5, Try.ntmps5
    go_wp2_with (first
      | (go_at_call 11; refine (hw _).mono ?_; rintro e w1 ⟨rfl, hb⟩; have hx := XA.out.step hb; obtain ⟨⟨x0, x1, x2, x3⟩, ⟨y0, y1, y2, y3⟩, z0, z1, z2, z3⟩ := hx.cells; have X1 := Lib.hid hx; clear hb hx)
      | (go_at_call 14; (with_reducible refine (H1.out _).mono ?_); rintro e w2 ⟨rfl, hb⟩; have hx := X1.out.step hb; clear x0 x1 x2 x3 y0 y1 y2 y3 z0 z1 z2 z3; obtain ⟨⟨x0, x1, x2, x3⟩, ⟨y0, y1, y2, y3⟩, z0, z1, z2, z3⟩ := hx.cells; have X2 := Lib.hid hx; clear hb hx)
      | (go_at_call 14; (with_reducible refine (H2.out _).mono ?_); rintro e w3 ⟨rfl, hb⟩; have hx := X2.out.step hb; clear x0 x1 x2 x3 y0 y1 y2 y3 z0 z1 z2 z3; obtain ⟨⟨x0, x1, x2, x3⟩, ⟨y0, y1, y2, y3⟩, z0, z1, z2, z3⟩ := hx.cells; have X3 := Lib.hid hx; clear hb hx)
      | (go_at_call 14; (with_reducible refine (H3.out _).mono ?_); rintro e w4 ⟨rfl, hb⟩; have hx := X3.out.step hb; clear x0 x1 x2 x3 y0 y1 y2 y3 z0 z1 z2 z3; obtain ⟨⟨x0, x1, x2, x3⟩, ⟨y0, y1, y2, y3⟩, z0, z1, z2, z3⟩ := hx.cells; have X4 := Lib.hid hx; clear hb hx)
      | (go_at_call 14; (with_reducible refine (H4.out _).mono ?_); rintro e w5 ⟨rfl, hb⟩; have hx := X4.out.step hb; clear x0 x1 x2 x3 y0 y1 y2 y3 z0 z1 z2 z3; obtain ⟨⟨x0, x1, x2, x3⟩, ⟨y0, y1, y2, y3⟩, z0, z1, z2, z3⟩ := hx.cells; have X5 := Lib.hid hx; clear hb hx))
    go_ret
    exact ⟨rfl, X5.out.bel⟩
  · have hzd : decide (z ≤ 0) = true := decide_eq_true hz
    clear hz
    go_enter Try.func5, Try.ntmps5
    go_wp2_with (first
      | (go_at_call 11; refine (hw _).mono ?_; rintro e w1 ⟨rfl, hb⟩; have hx := XA.out.step hb; obtain ⟨⟨x0, x1, x2, x3⟩, ⟨y0, y1, y2, y3⟩, z0, z1, z2, z3⟩ := hx.cells; have X1 := Lib.hid hx; clear hb hx)
      | (go_at_call 14; (with_reducible refine (H1.out _).mono ?_); rintro e w2 ⟨rfl, hb⟩; have hx := X1.out.step hb; clear x0 x1 x2 x3 y0 y1 y2 y3 z0 z1 z2 z3; obtain ⟨⟨x0, x1, x2, x3⟩, ⟨y0, y1, y2, y3⟩, z0, z1, z2, z3⟩ := hx.cells; have X2 := Lib.hid hx; clear hb hx)
      | (go_at_call 14; (with_reducible refine (H2.out _).mono ?_); rintro e w3 ⟨rfl, hb⟩; have hx := X2.out.step hb; clear x0 x1 x2 x3 y0 y1 y2 y3 z0 z1 z2 z3; obtain ⟨⟨x0, x1, x2, x3⟩, ⟨y0, y1, y2, y3⟩, z0, z1, z2, z3⟩ := hx.cells; have X3 := Lib.hid hx; clear hb hx)
      | (go_at_call 14; (with_reducible refine (H3.out _).mono ?_); rintro e w4 ⟨rfl, hb⟩; have hx := X3.out.step hb; clear x0 x1 x2 x3 y0 y1 y2 y3 z0 z1 z2 z3; obtain ⟨⟨x0, x1, x2, x3⟩, ⟨y0, y1, y2, y3⟩, z0, z1, z2, z3⟩ := hx.cells; have X4 := Lib.hid hx; clear hb hx)
      | (go_at_call 14; (with_reducible refine (H4.out _).mono ?_); rintro e w5 ⟨rfl, hb⟩; have hx := X4.out.step hb; clear x0 x1 x2 x3 y0 y1 y2 y3 z0 z1 z2 z3; obtain ⟨⟨x0, x1, x2, x3⟩, ⟨y0, y1, y2, y3⟩, z0, z1, z2, z3⟩ := hx.cells; have X5 := Lib.hid hx; clear hb hx))
    go_ret
    exact ⟨rfl, X5.out.bel⟩
  · have hd : decide (a = b) = false := decide_eq_false hne
    clear hne
    go_enter Try.func5, Try.ntmps5
    go_wp2_with (first
      | (go_at_call 11; refine (hw _).mono ?_; rintro e w1 ⟨rfl, hb⟩; have hx := XA.out.step hb; obtain ⟨⟨x0, x1, x2, x3⟩, ⟨y0, y1, y2, y3⟩, z0, z1, z2, z3⟩ := hx.cells; have X1 := Lib.hid hx; clear hb hx)
      | (go_at_call 14; (with_reducible refine (H1.out _).mono ?_); rintro e w2 ⟨rfl, hb⟩; have hx := X1.out.step hb; clear x0 x1 x2 x3 y0 y1 y2 y3 z0 z1 z2 z3; obtain ⟨⟨x0, x1, x2, x3⟩, ⟨y0, y1, y2, y3⟩, z0, z1, z2, z3⟩ := hx.cells; have X2 := Lib.hid hx; clear hb hx)
      | (go_at_call 14; (with_reducible refine (H2.out _).mono ?_); rintro e w3 ⟨rfl, hb⟩; have hx := X2.out.step hb; clear x0 x1 x2 x3 y0 y1 y2 y3 z0 z1 z2 z3; obtain ⟨⟨x0, x1, x2, x3⟩, ⟨y0, y1, y2, y3⟩, z0, z1, z2, z3⟩ := hx.cells; have X3 := Lib.hid hx; clear hb hx)
      | (go_at_call 14; (with_reducible refine (H3.out _).mono ?_); rintro e w4 ⟨rfl, hb⟩; have hx := X3.out.step hb; clear x0 x1 x2 x3 y0 y1 y2 y3 z0 z1 z2 z3; obtain ⟨⟨x0, x1, x2, x3⟩, ⟨y0, y1, y2, y3⟩, z0, z1, z2, z3⟩ := hx.cells; have X4 := Lib.hid hx; clear hb hx)
      | (go_at_call 14; (with_reducible refine (H4.out _).mono ?_); rintro e w5 ⟨rfl, hb⟩; have hx := X4.out.step hb; clear x0 x1 x2 x3 y0 y1 y2 y3 z0 z1 z2 z3; obtain ⟨⟨x0, x1, x2, x3⟩, ⟨y0, y1, y2, y3⟩, z0, z1, z2, z3⟩ := hx.cells; have X5 := Lib.hid hx; clear hb hx))
    go_ret
    exact ⟨rfl, X4.out.bel⟩
  · have hd : decide (a = b) = false := decide_eq_false hne
    clear hne
    have hzd : decide (z ≤ 0) = true := decide_eq_true hz
    clear hz
    go_enter Try.func5, Try.ntmps5
    go_wp2_with (first
      | (go_at_call 11; refine (hw _).mono ?_; rintro e w1 ⟨rfl, hb⟩; have hx := XA.out.step hb; obtain ⟨⟨x0, x1, x2, x3⟩, ⟨y0, y1, y2, y3⟩, z0, z1, z2, z3⟩ := hx.cells; have X1 := Lib.hid hx; clear hb hx)
      | (go_at_call 14; (with_reducible refine (H1.out _).mono ?_); rintro e w2 ⟨rfl, hb⟩; have hx := X1.out.step hb; clear x0 x1 x2 x3 y0 y1 y2 y3 z0 z1 z2 z3; obtain ⟨⟨x0, x1, x2, x3⟩, ⟨y0, y1, y2, y3⟩, z0, z1, z2, z3⟩ := hx.cells; have X2 := Lib.hid hx; clear hb hx)
      | (go_at_call 14; (with_reducible refine (H2.out _).mono ?_); rintro e w3 ⟨rfl, hb⟩; have hx := X2.out.step hb; clear x0 x1 x2 x3 y0 y1 y2 y3 z0 z1 z2 z3; obtain ⟨⟨x0, x1, x2, x3⟩, ⟨y0, y1, y2, y3⟩, z0, z1, z2, z3⟩ := hx.cells; have X3 := Lib.hid hx; clear hb hx)
      | (go_at_call 14; (with_reducible refine (H3.out _).mono ?_); rintro e w4 ⟨rfl, hb⟩; have hx := X3.out.step hb; clear x0 x1 x2 x3 y0 y1 y2 y3 z0 z1 z2 z3; obtain ⟨⟨x0, x1, x2, x3⟩, ⟨y0, y1, y2, y3⟩, z0, z1, z2, z3⟩ := hx.cells; have X4 := Lib.hid hx; clear hb hx)
      | (go_at_call 14; (with_reducible refine (H4.out _).mono ?_); rintro e w5 ⟨rfl, hb⟩; have hx := X4.out.step hb; clear x0 x1 x2 x3 y0 y1 y2 y3 z0 z1 z2 z3; obtain ⟨⟨x0, x1, x2, x3⟩, ⟨y0, y1, y2, y3⟩, z0, z1, z2, z3⟩ := hx.cells; have X5 := Lib.hid hx; clear hb hx))
    go_ret
    exact ⟨rfl, X5.out.bel⟩
  · have hd : decide (a = b) = false := decide_eq_false hne
    clear hne
    have hzd : decide (z ≤ 0) = true := decide_eq_true hz
    clear hz
    go_enter Try.func5, Try.ntmps5
    go_wp2_with (first
      | (go_at_call 11; refine (hw _).mono ?_; rintro e w1 ⟨rfl, hb⟩; have hx := XA.out.step hb; obtain ⟨⟨x0, x1, x2, x3⟩, ⟨y0, y1, y2, y3⟩, z0, z1, z2, z3⟩ := hx.cells; have X1 := Lib.hid hx; clear hb hx)
      | (go_at_call 14; (with_reducible refine (H1.out _).mono ?_); rintro e w2 ⟨rfl, hb⟩; have hx := X1.out.step hb; clear x0 x1 x2 x3 y0 y1 y2 y3 z0 z1 z2 z3; obtain ⟨⟨x0, x1, x2, x3⟩, ⟨y0, y1, y2, y3⟩, z0, z1, z2, z3⟩ := hx.cells; have X2 := Lib.hid hx; clear hb hx)
      | (go_at_call 14; (with_reducible refine (H2.out _).mono ?_); rintro e w3 ⟨rfl, hb⟩; have hx := X2.out.step hb; clear x0 x1 x2 x3 y0 y1 y2 y3 z0 z1 z2 z3; obtain ⟨⟨x0, x1, x2, x3⟩, ⟨y0, y1, y2, y3⟩, z0, z1, z2, z3⟩ := hx.cells; have X3 := Lib.hid hx; clear hb hx)
      | (go_at_call 14; (with_reducible refine (H3.out _).mono ?_); rintro e w4 ⟨rfl, hb⟩; have hx := X3.out.step hb; clear x0 x1 x2 x3 y0 y1 y2 y3 z0 z1 z2 z3; obtain ⟨⟨x0, x1, x2, x3⟩, ⟨y0, y1, y2, y3⟩, z0, z1, z2, z3⟩ := hx.cells; have X4 := Lib.hid hx; clear hb hx)
      | (go_at_call 14; (with_reducible refine (H4.out _).mono ?_); rintro e w5 ⟨rfl, hb⟩; have hx := X4.out.step hb; clear x0 x1 x2 x3 y0 y1 y2 y3 z0 z1 z2 z3; obtain ⟨⟨x0, x1, x2, x3⟩, ⟨y0, y1, y2, y3⟩, z0, z1, z2, z3⟩ := hx.cells; have X5 := Lib.hid hx; clear hb hx))
    go_ret
    exact ⟨rfl, X5.out.bel⟩
end
end Go.Proofs.Yticbdodpclnanaa
