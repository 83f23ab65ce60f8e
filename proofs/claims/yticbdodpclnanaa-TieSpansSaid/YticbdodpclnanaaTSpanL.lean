/-
  TieSpans: all ids that may be lie from the first to the last one.
-/
import Derived.Test.YticbdodpclnanaaTSort
namespace Go.Proofs.Yticbdodpclnanaa
set_option linter.unusedSimpArgs false
set_option linter.unusedVariables false
open Go.RowKit
/-- An id in a box of one's own. -/
structure OneI (w W : World) (a : TId) : Prop where
  ba : W.heap[w.heap.size]? = some (.cells [.int .i64 a.d, .int .i64 a.o, .int .i64 a.k, .int .i64 a.n].toArray 23 (0, 0))
  bel : Below w.heap.size w W
theorem OneI.new (w : World) (a : TId) : OneI w (w.alloc (.cells #[.int .i64 a.d, .int .i64 a.o, .int .i64 a.k, .int .i64 a.n] 23)) a := ⟨heap_alloc_new w _, (Below.refl _ w).alloc (Nat.le_refl _) _⟩
theorem OneI.step {w W W' : World} {a : TId} (h : OneI w W a) (k : Below W.heap.size W W') : OneI w W' a :=
  ⟨(k.block _ (Array.getElem?_eq_some_iff.1 h.ba).1).trans h.ba, h.bel.trans (k.mono h.bel.size)⟩
theorem OneI.lts {w W : World} {a : TId} (h : OneI w W a) : w.heap.size < W.heap.size ∧ w.heap.size ≠ W.heap.size ∧ W.heap.size ≠ w.heap.size := by
  have := (Array.getElem?_eq_some_iff.1 h.ba).1
  omega
theorem OneI.alloc {w W : World} {a : TId} (h : OneI w W a) (o : Obj) : OneI w (W.alloc o) a := h.step ((Below.refl _ _).alloc (Nat.le_refl _) _)
theorem OneI.drew {w W : World} {a : TId} (h : OneI w W a) : OneI w W.drew a := h.step (Below.refl _ _).drew
theorem OneI.cells {w W : World} {a : TId} (h : OneI w W a) : W.cell? ⟨w.heap.size, 0, none⟩ = some (.int .i64 a.d) ∧ W.cell? ⟨w.heap.size, 1, none⟩ = some (.int .i64 a.o) ∧ W.cell? ⟨w.heap.size, 2, none⟩ = some (.int .i64 a.k) ∧ W.cell? ⟨w.heap.size, 3, none⟩ = some (.int .i64 a.n) := by
  simp [World.cell?, h.ba]
set_option maxHeartbeats 3200000 in
set_option maxRecDepth 100000 in
theorem spans_1 (a : TId) (hr : rightT a) (hl : a ≠ lastT) (w : World) : Calls Try.prog 9 #[.agg #[.int .i64 a.d, .int .i64 a.o, .int .i64 a.k, .int .i64 a.n]] w fun e w' => e = .returned (.bool true) ∧ Below w.heap.size w w' := by
  have hw := awake_any progT
  have hA := progT.after a
  have hB : ∀ w, Calls Try.prog 12 #[.agg #[.int .i64 2, .int .i64 1000, .int .i64 4, .int .i64 65535]] w (AftE lastT w) := progT.after lastT
  unfold AftE at hA hB
  rw [after_last] at hB
  have HF := Lib.hid progT.first
  have HLA := Lib.hid progT.last
  have HR := Lib.hid (rright_any a)
  rw [decide_eq_true hr] at HR
  rw [(after_is hr hl).1] at hA
  have heq : ∀ W, (Op.equalIn 10000 23 (.agg #[.int .i64 a.d, .int .i64 a.o, .int .i64 a.k, .int .i64 a.n]) (.agg #[.int .i64 2, .int .i64 1000, .int .i64 4, .int .i64 65535])).run Try.prog W = .ok false W := fun W => by rw [eq_id a ⟨2, 1000, 4, 65535⟩ W, decide_eq_false (show ¬ a = ⟨2, 1000, 4, 65535⟩ from hl)]
  have HC1 : RowKit.Hid (∀ w, Calls Try.prog 14 #[.agg #[.int .i64 1, .int .i64 1, .int .i64 1, .int .i64 0], .agg #[.int .i64 a.d, .int .i64 a.o, .int .i64 a.k, .int .i64 a.n]] w fun e w' => e = .returned (.int .i64 (cmpT firstT a)) ∧ Below w.heap.size w w') := progT.cmp firstT a
  have HC2 : RowKit.Hid (∀ w, Calls Try.prog 14 #[.agg #[.int .i64 a.d, .int .i64 a.o, .int .i64 a.k, .int .i64 a.n], .agg #[.int .i64 2, .int .i64 1000, .int .i64 4, .int .i64 65535]] w fun e w' => e = .returned (.int .i64 (cmpT a lastT)) ∧ Below w.heap.size w w') := progT.cmp a lastT
  obtain ⟨u, hu⟩ : ∃ u, cmpT firstT a = u := ⟨_, rfl⟩
  obtain ⟨v, hv⟩ : ∃ v, cmpT a lastT = v := ⟨_, rfl⟩
  have hu0 : decide (u ≤ 0) = true := by
    rw [← hu]
    have : ¬ 0 < cmpT firstT a := fun q => (right_span hr).1 (cmp_pos.1 q)
    exact decide_eq_true (by omega)
  have hv0 : decide (v ≤ 0) = true := by
    rw [← hv]
    have : ¬ 0 < cmpT a lastT := fun q => (right_span hr).2 (cmp_pos.1 q)
    exact decide_eq_true (by omega)
  rw [hu] at HC1
  rw [hv] at HC2
  clear hu hv
  clear hr hl
  generalize (afterT a).1 = y at hA
  have H1 := Lib.hid hA
  have H2 := Lib.hid hB
  have XA := Lib.hid (OneI.new w a)
  have T1 : True := trivial
  have T2 : True := trivial
  clear hA hB
  go_enter Try.func9, Try.ntmps9
  go_wp2_with (first
    | (go_at_call 11; refine (hw _).mono ?_; rintro e w1 ⟨rfl, hb⟩; have hx := XA.out.step hb; obtain ⟨x0, x1, x2, x3⟩ := hx.cells; obtain ⟨l0, l1, l2⟩ := hx.lts; have X1 := Lib.hid hx; clear hb hx)
    | (go_at_call 12; (with_reducible refine (H1.out _).mono ?_); rintro e w2 ⟨rfl, hb⟩; have hx := (X1.out).step hb; clear x0 x1 x2 x3 l0 l1 l2; obtain ⟨x0, x1, x2, x3⟩ := hx.cells; obtain ⟨l0, l1, l2⟩ := hx.lts; have X2 := Lib.hid hx; clear hb hx)
    | (go_at_call 25; (with_reducible refine (HR.out _).mono ?_); rintro e w3 ⟨rfl, hb⟩; have hx := (X2.out.alloc (.cells #[.int .i64 y.d, .int .i64 y.o, .int .i64 y.k, .int .i64 y.n] 23)).step hb; clear x0 x1 x2 x3 l0 l1 l2; obtain ⟨x0, x1, x2, x3⟩ := hx.cells; obtain ⟨l0, l1, l2⟩ := hx.lts; have X3 := Lib.hid hx; clear hb hx)
    | (go_at_call 20; (with_reducible refine (HLA.out _).mono ?_); rintro e w4 ⟨rfl, hb⟩; have hx := (X3.out).step hb; clear x0 x1 x2 x3 l0 l1 l2; obtain ⟨x0, x1, x2, x3⟩ := hx.cells; obtain ⟨l0, l1, l2⟩ := hx.lts; have X4 := Lib.hid hx; clear hb hx)
    | (go_at_call 12; (with_reducible refine (H2.out _).mono ?_); rintro e w5 ⟨rfl, hb⟩; have hx := (X4.out).step hb; clear x0 x1 x2 x3 l0 l1 l2; obtain ⟨x0, x1, x2, x3⟩ := hx.cells; obtain ⟨l0, l1, l2⟩ := hx.lts; have X5 := Lib.hid hx; clear hb hx))
  have X6 := Lib.hid (((X5.out.alloc (.cells #[.int .i64 0, .int .i64 0, .int .i64 0, .int .i64 0] 23)).drew))
  obtain ⟨c0, c1, c2, c3⟩ := X6.out.cells
  clear x0 x1 x2 x3 l0 l1 l2
  first | (go_region_held (fun W => W.cell? ⟨w.heap.size, 0, none⟩ = some (.int .i64 a.d) ∧ W.cell? ⟨w.heap.size, 1, none⟩ = some (.int .i64 a.o) ∧ W.cell? ⟨w.heap.size, 2, none⟩ = some (.int .i64 a.k) ∧ W.cell? ⟨w.heap.size, 3, none⟩ = some (.int .i64 a.n)) (first | exact ⟨c0, c1, c2, c3⟩ | exact ⟨by assumption, by assumption, by assumption, by assumption⟩)
    (first
      | (go_at_call 20; have _t := T1; clear T1 _t; (with_reducible refine (HLA.out _).mono ?_); rintro e w6 ⟨rfl, hb⟩; have X7 := Lib.hid (X6.out.step hb); obtain ⟨d6, e6, f6, g6⟩ := X7.out.cells; clear hb)
      | (go_at_call 18; (with_reducible refine (HF.out _).mono ?_); rintro e w7 ⟨rfl, hb⟩; have X8 := Lib.hid (X7.out.step hb); obtain ⟨d7, e7, f7, g7⟩ := X8.out.cells; clear hb)
      | (go_at_call 14; (with_reducible refine (HC1.out _).mono ?_); rintro e w8 ⟨rfl, hb⟩; have X9 := Lib.hid (X8.out.step hb); obtain ⟨d8, e8, f8, g8⟩ := X9.out.cells; clear hb)
      | (go_at_call 20; (with_reducible refine (HLA.out _).mono ?_); rintro e w9 ⟨rfl, hb⟩; have X10 := Lib.hid (X9.out.step hb); obtain ⟨d9, e9, f9, g9⟩ := X10.out.cells; clear hb)
      | (go_at_call 14; (with_reducible refine (HC2.out _).mono ?_); rintro e w10 ⟨rfl, hb⟩; have X11 := Lib.hid (X10.out.step hb); obtain ⟨d10, e10, f10, g10⟩ := X11.out.cells; clear hb)
            )) | fail
  go_wp2
  go_ret
  exact ⟨rfl, X11.out.bel⟩
set_option maxHeartbeats 3200000 in
set_option maxRecDepth 100000 in
theorem spans_2 (a : TId) (hr : rightT a) (hl : a = lastT) (w : World) : Calls Try.prog 9 #[.agg #[.int .i64 a.d, .int .i64 a.o, .int .i64 a.k, .int .i64 a.n]] w fun e w' => e = .returned (.bool true) ∧ Below w.heap.size w w' := by
  have hw := awake_any progT
  have hA := progT.after a
  have hB : ∀ w, Calls Try.prog 12 #[.agg #[.int .i64 2, .int .i64 1000, .int .i64 4, .int .i64 65535]] w (AftE lastT w) := progT.after lastT
  unfold AftE at hA hB
  rw [after_last] at hB
  have HF := Lib.hid progT.first
  have HLA := Lib.hid progT.last
  have HR := Lib.hid (rright_any a)
  rw [decide_eq_true hr] at HR
  rw [show (afterT a).2 = false from by rw [hl]; rfl] at hA
  have heq : ∀ W, (Op.equalIn 10000 23 (.agg #[.int .i64 a.d, .int .i64 a.o, .int .i64 a.k, .int .i64 a.n]) (.agg #[.int .i64 2, .int .i64 1000, .int .i64 4, .int .i64 65535])).run Try.prog W = .ok true W := fun W => by rw [eq_id a ⟨2, 1000, 4, 65535⟩ W, decide_eq_true (show a = ⟨2, 1000, 4, 65535⟩ from hl)]
  have HC1 : RowKit.Hid (∀ w, Calls Try.prog 14 #[.agg #[.int .i64 1, .int .i64 1, .int .i64 1, .int .i64 0], .agg #[.int .i64 a.d, .int .i64 a.o, .int .i64 a.k, .int .i64 a.n]] w fun e w' => e = .returned (.int .i64 (cmpT firstT a)) ∧ Below w.heap.size w w') := progT.cmp firstT a
  have HC2 : RowKit.Hid (∀ w, Calls Try.prog 14 #[.agg #[.int .i64 a.d, .int .i64 a.o, .int .i64 a.k, .int .i64 a.n], .agg #[.int .i64 2, .int .i64 1000, .int .i64 4, .int .i64 65535]] w fun e w' => e = .returned (.int .i64 (cmpT a lastT)) ∧ Below w.heap.size w w') := progT.cmp a lastT
  obtain ⟨u, hu⟩ : ∃ u, cmpT firstT a = u := ⟨_, rfl⟩
  obtain ⟨v, hv⟩ : ∃ v, cmpT a lastT = v := ⟨_, rfl⟩
  have hu0 : decide (u ≤ 0) = true := by
    rw [← hu]
    have : ¬ 0 < cmpT firstT a := fun q => (right_span hr).1 (cmp_pos.1 q)
    exact decide_eq_true (by omega)
  have hv0 : decide (v ≤ 0) = true := by
    rw [← hv]
    have : ¬ 0 < cmpT a lastT := fun q => (right_span hr).2 (cmp_pos.1 q)
    exact decide_eq_true (by omega)
  rw [hu] at HC1
  rw [hv] at HC2
  clear hu hv
  clear hr hl
  generalize (afterT a).1 = y at hA
  have H1 := Lib.hid hA
  have H2 := Lib.hid hB
  have XA := Lib.hid (OneI.new w a)
  have T1 : True := trivial
  have T2 : True := trivial
  clear hA hB
  go_enter Try.func9, Try.ntmps9
  go_wp2_with (first
    | (go_at_call 11; refine (hw _).mono ?_; rintro e w1 ⟨rfl, hb⟩; have hx := XA.out.step hb; obtain ⟨x0, x1, x2, x3⟩ := hx.cells; obtain ⟨l0, l1, l2⟩ := hx.lts; have X1 := Lib.hid hx; clear hb hx)
    | (go_at_call 12; (with_reducible refine (H1.out _).mono ?_); rintro e w2 ⟨rfl, hb⟩; have hx := (X1.out).step hb; clear x0 x1 x2 x3 l0 l1 l2; obtain ⟨x0, x1, x2, x3⟩ := hx.cells; obtain ⟨l0, l1, l2⟩ := hx.lts; have X2 := Lib.hid hx; clear hb hx)
    | (go_at_call 25; (with_reducible refine (HR.out _).mono ?_); rintro e w3 ⟨rfl, hb⟩; have hx := (X2.out.alloc (.cells #[.int .i64 y.d, .int .i64 y.o, .int .i64 y.k, .int .i64 y.n] 23)).step hb; clear x0 x1 x2 x3 l0 l1 l2; obtain ⟨x0, x1, x2, x3⟩ := hx.cells; obtain ⟨l0, l1, l2⟩ := hx.lts; have X3 := Lib.hid hx; clear hb hx)
    | (go_at_call 20; (with_reducible refine (HLA.out _).mono ?_); rintro e w4 ⟨rfl, hb⟩; have hx := (X3.out).step hb; clear x0 x1 x2 x3 l0 l1 l2; obtain ⟨x0, x1, x2, x3⟩ := hx.cells; obtain ⟨l0, l1, l2⟩ := hx.lts; have X4 := Lib.hid hx; clear hb hx)
    | (go_at_call 12; (with_reducible refine (H2.out _).mono ?_); rintro e w5 ⟨rfl, hb⟩; have hx := (X4.out).step hb; clear x0 x1 x2 x3 l0 l1 l2; obtain ⟨x0, x1, x2, x3⟩ := hx.cells; obtain ⟨l0, l1, l2⟩ := hx.lts; have X5 := Lib.hid hx; clear hb hx))
  have X6 := Lib.hid (((X5.out.alloc (.cells #[.int .i64 0, .int .i64 0, .int .i64 0, .int .i64 0] 23)).drew))
  obtain ⟨c0, c1, c2, c3⟩ := X6.out.cells
  clear x0 x1 x2 x3 l0 l1 l2
  first | (go_region_held (fun W => W.cell? ⟨w.heap.size, 0, none⟩ = some (.int .i64 a.d) ∧ W.cell? ⟨w.heap.size, 1, none⟩ = some (.int .i64 a.o) ∧ W.cell? ⟨w.heap.size, 2, none⟩ = some (.int .i64 a.k) ∧ W.cell? ⟨w.heap.size, 3, none⟩ = some (.int .i64 a.n)) (first | exact ⟨c0, c1, c2, c3⟩ | exact ⟨by assumption, by assumption, by assumption, by assumption⟩)
    (first
      | (go_at_call 20; have _t := T1; clear T1 _t; (with_reducible refine (HLA.out _).mono ?_); rintro e w6 ⟨rfl, hb⟩; have X7 := Lib.hid (X6.out.step hb); obtain ⟨d6, e6, f6, g6⟩ := X7.out.cells; clear hb)
      | (go_at_call 18; (with_reducible refine (HF.out _).mono ?_); rintro e w7 ⟨rfl, hb⟩; have X8 := Lib.hid (X7.out.step hb); obtain ⟨d7, e7, f7, g7⟩ := X8.out.cells; clear hb)
      | (go_at_call 14; (with_reducible refine (HC1.out _).mono ?_); rintro e w8 ⟨rfl, hb⟩; have X9 := Lib.hid (X8.out.step hb); obtain ⟨d8, e8, f8, g8⟩ := X9.out.cells; clear hb)
      | (go_at_call 20; (with_reducible refine (HLA.out _).mono ?_); rintro e w9 ⟨rfl, hb⟩; have X10 := Lib.hid (X9.out.step hb); obtain ⟨d9, e9, f9, g9⟩ := X10.out.cells; clear hb)
      | (go_at_call 14; (with_reducible refine (HC2.out _).mono ?_); rintro e w10 ⟨rfl, hb⟩; have X11 := Lib.hid (X10.out.step hb); obtain ⟨d10, e10, f10, g10⟩ := X11.out.cells; clear hb)
            )) | fail
  go_wp2
  go_ret
  exact ⟨rfl, X11.out.bel⟩
set_option maxHeartbeats 3200000 in
set_option maxRecDepth 100000 in
theorem spans_3 (a : TId) (hr : ¬ rightT a) (w : World) : Calls Try.prog 9 #[.agg #[.int .i64 a.d, .int .i64 a.o, .int .i64 a.k, .int .i64 a.n]] w fun e w' => e = .returned (.bool true) ∧ Below w.heap.size w w' := by
  have hw := awake_any progT
  have hA := progT.after a
  have hB : ∀ w, Calls Try.prog 12 #[.agg #[.int .i64 2, .int .i64 1000, .int .i64 4, .int .i64 65535]] w (AftE lastT w) := progT.after lastT
  unfold AftE at hA hB
  rw [after_last] at hB
  have HF := Lib.hid progT.first
  have HLA := Lib.hid progT.last
  have HR := Lib.hid (rright_any a)
  rw [decide_eq_false hr] at HR
  rw [show (afterT a).2 = false from by rw [right_last hr]] at hA
  clear hr
  generalize (afterT a).1 = y at hA
  have H1 := Lib.hid hA
  have H2 := Lib.hid hB
  have XA := Lib.hid (OneI.new w a)
  have T1 : True := trivial
  have T2 : True := trivial
  clear hA hB
  go_enter Try.func9, Try.ntmps9
  go_wp2_with (first
    | (go_at_call 11; refine (hw _).mono ?_; rintro e w1 ⟨rfl, hb⟩; have hx := XA.out.step hb; obtain ⟨x0, x1, x2, x3⟩ := hx.cells; obtain ⟨l0, l1, l2⟩ := hx.lts; have X1 := Lib.hid hx; clear hb hx)
    | (go_at_call 12; (with_reducible refine (H1.out _).mono ?_); rintro e w2 ⟨rfl, hb⟩; have hx := (X1.out).step hb; clear x0 x1 x2 x3 l0 l1 l2; obtain ⟨x0, x1, x2, x3⟩ := hx.cells; obtain ⟨l0, l1, l2⟩ := hx.lts; have X2 := Lib.hid hx; clear hb hx)
    | (go_at_call 25; (with_reducible refine (HR.out _).mono ?_); rintro e w3 ⟨rfl, hb⟩; have hx := (X2.out.alloc (.cells #[.int .i64 y.d, .int .i64 y.o, .int .i64 y.k, .int .i64 y.n] 23)).step hb; clear x0 x1 x2 x3 l0 l1 l2; obtain ⟨x0, x1, x2, x3⟩ := hx.cells; obtain ⟨l0, l1, l2⟩ := hx.lts; have X3 := Lib.hid hx; clear hb hx)
    | (go_at_call 20; (with_reducible refine (HLA.out _).mono ?_); rintro e w4 ⟨rfl, hb⟩; have hx := (X3.out).step hb; clear x0 x1 x2 x3 l0 l1 l2; obtain ⟨x0, x1, x2, x3⟩ := hx.cells; obtain ⟨l0, l1, l2⟩ := hx.lts; have X4 := Lib.hid hx; clear hb hx)
    | (go_at_call 12; (with_reducible refine (H2.out _).mono ?_); rintro e w5 ⟨rfl, hb⟩; have hx := (X4.out).step hb; clear x0 x1 x2 x3 l0 l1 l2; obtain ⟨x0, x1, x2, x3⟩ := hx.cells; obtain ⟨l0, l1, l2⟩ := hx.lts; have X5 := Lib.hid hx; clear hb hx))
  have X6 := Lib.hid ((X5.out.alloc (.cells #[.int .i64 0, .int .i64 0, .int .i64 0, .int .i64 0] 23)))
  go_quiet (fail)
  go_wp2
  go_ret
  exact ⟨rfl, X6.out.bel.trans ⟨rfl, rfl, rfl, Nat.le_refl _, fun _ _ => rfl⟩⟩
theorem spans_law (a : TId) (ha : okI a) (w : World) : Calls Try.prog 9 #[.agg #[.int .i64 a.d, .int .i64 a.o, .int .i64 a.k, .int .i64 a.n]] w fun e w' => e = .returned (.bool true) ∧ Below w.heap.size w w' := by
  by_cases hr : rightT a
  · by_cases hl : a = lastT
    · exact spans_2 a hr hl w
    · exact spans_1 a hr hl w
  · exact spans_3 a hr w
end Go.Proofs.Yticbdodpclnanaa
