/-
  TieAfter: what is behind an id is above it, and no id is between.
-/
import Derived.Test.YticbdodpclnanaaTSort
namespace Go.Proofs.Yticbdodpclnanaa
set_option linter.unusedSimpArgs false
set_option linter.unusedVariables false
open Go.RowKit
/-- Two ids in boxes of one's own, and a third one. -/
structure TwoJ (w W : World) (a b : TId) : Prop where
  ba : W.heap[w.heap.size]? = some (.cells [.int .i64 a.d, .int .i64 a.o, .int .i64 a.k, .int .i64 a.n].toArray 23 (0, 0))
  bb : W.heap[w.heap.size + 1]? = some (.cells [.int .i64 b.d, .int .i64 b.o, .int .i64 b.k, .int .i64 b.n].toArray 23 (0, 0))
  bel : Below w.heap.size w W
theorem TwoJ.new (w : World) (a b : TId) : TwoJ w ((w.alloc (.cells #[.int .i64 a.d, .int .i64 a.o, .int .i64 a.k, .int .i64 a.n] 23)).alloc (.cells #[.int .i64 b.d, .int .i64 b.o, .int .i64 b.k, .int .i64 b.n] 23)) a b := by
  refine ⟨?_, ?_, ((Below.refl _ w).alloc (Nat.le_refl _) _).alloc (by simp) _⟩
  · rw [heap_alloc_old _ _ (by simp)]; exact heap_alloc_new w _
  · have := heap_alloc_new (w.alloc (.cells #[.int .i64 a.d, .int .i64 a.o, .int .i64 a.k, .int .i64 a.n] 23)) (.cells #[.int .i64 b.d, .int .i64 b.o, .int .i64 b.k, .int .i64 b.n] 23)
    simpa using this
theorem TwoJ.step {w W W' : World} {a b : TId} (h : TwoJ w W a b) (k : Below W.heap.size W W') : TwoJ w W' a b :=
  ⟨(k.block _ (Array.getElem?_eq_some_iff.1 h.ba).1).trans h.ba, (k.block _ (Array.getElem?_eq_some_iff.1 h.bb).1).trans h.bb, h.bel.trans (k.mono h.bel.size)⟩
structure ThreeJ (m : Nat) (w W : World) (a b y : TId) : Prop where
  two : TwoJ w W a b
  bm : W.heap[m]? = some (.cells [.int .i64 y.d, .int .i64 y.o, .int .i64 y.k, .int .i64 y.n].toArray 23 (0, 0))
theorem TwoJ.third {w W : World} {a b : TId} (h : TwoJ w W a b) (y : TId) : ThreeJ W.heap.size w (W.alloc (.cells #[.int .i64 y.d, .int .i64 y.o, .int .i64 y.k, .int .i64 y.n] 23)) a b y :=
  ⟨h.step ((Below.refl _ _).alloc (Nat.le_refl _) _), heap_alloc_new W _⟩
theorem ThreeJ.step {m : Nat} {w W W' : World} {a b y : TId} (h : ThreeJ m w W a b y) (k : Below W.heap.size W W') : ThreeJ m w W' a b y :=
  ⟨h.two.step k, (k.block _ (Array.getElem?_eq_some_iff.1 h.bm).1).trans h.bm⟩
theorem ThreeJ.drew {m : Nat} {w W : World} {a b y : TId} (h : ThreeJ m w W a b y) : ThreeJ m w W.drew a b y := h.step (Below.refl _ _).drew
theorem TwoJ.lts {w W : World} {a b : TId} (h : TwoJ w W a b) : w.heap.size < W.heap.size ∧ w.heap.size + 1 < W.heap.size ∧ w.heap.size ≠ W.heap.size ∧ w.heap.size + 1 ≠ W.heap.size ∧ W.heap.size ≠ w.heap.size ∧ W.heap.size ≠ w.heap.size + 1 := by
  have := (Array.getElem?_eq_some_iff.1 h.bb).1
  omega
theorem TwoJ.cells {w W : World} {a b : TId} (h : TwoJ w W a b) : (W.cell? ⟨w.heap.size, 0, none⟩ = some (.int .i64 a.d) ∧ W.cell? ⟨w.heap.size, 1, none⟩ = some (.int .i64 a.o) ∧ W.cell? ⟨w.heap.size, 2, none⟩ = some (.int .i64 a.k) ∧ W.cell? ⟨w.heap.size, 3, none⟩ = some (.int .i64 a.n)) ∧ W.cell? ⟨w.heap.size + 1, 0, none⟩ = some (.int .i64 b.d) ∧ W.cell? ⟨w.heap.size + 1, 1, none⟩ = some (.int .i64 b.o) ∧ W.cell? ⟨w.heap.size + 1, 2, none⟩ = some (.int .i64 b.k) ∧ W.cell? ⟨w.heap.size + 1, 3, none⟩ = some (.int .i64 b.n) := by
  simp [World.cell?, h.ba, h.bb]
theorem ThreeJ.cells {m : Nat} {w W : World} {a b y : TId} (h : ThreeJ m w W a b y) : (W.cell? ⟨w.heap.size, 0, none⟩ = some (.int .i64 a.d) ∧ W.cell? ⟨w.heap.size, 1, none⟩ = some (.int .i64 a.o) ∧ W.cell? ⟨w.heap.size, 2, none⟩ = some (.int .i64 a.k) ∧ W.cell? ⟨w.heap.size, 3, none⟩ = some (.int .i64 a.n)) ∧ (W.cell? ⟨w.heap.size + 1, 0, none⟩ = some (.int .i64 b.d) ∧ W.cell? ⟨w.heap.size + 1, 1, none⟩ = some (.int .i64 b.o) ∧ W.cell? ⟨w.heap.size + 1, 2, none⟩ = some (.int .i64 b.k) ∧ W.cell? ⟨w.heap.size + 1, 3, none⟩ = some (.int .i64 b.n)) ∧ W.cell? ⟨m, 0, none⟩ = some (.int .i64 y.d) ∧ W.cell? ⟨m, 1, none⟩ = some (.int .i64 y.o) ∧ W.cell? ⟨m, 2, none⟩ = some (.int .i64 y.k) ∧ W.cell? ⟨m, 3, none⟩ = some (.int .i64 y.n) := by
  simp [World.cell?, h.two.ba, h.two.bb, h.bm]
set_option maxHeartbeats 3200000 in
set_option maxRecDepth 100000 in
theorem aft_1 (a b : TId) (hr : ¬ rightT a) (w : World) : Calls Try.prog 6 #[.agg #[.int .i64 a.d, .int .i64 a.o, .int .i64 a.k, .int .i64 a.n], .agg #[.int .i64 b.d, .int .i64 b.o, .int .i64 b.k, .int .i64 b.n]] w fun e w' => e = .returned (.bool true) ∧ Below w.heap.size w w' := by
  have hw := awake_any progT
  have HLA := Lib.hid progT.last
  have hA : ∀ w, Calls Try.prog 12 #[.agg #[.int .i64 a.d, .int .i64 a.o, .int .i64 a.k, .int .i64 a.n]] w fun e w' => e = .returned (.tuple #[.agg #[.int .i64 0, .int .i64 0, .int .i64 0, .int .i64 0], .bool false]) ∧ Below w.heap.size w w' := fun w => by
    have h := progT.after a w
    unfold AftE at h
    rw [right_last hr] at h
    exact h
  have H1 := Lib.hid hA
  clear hA
  have heq : ∀ W, (Op.equalIn 10000 23 (.agg #[.int .i64 a.d, .int .i64 a.o, .int .i64 a.k, .int .i64 a.n]) (.agg #[.int .i64 2, .int .i64 1000, .int .i64 4, .int .i64 65535])).run Try.prog W = .ok false W := fun W => by rw [eq_id a ⟨2, 1000, 4, 65535⟩ W, decide_eq_false (show ¬ a = ⟨2, 1000, 4, 65535⟩ from fun e => hr (by rw [e]; decide))]
  have HR := Lib.hid (rright_any a)
  rw [decide_eq_false hr] at HR
  clear hr
  have XA := Lib.hid (TwoJ.new w a b)
  go_enter Try.func6, Try.ntmps6
  go_wp2_with (first
    | (go_at_call 11; refine (hw _).mono ?_; rintro e w1 ⟨rfl, hb⟩; have hx := XA.out.step hb; obtain ⟨⟨x0, x1, x2, x3⟩, y0, y1, y2, y3⟩ := hx.cells; obtain ⟨l0, l1, l2, l3, l4, l5⟩ := hx.lts; have X1 := Lib.hid hx; clear hb hx)
    | (go_at_call 12; (with_reducible refine (H1.out _).mono ?_); rintro e w2 ⟨rfl, hb⟩; have X2 : RowKit.Hid (ThreeJ w2.heap.size w (w2.alloc (.cells #[.int .i64 0, .int .i64 0, .int .i64 0, .int .i64 0] 23)) a b zeroT) := (X1.out.step hb).third zeroT; clear x0 x1 x2 x3 y0 y1 y2 y3 l0 l1 l2 l3 l4 l5; have hx := X1.out.step hb; obtain ⟨⟨x0, x1, x2, x3⟩, y0, y1, y2, y3⟩ := hx.cells; obtain ⟨l0, l1, l2, l3, l4, l5⟩ := hx.lts; clear hb hx))
  have X3 := Lib.hid X2.out.drew
  clear x0 x1 x2 x3 y0 y1 y2 y3 l0 l1 l2 l3 l4 l5
  obtain ⟨⟨xa3, xb3, xc3, xd3⟩, ⟨ya3, yb3, yc3, yd3⟩, za3, zb3, zc3, zd3⟩ := X3.out.cells
  first | (go_region_held (fun W => (W.cell? ⟨w.heap.size, 0, none⟩ = some (.int .i64 a.d) ∧ W.cell? ⟨w.heap.size, 1, none⟩ = some (.int .i64 a.o) ∧ W.cell? ⟨w.heap.size, 2, none⟩ = some (.int .i64 a.k) ∧ W.cell? ⟨w.heap.size, 3, none⟩ = some (.int .i64 a.n)) ∧ (W.cell? ⟨w.heap.size + 1, 0, none⟩ = some (.int .i64 b.d) ∧ W.cell? ⟨w.heap.size + 1, 1, none⟩ = some (.int .i64 b.o) ∧ W.cell? ⟨w.heap.size + 1, 2, none⟩ = some (.int .i64 b.k) ∧ W.cell? ⟨w.heap.size + 1, 3, none⟩ = some (.int .i64 b.n)) ∧ W.cell? ⟨w2.heap.size, 0, none⟩ = some (.int .i64 0) ∧ W.cell? ⟨w2.heap.size, 1, none⟩ = some (.int .i64 0) ∧ W.cell? ⟨w2.heap.size, 2, none⟩ = some (.int .i64 0) ∧ W.cell? ⟨w2.heap.size, 3, none⟩ = some (.int .i64 0)) (first | exact ⟨⟨xa3, xb3, xc3, xd3⟩, ⟨ya3, yb3, yc3, yd3⟩, za3, zb3, zc3, zd3⟩ | exact ⟨⟨by assumption, by assumption, by assumption, by assumption⟩, ⟨by assumption, by assumption, by assumption, by assumption⟩, by assumption, by assumption, by assumption, by assumption⟩)
            (first
              | (go_at_call 20; (with_reducible refine (HLA.out _).mono ?_); rintro e w4 ⟨rfl, hb⟩; have X4 := Lib.hid (X3.out.step hb); obtain ⟨⟨xa4, xb4, xc4, xd4⟩, ⟨ya4, yb4, yc4, yd4⟩, za4, zb4, zc4, zd4⟩ := X4.out.cells; clear hb)
              | (go_at_call 25; (with_reducible refine (HR.out _).mono ?_); rintro e w5 ⟨rfl, hb⟩; have X5 := Lib.hid (X4.out.step hb); obtain ⟨⟨xa5, xb5, xc5, xd5⟩, ⟨ya5, yb5, yc5, yd5⟩, za5, zb5, zc5, zd5⟩ := X5.out.cells; clear hb)
            )) | fail
  go_wp2
  go_ret
  exact ⟨rfl, X5.out.two.bel⟩
set_option maxHeartbeats 3200000 in
set_option maxRecDepth 100000 in
theorem aft_2 (a b : TId) (hl : a = lastT) (w : World) : Calls Try.prog 6 #[.agg #[.int .i64 a.d, .int .i64 a.o, .int .i64 a.k, .int .i64 a.n], .agg #[.int .i64 b.d, .int .i64 b.o, .int .i64 b.k, .int .i64 b.n]] w fun e w' => e = .returned (.bool true) ∧ Below w.heap.size w w' := by
  have hw := awake_any progT
  have HLA := Lib.hid progT.last
  have hA : ∀ w, Calls Try.prog 12 #[.agg #[.int .i64 a.d, .int .i64 a.o, .int .i64 a.k, .int .i64 a.n]] w fun e w' => e = .returned (.tuple #[.agg #[.int .i64 0, .int .i64 0, .int .i64 0, .int .i64 0], .bool false]) ∧ Below w.heap.size w w' := fun w => by
    have h := progT.after a w
    unfold AftE at h
    rw [show afterT a = (zeroT, false) from by rw [hl]; rfl] at h
    exact h
  have H1 := Lib.hid hA
  clear hA
  have heq : ∀ W, (Op.equalIn 10000 23 (.agg #[.int .i64 a.d, .int .i64 a.o, .int .i64 a.k, .int .i64 a.n]) (.agg #[.int .i64 2, .int .i64 1000, .int .i64 4, .int .i64 65535])).run Try.prog W = .ok true W := fun W => by rw [eq_id a ⟨2, 1000, 4, 65535⟩ W, decide_eq_true (show a = ⟨2, 1000, 4, 65535⟩ from hl)]
  clear hl
  have XA := Lib.hid (TwoJ.new w a b)
  go_enter Try.func6, Try.ntmps6
  go_wp2_with (first
    | (go_at_call 11; refine (hw _).mono ?_; rintro e w1 ⟨rfl, hb⟩; have hx := XA.out.step hb; obtain ⟨⟨x0, x1, x2, x3⟩, y0, y1, y2, y3⟩ := hx.cells; obtain ⟨l0, l1, l2, l3, l4, l5⟩ := hx.lts; have X1 := Lib.hid hx; clear hb hx)
    | (go_at_call 12; (with_reducible refine (H1.out _).mono ?_); rintro e w2 ⟨rfl, hb⟩; have X2 : RowKit.Hid (ThreeJ w2.heap.size w (w2.alloc (.cells #[.int .i64 0, .int .i64 0, .int .i64 0, .int .i64 0] 23)) a b zeroT) := (X1.out.step hb).third zeroT; clear x0 x1 x2 x3 y0 y1 y2 y3 l0 l1 l2 l3 l4 l5; have hx := X1.out.step hb; obtain ⟨⟨x0, x1, x2, x3⟩, y0, y1, y2, y3⟩ := hx.cells; obtain ⟨l0, l1, l2, l3, l4, l5⟩ := hx.lts; clear hb hx))
  have X3 := Lib.hid X2.out.drew
  clear x0 x1 x2 x3 y0 y1 y2 y3 l0 l1 l2 l3 l4 l5
  obtain ⟨⟨xa3, xb3, xc3, xd3⟩, ⟨ya3, yb3, yc3, yd3⟩, za3, zb3, zc3, zd3⟩ := X3.out.cells
  first
    | (go_region_with (first
              | (go_at_call 20; (with_reducible refine (HLA.out _).mono ?_); rintro e w4 ⟨rfl, hb⟩; have X4 := Lib.hid (X3.out.step hb); obtain ⟨⟨xa4, xb4, xc4, xd4⟩, ⟨ya4, yb4, yc4, yd4⟩, za4, zb4, zc4, zd4⟩ := X4.out.cells; clear hb)))
    | fail
  all_goals go_wp2
  all_goals go_ret
  all_goals exact ⟨rfl, X4.out.two.bel⟩
set_option maxHeartbeats 3200000 in
set_option maxRecDepth 100000 in
theorem aft_3 (a b : TId) (hr : rightT a) (hl : a ≠ lastT) (hn : ¬ lexT a b) (w : World) : Calls Try.prog 6 #[.agg #[.int .i64 a.d, .int .i64 a.o, .int .i64 a.k, .int .i64 a.n], .agg #[.int .i64 b.d, .int .i64 b.o, .int .i64 b.k, .int .i64 b.n]] w fun e w' => e = .returned (.bool true) ∧ Below w.heap.size w w' := by
  have hw := awake_any progT
  have HLA := Lib.hid progT.last
  have hA := progT.after a
  unfold AftE at hA
  obtain ⟨is, y, hy, hyr, hyb⟩ : ∃ is y, afterT a = (y, true) ∧ rightT y ∧ (lexT a y ∧ ∀ b, lexT a b → lexT b y → ¬ rightT b) := by
    have h := after_is hr hl
    exact ⟨true, _, Prod.ext rfl h.1, h.2.2.1, h.2.1, h.2.2.2⟩
  rw [hy] at hA
  have H1 := Lib.hid hA
  obtain ⟨c1, hc1⟩ : ∃ c, cmpT a b = c := ⟨_, rfl⟩
  obtain ⟨c2, hc2⟩ : ∃ c, cmpT b y = c := ⟨_, rfl⟩
  obtain ⟨c3, hc3⟩ : ∃ c, cmpT a y = c := ⟨_, rfl⟩
  obtain ⟨c4, hc4⟩ : ∃ c, cmpT y lastT = c := ⟨_, rfl⟩
  have h3 : decide (c3 < 0) = true := by rw [← hc3]; exact decide_eq_true (cmp_neg.2 hyb.1)
  have h4 : decide (c4 ≤ 0) = true := by
    rw [← hc4]
    have : ¬ 0 < cmpT y lastT := fun q => (right_span hyr).2 (cmp_pos.1 q)
    exact decide_eq_true (by omega)
  have C1 := Lib.hid (progT.cmp a b)
  have C2 := Lib.hid (progT.cmp b y)
  have C3 := Lib.hid (progT.cmp a y)
  have hc4' : ∀ w, Calls Try.prog 14 #[.agg #[.int .i64 y.d, .int .i64 y.o, .int .i64 y.k, .int .i64 y.n], .agg #[.int .i64 2, .int .i64 1000, .int .i64 4, .int .i64 65535]] w fun e w' => e = .returned (.int .i64 (cmpT y lastT)) ∧ Below w.heap.size w w' := progT.cmp y lastT
  have C4 := Lib.hid hc4'
  rw [hc1] at C1
  rw [hc2] at C2
  rw [hc3] at C3
  rw [hc4] at C4
  have HR := Lib.hid (rright_any b)
  have h1 : decide (c1 < 0) = false := by rw [← hc1]; exact decide_eq_false (fun q => hn (cmp_neg.1 q))
  clear hn
  clear hA hc1 hc2 hc3 hc4 hc4' hy hyr hyb hr hl
  have XA := Lib.hid (TwoJ.new w a b)
  go_enter Try.func6, Try.ntmps6
  go_wp2_with (first
    | (go_at_call 11; refine (hw _).mono ?_; rintro e w1 ⟨rfl, hb⟩; have hx := XA.out.step hb; obtain ⟨⟨x0, x1, x2, x3⟩, y0, y1, y2, y3⟩ := hx.cells; obtain ⟨l0, l1, l2, l3, l4, l5⟩ := hx.lts; have X1 := Lib.hid hx; clear hb hx)
    | (go_at_call 12; (with_reducible refine (H1.out _).mono ?_); rintro e w2 ⟨rfl, hb⟩; have X2 : RowKit.Hid (ThreeJ w2.heap.size w (w2.alloc (.cells #[.int .i64 y.d, .int .i64 y.o, .int .i64 y.k, .int .i64 y.n] 23)) a b y) := (X1.out.step hb).third y; clear x0 x1 x2 x3 y0 y1 y2 y3 l0 l1 l2 l3 l4 l5; have hx := X1.out.step hb; obtain ⟨⟨x0, x1, x2, x3⟩, y0, y1, y2, y3⟩ := hx.cells; obtain ⟨l0, l1, l2, l3, l4, l5⟩ := hx.lts; clear hb hx)
    | (go_at_call 14; (with_reducible refine (C1.out _).mono ?_); rintro e w3 ⟨rfl, hb⟩; have X3 := Lib.hid (X2.out.step hb); clear x0 x1 x2 x3 y0 y1 y2 y3 l0 l1 l2 l3 l4 l5; obtain ⟨⟨xa3, xb3, xc3, xd3⟩, ⟨ya3, yb3, yc3, yd3⟩, za3, zb3, zc3, zd3⟩ := X3.out.cells; clear hb))
  have X4 := Lib.hid X3.out.drew
  clear xa3 xb3 xc3 xd3 ya3 yb3 yc3 yd3 za3 zb3 zc3 zd3
  obtain ⟨⟨xa4, xb4, xc4, xd4⟩, ⟨ya4, yb4, yc4, yd4⟩, za4, zb4, zc4, zd4⟩ := X4.out.cells
  first
    | (go_region_with (first
              | (go_at_call 14; (with_reducible refine (C3.out _).mono ?_); rintro e w5 ⟨rfl, hb⟩; have X5 := Lib.hid (X4.out.step hb); obtain ⟨⟨xa5, xb5, xc5, xd5⟩, ⟨ya5, yb5, yc5, yd5⟩, za5, zb5, zc5, zd5⟩ := X5.out.cells; clear hb)
              | (go_at_call 20; (with_reducible refine (HLA.out _).mono ?_); rintro e w6 ⟨rfl, hb⟩; have X6 := Lib.hid (X5.out.step hb); obtain ⟨⟨xa6, xb6, xc6, xd6⟩, ⟨ya6, yb6, yc6, yd6⟩, za6, zb6, zc6, zd6⟩ := X6.out.cells; clear hb)
              | (go_at_call 14; (with_reducible refine (C4.out _).mono ?_); rintro e w7 ⟨rfl, hb⟩; have X7 := Lib.hid (X6.out.step hb); obtain ⟨⟨xa7, xb7, xc7, xd7⟩, ⟨ya7, yb7, yc7, yd7⟩, za7, zb7, zc7, zd7⟩ := X7.out.cells; clear hb)))
    | fail
  all_goals go_wp2
  all_goals go_ret
  all_goals exact ⟨rfl, X7.out.two.bel⟩
set_option maxHeartbeats 3200000 in
set_option maxRecDepth 100000 in
theorem aft_4 (a b : TId) (hr : rightT a) (hl : a ≠ lastT) (hp : lexT a b) (hn : ¬ lexT b (afterT a).1) (w : World) : Calls Try.prog 6 #[.agg #[.int .i64 a.d, .int .i64 a.o, .int .i64 a.k, .int .i64 a.n], .agg #[.int .i64 b.d, .int .i64 b.o, .int .i64 b.k, .int .i64 b.n]] w fun e w' => e = .returned (.bool true) ∧ Below w.heap.size w w' := by
  have hw := awake_any progT
  have HLA := Lib.hid progT.last
  have hA := progT.after a
  unfold AftE at hA
  obtain ⟨is, y, hy, hyr, hyb⟩ : ∃ is y, afterT a = (y, true) ∧ rightT y ∧ (lexT a y ∧ ∀ b, lexT a b → lexT b y → ¬ rightT b) := by
    have h := after_is hr hl
    exact ⟨true, _, Prod.ext rfl h.1, h.2.2.1, h.2.1, h.2.2.2⟩
  rw [hy] at hA
  have H1 := Lib.hid hA
  obtain ⟨c1, hc1⟩ : ∃ c, cmpT a b = c := ⟨_, rfl⟩
  obtain ⟨c2, hc2⟩ : ∃ c, cmpT b y = c := ⟨_, rfl⟩
  obtain ⟨c3, hc3⟩ : ∃ c, cmpT a y = c := ⟨_, rfl⟩
  obtain ⟨c4, hc4⟩ : ∃ c, cmpT y lastT = c := ⟨_, rfl⟩
  have h3 : decide (c3 < 0) = true := by rw [← hc3]; exact decide_eq_true (cmp_neg.2 hyb.1)
  have h4 : decide (c4 ≤ 0) = true := by
    rw [← hc4]
    have : ¬ 0 < cmpT y lastT := fun q => (right_span hyr).2 (cmp_pos.1 q)
    exact decide_eq_true (by omega)
  have C1 := Lib.hid (progT.cmp a b)
  have C2 := Lib.hid (progT.cmp b y)
  have C3 := Lib.hid (progT.cmp a y)
  have hc4' : ∀ w, Calls Try.prog 14 #[.agg #[.int .i64 y.d, .int .i64 y.o, .int .i64 y.k, .int .i64 y.n], .agg #[.int .i64 2, .int .i64 1000, .int .i64 4, .int .i64 65535]] w fun e w' => e = .returned (.int .i64 (cmpT y lastT)) ∧ Below w.heap.size w w' := progT.cmp y lastT
  have C4 := Lib.hid hc4'
  rw [hc1] at C1
  rw [hc2] at C2
  rw [hc3] at C3
  rw [hc4] at C4
  have HR := Lib.hid (rright_any b)
  have h1 : decide (c1 < 0) = true := by rw [← hc1]; exact decide_eq_true (cmp_neg.2 hp)
  have h2 : decide (c2 < 0) = false := by rw [← hc2]; exact decide_eq_false (fun q => hn (by rw [hy]; exact cmp_neg.1 q))
  clear hp hn
  clear hA hc1 hc2 hc3 hc4 hc4' hy hyr hyb hr hl
  have XA := Lib.hid (TwoJ.new w a b)
  go_enter Try.func6, Try.ntmps6
  go_wp2_with (first
    | (go_at_call 11; refine (hw _).mono ?_; rintro e w1 ⟨rfl, hb⟩; have hx := XA.out.step hb; obtain ⟨⟨x0, x1, x2, x3⟩, y0, y1, y2, y3⟩ := hx.cells; obtain ⟨l0, l1, l2, l3, l4, l5⟩ := hx.lts; have X1 := Lib.hid hx; clear hb hx)
    | (go_at_call 12; (with_reducible refine (H1.out _).mono ?_); rintro e w2 ⟨rfl, hb⟩; have X2 : RowKit.Hid (ThreeJ w2.heap.size w (w2.alloc (.cells #[.int .i64 y.d, .int .i64 y.o, .int .i64 y.k, .int .i64 y.n] 23)) a b y) := (X1.out.step hb).third y; clear x0 x1 x2 x3 y0 y1 y2 y3 l0 l1 l2 l3 l4 l5; have hx := X1.out.step hb; obtain ⟨⟨x0, x1, x2, x3⟩, y0, y1, y2, y3⟩ := hx.cells; obtain ⟨l0, l1, l2, l3, l4, l5⟩ := hx.lts; clear hb hx)
    | (go_at_call 14; (with_reducible refine (C1.out _).mono ?_); rintro e w3 ⟨rfl, hb⟩; have X3 := Lib.hid (X2.out.step hb); clear x0 x1 x2 x3 y0 y1 y2 y3 l0 l1 l2 l3 l4 l5; obtain ⟨⟨xa3, xb3, xc3, xd3⟩, ⟨ya3, yb3, yc3, yd3⟩, za3, zb3, zc3, zd3⟩ := X3.out.cells; clear hb)
    | (go_at_call 14; (with_reducible refine (C2.out _).mono ?_); rintro e w4 ⟨rfl, hb⟩; have X4 := Lib.hid (X3.out.step hb); clear xa3 xb3 xc3 xd3 ya3 yb3 yc3 yd3 za3 zb3 zc3 zd3; obtain ⟨⟨xa4, xb4, xc4, xd4⟩, ⟨ya4, yb4, yc4, yd4⟩, za4, zb4, zc4, zd4⟩ := X4.out.cells; clear hb))
  have X5 := Lib.hid X4.out.drew
  clear xa4 xb4 xc4 xd4 ya4 yb4 yc4 yd4 za4 zb4 zc4 zd4
  obtain ⟨⟨xa5, xb5, xc5, xd5⟩, ⟨ya5, yb5, yc5, yd5⟩, za5, zb5, zc5, zd5⟩ := X5.out.cells
  first
    | (go_region_with (first
              | (go_at_call 14; (with_reducible refine (C3.out _).mono ?_); rintro e w6 ⟨rfl, hb⟩; have X6 := Lib.hid (X5.out.step hb); obtain ⟨⟨xa6, xb6, xc6, xd6⟩, ⟨ya6, yb6, yc6, yd6⟩, za6, zb6, zc6, zd6⟩ := X6.out.cells; clear hb)
              | (go_at_call 20; (with_reducible refine (HLA.out _).mono ?_); rintro e w7 ⟨rfl, hb⟩; have X7 := Lib.hid (X6.out.step hb); obtain ⟨⟨xa7, xb7, xc7, xd7⟩, ⟨ya7, yb7, yc7, yd7⟩, za7, zb7, zc7, zd7⟩ := X7.out.cells; clear hb)
              | (go_at_call 14; (with_reducible refine (C4.out _).mono ?_); rintro e w8 ⟨rfl, hb⟩; have X8 := Lib.hid (X7.out.step hb); obtain ⟨⟨xa8, xb8, xc8, xd8⟩, ⟨ya8, yb8, yc8, yd8⟩, za8, zb8, zc8, zd8⟩ := X8.out.cells; clear hb)))
    | fail
  all_goals go_wp2
  all_goals go_ret
  all_goals exact ⟨rfl, X8.out.two.bel⟩
set_option maxHeartbeats 3200000 in
set_option maxRecDepth 100000 in
theorem aft_5 (a b : TId) (hr : rightT a) (hl : a ≠ lastT) (hp : lexT a b) (hq : lexT b (afterT a).1) (w : World) : Calls Try.prog 6 #[.agg #[.int .i64 a.d, .int .i64 a.o, .int .i64 a.k, .int .i64 a.n], .agg #[.int .i64 b.d, .int .i64 b.o, .int .i64 b.k, .int .i64 b.n]] w fun e w' => e = .returned (.bool true) ∧ Below w.heap.size w w' := by
  have hw := awake_any progT
  have HLA := Lib.hid progT.last
  have hA := progT.after a
  unfold AftE at hA
  obtain ⟨is, y, hy, hyr, hyb⟩ : ∃ is y, afterT a = (y, true) ∧ rightT y ∧ (lexT a y ∧ ∀ b, lexT a b → lexT b y → ¬ rightT b) := by
    have h := after_is hr hl
    exact ⟨true, _, Prod.ext rfl h.1, h.2.2.1, h.2.1, h.2.2.2⟩
  rw [hy] at hA
  have H1 := Lib.hid hA
  obtain ⟨c1, hc1⟩ : ∃ c, cmpT a b = c := ⟨_, rfl⟩
  obtain ⟨c2, hc2⟩ : ∃ c, cmpT b y = c := ⟨_, rfl⟩
  obtain ⟨c3, hc3⟩ : ∃ c, cmpT a y = c := ⟨_, rfl⟩
  obtain ⟨c4, hc4⟩ : ∃ c, cmpT y lastT = c := ⟨_, rfl⟩
  have h3 : decide (c3 < 0) = true := by rw [← hc3]; exact decide_eq_true (cmp_neg.2 hyb.1)
  have h4 : decide (c4 ≤ 0) = true := by
    rw [← hc4]
    have : ¬ 0 < cmpT y lastT := fun q => (right_span hyr).2 (cmp_pos.1 q)
    exact decide_eq_true (by omega)
  have C1 := Lib.hid (progT.cmp a b)
  have C2 := Lib.hid (progT.cmp b y)
  have C3 := Lib.hid (progT.cmp a y)
  have hc4' : ∀ w, Calls Try.prog 14 #[.agg #[.int .i64 y.d, .int .i64 y.o, .int .i64 y.k, .int .i64 y.n], .agg #[.int .i64 2, .int .i64 1000, .int .i64 4, .int .i64 65535]] w fun e w' => e = .returned (.int .i64 (cmpT y lastT)) ∧ Below w.heap.size w w' := progT.cmp y lastT
  have C4 := Lib.hid hc4'
  rw [hc1] at C1
  rw [hc2] at C2
  rw [hc3] at C3
  rw [hc4] at C4
  have HR := Lib.hid (rright_any b)
  have h1 : decide (c1 < 0) = true := by rw [← hc1]; exact decide_eq_true (cmp_neg.2 hp)
  have h2 : decide (c2 < 0) = true := by rw [← hc2]; exact decide_eq_true (cmp_neg.2 (by rw [hy] at hq; exact hq))
  rw [decide_eq_false (hyb.2 b hp (by rw [hy] at hq; exact hq))] at HR
  clear hp hq
  clear hA hc1 hc2 hc3 hc4 hc4' hy hyr hyb hr hl
  have XA := Lib.hid (TwoJ.new w a b)
  go_enter Try.func6, Try.ntmps6
  go_wp2_with (first
    | (go_at_call 11; refine (hw _).mono ?_; rintro e w1 ⟨rfl, hb⟩; have hx := XA.out.step hb; obtain ⟨⟨x0, x1, x2, x3⟩, y0, y1, y2, y3⟩ := hx.cells; obtain ⟨l0, l1, l2, l3, l4, l5⟩ := hx.lts; have X1 := Lib.hid hx; clear hb hx)
    | (go_at_call 12; (with_reducible refine (H1.out _).mono ?_); rintro e w2 ⟨rfl, hb⟩; have X2 : RowKit.Hid (ThreeJ w2.heap.size w (w2.alloc (.cells #[.int .i64 y.d, .int .i64 y.o, .int .i64 y.k, .int .i64 y.n] 23)) a b y) := (X1.out.step hb).third y; clear x0 x1 x2 x3 y0 y1 y2 y3 l0 l1 l2 l3 l4 l5; have hx := X1.out.step hb; obtain ⟨⟨x0, x1, x2, x3⟩, y0, y1, y2, y3⟩ := hx.cells; obtain ⟨l0, l1, l2, l3, l4, l5⟩ := hx.lts; clear hb hx)
    | (go_at_call 14; (with_reducible refine (C1.out _).mono ?_); rintro e w3 ⟨rfl, hb⟩; have X3 := Lib.hid (X2.out.step hb); clear x0 x1 x2 x3 y0 y1 y2 y3 l0 l1 l2 l3 l4 l5; obtain ⟨⟨xa3, xb3, xc3, xd3⟩, ⟨ya3, yb3, yc3, yd3⟩, za3, zb3, zc3, zd3⟩ := X3.out.cells; clear hb)
    | (go_at_call 14; (with_reducible refine (C2.out _).mono ?_); rintro e w4 ⟨rfl, hb⟩; have X4 := Lib.hid (X3.out.step hb); clear xa3 xb3 xc3 xd3 ya3 yb3 yc3 yd3 za3 zb3 zc3 zd3; obtain ⟨⟨xa4, xb4, xc4, xd4⟩, ⟨ya4, yb4, yc4, yd4⟩, za4, zb4, zc4, zd4⟩ := X4.out.cells; clear hb))
  have X5 := Lib.hid X4.out.drew
  clear xa4 xb4 xc4 xd4 ya4 yb4 yc4 yd4 za4 zb4 zc4 zd4
  obtain ⟨⟨xa5, xb5, xc5, xd5⟩, ⟨ya5, yb5, yc5, yd5⟩, za5, zb5, zc5, zd5⟩ := X5.out.cells
  first | (go_region_held (fun W => (W.cell? ⟨w.heap.size, 0, none⟩ = some (.int .i64 a.d) ∧ W.cell? ⟨w.heap.size, 1, none⟩ = some (.int .i64 a.o) ∧ W.cell? ⟨w.heap.size, 2, none⟩ = some (.int .i64 a.k) ∧ W.cell? ⟨w.heap.size, 3, none⟩ = some (.int .i64 a.n)) ∧ (W.cell? ⟨w.heap.size + 1, 0, none⟩ = some (.int .i64 b.d) ∧ W.cell? ⟨w.heap.size + 1, 1, none⟩ = some (.int .i64 b.o) ∧ W.cell? ⟨w.heap.size + 1, 2, none⟩ = some (.int .i64 b.k) ∧ W.cell? ⟨w.heap.size + 1, 3, none⟩ = some (.int .i64 b.n)) ∧ W.cell? ⟨w2.heap.size, 0, none⟩ = some (.int .i64 y.d) ∧ W.cell? ⟨w2.heap.size, 1, none⟩ = some (.int .i64 y.o) ∧ W.cell? ⟨w2.heap.size, 2, none⟩ = some (.int .i64 y.k) ∧ W.cell? ⟨w2.heap.size, 3, none⟩ = some (.int .i64 y.n)) (first | exact ⟨⟨xa5, xb5, xc5, xd5⟩, ⟨ya5, yb5, yc5, yd5⟩, za5, zb5, zc5, zd5⟩ | exact ⟨⟨by assumption, by assumption, by assumption, by assumption⟩, ⟨by assumption, by assumption, by assumption, by assumption⟩, by assumption, by assumption, by assumption, by assumption⟩)
            (first
              | (go_at_call 14; (with_reducible refine (C3.out _).mono ?_); rintro e w6 ⟨rfl, hb⟩; have X6 := Lib.hid (X5.out.step hb); obtain ⟨⟨xa6, xb6, xc6, xd6⟩, ⟨ya6, yb6, yc6, yd6⟩, za6, zb6, zc6, zd6⟩ := X6.out.cells; clear hb)
              | (go_at_call 25; (with_reducible refine (HR.out _).mono ?_); rintro e w7 ⟨rfl, hb⟩; have X7 := Lib.hid (X6.out.step hb); obtain ⟨⟨xa7, xb7, xc7, xd7⟩, ⟨ya7, yb7, yc7, yd7⟩, za7, zb7, zc7, zd7⟩ := X7.out.cells; clear hb)
              | (go_at_call 20; (with_reducible refine (HLA.out _).mono ?_); rintro e w8 ⟨rfl, hb⟩; have X8 := Lib.hid (X7.out.step hb); obtain ⟨⟨xa8, xb8, xc8, xd8⟩, ⟨ya8, yb8, yc8, yd8⟩, za8, zb8, zc8, zd8⟩ := X8.out.cells; clear hb)
              | (go_at_call 14; (with_reducible refine (C4.out _).mono ?_); rintro e w9 ⟨rfl, hb⟩; have X9 := Lib.hid (X8.out.step hb); obtain ⟨⟨xa9, xb9, xc9, xd9⟩, ⟨ya9, yb9, yc9, yd9⟩, za9, zb9, zc9, zd9⟩ := X9.out.cells; clear hb)
            )) | fail
  go_wp2
  go_ret
  exact ⟨rfl, X9.out.two.bel⟩
theorem after_law (a : TId) (ha : okI a) (b : TId) (hb : okI b) (w : World) : Calls Try.prog 6 #[.agg #[.int .i64 a.d, .int .i64 a.o, .int .i64 a.k, .int .i64 a.n], .agg #[.int .i64 b.d, .int .i64 b.o, .int .i64 b.k, .int .i64 b.n]] w fun e w' => e = .returned (.bool true) ∧ Below w.heap.size w w' := by
  by_cases hr : rightT a
  · by_cases hl : a = lastT
    · exact aft_2 a b hl w
    · by_cases h1 : lexT a b
      · by_cases h2 : lexT b (afterT a).1
        · exact aft_5 a b hr hl h1 h2 w
        · exact aft_4 a b hr hl h1 h2 w
      · exact aft_3 a b hr hl h1 w
  · exact aft_1 a b hr w
end Go.Proofs.Yticbdodpclnanaa
