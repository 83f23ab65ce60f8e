/-
  THE PROGRAM'S After.
-/
import Derived.Test.YtjfnpciecgemeaaTPRight
import Derived.Test.YtjfnpciecgemeaaTSame
import Derived.Test.YtjfnpciecgemeaaTAft
namespace Go.Proofs.Ytjfnpciecgemeaa.ti
set_option linter.unusedSimpArgs false
set_option linter.unusedVariables false
open Go.RowKit
/-- The boxes of After: the id, what is handed back, the first and the last one. -/
structure AftS (N : Nat) (x : TId) (w W : World) : Prop where
  r : RgtS w.heap.size N x w W
  bz : W.heap[w.heap.size + 1]? = some (.cells [.int .i64 0, .int .i64 0, .int .i64 0, .int .i64 0].toArray 24 (0, 0))
  lt : w.heap.size + 1 < N
theorem AftS.new {x : TId} {w V : World} (hx : V.heap[w.heap.size]? = some (.cells [.int .i64 x.d, .int .i64 x.o, .int .i64 x.k, .int .i64 x.n].toArray 24 (0, 0))) (hz : V.heap[w.heap.size + 1]? = some (.cells [.int .i64 0, .int .i64 0, .int .i64 0, .int .i64 0].toArray 24 (0, 0))) (hb : Below w.heap.size w V) :
    AftS V.heap.size x w ((V.alloc (.cells #[.int .i64 1, .int .i64 1, .int .i64 1, .int .i64 0] 24)).alloc (.cells #[.int .i64 2, .int .i64 1000, .int .i64 4, .int .i64 65535] 24)) := by
  have hn := (Array.getElem?_eq_some_iff.1 hz).1
  refine ⟨RgtS.new hx hb, ?_, hn⟩
  rw [heap_alloc_old _ _ (by simp; omega), heap_alloc_old _ _ hn]; exact hz
theorem AftS.step {N : Nat} {x : TId} {w W W' : World} (h : AftS N x w W) (k : Below W.heap.size W W') : AftS N x w W' :=
  ⟨h.r.step k, (k.block _ (Array.getElem?_eq_some_iff.1 h.bz).1).trans h.bz, h.lt⟩
theorem AftS.cells {N : Nat} {x : TId} {w W : World} (h : AftS N x w W) : W.cell? ⟨w.heap.size + 1, 0, none⟩ = some (.int .i64 0) ∧ W.cell? ⟨w.heap.size + 1, 1, none⟩ = some (.int .i64 0) ∧ W.cell? ⟨w.heap.size + 1, 2, none⟩ = some (.int .i64 0) ∧ W.cell? ⟨w.heap.size + 1, 3, none⟩ = some (.int .i64 0) := by
  simp [World.cell?, h.bz]
theorem AftS.fx {N : Nat} {x : TId} {w W : World} (h : AftS N x w W) (j : Nat) : W.frozen? ⟨w.heap.size, j, none⟩ = false := by simp [World.frozen?, h.r.bx]
theorem AftS.fz {N : Nat} {x : TId} {w W : World} (h : AftS N x w W) (j : Nat) : W.frozen? ⟨w.heap.size + 1, j, none⟩ = false := by simp [World.frozen?, h.bz]
/-- Behind some stores into the box of the id. -/
structure AftU (y : TId) (w U : World) : Prop where
  bx : U.heap[w.heap.size]? = some (.cells [.int .i64 y.d, .int .i64 y.o, .int .i64 y.k, .int .i64 y.n].toArray 24 (0, 0))
  bz : U.heap[w.heap.size + 1]? = some (.cells [.int .i64 0, .int .i64 0, .int .i64 0, .int .i64 0].toArray 24 (0, 0))
  bel : Below w.heap.size w U
theorem AftU.cells {y : TId} {w U : World} (h : AftU y w U) : (U.cell? ⟨w.heap.size, 0, none⟩ = some (.int .i64 y.d) ∧ U.cell? ⟨w.heap.size, 1, none⟩ = some (.int .i64 y.o) ∧ U.cell? ⟨w.heap.size, 2, none⟩ = some (.int .i64 y.k) ∧ U.cell? ⟨w.heap.size, 3, none⟩ = some (.int .i64 y.n)) ∧
    U.cell? ⟨w.heap.size + 1, 0, none⟩ = some (.int .i64 0) ∧ U.cell? ⟨w.heap.size + 1, 1, none⟩ = some (.int .i64 0) ∧ U.cell? ⟨w.heap.size + 1, 2, none⟩ = some (.int .i64 0) ∧ U.cell? ⟨w.heap.size + 1, 3, none⟩ = some (.int .i64 0) := by
  simp [World.cell?, h.bx, h.bz]
theorem AftU.fz {y : TId} {w U : World} (h : AftU y w U) (j : Nat) : U.frozen? ⟨w.heap.size + 1, j, none⟩ = false := by simp [World.frozen?, h.bz]
theorem right_last {x : TId} (h : ¬ rightT x) : afterT x = (zeroT, false) := by unfold afterT; rw [if_pos h]
set_option maxHeartbeats 3200000 in
set_option maxRecDepth 100000 in
theorem pafter_2 (x : TId) (hr : rightT x) (hl : x = lastT) (w : World) : Calls Try.prog 23 #[.agg #[.int .i64 x.d, .int .i64 x.o, .int .i64 x.k, .int .i64 x.n]] w (AftE x w) := by
  have hh := pright_any x
  have hf := pfirst_any
  have hls := plast_any
  rw [decide_eq_true hr] at hh
  have ha : afterT x = (zeroT, false) := by rw [hl]; rfl
  have heq : ∀ W, (Op.equalIn 10000 24 (.agg #[.int .i64 x.d, .int .i64 x.o, .int .i64 x.k, .int .i64 x.n]) (.agg #[.int .i64 2, .int .i64 1000, .int .i64 4, .int .i64 65535])).run Try.prog W = .ok true W := fun W => by rw [eq_id x ⟨2, 1000, 4, 65535⟩ W, decide_eq_true (show x = ⟨2, 1000, 4, 65535⟩ from hl)]
  unfold AftE
  rw [ha]
  have HB : RowKit.Hid (∀ A B : Obj, Below w.heap.size w ((w.alloc A).alloc B)) := fun A B => ((Below.refl _ w).alloc (Nat.le_refl _) _).alloc (by simp) _
  have XA : RowKit.Hid (((w.alloc (.cells #[.int .i64 x.d, .int .i64 x.o, .int .i64 x.k, .int .i64 x.n] 24)).alloc (.cells #[.int .i64 0, .int .i64 0, .int .i64 0, .int .i64 0] 24)).heap[w.heap.size]? = some (.cells [.int .i64 x.d, .int .i64 x.o, .int .i64 x.k, .int .i64 x.n].toArray 24 (0, 0))) := by unfold Hid; rw [heap_alloc_old _ _ (by simp)]; exact heap_alloc_new w _
  have ZA : RowKit.Hid (((w.alloc (.cells #[.int .i64 x.d, .int .i64 x.o, .int .i64 x.k, .int .i64 x.n] 24)).alloc (.cells #[.int .i64 0, .int .i64 0, .int .i64 0, .int .i64 0] 24)).heap[w.heap.size + 1]? = some (.cells [.int .i64 0, .int .i64 0, .int .i64 0, .int .i64 0].toArray 24 (0, 0))) := by have := heap_alloc_new (w.alloc (.cells #[.int .i64 x.d, .int .i64 x.o, .int .i64 x.k, .int .i64 x.n] 24)) (.cells #[.int .i64 0, .int .i64 0, .int .i64 0, .int .i64 0] 24); unfold Hid; simpa using this
  clear hr ha hl
  go_enter Try.func23, Try.ntmps23
  go_wp2_with (first
    | (go_at_call 17; refine (hf _).mono ?_; rintro e w1 ⟨rfl, hb⟩; have X1 := Lib.hid ((hb.block _ (Array.getElem?_eq_some_iff.1 XA.out).1).trans XA.out); have Z1 := Lib.hid ((hb.block _ (Array.getElem?_eq_some_iff.1 ZA.out).1).trans ZA.out); have B1 := Lib.hid ((HB.out (.cells #[.int .i64 x.d, .int .i64 x.o, .int .i64 x.k, .int .i64 x.n] 24) (.cells #[.int .i64 0, .int .i64 0, .int .i64 0, .int .i64 0] 24)).trans (hb.mono (by simp; omega))); clear hb)
    | (go_at_call 18; refine (hls _).mono ?_; rintro e w2 ⟨rfl, hb⟩; have hx := AftS.new (x := x) (w := w) ((hb.block _ (Array.getElem?_eq_some_iff.1 X1.out).1).trans X1.out) ((hb.block _ (Array.getElem?_eq_some_iff.1 Z1.out).1).trans Z1.out) (B1.out.trans (hb.mono B1.out.size)); obtain ⟨⟨x0, x1, x2, x3⟩, ⟨f0, f1, f2, f3⟩, l0, l1, l2, l3⟩ := hx.r.cells; have S2 := Lib.hid hx; clear hb hx)
    | (go_at_call 36; (with_reducible refine (hh _).mono ?_); rintro e w3 ⟨rfl, hb⟩; have hx := S2.out.step hb; clear x0 x1 x2 x3 f0 f1 f2 f3 l0 l1 l2 l3; obtain ⟨⟨x0, x1, x2, x3⟩, ⟨f0, f1, f2, f3⟩, l0, l1, l2, l3⟩ := hx.r.cells; obtain ⟨z0, z1, z2, z3⟩ := hx.cells; have fx := hx.fx; have fz := hx.fz; have hlt := hx.lt; have S3 := Lib.hid hx; clear hb hx))
  have q := range_list (heap_set_list (j := 3) (v := .int .i64 0) (heap_set_list (j := 2) (v := .int .i64 0) (heap_set_list (j := 1) (v := .int .i64 0) (heap_set_list (j := 0) (v := .int .i64 0) S3.out.bz))))
  simp only [List.set_cons_zero, List.set_cons_succ] at q
  refine bodyPost_ret (results_row2 (cs := [.int .i64 0, .int .i64 0, .int .i64 0, .int .i64 0]) rfl rfl q Try.underlying24 rfl (by kernel_rfl)) rfl ?_
  exact ⟨rfl, ((((S3.out.r.bel.setCell (p := ⟨w.heap.size + 1, 0, none⟩) (Nat.le_succ _) _).setCell (p := ⟨w.heap.size + 1, 1, none⟩) (Nat.le_succ _) _).setCell (p := ⟨w.heap.size + 1, 2, none⟩) (Nat.le_succ _) _).setCell (p := ⟨w.heap.size + 1, 3, none⟩) (Nat.le_succ _) _)⟩
section
attribute [local go_sem high] eq_id
set_option maxHeartbeats 3200000 in
set_option maxRecDepth 100000 in
theorem pafter_1 (x : TId) (hr : ¬ rightT x) (w : World) : Calls Try.prog 23 #[.agg #[.int .i64 x.d, .int .i64 x.o, .int .i64 x.k, .int .i64 x.n]] w (AftE x w) := by
  have hh := pright_any x
  have hf := pfirst_any
  have hls := plast_any
  rw [decide_eq_false hr] at hh
  have ha : afterT x = (zeroT, false) := right_last hr
  unfold AftE
  rw [ha]
  have HB : RowKit.Hid (∀ A B : Obj, Below w.heap.size w ((w.alloc A).alloc B)) := fun A B => ((Below.refl _ w).alloc (Nat.le_refl _) _).alloc (by simp) _
  have XA : RowKit.Hid (((w.alloc (.cells #[.int .i64 x.d, .int .i64 x.o, .int .i64 x.k, .int .i64 x.n] 24)).alloc (.cells #[.int .i64 0, .int .i64 0, .int .i64 0, .int .i64 0] 24)).heap[w.heap.size]? = some (.cells [.int .i64 x.d, .int .i64 x.o, .int .i64 x.k, .int .i64 x.n].toArray 24 (0, 0))) := by unfold Hid; rw [heap_alloc_old _ _ (by simp)]; exact heap_alloc_new w _
  have ZA : RowKit.Hid (((w.alloc (.cells #[.int .i64 x.d, .int .i64 x.o, .int .i64 x.k, .int .i64 x.n] 24)).alloc (.cells #[.int .i64 0, .int .i64 0, .int .i64 0, .int .i64 0] 24)).heap[w.heap.size + 1]? = some (.cells [.int .i64 0, .int .i64 0, .int .i64 0, .int .i64 0].toArray 24 (0, 0))) := by have := heap_alloc_new (w.alloc (.cells #[.int .i64 x.d, .int .i64 x.o, .int .i64 x.k, .int .i64 x.n] 24)) (.cells #[.int .i64 0, .int .i64 0, .int .i64 0, .int .i64 0] 24); unfold Hid; simpa using this
  clear hr ha
  go_enter Try.func23, Try.ntmps23
  go_wp2_with (first
    | (go_at_call 17; refine (hf _).mono ?_; rintro e w1 ⟨rfl, hb⟩; have X1 := Lib.hid ((hb.block _ (Array.getElem?_eq_some_iff.1 XA.out).1).trans XA.out); have Z1 := Lib.hid ((hb.block _ (Array.getElem?_eq_some_iff.1 ZA.out).1).trans ZA.out); have B1 := Lib.hid ((HB.out (.cells #[.int .i64 x.d, .int .i64 x.o, .int .i64 x.k, .int .i64 x.n] 24) (.cells #[.int .i64 0, .int .i64 0, .int .i64 0, .int .i64 0] 24)).trans (hb.mono (by simp; omega))); clear hb)
    | (go_at_call 18; refine (hls _).mono ?_; rintro e w2 ⟨rfl, hb⟩; have hx := AftS.new (x := x) (w := w) ((hb.block _ (Array.getElem?_eq_some_iff.1 X1.out).1).trans X1.out) ((hb.block _ (Array.getElem?_eq_some_iff.1 Z1.out).1).trans Z1.out) (B1.out.trans (hb.mono B1.out.size)); obtain ⟨⟨x0, x1, x2, x3⟩, ⟨f0, f1, f2, f3⟩, l0, l1, l2, l3⟩ := hx.r.cells; have S2 := Lib.hid hx; clear hb hx)
    | (go_at_call 36; (with_reducible refine (hh _).mono ?_); rintro e w3 ⟨rfl, hb⟩; have hx := S2.out.step hb; clear x0 x1 x2 x3 f0 f1 f2 f3 l0 l1 l2 l3; obtain ⟨⟨x0, x1, x2, x3⟩, ⟨f0, f1, f2, f3⟩, l0, l1, l2, l3⟩ := hx.r.cells; obtain ⟨z0, z1, z2, z3⟩ := hx.cells; have fx := hx.fx; have fz := hx.fz; have hlt := hx.lt; have S3 := Lib.hid hx; clear hb hx))
  have q := range_list (heap_set_list (j := 3) (v := .int .i64 0) (heap_set_list (j := 2) (v := .int .i64 0) (heap_set_list (j := 1) (v := .int .i64 0) (heap_set_list (j := 0) (v := .int .i64 0) S3.out.bz))))
  simp only [List.set_cons_zero, List.set_cons_succ] at q
  refine bodyPost_ret (results_row2 (cs := [.int .i64 0, .int .i64 0, .int .i64 0, .int .i64 0]) rfl rfl q Try.underlying24 rfl (by kernel_rfl)) rfl ?_
  exact ⟨rfl, ((((S3.out.r.bel.setCell (p := ⟨w.heap.size + 1, 0, none⟩) (Nat.le_succ _) _).setCell (p := ⟨w.heap.size + 1, 1, none⟩) (Nat.le_succ _) _).setCell (p := ⟨w.heap.size + 1, 2, none⟩) (Nat.le_succ _) _).setCell (p := ⟨w.heap.size + 1, 3, none⟩) (Nat.le_succ _) _)⟩
set_option maxHeartbeats 3200000 in
set_option maxRecDepth 100000 in
theorem pafter_3 (x : TId) (hr : rightT x) (hl : x ≠ lastT) (h1 : x.n < 65535) (w : World) : Calls Try.prog 23 #[.agg #[.int .i64 x.d, .int .i64 x.o, .int .i64 x.k, .int .i64 x.n]] w (AftE x w) := by
  have hh := pright_any x
  have hf := pfirst_any
  have hls := plast_any
  rw [decide_eq_true hr] at hh
  have hd : decide (x = ⟨2, 1000, 4, 65535⟩) = false := decide_eq_false hl
  have ha : afterT x = (⟨x.d, x.o, x.k, (x.n + 1)⟩, true) := by unfold afterT; rw [if_neg (fun q => q hr)]; rw [if_pos h1]
  have hb0 : (1 ≤ x.d ∧ x.d ≤ 2) ∧ (1 ≤ x.o ∧ x.o ≤ 1000) ∧ (1 ≤ x.k ∧ x.k ≤ 4) ∧ (0 ≤ x.n ∧ x.n ≤ 65535) := by unfold rightT at hr; omega
  obtain ⟨g1, g2, g3, g4⟩ := hb0
  unfold AftE
  rw [ha]
  have HB : RowKit.Hid (∀ A B : Obj, Below w.heap.size w ((w.alloc A).alloc B)) := fun A B => ((Below.refl _ w).alloc (Nat.le_refl _) _).alloc (by simp) _
  have XA : RowKit.Hid (((w.alloc (.cells #[.int .i64 x.d, .int .i64 x.o, .int .i64 x.k, .int .i64 x.n] 24)).alloc (.cells #[.int .i64 0, .int .i64 0, .int .i64 0, .int .i64 0] 24)).heap[w.heap.size]? = some (.cells [.int .i64 x.d, .int .i64 x.o, .int .i64 x.k, .int .i64 x.n].toArray 24 (0, 0))) := by unfold Hid; rw [heap_alloc_old _ _ (by simp)]; exact heap_alloc_new w _
  have ZA : RowKit.Hid (((w.alloc (.cells #[.int .i64 x.d, .int .i64 x.o, .int .i64 x.k, .int .i64 x.n] 24)).alloc (.cells #[.int .i64 0, .int .i64 0, .int .i64 0, .int .i64 0] 24)).heap[w.heap.size + 1]? = some (.cells [.int .i64 0, .int .i64 0, .int .i64 0, .int .i64 0].toArray 24 (0, 0))) := by have := heap_alloc_new (w.alloc (.cells #[.int .i64 x.d, .int .i64 x.o, .int .i64 x.k, .int .i64 x.n] 24)) (.cells #[.int .i64 0, .int .i64 0, .int .i64 0, .int .i64 0] 24); unfold Hid; simpa using this
  clear hr ha hl
  go_enter Try.func23, Try.ntmps23
  go_wp2_with (first
    | (go_at_call 17; refine (hf _).mono ?_; rintro e w1 ⟨rfl, hb⟩; have X1 := Lib.hid ((hb.block _ (Array.getElem?_eq_some_iff.1 XA.out).1).trans XA.out); have Z1 := Lib.hid ((hb.block _ (Array.getElem?_eq_some_iff.1 ZA.out).1).trans ZA.out); have B1 := Lib.hid ((HB.out (.cells #[.int .i64 x.d, .int .i64 x.o, .int .i64 x.k, .int .i64 x.n] 24) (.cells #[.int .i64 0, .int .i64 0, .int .i64 0, .int .i64 0] 24)).trans (hb.mono (by simp; omega))); clear hb)
    | (go_at_call 18; refine (hls _).mono ?_; rintro e w2 ⟨rfl, hb⟩; have hx := AftS.new (x := x) (w := w) ((hb.block _ (Array.getElem?_eq_some_iff.1 X1.out).1).trans X1.out) ((hb.block _ (Array.getElem?_eq_some_iff.1 Z1.out).1).trans Z1.out) (B1.out.trans (hb.mono B1.out.size)); obtain ⟨⟨x0, x1, x2, x3⟩, ⟨f0, f1, f2, f3⟩, l0, l1, l2, l3⟩ := hx.r.cells; have S2 := Lib.hid hx; clear hb hx)
    | (go_at_call 36; (with_reducible refine (hh _).mono ?_); rintro e w3 ⟨rfl, hb⟩; have hx := S2.out.step hb; clear x0 x1 x2 x3 f0 f1 f2 f3 l0 l1 l2 l3; obtain ⟨⟨x0, x1, x2, x3⟩, ⟨f0, f1, f2, f3⟩, l0, l1, l2, l3⟩ := hx.r.cells; obtain ⟨z0, z1, z2, z3⟩ := hx.cells; have fx := hx.fx; have fz := hx.fz; have hlt := hx.lt; have S3 := Lib.hid hx; clear hb hx))
  have q := range_list (heap_set_list (j := 3) (v := .int .i64 (x.n + 1)) (heap_set_list (j := 2) (v := .int .i64 x.k) (heap_set_list (j := 1) (v := .int .i64 x.o) (heap_set_list (j := 0) (v := .int .i64 x.d) (set_other (k := w.heap.size + 1) (b := w.heap.size) (j := 3) (v := .int .i64 (x.n + 1)) (by omega) S3.out.bz)))))
  simp only [List.set_cons_zero, List.set_cons_succ] at q
  refine bodyPost_ret (results_row2 (cs := [.int .i64 x.d, .int .i64 x.o, .int .i64 x.k, .int .i64 (x.n + 1)]) rfl rfl q Try.underlying24 rfl (by kernel_rfl)) rfl ?_
  exact ⟨rfl, (((((S3.out.r.bel.setCell (p := ⟨w.heap.size, 3, none⟩) (Nat.le_refl _) _).setCell (p := ⟨w.heap.size + 1, 0, none⟩) (Nat.le_succ _) _).setCell (p := ⟨w.heap.size + 1, 1, none⟩) (Nat.le_succ _) _).setCell (p := ⟨w.heap.size + 1, 2, none⟩) (Nat.le_succ _) _).setCell (p := ⟨w.heap.size + 1, 3, none⟩) (Nat.le_succ _) _)⟩
set_option maxHeartbeats 3200000 in
set_option maxRecDepth 100000 in
theorem pafter_4 (x : TId) (hr : rightT x) (hl : x ≠ lastT) (h1 : ¬ x.n < 65535) (h2 : x.k < 4) (w : World) : Calls Try.prog 23 #[.agg #[.int .i64 x.d, .int .i64 x.o, .int .i64 x.k, .int .i64 x.n]] w (AftE x w) := by
  have hh := pright_any x
  have hf := pfirst_any
  have hls := plast_any
  rw [decide_eq_true hr] at hh
  have hd : decide (x = ⟨2, 1000, 4, 65535⟩) = false := decide_eq_false hl
  have ha : afterT x = (⟨x.d, x.o, (x.k + 1), 0⟩, true) := by unfold afterT; rw [if_neg (fun q => q hr)]; rw [if_neg h1, if_pos h2]
  have hb0 : (1 ≤ x.d ∧ x.d ≤ 2) ∧ (1 ≤ x.o ∧ x.o ≤ 1000) ∧ (1 ≤ x.k ∧ x.k ≤ 4) ∧ (0 ≤ x.n ∧ x.n ≤ 65535) := by unfold rightT at hr; omega
  obtain ⟨g1, g2, g3, g4⟩ := hb0
  unfold AftE
  rw [ha]
  have HB : RowKit.Hid (∀ A B : Obj, Below w.heap.size w ((w.alloc A).alloc B)) := fun A B => ((Below.refl _ w).alloc (Nat.le_refl _) _).alloc (by simp) _
  have XA : RowKit.Hid (((w.alloc (.cells #[.int .i64 x.d, .int .i64 x.o, .int .i64 x.k, .int .i64 x.n] 24)).alloc (.cells #[.int .i64 0, .int .i64 0, .int .i64 0, .int .i64 0] 24)).heap[w.heap.size]? = some (.cells [.int .i64 x.d, .int .i64 x.o, .int .i64 x.k, .int .i64 x.n].toArray 24 (0, 0))) := by unfold Hid; rw [heap_alloc_old _ _ (by simp)]; exact heap_alloc_new w _
  have ZA : RowKit.Hid (((w.alloc (.cells #[.int .i64 x.d, .int .i64 x.o, .int .i64 x.k, .int .i64 x.n] 24)).alloc (.cells #[.int .i64 0, .int .i64 0, .int .i64 0, .int .i64 0] 24)).heap[w.heap.size + 1]? = some (.cells [.int .i64 0, .int .i64 0, .int .i64 0, .int .i64 0].toArray 24 (0, 0))) := by have := heap_alloc_new (w.alloc (.cells #[.int .i64 x.d, .int .i64 x.o, .int .i64 x.k, .int .i64 x.n] 24)) (.cells #[.int .i64 0, .int .i64 0, .int .i64 0, .int .i64 0] 24); unfold Hid; simpa using this
  clear hr ha hl
  go_enter Try.func23, Try.ntmps23
  go_wp2_with (first
    | (go_at_call 17; refine (hf _).mono ?_; rintro e w1 ⟨rfl, hb⟩; have X1 := Lib.hid ((hb.block _ (Array.getElem?_eq_some_iff.1 XA.out).1).trans XA.out); have Z1 := Lib.hid ((hb.block _ (Array.getElem?_eq_some_iff.1 ZA.out).1).trans ZA.out); have B1 := Lib.hid ((HB.out (.cells #[.int .i64 x.d, .int .i64 x.o, .int .i64 x.k, .int .i64 x.n] 24) (.cells #[.int .i64 0, .int .i64 0, .int .i64 0, .int .i64 0] 24)).trans (hb.mono (by simp; omega))); clear hb)
    | (go_at_call 18; refine (hls _).mono ?_; rintro e w2 ⟨rfl, hb⟩; have hx := AftS.new (x := x) (w := w) ((hb.block _ (Array.getElem?_eq_some_iff.1 X1.out).1).trans X1.out) ((hb.block _ (Array.getElem?_eq_some_iff.1 Z1.out).1).trans Z1.out) (B1.out.trans (hb.mono B1.out.size)); obtain ⟨⟨x0, x1, x2, x3⟩, ⟨f0, f1, f2, f3⟩, l0, l1, l2, l3⟩ := hx.r.cells; have S2 := Lib.hid hx; clear hb hx)
    | (go_at_call 36; (with_reducible refine (hh _).mono ?_); rintro e w3 ⟨rfl, hb⟩; have hx := S2.out.step hb; clear x0 x1 x2 x3 f0 f1 f2 f3 l0 l1 l2 l3; obtain ⟨⟨x0, x1, x2, x3⟩, ⟨f0, f1, f2, f3⟩, l0, l1, l2, l3⟩ := hx.r.cells; obtain ⟨z0, z1, z2, z3⟩ := hx.cells; have fx := hx.fx; have fz := hx.fz; have hlt := hx.lt; have S3 := Lib.hid hx; clear hb hx))
  go_region
  generalize hU : World.drew _ = U
  have AU : RowKit.Hid (AftU ⟨x.d, x.o, (x.k + 1), 0⟩ w U) := by
    have q := (heap_set_list (j := 3) (v := .int .i64 0) (heap_set_list (j := 2) (v := .int .i64 (x.k + 1)) S3.out.r.bx))
    simp only [List.set_cons_zero, List.set_cons_succ] at q
    rw [← hU]
    exact ⟨q, (set_other (k := w.heap.size + 1) (b := w.heap.size) (j := 3) (v := .int .i64 0) (by omega) (set_other (k := w.heap.size + 1) (b := w.heap.size) (j := 2) (v := .int .i64 (x.k + 1)) (by omega) S3.out.bz)), ((S3.out.r.bel.setCell (p := ⟨w.heap.size, 2, none⟩) (Nat.le_refl _) (.int .i64 (x.k + 1))).setCell (p := ⟨w.heap.size, 3, none⟩) (Nat.le_refl _) (.int .i64 0)).drew⟩
  clear hU x0 x1 x2 x3 f0 f1 f2 f3 l0 l1 l2 l3 z0 z1 z2 z3 fx fz
  obtain ⟨⟨x0, x1, x2, x3⟩, z0, z1, z2, z3⟩ := AU.out.cells
  have fz := AU.out.fz
  go_wp2
  have q := range_list (heap_set_list (j := 3) (v := .int .i64 0) (heap_set_list (j := 2) (v := .int .i64 (x.k + 1)) (heap_set_list (j := 1) (v := .int .i64 x.o) (heap_set_list (j := 0) (v := .int .i64 x.d) AU.out.bz))))
  simp only [List.set_cons_zero, List.set_cons_succ] at q
  refine bodyPost_ret (results_row2 (cs := [.int .i64 x.d, .int .i64 x.o, .int .i64 (x.k + 1), .int .i64 0]) rfl rfl q Try.underlying24 rfl (by kernel_rfl)) rfl ?_
  exact ⟨rfl, ((((AU.out.bel.setCell (p := ⟨w.heap.size + 1, 0, none⟩) (Nat.le_succ _) _).setCell (p := ⟨w.heap.size + 1, 1, none⟩) (Nat.le_succ _) _).setCell (p := ⟨w.heap.size + 1, 2, none⟩) (Nat.le_succ _) _).setCell (p := ⟨w.heap.size + 1, 3, none⟩) (Nat.le_succ _) _)⟩
set_option maxHeartbeats 3200000 in
set_option maxRecDepth 100000 in
theorem pafter_5 (x : TId) (hr : rightT x) (hl : x ≠ lastT) (h1 : ¬ x.n < 65535) (h2 : ¬ x.k < 4) (h3 : x.o < 1000) (w : World) : Calls Try.prog 23 #[.agg #[.int .i64 x.d, .int .i64 x.o, .int .i64 x.k, .int .i64 x.n]] w (AftE x w) := by
  have hh := pright_any x
  have hf := pfirst_any
  have hls := plast_any
  rw [decide_eq_true hr] at hh
  have hd : decide (x = ⟨2, 1000, 4, 65535⟩) = false := decide_eq_false hl
  have ha : afterT x = (⟨x.d, (x.o + 1), 1, 0⟩, true) := by unfold afterT; rw [if_neg (fun q => q hr)]; rw [if_neg h1, if_neg h2, if_pos h3]
  have hb0 : (1 ≤ x.d ∧ x.d ≤ 2) ∧ (1 ≤ x.o ∧ x.o ≤ 1000) ∧ (1 ≤ x.k ∧ x.k ≤ 4) ∧ (0 ≤ x.n ∧ x.n ≤ 65535) := by unfold rightT at hr; omega
  obtain ⟨g1, g2, g3, g4⟩ := hb0
  unfold AftE
  rw [ha]
  have HB : RowKit.Hid (∀ A B : Obj, Below w.heap.size w ((w.alloc A).alloc B)) := fun A B => ((Below.refl _ w).alloc (Nat.le_refl _) _).alloc (by simp) _
  have XA : RowKit.Hid (((w.alloc (.cells #[.int .i64 x.d, .int .i64 x.o, .int .i64 x.k, .int .i64 x.n] 24)).alloc (.cells #[.int .i64 0, .int .i64 0, .int .i64 0, .int .i64 0] 24)).heap[w.heap.size]? = some (.cells [.int .i64 x.d, .int .i64 x.o, .int .i64 x.k, .int .i64 x.n].toArray 24 (0, 0))) := by unfold Hid; rw [heap_alloc_old _ _ (by simp)]; exact heap_alloc_new w _
  have ZA : RowKit.Hid (((w.alloc (.cells #[.int .i64 x.d, .int .i64 x.o, .int .i64 x.k, .int .i64 x.n] 24)).alloc (.cells #[.int .i64 0, .int .i64 0, .int .i64 0, .int .i64 0] 24)).heap[w.heap.size + 1]? = some (.cells [.int .i64 0, .int .i64 0, .int .i64 0, .int .i64 0].toArray 24 (0, 0))) := by have := heap_alloc_new (w.alloc (.cells #[.int .i64 x.d, .int .i64 x.o, .int .i64 x.k, .int .i64 x.n] 24)) (.cells #[.int .i64 0, .int .i64 0, .int .i64 0, .int .i64 0] 24); unfold Hid; simpa using this
  clear hr ha hl
  go_enter Try.func23, Try.ntmps23
  go_wp2_with (first
    | (go_at_call 17; refine (hf _).mono ?_; rintro e w1 ⟨rfl, hb⟩; have X1 := Lib.hid ((hb.block _ (Array.getElem?_eq_some_iff.1 XA.out).1).trans XA.out); have Z1 := Lib.hid ((hb.block _ (Array.getElem?_eq_some_iff.1 ZA.out).1).trans ZA.out); have B1 := Lib.hid ((HB.out (.cells #[.int .i64 x.d, .int .i64 x.o, .int .i64 x.k, .int .i64 x.n] 24) (.cells #[.int .i64 0, .int .i64 0, .int .i64 0, .int .i64 0] 24)).trans (hb.mono (by simp; omega))); clear hb)
    | (go_at_call 18; refine (hls _).mono ?_; rintro e w2 ⟨rfl, hb⟩; have hx := AftS.new (x := x) (w := w) ((hb.block _ (Array.getElem?_eq_some_iff.1 X1.out).1).trans X1.out) ((hb.block _ (Array.getElem?_eq_some_iff.1 Z1.out).1).trans Z1.out) (B1.out.trans (hb.mono B1.out.size)); obtain ⟨⟨x0, x1, x2, x3⟩, ⟨f0, f1, f2, f3⟩, l0, l1, l2, l3⟩ := hx.r.cells; have S2 := Lib.hid hx; clear hb hx)
    | (go_at_call 36; (with_reducible refine (hh _).mono ?_); rintro e w3 ⟨rfl, hb⟩; have hx := S2.out.step hb; clear x0 x1 x2 x3 f0 f1 f2 f3 l0 l1 l2 l3; obtain ⟨⟨x0, x1, x2, x3⟩, ⟨f0, f1, f2, f3⟩, l0, l1, l2, l3⟩ := hx.r.cells; obtain ⟨z0, z1, z2, z3⟩ := hx.cells; have fx := hx.fx; have fz := hx.fz; have hlt := hx.lt; have S3 := Lib.hid hx; clear hb hx))
  go_region
  generalize hU : World.drew _ = U
  have AU : RowKit.Hid (AftU ⟨x.d, (x.o + 1), 1, 0⟩ w U) := by
    have q := (heap_set_list (j := 3) (v := .int .i64 0) (heap_set_list (j := 2) (v := .int .i64 1) (heap_set_list (j := 1) (v := .int .i64 (x.o + 1)) S3.out.r.bx)))
    simp only [List.set_cons_zero, List.set_cons_succ] at q
    rw [← hU]
    exact ⟨q, (set_other (k := w.heap.size + 1) (b := w.heap.size) (j := 3) (v := .int .i64 0) (by omega) (set_other (k := w.heap.size + 1) (b := w.heap.size) (j := 2) (v := .int .i64 1) (by omega) (set_other (k := w.heap.size + 1) (b := w.heap.size) (j := 1) (v := .int .i64 (x.o + 1)) (by omega) S3.out.bz))), (((S3.out.r.bel.setCell (p := ⟨w.heap.size, 1, none⟩) (Nat.le_refl _) (.int .i64 (x.o + 1))).setCell (p := ⟨w.heap.size, 2, none⟩) (Nat.le_refl _) (.int .i64 1)).setCell (p := ⟨w.heap.size, 3, none⟩) (Nat.le_refl _) (.int .i64 0)).drew⟩
  clear hU x0 x1 x2 x3 f0 f1 f2 f3 l0 l1 l2 l3 z0 z1 z2 z3 fx fz
  obtain ⟨⟨x0, x1, x2, x3⟩, z0, z1, z2, z3⟩ := AU.out.cells
  have fz := AU.out.fz
  go_wp2
  have q := range_list (heap_set_list (j := 3) (v := .int .i64 0) (heap_set_list (j := 2) (v := .int .i64 1) (heap_set_list (j := 1) (v := .int .i64 (x.o + 1)) (heap_set_list (j := 0) (v := .int .i64 x.d) AU.out.bz))))
  simp only [List.set_cons_zero, List.set_cons_succ] at q
  refine bodyPost_ret (results_row2 (cs := [.int .i64 x.d, .int .i64 (x.o + 1), .int .i64 1, .int .i64 0]) rfl rfl q Try.underlying24 rfl (by kernel_rfl)) rfl ?_
  exact ⟨rfl, ((((AU.out.bel.setCell (p := ⟨w.heap.size + 1, 0, none⟩) (Nat.le_succ _) _).setCell (p := ⟨w.heap.size + 1, 1, none⟩) (Nat.le_succ _) _).setCell (p := ⟨w.heap.size + 1, 2, none⟩) (Nat.le_succ _) _).setCell (p := ⟨w.heap.size + 1, 3, none⟩) (Nat.le_succ _) _)⟩
set_option maxHeartbeats 3200000 in
set_option maxRecDepth 100000 in
theorem pafter_6 (x : TId) (hr : rightT x) (hl : x ≠ lastT) (h1 : ¬ x.n < 65535) (h2 : ¬ x.k < 4) (h3 : ¬ x.o < 1000) (w : World) : Calls Try.prog 23 #[.agg #[.int .i64 x.d, .int .i64 x.o, .int .i64 x.k, .int .i64 x.n]] w (AftE x w) := by
  have hh := pright_any x
  have hf := pfirst_any
  have hls := plast_any
  rw [decide_eq_true hr] at hh
  have hd : decide (x = ⟨2, 1000, 4, 65535⟩) = false := decide_eq_false hl
  have h4 : x.d < 2 := Classical.byContradiction fun k => hl (by unfold rightT at hr; exact TId.ext (by show x.d = 2; omega) (by show x.o = 1000; omega) (by show x.k = 4; omega) (by show x.n = 65535; omega))
  have ha : afterT x = (⟨(x.d + 1), 1, 1, 0⟩, true) := by unfold afterT; rw [if_neg (fun q => q hr)]; rw [if_neg h1, if_neg h2, if_neg h3, if_pos h4]
  have hb0 : (1 ≤ x.d ∧ x.d ≤ 2) ∧ (1 ≤ x.o ∧ x.o ≤ 1000) ∧ (1 ≤ x.k ∧ x.k ≤ 4) ∧ (0 ≤ x.n ∧ x.n ≤ 65535) := by unfold rightT at hr; omega
  obtain ⟨g1, g2, g3, g4⟩ := hb0
  unfold AftE
  rw [ha]
  have HB : RowKit.Hid (∀ A B : Obj, Below w.heap.size w ((w.alloc A).alloc B)) := fun A B => ((Below.refl _ w).alloc (Nat.le_refl _) _).alloc (by simp) _
  have XA : RowKit.Hid (((w.alloc (.cells #[.int .i64 x.d, .int .i64 x.o, .int .i64 x.k, .int .i64 x.n] 24)).alloc (.cells #[.int .i64 0, .int .i64 0, .int .i64 0, .int .i64 0] 24)).heap[w.heap.size]? = some (.cells [.int .i64 x.d, .int .i64 x.o, .int .i64 x.k, .int .i64 x.n].toArray 24 (0, 0))) := by unfold Hid; rw [heap_alloc_old _ _ (by simp)]; exact heap_alloc_new w _
  have ZA : RowKit.Hid (((w.alloc (.cells #[.int .i64 x.d, .int .i64 x.o, .int .i64 x.k, .int .i64 x.n] 24)).alloc (.cells #[.int .i64 0, .int .i64 0, .int .i64 0, .int .i64 0] 24)).heap[w.heap.size + 1]? = some (.cells [.int .i64 0, .int .i64 0, .int .i64 0, .int .i64 0].toArray 24 (0, 0))) := by have := heap_alloc_new (w.alloc (.cells #[.int .i64 x.d, .int .i64 x.o, .int .i64 x.k, .int .i64 x.n] 24)) (.cells #[.int .i64 0, .int .i64 0, .int .i64 0, .int .i64 0] 24); unfold Hid; simpa using this
  clear hr ha hl
  go_enter Try.func23, Try.ntmps23
  go_wp2_with (first
    | (go_at_call 17; refine (hf _).mono ?_; rintro e w1 ⟨rfl, hb⟩; have X1 := Lib.hid ((hb.block _ (Array.getElem?_eq_some_iff.1 XA.out).1).trans XA.out); have Z1 := Lib.hid ((hb.block _ (Array.getElem?_eq_some_iff.1 ZA.out).1).trans ZA.out); have B1 := Lib.hid ((HB.out (.cells #[.int .i64 x.d, .int .i64 x.o, .int .i64 x.k, .int .i64 x.n] 24) (.cells #[.int .i64 0, .int .i64 0, .int .i64 0, .int .i64 0] 24)).trans (hb.mono (by simp; omega))); clear hb)
    | (go_at_call 18; refine (hls _).mono ?_; rintro e w2 ⟨rfl, hb⟩; have hx := AftS.new (x := x) (w := w) ((hb.block _ (Array.getElem?_eq_some_iff.1 X1.out).1).trans X1.out) ((hb.block _ (Array.getElem?_eq_some_iff.1 Z1.out).1).trans Z1.out) (B1.out.trans (hb.mono B1.out.size)); obtain ⟨⟨x0, x1, x2, x3⟩, ⟨f0, f1, f2, f3⟩, l0, l1, l2, l3⟩ := hx.r.cells; have S2 := Lib.hid hx; clear hb hx)
    | (go_at_call 36; (with_reducible refine (hh _).mono ?_); rintro e w3 ⟨rfl, hb⟩; have hx := S2.out.step hb; clear x0 x1 x2 x3 f0 f1 f2 f3 l0 l1 l2 l3; obtain ⟨⟨x0, x1, x2, x3⟩, ⟨f0, f1, f2, f3⟩, l0, l1, l2, l3⟩ := hx.r.cells; obtain ⟨z0, z1, z2, z3⟩ := hx.cells; have fx := hx.fx; have fz := hx.fz; have hlt := hx.lt; have S3 := Lib.hid hx; clear hb hx))
  go_region
  generalize hU : World.drew _ = U
  have AU : RowKit.Hid (AftU ⟨(x.d + 1), 1, 1, 0⟩ w U) := by
    have q := (heap_set_list (j := 3) (v := .int .i64 0) (heap_set_list (j := 2) (v := .int .i64 1) (heap_set_list (j := 1) (v := .int .i64 1) (heap_set_list (j := 0) (v := .int .i64 (x.d + 1)) S3.out.r.bx))))
    simp only [List.set_cons_zero, List.set_cons_succ] at q
    rw [← hU]
    exact ⟨q, (set_other (k := w.heap.size + 1) (b := w.heap.size) (j := 3) (v := .int .i64 0) (by omega) (set_other (k := w.heap.size + 1) (b := w.heap.size) (j := 2) (v := .int .i64 1) (by omega) (set_other (k := w.heap.size + 1) (b := w.heap.size) (j := 1) (v := .int .i64 1) (by omega) (set_other (k := w.heap.size + 1) (b := w.heap.size) (j := 0) (v := .int .i64 (x.d + 1)) (by omega) S3.out.bz)))), ((((S3.out.r.bel.setCell (p := ⟨w.heap.size, 0, none⟩) (Nat.le_refl _) (.int .i64 (x.d + 1))).setCell (p := ⟨w.heap.size, 1, none⟩) (Nat.le_refl _) (.int .i64 1)).setCell (p := ⟨w.heap.size, 2, none⟩) (Nat.le_refl _) (.int .i64 1)).setCell (p := ⟨w.heap.size, 3, none⟩) (Nat.le_refl _) (.int .i64 0)).drew⟩
  clear hU x0 x1 x2 x3 f0 f1 f2 f3 l0 l1 l2 l3 z0 z1 z2 z3 fx fz
  obtain ⟨⟨x0, x1, x2, x3⟩, z0, z1, z2, z3⟩ := AU.out.cells
  have fz := AU.out.fz
  go_wp2
  have q := range_list (heap_set_list (j := 3) (v := .int .i64 0) (heap_set_list (j := 2) (v := .int .i64 1) (heap_set_list (j := 1) (v := .int .i64 1) (heap_set_list (j := 0) (v := .int .i64 (x.d + 1)) AU.out.bz))))
  simp only [List.set_cons_zero, List.set_cons_succ] at q
  refine bodyPost_ret (results_row2 (cs := [.int .i64 (x.d + 1), .int .i64 1, .int .i64 1, .int .i64 0]) rfl rfl q Try.underlying24 rfl (by kernel_rfl)) rfl ?_
  exact ⟨rfl, ((((AU.out.bel.setCell (p := ⟨w.heap.size + 1, 0, none⟩) (Nat.le_succ _) _).setCell (p := ⟨w.heap.size + 1, 1, none⟩) (Nat.le_succ _) _).setCell (p := ⟨w.heap.size + 1, 2, none⟩) (Nat.le_succ _) _).setCell (p := ⟨w.heap.size + 1, 3, none⟩) (Nat.le_succ _) _)⟩
end
theorem pafter_any (x : TId) (w : World) : Calls Try.prog 23 #[.agg #[.int .i64 x.d, .int .i64 x.o, .int .i64 x.k, .int .i64 x.n]] w (AftE x w) := by
  by_cases hr : rightT x
  · by_cases hl : x = lastT
    · exact pafter_2 x hr hl w
    · by_cases h1 : x.n < 65535
      · exact pafter_3 x hr hl h1 w
      · by_cases h2 : x.k < 4
        · exact pafter_4 x hr hl h1 h2 w
        · by_cases h3 : x.o < 1000
          · exact pafter_5 x hr hl h1 h2 h3 w
          · exact pafter_6 x hr hl h1 h2 h3 w
  · exact pafter_1 x hr w
end Go.Proofs.Ytjfnpciecgemeaa.ti
