/-
  THE DOCUMENT'S After: six ways.
-/
import Derived.Test.YticbdodpclnanaaTRef
namespace Go.Proofs.Yticbdodpclnanaa
set_option linter.unusedSimpArgs false
set_option linter.unusedVariables false
open Go.RowKit
/-- What is behind an id: how the call ends. -/
def AftE (x : TId) (w : World) (e : Ending) (w' : World) : Prop := e = .returned (.tuple #[.agg #[.int .i64 (afterT x).1.d, .int .i64 (afterT x).1.o, .int .i64 (afterT x).1.k, .int .i64 (afterT x).1.n], .bool (afterT x).2]) ∧ Below w.heap.size w w'
set_option maxHeartbeats 3200000 in
set_option maxRecDepth 100000 in
theorem rafter_1 (x : TId) (hr : ¬ rightT x) (w : World) : Calls Try.prog 13 #[.agg #[.int .i64 x.d, .int .i64 x.o, .int .i64 x.k, .int .i64 x.n]] w (AftE x w) := by
  have hh := rright_any x
  rw [decide_eq_false hr] at hh
  have ha : afterT x = (zeroT, false) := by unfold afterT; rw [if_pos hr]
  unfold AftE
  rw [ha]
  have HB : RowKit.Hid (∀ A B : Obj, Below w.heap.size w ((w.alloc A).alloc B)) := fun A B => ((Below.refl _ w).alloc (Nat.le_refl _) _).alloc (by simp) _
  have XA : RowKit.Hid (((w.alloc (.cells #[.int .i64 x.d, .int .i64 x.o, .int .i64 x.k, .int .i64 x.n] 23)).alloc (.cells #[.int .i64 0, .int .i64 0, .int .i64 0, .int .i64 0] 23)).heap[w.heap.size]? = some (.cells [.int .i64 x.d, .int .i64 x.o, .int .i64 x.k, .int .i64 x.n].toArray 23 (0, 0))) := by unfold Hid; rw [heap_alloc_old _ _ (by simp)]; exact heap_alloc_new w _
  have ZA : RowKit.Hid (((w.alloc (.cells #[.int .i64 x.d, .int .i64 x.o, .int .i64 x.k, .int .i64 x.n] 23)).alloc (.cells #[.int .i64 0, .int .i64 0, .int .i64 0, .int .i64 0] 23)).heap[w.heap.size + 1]? = some (.cells [.int .i64 0, .int .i64 0, .int .i64 0, .int .i64 0].toArray 23 (0, 0))) := by have := heap_alloc_new (w.alloc (.cells #[.int .i64 x.d, .int .i64 x.o, .int .i64 x.k, .int .i64 x.n] 23)) (.cells #[.int .i64 0, .int .i64 0, .int .i64 0, .int .i64 0] 23); unfold Hid; simpa using this
  have RG := Lib.hid (range_list XA.out)
  clear hr ha
  go_enter Try.func13, Try.ntmps13
  go_wp2_with (first
    | (refine wpList_load_mid rfl 23 (.tmp 1) rfl _ _ rfl _ _ RG.out Try.underlying23 rfl (by kernel_rfl) ?_)
    | (go_at_call 25; refine (hh _).mono ?_; rintro e w1 ⟨rfl, hb⟩; have hx1 := (hb.block w.heap.size (by first | (simp; done) | (simp; omega))).trans XA.out; have hz1 := (hb.block (w.heap.size + 1) (by simp)).trans ZA.out; have fz : ∀ j, w1.frozen? ⟨w.heap.size + 1, j, none⟩ = false := (fun j => by simp [World.frozen?, hz1]); have fx : ∀ j, w1.frozen? ⟨w.heap.size, j, none⟩ = false := (fun j => by simp [World.frozen?, hx1]); have c0 : w1.cell? ⟨w.heap.size, 0, none⟩ = some (.int .i64 x.d) := (by simp [World.cell?, hx1]); have c1 : w1.cell? ⟨w.heap.size, 1, none⟩ = some (.int .i64 x.o) := (by simp [World.cell?, hx1]); have c2 : w1.cell? ⟨w.heap.size, 2, none⟩ = some (.int .i64 x.k) := (by simp [World.cell?, hx1]); have c3 : w1.cell? ⟨w.heap.size, 3, none⟩ = some (.int .i64 x.n) := (by simp [World.cell?, hx1]); have d0 : w1.cell? ⟨w.heap.size + 1, 0, none⟩ = some (.int .i64 0) := (by simp [World.cell?, hz1]); have d1 : w1.cell? ⟨w.heap.size + 1, 1, none⟩ = some (.int .i64 0) := (by simp [World.cell?, hz1]); have d2 : w1.cell? ⟨w.heap.size + 1, 2, none⟩ = some (.int .i64 0) := (by simp [World.cell?, hz1]); have d3 : w1.cell? ⟨w.heap.size + 1, 3, none⟩ = some (.int .i64 0) := (by simp [World.cell?, hz1]); have HB1 := Lib.hid ((HB.out (.cells #[.int .i64 x.d, .int .i64 x.o, .int .i64 x.k, .int .i64 x.n] 23) (.cells #[.int .i64 0, .int .i64 0, .int .i64 0, .int .i64 0] 23)).trans (hb.mono (by first | (simp; done) | (simp; omega)))); have X1 := Lib.hid hx1; have Z1 := Lib.hid hz1; have RG2 := Lib.hid (range_list hx1); clear hb hx1 hz1))
  have q := range_list (heap_set_list (j := 3) (v := .int .i64 0) (heap_set_list (j := 2) (v := .int .i64 0) (heap_set_list (j := 1) (v := .int .i64 0) (heap_set_list (j := 0) (v := .int .i64 0) Z1.out))))
  simp only [List.set_cons_zero, List.set_cons_succ] at q
  refine bodyPost_ret (results_row2 (cs := [.int .i64 0, .int .i64 0, .int .i64 0, .int .i64 0]) rfl rfl q Try.underlying23 rfl (by kernel_rfl)) rfl ?_
  exact ⟨rfl, ((((HB1.out.setCell (p := ⟨w.heap.size + 1, 0, none⟩) (Nat.le_succ _) _).setCell (p := ⟨w.heap.size + 1, 1, none⟩) (Nat.le_succ _) _).setCell (p := ⟨w.heap.size + 1, 2, none⟩) (Nat.le_succ _) _).setCell (p := ⟨w.heap.size + 1, 3, none⟩) (Nat.le_succ _) _)⟩
set_option maxHeartbeats 3200000 in
set_option maxRecDepth 100000 in
theorem rafter_2 (x : TId) (hr : rightT x) (h1 : x.n < 65535) (w : World) : Calls Try.prog 13 #[.agg #[.int .i64 x.d, .int .i64 x.o, .int .i64 x.k, .int .i64 x.n]] w (AftE x w) := by
  have hh := rright_any x
  rw [decide_eq_true hr] at hh
  have ha : afterT x = (⟨x.d, x.o, x.k, (x.n + 1)⟩, true) := by unfold afterT; rw [if_neg (fun q => q hr)]; rw [if_pos h1]
  have hb0 : (1 ≤ x.d ∧ x.d ≤ 2) ∧ (1 ≤ x.o ∧ x.o ≤ 1000) ∧ (1 ≤ x.k ∧ x.k ≤ 4) ∧ (0 ≤ x.n ∧ x.n ≤ 65535) := by unfold rightT at hr; omega
  obtain ⟨g1, g2, g3, g4⟩ := hb0
  unfold AftE
  rw [ha]
  have HB : RowKit.Hid (∀ A B : Obj, Below w.heap.size w ((w.alloc A).alloc B)) := fun A B => ((Below.refl _ w).alloc (Nat.le_refl _) _).alloc (by simp) _
  have XA : RowKit.Hid (((w.alloc (.cells #[.int .i64 x.d, .int .i64 x.o, .int .i64 x.k, .int .i64 x.n] 23)).alloc (.cells #[.int .i64 0, .int .i64 0, .int .i64 0, .int .i64 0] 23)).heap[w.heap.size]? = some (.cells [.int .i64 x.d, .int .i64 x.o, .int .i64 x.k, .int .i64 x.n].toArray 23 (0, 0))) := by unfold Hid; rw [heap_alloc_old _ _ (by simp)]; exact heap_alloc_new w _
  have ZA : RowKit.Hid (((w.alloc (.cells #[.int .i64 x.d, .int .i64 x.o, .int .i64 x.k, .int .i64 x.n] 23)).alloc (.cells #[.int .i64 0, .int .i64 0, .int .i64 0, .int .i64 0] 23)).heap[w.heap.size + 1]? = some (.cells [.int .i64 0, .int .i64 0, .int .i64 0, .int .i64 0].toArray 23 (0, 0))) := by have := heap_alloc_new (w.alloc (.cells #[.int .i64 x.d, .int .i64 x.o, .int .i64 x.k, .int .i64 x.n] 23)) (.cells #[.int .i64 0, .int .i64 0, .int .i64 0, .int .i64 0] 23); unfold Hid; simpa using this
  have RG := Lib.hid (range_list XA.out)
  clear hr ha
  go_enter Try.func13, Try.ntmps13
  go_wp2_with (first
    | (refine wpList_load_mid rfl 23 (.tmp 1) rfl _ _ rfl _ _ RG.out Try.underlying23 rfl (by kernel_rfl) ?_)
    | (rw [HW.out]; refine wpList_load_mid rfl 23 (.tmp 1) rfl _ _ rfl _ _ RG2.out Try.underlying23 rfl (by kernel_rfl) ?_)
    | (go_at_call 25; refine (hh _).mono ?_; rintro e w1 ⟨rfl, hb⟩; have hx1 := (hb.block w.heap.size (by first | (simp; done) | (simp; omega))).trans XA.out; have hz1 := (hb.block (w.heap.size + 1) (by simp)).trans ZA.out; have fz : ∀ j, w1.frozen? ⟨w.heap.size + 1, j, none⟩ = false := (fun j => by simp [World.frozen?, hz1]); have fx : ∀ j, w1.frozen? ⟨w.heap.size, j, none⟩ = false := (fun j => by simp [World.frozen?, hx1]); have c0 : w1.cell? ⟨w.heap.size, 0, none⟩ = some (.int .i64 x.d) := (by simp [World.cell?, hx1]); have c1 : w1.cell? ⟨w.heap.size, 1, none⟩ = some (.int .i64 x.o) := (by simp [World.cell?, hx1]); have c2 : w1.cell? ⟨w.heap.size, 2, none⟩ = some (.int .i64 x.k) := (by simp [World.cell?, hx1]); have c3 : w1.cell? ⟨w.heap.size, 3, none⟩ = some (.int .i64 x.n) := (by simp [World.cell?, hx1]); have d0 : w1.cell? ⟨w.heap.size + 1, 0, none⟩ = some (.int .i64 0) := (by simp [World.cell?, hz1]); have d1 : w1.cell? ⟨w.heap.size + 1, 1, none⟩ = some (.int .i64 0) := (by simp [World.cell?, hz1]); have d2 : w1.cell? ⟨w.heap.size + 1, 2, none⟩ = some (.int .i64 0) := (by simp [World.cell?, hz1]); have d3 : w1.cell? ⟨w.heap.size + 1, 3, none⟩ = some (.int .i64 0) := (by simp [World.cell?, hz1]); have HB1 := Lib.hid ((HB.out (.cells #[.int .i64 x.d, .int .i64 x.o, .int .i64 x.k, .int .i64 x.n] 23) (.cells #[.int .i64 0, .int .i64 0, .int .i64 0, .int .i64 0] 23)).trans (hb.mono (by first | (simp; done) | (simp; omega)))); have X1 := Lib.hid hx1; have Z1 := Lib.hid hz1; have rg2 := range_list (heap_set_list (j := 3) (v := .int .i64 (x.n + 1)) hx1); have z2 := (set_other (k := w.heap.size + 1) (b := w.heap.size) (j := 3) (v := .int .i64 (x.n + 1)) (by omega) hz1); have hb2 := (HB1.out.setCell (p := ⟨w.heap.size, 3, none⟩) (Nat.le_refl _) (.int .i64 (x.n + 1))); obtain ⟨W3, hW3⟩ : ∃ W3, (w1.setCell ⟨w.heap.size, 3, none⟩ (.int .i64 (x.n + 1))) = W3 := ⟨_, rfl⟩; rw [hW3] at rg2 z2 hb2; have fz3 : ∀ j, W3.frozen? ⟨w.heap.size + 1, j, none⟩ = false := (fun j => by simp [World.frozen?, z2]); have RG2 := Lib.hid rg2; have Z2 := Lib.hid z2; have HB2 := Lib.hid hb2; have HW := Lib.hid hW3; clear hW3 rg2 z2 hb2 d0 d1 d2 d3; have d0 : W3.cell? ⟨w.heap.size + 1, 0, none⟩ = some (.int .i64 0) := (by simp [World.cell?, Z2.out]); have d1 : W3.cell? ⟨w.heap.size + 1, 1, none⟩ = some (.int .i64 0) := (by simp [World.cell?, Z2.out]); have d2 : W3.cell? ⟨w.heap.size + 1, 2, none⟩ = some (.int .i64 0) := (by simp [World.cell?, Z2.out]); have d3 : W3.cell? ⟨w.heap.size + 1, 3, none⟩ = some (.int .i64 0) := (by simp [World.cell?, Z2.out]); clear hb hx1 hz1))
  have q := range_list (heap_set_list (j := 3) (v := .int .i64 (x.n + 1)) (heap_set_list (j := 2) (v := .int .i64 x.k) (heap_set_list (j := 1) (v := .int .i64 x.o) (heap_set_list (j := 0) (v := .int .i64 x.d) Z2.out))))
  simp only [List.set_cons_zero, List.set_cons_succ] at q
  refine bodyPost_ret (results_row2 (cs := [.int .i64 x.d, .int .i64 x.o, .int .i64 x.k, .int .i64 (x.n + 1)]) rfl rfl q Try.underlying23 rfl (by kernel_rfl)) rfl ?_
  exact ⟨rfl, ((((HB2.out.setCell (p := ⟨w.heap.size + 1, 0, none⟩) (Nat.le_succ _) _).setCell (p := ⟨w.heap.size + 1, 1, none⟩) (Nat.le_succ _) _).setCell (p := ⟨w.heap.size + 1, 2, none⟩) (Nat.le_succ _) _).setCell (p := ⟨w.heap.size + 1, 3, none⟩) (Nat.le_succ _) _)⟩
set_option maxHeartbeats 3200000 in
set_option maxRecDepth 100000 in
theorem rafter_3 (x : TId) (hr : rightT x) (h1 : ¬ x.n < 65535) (h2 : x.k < 4) (w : World) : Calls Try.prog 13 #[.agg #[.int .i64 x.d, .int .i64 x.o, .int .i64 x.k, .int .i64 x.n]] w (AftE x w) := by
  have hh := rright_any x
  rw [decide_eq_true hr] at hh
  have ha : afterT x = (⟨x.d, x.o, (x.k + 1), 0⟩, true) := by unfold afterT; rw [if_neg (fun q => q hr)]; rw [if_neg h1, if_pos h2]
  have hb0 : (1 ≤ x.d ∧ x.d ≤ 2) ∧ (1 ≤ x.o ∧ x.o ≤ 1000) ∧ (1 ≤ x.k ∧ x.k ≤ 4) ∧ (0 ≤ x.n ∧ x.n ≤ 65535) := by unfold rightT at hr; omega
  obtain ⟨g1, g2, g3, g4⟩ := hb0
  unfold AftE
  rw [ha]
  have HB : RowKit.Hid (∀ A B : Obj, Below w.heap.size w ((w.alloc A).alloc B)) := fun A B => ((Below.refl _ w).alloc (Nat.le_refl _) _).alloc (by simp) _
  have XA : RowKit.Hid (((w.alloc (.cells #[.int .i64 x.d, .int .i64 x.o, .int .i64 x.k, .int .i64 x.n] 23)).alloc (.cells #[.int .i64 0, .int .i64 0, .int .i64 0, .int .i64 0] 23)).heap[w.heap.size]? = some (.cells [.int .i64 x.d, .int .i64 x.o, .int .i64 x.k, .int .i64 x.n].toArray 23 (0, 0))) := by unfold Hid; rw [heap_alloc_old _ _ (by simp)]; exact heap_alloc_new w _
  have ZA : RowKit.Hid (((w.alloc (.cells #[.int .i64 x.d, .int .i64 x.o, .int .i64 x.k, .int .i64 x.n] 23)).alloc (.cells #[.int .i64 0, .int .i64 0, .int .i64 0, .int .i64 0] 23)).heap[w.heap.size + 1]? = some (.cells [.int .i64 0, .int .i64 0, .int .i64 0, .int .i64 0].toArray 23 (0, 0))) := by have := heap_alloc_new (w.alloc (.cells #[.int .i64 x.d, .int .i64 x.o, .int .i64 x.k, .int .i64 x.n] 23)) (.cells #[.int .i64 0, .int .i64 0, .int .i64 0, .int .i64 0] 23); unfold Hid; simpa using this
  have RG := Lib.hid (range_list XA.out)
  clear hr ha
  go_enter Try.func13, Try.ntmps13
  go_wp2_with (first
    | (refine wpList_load_mid rfl 23 (.tmp 1) rfl _ _ rfl _ _ RG.out Try.underlying23 rfl (by kernel_rfl) ?_)
    | (rw [HW.out]; refine wpList_load_mid rfl 23 (.tmp 1) rfl _ _ rfl _ _ RG2.out Try.underlying23 rfl (by kernel_rfl) ?_)
    | (go_at_call 25; refine (hh _).mono ?_; rintro e w1 ⟨rfl, hb⟩; have hx1 := (hb.block w.heap.size (by first | (simp; done) | (simp; omega))).trans XA.out; have hz1 := (hb.block (w.heap.size + 1) (by simp)).trans ZA.out; have fz : ∀ j, w1.frozen? ⟨w.heap.size + 1, j, none⟩ = false := (fun j => by simp [World.frozen?, hz1]); have fx : ∀ j, w1.frozen? ⟨w.heap.size, j, none⟩ = false := (fun j => by simp [World.frozen?, hx1]); have c0 : w1.cell? ⟨w.heap.size, 0, none⟩ = some (.int .i64 x.d) := (by simp [World.cell?, hx1]); have c1 : w1.cell? ⟨w.heap.size, 1, none⟩ = some (.int .i64 x.o) := (by simp [World.cell?, hx1]); have c2 : w1.cell? ⟨w.heap.size, 2, none⟩ = some (.int .i64 x.k) := (by simp [World.cell?, hx1]); have c3 : w1.cell? ⟨w.heap.size, 3, none⟩ = some (.int .i64 x.n) := (by simp [World.cell?, hx1]); have d0 : w1.cell? ⟨w.heap.size + 1, 0, none⟩ = some (.int .i64 0) := (by simp [World.cell?, hz1]); have d1 : w1.cell? ⟨w.heap.size + 1, 1, none⟩ = some (.int .i64 0) := (by simp [World.cell?, hz1]); have d2 : w1.cell? ⟨w.heap.size + 1, 2, none⟩ = some (.int .i64 0) := (by simp [World.cell?, hz1]); have d3 : w1.cell? ⟨w.heap.size + 1, 3, none⟩ = some (.int .i64 0) := (by simp [World.cell?, hz1]); have HB1 := Lib.hid ((HB.out (.cells #[.int .i64 x.d, .int .i64 x.o, .int .i64 x.k, .int .i64 x.n] 23) (.cells #[.int .i64 0, .int .i64 0, .int .i64 0, .int .i64 0] 23)).trans (hb.mono (by first | (simp; done) | (simp; omega)))); have X1 := Lib.hid hx1; have Z1 := Lib.hid hz1; have rg2 := range_list (heap_set_list (j := 2) (v := .int .i64 (x.k + 1)) (heap_set_list (j := 3) (v := .int .i64 0) hx1)); have z2 := (set_other (k := w.heap.size + 1) (b := w.heap.size) (j := 2) (v := .int .i64 (x.k + 1)) (by omega) (set_other (k := w.heap.size + 1) (b := w.heap.size) (j := 3) (v := .int .i64 0) (by omega) hz1)); have hb2 := ((HB1.out.setCell (p := ⟨w.heap.size, 3, none⟩) (Nat.le_refl _) (.int .i64 0)).setCell (p := ⟨w.heap.size, 2, none⟩) (Nat.le_refl _) (.int .i64 (x.k + 1))); obtain ⟨W3, hW3⟩ : ∃ W3, ((w1.setCell ⟨w.heap.size, 3, none⟩ (.int .i64 0)).setCell ⟨w.heap.size, 2, none⟩ (.int .i64 (x.k + 1))) = W3 := ⟨_, rfl⟩; rw [hW3] at rg2 z2 hb2; have fz3 : ∀ j, W3.frozen? ⟨w.heap.size + 1, j, none⟩ = false := (fun j => by simp [World.frozen?, z2]); have RG2 := Lib.hid rg2; have Z2 := Lib.hid z2; have HB2 := Lib.hid hb2; have HW := Lib.hid hW3; clear hW3 rg2 z2 hb2 d0 d1 d2 d3; have d0 : W3.cell? ⟨w.heap.size + 1, 0, none⟩ = some (.int .i64 0) := (by simp [World.cell?, Z2.out]); have d1 : W3.cell? ⟨w.heap.size + 1, 1, none⟩ = some (.int .i64 0) := (by simp [World.cell?, Z2.out]); have d2 : W3.cell? ⟨w.heap.size + 1, 2, none⟩ = some (.int .i64 0) := (by simp [World.cell?, Z2.out]); have d3 : W3.cell? ⟨w.heap.size + 1, 3, none⟩ = some (.int .i64 0) := (by simp [World.cell?, Z2.out]); clear hb hx1 hz1))
  have q := range_list (heap_set_list (j := 3) (v := .int .i64 0) (heap_set_list (j := 2) (v := .int .i64 (x.k + 1)) (heap_set_list (j := 1) (v := .int .i64 x.o) (heap_set_list (j := 0) (v := .int .i64 x.d) Z2.out))))
  simp only [List.set_cons_zero, List.set_cons_succ] at q
  refine bodyPost_ret (results_row2 (cs := [.int .i64 x.d, .int .i64 x.o, .int .i64 (x.k + 1), .int .i64 0]) rfl rfl q Try.underlying23 rfl (by kernel_rfl)) rfl ?_
  exact ⟨rfl, ((((HB2.out.setCell (p := ⟨w.heap.size + 1, 0, none⟩) (Nat.le_succ _) _).setCell (p := ⟨w.heap.size + 1, 1, none⟩) (Nat.le_succ _) _).setCell (p := ⟨w.heap.size + 1, 2, none⟩) (Nat.le_succ _) _).setCell (p := ⟨w.heap.size + 1, 3, none⟩) (Nat.le_succ _) _)⟩
set_option maxHeartbeats 3200000 in
set_option maxRecDepth 100000 in
theorem rafter_4 (x : TId) (hr : rightT x) (h1 : ¬ x.n < 65535) (h2 : ¬ x.k < 4) (h3 : x.o < 1000) (w : World) : Calls Try.prog 13 #[.agg #[.int .i64 x.d, .int .i64 x.o, .int .i64 x.k, .int .i64 x.n]] w (AftE x w) := by
  have hh := rright_any x
  rw [decide_eq_true hr] at hh
  have ha : afterT x = (⟨x.d, (x.o + 1), 1, 0⟩, true) := by unfold afterT; rw [if_neg (fun q => q hr)]; rw [if_neg h1, if_neg h2, if_pos h3]
  have hb0 : (1 ≤ x.d ∧ x.d ≤ 2) ∧ (1 ≤ x.o ∧ x.o ≤ 1000) ∧ (1 ≤ x.k ∧ x.k ≤ 4) ∧ (0 ≤ x.n ∧ x.n ≤ 65535) := by unfold rightT at hr; omega
  obtain ⟨g1, g2, g3, g4⟩ := hb0
  unfold AftE
  rw [ha]
  have HB : RowKit.Hid (∀ A B : Obj, Below w.heap.size w ((w.alloc A).alloc B)) := fun A B => ((Below.refl _ w).alloc (Nat.le_refl _) _).alloc (by simp) _
  have XA : RowKit.Hid (((w.alloc (.cells #[.int .i64 x.d, .int .i64 x.o, .int .i64 x.k, .int .i64 x.n] 23)).alloc (.cells #[.int .i64 0, .int .i64 0, .int .i64 0, .int .i64 0] 23)).heap[w.heap.size]? = some (.cells [.int .i64 x.d, .int .i64 x.o, .int .i64 x.k, .int .i64 x.n].toArray 23 (0, 0))) := by unfold Hid; rw [heap_alloc_old _ _ (by simp)]; exact heap_alloc_new w _
  have ZA : RowKit.Hid (((w.alloc (.cells #[.int .i64 x.d, .int .i64 x.o, .int .i64 x.k, .int .i64 x.n] 23)).alloc (.cells #[.int .i64 0, .int .i64 0, .int .i64 0, .int .i64 0] 23)).heap[w.heap.size + 1]? = some (.cells [.int .i64 0, .int .i64 0, .int .i64 0, .int .i64 0].toArray 23 (0, 0))) := by have := heap_alloc_new (w.alloc (.cells #[.int .i64 x.d, .int .i64 x.o, .int .i64 x.k, .int .i64 x.n] 23)) (.cells #[.int .i64 0, .int .i64 0, .int .i64 0, .int .i64 0] 23); unfold Hid; simpa using this
  have RG := Lib.hid (range_list XA.out)
  clear hr ha
  go_enter Try.func13, Try.ntmps13
  go_wp2_with (first
    | (refine wpList_load_mid rfl 23 (.tmp 1) rfl _ _ rfl _ _ RG.out Try.underlying23 rfl (by kernel_rfl) ?_)
    | (rw [HW.out]; refine wpList_load_mid rfl 23 (.tmp 1) rfl _ _ rfl _ _ RG2.out Try.underlying23 rfl (by kernel_rfl) ?_)
    | (go_at_call 25; refine (hh _).mono ?_; rintro e w1 ⟨rfl, hb⟩; have hx1 := (hb.block w.heap.size (by first | (simp; done) | (simp; omega))).trans XA.out; have hz1 := (hb.block (w.heap.size + 1) (by simp)).trans ZA.out; have fz : ∀ j, w1.frozen? ⟨w.heap.size + 1, j, none⟩ = false := (fun j => by simp [World.frozen?, hz1]); have fx : ∀ j, w1.frozen? ⟨w.heap.size, j, none⟩ = false := (fun j => by simp [World.frozen?, hx1]); have c0 : w1.cell? ⟨w.heap.size, 0, none⟩ = some (.int .i64 x.d) := (by simp [World.cell?, hx1]); have c1 : w1.cell? ⟨w.heap.size, 1, none⟩ = some (.int .i64 x.o) := (by simp [World.cell?, hx1]); have c2 : w1.cell? ⟨w.heap.size, 2, none⟩ = some (.int .i64 x.k) := (by simp [World.cell?, hx1]); have c3 : w1.cell? ⟨w.heap.size, 3, none⟩ = some (.int .i64 x.n) := (by simp [World.cell?, hx1]); have d0 : w1.cell? ⟨w.heap.size + 1, 0, none⟩ = some (.int .i64 0) := (by simp [World.cell?, hz1]); have d1 : w1.cell? ⟨w.heap.size + 1, 1, none⟩ = some (.int .i64 0) := (by simp [World.cell?, hz1]); have d2 : w1.cell? ⟨w.heap.size + 1, 2, none⟩ = some (.int .i64 0) := (by simp [World.cell?, hz1]); have d3 : w1.cell? ⟨w.heap.size + 1, 3, none⟩ = some (.int .i64 0) := (by simp [World.cell?, hz1]); have HB1 := Lib.hid ((HB.out (.cells #[.int .i64 x.d, .int .i64 x.o, .int .i64 x.k, .int .i64 x.n] 23) (.cells #[.int .i64 0, .int .i64 0, .int .i64 0, .int .i64 0] 23)).trans (hb.mono (by first | (simp; done) | (simp; omega)))); have X1 := Lib.hid hx1; have Z1 := Lib.hid hz1; have rg2 := range_list (heap_set_list (j := 1) (v := .int .i64 (x.o + 1)) (heap_set_list (j := 2) (v := .int .i64 1) (heap_set_list (j := 3) (v := .int .i64 0) hx1))); have z2 := (set_other (k := w.heap.size + 1) (b := w.heap.size) (j := 1) (v := .int .i64 (x.o + 1)) (by omega) (set_other (k := w.heap.size + 1) (b := w.heap.size) (j := 2) (v := .int .i64 1) (by omega) (set_other (k := w.heap.size + 1) (b := w.heap.size) (j := 3) (v := .int .i64 0) (by omega) hz1))); have hb2 := (((HB1.out.setCell (p := ⟨w.heap.size, 3, none⟩) (Nat.le_refl _) (.int .i64 0)).setCell (p := ⟨w.heap.size, 2, none⟩) (Nat.le_refl _) (.int .i64 1)).setCell (p := ⟨w.heap.size, 1, none⟩) (Nat.le_refl _) (.int .i64 (x.o + 1))); obtain ⟨W3, hW3⟩ : ∃ W3, (((w1.setCell ⟨w.heap.size, 3, none⟩ (.int .i64 0)).setCell ⟨w.heap.size, 2, none⟩ (.int .i64 1)).setCell ⟨w.heap.size, 1, none⟩ (.int .i64 (x.o + 1))) = W3 := ⟨_, rfl⟩; rw [hW3] at rg2 z2 hb2; have fz3 : ∀ j, W3.frozen? ⟨w.heap.size + 1, j, none⟩ = false := (fun j => by simp [World.frozen?, z2]); have RG2 := Lib.hid rg2; have Z2 := Lib.hid z2; have HB2 := Lib.hid hb2; have HW := Lib.hid hW3; clear hW3 rg2 z2 hb2 d0 d1 d2 d3; have d0 : W3.cell? ⟨w.heap.size + 1, 0, none⟩ = some (.int .i64 0) := (by simp [World.cell?, Z2.out]); have d1 : W3.cell? ⟨w.heap.size + 1, 1, none⟩ = some (.int .i64 0) := (by simp [World.cell?, Z2.out]); have d2 : W3.cell? ⟨w.heap.size + 1, 2, none⟩ = some (.int .i64 0) := (by simp [World.cell?, Z2.out]); have d3 : W3.cell? ⟨w.heap.size + 1, 3, none⟩ = some (.int .i64 0) := (by simp [World.cell?, Z2.out]); clear hb hx1 hz1))
  have q := range_list (heap_set_list (j := 3) (v := .int .i64 0) (heap_set_list (j := 2) (v := .int .i64 1) (heap_set_list (j := 1) (v := .int .i64 (x.o + 1)) (heap_set_list (j := 0) (v := .int .i64 x.d) Z2.out))))
  simp only [List.set_cons_zero, List.set_cons_succ] at q
  refine bodyPost_ret (results_row2 (cs := [.int .i64 x.d, .int .i64 (x.o + 1), .int .i64 1, .int .i64 0]) rfl rfl q Try.underlying23 rfl (by kernel_rfl)) rfl ?_
  exact ⟨rfl, ((((HB2.out.setCell (p := ⟨w.heap.size + 1, 0, none⟩) (Nat.le_succ _) _).setCell (p := ⟨w.heap.size + 1, 1, none⟩) (Nat.le_succ _) _).setCell (p := ⟨w.heap.size + 1, 2, none⟩) (Nat.le_succ _) _).setCell (p := ⟨w.heap.size + 1, 3, none⟩) (Nat.le_succ _) _)⟩
set_option maxHeartbeats 3200000 in
set_option maxRecDepth 100000 in
theorem rafter_5 (x : TId) (hr : rightT x) (h1 : ¬ x.n < 65535) (h2 : ¬ x.k < 4) (h3 : ¬ x.o < 1000) (h4 : x.d < 2) (w : World) : Calls Try.prog 13 #[.agg #[.int .i64 x.d, .int .i64 x.o, .int .i64 x.k, .int .i64 x.n]] w (AftE x w) := by
  have hh := rright_any x
  rw [decide_eq_true hr] at hh
  have ha : afterT x = (⟨(x.d + 1), 1, 1, 0⟩, true) := by unfold afterT; rw [if_neg (fun q => q hr)]; rw [if_neg h1, if_neg h2, if_neg h3, if_pos h4]
  have hb0 : (1 ≤ x.d ∧ x.d ≤ 2) ∧ (1 ≤ x.o ∧ x.o ≤ 1000) ∧ (1 ≤ x.k ∧ x.k ≤ 4) ∧ (0 ≤ x.n ∧ x.n ≤ 65535) := by unfold rightT at hr; omega
  obtain ⟨g1, g2, g3, g4⟩ := hb0
  unfold AftE
  rw [ha]
  have HB : RowKit.Hid (∀ A B : Obj, Below w.heap.size w ((w.alloc A).alloc B)) := fun A B => ((Below.refl _ w).alloc (Nat.le_refl _) _).alloc (by simp) _
  have XA : RowKit.Hid (((w.alloc (.cells #[.int .i64 x.d, .int .i64 x.o, .int .i64 x.k, .int .i64 x.n] 23)).alloc (.cells #[.int .i64 0, .int .i64 0, .int .i64 0, .int .i64 0] 23)).heap[w.heap.size]? = some (.cells [.int .i64 x.d, .int .i64 x.o, .int .i64 x.k, .int .i64 x.n].toArray 23 (0, 0))) := by unfold Hid; rw [heap_alloc_old _ _ (by simp)]; exact heap_alloc_new w _
  have ZA : RowKit.Hid (((w.alloc (.cells #[.int .i64 x.d, .int .i64 x.o, .int .i64 x.k, .int .i64 x.n] 23)).alloc (.cells #[.int .i64 0, .int .i64 0, .int .i64 0, .int .i64 0] 23)).heap[w.heap.size + 1]? = some (.cells [.int .i64 0, .int .i64 0, .int .i64 0, .int .i64 0].toArray 23 (0, 0))) := by have := heap_alloc_new (w.alloc (.cells #[.int .i64 x.d, .int .i64 x.o, .int .i64 x.k, .int .i64 x.n] 23)) (.cells #[.int .i64 0, .int .i64 0, .int .i64 0, .int .i64 0] 23); unfold Hid; simpa using this
  have RG := Lib.hid (range_list XA.out)
  clear hr ha
  go_enter Try.func13, Try.ntmps13
  go_wp2_with (first
    | (refine wpList_load_mid rfl 23 (.tmp 1) rfl _ _ rfl _ _ RG.out Try.underlying23 rfl (by kernel_rfl) ?_)
    | (rw [HW.out]; refine wpList_load_mid rfl 23 (.tmp 1) rfl _ _ rfl _ _ RG2.out Try.underlying23 rfl (by kernel_rfl) ?_)
    | (go_at_call 25; refine (hh _).mono ?_; rintro e w1 ⟨rfl, hb⟩; have hx1 := (hb.block w.heap.size (by first | (simp; done) | (simp; omega))).trans XA.out; have hz1 := (hb.block (w.heap.size + 1) (by simp)).trans ZA.out; have fz : ∀ j, w1.frozen? ⟨w.heap.size + 1, j, none⟩ = false := (fun j => by simp [World.frozen?, hz1]); have fx : ∀ j, w1.frozen? ⟨w.heap.size, j, none⟩ = false := (fun j => by simp [World.frozen?, hx1]); have c0 : w1.cell? ⟨w.heap.size, 0, none⟩ = some (.int .i64 x.d) := (by simp [World.cell?, hx1]); have c1 : w1.cell? ⟨w.heap.size, 1, none⟩ = some (.int .i64 x.o) := (by simp [World.cell?, hx1]); have c2 : w1.cell? ⟨w.heap.size, 2, none⟩ = some (.int .i64 x.k) := (by simp [World.cell?, hx1]); have c3 : w1.cell? ⟨w.heap.size, 3, none⟩ = some (.int .i64 x.n) := (by simp [World.cell?, hx1]); have d0 : w1.cell? ⟨w.heap.size + 1, 0, none⟩ = some (.int .i64 0) := (by simp [World.cell?, hz1]); have d1 : w1.cell? ⟨w.heap.size + 1, 1, none⟩ = some (.int .i64 0) := (by simp [World.cell?, hz1]); have d2 : w1.cell? ⟨w.heap.size + 1, 2, none⟩ = some (.int .i64 0) := (by simp [World.cell?, hz1]); have d3 : w1.cell? ⟨w.heap.size + 1, 3, none⟩ = some (.int .i64 0) := (by simp [World.cell?, hz1]); have HB1 := Lib.hid ((HB.out (.cells #[.int .i64 x.d, .int .i64 x.o, .int .i64 x.k, .int .i64 x.n] 23) (.cells #[.int .i64 0, .int .i64 0, .int .i64 0, .int .i64 0] 23)).trans (hb.mono (by first | (simp; done) | (simp; omega)))); have X1 := Lib.hid hx1; have Z1 := Lib.hid hz1; have rg2 := range_list (heap_set_list (j := 0) (v := .int .i64 (x.d + 1)) (heap_set_list (j := 1) (v := .int .i64 1) (heap_set_list (j := 2) (v := .int .i64 1) (heap_set_list (j := 3) (v := .int .i64 0) hx1)))); have z2 := (set_other (k := w.heap.size + 1) (b := w.heap.size) (j := 0) (v := .int .i64 (x.d + 1)) (by omega) (set_other (k := w.heap.size + 1) (b := w.heap.size) (j := 1) (v := .int .i64 1) (by omega) (set_other (k := w.heap.size + 1) (b := w.heap.size) (j := 2) (v := .int .i64 1) (by omega) (set_other (k := w.heap.size + 1) (b := w.heap.size) (j := 3) (v := .int .i64 0) (by omega) hz1)))); have hb2 := ((((HB1.out.setCell (p := ⟨w.heap.size, 3, none⟩) (Nat.le_refl _) (.int .i64 0)).setCell (p := ⟨w.heap.size, 2, none⟩) (Nat.le_refl _) (.int .i64 1)).setCell (p := ⟨w.heap.size, 1, none⟩) (Nat.le_refl _) (.int .i64 1)).setCell (p := ⟨w.heap.size, 0, none⟩) (Nat.le_refl _) (.int .i64 (x.d + 1))); obtain ⟨W3, hW3⟩ : ∃ W3, ((((w1.setCell ⟨w.heap.size, 3, none⟩ (.int .i64 0)).setCell ⟨w.heap.size, 2, none⟩ (.int .i64 1)).setCell ⟨w.heap.size, 1, none⟩ (.int .i64 1)).setCell ⟨w.heap.size, 0, none⟩ (.int .i64 (x.d + 1))) = W3 := ⟨_, rfl⟩; rw [hW3] at rg2 z2 hb2; have fz3 : ∀ j, W3.frozen? ⟨w.heap.size + 1, j, none⟩ = false := (fun j => by simp [World.frozen?, z2]); have RG2 := Lib.hid rg2; have Z2 := Lib.hid z2; have HB2 := Lib.hid hb2; have HW := Lib.hid hW3; clear hW3 rg2 z2 hb2 d0 d1 d2 d3; have d0 : W3.cell? ⟨w.heap.size + 1, 0, none⟩ = some (.int .i64 0) := (by simp [World.cell?, Z2.out]); have d1 : W3.cell? ⟨w.heap.size + 1, 1, none⟩ = some (.int .i64 0) := (by simp [World.cell?, Z2.out]); have d2 : W3.cell? ⟨w.heap.size + 1, 2, none⟩ = some (.int .i64 0) := (by simp [World.cell?, Z2.out]); have d3 : W3.cell? ⟨w.heap.size + 1, 3, none⟩ = some (.int .i64 0) := (by simp [World.cell?, Z2.out]); clear hb hx1 hz1))
  have q := range_list (heap_set_list (j := 3) (v := .int .i64 0) (heap_set_list (j := 2) (v := .int .i64 1) (heap_set_list (j := 1) (v := .int .i64 1) (heap_set_list (j := 0) (v := .int .i64 (x.d + 1)) Z2.out))))
  simp only [List.set_cons_zero, List.set_cons_succ] at q
  refine bodyPost_ret (results_row2 (cs := [.int .i64 (x.d + 1), .int .i64 1, .int .i64 1, .int .i64 0]) rfl rfl q Try.underlying23 rfl (by kernel_rfl)) rfl ?_
  exact ⟨rfl, ((((HB2.out.setCell (p := ⟨w.heap.size + 1, 0, none⟩) (Nat.le_succ _) _).setCell (p := ⟨w.heap.size + 1, 1, none⟩) (Nat.le_succ _) _).setCell (p := ⟨w.heap.size + 1, 2, none⟩) (Nat.le_succ _) _).setCell (p := ⟨w.heap.size + 1, 3, none⟩) (Nat.le_succ _) _)⟩
set_option maxHeartbeats 3200000 in
set_option maxRecDepth 100000 in
theorem rafter_6 (x : TId) (hr : rightT x) (h1 : ¬ x.n < 65535) (h2 : ¬ x.k < 4) (h3 : ¬ x.o < 1000) (h4 : ¬ x.d < 2) (w : World) : Calls Try.prog 13 #[.agg #[.int .i64 x.d, .int .i64 x.o, .int .i64 x.k, .int .i64 x.n]] w (AftE x w) := by
  have hh := rright_any x
  rw [decide_eq_true hr] at hh
  have ha : afterT x = (zeroT, false) := by unfold afterT; rw [if_neg (fun q => q hr)]; rw [if_neg h1, if_neg h2, if_neg h3, if_neg h4]
  have hb0 : (1 ≤ x.d ∧ x.d ≤ 2) ∧ (1 ≤ x.o ∧ x.o ≤ 1000) ∧ (1 ≤ x.k ∧ x.k ≤ 4) ∧ (0 ≤ x.n ∧ x.n ≤ 65535) := by unfold rightT at hr; omega
  obtain ⟨g1, g2, g3, g4⟩ := hb0
  unfold AftE
  rw [ha]
  have HB : RowKit.Hid (∀ A B : Obj, Below w.heap.size w ((w.alloc A).alloc B)) := fun A B => ((Below.refl _ w).alloc (Nat.le_refl _) _).alloc (by simp) _
  have XA : RowKit.Hid (((w.alloc (.cells #[.int .i64 x.d, .int .i64 x.o, .int .i64 x.k, .int .i64 x.n] 23)).alloc (.cells #[.int .i64 0, .int .i64 0, .int .i64 0, .int .i64 0] 23)).heap[w.heap.size]? = some (.cells [.int .i64 x.d, .int .i64 x.o, .int .i64 x.k, .int .i64 x.n].toArray 23 (0, 0))) := by unfold Hid; rw [heap_alloc_old _ _ (by simp)]; exact heap_alloc_new w _
  have ZA : RowKit.Hid (((w.alloc (.cells #[.int .i64 x.d, .int .i64 x.o, .int .i64 x.k, .int .i64 x.n] 23)).alloc (.cells #[.int .i64 0, .int .i64 0, .int .i64 0, .int .i64 0] 23)).heap[w.heap.size + 1]? = some (.cells [.int .i64 0, .int .i64 0, .int .i64 0, .int .i64 0].toArray 23 (0, 0))) := by have := heap_alloc_new (w.alloc (.cells #[.int .i64 x.d, .int .i64 x.o, .int .i64 x.k, .int .i64 x.n] 23)) (.cells #[.int .i64 0, .int .i64 0, .int .i64 0, .int .i64 0] 23); unfold Hid; simpa using this
  have RG := Lib.hid (range_list XA.out)
  clear hr ha
  go_enter Try.func13, Try.ntmps13
  go_wp2_with (first
    | (refine wpList_load_mid rfl 23 (.tmp 1) rfl _ _ rfl _ _ RG.out Try.underlying23 rfl (by kernel_rfl) ?_)
    | (go_at_call 25; refine (hh _).mono ?_; rintro e w1 ⟨rfl, hb⟩; have hx1 := (hb.block w.heap.size (by first | (simp; done) | (simp; omega))).trans XA.out; have hz1 := (hb.block (w.heap.size + 1) (by simp)).trans ZA.out; have fz : ∀ j, w1.frozen? ⟨w.heap.size + 1, j, none⟩ = false := (fun j => by simp [World.frozen?, hz1]); have fx : ∀ j, w1.frozen? ⟨w.heap.size, j, none⟩ = false := (fun j => by simp [World.frozen?, hx1]); have c0 : w1.cell? ⟨w.heap.size, 0, none⟩ = some (.int .i64 x.d) := (by simp [World.cell?, hx1]); have c1 : w1.cell? ⟨w.heap.size, 1, none⟩ = some (.int .i64 x.o) := (by simp [World.cell?, hx1]); have c2 : w1.cell? ⟨w.heap.size, 2, none⟩ = some (.int .i64 x.k) := (by simp [World.cell?, hx1]); have c3 : w1.cell? ⟨w.heap.size, 3, none⟩ = some (.int .i64 x.n) := (by simp [World.cell?, hx1]); have d0 : w1.cell? ⟨w.heap.size + 1, 0, none⟩ = some (.int .i64 0) := (by simp [World.cell?, hz1]); have d1 : w1.cell? ⟨w.heap.size + 1, 1, none⟩ = some (.int .i64 0) := (by simp [World.cell?, hz1]); have d2 : w1.cell? ⟨w.heap.size + 1, 2, none⟩ = some (.int .i64 0) := (by simp [World.cell?, hz1]); have d3 : w1.cell? ⟨w.heap.size + 1, 3, none⟩ = some (.int .i64 0) := (by simp [World.cell?, hz1]); have HB1 := Lib.hid ((HB.out (.cells #[.int .i64 x.d, .int .i64 x.o, .int .i64 x.k, .int .i64 x.n] 23) (.cells #[.int .i64 0, .int .i64 0, .int .i64 0, .int .i64 0] 23)).trans (hb.mono (by first | (simp; done) | (simp; omega)))); have X1 := Lib.hid hx1; have Z1 := Lib.hid hz1; have RG2 := Lib.hid (range_list hx1); clear hb hx1 hz1))
  have q := range_list (heap_set_list (j := 3) (v := .int .i64 0) (heap_set_list (j := 2) (v := .int .i64 0) (heap_set_list (j := 1) (v := .int .i64 0) (heap_set_list (j := 0) (v := .int .i64 0) (set_other (k := w.heap.size + 1) (b := w.heap.size) (j := 1) (v := .int .i64 1) (by omega) (set_other (k := w.heap.size + 1) (b := w.heap.size) (j := 2) (v := .int .i64 1) (by omega) (set_other (k := w.heap.size + 1) (b := w.heap.size) (j := 3) (v := .int .i64 0) (by omega) Z1.out)))))))
  simp only [List.set_cons_zero, List.set_cons_succ] at q
  refine bodyPost_ret (results_row2 (cs := [.int .i64 0, .int .i64 0, .int .i64 0, .int .i64 0]) rfl rfl q Try.underlying23 rfl (by kernel_rfl)) rfl ?_
  exact ⟨rfl, (((((((HB1.out.setCell (p := ⟨w.heap.size, 3, none⟩) (Nat.le_refl _) _).setCell (p := ⟨w.heap.size, 2, none⟩) (Nat.le_refl _) _).setCell (p := ⟨w.heap.size, 1, none⟩) (Nat.le_refl _) _).setCell (p := ⟨w.heap.size + 1, 0, none⟩) (Nat.le_succ _) _).setCell (p := ⟨w.heap.size + 1, 1, none⟩) (Nat.le_succ _) _).setCell (p := ⟨w.heap.size + 1, 2, none⟩) (Nat.le_succ _) _).setCell (p := ⟨w.heap.size + 1, 3, none⟩) (Nat.le_succ _) _)⟩
theorem rafter_any (x : TId) (w : World) : Calls Try.prog 13 #[.agg #[.int .i64 x.d, .int .i64 x.o, .int .i64 x.k, .int .i64 x.n]] w (AftE x w) := by
  by_cases hr : rightT x
  · by_cases h1 : x.n < 65535
    · exact rafter_2 x hr h1 w
    · by_cases h2 : x.k < 4
      · exact rafter_3 x hr h1 h2 w
      · by_cases h3 : x.o < 1000
        · exact rafter_4 x hr h1 h2 h3 w
        · by_cases h4 : x.d < 2
          · exact rafter_5 x hr h1 h2 h3 h4 w
          · exact rafter_6 x hr h1 h2 h3 h4 w
  · exact rafter_1 x hr w
end Go.Proofs.Yticbdodpclnanaa
