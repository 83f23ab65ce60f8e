/-
  THE PROGRAM'S First, Last, within, right.
-/
import Derived.Test.YtjfnpciecgemeaaTNew
namespace Go.Proofs.Ytjfnpciecgemeaa.ti
set_option linter.unusedSimpArgs false
set_option linter.unusedVariables false
open Go.RowKit
set_option maxHeartbeats 800000 in
set_option maxRecDepth 100000 in
theorem pfirst_any (w : World) : Calls Try.prog 17 #[] w fun e w' => e = .returned (.agg #[.int .i64 1, .int .i64 1, .int .i64 1, .int .i64 0]) ∧ Below w.heap.size w w' := by
  have HB : RowKit.Hid (∀ A : Obj, Below w.heap.size w (w.alloc A)) := fun A => (Below.refl _ w).alloc (Nat.le_refl _) _
  have RG : RowKit.Hid ((w.alloc (.cells #[.int .i64 1, .int .i64 1, .int .i64 1, .int .i64 0] 24)).rangeAt w.heap.size 0 [.int .i64 1, .int .i64 1, .int .i64 1, .int .i64 0]) := range_list (heap_alloc_new w _)
  go_enter Try.func17, Try.ntmps17
  go_wp2
  refine bodyPost_ret (results_row1 rfl rfl RG.out Try.underlying24 rfl (by kernel_rfl)) rfl ?_
  exact ⟨rfl, HB.out _⟩
set_option maxHeartbeats 800000 in
set_option maxRecDepth 100000 in
theorem plast_any (w : World) : Calls Try.prog 18 #[] w fun e w' => e = .returned (.agg #[.int .i64 2, .int .i64 1000, .int .i64 4, .int .i64 65535]) ∧ Below w.heap.size w w' := by
  have HB : RowKit.Hid (∀ A : Obj, Below w.heap.size w (w.alloc A)) := fun A => (Below.refl _ w).alloc (Nat.le_refl _) _
  have RG : RowKit.Hid ((w.alloc (.cells #[.int .i64 2, .int .i64 1000, .int .i64 4, .int .i64 65535] 24)).rangeAt w.heap.size 0 [.int .i64 2, .int .i64 1000, .int .i64 4, .int .i64 65535]) := range_list (heap_alloc_new w _)
  go_enter Try.func18, Try.ntmps18
  go_wp2
  refine bodyPost_ret (results_row1 rfl rfl RG.out Try.underlying24 rfl (by kernel_rfl)) rfl ?_
  exact ⟨rfl, HB.out _⟩
set_option maxHeartbeats 800000 in
set_option maxRecDepth 100000 in
theorem pwithin_any (n a b : Int) (w : World) : Calls Try.prog 45 #[.int .i64 n, .int .i64 a, .int .i64 b] w fun e w' => e = .returned (.bool (decide (a ≤ n ∧ n ≤ b))) ∧ w' = w := by
  obtain ⟨r, hr⟩ : ∃ r, decide (a ≤ n ∧ n ≤ b) = r := ⟨_, rfl⟩
  rw [hr]
  have HR := Lib.hid hr
  clear hr
  by_cases h1 : a ≤ n
  · by_cases h2 : n ≤ b
    · go_enter Try.func45, Try.ntmps45
      go_wp2
      go_ret
      exact ⟨by rw [← HR.out, decide_eq_true (show a ≤ n ∧ n ≤ b by omega)]; rfl, rfl⟩
    · go_enter Try.func45, Try.ntmps45
      go_wp2
      go_ret
      exact ⟨by rw [← HR.out, decide_eq_false (show ¬ (a ≤ n ∧ n ≤ b) by omega)]; rfl, rfl⟩
  · go_enter Try.func45, Try.ntmps45
    go_wp2
    go_ret
    exact ⟨by rw [← HR.out, decide_eq_false (show ¬ (a ≤ n ∧ n ≤ b) by omega)]; rfl, rfl⟩
/-- An id in a box, the first and the last one in two more. -/
structure RgtS (n N : Nat) (x : TId) (w W : World) : Prop where
  bx : W.heap[n]? = some (.cells [.int .i64 x.d, .int .i64 x.o, .int .i64 x.k, .int .i64 x.n].toArray 24 (0, 0))
  bf : W.heap[N]? = some (.cells [.int .i64 1, .int .i64 1, .int .i64 1, .int .i64 0].toArray 24 (0, 0))
  bl : W.heap[N + 1]? = some (.cells [.int .i64 2, .int .i64 1000, .int .i64 4, .int .i64 65535].toArray 24 (0, 0))
  bel : Below n w W
theorem RgtS.new {n : Nat} {x : TId} {w V : World} (hx : V.heap[n]? = some (.cells [.int .i64 x.d, .int .i64 x.o, .int .i64 x.k, .int .i64 x.n].toArray 24 (0, 0))) (hb : Below n w V) :
    RgtS n V.heap.size x w ((V.alloc (.cells #[.int .i64 1, .int .i64 1, .int .i64 1, .int .i64 0] 24)).alloc (.cells #[.int .i64 2, .int .i64 1000, .int .i64 4, .int .i64 65535] 24)) := by
  have hn := (Array.getElem?_eq_some_iff.1 hx).1
  refine ⟨?_, ?_, ?_, (hb.alloc (by omega) _).alloc (by simp; omega) _⟩
  · rw [heap_alloc_old _ _ (by simp; omega), heap_alloc_old _ _ hn]; exact hx
  · rw [heap_alloc_old _ _ (by simp)]; exact heap_alloc_new V _
  · have := heap_alloc_new (V.alloc (.cells #[.int .i64 1, .int .i64 1, .int .i64 1, .int .i64 0] 24)) (.cells #[.int .i64 2, .int .i64 1000, .int .i64 4, .int .i64 65535] 24)
    simpa using this
theorem RgtS.cells {n N : Nat} {x : TId} {w W : World} (h : RgtS n N x w W) : (W.cell? ⟨n, 0, none⟩ = some (.int .i64 x.d) ∧ W.cell? ⟨n, 1, none⟩ = some (.int .i64 x.o) ∧ W.cell? ⟨n, 2, none⟩ = some (.int .i64 x.k) ∧ W.cell? ⟨n, 3, none⟩ = some (.int .i64 x.n)) ∧
    (W.cell? ⟨N, 0, none⟩ = some (.int .i64 1) ∧ W.cell? ⟨N, 1, none⟩ = some (.int .i64 1) ∧ W.cell? ⟨N, 2, none⟩ = some (.int .i64 1) ∧ W.cell? ⟨N, 3, none⟩ = some (.int .i64 0)) ∧
    W.cell? ⟨N + 1, 0, none⟩ = some (.int .i64 2) ∧ W.cell? ⟨N + 1, 1, none⟩ = some (.int .i64 1000) ∧ W.cell? ⟨N + 1, 2, none⟩ = some (.int .i64 4) ∧ W.cell? ⟨N + 1, 3, none⟩ = some (.int .i64 65535) := by
  simp [World.cell?, h.bx, h.bf, h.bl]
theorem RgtS.step {n N : Nat} {x : TId} {w W W' : World} (h : RgtS n N x w W) (k : Below W.heap.size W W') : RgtS n N x w W' := by
  have h1 := (Array.getElem?_eq_some_iff.1 h.bx).1
  exact ⟨(k.block _ h1).trans h.bx, (k.block _ (Array.getElem?_eq_some_iff.1 h.bf).1).trans h.bf, (k.block _ (Array.getElem?_eq_some_iff.1 h.bl).1).trans h.bl, h.bel.trans (k.mono (by omega))⟩
set_option maxHeartbeats 1600000 in
set_option maxRecDepth 100000 in
theorem pright_any (x : TId) (w : World) : Calls Try.prog 36 #[.agg #[.int .i64 x.d, .int .i64 x.o, .int .i64 x.k, .int .i64 x.n]] w fun e w' => e = .returned (.bool (decide (rightT x))) ∧ Below w.heap.size w w' := by
  obtain ⟨r1, h1⟩ : ∃ r, decide (1 ≤ x.d ∧ x.d ≤ 2) = r := ⟨_, rfl⟩
  obtain ⟨r2, h2⟩ : ∃ r, decide (1 ≤ x.o ∧ x.o ≤ 1000) = r := ⟨_, rfl⟩
  obtain ⟨r3, h3⟩ : ∃ r, decide (1 ≤ x.k ∧ x.k ≤ 4) = r := ⟨_, rfl⟩
  obtain ⟨r4, h4⟩ : ∃ r, decide (0 ≤ x.n ∧ x.n ≤ 65535) = r := ⟨_, rfl⟩
  have hr : decide (rightT x) = (r1 && (r2 && (r3 && r4))) := by
    rw [← h1, ← h2, ← h3, ← h4]
    by_cases q : rightT x
    · rw [decide_eq_true q]; unfold rightT at q; simp; omega
    · rw [decide_eq_false q]; unfold rightT at q; simp; omega
  have p1 := pwithin_any x.d 1 2
  have p2 := pwithin_any x.o 1 1000
  have p3 := pwithin_any x.k 1 4
  have p4 := pwithin_any x.n 0 65535
  rw [h1] at p1
  rw [h2] at p2
  rw [h3] at p3
  rw [h4] at p4
  rw [hr]
  have HX0 := Lib.hid (heap_alloc_new w (.cells #[.int .i64 x.d, .int .i64 x.o, .int .i64 x.k, .int .i64 x.n] 24))
  have HB0 : RowKit.Hid (∀ A : Obj, Below w.heap.size w (w.alloc A)) := fun A => (Below.refl _ w).alloc (Nat.le_refl _) _
  have hf := pfirst_any
  have hl := plast_any
  clear h1 h2 h3 h4 hr
  cases r1
  all_goals cases r2
  all_goals cases r3
  all_goals go_enter Try.func36, Try.ntmps36
  all_goals go_wp2_with (first
    | (go_at_call 17; refine (hf _).mono ?_; rintro e w1 ⟨rfl, hb⟩; have HX1 := Lib.hid ((hb.block _ (by simp)).trans HX0.out); have HB1 := Lib.hid ((HB0.out _).trans (hb.mono (by simp))); clear hb)
    | (go_at_call 18; refine (hl _).mono ?_; rintro e w2 ⟨rfl, hb⟩; have hx := RgtS.new (x := x) (w := w) (n := w.heap.size) ((hb.block _ (Array.getElem?_eq_some_iff.1 HX1.out).1).trans HX1.out) (HB1.out.trans (hb.mono HB1.out.size)); obtain ⟨⟨x0, x1, x2, x3⟩, ⟨f0, f1, f2, f3⟩, l0, l1, l2, l3⟩ := hx.cells; have HX2 := Lib.hid hx.bel; clear hb hx)
    | (go_at_call 45; (with_reducible refine (p1 _).mono ?_); rintro e w3 ⟨rfl, rfl⟩)
    | (go_at_call 45; (with_reducible refine (p2 _).mono ?_); rintro e w3 ⟨rfl, rfl⟩)
    | (go_at_call 45; (with_reducible refine (p3 _).mono ?_); rintro e w3 ⟨rfl, rfl⟩)
    | (go_at_call 45; (with_reducible refine (p4 _).mono ?_); rintro e w3 ⟨rfl, rfl⟩))
  all_goals go_ret
  all_goals exact ⟨rfl, HX2.out⟩
end Go.Proofs.Ytjfnpciecgemeaa.ti
