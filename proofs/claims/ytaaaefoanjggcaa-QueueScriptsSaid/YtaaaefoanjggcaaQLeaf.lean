/-
  JOBS: which is less; how many; which of two of the heap is less.
-/
import Derived.Test.YtaaaefoanjggcaaQMem
namespace Go.Proofs.Ytaaaefoanjggcaa
set_option linter.unusedSimpArgs false
set_option linter.unusedVariables false
open Go.RowKit
def jv (x : Job) : Value := .agg #[.int .i64 x.k, .int .i64 x.a]
theorem less_any (x y : Job) (w : World) : Calls Try.prog 21 #[.agg #[.int .i64 x.k, .int .i64 x.a], .agg #[.int .i64 y.k, .int .i64 y.a]] w fun e w' => e = .returned (.bool (decide (lessJ x y))) ∧ Below w.heap.size w w' := by
  obtain ⟨xk, xa⟩ := x
  obtain ⟨yk, ya⟩ := y
  obtain ⟨z, hz⟩ : ∃ z, decide (lessJ ⟨xk, xa⟩ ⟨yk, ya⟩) = z := ⟨_, rfl⟩
  rw [hz]
  have hb : Below w.heap.size w ((w.alloc (.cells #[.int .i64 xk, .int .i64 xa] 54)).alloc (.cells #[.int .i64 yk, .int .i64 ya] 54)) := ((Below.refl _ _).alloc (Nat.le_refl _) _).alloc (by simp) _
  have HB := Lib.hid hb
  have HZ := Lib.hid hz
  clear hz hb
  simp only at *
  by_cases h1 : xa < ya
  · have e : z = true := by rw [← HZ.out]; exact decide_eq_true (by unfold lessJ; exact .inl h1)
    subst e
    clear HZ
    go_enter Try.func21, Try.ntmps21
    go_wp2
    go_ret
    exact ⟨rfl, HB.out⟩
  · by_cases h2 : xa = ya
    · subst h2
      have e : z = decide (xk < yk) := by rw [← HZ.out]; unfold lessJ; simp
      subst e
      clear HZ
      go_enter Try.func21, Try.ntmps21
      go_wp2
      go_ret
      exact ⟨by simp, HB.out⟩
    · have e : z = false := by rw [← HZ.out]; exact decide_eq_false (by unfold lessJ; simp only; omega)
      subst e
      clear HZ
      go_enter Try.func21, Try.ntmps21
      go_wp2
      go_ret
      exact ⟨rfl, HB.out⟩
theorem hlen_any {base qb mb n : Nat} {g : Option Nat} {f : Int → Option Int} {l : List Job} (w : World) (h : QP w base qb mb g n f l) :
    Calls Try.prog 26 #[.pointer (some ⟨qb, 0, none⟩)] w fun e w' => e = .returned (.int .i64 l.length) ∧ w = w' := by
  obtain ⟨v, h⟩ := h
  obtain ⟨c0, c1, f0, hq⟩ := h.cells
  obtain ⟨a, c, rfl⟩ := h.own.shape
  generalize l.length = len at *
  clear h
  go_enter Try.func26, Try.ntmps26
  go_wp2
  go_ret
  exact ⟨rfl, rfl⟩
theorem qlen_any {base qb mb n : Nat} {g : Option Nat} {f : Int → Option Int} {l : List Job} (w : World) (h : QP w base qb mb g n f l) :
    Calls Try.prog 19 #[.pointer (some ⟨qb, 0, none⟩)] w fun e w' => e = .returned (.int .i64 l.length) ∧ w = w' := by
  have hl := hlen_any w h
  generalize l.length = len at *
  clear h
  go_enter Try.func19, Try.ntmps19
  go_wp2_with (go_at_call 26; refine hl.mono ?_; rintro e w1 ⟨rfl, rfl⟩)
  go_ret
  exact ⟨rfl, rfl⟩
set_option maxHeartbeats 1000000 in
theorem hless_any {base qb mb n : Nat} {g : Option Nat} {f : Int → Option Int} {l : List Job} (w : World) (h : QP w base qb mb g n f l) (i j : Nat) (hi : i < l.length) (hj : j < l.length) :
    Calls Try.prog 46 #[.pointer (some ⟨qb, 0, none⟩), .int .i64 i, .int .i64 j] w fun e w' => e = .returned (.bool (decide (lessJ (at' l i) (at' l j)))) ∧ Below w.heap.size w w' := by
  obtain ⟨v, h⟩ := h
  obtain ⟨c0, c1, f0, hq⟩ := h.cells
  obtain ⟨b, c, rfl, hg, hc, hm⟩ := h.has hi
  obtain ⟨x0, x1⟩ := h.own.cell (at_some hi)
  obtain ⟨y0, y1⟩ := h.own.cell (at_some hj)
  have hl := less_any (at' l i) (at' l j)
  generalize l.length = len at *
  generalize decide (lessJ (at' l i) (at' l j)) = r at *
  generalize at' l i = x at *
  generalize at' l j = y at *
  clear h
  go_enter Try.func46, Try.ntmps46
  go_wp2
  refine wp_region_still_tail 14 (by kernel_rfl) (by kernel_rfl) ?_
  simp only [List.take_succ_cons, List.take_zero, List.drop_succ_cons, List.drop_zero]
  repeat still_step
  refine wpStill_nil ?_
  go_wp2_with (go_at_call 21; refine (hl _).mono ?_; rintro e w1 ⟨rfl, hb1⟩)
  go_ret
  exact ⟨rfl, (Below.refl w.heap.size w).drew.trans hb1⟩
end Go.Proofs.Ytaaaefoanjggcaa
