/-
  PREFIXES: whether an address is in one; whether one covers another one.
-/
import Derived.Test.YtebogllfjhiblaaDoorNLeaf
namespace Go.Proofs.YtebogllfjhiblaaDoor
open Go.RowKit
/-- A prefix as the program holds it. -/
abbrev PV (n : Nat) (b : Int) : Value := .agg #[.int .u32 n, .int .i64 b]
set_option maxHeartbeats 1600000 in
set_option maxRecDepth 100000 in
theorem in_any (n : Nat) (hn : n < 4294967296) (b : Int) (a : Nat) (ha : a < 4294967296) (w : World) : Calls Tryd.prog 20 #[.agg #[.int .u32 n, .int .i64 b], .int .u32 a] w fun e w' => e = .returned (.bool (inP (n, b) a)) ∧ Below w.heap.size w w' := by
  have hr := right_any n hn b
  by_cases hp : rightP (n, b) = true
  · have h01 : 0 ≤ b ∧ b ≤ 32 := by
      have h := hp
      unfold rightP rightB at h
      simp only [Bool.and_eq_true, decide_eq_true_eq] at h
      exact h.1
    have hm := mask_any b h01.1 h01.2
    have hbit := bits_and (b := b) ha
    have m0 : (0 : Int) ≤ (maskP b : Int) := by omega
    have m1 : ((maskP b : Nat) : Int) < 4294967296 := by have := maskP_lt b; omega
    have e : inP (n, b) a = decide (((a - a % sizeP b : Nat) : Int) = n) := by unfold inP; rw [hp, Bool.true_and]; exact decide_eq_decide.2 (by show a - a % sizeP b = n ↔ _; generalize a - a % sizeP b = S; omega)
    rw [e]
    rw [hp] at hr
    generalize hS : a - a % sizeP b = S at *
    clear hS e hp h01
    go_enter Tryd.func20, Tryd.ntmps20
    go_wp2
    have d0 : (w.alloc (.cells #[.int .u32 n, .int .i64 b] 24)).drew.cell? ⟨w.heap.size, 0, none⟩ = some (.int .u32 n) := by simp
    have d1 : (w.alloc (.cells #[.int .u32 n, .int .i64 b] 24)).drew.cell? ⟨w.heap.size, 1, none⟩ = some (.int .i64 b) := by simp
    first | (go_region_held (fun W => W.cell? ⟨w.heap.size, 0, none⟩ = some (.int .u32 n) ∧ W.cell? ⟨w.heap.size, 1, none⟩ = some (.int .i64 b)) (first | exact ⟨d0, d1⟩ | exact ⟨by assumption, by assumption⟩)
      (first
        | (go_at_call 16; refine (hr _).mono ?_; rintro e w1 ⟨rfl, hb1⟩; have c0 := keepC hb1 (by simp) d0; have c1 := keepC hb1 (by simp) d1; have HB := Lib.hid (boxed hb1); clear hb1)
        | (go_at_call 34; refine (hm _).mono ?_; rintro e w1 ⟨rfl, rfl⟩))) | fail
    go_wp2
    go_ret
    exact ⟨rfl, HB.out⟩
  · have hp : rightP (n, b) = false := by simpa using hp
    have e : inP (n, b) a = false := by unfold inP; rw [hp, Bool.false_and]
    rw [e]
    rw [hp] at hr
    clear e hp
    go_enter Tryd.func20, Tryd.ntmps20
    go_wp2
    have d0 : (w.alloc (.cells #[.int .u32 n, .int .i64 b] 24)).drew.cell? ⟨w.heap.size, 0, none⟩ = some (.int .u32 n) := by simp
    have d1 : (w.alloc (.cells #[.int .u32 n, .int .i64 b] 24)).drew.cell? ⟨w.heap.size, 1, none⟩ = some (.int .i64 b) := by simp
    first | (go_region_with (first | (go_at_call 16; refine (hr _).mono ?_; rintro e w1 ⟨rfl, hb1⟩; have HB := Lib.hid (boxed hb1); clear hb1))) | fail
    all_goals (go_wp2; go_ret; exact ⟨rfl, HB.out⟩)
end Go.Proofs.YtebogllfjhiblaaDoor
