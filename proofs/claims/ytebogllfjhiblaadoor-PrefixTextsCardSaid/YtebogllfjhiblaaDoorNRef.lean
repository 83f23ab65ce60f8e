/-
  THE DOCUMENT's PREFIXES: how many addresses, what is right, in, covered, cut, less: as in the program.
-/
import Derived.Test.YtebogllfjhiblaaDoorNLeaf
import Derived.IntWalk
namespace Go.Proofs.YtebogllfjhiblaaDoor
set_option linter.unusedVariables false
set_option linter.unusedSimpArgs false
open Go.RowKit
theorem rsize_any (b : Int) (h0 : 0 ≤ b) (h1 : b ≤ 32) (w : World) : Calls Tryd.prog 35 #[.int .i64 b] w fun e w' => e = .returned (.int .i64 (sizeP b : Nat)) ∧ w' = w := by
  go_enter Tryd.func35, Tryd.ntmps35
  go_wp2
  go_loop [3, 4] (fun n i => ∃ k : Nat, Hid (b + k ≤ 32) ∧ n = .int .i64 ((2 ^ k : Nat) : Int) ∧ i = .int .i64 (b + k)) (fun _ i => (32 - intOf i).toNat)
  case atStart => exact ⟨0, by unfold Hid; omega, rfl, by simp⟩
  case round =>
    obtain ⟨k, HK, rfl, rfl⟩ := hrel
    by_cases hlt : b + k < 32
    · have hp : 2 ^ k ≤ 4294967296 := by
        have h := Nat.pow_le_pow_right (n := 2) (by decide) (show k ≤ 32 by omega)
        simpa using h
      have hp1 : 2 ^ (k + 1) = 2 ^ k * 2 := Nat.pow_succ 2 k
      obtain ⟨X, hX⟩ : ∃ X : Nat, 2 ^ k = X := ⟨_, rfl⟩
      rw [hX] at hp hp1 ⊢
      have HP1 := Lib.hid hp1
      obtain ⟨y, hy⟩ : ∃ y : Int, b + k = y := ⟨_, rfl⟩
      have hy0 : 0 ≤ y := by omega
      rw [hy] at hlt ⊢
      have HY := Lib.hid hy
      clear hX hp1 hy
      go_wp2
      go_round
      case rel =>
        have hy := HY.out
        exact ⟨k + 1, by unfold Hid; omega, by rw [HP1.out]; go_num, by rw [← hy]; congr 1; push_cast; omega⟩
      case measure => simp [intOf]; omega
    · have hk : b + k = 32 := by have := HK.out; omega
      have hs : sizeP b = 2 ^ k := by unfold sizeP; congr 1; omega
      have HS := Lib.hid hs
      rw [hk]
      obtain ⟨X, hX⟩ : ∃ X : Nat, 2 ^ k = X := ⟨_, rfl⟩
      rw [hX] at HS ⊢
      clear hs hk hX
      go_wp2
      go_ret
      exact ⟨by rw [HS.out]; rfl, rfl⟩
theorem rright_any (n : Nat) (hn : n < 4294967296) (b : Int) (w : World) : Calls Tryd.prog 17 #[.agg #[.int .u32 n, .int .i64 b]] w fun e w' => e = .returned (.bool (rightP (n, b))) ∧ Below w.heap.size w w' := by
  by_cases h0 : 0 ≤ b
  · by_cases h1 : b ≤ 32
    · have hm := rsize_any b h0 h1
      have e : rightP (n, b) = decide (((n % sizeP b : Nat) : Int) = 0) := by
        unfold rightP
        rw [show rightB (n, b).2 = true from by unfold rightB; exact decide_eq_true ⟨h0, h1⟩, Bool.true_and]
        exact decide_eq_decide.2 (by show n % sizeP b = 0 ↔ _; generalize n % sizeP b = S; omega)
      rw [e]
      have hp := sizeP_pos b
      have hle := sizeP_le (b := b)
      have hmod : ((n : Int) % (sizeP b : Int)) = ((n % sizeP b : Nat) : Int) := by simp
      rw [← hmod]
      generalize sizeP b = S at *
      clear e hmod
      have d0 : decide (0 ≤ b) = true := decide_eq_true h0
      have d1 : decide (b ≤ 32) = true := decide_eq_true h1
      go_enter Tryd.func17, Tryd.ntmps17
      go_wp2
      go_quiet ((go_at_call 35; exact Calls.quiet_of_same (hm _)))
      go_wp2
      go_ret
      exact ⟨rfl, bel_drawn ((Below.refl _ _).alloc (Nat.le_refl _) _) _⟩
    · have e : rightP (n, b) = false := by unfold rightP rightB; simp; omega
      rw [e]
      have d0 : decide (0 ≤ b) = true := decide_eq_true h0
      have d1 : decide (b ≤ 32) = false := decide_eq_false h1
      clear e
      go_enter Tryd.func17, Tryd.ntmps17
      go_wp2
      go_quiet (fail)
      go_wp2
      go_ret
      exact ⟨rfl, bel_drawn ((Below.refl _ _).alloc (Nat.le_refl _) _) _⟩
  · have e : rightP (n, b) = false := by unfold rightP rightB; simp; omega
    rw [e]
    have d0 : decide (0 ≤ b) = false := decide_eq_false h0
    clear e
    go_enter Tryd.func17, Tryd.ntmps17
    go_wp2
    go_quiet (fail)
    go_wp2
    go_ret
    exact ⟨rfl, bel_drawn ((Below.refl _ _).alloc (Nat.le_refl _) _) _⟩
end Go.Proofs.YtebogllfjhiblaaDoor
