/-
  PREFIXES: what is right, in, less (the document).
-/
import Derived.Test.YtpoognkppnplpaaYLeaf
import Derived.IntWalk
namespace Go.Proofs.Ytpoognkppnplpaa
set_option linter.unusedVariables false
set_option linter.unusedSimpArgs false
open Go.RowKit
theorem rsize_any (b : Int) (h0 : 0 ≤ b) (h1 : b ≤ 32) (w : World) : Calls Try.prog 45 #[.int .i64 b] w fun e w' => e = .returned (.int .i64 (sizeP b : Nat)) ∧ w' = w := by
  go_enter Try.func45, Try.ntmps45
  go_wp2
  go_loop [3, 4] (fun n i => ∃ k : Nat, Hid (b + k ≤ 32) ∧ n = .int .i64 ((2 ^ k : Nat) : Int) ∧ i = .int .i64 (b + k)) (fun _ i => (32 - intOf i).toNat)
  case atStart => exact ⟨0, by unfold Hid; omega, rfl, by simp⟩
  case round =>
    obtain ⟨k, HK, rfl, rfl⟩ := hrel
    by_cases hlt : b + k < 32
    · have hp : 2 ^ k ≤ 4294967296 := by
        have h := Nat.pow_le_pow_right (n := 2) (by decide) (show k ≤ 32 by omega)
        simpa using h
      have hp1 : 2 ^ (k + 1) = 2 ^ k * 2 := Nat.pow_succ 2 k
      obtain ⟨X, hX⟩ : ∃ X : Nat, 2 ^ k = X := ⟨_, rfl⟩
      rw [hX] at hp hp1 ⊢
      have HP1 := Lib.hid hp1
      obtain ⟨y, hy⟩ : ∃ y : Int, b + k = y := ⟨_, rfl⟩
      have hy0 : 0 ≤ y := by omega
      rw [hy] at hlt ⊢
      have HY := Lib.hid hy
      clear hX hp1 hy
      go_wp2
      go_round
      case rel =>
        have hy := HY.out
        exact ⟨k + 1, by unfold Hid; omega, by rw [HP1.out]; go_num, by rw [← hy]; congr 1; push_cast; omega⟩
      case measure => simp [intOf]; omega
    · have hk : b + k = 32 := by have := HK.out; omega
      have hs : sizeP b = 2 ^ k := by unfold sizeP; congr 1; omega
      have HS := Lib.hid hs
      rw [hk]
      obtain ⟨X, hX⟩ : ∃ X : Nat, 2 ^ k = X := ⟨_, rfl⟩
      rw [hX] at HS ⊢
      clear hs hk hX
      go_wp2
      go_ret
      exact ⟨by rw [HS.out]; rfl, rfl⟩
theorem rright_any (n : Nat) (hn : n < 4294967296) (b : Int) (w : World) : Calls Try.prog 39 #[.agg #[.int .u32 n, .int .i64 b]] w fun e w' => e = .returned (.bool (rightP (n, b))) ∧ Below w.heap.size w w' := by
  by_cases h0 : 0 ≤ b
  · by_cases h1 : b ≤ 32
    · have hm := rsize_any b h0 h1
      have e : rightP (n, b) = decide (((n % sizeP b : Nat) : Int) = 0) := by
        unfold rightP
        rw [show rightB (n, b).2 = true from by unfold rightB; exact decide_eq_true ⟨h0, h1⟩, Bool.true_and]
        exact decide_eq_decide.2 (by show n % sizeP b = 0 ↔ _; generalize n % sizeP b = S; omega)
      rw [e]
      have hp := sizeP_pos b
      have hle := sizeP_le (b := b)
      have hmod : ((n : Int) % (sizeP b : Int)) = ((n % sizeP b : Nat) : Int) := by simp
      rw [← hmod]
      generalize sizeP b = S at *
      clear e hmod
      have d0 : decide (0 ≤ b) = true := decide_eq_true h0
      have d1 : decide (b ≤ 32) = true := decide_eq_true h1
      go_enter Try.func39, Try.ntmps39
      go_wp2
      go_quiet ((go_at_call 45; exact Calls.quiet_of_same (hm _)))
      go_wp2
      go_ret
      exact ⟨rfl, bel_drawn ((Below.refl _ _).alloc (Nat.le_refl _) _) _⟩
    · have e : rightP (n, b) = false := by unfold rightP rightB; simp; omega
      rw [e]
      have d0 : decide (0 ≤ b) = true := decide_eq_true h0
      have d1 : decide (b ≤ 32) = false := decide_eq_false h1
      clear e
      go_enter Try.func39, Try.ntmps39
      go_wp2
      go_quiet (fail)
      go_wp2
      go_ret
      exact ⟨rfl, bel_drawn ((Below.refl _ _).alloc (Nat.le_refl _) _) _⟩
  · have e : rightP (n, b) = false := by unfold rightP rightB; simp; omega
    rw [e]
    have d0 : decide (0 ≤ b) = false := decide_eq_false h0
    clear e
    go_enter Try.func39, Try.ntmps39
    go_wp2
    go_quiet (fail)
    go_wp2
    go_ret
    exact ⟨rfl, bel_drawn ((Below.refl _ _).alloc (Nat.le_refl _) _) _⟩
theorem rightP_bits {n : Nat} {b : Int} (h : rightP (n, b) = true) : (0 ≤ b ∧ b ≤ 32) ∧ n % sizeP b = 0 := by
  unfold rightP rightB at h
  simp only [Bool.and_eq_true, decide_eq_true_eq] at h
  exact h
theorem in_alt {n : Nat} {b : Int} (h : rightP (n, b) = true) (a : Nat) : inP (n, b) a = (decide (n ≤ a) && decide (a < n + sizeP b)) := by
  unfold inP
  rw [h, Bool.true_and, ← Bool.decide_and]
  have hr := (rightP_bits h).2
  have hp := sizeP_pos b
  refine decide_eq_decide.2 ?_
  show a - a % sizeP b = n ↔ _
  generalize sizeP b = S at *
  have h1 := Nat.div_add_mod a S
  have h2 := Nat.mod_lt a hp
  obtain ⟨k, hk⟩ : ∃ k, n = S * k := ⟨n / S, by have := Nat.div_add_mod n S; omega⟩
  constructor
  · omega
  · rintro ⟨h3, h4⟩
    have h5 : a / S = k := by
      have e1 : S * k ≤ a := by omega
      have e2 : a < S * (k + 1) := by rw [Nat.mul_succ]; omega
      have e3 : k ≤ a / S := (Nat.le_div_iff_mul_le hp).2 (by rw [Nat.mul_comm]; exact e1)
      have e4 : a / S < k + 1 := Nat.div_lt_of_lt_mul e2
      omega
    rw [h5] at h1
    omega
set_option maxHeartbeats 1600000 in
set_option maxRecDepth 100000 in
theorem rin_any (n : Nat) (hn : n < 4294967296) (b : Int) (a : Nat) (ha : a < 4294967296) (w : World) : Calls Try.prog 31 #[.agg #[.int .u32 n, .int .i64 b], .int .u32 a] w fun e w' => e = .returned (.bool (inP (n, b) a)) ∧ Below w.heap.size w w' := by
  have hr := rright_any n hn b
  have B0 := Lib.hid ((Below.refl w.heap.size w).alloc (Nat.le_refl _) (.cells #[.int .u32 n, .int .i64 b] 25))
  have d0 : (w.alloc (.cells #[.int .u32 n, .int .i64 b] 25)).cell? ⟨w.heap.size, 0, none⟩ = some (.int .u32 n) := by simp
  have d1 : (w.alloc (.cells #[.int .u32 n, .int .i64 b] 25)).cell? ⟨w.heap.size, 1, none⟩ = some (.int .i64 b) := by simp
  by_cases hp : rightP (n, b) = true
  · have h01 := (rightP_bits hp).1
    have e := in_alt hp a
    have hm := rsize_any b h01.1 h01.2
    have hle := sizeP_le (b := b)
    rw [hp] at hr
    rw [e]
    generalize sizeP b = S at *
    clear e hp h01
    by_cases hge : n ≤ a
    · have g1 : decide ((n : Int) ≤ a) = true := decide_eq_true (by omega)
      have e2 : (decide (n ≤ a) && decide (a < n + S)) = decide ((a : Int) < n + S) := by rw [decide_eq_true hge, Bool.true_and]; exact decide_eq_decide.2 (by omega)
      rw [e2]
      clear e2
      go_enter Try.func31, Try.ntmps31
      go_wp2_with (go_at_call 39; refine (hr _).mono ?_; rintro e w1 ⟨rfl, hb1⟩; have c0 := keepC hb1 (by simp) d0; have c1 := keepC hb1 (by simp) d1; have HB := Lib.hid (B0.out.trans (hb1.mono (by simp))); clear hb1)
      go_quiet ((go_at_call 45; exact Calls.quiet_of_same (hm _)))
      go_wp2
      go_ret
      exact ⟨rfl, bel_drawn HB.out _⟩
    · have g1 : decide ((n : Int) ≤ a) = false := decide_eq_false (by omega)
      have e2 : (decide (n ≤ a) && decide (a < n + S)) = false := by rw [decide_eq_false hge, Bool.false_and]
      rw [e2]
      clear e2
      go_enter Try.func31, Try.ntmps31
      go_wp2_with (go_at_call 39; refine (hr _).mono ?_; rintro e w1 ⟨rfl, hb1⟩; have c0 := keepC hb1 (by simp) d0; have c1 := keepC hb1 (by simp) d1; have HB := Lib.hid (B0.out.trans (hb1.mono (by simp))); clear hb1)
      go_quiet (fail)
      go_wp2
      go_ret
      exact ⟨rfl, bel_drawn HB.out _⟩
  · have hp : rightP (n, b) = false := by simpa using hp
    have e : inP (n, b) a = false := by unfold inP; rw [hp, Bool.false_and]
    rw [e]
    rw [hp] at hr
    clear e hp
    go_enter Try.func31, Try.ntmps31
    go_wp2_with (go_at_call 39; refine (hr _).mono ?_; rintro e w1 ⟨rfl, hb1⟩; have HB := Lib.hid (B0.out.trans (hb1.mono (by simp))); clear hb1)
    go_quiet (fail)
    go_wp2
    go_ret
    exact ⟨rfl, bel_drawn HB.out _⟩
theorem boxA2 {w : World} {cs ds : Array Value} {t u : TypeId} : Below w.heap.size w ((w.alloc (.cells cs t)).alloc (.cells ds u)) := ((Below.refl _ _).alloc (Nat.le_refl _) _).alloc (by simp) _
theorem rcompare_any (n : Nat) (b : Int) (m : Nat) (c : Int) (w : World) : Calls Try.prog 42 #[.agg #[.int .u32 n, .int .i64 b], .agg #[.int .u32 m, .int .i64 c]] w fun e w' => e = .returned (.int .i64 (cmpP (n, b) (m, c))) ∧ Below w.heap.size w w' := by
  have e0 : cmpP (n, b) (m, c) = if cmpI n m = 0 then cmpI b c else cmpI n m := rfl
  rw [e0]
  rcases Nat.lt_trichotomy n m with h | h | h
  · have h1 : (n : Int) < m := by omega
    have h2 : ¬ (n : Int) = m := by omega
    have hd : ((n : Int) != m) = true := by simpa using h2
    rw [cmpI_lt h1, if_neg (by decide)]
    clear e0 h h2
    go_enter Try.func42, Try.ntmps42
    go_wp2
    go_ret
    exact ⟨rfl, boxA2⟩
  · subst h
    rw [cmpI_eq, if_pos rfl]
    clear e0
    rcases Int.lt_trichotomy b c with h | rfl | h
    · have h2 : ¬ b = c := by omega
      have hd : (b != c) = true := by simpa using h2
      rw [cmpI_lt h]
      clear h2
      go_enter Try.func42, Try.ntmps42
      go_wp2
      go_ret
      exact ⟨rfl, boxA2⟩
    · rw [cmpI_eq]
      go_enter Try.func42, Try.ntmps42
      go_wp2
      go_ret
      exact ⟨rfl, boxA2⟩
    · have h2 : ¬ b = c := by omega
      have h3 : ¬ b < c := by omega
      have hd : (b != c) = true := by simpa using h2
      rw [cmpI_gt h]
      clear h2
      go_enter Try.func42, Try.ntmps42
      go_wp2
      go_ret
      exact ⟨rfl, boxA2⟩
  · have h1 : (m : Int) < n := by omega
    have h2 : ¬ (n : Int) = m := by omega
    have h3 : ¬ (n : Int) < m := by omega
    have hd : ((n : Int) != m) = true := by simpa using h2
    rw [cmpI_gt h1, if_neg (by decide)]
    clear e0 h h2
    go_enter Try.func42, Try.ntmps42
    go_wp2
    go_ret
    exact ⟨rfl, boxA2⟩
end Go.Proofs.Ytpoognkppnplpaa
