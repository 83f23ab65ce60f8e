/-
  PLAIN MATHEMATICS, NO PROGRAM: the groups of seven bits of a number ('putL'), as integers from 0 to 255.
-/
import Derived.KernelRfl
namespace Go.Proofs.YtmmocnokgcgmnaaDoor

/-- The bytes of a number: its groups of seven bits, the least first, 128 more in all but the last one. -/
def putL (n : Nat) : List Int := if h : n < 128 then [(n : Int)] else ((n % 128 + 128 : Nat) : Int) :: putL (n / 128)
termination_by n
decreasing_by omega

theorem putL_lt {n : Nat} (h : n < 128) : putL n = [(n : Int)] := by rw [putL, dif_pos h]
theorem putL_ge {n : Nat} (h : 128 ≤ n) : putL n = ((n % 128 + 128 : Nat) : Int) :: putL (n / 128) := by rw [putL, dif_neg (by omega)]

theorem putL_pos (n : Nat) : 0 < (putL n).length := by
  by_cases h : n < 128
  · rw [putL_lt h]; simp
  · rw [putL_ge (by omega)]; simp

/-- A number below 128^k has at most k bytes. -/
theorem putL_len (k : Nat) : ∀ n, n < 128 ^ (k + 1) → (putL n).length ≤ k + 1 := by
  induction k with
  | zero => intro n h; rw [putL_lt (by simpa using h)]; simp
  | succ k ih =>
    intro n h
    by_cases hn : n < 128
    · rw [putL_lt hn]; simp
    · rw [putL_ge (by omega)]
      have := ih (n / 128) (Nat.div_lt_of_lt_mul (by rw [Nat.pow_succ] at h; omega))
      simp; omega

theorem putL_len10 {n : Nat} (h : n < 18446744073709551616) : (putL n).length ≤ 10 :=
  putL_len 9 n (Nat.lt_of_lt_of_le h (by decide))

theorem putL_range (n : Nat) : ∀ x ∈ putL n, 0 ≤ x ∧ x ≤ 255 := by
  induction n using Nat.strongRecOn with
  | ind n ih =>
    by_cases hn : n < 128
    · rw [putL_lt hn]; simp; omega
    · rw [putL_ge (by omega)]
      intro x hx
      rcases List.mem_cons.1 hx with rfl | hx
      · omega
      · exact ih _ (by omega) x hx

/-- More bytes for no lesser number. -/
theorem putL_mono : ∀ (a b : Nat), a ≤ b → (putL a).length ≤ (putL b).length := by
  intro a
  induction a using Nat.strongRecOn with
  | ind a ih =>
    intro b hab
    by_cases ha : a < 128
    · rw [putL_lt ha]; have := putL_pos b; simp; omega
    · rw [putL_ge (n := a) (by omega), putL_ge (n := b) (by omega)]
      have := ih (a / 128) (by omega) (b / 128) (Nat.div_le_div_right hab)
      simp; omega
end Go.Proofs.YtmmocnokgcgmnaaDoor
