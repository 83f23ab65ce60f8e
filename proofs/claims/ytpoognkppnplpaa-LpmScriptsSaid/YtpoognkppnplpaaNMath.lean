/-
  PREFIXES AS NUMBERS: a net, and how many bits; what is right, what is in, what covers, what is cut, what is less.
-/
import Derived.Lib.Hide
namespace Go.Proofs.Ytpoognkppnplpaa
/-- How many addresses a prefix of so many bits has. -/
def sizeP (b : Int) : Nat := 2 ^ (32 - b.toNat)
def rightB (b : Int) : Bool := decide (0 ≤ b ∧ b ≤ 32)
def rightP (p : Nat × Int) : Bool := rightB p.2 && decide (p.1 % sizeP p.2 = 0)
def inP (p : Nat × Int) (a : Nat) : Bool := rightP p && decide (a - a % sizeP p.2 = p.1)
def coversP (p q : Nat × Int) : Bool := rightP q && (decide (p.2 ≤ q.2) && inP p q.1)
def cutP (a : Nat) (b : Int) : Nat × Int := (a - a % sizeP b, b)
def cmpI (a b : Int) : Int := if a < b then -1 else if b < a then 1 else 0
def cmpP (p q : Nat × Int) : Int := if cmpI p.1 q.1 = 0 then cmpI p.2 q.2 else cmpI p.1 q.1

theorem sizeP_pos (b : Int) : 0 < sizeP b := Nat.two_pow_pos _
theorem sizeP_le {b : Int} : sizeP b ≤ 4294967296 := by
  unfold sizeP
  exact Nat.le_trans (Nat.pow_le_pow_right (n := 2) (by decide) (Nat.sub_le 32 b.toNat)) (by decide)
theorem sizeP_dvd {b c : Int} (h : b ≤ c) : sizeP c ∣ sizeP b := by
  unfold sizeP
  exact Nat.pow_dvd_pow 2 (by omega)
theorem and_mask (a k : Nat) (hk : k ≤ 32) (ha : a < 4294967296) : a &&& (4294967296 - 2 ^ k) = a - a % 2 ^ k := by
  have h1 : a - a % 2 ^ k = 2 ^ k * (a / 2 ^ k) := by have := Nat.div_add_mod a (2 ^ k); omega
  rw [h1]
  refine Nat.eq_of_testBit_eq fun i => ?_
  have hp : 0 < 2 ^ k := Nat.two_pow_pos k
  have hk2 : 2 ^ k ≤ 2 ^ 32 := Nat.pow_le_pow_right (by decide) hk
  rw [Nat.testBit_and, show (4294967296 : Nat) - 2 ^ k = 2 ^ 32 - ((2 ^ k - 1) + 1) by omega, Nat.testBit_two_pow_sub_succ (by omega), Nat.testBit_two_pow_sub_one, Nat.testBit_two_pow_mul, Nat.testBit_div_two_pow]
  by_cases hik : i < k
  · simp [hik, Nat.not_le.2 hik]
  · have e : i - k + k = i := by omega
    by_cases hi : i < 32
    · simp [hik, hi, Nat.not_lt.1 hik, e]
    · have hb : a.testBit i = false := Nat.testBit_lt_two_pow (Nat.lt_of_lt_of_le ha (by have := Nat.pow_le_pow_right (n := 2) (by decide) (Nat.not_lt.1 hi); simpa using this))
      simp [e, hb]
theorem and_rest (a k : Nat) (hk : k ≤ 32) : a &&& (4294967295 - (4294967296 - 2 ^ k)) = a % 2 ^ k := by
  have hk2 : 2 ^ k ≤ 2 ^ 32 := Nat.pow_le_pow_right (by decide) hk
  have hp : 0 < 2 ^ k := Nat.two_pow_pos k
  rw [show 4294967295 - (4294967296 - 2 ^ k) = 2 ^ k - 1 by omega, Nat.and_two_pow_sub_one_eq_mod]
end Go.Proofs.Ytpoognkppnplpaa
