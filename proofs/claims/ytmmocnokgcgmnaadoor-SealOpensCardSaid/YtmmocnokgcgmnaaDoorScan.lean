/-
  PLAIN MATHEMATICS: 'scan': the numbers that the program's iterator yields over some bytes, each with the number of its bytes.
-/
import Derived.Test.YtmmocnokgcgmnaaDoorMath
namespace Go.Proofs.YtmmocnokgcgmnaaDoor

/-- May x stand at that place? -/
def may (x : Int) (p : Nat) : Bool := if p = 9 then x == 1 else x != 0 || p == 0

structure Num where
  n : Nat
  k : Nat
  hn : n < 18446744073709551616
  hk : k ≤ 10
def Num.of (n k : Nat) : Num := ⟨n % 18446744073709551616, k % 11, by omega, by omega⟩
theorem Num.of_n {n k : Nat} (h : n < 18446744073709551616) : (Num.of n k).n = n := Nat.mod_eq_of_lt h
theorem Num.of_k {n k : Nat} (h : k ≤ 10) : (Num.of n k).k = k := Nat.mod_eq_of_lt (by omega)

/-- What comes of the bytes 'bs' where a number is under way: n so far, p of its bytes. -/
def scan : Nat → Nat → List Int → List Num
  | _, _, [] => []
  | n, p, x :: bs => if may x p then
      if 128 ≤ x then scan (n + (x % 128).toNat * 128 ^ p) (p + 1) bs
      else Num.of (n + (x % 128).toNat * 128 ^ p) (p + 1) :: scan 0 0 bs
    else []

/-- What is under way: at most nine bytes, and a number of as many groups. -/
def Way (n p : Nat) : Prop := p ≤ 9 ∧ n < 128 ^ p
theorem way0 : Way 0 0 := ⟨by omega, by decide⟩

theorem may_9 {x : Int} (h : may x 9 = true) : x = 1 := by simpa [may] using h

theorem way_next {n p : Nat} {x : Int} (h : Way n p) (hm : may x p = true) (hx : 128 ≤ x) : Way (n + (x % 128).toNat * 128 ^ p) (p + 1) := by
  obtain ⟨hp, hn⟩ := h
  have hp9 : p ≠ 9 := by rintro rfl; have := may_9 hm; omega
  refine ⟨by omega, ?_⟩
  have hy : (x % 128).toNat ≤ 127 := by omega
  have := Nat.mul_le_mul_right (128 ^ p) hy
  rw [Nat.pow_succ]
  omega

theorem way_fit {n p : Nat} {x : Int} (h : Way n p) (hm : may x p = true) : n + (x % 128).toNat * 128 ^ p < 18446744073709551616 := by
  obtain ⟨hp, hn⟩ := h
  by_cases h9 : p = 9
  · subst h9
    have := may_9 hm
    subst this
    simp at hn ⊢
    omega
  · have hy : (x % 128).toNat ≤ 127 := by omega
    have h1 := Nat.mul_le_mul_right (128 ^ p) hy
    have h2 : 128 ^ p ≤ 128 ^ 8 := Nat.pow_le_pow_right (by decide) (by omega)
    have h3 : 128 ^ 8 = 72057594037927936 := by decide
    omega
end Go.Proofs.YtmmocnokgcgmnaaDoor
