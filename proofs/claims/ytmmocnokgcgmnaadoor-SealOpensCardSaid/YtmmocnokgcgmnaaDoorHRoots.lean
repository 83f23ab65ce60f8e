/-
  THE TABLES ARE THOSE OF THE ROOTS.
-/
import Derived.Test.YtmmocnokgcgmnaaDoorHRoot
import Derived.Test.YtmmocnokgcgmnaaDoorHPrime
namespace Go.Proofs.YtmmocnokgcgmnaaDoor
theorem roots3 : ∀ i < 64, ∃ r < 8, (r * 4294967296 + tabK.getD i 0) ^ 3 ≤ primes.getD i 0 * 65536 ^ (2 * 3) ∧ primes.getD i 0 * 65536 ^ (2 * 3) < (r * 4294967296 + tabK.getD i 0 + 1) ^ 3 := by decide +kernel
theorem roots2 : ∀ i < 8, ∃ r < 8, (r * 4294967296 + beginH.list.getD i 0) ^ 2 ≤ primes.getD i 0 * 65536 ^ (2 * 2) ∧ primes.getD i 0 * 65536 ^ (2 * 2) < (r * 4294967296 + beginH.list.getD i 0 + 1) ^ 2 := by decide +kernel
theorem root_k {i q k x : Nat} (hi : i < 64) (hq : primes[i]? = some q) (hk : tabK[i]? = some k) (hx : IsRoot q 3 x) : x % 4294967296 = k := by
  obtain ⟨r, _, h1, h2⟩ := roots3 i hi
  have e1 : primes.getD i 0 = q := by rw [List.getD_eq_getElem?_getD, hq]; rfl
  have e2 : tabK.getD i 0 = k := by rw [List.getD_eq_getElem?_getD, hk]; rfl
  rw [e1, e2] at h1 h2
  have hkl := tabK_lt k (List.mem_of_getElem? hk)
  rw [root_one (by decide) hx ⟨h1, h2⟩]
  omega
theorem root_h {i q k x : Nat} (hi : i < 8) (hq : primes[i]? = some q) (hk : beginH.list[i]? = some k) (hkl : k < 4294967296) (hx : IsRoot q 2 x) : x % 4294967296 = k := by
  obtain ⟨r, _, h1, h2⟩ := roots2 i hi
  have e1 : primes.getD i 0 = q := by rw [List.getD_eq_getElem?_getD, hq]; rfl
  have e2 : beginH.list.getD i 0 = k := by rw [List.getD_eq_getElem?_getD, hk]; rfl
  rw [e1, e2] at h1 h2
  rw [root_one (by decide) hx ⟨h1, h2⟩]
  omega
end Go.Proofs.YtmmocnokgcgmnaaDoor
