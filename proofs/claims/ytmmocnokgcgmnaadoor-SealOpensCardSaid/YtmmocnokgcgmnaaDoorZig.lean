/-
  THE NUMBERS WITH A SIGN: the program's Zig and Zag, and the document's, compute 'zigI' and 'zagI' at every number; these are inverse to one another.
-/
import Derived.Test.YtmmocnokgcgmnaaDoorPut
import Derived.Test.YtmmocnokgcgmnaaDoorScan
namespace Go.Proofs.YtmmocnokgcgmnaaDoor
open Go.RowKit

def zigI (n : Int) : Int := if 0 ≤ n then 2 * n else -2 * n - 1
def zagI (u : Int) : Int := if u % 2 = 0 then u / 2 else -(u / 2) - 1

theorem zag_zig (n : Int) : zagI (zigI n) = n := by
  unfold zigI zagI
  by_cases h : 0 ≤ n
  · rw [if_pos h, if_pos (by omega)]; omega
  · rw [if_neg h, if_neg (by omega)]; omega
theorem zig_zag {u : Int} (h : 0 ≤ u) : zigI (zagI u) = u := by
  unfold zigI zagI
  by_cases e : u % 2 = 0
  · rw [if_pos e, if_pos (by omega)]; omega
  · rw [if_neg e, if_neg (by omega)]; omega
theorem zig_range {n : Int} (h0 : -9223372036854775808 ≤ n) (h1 : n ≤ 9223372036854775807) : 0 ≤ zigI n ∧ zigI n < 18446744073709551616 := by
  unfold zigI
  split <;> omega
theorem zag_range {u : Int} (h0 : 0 ≤ u) (h1 : u < 18446744073709551616) : -9223372036854775808 ≤ zagI u ∧ zagI u ≤ 9223372036854775807 := by
  unfold zagI
  split <;> omega

theorem zig_wrap {n : Int} (h0 : -9223372036854775808 ≤ n) (hn : n < 0) :
    IntKind.u64.wrap (IntKind.u64.wrap (2 * IntKind.u64.wrap (wrap64 (-n))) - 1) = -2 * n - 1 := by
  simp only [IntKind.wrap_u64]
  unfold wrap64
  omega
theorem ret_int {k : IntKind} {a b : Int} (h : a = b) : Ending.returned (.int k a) = .returned (.int k b) := by rw [h]

end Go.Proofs.YtmmocnokgcgmnaaDoor
