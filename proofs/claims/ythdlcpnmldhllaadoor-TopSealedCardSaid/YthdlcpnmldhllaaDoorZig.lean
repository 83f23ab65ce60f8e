/-
  THE NUMBERS WITH A SIGN: the program's Zig and Zag, and the document's, compute 'zigI' and 'zagI' at every number; these are inverse to one another.
-/
import Derived.Test.YthdlcpnmldhllaaDoorPut
import Derived.Test.YthdlcpnmldhllaaDoorScan
namespace Go.Proofs.YthdlcpnmldhllaaDoor
open Go.RowKit

def zigI (n : Int) : Int := if 0 ≤ n then 2 * n else -2 * n - 1
def zagI (u : Int) : Int := if u % 2 = 0 then u / 2 else -(u / 2) - 1

theorem zag_zig (n : Int) : zagI (zigI n) = n := by
  unfold zigI zagI
  by_cases h : 0 ≤ n
  · rw [if_pos h, if_pos (by omega)]; omega
  · rw [if_neg h, if_neg (by omega)]; omega
theorem zig_zag {u : Int} (h : 0 ≤ u) : zigI (zagI u) = u := by
  unfold zigI zagI
  by_cases e : u % 2 = 0
  · rw [if_pos e, if_pos (by omega)]; omega
  · rw [if_neg e, if_neg (by omega)]; omega
theorem zig_range {n : Int} (h0 : -9223372036854775808 ≤ n) (h1 : n ≤ 9223372036854775807) : 0 ≤ zigI n ∧ zigI n < 18446744073709551616 := by
  unfold zigI
  split <;> omega
theorem zag_range {u : Int} (h0 : 0 ≤ u) (h1 : u < 18446744073709551616) : -9223372036854775808 ≤ zagI u ∧ zagI u ≤ 9223372036854775807 := by
  unfold zagI
  split <;> omega

theorem zig_wrap {n : Int} (h0 : -9223372036854775808 ≤ n) (hn : n < 0) :
    IntKind.u64.wrap (IntKind.u64.wrap (2 * IntKind.u64.wrap (wrap64 (-n))) - 1) = -2 * n - 1 := by
  simp only [IntKind.wrap_u64]
  unfold wrap64
  omega
theorem ret_int {k : IntKind} {a b : Int} (h : a = b) : Ending.returned (.int k a) = .returned (.int k b) := by rw [h]

set_option maxHeartbeats 400000 in
theorem zig_any (n : Int) (h0 : -9223372036854775808 ≤ n) (h1 : n ≤ 9223372036854775807) (w : World) :
    Calls Tryd.prog 61 #[.int .i64 n] w fun e w' => e = .returned (.int .u64 (zigI n)) ∧ w = w' := by
  unfold zigI
  by_cases hn : 0 ≤ n
  · rw [if_pos hn]
    go_enter Tryd.func61, Tryd.ntmps61
    go_wp2
    go_ret
    exact ⟨rfl, rfl⟩
  · rw [if_neg hn]
    have hw := zig_wrap h0 (Int.not_le.1 hn)
    go_enter Tryd.func61, Tryd.ntmps61
    go_wp2
    go_ret
    exact ⟨rfl, rfl⟩
theorem zag_any (u : Nat) (h1 : u < 18446744073709551616) (w : World) :
    Calls Tryd.prog 65 #[.int .u64 u] w fun e w' => e = .returned (.int .i64 (zagI u)) ∧ w = w' := by
  unfold zagI
  by_cases hn : (u : Int) % 2 = 0
  · rw [if_pos hn]
    go_enter Tryd.func65, Tryd.ntmps65
    go_wp2
    go_ret
    exact ⟨rfl, rfl⟩
  · rw [if_neg hn]
    go_enter Tryd.func65, Tryd.ntmps65
    go_wp2
    go_ret
    exact ⟨rfl, rfl⟩
theorem may_any (x : Int) (p : Nat) (h0 : 0 ≤ x) (h1 : x ≤ 255) (w : World) :
    Calls Tryd.prog 88 #[.int .u8 x, .int .i64 p] w fun e w' => e = .returned (.bool (may x p)) ∧ w = w' := by
  unfold may
  by_cases hn : p = 9
  · rw [if_pos hn]
    go_enter Tryd.func88, Tryd.ntmps88
    go_wp2
    go_ret
    exact ⟨rfl, rfl⟩
  · rw [if_neg hn]
    have he : ((p : Int) == 0) = (p == 0) := by
      rw [Bool.eq_iff_iff]; simp
    by_cases h : x = 0
    all_goals
      go_enter Tryd.func88, Tryd.ntmps88
      go_wp2
    all_goals go_ret
    all_goals exact ⟨by simp [*]; try omega, rfl⟩
end Go.Proofs.YthdlcpnmldhllaaDoor
