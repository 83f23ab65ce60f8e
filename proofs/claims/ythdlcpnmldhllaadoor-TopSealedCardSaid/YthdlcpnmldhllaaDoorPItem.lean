/-
  THE PROGRAM's rightItem and deeper: may an item stand in a record by itself ("shapeB"), and by how much it turns the depth.
-/
import Derived.Test.YthdlcpnmldhllaaDoorRight
namespace Go.Proofs.YthdlcpnmldhllaaDoor
open Go.RowKit

set_option maxHeartbeats 4000000 in
theorem ritem_core (kd id n : Int) (len c : Nat) (A : Option Addr) (w : World) (r : Bool) (hlen : len ≤ 9223372036854775807)
    (hcase : (kd = 1 ∧ ((id < 1 ∧ r = false) ∨ (1000 < id ∧ r = false) ∨ ((1 ≤ id ∧ id ≤ 1000) ∧ 0 < len ∧ r = false) ∨ ((1 ≤ id ∧ id ≤ 1000) ∧ len = 0 ∧ r = true))) ∨
      (kd = 2 ∧ ((id < 1 ∧ r = false) ∨ (1000 < id ∧ r = false) ∨ ((1 ≤ id ∧ id ≤ 1000) ∧ (n < 0 ∨ 0 < n) ∧ r = false) ∨ ((1 ≤ id ∧ id ≤ 1000) ∧ n = 0 ∧ r = true))) ∨
      (kd = 3 ∧ ((id < 1 ∧ r = false) ∨ (1000 < id ∧ r = false) ∨ ((1 ≤ id ∧ id ≤ 1000) ∧ (n < 0 ∨ 0 < n) ∧ r = false) ∨ ((1 ≤ id ∧ id ≤ 1000) ∧ n = 0 ∧ 0 < len ∧ r = false) ∨ ((1 ≤ id ∧ id ≤ 1000) ∧ n = 0 ∧ len = 0 ∧ r = true))) ∨
      (kd = 4 ∧ ((id < 0 ∧ r = false) ∨ (1 ≤ id ∧ id ≤ 1000 ∧ r = false) ∨ (1000 < id ∧ r = false) ∨ (id = 0 ∧ (n < 0 ∨ 0 < n) ∧ r = false) ∨ (id = 0 ∧ n = 0 ∧ 0 < len ∧ r = false) ∨ (id = 0 ∧ n = 0 ∧ len = 0 ∧ r = true))) ∨
      ((kd < 1 ∨ 4 < kd) ∧ (id < 1 ∨ (1 ≤ id ∧ id ≤ 1000) ∨ 1000 < id) ∧ r = false)) :
    Calls Tryd.prog 59 #[.agg #[.int .i64 kd, .int .i64 id, .int .i64 n, .slice A len c]] w fun e w' => e = .returned (.bool r) ∧ Below w.heap.size w w' := by
  rcases hcase with ⟨rfl, h⟩ | ⟨rfl, h⟩ | ⟨rfl, h⟩ | ⟨rfl, h⟩ | ⟨hk, hi, rfl⟩
  · rcases h with ⟨h1, rfl⟩ | ⟨h1, rfl⟩ | ⟨⟨h0, h1⟩, h2, rfl⟩ | ⟨⟨h0, h1⟩, rfl, rfl⟩
    all_goals
      go_enter Tryd.func59, Tryd.ntmps59
      go_wp2
      go_ret
      exact ⟨ret_bool (by first | rfl | (simp; omega)), (Below.refl _ _).alloc (Nat.le_refl _) _⟩
  · rcases h with ⟨h1, rfl⟩ | ⟨h1, rfl⟩ | ⟨⟨h0, h1⟩, h2 | h2, rfl⟩ | ⟨⟨h0, h1⟩, rfl, rfl⟩
    all_goals
      go_enter Tryd.func59, Tryd.ntmps59
      go_wp2
      go_ret
      exact ⟨ret_bool (by first | rfl | (simp; omega)), (Below.refl _ _).alloc (Nat.le_refl _) _⟩
  · rcases h with ⟨h1, rfl⟩ | ⟨h1, rfl⟩ | ⟨⟨h0, h1⟩, h2 | h2, rfl⟩ | ⟨⟨h0, h1⟩, rfl, h2, rfl⟩ | ⟨⟨h0, h1⟩, rfl, rfl, rfl⟩
    all_goals
      go_enter Tryd.func59, Tryd.ntmps59
      go_wp2
      go_ret
      exact ⟨ret_bool (by first | rfl | (simp; omega)), (Below.refl _ _).alloc (Nat.le_refl _) _⟩
  · rcases h with ⟨h1, rfl⟩ | ⟨h1, h2, rfl⟩ | ⟨h1, rfl⟩ | ⟨rfl, h2 | h2, rfl⟩ | ⟨rfl, rfl, h2, rfl⟩ | ⟨rfl, rfl, rfl, rfl⟩
    all_goals
      go_enter Tryd.func59, Tryd.ntmps59
      go_wp2
      go_ret
      exact ⟨ret_bool (by first | rfl | (simp; omega)), (Below.refl _ _).alloc (Nat.le_refl _) _⟩
  · rcases hk with hk | hk <;> rcases hi with hi | ⟨hi, hj⟩ | hi
    all_goals
      go_enter Tryd.func59, Tryd.ntmps59
      go_wp2
      go_ret
      exact ⟨ret_bool (by first | rfl | (simp; omega)), (Below.refl _ _).alloc (Nat.le_refl _) _⟩

theorem ritem_any (x : It) (A : Option Addr) (c : Nat) (hlen : x.bs.length ≤ 9223372036854775807) (w : World) :
    Calls Tryd.prog 59 #[.agg #[.int .i64 x.kind, .int .i64 x.id, .int .i64 x.n, .slice A x.bs.length c]] w fun e w' => e = .returned (.bool (shapeB x)) ∧ Below w.heap.size w w' := by
  refine ritem_core x.kind x.id x.n x.bs.length c A w (shapeB x) hlen ?_
  unfold shapeB
  by_cases h1 : x.kind = 1
  · rw [if_pos h1]
    refine .inl ⟨h1, ?_⟩
    by_cases hc : 1 ≤ x.id ∧ x.id ≤ 1000 ∧ x.bs.length = 0
    · exact .inr (.inr (.inr ⟨⟨hc.1, hc.2.1⟩, hc.2.2, decide_eq_true hc⟩))
    · have hr := decide_eq_false hc
      have h : x.id < 1 ∨ 1000 < x.id ∨ ((1 ≤ x.id ∧ x.id ≤ 1000) ∧ 0 < x.bs.length) := by omega
      rcases h with h | h | ⟨h, h'⟩
      · exact .inl ⟨h, hr⟩
      · exact .inr (.inl ⟨h, hr⟩)
      · exact .inr (.inr (.inl ⟨h, h', hr⟩))
  by_cases h2 : x.kind = 2
  · rw [if_neg h1, if_pos h2]
    refine .inr (.inl ⟨h2, ?_⟩)
    by_cases hc : 1 ≤ x.id ∧ x.id ≤ 1000 ∧ x.n = 0
    · exact .inr (.inr (.inr ⟨⟨hc.1, hc.2.1⟩, hc.2.2, decide_eq_true hc⟩))
    · have hr := decide_eq_false hc
      have h : x.id < 1 ∨ 1000 < x.id ∨ ((1 ≤ x.id ∧ x.id ≤ 1000) ∧ (x.n < 0 ∨ 0 < x.n)) := by omega
      rcases h with h | h | ⟨h, h'⟩
      · exact .inl ⟨h, hr⟩
      · exact .inr (.inl ⟨h, hr⟩)
      · exact .inr (.inr (.inl ⟨h, h', hr⟩))
  by_cases h3 : x.kind = 3
  · rw [if_neg h1, if_neg h2, if_pos h3]
    refine .inr (.inr (.inl ⟨h3, ?_⟩))
    by_cases hc : 1 ≤ x.id ∧ x.id ≤ 1000 ∧ x.n = 0 ∧ x.bs.length = 0
    · exact .inr (.inr (.inr (.inr ⟨⟨hc.1, hc.2.1⟩, hc.2.2.1, hc.2.2.2, decide_eq_true hc⟩)))
    · have hr := decide_eq_false hc
      have h : x.id < 1 ∨ 1000 < x.id ∨ ((1 ≤ x.id ∧ x.id ≤ 1000) ∧ (x.n < 0 ∨ 0 < x.n)) ∨ ((1 ≤ x.id ∧ x.id ≤ 1000) ∧ x.n = 0 ∧ 0 < x.bs.length) := by omega
      rcases h with h | h | ⟨h, h'⟩ | ⟨h, h', h''⟩
      · exact .inl ⟨h, hr⟩
      · exact .inr (.inl ⟨h, hr⟩)
      · exact .inr (.inr (.inl ⟨h, h', hr⟩))
      · exact .inr (.inr (.inr (.inl ⟨h, h', h'', hr⟩)))
  by_cases h4 : x.kind = 4
  · rw [if_neg h1, if_neg h2, if_neg h3, if_pos h4]
    refine .inr (.inr (.inr (.inl ⟨h4, ?_⟩)))
    by_cases hc : x.id = 0 ∧ x.n = 0 ∧ x.bs.length = 0
    · exact .inr (.inr (.inr (.inr (.inr ⟨hc.1, hc.2.1, hc.2.2, decide_eq_true hc⟩))))
    · have hr := decide_eq_false hc
      have h : x.id < 0 ∨ (1 ≤ x.id ∧ x.id ≤ 1000) ∨ 1000 < x.id ∨ (x.id = 0 ∧ (x.n < 0 ∨ 0 < x.n)) ∨ (x.id = 0 ∧ x.n = 0 ∧ 0 < x.bs.length) := by omega
      rcases h with h | ⟨h, h'⟩ | h | ⟨h, h'⟩ | ⟨h, h', h''⟩
      · exact .inl ⟨h, hr⟩
      · exact .inr (.inl ⟨h, h', hr⟩)
      · exact .inr (.inr (.inl ⟨h, hr⟩))
      · exact .inr (.inr (.inr (.inl ⟨h, h', hr⟩)))
      · exact .inr (.inr (.inr (.inr (.inl ⟨h, h', h'', hr⟩))))
  · rw [if_neg h1, if_neg h2, if_neg h3, if_neg h4]
    exact .inr (.inr (.inr (.inr ⟨by omega, by omega, rfl⟩)))

/-- By how much an item turns the depth. -/
def turn (x : It) : Int := if x.kind = 3 then 1 else if x.kind = 4 then -1 else 0
theorem step_turn (x : It) (d : Int) : step x d = d + turn x := by
  unfold step turn
  by_cases h3 : x.kind = 3
  · rw [if_pos h3, if_pos h3]
  · rw [if_neg h3, if_neg h3]
    by_cases h4 : x.kind = 4
    · rw [if_pos h4, if_pos h4]; omega
    · rw [if_neg h4, if_neg h4]; omega

theorem deeper_core (kd id n : Int) (len c : Nat) (A : Option Addr) (w : World) (r : Int)
    (h : (kd = 3 ∧ r = 1) ∨ (kd = 4 ∧ r = -1) ∨ ((kd < 3 ∨ 4 < kd) ∧ r = 0)) :
    Calls Tryd.prog 58 #[.agg #[.int .i64 kd, .int .i64 id, .int .i64 n, .slice A len c]] w fun e w' => e = .returned (.int .i64 r) ∧ Below w.heap.size w w' := by
  rcases h with ⟨rfl, rfl⟩ | ⟨rfl, rfl⟩ | ⟨h | h, rfl⟩
  all_goals
    go_enter Tryd.func58, Tryd.ntmps58
    go_wp2
    go_ret
    exact ⟨ret_int (by first | rfl | (simp; omega)), (Below.refl _ _).alloc (Nat.le_refl _) _⟩
theorem deeper_any (x : It) (A : Option Addr) (c len : Nat) (w : World) :
    Calls Tryd.prog 58 #[.agg #[.int .i64 x.kind, .int .i64 x.id, .int .i64 x.n, .slice A len c]] w fun e w' => e = .returned (.int .i64 (turn x)) ∧ Below w.heap.size w w' := by
  refine deeper_core x.kind x.id x.n len c A w (turn x) ?_
  unfold turn
  by_cases h3 : x.kind = 3
  · rw [if_pos h3]; exact .inl ⟨h3, rfl⟩
  · rw [if_neg h3]
    by_cases h4 : x.kind = 4
    · rw [if_pos h4]; exact .inr (.inl ⟨h4, rfl⟩)
    · rw [if_neg h4]; exact .inr (.inr ⟨by omega, rfl⟩)
end Go.Proofs.YthdlcpnmldhllaaDoor
