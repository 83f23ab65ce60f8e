/-
  THE DOCUMENT's Few and shape: how much a law asks at most, and whether an item may be by itself, as plain tests on data.
-/
import Derived.Test.YtjkibgnkkienbaaItems
import Derived.Test.YtjkibgnkkienbaaRefTake
namespace Go.Proofs.Ytjkibgnkkienbaa
open Go.RowKit

/-- How many bytes all items have. -/
def bulk (l : List It) : Nat := l.foldr (fun x s => x.bs.length + s) 0
def fewB (l : List It) : Bool := decide (l.length ≤ 200 ∧ bulk l ≤ 10000)
theorem bulk_take (l : List It) : ∀ k x, l[k]? = some x → bulk (l.take (k + 1)) = bulk (l.take k) + x.bs.length := by
  induction l with
  | nil => intro k x h; simp at h
  | cons y l ih =>
    intro k x h
    cases k with
    | zero => simp at h; subst h; simp [bulk]
    | succ k =>
      have := ih k x (by simpa using h)
      simp only [List.take_succ_cons]
      simp only [bulk, List.foldr_cons] at this ⊢
      omega
theorem bulk_le (l : List It) (k : Nat) : bulk (l.take k) ≤ bulk l := by
  induction l generalizing k with
  | nil => simp
  | cons y l ih =>
    cases k with
    | zero => simp [bulk]
    | succ k =>
      have := ih k
      simp only [List.take_succ_cons, bulk, List.foldr_cons] at this ⊢
      omega

/-- May an item be, by itself? -/
def shapeB (x : It) : Bool :=
  if x.kind = 1 then decide (1 ≤ x.id ∧ x.id ≤ 1000 ∧ x.bs.length = 0)
  else if x.kind = 2 then decide (1 ≤ x.id ∧ x.id ≤ 1000 ∧ x.n = 0)
  else if x.kind = 3 then decide (1 ≤ x.id ∧ x.id ≤ 1000 ∧ x.n = 0 ∧ x.bs.length = 0)
  else if x.kind = 4 then decide (x.id = 0 ∧ x.n = 0 ∧ x.bs.length = 0)
  else false

theorem ret_bool {a b : Bool} (h : a = b) : Ending.returned (.bool a) = .returned (.bool b) := by rw [h]

set_option maxHeartbeats 4000000 in
theorem shape_core (kd id n : Int) (len c : Nat) (A : Option Addr) (w : World) (r : Bool) (hlen : len ≤ 9223372036854775807)
    (hcase : (kd = 1 ∧ ((id < 1 ∧ r = false) ∨ (1000 < id ∧ r = false) ∨ ((1 ≤ id ∧ id ≤ 1000) ∧ 0 < len ∧ r = false) ∨ ((1 ≤ id ∧ id ≤ 1000) ∧ len = 0 ∧ r = true))) ∨
      (kd = 2 ∧ ((id < 1 ∧ r = false) ∨ (1000 < id ∧ r = false) ∨ ((1 ≤ id ∧ id ≤ 1000) ∧ (n < 0 ∨ 0 < n) ∧ r = false) ∨ ((1 ≤ id ∧ id ≤ 1000) ∧ n = 0 ∧ r = true))) ∨
      (kd = 3 ∧ ((id < 1 ∧ r = false) ∨ (1000 < id ∧ r = false) ∨ ((1 ≤ id ∧ id ≤ 1000) ∧ (n < 0 ∨ 0 < n) ∧ r = false) ∨ ((1 ≤ id ∧ id ≤ 1000) ∧ n = 0 ∧ 0 < len ∧ r = false) ∨ ((1 ≤ id ∧ id ≤ 1000) ∧ n = 0 ∧ len = 0 ∧ r = true))) ∨
      (kd = 4 ∧ ((id < 0 ∧ r = false) ∨ (1 ≤ id ∧ id ≤ 1000 ∧ r = false) ∨ (1000 < id ∧ r = false) ∨ (id = 0 ∧ (n < 0 ∨ 0 < n) ∧ r = false) ∨ (id = 0 ∧ n = 0 ∧ 0 < len ∧ r = false) ∨ (id = 0 ∧ n = 0 ∧ len = 0 ∧ r = true))) ∨
      ((kd < 1 ∨ 4 < kd) ∧ (id < 1 ∨ (1 ≤ id ∧ id ≤ 1000) ∨ 1000 < id) ∧ r = false)) :
    Calls Try.prog 58 #[.agg #[.int .i64 kd, .int .i64 id, .int .i64 n, .slice A len c]] w fun e w' => e = .returned (.bool r) ∧ Below w.heap.size w w' := by
  rcases hcase with ⟨rfl, h⟩ | ⟨rfl, h⟩ | ⟨rfl, h⟩ | ⟨rfl, h⟩ | ⟨hk, hi, rfl⟩
  · rcases h with ⟨h1, rfl⟩ | ⟨h1, rfl⟩ | ⟨⟨h0, h1⟩, h2, rfl⟩ | ⟨⟨h0, h1⟩, rfl, rfl⟩
    all_goals
      go_enter Try.func58, Try.ntmps58
      go_wp2
      go_ret
      exact ⟨ret_bool (by first | rfl | (simp; omega)), (Below.refl _ _).alloc (Nat.le_refl _) _⟩
  · rcases h with ⟨h1, rfl⟩ | ⟨h1, rfl⟩ | ⟨⟨h0, h1⟩, h2 | h2, rfl⟩ | ⟨⟨h0, h1⟩, rfl, rfl⟩
    all_goals
      go_enter Try.func58, Try.ntmps58
      go_wp2
      go_ret
      exact ⟨ret_bool (by first | rfl | (simp; omega)), (Below.refl _ _).alloc (Nat.le_refl _) _⟩
  · rcases h with ⟨h1, rfl⟩ | ⟨h1, rfl⟩ | ⟨⟨h0, h1⟩, h2 | h2, rfl⟩ | ⟨⟨h0, h1⟩, rfl, h2, rfl⟩ | ⟨⟨h0, h1⟩, rfl, rfl, rfl⟩
    all_goals
      go_enter Try.func58, Try.ntmps58
      go_wp2
      go_ret
      exact ⟨ret_bool (by first | rfl | (simp; omega)), (Below.refl _ _).alloc (Nat.le_refl _) _⟩
  · rcases h with ⟨h1, rfl⟩ | ⟨h1, h2, rfl⟩ | ⟨h1, rfl⟩ | ⟨rfl, h2 | h2, rfl⟩ | ⟨rfl, rfl, h2, rfl⟩ | ⟨rfl, rfl, rfl, rfl⟩
    all_goals
      go_enter Try.func58, Try.ntmps58
      go_wp2
      go_ret
      exact ⟨ret_bool (by first | rfl | (simp; omega)), (Below.refl _ _).alloc (Nat.le_refl _) _⟩
  · rcases hk with hk | hk <;> rcases hi with hi | ⟨hi, hj⟩ | hi
    all_goals
      go_enter Try.func58, Try.ntmps58
      go_wp2
      go_ret
      exact ⟨ret_bool (by first | rfl | (simp; omega)), (Below.refl _ _).alloc (Nat.le_refl _) _⟩

theorem shape_any (x : It) (A : Option Addr) (c : Nat) (hlen : x.bs.length ≤ 9223372036854775807) (w : World) :
    Calls Try.prog 58 #[.agg #[.int .i64 x.kind, .int .i64 x.id, .int .i64 x.n, .slice A x.bs.length c]] w fun e w' => e = .returned (.bool (shapeB x)) ∧ Below w.heap.size w w' := by
  refine shape_core x.kind x.id x.n x.bs.length c A w (shapeB x) hlen ?_
  unfold shapeB
  by_cases h1 : x.kind = 1
  · rw [if_pos h1]
    refine .inl ⟨h1, ?_⟩
    by_cases hc : 1 ≤ x.id ∧ x.id ≤ 1000 ∧ x.bs.length = 0
    · exact .inr (.inr (.inr ⟨⟨hc.1, hc.2.1⟩, hc.2.2, decide_eq_true hc⟩))
    · have hr := decide_eq_false hc
      have h : x.id < 1 ∨ 1000 < x.id ∨ ((1 ≤ x.id ∧ x.id ≤ 1000) ∧ 0 < x.bs.length) := by omega
      rcases h with h | h | ⟨h, h'⟩
      · exact .inl ⟨h, hr⟩
      · exact .inr (.inl ⟨h, hr⟩)
      · exact .inr (.inr (.inl ⟨h, h', hr⟩))
  by_cases h2 : x.kind = 2
  · rw [if_neg h1, if_pos h2]
    refine .inr (.inl ⟨h2, ?_⟩)
    by_cases hc : 1 ≤ x.id ∧ x.id ≤ 1000 ∧ x.n = 0
    · exact .inr (.inr (.inr ⟨⟨hc.1, hc.2.1⟩, hc.2.2, decide_eq_true hc⟩))
    · have hr := decide_eq_false hc
      have h : x.id < 1 ∨ 1000 < x.id ∨ ((1 ≤ x.id ∧ x.id ≤ 1000) ∧ (x.n < 0 ∨ 0 < x.n)) := by omega
      rcases h with h | h | ⟨h, h'⟩
      · exact .inl ⟨h, hr⟩
      · exact .inr (.inl ⟨h, hr⟩)
      · exact .inr (.inr (.inl ⟨h, h', hr⟩))
  by_cases h3 : x.kind = 3
  · rw [if_neg h1, if_neg h2, if_pos h3]
    refine .inr (.inr (.inl ⟨h3, ?_⟩))
    by_cases hc : 1 ≤ x.id ∧ x.id ≤ 1000 ∧ x.n = 0 ∧ x.bs.length = 0
    · exact .inr (.inr (.inr (.inr ⟨⟨hc.1, hc.2.1⟩, hc.2.2.1, hc.2.2.2, decide_eq_true hc⟩)))
    · have hr := decide_eq_false hc
      have h : x.id < 1 ∨ 1000 < x.id ∨ ((1 ≤ x.id ∧ x.id ≤ 1000) ∧ (x.n < 0 ∨ 0 < x.n)) ∨ ((1 ≤ x.id ∧ x.id ≤ 1000) ∧ x.n = 0 ∧ 0 < x.bs.length) := by omega
      rcases h with h | h | ⟨h, h'⟩ | ⟨h, h', h''⟩
      · exact .inl ⟨h, hr⟩
      · exact .inr (.inl ⟨h, hr⟩)
      · exact .inr (.inr (.inl ⟨h, h', hr⟩))
      · exact .inr (.inr (.inr (.inl ⟨h, h', h'', hr⟩)))
  by_cases h4 : x.kind = 4
  · rw [if_neg h1, if_neg h2, if_neg h3, if_pos h4]
    refine .inr (.inr (.inr (.inl ⟨h4, ?_⟩)))
    by_cases hc : x.id = 0 ∧ x.n = 0 ∧ x.bs.length = 0
    · exact .inr (.inr (.inr (.inr (.inr ⟨hc.1, hc.2.1, hc.2.2, decide_eq_true hc⟩))))
    · have hr := decide_eq_false hc
      have h : x.id < 0 ∨ (1 ≤ x.id ∧ x.id ≤ 1000) ∨ 1000 < x.id ∨ (x.id = 0 ∧ (x.n < 0 ∨ 0 < x.n)) ∨ (x.id = 0 ∧ x.n = 0 ∧ 0 < x.bs.length) := by omega
      rcases h with h | ⟨h, h'⟩ | h | ⟨h, h'⟩ | ⟨h, h', h''⟩
      · exact .inl ⟨h, hr⟩
      · exact .inr (.inl ⟨h, h', hr⟩)
      · exact .inr (.inr (.inl ⟨h, hr⟩))
      · exact .inr (.inr (.inr (.inl ⟨h, h', hr⟩)))
      · exact .inr (.inr (.inr (.inr (.inl ⟨h, h', h'', hr⟩))))
  · rw [if_neg h1, if_neg h2, if_neg h3, if_neg h4]
    exact .inr (.inr (.inr (.inr ⟨by omega, by omega, rfl⟩)))
end Go.Proofs.Ytjkibgnkkienbaa
