/-
  THE DOCUMENT's Few and shape: how much a law asks at most, and whether an item may be by itself, as plain tests on data.
-/
import Derived.Test.YthdlcpnmldhllaaDoorItems
import Derived.Test.YthdlcpnmldhllaaDoorRefTake
namespace Go.Proofs.YthdlcpnmldhllaaDoor
open Go.RowKit

/-- How many bytes all items have. -/
def bulk (l : List It) : Nat := l.foldr (fun x s => x.bs.length + s) 0
def fewB (l : List It) : Bool := decide (l.length ≤ 200 ∧ bulk l ≤ 10000)
theorem bulk_take (l : List It) : ∀ k x, l[k]? = some x → bulk (l.take (k + 1)) = bulk (l.take k) + x.bs.length := by
  induction l with
  | nil => intro k x h; simp at h
  | cons y l ih =>
    intro k x h
    cases k with
    | zero => simp at h; subst h; simp [bulk]
    | succ k =>
      have := ih k x (by simpa using h)
      simp only [List.take_succ_cons]
      simp only [bulk, List.foldr_cons] at this ⊢
      omega
theorem bulk_le (l : List It) (k : Nat) : bulk (l.take k) ≤ bulk l := by
  induction l generalizing k with
  | nil => simp
  | cons y l ih =>
    cases k with
    | zero => simp [bulk]
    | succ k =>
      have := ih k
      simp only [List.take_succ_cons, bulk, List.foldr_cons] at this ⊢
      omega

/-- May an item be, by itself? -/
def shapeB (x : It) : Bool :=
  if x.kind = 1 then decide (1 ≤ x.id ∧ x.id ≤ 1000 ∧ x.bs.length = 0)
  else if x.kind = 2 then decide (1 ≤ x.id ∧ x.id ≤ 1000 ∧ x.n = 0)
  else if x.kind = 3 then decide (1 ≤ x.id ∧ x.id ≤ 1000 ∧ x.n = 0 ∧ x.bs.length = 0)
  else if x.kind = 4 then decide (x.id = 0 ∧ x.n = 0 ∧ x.bs.length = 0)
  else false

theorem ret_bool {a b : Bool} (h : a = b) : Ending.returned (.bool a) = .returned (.bool b) := by rw [h]

end Go.Proofs.YthdlcpnmldhllaaDoor
