/-
  THE DOCUMENT s Right: a list of items is a record just if "rightB" says so.
-/
import Derived.Test.YthdlcpnmldhllaaDoorShape
namespace Go.Proofs.YthdlcpnmldhllaaDoor
open Go.RowKit

/-- How an item turns the depth. -/
def step (x : It) (d : Int) : Int := if x.kind = 3 then d + 1 else if x.kind = 4 then d - 1 else d
def rightFrom : Int → List It → Bool
  | d, [] => d == 0
  | d, x :: l => shapeB x && decide (0 ≤ step x d ∧ step x d ≤ 8) && rightFrom (step x d) l
def rightB (l : List It) : Bool := rightFrom 0 l

end Go.Proofs.YthdlcpnmldhllaaDoor
