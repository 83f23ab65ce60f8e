/-
  THE DOCUMENT s Same over items answers true of two lists that read alike.
-/
import Derived.Test.YthdlcpnmldhllaaDoorRight
import Derived.Deep.QuietTactic
import Derived.BigQuiet
import Derived.WalkSmall
namespace Go.Proofs.YthdlcpnmldhllaaDoor
open Go.RowKit

theorem conv_rdN {n₀ : Nat} {W : World} {a : Option Addr} {zs : List Int} (h : Rd .u8 n₀ W a zs) (cap : Nat) : ∀ n, (convert 35 9 (.slice a zs.length cap)).run Tryd.prog (W.drewN n) = .ok (.string (strOfNums zs)) (W.drewN n) := fun n =>
  conv_rd (h.below (below_drewN (Below.refl _ W) n)) cap

end Go.Proofs.YthdlcpnmldhllaaDoor
