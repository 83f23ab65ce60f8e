/-
  THE DOCUMENT's Same over items answers true of two lists that read alike, and only draws.
-/
import Derived.Test.YthdlcpnmldhllaaDoorSame
namespace Go.Proofs.YthdlcpnmldhllaaDoor
open Go.RowKit

end Go.Proofs.YthdlcpnmldhllaaDoor
