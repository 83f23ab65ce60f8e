/-
  DERIVED. GIVEN WITH THE SEED: THE CARDS: each row of YtgngcpbkopjjlaaDoorRows.lean that lists a variable, with what it lists TIED to the program's text (the seventh form; the later family's looks); each row that meets fmt, with fmt's text TOLD by the authors' own Lean function (tested against real Go, not proved from fmt's source: count such statements apart). THE CARD IS WHAT COUNTS. Prove the row's statement (the work); the ties are given (YtgngcpbkopjjlaaDoorTie.lean); close each card by the builder's one call (the guide's Derived/Test/ToyasCard.lean, 'card_holds'). Laid BY PROGRAM, IN A SANDBOX (cutbox-door.mjs). By AI agents, Wed Nov 11 2026. No macro, syntax, notation, axiom, sorry.
-/
import Derived.Test.YtgngcpbkopjjlaaDoorRows
import GoSem.ClaimSeven
namespace Go.Proofs.YtgngcpbkopjjlaaDoor
namespace Rows

/-- THE TIED CARD OF 'selvagelaw03.WireDecodes'. -/
def wireDecodesCard : Claim7 := { stood := { row := wireDecodesRow, standIns := [], harness := (true, "35326d871be77cb5aff68b58915dd8f9a6068e34b82c6558d1078cc221dee6f6"), looks := false }, kinds := [], alts := [], laidByText := true, laidKinds := [.data], laidTests := true, laidLooks := .later }
def WireDecodesCardSaid : Prop := Claim7.holds Tryd.pinned (.plain (OpenSpec.ofChange wireDecodesSpec)) wireDecodesCard

/-- THE TIED CARD OF 'selvagelaw03.WireKnows'. -/
def wireKnowsCard : Claim7 := { stood := { row := wireKnowsRow, standIns := [], harness := (true, "35326d871be77cb5aff68b58915dd8f9a6068e34b82c6558d1078cc221dee6f6"), looks := false }, kinds := [], alts := [], laidByText := true, laidKinds := [.data], laidTests := true, laidLooks := .later }
def WireKnowsCardSaid : Prop := Claim7.holds Tryd.pinned (.plain (OpenSpec.ofChange wireKnowsSpec)) wireKnowsCard

/-- THE TIED CARD OF 'selvagelaw03.WireBack'. -/
def wireBackCard : Claim7 := { stood := { row := wireBackRow, standIns := [], harness := (true, "35326d871be77cb5aff68b58915dd8f9a6068e34b82c6558d1078cc221dee6f6"), looks := false }, kinds := [], alts := [], laidByText := true, laidKinds := [.data], laidTests := true, laidLooks := .later }
def WireBackCardSaid : Prop := Claim7.holds Tryd.pinned (.plain (OpenSpec.ofChange wireBackSpec)) wireBackCard

/-- THE TIED CARD OF 'selvagelaw03.WireRight'. -/
def wireRightCard : Claim7 := { stood := { row := wireRightRow, standIns := [], harness := (true, "35326d871be77cb5aff68b58915dd8f9a6068e34b82c6558d1078cc221dee6f6"), looks := false }, kinds := [], alts := [], laidByText := true, laidKinds := [.data], laidTests := true, laidLooks := .later }
def WireRightCardSaid : Prop := Claim7.holds Tryd.pinned (.plain (OpenSpec.ofChange wireRightSpec)) wireRightCard

/-- THE TIED CARD OF 'selvagelaw03.WireItems'. -/
def wireItemsCard : Claim7 := { stood := { row := wireItemsRow, standIns := [], harness := (true, "35326d871be77cb5aff68b58915dd8f9a6068e34b82c6558d1078cc221dee6f6"), looks := false }, kinds := [], alts := [], laidByText := true, laidKinds := [.data], laidTests := true, laidLooks := .later }
def WireItemsCardSaid : Prop := Claim7.holds Tryd.pinned (.plain (OpenSpec.ofChange wireItemsSpec)) wireItemsCard

/-- THE SECOND FORM's CARD OF 'selvagelaw03.WireDecodes'. -/
def wireDecodesUptoCard : Claim7 := { stood := { row := wireDecodesUptoRow, standIns := [], harness := (true, "35326d871be77cb5aff68b58915dd8f9a6068e34b82c6558d1078cc221dee6f6"), looks := false }, kinds := [], alts := [], laidByText := true, laidKinds := [.data], laidTests := true, laidLooks := .later }
def WireDecodesUptoCardSaid : Prop := Claim7.holds Tryd.pinned (.plain (OpenSpec.upto wireDecodesSpec)) wireDecodesUptoCard

/-- THE SECOND FORM's CARD OF 'selvagelaw03.WireKnows'. -/
def wireKnowsUptoCard : Claim7 := { stood := { row := wireKnowsUptoRow, standIns := [], harness := (true, "35326d871be77cb5aff68b58915dd8f9a6068e34b82c6558d1078cc221dee6f6"), looks := false }, kinds := [], alts := [], laidByText := true, laidKinds := [.data], laidTests := true, laidLooks := .later }
def WireKnowsUptoCardSaid : Prop := Claim7.holds Tryd.pinned (.plain (OpenSpec.upto wireKnowsSpec)) wireKnowsUptoCard

/-- THE SECOND FORM's CARD OF 'selvagelaw03.WireBack'. -/
def wireBackUptoCard : Claim7 := { stood := { row := wireBackUptoRow, standIns := [], harness := (true, "35326d871be77cb5aff68b58915dd8f9a6068e34b82c6558d1078cc221dee6f6"), looks := false }, kinds := [], alts := [], laidByText := true, laidKinds := [.data], laidTests := true, laidLooks := .later }
def WireBackUptoCardSaid : Prop := Claim7.holds Tryd.pinned (.plain (OpenSpec.upto wireBackSpec)) wireBackUptoCard

/-- THE SECOND FORM's CARD OF 'selvagelaw03.WireRight'. -/
def wireRightUptoCard : Claim7 := { stood := { row := wireRightUptoRow, standIns := [], harness := (true, "35326d871be77cb5aff68b58915dd8f9a6068e34b82c6558d1078cc221dee6f6"), looks := false }, kinds := [], alts := [], laidByText := true, laidKinds := [.data], laidTests := true, laidLooks := .later }
def WireRightUptoCardSaid : Prop := Claim7.holds Tryd.pinned (.plain (OpenSpec.upto wireRightSpec)) wireRightUptoCard

/-- THE SECOND FORM's CARD OF 'selvagelaw03.WireItems'. -/
def wireItemsUptoCard : Claim7 := { stood := { row := wireItemsUptoRow, standIns := [], harness := (true, "35326d871be77cb5aff68b58915dd8f9a6068e34b82c6558d1078cc221dee6f6"), looks := false }, kinds := [], alts := [], laidByText := true, laidKinds := [.data], laidTests := true, laidLooks := .later }
def WireItemsUptoCardSaid : Prop := Claim7.holds Tryd.pinned (.plain (OpenSpec.upto wireItemsSpec)) wireItemsUptoCard
end Rows
end Go.Proofs.YtgngcpbkopjjlaaDoor
