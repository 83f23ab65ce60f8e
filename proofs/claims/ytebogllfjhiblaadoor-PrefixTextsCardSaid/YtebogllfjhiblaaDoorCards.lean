/-
  DERIVED. GIVEN WITH THE SEED: THE CARDS: each row of YtebogllfjhiblaaDoorRows.lean that lists a variable, with what it lists TIED to the program's text (the seventh form; the later family's looks); each row that meets fmt, with fmt's text TOLD by the authors' own Lean function (tested against real Go, not proved from fmt's source: count such statements apart). THE CARD IS WHAT COUNTS. Prove the row's statement (the work); the ties are given (YtebogllfjhiblaaDoorTie.lean); close each card by the builder's one call (the guide's Derived/Test/ToyasCard.lean, 'card_holds'). Laid BY PROGRAM, IN A SANDBOX (cutbox-door.mjs). By AI agents, Wed Nov 11 2026. No macro, syntax, notation, axiom, sorry.
-/
import Derived.Test.YtebogllfjhiblaaDoorRows
import GoSem.ClaimSeven
namespace Go.Proofs.YtebogllfjhiblaaDoor
namespace Rows

/-- THE TIED CARD OF 'selvagelaw06.PrefixTexts'. -/
def prefixTextsCard : Claim7 := { stood := { row := prefixTextsRow, standIns := [], harness := (true, "bca50fdc14de44873c2f34ebeaa6fd7656bd0804738ca5ce0a8a9ae1d1808f14"), looks := true }, kinds := [], alts := [], laidByText := true, laidKinds := [.data, .data, .data, .sentinel, .sentinel], laidTests := true, laidLooks := .later }
def PrefixTextsCardSaid : Prop := Claim7.holds Tryd.pinned (.plain (OpenSpec.ofChange prefixTextsSpec)) prefixTextsCard

/-- THE TIED CARD OF 'selvagelaw06.PrefixHolds'. -/
def prefixHoldsCard : Claim7 := { stood := { row := prefixHoldsRow, standIns := [], harness := (true, "bca50fdc14de44873c2f34ebeaa6fd7656bd0804738ca5ce0a8a9ae1d1808f14"), looks := true }, kinds := [], alts := [], laidByText := true, laidKinds := [.data, .data, .data], laidTests := true, laidLooks := .later }
def PrefixHoldsCardSaid : Prop := Claim7.holds Tryd.pinned (.plain (OpenSpec.ofChange prefixHoldsSpec)) prefixHoldsCard

/-- THE TIED CARD OF 'selvagelaw06.PrefixJoins'. -/
def prefixJoinsCard : Claim7 := { stood := { row := prefixJoinsRow, standIns := [], harness := (true, "bca50fdc14de44873c2f34ebeaa6fd7656bd0804738ca5ce0a8a9ae1d1808f14"), looks := true }, kinds := [], alts := [], laidByText := true, laidKinds := [.data, .data, .data], laidTests := true, laidLooks := .later }
def PrefixJoinsCardSaid : Prop := Claim7.holds Tryd.pinned (.plain (OpenSpec.ofChange prefixJoinsSpec)) prefixJoinsCard

/-- THE TIED CARD OF 'selvagelaw06.PrefixBack'. -/
def prefixBackCard : Claim7 := { stood := { row := prefixBackRow, standIns := [], harness := (true, "bca50fdc14de44873c2f34ebeaa6fd7656bd0804738ca5ce0a8a9ae1d1808f14"), looks := true }, kinds := [], alts := [], laidByText := true, laidKinds := [.data, .data, .data, .sentinel, .sentinel], laidTests := true, laidLooks := .later }
def PrefixBackCardSaid : Prop := Claim7.holds Tryd.pinned (.plain (OpenSpec.ofChange prefixBackSpec)) prefixBackCard

/-- THE TIED CARD OF 'selvagelaw06.PrefixApart'. -/
def prefixApartCard : Claim7 := { stood := { row := prefixApartRow, standIns := [], harness := (true, "bca50fdc14de44873c2f34ebeaa6fd7656bd0804738ca5ce0a8a9ae1d1808f14"), looks := true }, kinds := [], alts := [], laidByText := true, laidKinds := [.data, .data, .data], laidTests := true, laidLooks := .later }
def PrefixApartCardSaid : Prop := Claim7.holds Tryd.pinned (.plain (OpenSpec.ofChange prefixApartSpec)) prefixApartCard

/-- THE TIED CARD OF 'selvagelaw06.PrefixFewest'. -/
def prefixFewestCard : Claim7 := { stood := { row := prefixFewestRow, standIns := [], harness := (true, "bca50fdc14de44873c2f34ebeaa6fd7656bd0804738ca5ce0a8a9ae1d1808f14"), looks := true }, kinds := [], alts := [], laidByText := true, laidKinds := [.data, .data, .data], laidTests := true, laidLooks := .later }
def PrefixFewestCardSaid : Prop := Claim7.holds Tryd.pinned (.plain (OpenSpec.ofChange prefixFewestSpec)) prefixFewestCard

/-- THE TIED CARD OF 'selvagelaw06.PrefixCuts'. -/
def prefixCutsCard : Claim7 := { stood := { row := prefixCutsRow, standIns := [], harness := (true, "bca50fdc14de44873c2f34ebeaa6fd7656bd0804738ca5ce0a8a9ae1d1808f14"), looks := true }, kinds := [], alts := [], laidByText := true, laidKinds := [.data, .data, .data], laidTests := true, laidLooks := .later }
def PrefixCutsCardSaid : Prop := Claim7.holds Tryd.pinned (.plain (OpenSpec.ofChange prefixCutsSpec)) prefixCutsCard

/-- THE TIED CARD OF 'selvagelaw06.PrefixOrder'. -/
def prefixOrderCard : Claim7 := { stood := { row := prefixOrderRow, standIns := [], harness := (true, "bca50fdc14de44873c2f34ebeaa6fd7656bd0804738ca5ce0a8a9ae1d1808f14"), looks := true }, kinds := [], alts := [], laidByText := true, laidKinds := [.data, .data, .data], laidTests := true, laidLooks := .later }
def PrefixOrderCardSaid : Prop := Claim7.holds Tryd.pinned (.plain (OpenSpec.ofChange prefixOrderSpec)) prefixOrderCard

/-- THE SECOND FORM's CARD OF 'selvagelaw06.PrefixTexts'. -/
def prefixTextsUptoCard : Claim7 := { stood := { row := prefixTextsUptoRow, standIns := [], harness := (true, "bca50fdc14de44873c2f34ebeaa6fd7656bd0804738ca5ce0a8a9ae1d1808f14"), looks := true }, kinds := [], alts := [], laidByText := true, laidKinds := [.data, .data, .data, .sentinel, .sentinel], laidTests := true, laidLooks := .later }
def PrefixTextsUptoCardSaid : Prop := Claim7.holds Tryd.pinned (.plain (OpenSpec.upto prefixTextsSpec)) prefixTextsUptoCard

/-- THE SECOND FORM's CARD OF 'selvagelaw06.PrefixHolds'. -/
def prefixHoldsUptoCard : Claim7 := { stood := { row := prefixHoldsUptoRow, standIns := [], harness := (true, "bca50fdc14de44873c2f34ebeaa6fd7656bd0804738ca5ce0a8a9ae1d1808f14"), looks := true }, kinds := [], alts := [], laidByText := true, laidKinds := [.data, .data, .data], laidTests := true, laidLooks := .later }
def PrefixHoldsUptoCardSaid : Prop := Claim7.holds Tryd.pinned (.plain (OpenSpec.upto prefixHoldsSpec)) prefixHoldsUptoCard

/-- THE SECOND FORM's CARD OF 'selvagelaw06.PrefixJoins'. -/
def prefixJoinsUptoCard : Claim7 := { stood := { row := prefixJoinsUptoRow, standIns := [], harness := (true, "bca50fdc14de44873c2f34ebeaa6fd7656bd0804738ca5ce0a8a9ae1d1808f14"), looks := true }, kinds := [], alts := [], laidByText := true, laidKinds := [.data, .data, .data], laidTests := true, laidLooks := .later }
def PrefixJoinsUptoCardSaid : Prop := Claim7.holds Tryd.pinned (.plain (OpenSpec.upto prefixJoinsSpec)) prefixJoinsUptoCard

/-- THE SECOND FORM's CARD OF 'selvagelaw06.PrefixBack'. -/
def prefixBackUptoCard : Claim7 := { stood := { row := prefixBackUptoRow, standIns := [], harness := (true, "bca50fdc14de44873c2f34ebeaa6fd7656bd0804738ca5ce0a8a9ae1d1808f14"), looks := true }, kinds := [], alts := [], laidByText := true, laidKinds := [.data, .data, .data, .sentinel, .sentinel], laidTests := true, laidLooks := .later }
def PrefixBackUptoCardSaid : Prop := Claim7.holds Tryd.pinned (.plain (OpenSpec.upto prefixBackSpec)) prefixBackUptoCard

/-- THE SECOND FORM's CARD OF 'selvagelaw06.PrefixApart'. -/
def prefixApartUptoCard : Claim7 := { stood := { row := prefixApartUptoRow, standIns := [], harness := (true, "bca50fdc14de44873c2f34ebeaa6fd7656bd0804738ca5ce0a8a9ae1d1808f14"), looks := true }, kinds := [], alts := [], laidByText := true, laidKinds := [.data, .data, .data], laidTests := true, laidLooks := .later }
def PrefixApartUptoCardSaid : Prop := Claim7.holds Tryd.pinned (.plain (OpenSpec.upto prefixApartSpec)) prefixApartUptoCard

/-- THE SECOND FORM's CARD OF 'selvagelaw06.PrefixFewest'. -/
def prefixFewestUptoCard : Claim7 := { stood := { row := prefixFewestUptoRow, standIns := [], harness := (true, "bca50fdc14de44873c2f34ebeaa6fd7656bd0804738ca5ce0a8a9ae1d1808f14"), looks := true }, kinds := [], alts := [], laidByText := true, laidKinds := [.data, .data, .data], laidTests := true, laidLooks := .later }
def PrefixFewestUptoCardSaid : Prop := Claim7.holds Tryd.pinned (.plain (OpenSpec.upto prefixFewestSpec)) prefixFewestUptoCard

/-- THE SECOND FORM's CARD OF 'selvagelaw06.PrefixCuts'. -/
def prefixCutsUptoCard : Claim7 := { stood := { row := prefixCutsUptoRow, standIns := [], harness := (true, "bca50fdc14de44873c2f34ebeaa6fd7656bd0804738ca5ce0a8a9ae1d1808f14"), looks := true }, kinds := [], alts := [], laidByText := true, laidKinds := [.data, .data, .data], laidTests := true, laidLooks := .later }
def PrefixCutsUptoCardSaid : Prop := Claim7.holds Tryd.pinned (.plain (OpenSpec.upto prefixCutsSpec)) prefixCutsUptoCard

/-- THE SECOND FORM's CARD OF 'selvagelaw06.PrefixOrder'. -/
def prefixOrderUptoCard : Claim7 := { stood := { row := prefixOrderUptoRow, standIns := [], harness := (true, "bca50fdc14de44873c2f34ebeaa6fd7656bd0804738ca5ce0a8a9ae1d1808f14"), looks := true }, kinds := [], alts := [], laidByText := true, laidKinds := [.data, .data, .data], laidTests := true, laidLooks := .later }
def PrefixOrderUptoCardSaid : Prop := Claim7.holds Tryd.pinned (.plain (OpenSpec.upto prefixOrderSpec)) prefixOrderUptoCard
end Rows
end Go.Proofs.YtebogllfjhiblaaDoor
