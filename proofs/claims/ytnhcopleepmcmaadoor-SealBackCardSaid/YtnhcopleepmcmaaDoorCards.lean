/-
  DERIVED. GIVEN WITH THE SEED: THE CARDS: each row of YtnhcopleepmcmaaDoorRows.lean that lists a variable, with what it lists TIED to the program's text (the seventh form; the later family's looks); each row that meets fmt, with fmt's text TOLD by the authors' own Lean function (tested against real Go, not proved from fmt's source: count such statements apart). THE CARD IS WHAT COUNTS. Prove the row's statement (the work); the ties are given (YtnhcopleepmcmaaDoorTie.lean); close each card by the builder's one call (the guide's Derived/Test/ToyasCard.lean, 'card_holds'). Laid BY PROGRAM, IN A SANDBOX (cutbox-door.mjs). By AI agents, Wed Nov 11 2026. No macro, syntax, notation, axiom, sorry.
-/
import Derived.Test.YtnhcopleepmcmaaDoorRows
import GoSem.ClaimSeven
namespace Go.Proofs.YtnhcopleepmcmaaDoor
namespace Rows

/-- THE TIED CARD OF 'selvagelaw04.ShaMacs'. -/
def shaMacsCard : Claim7 := { stood := { row := shaMacsRow, standIns := [], harness := (true, "ced49e6d5a35d33d7870b325850d951f0a79c209fd397e3b52cd3266ba9d0452"), looks := false }, kinds := [], alts := [], laidByText := true, laidKinds := [.data, .data], laidTests := true, laidLooks := .later }
def ShaMacsCardSaid : Prop := Claim7.holds Tryd.pinned (.plain (OpenSpec.ofChange shaMacsSpec)) shaMacsCard

/-- THE TIED CARD OF 'selvagelaw04.ShaBuilds'. -/
def shaBuildsCard : Claim7 := { stood := { row := shaBuildsRow, standIns := [], harness := (true, "ced49e6d5a35d33d7870b325850d951f0a79c209fd397e3b52cd3266ba9d0452"), looks := false }, kinds := [], alts := [], laidByText := true, laidKinds := [.data, .data], laidTests := true, laidLooks := .later }
def ShaBuildsCardSaid : Prop := Claim7.holds Tryd.pinned (.plain (OpenSpec.ofChange shaBuildsSpec)) shaBuildsCard

/-- THE TIED CARD OF 'selvagelaw04.ShaKnown'. -/
def shaKnownCard : Claim7 := { stood := { row := shaKnownRow, standIns := [], harness := (true, "ced49e6d5a35d33d7870b325850d951f0a79c209fd397e3b52cd3266ba9d0452"), looks := false }, kinds := [], alts := [], laidByText := true, laidKinds := [.data, .data], laidTests := true, laidLooks := .later }
def ShaKnownCardSaid : Prop := Claim7.holds Tryd.pinned (.plain (OpenSpec.ofChange shaKnownSpec)) shaKnownCard

/-- THE TIED CARD OF 'selvagelaw05.SealWraps'. -/
def sealWrapsCard : Claim7 := { stood := { row := sealWrapsRow, standIns := [], harness := (true, "ced49e6d5a35d33d7870b325850d951f0a79c209fd397e3b52cd3266ba9d0452"), looks := false }, kinds := [], alts := [], laidByText := true, laidKinds := [.data, .data], laidTests := true, laidLooks := .later }
def SealWrapsCardSaid : Prop := Claim7.holds Tryd.pinned (.plain (OpenSpec.ofChange sealWrapsSpec)) sealWrapsCard

/-- THE TIED CARD OF 'selvagelaw05.SealOpens'. -/
def sealOpensCard : Claim7 := { stood := { row := sealOpensRow, standIns := [], harness := (true, "ced49e6d5a35d33d7870b325850d951f0a79c209fd397e3b52cd3266ba9d0452"), looks := false }, kinds := [], alts := [], laidByText := true, laidKinds := [.data, .data], laidTests := true, laidLooks := .later }
def SealOpensCardSaid : Prop := Claim7.holds Tryd.pinned (.plain (OpenSpec.ofChange sealOpensSpec)) sealOpensCard

/-- THE TIED CARD OF 'selvagelaw05.SealNonces'. -/
def sealNoncesCard : Claim7 := { stood := { row := sealNoncesRow, standIns := [], harness := (true, "ced49e6d5a35d33d7870b325850d951f0a79c209fd397e3b52cd3266ba9d0452"), looks := false }, kinds := [], alts := [], laidByText := true, laidKinds := [.data, .data], laidTests := true, laidLooks := .later }
def SealNoncesCardSaid : Prop := Claim7.holds Tryd.pinned (.plain (OpenSpec.ofChange sealNoncesSpec)) sealNoncesCard

/-- THE TIED CARD OF 'selvagelaw05.SealBack'. -/
def sealBackCard : Claim7 := { stood := { row := sealBackRow, standIns := [], harness := (true, "ced49e6d5a35d33d7870b325850d951f0a79c209fd397e3b52cd3266ba9d0452"), looks := false }, kinds := [], alts := [], laidByText := true, laidKinds := [.data, .data], laidTests := true, laidLooks := .later }
def SealBackCardSaid : Prop := Claim7.holds Tryd.pinned (.plain (OpenSpec.ofChange sealBackSpec)) sealBackCard

/-- THE TIED CARD OF 'selvagelaw05.SealTurns'. -/
def sealTurnsCard : Claim7 := { stood := { row := sealTurnsRow, standIns := [], harness := (true, "ced49e6d5a35d33d7870b325850d951f0a79c209fd397e3b52cd3266ba9d0452"), looks := false }, kinds := [], alts := [], laidByText := true, laidKinds := [.data, .data], laidTests := true, laidLooks := .later }
def SealTurnsCardSaid : Prop := Claim7.holds Tryd.pinned (.plain (OpenSpec.ofChange sealTurnsSpec)) sealTurnsCard

/-- THE TIED CARD OF 'selvagelaw05.SealHead'. -/
def sealHeadCard : Claim7 := { stood := { row := sealHeadRow, standIns := [], harness := (true, "ced49e6d5a35d33d7870b325850d951f0a79c209fd397e3b52cd3266ba9d0452"), looks := false }, kinds := [], alts := [], laidByText := true, laidKinds := [.data, .data], laidTests := true, laidLooks := .later }
def SealHeadCardSaid : Prop := Claim7.holds Tryd.pinned (.plain (OpenSpec.ofChange sealHeadSpec)) sealHeadCard

/-- THE TIED CARD OF 'selvagelaw05.SealPlain'. -/
def sealPlainCard : Claim7 := { stood := { row := sealPlainRow, standIns := [], harness := (true, "ced49e6d5a35d33d7870b325850d951f0a79c209fd397e3b52cd3266ba9d0452"), looks := false }, kinds := [], alts := [], laidByText := true, laidKinds := [.data, .data], laidTests := true, laidLooks := .later }
def SealPlainCardSaid : Prop := Claim7.holds Tryd.pinned (.plain (OpenSpec.ofChange sealPlainSpec)) sealPlainCard

/-- THE TIED CARD OF 'selvagetop.TopSealed'. -/
def topSealedCard : Claim7 := { stood := { row := topSealedRow, standIns := [], harness := (true, "ced49e6d5a35d33d7870b325850d951f0a79c209fd397e3b52cd3266ba9d0452"), looks := false }, kinds := [], alts := [], laidByText := true, laidKinds := [.data, .data, .data], laidTests := true, laidLooks := .later }
def TopSealedCardSaid : Prop := Claim7.holds Tryd.pinned (.plain (OpenSpec.ofChange topSealedSpec)) topSealedCard

/-- THE SECOND FORM's CARD OF 'selvagelaw04.ShaMacs'. -/
def shaMacsUptoCard : Claim7 := { stood := { row := shaMacsUptoRow, standIns := [], harness := (true, "ced49e6d5a35d33d7870b325850d951f0a79c209fd397e3b52cd3266ba9d0452"), looks := false }, kinds := [], alts := [], laidByText := true, laidKinds := [.data, .data], laidTests := true, laidLooks := .later }
def ShaMacsUptoCardSaid : Prop := Claim7.holds Tryd.pinned (.plain (OpenSpec.upto shaMacsSpec)) shaMacsUptoCard

/-- THE SECOND FORM's CARD OF 'selvagelaw04.ShaBuilds'. -/
def shaBuildsUptoCard : Claim7 := { stood := { row := shaBuildsUptoRow, standIns := [], harness := (true, "ced49e6d5a35d33d7870b325850d951f0a79c209fd397e3b52cd3266ba9d0452"), looks := false }, kinds := [], alts := [], laidByText := true, laidKinds := [.data, .data], laidTests := true, laidLooks := .later }
def ShaBuildsUptoCardSaid : Prop := Claim7.holds Tryd.pinned (.plain (OpenSpec.upto shaBuildsSpec)) shaBuildsUptoCard

/-- THE SECOND FORM's CARD OF 'selvagelaw04.ShaKnown'. -/
def shaKnownUptoCard : Claim7 := { stood := { row := shaKnownUptoRow, standIns := [], harness := (true, "ced49e6d5a35d33d7870b325850d951f0a79c209fd397e3b52cd3266ba9d0452"), looks := false }, kinds := [], alts := [], laidByText := true, laidKinds := [.data, .data], laidTests := true, laidLooks := .later }
def ShaKnownUptoCardSaid : Prop := Claim7.holds Tryd.pinned (.plain (OpenSpec.upto shaKnownSpec)) shaKnownUptoCard

/-- THE SECOND FORM's CARD OF 'selvagelaw05.SealWraps'. -/
def sealWrapsUptoCard : Claim7 := { stood := { row := sealWrapsUptoRow, standIns := [], harness := (true, "ced49e6d5a35d33d7870b325850d951f0a79c209fd397e3b52cd3266ba9d0452"), looks := false }, kinds := [], alts := [], laidByText := true, laidKinds := [.data, .data], laidTests := true, laidLooks := .later }
def SealWrapsUptoCardSaid : Prop := Claim7.holds Tryd.pinned (.plain (OpenSpec.upto sealWrapsSpec)) sealWrapsUptoCard

/-- THE SECOND FORM's CARD OF 'selvagelaw05.SealOpens'. -/
def sealOpensUptoCard : Claim7 := { stood := { row := sealOpensUptoRow, standIns := [], harness := (true, "ced49e6d5a35d33d7870b325850d951f0a79c209fd397e3b52cd3266ba9d0452"), looks := false }, kinds := [], alts := [], laidByText := true, laidKinds := [.data, .data], laidTests := true, laidLooks := .later }
def SealOpensUptoCardSaid : Prop := Claim7.holds Tryd.pinned (.plain (OpenSpec.upto sealOpensSpec)) sealOpensUptoCard

/-- THE SECOND FORM's CARD OF 'selvagelaw05.SealNonces'. -/
def sealNoncesUptoCard : Claim7 := { stood := { row := sealNoncesUptoRow, standIns := [], harness := (true, "ced49e6d5a35d33d7870b325850d951f0a79c209fd397e3b52cd3266ba9d0452"), looks := false }, kinds := [], alts := [], laidByText := true, laidKinds := [.data, .data], laidTests := true, laidLooks := .later }
def SealNoncesUptoCardSaid : Prop := Claim7.holds Tryd.pinned (.plain (OpenSpec.upto sealNoncesSpec)) sealNoncesUptoCard

/-- THE SECOND FORM's CARD OF 'selvagelaw05.SealBack'. -/
def sealBackUptoCard : Claim7 := { stood := { row := sealBackUptoRow, standIns := [], harness := (true, "ced49e6d5a35d33d7870b325850d951f0a79c209fd397e3b52cd3266ba9d0452"), looks := false }, kinds := [], alts := [], laidByText := true, laidKinds := [.data, .data], laidTests := true, laidLooks := .later }
def SealBackUptoCardSaid : Prop := Claim7.holds Tryd.pinned (.plain (OpenSpec.upto sealBackSpec)) sealBackUptoCard

/-- THE SECOND FORM's CARD OF 'selvagelaw05.SealTurns'. -/
def sealTurnsUptoCard : Claim7 := { stood := { row := sealTurnsUptoRow, standIns := [], harness := (true, "ced49e6d5a35d33d7870b325850d951f0a79c209fd397e3b52cd3266ba9d0452"), looks := false }, kinds := [], alts := [], laidByText := true, laidKinds := [.data, .data], laidTests := true, laidLooks := .later }
def SealTurnsUptoCardSaid : Prop := Claim7.holds Tryd.pinned (.plain (OpenSpec.upto sealTurnsSpec)) sealTurnsUptoCard

/-- THE SECOND FORM's CARD OF 'selvagelaw05.SealHead'. -/
def sealHeadUptoCard : Claim7 := { stood := { row := sealHeadUptoRow, standIns := [], harness := (true, "ced49e6d5a35d33d7870b325850d951f0a79c209fd397e3b52cd3266ba9d0452"), looks := false }, kinds := [], alts := [], laidByText := true, laidKinds := [.data, .data], laidTests := true, laidLooks := .later }
def SealHeadUptoCardSaid : Prop := Claim7.holds Tryd.pinned (.plain (OpenSpec.upto sealHeadSpec)) sealHeadUptoCard

/-- THE SECOND FORM's CARD OF 'selvagelaw05.SealPlain'. -/
def sealPlainUptoCard : Claim7 := { stood := { row := sealPlainUptoRow, standIns := [], harness := (true, "ced49e6d5a35d33d7870b325850d951f0a79c209fd397e3b52cd3266ba9d0452"), looks := false }, kinds := [], alts := [], laidByText := true, laidKinds := [.data, .data], laidTests := true, laidLooks := .later }
def SealPlainUptoCardSaid : Prop := Claim7.holds Tryd.pinned (.plain (OpenSpec.upto sealPlainSpec)) sealPlainUptoCard

/-- THE SECOND FORM's CARD OF 'selvagetop.TopSealed'. -/
def topSealedUptoCard : Claim7 := { stood := { row := topSealedUptoRow, standIns := [], harness := (true, "ced49e6d5a35d33d7870b325850d951f0a79c209fd397e3b52cd3266ba9d0452"), looks := false }, kinds := [], alts := [], laidByText := true, laidKinds := [.data, .data, .data], laidTests := true, laidLooks := .later }
def TopSealedUptoCardSaid : Prop := Claim7.holds Tryd.pinned (.plain (OpenSpec.upto topSealedSpec)) topSealedUptoCard
end Rows
end Go.Proofs.YtnhcopleepmcmaaDoor
