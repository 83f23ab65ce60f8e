/-
  DERIVED. GIVEN WITH THE SEED: THE CARDS: each row of YtmkbeccglphohaaDoorRows.lean that lists a variable, with what it lists TIED to the program's text (the seventh form; the later family's looks); each row that meets fmt, with fmt's text TOLD by the authors' own Lean function (tested against real Go, not proved from fmt's source: count such statements apart). THE CARD IS WHAT COUNTS. Prove the row's statement (the work); the ties are given (YtmkbeccglphohaaDoorTie.lean); close each card by the builder's one call (the guide's Derived/Test/ToyasCard.lean, 'card_holds'). Laid BY PROGRAM, IN A SANDBOX (cutbox-door.mjs). By AI agents, Wed Nov 11 2026. No macro, syntax, notation, axiom, sorry.
-/
import Derived.Test.YtmkbeccglphohaaDoorRows
import GoSem.ClaimSeven
namespace Go.Proofs.YtmkbeccglphohaaDoor
namespace Rows

/-- THE TIED CARD OF 'selvagelaw04.ShaBuilds'. -/
def shaBuildsCard : Claim7 := { stood := { row := shaBuildsRow, standIns := [], harness := (true, "159edafb546c066529c79a452a417d21e08730eebf3dc9dcf37b305cc6af196e"), looks := false }, kinds := [], alts := [], laidByText := true, laidKinds := [.data, .data], laidTests := true, laidLooks := .later }
def ShaBuildsCardSaid : Prop := Claim7.holds Tryd.pinned (.plain (OpenSpec.ofChange shaBuildsSpec)) shaBuildsCard

/-- THE SECOND FORM's CARD OF 'selvagelaw04.ShaBuilds'. -/
def shaBuildsUptoCard : Claim7 := { stood := { row := shaBuildsUptoRow, standIns := [], harness := (true, "159edafb546c066529c79a452a417d21e08730eebf3dc9dcf37b305cc6af196e"), looks := false }, kinds := [], alts := [], laidByText := true, laidKinds := [.data, .data], laidTests := true, laidLooks := .later }
def ShaBuildsUptoCardSaid : Prop := Claim7.holds Tryd.pinned (.plain (OpenSpec.upto shaBuildsSpec)) shaBuildsUptoCard
end Rows
end Go.Proofs.YtmkbeccglphohaaDoor
