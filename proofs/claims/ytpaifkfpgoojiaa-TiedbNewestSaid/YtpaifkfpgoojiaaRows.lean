/-
  No cell of these rows narrows 'for every input' (looked for: loops, veiled, ifaces, maps, wideKeys, modest, calm, conditions, laid).
  DERIVED. THE GIVEN ROWS OF THIS SEAT. 3 by the template 'for every input the law returns true; each argument reads behind the call as it read before'; 0 by the template 'total and deterministic' (their statements: YtpaifkfpgoojiaaTotals.lean).
  GIVEN WITH THE SEED: the statements are not yours to turn. If you find one false, say at which input.
  Laid BY PROGRAM, IN A SANDBOX (cutbox-rows.mjs): the forced cells as the released guide's own fill.sh prints them over the translation 1b07669e8218ce8f… (all of the seat's roots in one cut). By AI agents, Wed Nov 11 2026. No macro, syntax, notation, axiom, sorry.
-/
import Derived.Test.YtpaifkfpgoojiaaChecked
import GoSem.Claim
import GoSem.ClaimJoined
import GoSem.ClaimMapViews
import Derived.JoinedTies
import Derived.KernelRfl
namespace Go.Proofs.Ytpaifkfpgoojiaa
/- THE CELL 'sum', in the pinned program and in every row, IS THE sha256 OF THE DUMP (.gsa) THAT YtpaifkfpgoojiaaProg.lean LOADS. Nothing in Lean hashes anything: it is a label: what it is worth is what the hold of that sum in a sandbox is worth. -/
noncomputable def Try.pinned : Pinned := { name := "ytpaifkfpgoojiaa", sum := "1b07669e8218ce8fcdb3f522f7d224b5e18b17f3d3a190f4abb48c03d6cd4ab7", checked := Try.checked }
namespace Rows
def none {H : Type} : Left H := { results := [], args := [] }

/-- 'selvagelaw12.TiedbScripts': WHATEVER THE INPUT: true; the input reads as it did. -/
def tiedbScriptsSpec : ChangeSpec := { name := "tiedbScripts", fn := fun _ => fun
  | [d1, d2] => { results := [.lit (.bool true)], args := [d1, d2] }
  | _ => none }
def tiedbScriptsRow : OpenClaim := { program := "ytpaifkfpgoojiaa", sum := "1b07669e8218ce8fcdb3f522f7d224b5e18b17f3d3a190f4abb48c03d6cd4ab7", func := "selvage/selvagelaw12.TiedbScripts", spec := "tiedbScripts", unfollowed := true, recurses := true, plainKeys := false, apart := false }
def TiedbScriptsSaid : Prop := tiedbScriptsRow.holds Try.pinned (OpenSpec.ofChange tiedbScriptsSpec)

/-- ITS FALSE NEIGHBOUR: 'it returns false'. Refute it at one input. -/
def tiedbScriptsWrong : ChangeSpec := { name := "tiedbScripts", fn := fun _ => fun
  | [d1, d2] => { results := [.lit (.bool false)], args := [d1, d2] }
  | _ => none }
def TiedbScriptsWrongFalsely : Prop := tiedbScriptsRow.holds Try.pinned (OpenSpec.ofChange tiedbScriptsWrong)

/-- 'selvagelaw12.TiedbNewest': WHATEVER THE INPUT: true; the input reads as it did. -/
def tiedbNewestSpec : ChangeSpec := { name := "tiedbNewest", fn := fun _ => fun
  | [d1, d2] => { results := [.lit (.bool true)], args := [d1, d2] }
  | _ => none }
def tiedbNewestRow : OpenClaim := { program := "ytpaifkfpgoojiaa", sum := "1b07669e8218ce8fcdb3f522f7d224b5e18b17f3d3a190f4abb48c03d6cd4ab7", func := "selvage/selvagelaw12.TiedbNewest", spec := "tiedbNewest", unfollowed := true, recurses := true, plainKeys := false, apart := false }
def TiedbNewestSaid : Prop := tiedbNewestRow.holds Try.pinned (OpenSpec.ofChange tiedbNewestSpec)

/-- ITS FALSE NEIGHBOUR: 'it returns false'. Refute it at one input. -/
def tiedbNewestWrong : ChangeSpec := { name := "tiedbNewest", fn := fun _ => fun
  | [d1, d2] => { results := [.lit (.bool false)], args := [d1, d2] }
  | _ => none }
def TiedbNewestWrongFalsely : Prop := tiedbNewestRow.holds Try.pinned (OpenSpec.ofChange tiedbNewestWrong)

/-- 'selvagelaw12.TiedbAges': WHATEVER THE INPUT: true; the input reads as it did. -/
def tiedbAgesSpec : ChangeSpec := { name := "tiedbAges", fn := fun _ => fun
  | [d1, d2, d3] => { results := [.lit (.bool true)], args := [d1, d2, d3] }
  | _ => none }
def tiedbAgesRow : OpenClaim := { program := "ytpaifkfpgoojiaa", sum := "1b07669e8218ce8fcdb3f522f7d224b5e18b17f3d3a190f4abb48c03d6cd4ab7", func := "selvage/selvagelaw12.TiedbAges", spec := "tiedbAges", unfollowed := true, recurses := true, plainKeys := false, apart := false }
def TiedbAgesSaid : Prop := tiedbAgesRow.holds Try.pinned (OpenSpec.ofChange tiedbAgesSpec)

/-- ITS FALSE NEIGHBOUR: 'it returns false'. Refute it at one input. -/
def tiedbAgesWrong : ChangeSpec := { name := "tiedbAges", fn := fun _ => fun
  | [d1, d2, d3] => { results := [.lit (.bool false)], args := [d1, d2, d3] }
  | _ => none }
def TiedbAgesWrongFalsely : Prop := tiedbAgesRow.holds Try.pinned (OpenSpec.ofChange tiedbAgesWrong)

/- THE SECOND FORM. 'bulk': how many values and letters a reading holds, each counted each time it is reached (what is shared counts as often as it is met; a slice's spare places count too). A statement '..UptoSaid' is the law's where the arguments, and the package variables that the reading takes, are together of bulk at most 1048576: NARROWER than '..Said'. Prove '..Said' where nothing that the law and all that it calls make is longer than what came in: it says more and counts as full. Else prove '..UptoSaid'. A law counts once. -/
mutual
def uptoBulk {H : Type} : DataW H → Nat
  | .lit (.string bytes) => bytes.length + 1
  | .lit _ => 1
  | .nil => 1
  | .ptr d => uptoBulk d + 1
  | .slice elems spare => uptoBulkAll elems + uptoBulkAll spare + 1
  | .agg parts => uptoBulkAll parts + 1
  | .iface _ d => uptoBulk d + 1
  | .map entries => uptoBulkEntries entries + 1
  | .held _ => 1
def uptoBulkAll {H : Type} : List (DataW H) → Nat
  | [] => 0
  | d :: r => uptoBulk d + uptoBulkAll r
def uptoBulkEntries {H : Type} : List (Lit × DataW H) → Nat
  | [] => 0
  | x :: r => uptoBulkEntry x + uptoBulkEntries r
def uptoBulkEntry {H : Type} : Lit × DataW H → Nat
  | (.string bytes, d) => bytes.length + uptoBulk d + 1
  | (_, d) => uptoBulk d + 1
 end
def uptoSmall : (H : Type) → List (DataW H) → Bool := fun _ ds => decide (uptoBulkAll ds ≤ 1048576)
def OpenSpec.upto (s : _root_.Go.ChangeSpec) : _root_.Go.OpenSpec := { _root_.Go.OpenSpec.ofChange s with cond := some uptoSmall }

/-- 'selvagelaw12.TiedbScripts', WHERE WHAT IT READS IS OF BULK AT MOST 1048576: true; the input reads as it did. -/
def tiedbScriptsUptoRow : OpenClaim := { program := "ytpaifkfpgoojiaa", sum := "1b07669e8218ce8fcdb3f522f7d224b5e18b17f3d3a190f4abb48c03d6cd4ab7", func := "selvage/selvagelaw12.TiedbScripts", spec := "tiedbScripts", unfollowed := true, recurses := true, plainKeys := false, apart := false, narrowed := true }
def TiedbScriptsUptoSaid : Prop := tiedbScriptsUptoRow.holds Try.pinned (OpenSpec.upto tiedbScriptsSpec)

/-- 'selvagelaw12.TiedbNewest', WHERE WHAT IT READS IS OF BULK AT MOST 1048576: true; the input reads as it did. -/
def tiedbNewestUptoRow : OpenClaim := { program := "ytpaifkfpgoojiaa", sum := "1b07669e8218ce8fcdb3f522f7d224b5e18b17f3d3a190f4abb48c03d6cd4ab7", func := "selvage/selvagelaw12.TiedbNewest", spec := "tiedbNewest", unfollowed := true, recurses := true, plainKeys := false, apart := false, narrowed := true }
def TiedbNewestUptoSaid : Prop := tiedbNewestUptoRow.holds Try.pinned (OpenSpec.upto tiedbNewestSpec)

/-- 'selvagelaw12.TiedbAges', WHERE WHAT IT READS IS OF BULK AT MOST 1048576: true; the input reads as it did. -/
def tiedbAgesUptoRow : OpenClaim := { program := "ytpaifkfpgoojiaa", sum := "1b07669e8218ce8fcdb3f522f7d224b5e18b17f3d3a190f4abb48c03d6cd4ab7", func := "selvage/selvagelaw12.TiedbAges", spec := "tiedbAges", unfollowed := true, recurses := true, plainKeys := false, apart := false, narrowed := true }
def TiedbAgesUptoSaid : Prop := tiedbAgesUptoRow.holds Try.pinned (OpenSpec.upto tiedbAgesSpec)

end Rows
end Go.Proofs.Ytpaifkfpgoojiaa
