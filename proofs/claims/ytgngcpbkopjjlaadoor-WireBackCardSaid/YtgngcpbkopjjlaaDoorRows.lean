/-
  NARROWER THAN 'FOR EVERY INPUT', by the rows' own cells (each row's printed sentence says how): WireDecodes: laid · WireKnows: laid · WireBack: laid · WireRight: laid · WireItems: laid.
  DERIVED. THE GIVEN ROWS OF THIS SEAT. 5 by the template 'for every input the law returns true; each argument reads behind the call as it read before'; 0 by the template 'total and deterministic' (their statements: YtgngcpbkopjjlaaDoorTotals.lean).
  GIVEN WITH THE SEED: the statements are not yours to turn. If you find one false, say at which input.
  Laid BY PROGRAM, IN A SANDBOX (cutbox-rows.mjs): the forced cells as the released guide's own fill.sh prints them over the translation b1d93ef99c28f190… (all of the seat's roots in one cut). By AI agents, Wed Nov 11 2026. No macro, syntax, notation, axiom, sorry.
-/
import Derived.Test.YtgngcpbkopjjlaaDoorChecked
import GoSem.Claim
import GoSem.ClaimJoined
import GoSem.ClaimMapViews
import Derived.JoinedTies
import Derived.KernelRfl
namespace Go.Proofs.YtgngcpbkopjjlaaDoor
/- THE CELL 'sum', in the pinned program and in every row, IS THE sha256 OF THE DUMP (.gsa) THAT YtgngcpbkopjjlaaDoorProg.lean LOADS. Nothing in Lean hashes anything: it is a label: what it is worth is what the hold of that sum in a sandbox is worth. -/
noncomputable def Tryd.pinned : Pinned := { name := "ytgngcpbkopjjlaadoor", sum := "b1d93ef99c28f190babf5993558bac90729eb151843cf1a77d3287d498602195", checked := Tryd.checked }
namespace Rows
def none {H : Type} : Left H := { results := [], args := [] }

/- WHAT THE LISTED PACKAGE-LEVEL VARIABLES READ AS WHEN THE CALL BEGINS. Each datum BY PROGRAM (the guide's laid-datum.mjs) off the statement by which the dump's own 'gosem.cut.vars' lays the variable. In a bare row this is a premise. The card (YtgngcpbkopjjlaaDoorCards.lean) ties it to the program's text. -/
def laid_selvage_wire_places {H : Type} : DataW H := .agg [.agg [.lit (.int .i64 0), .lit (.int .i64 0), .lit (.int .i64 0), .lit (.int .i64 0), .lit (.int .i64 0), .lit (.int .i64 0), .lit (.int .i64 0), .lit (.int .i64 0), .lit (.int .i64 0), .lit (.int .i64 0), .lit (.int .i64 0), .lit (.int .i64 0), .lit (.int .i64 0)], .agg [.lit (.int .i64 0), .lit (.int .i64 0), .lit (.int .i64 0), .lit (.int .i64 0), .lit (.int .i64 0), .lit (.int .i64 0), .lit (.int .i64 0), .lit (.int .i64 0), .lit (.int .i64 0), .lit (.int .i64 0), .lit (.int .i64 0), .lit (.int .i64 0), .lit (.int .i64 0)], .agg [.lit (.int .i64 0), .lit (.int .i64 1), .lit (.int .i64 3), .lit (.int .i64 6), .lit (.int .i64 4), .lit (.int .i64 4), .lit (.int .i64 5), .lit (.int .i64 0), .lit (.int .i64 0), .lit (.int .i64 0), .lit (.int .i64 0), .lit (.int .i64 0), .lit (.int .i64 0)], .agg [.lit (.int .i64 0), .lit (.int .i64 1), .lit (.int .i64 1), .lit (.int .i64 1), .lit (.int .i64 1), .lit (.int .i64 1), .lit (.int .i64 1), .lit (.int .i64 1), .lit (.int .i64 1), .lit (.int .i64 1), .lit (.int .i64 1), .lit (.int .i64 1), .lit (.int .i64 1)], .agg [.lit (.int .i64 0), .lit (.int .i64 1), .lit (.int .i64 1), .lit (.int .i64 1), .lit (.int .i64 1), .lit (.int .i64 0), .lit (.int .i64 0), .lit (.int .i64 0), .lit (.int .i64 0), .lit (.int .i64 0), .lit (.int .i64 0), .lit (.int .i64 0), .lit (.int .i64 0)], .agg [.lit (.int .i64 0), .lit (.int .i64 4), .lit (.int .i64 1), .lit (.int .i64 1), .lit (.int .i64 0), .lit (.int .i64 0), .lit (.int .i64 0), .lit (.int .i64 0), .lit (.int .i64 0), .lit (.int .i64 0), .lit (.int .i64 0), .lit (.int .i64 0), .lit (.int .i64 0)], .agg [.lit (.int .i64 0), .lit (.int .i64 5), .lit (.int .i64 1), .lit (.int .i64 1), .lit (.int .i64 7), .lit (.int .i64 8), .lit (.int .i64 0), .lit (.int .i64 0), .lit (.int .i64 0), .lit (.int .i64 0), .lit (.int .i64 0), .lit (.int .i64 0), .lit (.int .i64 0)], .agg [.lit (.int .i64 0), .lit (.int .i64 1), .lit (.int .i64 1), .lit (.int .i64 1), .lit (.int .i64 0), .lit (.int .i64 0), .lit (.int .i64 0), .lit (.int .i64 0), .lit (.int .i64 0), .lit (.int .i64 0), .lit (.int .i64 0), .lit (.int .i64 0), .lit (.int .i64 0)], .agg [.lit (.int .i64 0), .lit (.int .i64 1), .lit (.int .i64 1), .lit (.int .i64 1), .lit (.int .i64 0), .lit (.int .i64 0), .lit (.int .i64 0), .lit (.int .i64 0), .lit (.int .i64 0), .lit (.int .i64 0), .lit (.int .i64 0), .lit (.int .i64 0), .lit (.int .i64 0)]]

/-- 'selvagelaw03.WireDecodes': WHATEVER THE INPUT: true; the input reads as it did. -/
def wireDecodesSpec : ChangeSpec := { name := "wireDecodes", fn := fun _ => fun
  | [d] => { results := [.lit (.bool true)], args := [d] }
  | _ => none }
def wireDecodesRow : OpenClaim := { program := "ytgngcpbkopjjlaadoor", sum := "b1d93ef99c28f190babf5993558bac90729eb151843cf1a77d3287d498602195", func := "selvage/selvagelaw03.WireDecodes", spec := "wireDecodes", unfollowed := true, recurses := true, named := ["selvage/wire.places"], apart := false, laid := [("selvage/wire.places", laid_selvage_wire_places)] }
def WireDecodesSaid : Prop := wireDecodesRow.holds Tryd.pinned (OpenSpec.ofChange wireDecodesSpec)

/-- ITS FALSE NEIGHBOUR: 'it returns false'. Refute it at one input. -/
def wireDecodesWrong : ChangeSpec := { name := "wireDecodes", fn := fun _ => fun
  | [d] => { results := [.lit (.bool false)], args := [d] }
  | _ => none }
def WireDecodesWrongFalsely : Prop := wireDecodesRow.holds Tryd.pinned (OpenSpec.ofChange wireDecodesWrong)

/-- 'selvagelaw03.WireKnows': WHATEVER THE INPUT: true; the input reads as it did. -/
def wireKnowsSpec : ChangeSpec := { name := "wireKnows", fn := fun _ => fun
  | [d] => { results := [.lit (.bool true)], args := [d] }
  | _ => none }
def wireKnowsRow : OpenClaim := { program := "ytgngcpbkopjjlaadoor", sum := "b1d93ef99c28f190babf5993558bac90729eb151843cf1a77d3287d498602195", func := "selvage/selvagelaw03.WireKnows", spec := "wireKnows", unfollowed := true, recurses := true, named := ["selvage/wire.places"], apart := false, laid := [("selvage/wire.places", laid_selvage_wire_places)] }
def WireKnowsSaid : Prop := wireKnowsRow.holds Tryd.pinned (OpenSpec.ofChange wireKnowsSpec)

/-- ITS FALSE NEIGHBOUR: 'it returns false'. Refute it at one input. -/
def wireKnowsWrong : ChangeSpec := { name := "wireKnows", fn := fun _ => fun
  | [d] => { results := [.lit (.bool false)], args := [d] }
  | _ => none }
def WireKnowsWrongFalsely : Prop := wireKnowsRow.holds Tryd.pinned (OpenSpec.ofChange wireKnowsWrong)

/-- 'selvagelaw03.WireBack': WHATEVER THE INPUT: true; the input reads as it did. -/
def wireBackSpec : ChangeSpec := { name := "wireBack", fn := fun _ => fun
  | [d1, d2, d3] => { results := [.lit (.bool true)], args := [d1, d2, d3] }
  | _ => none }
def wireBackRow : OpenClaim := { program := "ytgngcpbkopjjlaadoor", sum := "b1d93ef99c28f190babf5993558bac90729eb151843cf1a77d3287d498602195", func := "selvage/selvagelaw03.WireBack", spec := "wireBack", unfollowed := true, recurses := true, named := ["selvage/wire.places"], apart := false, laid := [("selvage/wire.places", laid_selvage_wire_places)] }
def WireBackSaid : Prop := wireBackRow.holds Tryd.pinned (OpenSpec.ofChange wireBackSpec)

/-- ITS FALSE NEIGHBOUR: 'it returns false'. Refute it at one input. -/
def wireBackWrong : ChangeSpec := { name := "wireBack", fn := fun _ => fun
  | [d1, d2, d3] => { results := [.lit (.bool false)], args := [d1, d2, d3] }
  | _ => none }
def WireBackWrongFalsely : Prop := wireBackRow.holds Tryd.pinned (OpenSpec.ofChange wireBackWrong)

/-- 'selvagelaw03.WireRight': WHATEVER THE INPUT: true; the input reads as it did. -/
def wireRightSpec : ChangeSpec := { name := "wireRight", fn := fun _ => fun
  | [d] => { results := [.lit (.bool true)], args := [d] }
  | _ => none }
def wireRightRow : OpenClaim := { program := "ytgngcpbkopjjlaadoor", sum := "b1d93ef99c28f190babf5993558bac90729eb151843cf1a77d3287d498602195", func := "selvage/selvagelaw03.WireRight", spec := "wireRight", unfollowed := true, recurses := true, named := ["selvage/wire.places"], apart := false, laid := [("selvage/wire.places", laid_selvage_wire_places)] }
def WireRightSaid : Prop := wireRightRow.holds Tryd.pinned (OpenSpec.ofChange wireRightSpec)

/-- ITS FALSE NEIGHBOUR: 'it returns false'. Refute it at one input. -/
def wireRightWrong : ChangeSpec := { name := "wireRight", fn := fun _ => fun
  | [d] => { results := [.lit (.bool false)], args := [d] }
  | _ => none }
def WireRightWrongFalsely : Prop := wireRightRow.holds Tryd.pinned (OpenSpec.ofChange wireRightWrong)

/-- 'selvagelaw03.WireItems': WHATEVER THE INPUT: true; the input reads as it did. -/
def wireItemsSpec : ChangeSpec := { name := "wireItems", fn := fun _ => fun
  | [d] => { results := [.lit (.bool true)], args := [d] }
  | _ => none }
def wireItemsRow : OpenClaim := { program := "ytgngcpbkopjjlaadoor", sum := "b1d93ef99c28f190babf5993558bac90729eb151843cf1a77d3287d498602195", func := "selvage/selvagelaw03.WireItems", spec := "wireItems", unfollowed := true, recurses := true, named := ["selvage/wire.places"], apart := false, laid := [("selvage/wire.places", laid_selvage_wire_places)] }
def WireItemsSaid : Prop := wireItemsRow.holds Tryd.pinned (OpenSpec.ofChange wireItemsSpec)

/-- ITS FALSE NEIGHBOUR: 'it returns false'. Refute it at one input. -/
def wireItemsWrong : ChangeSpec := { name := "wireItems", fn := fun _ => fun
  | [d] => { results := [.lit (.bool false)], args := [d] }
  | _ => none }
def WireItemsWrongFalsely : Prop := wireItemsRow.holds Tryd.pinned (OpenSpec.ofChange wireItemsWrong)

/- THE SECOND FORM. 'bulk': how many values and letters a reading holds, each counted each time it is reached (what is shared counts as often as it is met; a slice's spare places count too). A statement '..UptoSaid' is the law's where the arguments, and the package variables that the reading takes, are together of bulk at most 1048576: NARROWER than '..Said'. Prove '..Said' where nothing that the law and all that it calls make is longer than what came in: it says more and counts as full. Else prove '..UptoSaid'. A law counts once. -/
mutual
def uptoBulk {H : Type} : DataW H → Nat
  | .lit (.string bytes) => bytes.length + 1
  | .lit _ => 1
  | .nil => 1
  | .ptr d => uptoBulk d + 1
  | .slice elems spare => uptoBulkAll elems + uptoBulkAll spare + 1
  | .agg parts => uptoBulkAll parts + 1
  | .iface _ d => uptoBulk d + 1
  | .map entries => uptoBulkEntries entries + 1
  | .held _ => 1
def uptoBulkAll {H : Type} : List (DataW H) → Nat
  | [] => 0
  | d :: r => uptoBulk d + uptoBulkAll r
def uptoBulkEntries {H : Type} : List (Lit × DataW H) → Nat
  | [] => 0
  | x :: r => uptoBulkEntry x + uptoBulkEntries r
def uptoBulkEntry {H : Type} : Lit × DataW H → Nat
  | (.string bytes, d) => bytes.length + uptoBulk d + 1
  | (_, d) => uptoBulk d + 1
 end
def uptoSmall : (H : Type) → List (DataW H) → Bool := fun _ ds => decide (uptoBulkAll ds ≤ 1048576)
def OpenSpec.upto (s : _root_.Go.ChangeSpec) : _root_.Go.OpenSpec := { _root_.Go.OpenSpec.ofChange s with cond := some uptoSmall }

/-- 'selvagelaw03.WireDecodes', WHERE WHAT IT READS IS OF BULK AT MOST 1048576: true; the input reads as it did. -/
def wireDecodesUptoRow : OpenClaim := { program := "ytgngcpbkopjjlaadoor", sum := "b1d93ef99c28f190babf5993558bac90729eb151843cf1a77d3287d498602195", func := "selvage/selvagelaw03.WireDecodes", spec := "wireDecodes", unfollowed := true, recurses := true, named := ["selvage/wire.places"], apart := false, laid := [("selvage/wire.places", laid_selvage_wire_places)], narrowed := true }
def WireDecodesUptoSaid : Prop := wireDecodesUptoRow.holds Tryd.pinned (OpenSpec.upto wireDecodesSpec)

/-- 'selvagelaw03.WireKnows', WHERE WHAT IT READS IS OF BULK AT MOST 1048576: true; the input reads as it did. -/
def wireKnowsUptoRow : OpenClaim := { program := "ytgngcpbkopjjlaadoor", sum := "b1d93ef99c28f190babf5993558bac90729eb151843cf1a77d3287d498602195", func := "selvage/selvagelaw03.WireKnows", spec := "wireKnows", unfollowed := true, recurses := true, named := ["selvage/wire.places"], apart := false, laid := [("selvage/wire.places", laid_selvage_wire_places)], narrowed := true }
def WireKnowsUptoSaid : Prop := wireKnowsUptoRow.holds Tryd.pinned (OpenSpec.upto wireKnowsSpec)

/-- 'selvagelaw03.WireBack', WHERE WHAT IT READS IS OF BULK AT MOST 1048576: true; the input reads as it did. -/
def wireBackUptoRow : OpenClaim := { program := "ytgngcpbkopjjlaadoor", sum := "b1d93ef99c28f190babf5993558bac90729eb151843cf1a77d3287d498602195", func := "selvage/selvagelaw03.WireBack", spec := "wireBack", unfollowed := true, recurses := true, named := ["selvage/wire.places"], apart := false, laid := [("selvage/wire.places", laid_selvage_wire_places)], narrowed := true }
def WireBackUptoSaid : Prop := wireBackUptoRow.holds Tryd.pinned (OpenSpec.upto wireBackSpec)

/-- 'selvagelaw03.WireRight', WHERE WHAT IT READS IS OF BULK AT MOST 1048576: true; the input reads as it did. -/
def wireRightUptoRow : OpenClaim := { program := "ytgngcpbkopjjlaadoor", sum := "b1d93ef99c28f190babf5993558bac90729eb151843cf1a77d3287d498602195", func := "selvage/selvagelaw03.WireRight", spec := "wireRight", unfollowed := true, recurses := true, named := ["selvage/wire.places"], apart := false, laid := [("selvage/wire.places", laid_selvage_wire_places)], narrowed := true }
def WireRightUptoSaid : Prop := wireRightUptoRow.holds Tryd.pinned (OpenSpec.upto wireRightSpec)

/-- 'selvagelaw03.WireItems', WHERE WHAT IT READS IS OF BULK AT MOST 1048576: true; the input reads as it did. -/
def wireItemsUptoRow : OpenClaim := { program := "ytgngcpbkopjjlaadoor", sum := "b1d93ef99c28f190babf5993558bac90729eb151843cf1a77d3287d498602195", func := "selvage/selvagelaw03.WireItems", spec := "wireItems", unfollowed := true, recurses := true, named := ["selvage/wire.places"], apart := false, laid := [("selvage/wire.places", laid_selvage_wire_places)], narrowed := true }
def WireItemsUptoSaid : Prop := wireItemsUptoRow.holds Tryd.pinned (OpenSpec.upto wireItemsSpec)

end Rows
end Go.Proofs.YtgngcpbkopjjlaaDoor
