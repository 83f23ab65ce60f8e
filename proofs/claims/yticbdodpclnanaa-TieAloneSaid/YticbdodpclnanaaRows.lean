/-
  No cell of these rows narrows 'for every input' (looked for: loops, veiled, ifaces, maps, wideKeys, modest, calm, conditions, laid).
  DERIVED. THE GIVEN ROWS OF THIS SEAT. 8 by the template 'for every input the law returns true; each argument reads behind the call as it read before'; 0 by the template 'total and deterministic' (their statements: YticbdodpclnanaaTotals.lean).
  GIVEN WITH THE SEED: the statements are not yours to turn. If you find one false, say at which input.
  Laid BY PROGRAM, IN A SANDBOX (cutbox-rows.mjs): the forced cells as the released guide's own fill.sh prints them over the translation 7e92dc270b52d3e6… (all of the seat's roots in one cut). By AI agents, Wed Nov 11 2026. No macro, syntax, notation, axiom, sorry.
-/
import Derived.Test.YticbdodpclnanaaChecked
import GoSem.Claim
import GoSem.ClaimJoined
import GoSem.ClaimMapViews
import Derived.JoinedTies
import Derived.KernelRfl
namespace Go.Proofs.Yticbdodpclnanaa
/- THE CELL 'sum', in the pinned program and in every row, IS THE sha256 OF THE DUMP (.gsa) THAT YticbdodpclnanaaProg.lean LOADS. Nothing in Lean hashes anything: it is a label: what it is worth is what the hold of that sum in a sandbox is worth. -/
noncomputable def Try.pinned : Pinned := { name := "yticbdodpclnanaa", sum := "7e92dc270b52d3e633c5fe43ce808d83886988b08f235869f849b5a91e2539cc", checked := Try.checked }
namespace Rows
def none {H : Type} : Left H := { results := [], args := [] }

/-- 'selvagelaw11.TieOrders': WHATEVER THE INPUT: true; the input reads as it did. -/
def tieOrdersSpec : ChangeSpec := { name := "tieOrders", fn := fun _ => fun
  | [d1, d2, d3] => { results := [.lit (.bool true)], args := [d1, d2, d3] }
  | _ => none }
def tieOrdersRow : OpenClaim := { program := "yticbdodpclnanaa", sum := "7e92dc270b52d3e633c5fe43ce808d83886988b08f235869f849b5a91e2539cc", func := "selvage/selvagelaw11.TieOrders", spec := "tieOrders", plainKeys := false, apart := false }
def TieOrdersSaid : Prop := tieOrdersRow.holds Try.pinned (OpenSpec.ofChange tieOrdersSpec)

/-- ITS FALSE NEIGHBOUR: 'it returns false'. Refute it at one input. -/
def tieOrdersWrong : ChangeSpec := { name := "tieOrders", fn := fun _ => fun
  | [d1, d2, d3] => { results := [.lit (.bool false)], args := [d1, d2, d3] }
  | _ => none }
def TieOrdersWrongFalsely : Prop := tieOrdersRow.holds Try.pinned (OpenSpec.ofChange tieOrdersWrong)

/-- 'selvagelaw11.TieMerges': WHATEVER THE INPUT: true; the input reads as it did. -/
def tieMergesSpec : ChangeSpec := { name := "tieMerges", fn := fun _ => fun
  | [d1, d2] => { results := [.lit (.bool true)], args := [d1, d2] }
  | _ => none }
def tieMergesRow : OpenClaim := { program := "yticbdodpclnanaa", sum := "7e92dc270b52d3e633c5fe43ce808d83886988b08f235869f849b5a91e2539cc", func := "selvage/selvagelaw11.TieMerges", spec := "tieMerges", unfollowed := true, recurses := true, plainKeys := false, apart := false }
def TieMergesSaid : Prop := tieMergesRow.holds Try.pinned (OpenSpec.ofChange tieMergesSpec)

/-- ITS FALSE NEIGHBOUR: 'it returns false'. Refute it at one input. -/
def tieMergesWrong : ChangeSpec := { name := "tieMerges", fn := fun _ => fun
  | [d1, d2] => { results := [.lit (.bool false)], args := [d1, d2] }
  | _ => none }
def TieMergesWrongFalsely : Prop := tieMergesRow.holds Try.pinned (OpenSpec.ofChange tieMergesWrong)

/-- 'selvagelaw11.TieOrder': WHATEVER THE INPUT: true; the input reads as it did. -/
def tieOrderSpec : ChangeSpec := { name := "tieOrder", fn := fun _ => fun
  | [d1, d2, d3] => { results := [.lit (.bool true)], args := [d1, d2, d3] }
  | _ => none }
def tieOrderRow : OpenClaim := { program := "yticbdodpclnanaa", sum := "7e92dc270b52d3e633c5fe43ce808d83886988b08f235869f849b5a91e2539cc", func := "selvage/selvagelaw11.TieOrder", spec := "tieOrder", plainKeys := false, apart := false }
def TieOrderSaid : Prop := tieOrderRow.holds Try.pinned (OpenSpec.ofChange tieOrderSpec)

/-- ITS FALSE NEIGHBOUR: 'it returns false'. Refute it at one input. -/
def tieOrderWrong : ChangeSpec := { name := "tieOrder", fn := fun _ => fun
  | [d1, d2, d3] => { results := [.lit (.bool false)], args := [d1, d2, d3] }
  | _ => none }
def TieOrderWrongFalsely : Prop := tieOrderRow.holds Try.pinned (OpenSpec.ofChange tieOrderWrong)

/-- 'selvagelaw11.TieAfter': WHATEVER THE INPUT: true; the input reads as it did. -/
def tieAfterSpec : ChangeSpec := { name := "tieAfter", fn := fun _ => fun
  | [d1, d2] => { results := [.lit (.bool true)], args := [d1, d2] }
  | _ => none }
def tieAfterRow : OpenClaim := { program := "yticbdodpclnanaa", sum := "7e92dc270b52d3e633c5fe43ce808d83886988b08f235869f849b5a91e2539cc", func := "selvage/selvagelaw11.TieAfter", spec := "tieAfter", plainKeys := false, apart := false }
def TieAfterSaid : Prop := tieAfterRow.holds Try.pinned (OpenSpec.ofChange tieAfterSpec)

/-- ITS FALSE NEIGHBOUR: 'it returns false'. Refute it at one input. -/
def tieAfterWrong : ChangeSpec := { name := "tieAfter", fn := fun _ => fun
  | [d1, d2] => { results := [.lit (.bool false)], args := [d1, d2] }
  | _ => none }
def TieAfterWrongFalsely : Prop := tieAfterRow.holds Try.pinned (OpenSpec.ofChange tieAfterWrong)

/-- 'selvagelaw11.TieNewer': WHATEVER THE INPUT: true; the input reads as it did. -/
def tieNewerSpec : ChangeSpec := { name := "tieNewer", fn := fun _ => fun
  | [d1, d2] => { results := [.lit (.bool true)], args := [d1, d2] }
  | _ => none }
def tieNewerRow : OpenClaim := { program := "yticbdodpclnanaa", sum := "7e92dc270b52d3e633c5fe43ce808d83886988b08f235869f849b5a91e2539cc", func := "selvage/selvagelaw11.TieNewer", spec := "tieNewer", plainKeys := false, apart := false }
def TieNewerSaid : Prop := tieNewerRow.holds Try.pinned (OpenSpec.ofChange tieNewerSpec)

/-- ITS FALSE NEIGHBOUR: 'it returns false'. Refute it at one input. -/
def tieNewerWrong : ChangeSpec := { name := "tieNewer", fn := fun _ => fun
  | [d1, d2] => { results := [.lit (.bool false)], args := [d1, d2] }
  | _ => none }
def TieNewerWrongFalsely : Prop := tieNewerRow.holds Try.pinned (OpenSpec.ofChange tieNewerWrong)

/-- 'selvagelaw11.TieAlone': WHATEVER THE INPUT: true; the input reads as it did. -/
def tieAloneSpec : ChangeSpec := { name := "tieAlone", fn := fun _ => fun
  | [d1, d2] => { results := [.lit (.bool true)], args := [d1, d2] }
  | _ => none }
def tieAloneRow : OpenClaim := { program := "yticbdodpclnanaa", sum := "7e92dc270b52d3e633c5fe43ce808d83886988b08f235869f849b5a91e2539cc", func := "selvage/selvagelaw11.TieAlone", spec := "tieAlone", unfollowed := true, recurses := true, plainKeys := false, apart := false }
def TieAloneSaid : Prop := tieAloneRow.holds Try.pinned (OpenSpec.ofChange tieAloneSpec)

/-- ITS FALSE NEIGHBOUR: 'it returns false'. Refute it at one input. -/
def tieAloneWrong : ChangeSpec := { name := "tieAlone", fn := fun _ => fun
  | [d1, d2] => { results := [.lit (.bool false)], args := [d1, d2] }
  | _ => none }
def TieAloneWrongFalsely : Prop := tieAloneRow.holds Try.pinned (OpenSpec.ofChange tieAloneWrong)

/-- 'selvagelaw11.TieSpans': WHATEVER THE INPUT: true; the input reads as it did. -/
def tieSpansSpec : ChangeSpec := { name := "tieSpans", fn := fun _ => fun
  | [d] => { results := [.lit (.bool true)], args := [d] }
  | _ => none }
def tieSpansRow : OpenClaim := { program := "yticbdodpclnanaa", sum := "7e92dc270b52d3e633c5fe43ce808d83886988b08f235869f849b5a91e2539cc", func := "selvage/selvagelaw11.TieSpans", spec := "tieSpans", plainKeys := false, apart := false }
def TieSpansSaid : Prop := tieSpansRow.holds Try.pinned (OpenSpec.ofChange tieSpansSpec)

/-- ITS FALSE NEIGHBOUR: 'it returns false'. Refute it at one input. -/
def tieSpansWrong : ChangeSpec := { name := "tieSpans", fn := fun _ => fun
  | [d] => { results := [.lit (.bool false)], args := [d] }
  | _ => none }
def TieSpansWrongFalsely : Prop := tieSpansRow.holds Try.pinned (OpenSpec.ofChange tieSpansWrong)

/-- 'selvagelaw11.TieWins': WHATEVER THE INPUT: true; the input reads as it did. -/
def tieWinsSpec : ChangeSpec := { name := "tieWins", fn := fun _ => fun
  | [d1, d2] => { results := [.lit (.bool true)], args := [d1, d2] }
  | _ => none }
def tieWinsRow : OpenClaim := { program := "yticbdodpclnanaa", sum := "7e92dc270b52d3e633c5fe43ce808d83886988b08f235869f849b5a91e2539cc", func := "selvage/selvagelaw11.TieWins", spec := "tieWins", unfollowed := true, recurses := true, plainKeys := false, apart := false }
def TieWinsSaid : Prop := tieWinsRow.holds Try.pinned (OpenSpec.ofChange tieWinsSpec)

/-- ITS FALSE NEIGHBOUR: 'it returns false'. Refute it at one input. -/
def tieWinsWrong : ChangeSpec := { name := "tieWins", fn := fun _ => fun
  | [d1, d2] => { results := [.lit (.bool false)], args := [d1, d2] }
  | _ => none }
def TieWinsWrongFalsely : Prop := tieWinsRow.holds Try.pinned (OpenSpec.ofChange tieWinsWrong)

/- THE SECOND FORM. 'bulk': how many values and letters a reading holds, each counted each time it is reached (what is shared counts as often as it is met; a slice's spare places count too). A statement '..UptoSaid' is the law's where the arguments, and the package variables that the reading takes, are together of bulk at most 1048576: NARROWER than '..Said'. Prove '..Said' where nothing that the law and all that it calls make is longer than what came in: it says more and counts as full. Else prove '..UptoSaid'. A law counts once. -/
mutual
def uptoBulk {H : Type} : DataW H → Nat
  | .lit (.string bytes) => bytes.length + 1
  | .lit _ => 1
  | .nil => 1
  | .ptr d => uptoBulk d + 1
  | .slice elems spare => uptoBulkAll elems + uptoBulkAll spare + 1
  | .agg parts => uptoBulkAll parts + 1
  | .iface _ d => uptoBulk d + 1
  | .map entries => uptoBulkEntries entries + 1
  | .held _ => 1
def uptoBulkAll {H : Type} : List (DataW H) → Nat
  | [] => 0
  | d :: r => uptoBulk d + uptoBulkAll r
def uptoBulkEntries {H : Type} : List (Lit × DataW H) → Nat
  | [] => 0
  | x :: r => uptoBulkEntry x + uptoBulkEntries r
def uptoBulkEntry {H : Type} : Lit × DataW H → Nat
  | (.string bytes, d) => bytes.length + uptoBulk d + 1
  | (_, d) => uptoBulk d + 1
 end
def uptoSmall : (H : Type) → List (DataW H) → Bool := fun _ ds => decide (uptoBulkAll ds ≤ 1048576)
def OpenSpec.upto (s : _root_.Go.ChangeSpec) : _root_.Go.OpenSpec := { _root_.Go.OpenSpec.ofChange s with cond := some uptoSmall }

/-- 'selvagelaw11.TieOrders', WHERE WHAT IT READS IS OF BULK AT MOST 1048576: true; the input reads as it did. -/
def tieOrdersUptoRow : OpenClaim := { program := "yticbdodpclnanaa", sum := "7e92dc270b52d3e633c5fe43ce808d83886988b08f235869f849b5a91e2539cc", func := "selvage/selvagelaw11.TieOrders", spec := "tieOrders", plainKeys := false, apart := false, narrowed := true }
def TieOrdersUptoSaid : Prop := tieOrdersUptoRow.holds Try.pinned (OpenSpec.upto tieOrdersSpec)

/-- 'selvagelaw11.TieMerges', WHERE WHAT IT READS IS OF BULK AT MOST 1048576: true; the input reads as it did. -/
def tieMergesUptoRow : OpenClaim := { program := "yticbdodpclnanaa", sum := "7e92dc270b52d3e633c5fe43ce808d83886988b08f235869f849b5a91e2539cc", func := "selvage/selvagelaw11.TieMerges", spec := "tieMerges", unfollowed := true, recurses := true, plainKeys := false, apart := false, narrowed := true }
def TieMergesUptoSaid : Prop := tieMergesUptoRow.holds Try.pinned (OpenSpec.upto tieMergesSpec)

/-- 'selvagelaw11.TieOrder', WHERE WHAT IT READS IS OF BULK AT MOST 1048576: true; the input reads as it did. -/
def tieOrderUptoRow : OpenClaim := { program := "yticbdodpclnanaa", sum := "7e92dc270b52d3e633c5fe43ce808d83886988b08f235869f849b5a91e2539cc", func := "selvage/selvagelaw11.TieOrder", spec := "tieOrder", plainKeys := false, apart := false, narrowed := true }
def TieOrderUptoSaid : Prop := tieOrderUptoRow.holds Try.pinned (OpenSpec.upto tieOrderSpec)

/-- 'selvagelaw11.TieAfter', WHERE WHAT IT READS IS OF BULK AT MOST 1048576: true; the input reads as it did. -/
def tieAfterUptoRow : OpenClaim := { program := "yticbdodpclnanaa", sum := "7e92dc270b52d3e633c5fe43ce808d83886988b08f235869f849b5a91e2539cc", func := "selvage/selvagelaw11.TieAfter", spec := "tieAfter", plainKeys := false, apart := false, narrowed := true }
def TieAfterUptoSaid : Prop := tieAfterUptoRow.holds Try.pinned (OpenSpec.upto tieAfterSpec)

/-- 'selvagelaw11.TieNewer', WHERE WHAT IT READS IS OF BULK AT MOST 1048576: true; the input reads as it did. -/
def tieNewerUptoRow : OpenClaim := { program := "yticbdodpclnanaa", sum := "7e92dc270b52d3e633c5fe43ce808d83886988b08f235869f849b5a91e2539cc", func := "selvage/selvagelaw11.TieNewer", spec := "tieNewer", plainKeys := false, apart := false, narrowed := true }
def TieNewerUptoSaid : Prop := tieNewerUptoRow.holds Try.pinned (OpenSpec.upto tieNewerSpec)

/-- 'selvagelaw11.TieAlone', WHERE WHAT IT READS IS OF BULK AT MOST 1048576: true; the input reads as it did. -/
def tieAloneUptoRow : OpenClaim := { program := "yticbdodpclnanaa", sum := "7e92dc270b52d3e633c5fe43ce808d83886988b08f235869f849b5a91e2539cc", func := "selvage/selvagelaw11.TieAlone", spec := "tieAlone", unfollowed := true, recurses := true, plainKeys := false, apart := false, narrowed := true }
def TieAloneUptoSaid : Prop := tieAloneUptoRow.holds Try.pinned (OpenSpec.upto tieAloneSpec)

/-- 'selvagelaw11.TieSpans', WHERE WHAT IT READS IS OF BULK AT MOST 1048576: true; the input reads as it did. -/
def tieSpansUptoRow : OpenClaim := { program := "yticbdodpclnanaa", sum := "7e92dc270b52d3e633c5fe43ce808d83886988b08f235869f849b5a91e2539cc", func := "selvage/selvagelaw11.TieSpans", spec := "tieSpans", plainKeys := false, apart := false, narrowed := true }
def TieSpansUptoSaid : Prop := tieSpansUptoRow.holds Try.pinned (OpenSpec.upto tieSpansSpec)

/-- 'selvagelaw11.TieWins', WHERE WHAT IT READS IS OF BULK AT MOST 1048576: true; the input reads as it did. -/
def tieWinsUptoRow : OpenClaim := { program := "yticbdodpclnanaa", sum := "7e92dc270b52d3e633c5fe43ce808d83886988b08f235869f849b5a91e2539cc", func := "selvage/selvagelaw11.TieWins", spec := "tieWins", unfollowed := true, recurses := true, plainKeys := false, apart := false, narrowed := true }
def TieWinsUptoSaid : Prop := tieWinsUptoRow.holds Try.pinned (OpenSpec.upto tieWinsSpec)

end Rows
end Go.Proofs.Yticbdodpclnanaa
