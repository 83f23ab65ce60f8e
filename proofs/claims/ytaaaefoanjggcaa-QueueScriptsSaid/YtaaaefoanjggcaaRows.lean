/-
  No cell of these rows narrows 'for every input' (looked for: loops, veiled, ifaces, maps, wideKeys, modest, calm, conditions, laid).
  DERIVED. THE GIVEN ROWS OF THIS SEAT. 5 by the template 'for every input the law returns true; each argument reads behind the call as it read before'; 0 by the template 'total and deterministic' (their statements: YtaaaefoanjggcaaTotals.lean).
  GIVEN WITH THE SEED: the statements are not yours to turn. If you find one false, say at which input.
  Laid BY PROGRAM, IN A SANDBOX (cutbox-rows.mjs): the forced cells as the released guide's own fill.sh prints them over the translation dc4d0d69f3398c7f… (all of the seat's roots in one cut). By AI agents, Wed Nov 11 2026. No macro, syntax, notation, axiom, sorry.
-/
import Derived.Test.YtaaaefoanjggcaaChecked
import GoSem.Claim
import GoSem.ClaimJoined
import GoSem.ClaimMapViews
import Derived.JoinedTies
import Derived.KernelRfl
namespace Go.Proofs.Ytaaaefoanjggcaa
/- THE CELL 'sum', in the pinned program and in every row, IS THE sha256 OF THE DUMP (.gsa) THAT YtaaaefoanjggcaaProg.lean LOADS. Nothing in Lean hashes anything: it is a label: what it is worth is what the hold of that sum in a sandbox is worth. -/
noncomputable def Try.pinned : Pinned := { name := "ytaaaefoanjggcaa", sum := "dc4d0d69f3398c7f9499116e626112802cc3c6c3f5ca67151f87d96ddfd745a7", checked := Try.checked }
namespace Rows
def none {H : Type} : Left H := { results := [], args := [] }

/-- 'selvagelaw08.QueueScripts': WHATEVER THE INPUT: true; the input reads as it did. -/
def queueScriptsSpec : ChangeSpec := { name := "queueScripts", fn := fun _ => fun
  | [d1, d2] => { results := [.lit (.bool true)], args := [d1, d2] }
  | _ => none }
def queueScriptsRow : OpenClaim := { program := "ytaaaefoanjggcaa", sum := "dc4d0d69f3398c7f9499116e626112802cc3c6c3f5ca67151f87d96ddfd745a7", func := "selvage/selvagelaw08.QueueScripts", spec := "queueScripts", unfollowed := true, recurses := true, apart := false }
def QueueScriptsSaid : Prop := queueScriptsRow.holds Try.pinned (OpenSpec.ofChange queueScriptsSpec)

/-- ITS FALSE NEIGHBOUR: 'it returns false'. Refute it at one input. -/
def queueScriptsWrong : ChangeSpec := { name := "queueScripts", fn := fun _ => fun
  | [d1, d2] => { results := [.lit (.bool false)], args := [d1, d2] }
  | _ => none }
def QueueScriptsWrongFalsely : Prop := queueScriptsRow.holds Try.pinned (OpenSpec.ofChange queueScriptsWrong)

/-- 'selvagelaw08.QueueRises': WHATEVER THE INPUT: true; the input reads as it did. -/
def queueRisesSpec : ChangeSpec := { name := "queueRises", fn := fun _ => fun
  | [d] => { results := [.lit (.bool true)], args := [d] }
  | _ => none }
def queueRisesRow : OpenClaim := { program := "ytaaaefoanjggcaa", sum := "dc4d0d69f3398c7f9499116e626112802cc3c6c3f5ca67151f87d96ddfd745a7", func := "selvage/selvagelaw08.QueueRises", spec := "queueRises", unfollowed := true, recurses := true, apart := false }
def QueueRisesSaid : Prop := queueRisesRow.holds Try.pinned (OpenSpec.ofChange queueRisesSpec)

/-- ITS FALSE NEIGHBOUR: 'it returns false'. Refute it at one input. -/
def queueRisesWrong : ChangeSpec := { name := "queueRises", fn := fun _ => fun
  | [d] => { results := [.lit (.bool false)], args := [d] }
  | _ => none }
def QueueRisesWrongFalsely : Prop := queueRisesRow.holds Try.pinned (OpenSpec.ofChange queueRisesWrong)

/-- 'selvagelaw08.QueueDrops': WHATEVER THE INPUT: true; the input reads as it did. -/
def queueDropsSpec : ChangeSpec := { name := "queueDrops", fn := fun _ => fun
  | [d1, d2] => { results := [.lit (.bool true)], args := [d1, d2] }
  | _ => none }
def queueDropsRow : OpenClaim := { program := "ytaaaefoanjggcaa", sum := "dc4d0d69f3398c7f9499116e626112802cc3c6c3f5ca67151f87d96ddfd745a7", func := "selvage/selvagelaw08.QueueDrops", spec := "queueDrops", unfollowed := true, recurses := true, apart := false }
def QueueDropsSaid : Prop := queueDropsRow.holds Try.pinned (OpenSpec.ofChange queueDropsSpec)

/-- ITS FALSE NEIGHBOUR: 'it returns false'. Refute it at one input. -/
def queueDropsWrong : ChangeSpec := { name := "queueDrops", fn := fun _ => fun
  | [d1, d2] => { results := [.lit (.bool false)], args := [d1, d2] }
  | _ => none }
def QueueDropsWrongFalsely : Prop := queueDropsRow.holds Try.pinned (OpenSpec.ofChange queueDropsWrong)

/-- 'selvagelaw08.QueueNearer': WHATEVER THE INPUT: true; the input reads as it did. -/
def queueNearerSpec : ChangeSpec := { name := "queueNearer", fn := fun _ => fun
  | [d1, d2] => { results := [.lit (.bool true)], args := [d1, d2] }
  | _ => none }
def queueNearerRow : OpenClaim := { program := "ytaaaefoanjggcaa", sum := "dc4d0d69f3398c7f9499116e626112802cc3c6c3f5ca67151f87d96ddfd745a7", func := "selvage/selvagelaw08.QueueNearer", spec := "queueNearer", unfollowed := true, recurses := true, apart := false }
def QueueNearerSaid : Prop := queueNearerRow.holds Try.pinned (OpenSpec.ofChange queueNearerSpec)

/-- ITS FALSE NEIGHBOUR: 'it returns false'. Refute it at one input. -/
def queueNearerWrong : ChangeSpec := { name := "queueNearer", fn := fun _ => fun
  | [d1, d2] => { results := [.lit (.bool false)], args := [d1, d2] }
  | _ => none }
def QueueNearerWrongFalsely : Prop := queueNearerRow.holds Try.pinned (OpenSpec.ofChange queueNearerWrong)

/-- 'selvagelaw08.QueueMixed': WHATEVER THE INPUT: true; the input reads as it did. -/
def queueMixedSpec : ChangeSpec := { name := "queueMixed", fn := fun _ => fun
  | [d1, d2] => { results := [.lit (.bool true)], args := [d1, d2] }
  | _ => none }
def queueMixedRow : OpenClaim := { program := "ytaaaefoanjggcaa", sum := "dc4d0d69f3398c7f9499116e626112802cc3c6c3f5ca67151f87d96ddfd745a7", func := "selvage/selvagelaw08.QueueMixed", spec := "queueMixed", unfollowed := true, recurses := true, apart := false }
def QueueMixedSaid : Prop := queueMixedRow.holds Try.pinned (OpenSpec.ofChange queueMixedSpec)

/-- ITS FALSE NEIGHBOUR: 'it returns false'. Refute it at one input. -/
def queueMixedWrong : ChangeSpec := { name := "queueMixed", fn := fun _ => fun
  | [d1, d2] => { results := [.lit (.bool false)], args := [d1, d2] }
  | _ => none }
def QueueMixedWrongFalsely : Prop := queueMixedRow.holds Try.pinned (OpenSpec.ofChange queueMixedWrong)

/- THE SECOND FORM. 'bulk': how many values and letters a reading holds, each counted each time it is reached (what is shared counts as often as it is met; a slice's spare places count too). A statement '..UptoSaid' is the law's where the arguments, and the package variables that the reading takes, are together of bulk at most 1048576: NARROWER than '..Said'. Prove '..Said' where nothing that the law and all that it calls make is longer than what came in: it says more and counts as full. Else prove '..UptoSaid'. A law counts once. -/
mutual
def uptoBulk {H : Type} : DataW H → Nat
  | .lit (.string bytes) => bytes.length + 1
  | .lit _ => 1
  | .nil => 1
  | .ptr d => uptoBulk d + 1
  | .slice elems spare => uptoBulkAll elems + uptoBulkAll spare + 1
  | .agg parts => uptoBulkAll parts + 1
  | .iface _ d => uptoBulk d + 1
  | .map entries => uptoBulkEntries entries + 1
  | .held _ => 1
def uptoBulkAll {H : Type} : List (DataW H) → Nat
  | [] => 0
  | d :: r => uptoBulk d + uptoBulkAll r
def uptoBulkEntries {H : Type} : List (Lit × DataW H) → Nat
  | [] => 0
  | x :: r => uptoBulkEntry x + uptoBulkEntries r
def uptoBulkEntry {H : Type} : Lit × DataW H → Nat
  | (.string bytes, d) => bytes.length + uptoBulk d + 1
  | (_, d) => uptoBulk d + 1
 end
def uptoSmall : (H : Type) → List (DataW H) → Bool := fun _ ds => decide (uptoBulkAll ds ≤ 1048576)
def OpenSpec.upto (s : _root_.Go.ChangeSpec) : _root_.Go.OpenSpec := { _root_.Go.OpenSpec.ofChange s with cond := some uptoSmall }

/-- 'selvagelaw08.QueueScripts', WHERE WHAT IT READS IS OF BULK AT MOST 1048576: true; the input reads as it did. -/
def queueScriptsUptoRow : OpenClaim := { program := "ytaaaefoanjggcaa", sum := "dc4d0d69f3398c7f9499116e626112802cc3c6c3f5ca67151f87d96ddfd745a7", func := "selvage/selvagelaw08.QueueScripts", spec := "queueScripts", unfollowed := true, recurses := true, apart := false, narrowed := true }
def QueueScriptsUptoSaid : Prop := queueScriptsUptoRow.holds Try.pinned (OpenSpec.upto queueScriptsSpec)

/-- 'selvagelaw08.QueueRises', WHERE WHAT IT READS IS OF BULK AT MOST 1048576: true; the input reads as it did. -/
def queueRisesUptoRow : OpenClaim := { program := "ytaaaefoanjggcaa", sum := "dc4d0d69f3398c7f9499116e626112802cc3c6c3f5ca67151f87d96ddfd745a7", func := "selvage/selvagelaw08.QueueRises", spec := "queueRises", unfollowed := true, recurses := true, apart := false, narrowed := true }
def QueueRisesUptoSaid : Prop := queueRisesUptoRow.holds Try.pinned (OpenSpec.upto queueRisesSpec)

/-- 'selvagelaw08.QueueDrops', WHERE WHAT IT READS IS OF BULK AT MOST 1048576: true; the input reads as it did. -/
def queueDropsUptoRow : OpenClaim := { program := "ytaaaefoanjggcaa", sum := "dc4d0d69f3398c7f9499116e626112802cc3c6c3f5ca67151f87d96ddfd745a7", func := "selvage/selvagelaw08.QueueDrops", spec := "queueDrops", unfollowed := true, recurses := true, apart := false, narrowed := true }
def QueueDropsUptoSaid : Prop := queueDropsUptoRow.holds Try.pinned (OpenSpec.upto queueDropsSpec)

/-- 'selvagelaw08.QueueNearer', WHERE WHAT IT READS IS OF BULK AT MOST 1048576: true; the input reads as it did. -/
def queueNearerUptoRow : OpenClaim := { program := "ytaaaefoanjggcaa", sum := "dc4d0d69f3398c7f9499116e626112802cc3c6c3f5ca67151f87d96ddfd745a7", func := "selvage/selvagelaw08.QueueNearer", spec := "queueNearer", unfollowed := true, recurses := true, apart := false, narrowed := true }
def QueueNearerUptoSaid : Prop := queueNearerUptoRow.holds Try.pinned (OpenSpec.upto queueNearerSpec)

/-- 'selvagelaw08.QueueMixed', WHERE WHAT IT READS IS OF BULK AT MOST 1048576: true; the input reads as it did. -/
def queueMixedUptoRow : OpenClaim := { program := "ytaaaefoanjggcaa", sum := "dc4d0d69f3398c7f9499116e626112802cc3c6c3f5ca67151f87d96ddfd745a7", func := "selvage/selvagelaw08.QueueMixed", spec := "queueMixed", unfollowed := true, recurses := true, apart := false, narrowed := true }
def QueueMixedUptoSaid : Prop := queueMixedUptoRow.holds Try.pinned (OpenSpec.upto queueMixedSpec)

end Rows
end Go.Proofs.Ytaaaefoanjggcaa
