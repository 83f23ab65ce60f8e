/-
  No cell of these rows narrows 'for every input' (looked for: loops, veiled, ifaces, maps, wideKeys, modest, calm, conditions, laid).
  DERIVED. THE GIVEN ROWS OF THIS SEAT. 6 by the template 'for every input the law returns true; each argument reads behind the call as it read before'; 0 by the template 'total and deterministic' (their statements: YticbfmbinopjcaaTotals.lean).
  GIVEN WITH THE SEED: the statements are not yours to turn. If you find one false, say at which input.
  Laid BY PROGRAM, IN A SANDBOX (cutbox-rows.mjs): the forced cells as the released guide's own fill.sh prints them over the translation 89cb3f7334b9d10a… (all of the seat's roots in one cut). By AI agents, Wed Nov 11 2026. No macro, syntax, notation, axiom, sorry.
-/
import Derived.Test.YticbfmbinopjcaaChecked
import GoSem.Claim
import GoSem.ClaimJoined
import GoSem.ClaimMapViews
import Derived.JoinedTies
import Derived.KernelRfl
namespace Go.Proofs.Yticbfmbinopjcaa
/- THE CELL 'sum', in the pinned program and in every row, IS THE sha256 OF THE DUMP (.gsa) THAT YticbfmbinopjcaaProg.lean LOADS. Nothing in Lean hashes anything: it is a label: what it is worth is what the hold of that sum in a sandbox is worth. -/
noncomputable def Try.pinned : Pinned := { name := "yticbfmbinopjcaa", sum := "89cb3f7334b9d10a16e759a6d3dceb8020ebcf6c380abd3c2be86a5d487ecad6", checked := Try.checked }
namespace Rows
def none {H : Type} : Left H := { results := [], args := [] }

/-- 'selvagelaw09.LieAccepts': WHATEVER THE INPUT: true; the input reads as it did. -/
def lieAcceptsSpec : ChangeSpec := { name := "lieAccepts", fn := fun _ => fun
  | [d1, d2] => { results := [.lit (.bool true)], args := [d1, d2] }
  | _ => none }
def lieAcceptsRow : OpenClaim := { program := "yticbfmbinopjcaa", sum := "89cb3f7334b9d10a16e759a6d3dceb8020ebcf6c380abd3c2be86a5d487ecad6", func := "selvage/selvagelaw09.LieAccepts", spec := "lieAccepts", unfollowed := true, recurses := true, apart := false }
def LieAcceptsSaid : Prop := lieAcceptsRow.holds Try.pinned (OpenSpec.ofChange lieAcceptsSpec)

/-- ITS FALSE NEIGHBOUR: 'it returns false'. Refute it at one input. -/
def lieAcceptsWrong : ChangeSpec := { name := "lieAccepts", fn := fun _ => fun
  | [d1, d2] => { results := [.lit (.bool false)], args := [d1, d2] }
  | _ => none }
def LieAcceptsWrongFalsely : Prop := lieAcceptsRow.holds Try.pinned (OpenSpec.ofChange lieAcceptsWrong)

/-- 'selvagelaw09.LieScripts': WHATEVER THE INPUT: true; the input reads as it did. -/
def lieScriptsSpec : ChangeSpec := { name := "lieScripts", fn := fun _ => fun
  | [d1, d2] => { results := [.lit (.bool true)], args := [d1, d2] }
  | _ => none }
def lieScriptsRow : OpenClaim := { program := "yticbfmbinopjcaa", sum := "89cb3f7334b9d10a16e759a6d3dceb8020ebcf6c380abd3c2be86a5d487ecad6", func := "selvage/selvagelaw09.LieScripts", spec := "lieScripts", unfollowed := true, recurses := true, apart := false }
def LieScriptsSaid : Prop := lieScriptsRow.holds Try.pinned (OpenSpec.ofChange lieScriptsSpec)

/-- ITS FALSE NEIGHBOUR: 'it returns false'. Refute it at one input. -/
def lieScriptsWrong : ChangeSpec := { name := "lieScripts", fn := fun _ => fun
  | [d1, d2] => { results := [.lit (.bool false)], args := [d1, d2] }
  | _ => none }
def LieScriptsWrongFalsely : Prop := lieScriptsRow.holds Try.pinned (OpenSpec.ofChange lieScriptsWrong)

/-- 'selvagelaw09.LieThree': WHATEVER THE INPUT: true; the input reads as it did. -/
def lieThreeSpec : ChangeSpec := { name := "lieThree", fn := fun _ => fun
  | [d1, d2] => { results := [.lit (.bool true)], args := [d1, d2] }
  | _ => none }
def lieThreeRow : OpenClaim := { program := "yticbfmbinopjcaa", sum := "89cb3f7334b9d10a16e759a6d3dceb8020ebcf6c380abd3c2be86a5d487ecad6", func := "selvage/selvagelaw09.LieThree", spec := "lieThree", unfollowed := true, recurses := true, apart := false }
def LieThreeSaid : Prop := lieThreeRow.holds Try.pinned (OpenSpec.ofChange lieThreeSpec)

/-- ITS FALSE NEIGHBOUR: 'it returns false'. Refute it at one input. -/
def lieThreeWrong : ChangeSpec := { name := "lieThree", fn := fun _ => fun
  | [d1, d2] => { results := [.lit (.bool false)], args := [d1, d2] }
  | _ => none }
def LieThreeWrongFalsely : Prop := lieThreeRow.holds Try.pinned (OpenSpec.ofChange lieThreeWrong)

/-- 'selvagelaw09.LieMeets': WHATEVER THE INPUT: true; the input reads as it did. -/
def lieMeetsSpec : ChangeSpec := { name := "lieMeets", fn := fun _ => fun
  | [d1, d2, d3] => { results := [.lit (.bool true)], args := [d1, d2, d3] }
  | _ => none }
def lieMeetsRow : OpenClaim := { program := "yticbfmbinopjcaa", sum := "89cb3f7334b9d10a16e759a6d3dceb8020ebcf6c380abd3c2be86a5d487ecad6", func := "selvage/selvagelaw09.LieMeets", spec := "lieMeets", unfollowed := true, recurses := true, apart := false }
def LieMeetsSaid : Prop := lieMeetsRow.holds Try.pinned (OpenSpec.ofChange lieMeetsSpec)

/-- ITS FALSE NEIGHBOUR: 'it returns false'. Refute it at one input. -/
def lieMeetsWrong : ChangeSpec := { name := "lieMeets", fn := fun _ => fun
  | [d1, d2, d3] => { results := [.lit (.bool false)], args := [d1, d2, d3] }
  | _ => none }
def LieMeetsWrongFalsely : Prop := lieMeetsRow.holds Try.pinned (OpenSpec.ofChange lieMeetsWrong)

/-- 'selvagelaw09.LieBoth': WHATEVER THE INPUT: true; the input reads as it did. -/
def lieBothSpec : ChangeSpec := { name := "lieBoth", fn := fun _ => fun
  | [d1, d2] => { results := [.lit (.bool true)], args := [d1, d2] }
  | _ => none }
def lieBothRow : OpenClaim := { program := "yticbfmbinopjcaa", sum := "89cb3f7334b9d10a16e759a6d3dceb8020ebcf6c380abd3c2be86a5d487ecad6", func := "selvage/selvagelaw09.LieBoth", spec := "lieBoth", unfollowed := true, recurses := true, apart := false }
def LieBothSaid : Prop := lieBothRow.holds Try.pinned (OpenSpec.ofChange lieBothSpec)

/-- ITS FALSE NEIGHBOUR: 'it returns false'. Refute it at one input. -/
def lieBothWrong : ChangeSpec := { name := "lieBoth", fn := fun _ => fun
  | [d1, d2] => { results := [.lit (.bool false)], args := [d1, d2] }
  | _ => none }
def LieBothWrongFalsely : Prop := lieBothRow.holds Try.pinned (OpenSpec.ofChange lieBothWrong)

/-- 'selvagelaw09.LieSays': WHATEVER THE INPUT: true; the input reads as it did. -/
def lieSaysSpec : ChangeSpec := { name := "lieSays", fn := fun _ => fun
  | [d1, d2] => { results := [.lit (.bool true)], args := [d1, d2] }
  | _ => none }
def lieSaysRow : OpenClaim := { program := "yticbfmbinopjcaa", sum := "89cb3f7334b9d10a16e759a6d3dceb8020ebcf6c380abd3c2be86a5d487ecad6", func := "selvage/selvagelaw09.LieSays", spec := "lieSays", unfollowed := true, recurses := true, apart := false }
def LieSaysSaid : Prop := lieSaysRow.holds Try.pinned (OpenSpec.ofChange lieSaysSpec)

/-- ITS FALSE NEIGHBOUR: 'it returns false'. Refute it at one input. -/
def lieSaysWrong : ChangeSpec := { name := "lieSays", fn := fun _ => fun
  | [d1, d2] => { results := [.lit (.bool false)], args := [d1, d2] }
  | _ => none }
def LieSaysWrongFalsely : Prop := lieSaysRow.holds Try.pinned (OpenSpec.ofChange lieSaysWrong)

/- THE SECOND FORM. 'bulk': how many values and letters a reading holds, each counted each time it is reached (what is shared counts as often as it is met; a slice's spare places count too). A statement '..UptoSaid' is the law's where the arguments, and the package variables that the reading takes, are together of bulk at most 1048576: NARROWER than '..Said'. Prove '..Said' where nothing that the law and all that it calls make is longer than what came in: it says more and counts as full. Else prove '..UptoSaid'. A law counts once. -/
mutual
def uptoBulk {H : Type} : DataW H → Nat
  | .lit (.string bytes) => bytes.length + 1
  | .lit _ => 1
  | .nil => 1
  | .ptr d => uptoBulk d + 1
  | .slice elems spare => uptoBulkAll elems + uptoBulkAll spare + 1
  | .agg parts => uptoBulkAll parts + 1
  | .iface _ d => uptoBulk d + 1
  | .map entries => uptoBulkEntries entries + 1
  | .held _ => 1
def uptoBulkAll {H : Type} : List (DataW H) → Nat
  | [] => 0
  | d :: r => uptoBulk d + uptoBulkAll r
def uptoBulkEntries {H : Type} : List (Lit × DataW H) → Nat
  | [] => 0
  | x :: r => uptoBulkEntry x + uptoBulkEntries r
def uptoBulkEntry {H : Type} : Lit × DataW H → Nat
  | (.string bytes, d) => bytes.length + uptoBulk d + 1
  | (_, d) => uptoBulk d + 1
 end
def uptoSmall : (H : Type) → List (DataW H) → Bool := fun _ ds => decide (uptoBulkAll ds ≤ 1048576)
def OpenSpec.upto (s : _root_.Go.ChangeSpec) : _root_.Go.OpenSpec := { _root_.Go.OpenSpec.ofChange s with cond := some uptoSmall }

/-- 'selvagelaw09.LieAccepts', WHERE WHAT IT READS IS OF BULK AT MOST 1048576: true; the input reads as it did. -/
def lieAcceptsUptoRow : OpenClaim := { program := "yticbfmbinopjcaa", sum := "89cb3f7334b9d10a16e759a6d3dceb8020ebcf6c380abd3c2be86a5d487ecad6", func := "selvage/selvagelaw09.LieAccepts", spec := "lieAccepts", unfollowed := true, recurses := true, apart := false, narrowed := true }
def LieAcceptsUptoSaid : Prop := lieAcceptsUptoRow.holds Try.pinned (OpenSpec.upto lieAcceptsSpec)

/-- 'selvagelaw09.LieScripts', WHERE WHAT IT READS IS OF BULK AT MOST 1048576: true; the input reads as it did. -/
def lieScriptsUptoRow : OpenClaim := { program := "yticbfmbinopjcaa", sum := "89cb3f7334b9d10a16e759a6d3dceb8020ebcf6c380abd3c2be86a5d487ecad6", func := "selvage/selvagelaw09.LieScripts", spec := "lieScripts", unfollowed := true, recurses := true, apart := false, narrowed := true }
def LieScriptsUptoSaid : Prop := lieScriptsUptoRow.holds Try.pinned (OpenSpec.upto lieScriptsSpec)

/-- 'selvagelaw09.LieThree', WHERE WHAT IT READS IS OF BULK AT MOST 1048576: true; the input reads as it did. -/
def lieThreeUptoRow : OpenClaim := { program := "yticbfmbinopjcaa", sum := "89cb3f7334b9d10a16e759a6d3dceb8020ebcf6c380abd3c2be86a5d487ecad6", func := "selvage/selvagelaw09.LieThree", spec := "lieThree", unfollowed := true, recurses := true, apart := false, narrowed := true }
def LieThreeUptoSaid : Prop := lieThreeUptoRow.holds Try.pinned (OpenSpec.upto lieThreeSpec)

/-- 'selvagelaw09.LieMeets', WHERE WHAT IT READS IS OF BULK AT MOST 1048576: true; the input reads as it did. -/
def lieMeetsUptoRow : OpenClaim := { program := "yticbfmbinopjcaa", sum := "89cb3f7334b9d10a16e759a6d3dceb8020ebcf6c380abd3c2be86a5d487ecad6", func := "selvage/selvagelaw09.LieMeets", spec := "lieMeets", unfollowed := true, recurses := true, apart := false, narrowed := true }
def LieMeetsUptoSaid : Prop := lieMeetsUptoRow.holds Try.pinned (OpenSpec.upto lieMeetsSpec)

/-- 'selvagelaw09.LieBoth', WHERE WHAT IT READS IS OF BULK AT MOST 1048576: true; the input reads as it did. -/
def lieBothUptoRow : OpenClaim := { program := "yticbfmbinopjcaa", sum := "89cb3f7334b9d10a16e759a6d3dceb8020ebcf6c380abd3c2be86a5d487ecad6", func := "selvage/selvagelaw09.LieBoth", spec := "lieBoth", unfollowed := true, recurses := true, apart := false, narrowed := true }
def LieBothUptoSaid : Prop := lieBothUptoRow.holds Try.pinned (OpenSpec.upto lieBothSpec)

/-- 'selvagelaw09.LieSays', WHERE WHAT IT READS IS OF BULK AT MOST 1048576: true; the input reads as it did. -/
def lieSaysUptoRow : OpenClaim := { program := "yticbfmbinopjcaa", sum := "89cb3f7334b9d10a16e759a6d3dceb8020ebcf6c380abd3c2be86a5d487ecad6", func := "selvage/selvagelaw09.LieSays", spec := "lieSays", unfollowed := true, recurses := true, apart := false, narrowed := true }
def LieSaysUptoSaid : Prop := lieSaysUptoRow.holds Try.pinned (OpenSpec.upto lieSaysSpec)

end Rows
end Go.Proofs.Yticbfmbinopjcaa
