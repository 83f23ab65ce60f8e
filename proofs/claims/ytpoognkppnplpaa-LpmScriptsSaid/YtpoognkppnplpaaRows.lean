/-
  No cell of these rows narrows 'for every input' (looked for: loops, veiled, ifaces, maps, wideKeys, modest, calm, conditions, laid).
  DERIVED. THE GIVEN ROWS OF THIS SEAT. 6 by the template 'for every input the law returns true; each argument reads behind the call as it read before'; 0 by the template 'total and deterministic' (their statements: YtpoognkppnplpaaTotals.lean).
  GIVEN WITH THE SEED: the statements are not yours to turn. If you find one false, say at which input.
  Laid BY PROGRAM, IN A SANDBOX (cutbox-rows.mjs): the forced cells as the released guide's own fill.sh prints them over the translation c69111eca3f67946… (all of the seat's roots in one cut). By AI agents, Wed Nov 11 2026. No macro, syntax, notation, axiom, sorry.
-/
import Derived.Test.YtpoognkppnplpaaChecked
import GoSem.Claim
import GoSem.ClaimJoined
import GoSem.ClaimMapViews
import Derived.JoinedTies
import Derived.KernelRfl
namespace Go.Proofs.Ytpoognkppnplpaa
/- THE CELL 'sum', in the pinned program and in every row, IS THE sha256 OF THE DUMP (.gsa) THAT YtpoognkppnplpaaProg.lean LOADS. Nothing in Lean hashes anything: it is a label: what it is worth is what the hold of that sum in a sandbox is worth. -/
noncomputable def Try.pinned : Pinned := { name := "ytpoognkppnplpaa", sum := "c69111eca3f67946cd1f9455987c81d679b0cc589129dfefc7c771a41c1446bd", checked := Try.checked }
namespace Rows
def none {H : Type} : Left H := { results := [], args := [] }

/-- 'selvagelaw07.LpmScripts': WHATEVER THE INPUT: true; the input reads as it did. -/
def lpmScriptsSpec : ChangeSpec := { name := "lpmScripts", fn := fun _ => fun
  | [d1, d2, d3] => { results := [.lit (.bool true)], args := [d1, d2, d3] }
  | _ => none }
def lpmScriptsRow : OpenClaim := { program := "ytpoognkppnplpaa", sum := "c69111eca3f67946cd1f9455987c81d679b0cc589129dfefc7c771a41c1446bd", func := "selvage/selvagelaw07.LpmScripts", spec := "lpmScripts", unfollowed := true, recurses := true, apart := false }
def LpmScriptsSaid : Prop := lpmScriptsRow.holds Try.pinned (OpenSpec.ofChange lpmScriptsSpec)

/-- ITS FALSE NEIGHBOUR: 'it returns false'. Refute it at one input. -/
def lpmScriptsWrong : ChangeSpec := { name := "lpmScripts", fn := fun _ => fun
  | [d1, d2, d3] => { results := [.lit (.bool false)], args := [d1, d2, d3] }
  | _ => none }
def LpmScriptsWrongFalsely : Prop := lpmScriptsRow.holds Try.pinned (OpenSpec.ofChange lpmScriptsWrong)

/-- 'selvagelaw07.LpmFinds': WHATEVER THE INPUT: true; the input reads as it did. -/
def lpmFindsSpec : ChangeSpec := { name := "lpmFinds", fn := fun _ => fun
  | [d1, d2, d3] => { results := [.lit (.bool true)], args := [d1, d2, d3] }
  | _ => none }
def lpmFindsRow : OpenClaim := { program := "ytpoognkppnplpaa", sum := "c69111eca3f67946cd1f9455987c81d679b0cc589129dfefc7c771a41c1446bd", func := "selvage/selvagelaw07.LpmFinds", spec := "lpmFinds", unfollowed := true, recurses := true, apart := false }
def LpmFindsSaid : Prop := lpmFindsRow.holds Try.pinned (OpenSpec.ofChange lpmFindsSpec)

/-- ITS FALSE NEIGHBOUR: 'it returns false'. Refute it at one input. -/
def lpmFindsWrong : ChangeSpec := { name := "lpmFinds", fn := fun _ => fun
  | [d1, d2, d3] => { results := [.lit (.bool false)], args := [d1, d2, d3] }
  | _ => none }
def LpmFindsWrongFalsely : Prop := lpmFindsRow.holds Try.pinned (OpenSpec.ofChange lpmFindsWrong)

/-- 'selvagelaw07.LpmLongest': WHATEVER THE INPUT: true; the input reads as it did. -/
def lpmLongestSpec : ChangeSpec := { name := "lpmLongest", fn := fun _ => fun
  | [d1, d2, d3] => { results := [.lit (.bool true)], args := [d1, d2, d3] }
  | _ => none }
def lpmLongestRow : OpenClaim := { program := "ytpoognkppnplpaa", sum := "c69111eca3f67946cd1f9455987c81d679b0cc589129dfefc7c771a41c1446bd", func := "selvage/selvagelaw07.LpmLongest", spec := "lpmLongest", unfollowed := true, recurses := true, apart := false }
def LpmLongestSaid : Prop := lpmLongestRow.holds Try.pinned (OpenSpec.ofChange lpmLongestSpec)

/-- ITS FALSE NEIGHBOUR: 'it returns false'. Refute it at one input. -/
def lpmLongestWrong : ChangeSpec := { name := "lpmLongest", fn := fun _ => fun
  | [d1, d2, d3] => { results := [.lit (.bool false)], args := [d1, d2, d3] }
  | _ => none }
def LpmLongestWrongFalsely : Prop := lpmLongestRow.holds Try.pinned (OpenSpec.ofChange lpmLongestWrong)

/-- 'selvagelaw07.LpmDrops': WHATEVER THE INPUT: true; the input reads as it did. -/
def lpmDropsSpec : ChangeSpec := { name := "lpmDrops", fn := fun _ => fun
  | [d1, d2, d3] => { results := [.lit (.bool true)], args := [d1, d2, d3] }
  | _ => none }
def lpmDropsRow : OpenClaim := { program := "ytpoognkppnplpaa", sum := "c69111eca3f67946cd1f9455987c81d679b0cc589129dfefc7c771a41c1446bd", func := "selvage/selvagelaw07.LpmDrops", spec := "lpmDrops", unfollowed := true, recurses := true, apart := false }
def LpmDropsSaid : Prop := lpmDropsRow.holds Try.pinned (OpenSpec.ofChange lpmDropsSpec)

/-- ITS FALSE NEIGHBOUR: 'it returns false'. Refute it at one input. -/
def lpmDropsWrong : ChangeSpec := { name := "lpmDrops", fn := fun _ => fun
  | [d1, d2, d3] => { results := [.lit (.bool false)], args := [d1, d2, d3] }
  | _ => none }
def LpmDropsWrongFalsely : Prop := lpmDropsRow.holds Try.pinned (OpenSpec.ofChange lpmDropsWrong)

/-- 'selvagelaw07.LpmRises': WHATEVER THE INPUT: true; the input reads as it did. -/
def lpmRisesSpec : ChangeSpec := { name := "lpmRises", fn := fun _ => fun
  | [d1, d2, d3] => { results := [.lit (.bool true)], args := [d1, d2, d3] }
  | _ => none }
def lpmRisesRow : OpenClaim := { program := "ytpoognkppnplpaa", sum := "c69111eca3f67946cd1f9455987c81d679b0cc589129dfefc7c771a41c1446bd", func := "selvage/selvagelaw07.LpmRises", spec := "lpmRises", unfollowed := true, recurses := true, apart := false }
def LpmRisesSaid : Prop := lpmRisesRow.holds Try.pinned (OpenSpec.ofChange lpmRisesSpec)

/-- ITS FALSE NEIGHBOUR: 'it returns false'. Refute it at one input. -/
def lpmRisesWrong : ChangeSpec := { name := "lpmRises", fn := fun _ => fun
  | [d1, d2, d3] => { results := [.lit (.bool false)], args := [d1, d2, d3] }
  | _ => none }
def LpmRisesWrongFalsely : Prop := lpmRisesRow.holds Try.pinned (OpenSpec.ofChange lpmRisesWrong)

/-- 'selvagelaw07.LpmAll': WHATEVER THE INPUT: true; the input reads as it did. -/
def lpmAllSpec : ChangeSpec := { name := "lpmAll", fn := fun _ => fun
  | [d1, d2] => { results := [.lit (.bool true)], args := [d1, d2] }
  | _ => none }
def lpmAllRow : OpenClaim := { program := "ytpoognkppnplpaa", sum := "c69111eca3f67946cd1f9455987c81d679b0cc589129dfefc7c771a41c1446bd", func := "selvage/selvagelaw07.LpmAll", spec := "lpmAll", unfollowed := true, recurses := true, apart := false }
def LpmAllSaid : Prop := lpmAllRow.holds Try.pinned (OpenSpec.ofChange lpmAllSpec)

/-- ITS FALSE NEIGHBOUR: 'it returns false'. Refute it at one input. -/
def lpmAllWrong : ChangeSpec := { name := "lpmAll", fn := fun _ => fun
  | [d1, d2] => { results := [.lit (.bool false)], args := [d1, d2] }
  | _ => none }
def LpmAllWrongFalsely : Prop := lpmAllRow.holds Try.pinned (OpenSpec.ofChange lpmAllWrong)

/- THE SECOND FORM. 'bulk': how many values and letters a reading holds, each counted each time it is reached (what is shared counts as often as it is met; a slice's spare places count too). A statement '..UptoSaid' is the law's where the arguments, and the package variables that the reading takes, are together of bulk at most 1048576: NARROWER than '..Said'. Prove '..Said' where nothing that the law and all that it calls make is longer than what came in: it says more and counts as full. Else prove '..UptoSaid'. A law counts once. -/
mutual
def uptoBulk {H : Type} : DataW H → Nat
  | .lit (.string bytes) => bytes.length + 1
  | .lit _ => 1
  | .nil => 1
  | .ptr d => uptoBulk d + 1
  | .slice elems spare => uptoBulkAll elems + uptoBulkAll spare + 1
  | .agg parts => uptoBulkAll parts + 1
  | .iface _ d => uptoBulk d + 1
  | .map entries => uptoBulkEntries entries + 1
  | .held _ => 1
def uptoBulkAll {H : Type} : List (DataW H) → Nat
  | [] => 0
  | d :: r => uptoBulk d + uptoBulkAll r
def uptoBulkEntries {H : Type} : List (Lit × DataW H) → Nat
  | [] => 0
  | x :: r => uptoBulkEntry x + uptoBulkEntries r
def uptoBulkEntry {H : Type} : Lit × DataW H → Nat
  | (.string bytes, d) => bytes.length + uptoBulk d + 1
  | (_, d) => uptoBulk d + 1
 end
def uptoSmall : (H : Type) → List (DataW H) → Bool := fun _ ds => decide (uptoBulkAll ds ≤ 1048576)
def OpenSpec.upto (s : _root_.Go.ChangeSpec) : _root_.Go.OpenSpec := { _root_.Go.OpenSpec.ofChange s with cond := some uptoSmall }

/-- 'selvagelaw07.LpmScripts', WHERE WHAT IT READS IS OF BULK AT MOST 1048576: true; the input reads as it did. -/
def lpmScriptsUptoRow : OpenClaim := { program := "ytpoognkppnplpaa", sum := "c69111eca3f67946cd1f9455987c81d679b0cc589129dfefc7c771a41c1446bd", func := "selvage/selvagelaw07.LpmScripts", spec := "lpmScripts", unfollowed := true, recurses := true, apart := false, narrowed := true }
def LpmScriptsUptoSaid : Prop := lpmScriptsUptoRow.holds Try.pinned (OpenSpec.upto lpmScriptsSpec)

/-- 'selvagelaw07.LpmFinds', WHERE WHAT IT READS IS OF BULK AT MOST 1048576: true; the input reads as it did. -/
def lpmFindsUptoRow : OpenClaim := { program := "ytpoognkppnplpaa", sum := "c69111eca3f67946cd1f9455987c81d679b0cc589129dfefc7c771a41c1446bd", func := "selvage/selvagelaw07.LpmFinds", spec := "lpmFinds", unfollowed := true, recurses := true, apart := false, narrowed := true }
def LpmFindsUptoSaid : Prop := lpmFindsUptoRow.holds Try.pinned (OpenSpec.upto lpmFindsSpec)

/-- 'selvagelaw07.LpmLongest', WHERE WHAT IT READS IS OF BULK AT MOST 1048576: true; the input reads as it did. -/
def lpmLongestUptoRow : OpenClaim := { program := "ytpoognkppnplpaa", sum := "c69111eca3f67946cd1f9455987c81d679b0cc589129dfefc7c771a41c1446bd", func := "selvage/selvagelaw07.LpmLongest", spec := "lpmLongest", unfollowed := true, recurses := true, apart := false, narrowed := true }
def LpmLongestUptoSaid : Prop := lpmLongestUptoRow.holds Try.pinned (OpenSpec.upto lpmLongestSpec)

/-- 'selvagelaw07.LpmDrops', WHERE WHAT IT READS IS OF BULK AT MOST 1048576: true; the input reads as it did. -/
def lpmDropsUptoRow : OpenClaim := { program := "ytpoognkppnplpaa", sum := "c69111eca3f67946cd1f9455987c81d679b0cc589129dfefc7c771a41c1446bd", func := "selvage/selvagelaw07.LpmDrops", spec := "lpmDrops", unfollowed := true, recurses := true, apart := false, narrowed := true }
def LpmDropsUptoSaid : Prop := lpmDropsUptoRow.holds Try.pinned (OpenSpec.upto lpmDropsSpec)

/-- 'selvagelaw07.LpmRises', WHERE WHAT IT READS IS OF BULK AT MOST 1048576: true; the input reads as it did. -/
def lpmRisesUptoRow : OpenClaim := { program := "ytpoognkppnplpaa", sum := "c69111eca3f67946cd1f9455987c81d679b0cc589129dfefc7c771a41c1446bd", func := "selvage/selvagelaw07.LpmRises", spec := "lpmRises", unfollowed := true, recurses := true, apart := false, narrowed := true }
def LpmRisesUptoSaid : Prop := lpmRisesUptoRow.holds Try.pinned (OpenSpec.upto lpmRisesSpec)

/-- 'selvagelaw07.LpmAll', WHERE WHAT IT READS IS OF BULK AT MOST 1048576: true; the input reads as it did. -/
def lpmAllUptoRow : OpenClaim := { program := "ytpoognkppnplpaa", sum := "c69111eca3f67946cd1f9455987c81d679b0cc589129dfefc7c771a41c1446bd", func := "selvage/selvagelaw07.LpmAll", spec := "lpmAll", unfollowed := true, recurses := true, apart := false, narrowed := true }
def LpmAllUptoSaid : Prop := lpmAllUptoRow.holds Try.pinned (OpenSpec.upto lpmAllSpec)

end Rows
end Go.Proofs.Ytpoognkppnplpaa
