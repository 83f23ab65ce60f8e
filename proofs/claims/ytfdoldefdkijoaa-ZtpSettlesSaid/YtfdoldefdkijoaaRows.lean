/-
  No cell of these rows narrows 'for every input' (looked for: loops, veiled, ifaces, maps, wideKeys, modest, calm, conditions, laid).
  DERIVED. THE GIVEN ROWS OF THIS SEAT. 6 by the template 'for every input the law returns true; each argument reads behind the call as it read before'; 0 by the template 'total and deterministic' (their statements: YtfdoldefdkijoaaTotals.lean).
  GIVEN WITH THE SEED: the statements are not yours to turn. If you find one false, say at which input.
  Laid BY PROGRAM, IN A SANDBOX (cutbox-rows.mjs): the forced cells as the released guide's own fill.sh prints them over the translation 7a015f0b724a7701… (all of the seat's roots in one cut). By AI agents, Wed Nov 11 2026. No macro, syntax, notation, axiom, sorry.
-/
import Derived.Test.YtfdoldefdkijoaaChecked
import GoSem.Claim
import GoSem.ClaimJoined
import GoSem.ClaimMapViews
import Derived.JoinedTies
import Derived.KernelRfl
namespace Go.Proofs.Ytfdoldefdkijoaa
/- THE CELL 'sum', in the pinned program and in every row, IS THE sha256 OF THE DUMP (.gsa) THAT YtfdoldefdkijoaaProg.lean LOADS. Nothing in Lean hashes anything: it is a label: what it is worth is what the hold of that sum in a sandbox is worth. -/
noncomputable def Try.pinned : Pinned := { name := "ytfdoldefdkijoaa", sum := "7a015f0b724a7701b3d4a65779dd43dc064b9c44c48770da81be175011d75b66", checked := Try.checked }
namespace Rows
def none {H : Type} : Left H := { results := [], args := [] }

/-- 'selvagelaw10.ZtpScripts': WHATEVER THE INPUT: true; the input reads as it did. -/
def ztpScriptsSpec : ChangeSpec := { name := "ztpScripts", fn := fun _ => fun
  | [d1, d2, d3] => { results := [.lit (.bool true)], args := [d1, d2, d3] }
  | _ => none }
def ztpScriptsRow : OpenClaim := { program := "ytfdoldefdkijoaa", sum := "7a015f0b724a7701b3d4a65779dd43dc064b9c44c48770da81be175011d75b66", func := "selvage/selvagelaw10.ZtpScripts", spec := "ztpScripts", apart := false }
def ZtpScriptsSaid : Prop := ztpScriptsRow.holds Try.pinned (OpenSpec.ofChange ztpScriptsSpec)

/-- ITS FALSE NEIGHBOUR: 'it returns false'. Refute it at one input. -/
def ztpScriptsWrong : ChangeSpec := { name := "ztpScripts", fn := fun _ => fun
  | [d1, d2, d3] => { results := [.lit (.bool false)], args := [d1, d2, d3] }
  | _ => none }
def ZtpScriptsWrongFalsely : Prop := ztpScriptsRow.holds Try.pinned (OpenSpec.ofChange ztpScriptsWrong)

/-- 'selvagelaw10.ZtpSettles': WHATEVER THE INPUT: true; the input reads as it did. -/
def ztpSettlesSpec : ChangeSpec := { name := "ztpSettles", fn := fun _ => fun
  | [d1, d2, d3] => { results := [.lit (.bool true)], args := [d1, d2, d3] }
  | _ => none }
def ztpSettlesRow : OpenClaim := { program := "ytfdoldefdkijoaa", sum := "7a015f0b724a7701b3d4a65779dd43dc064b9c44c48770da81be175011d75b66", func := "selvage/selvagelaw10.ZtpSettles", spec := "ztpSettles", apart := false }
def ZtpSettlesSaid : Prop := ztpSettlesRow.holds Try.pinned (OpenSpec.ofChange ztpSettlesSpec)

/-- ITS FALSE NEIGHBOUR: 'it returns false'. Refute it at one input. -/
def ztpSettlesWrong : ChangeSpec := { name := "ztpSettles", fn := fun _ => fun
  | [d1, d2, d3] => { results := [.lit (.bool false)], args := [d1, d2, d3] }
  | _ => none }
def ZtpSettlesWrongFalsely : Prop := ztpSettlesRow.holds Try.pinned (OpenSpec.ofChange ztpSettlesWrong)

/-- 'selvagelaw10.ZtpFixed': WHATEVER THE INPUT: true; the input reads as it did. -/
def ztpFixedSpec : ChangeSpec := { name := "ztpFixed", fn := fun _ => fun
  | [d1, d2, d3] => { results := [.lit (.bool true)], args := [d1, d2, d3] }
  | _ => none }
def ztpFixedRow : OpenClaim := { program := "ytfdoldefdkijoaa", sum := "7a015f0b724a7701b3d4a65779dd43dc064b9c44c48770da81be175011d75b66", func := "selvage/selvagelaw10.ZtpFixed", spec := "ztpFixed", apart := false }
def ZtpFixedSaid : Prop := ztpFixedRow.holds Try.pinned (OpenSpec.ofChange ztpFixedSpec)

/-- ITS FALSE NEIGHBOUR: 'it returns false'. Refute it at one input. -/
def ztpFixedWrong : ChangeSpec := { name := "ztpFixed", fn := fun _ => fun
  | [d1, d2, d3] => { results := [.lit (.bool false)], args := [d1, d2, d3] }
  | _ => none }
def ZtpFixedWrongFalsely : Prop := ztpFixedRow.holds Try.pinned (OpenSpec.ofChange ztpFixedWrong)

/-- 'selvagelaw10.ZtpHolds': WHATEVER THE INPUT: true; the input reads as it did. -/
def ztpHoldsSpec : ChangeSpec := { name := "ztpHolds", fn := fun _ => fun
  | [d1, d2] => { results := [.lit (.bool true)], args := [d1, d2] }
  | _ => none }
def ztpHoldsRow : OpenClaim := { program := "ytfdoldefdkijoaa", sum := "7a015f0b724a7701b3d4a65779dd43dc064b9c44c48770da81be175011d75b66", func := "selvage/selvagelaw10.ZtpHolds", spec := "ztpHolds", apart := false }
def ZtpHoldsSaid : Prop := ztpHoldsRow.holds Try.pinned (OpenSpec.ofChange ztpHoldsSpec)

/-- ITS FALSE NEIGHBOUR: 'it returns false'. Refute it at one input. -/
def ztpHoldsWrong : ChangeSpec := { name := "ztpHolds", fn := fun _ => fun
  | [d1, d2] => { results := [.lit (.bool false)], args := [d1, d2] }
  | _ => none }
def ZtpHoldsWrongFalsely : Prop := ztpHoldsRow.holds Try.pinned (OpenSpec.ofChange ztpHoldsWrong)

/-- 'selvagelaw10.ZtpHigher': WHATEVER THE INPUT: true; the input reads as it did. -/
def ztpHigherSpec : ChangeSpec := { name := "ztpHigher", fn := fun _ => fun
  | [d1, d2, d3] => { results := [.lit (.bool true)], args := [d1, d2, d3] }
  | _ => none }
def ztpHigherRow : OpenClaim := { program := "ytfdoldefdkijoaa", sum := "7a015f0b724a7701b3d4a65779dd43dc064b9c44c48770da81be175011d75b66", func := "selvage/selvagelaw10.ZtpHigher", spec := "ztpHigher", apart := false }
def ZtpHigherSaid : Prop := ztpHigherRow.holds Try.pinned (OpenSpec.ofChange ztpHigherSpec)

/-- ITS FALSE NEIGHBOUR: 'it returns false'. Refute it at one input. -/
def ztpHigherWrong : ChangeSpec := { name := "ztpHigher", fn := fun _ => fun
  | [d1, d2, d3] => { results := [.lit (.bool false)], args := [d1, d2, d3] }
  | _ => none }
def ZtpHigherWrongFalsely : Prop := ztpHigherRow.holds Try.pinned (OpenSpec.ofChange ztpHigherWrong)

/-- 'selvagelaw10.ZtpNone': WHATEVER THE INPUT: true; the input reads as it did. -/
def ztpNoneSpec : ChangeSpec := { name := "ztpNone", fn := fun _ => fun
  | [d] => { results := [.lit (.bool true)], args := [d] }
  | _ => none }
def ztpNoneRow : OpenClaim := { program := "ytfdoldefdkijoaa", sum := "7a015f0b724a7701b3d4a65779dd43dc064b9c44c48770da81be175011d75b66", func := "selvage/selvagelaw10.ZtpNone", spec := "ztpNone", apart := false }
def ZtpNoneSaid : Prop := ztpNoneRow.holds Try.pinned (OpenSpec.ofChange ztpNoneSpec)

/-- ITS FALSE NEIGHBOUR: 'it returns false'. Refute it at one input. -/
def ztpNoneWrong : ChangeSpec := { name := "ztpNone", fn := fun _ => fun
  | [d] => { results := [.lit (.bool false)], args := [d] }
  | _ => none }
def ZtpNoneWrongFalsely : Prop := ztpNoneRow.holds Try.pinned (OpenSpec.ofChange ztpNoneWrong)

/- THE SECOND FORM. 'bulk': how many values and letters a reading holds, each counted each time it is reached (what is shared counts as often as it is met; a slice's spare places count too). A statement '..UptoSaid' is the law's where the arguments, and the package variables that the reading takes, are together of bulk at most 1048576: NARROWER than '..Said'. Prove '..Said' where nothing that the law and all that it calls make is longer than what came in: it says more and counts as full. Else prove '..UptoSaid'. A law counts once. -/
mutual
def uptoBulk {H : Type} : DataW H → Nat
  | .lit (.string bytes) => bytes.length + 1
  | .lit _ => 1
  | .nil => 1
  | .ptr d => uptoBulk d + 1
  | .slice elems spare => uptoBulkAll elems + uptoBulkAll spare + 1
  | .agg parts => uptoBulkAll parts + 1
  | .iface _ d => uptoBulk d + 1
  | .map entries => uptoBulkEntries entries + 1
  | .held _ => 1
def uptoBulkAll {H : Type} : List (DataW H) → Nat
  | [] => 0
  | d :: r => uptoBulk d + uptoBulkAll r
def uptoBulkEntries {H : Type} : List (Lit × DataW H) → Nat
  | [] => 0
  | x :: r => uptoBulkEntry x + uptoBulkEntries r
def uptoBulkEntry {H : Type} : Lit × DataW H → Nat
  | (.string bytes, d) => bytes.length + uptoBulk d + 1
  | (_, d) => uptoBulk d + 1
 end
def uptoSmall : (H : Type) → List (DataW H) → Bool := fun _ ds => decide (uptoBulkAll ds ≤ 1048576)
def OpenSpec.upto (s : _root_.Go.ChangeSpec) : _root_.Go.OpenSpec := { _root_.Go.OpenSpec.ofChange s with cond := some uptoSmall }

/-- 'selvagelaw10.ZtpScripts', WHERE WHAT IT READS IS OF BULK AT MOST 1048576: true; the input reads as it did. -/
def ztpScriptsUptoRow : OpenClaim := { program := "ytfdoldefdkijoaa", sum := "7a015f0b724a7701b3d4a65779dd43dc064b9c44c48770da81be175011d75b66", func := "selvage/selvagelaw10.ZtpScripts", spec := "ztpScripts", apart := false, narrowed := true }
def ZtpScriptsUptoSaid : Prop := ztpScriptsUptoRow.holds Try.pinned (OpenSpec.upto ztpScriptsSpec)

/-- 'selvagelaw10.ZtpSettles', WHERE WHAT IT READS IS OF BULK AT MOST 1048576: true; the input reads as it did. -/
def ztpSettlesUptoRow : OpenClaim := { program := "ytfdoldefdkijoaa", sum := "7a015f0b724a7701b3d4a65779dd43dc064b9c44c48770da81be175011d75b66", func := "selvage/selvagelaw10.ZtpSettles", spec := "ztpSettles", apart := false, narrowed := true }
def ZtpSettlesUptoSaid : Prop := ztpSettlesUptoRow.holds Try.pinned (OpenSpec.upto ztpSettlesSpec)

/-- 'selvagelaw10.ZtpFixed', WHERE WHAT IT READS IS OF BULK AT MOST 1048576: true; the input reads as it did. -/
def ztpFixedUptoRow : OpenClaim := { program := "ytfdoldefdkijoaa", sum := "7a015f0b724a7701b3d4a65779dd43dc064b9c44c48770da81be175011d75b66", func := "selvage/selvagelaw10.ZtpFixed", spec := "ztpFixed", apart := false, narrowed := true }
def ZtpFixedUptoSaid : Prop := ztpFixedUptoRow.holds Try.pinned (OpenSpec.upto ztpFixedSpec)

/-- 'selvagelaw10.ZtpHolds', WHERE WHAT IT READS IS OF BULK AT MOST 1048576: true; the input reads as it did. -/
def ztpHoldsUptoRow : OpenClaim := { program := "ytfdoldefdkijoaa", sum := "7a015f0b724a7701b3d4a65779dd43dc064b9c44c48770da81be175011d75b66", func := "selvage/selvagelaw10.ZtpHolds", spec := "ztpHolds", apart := false, narrowed := true }
def ZtpHoldsUptoSaid : Prop := ztpHoldsUptoRow.holds Try.pinned (OpenSpec.upto ztpHoldsSpec)

/-- 'selvagelaw10.ZtpHigher', WHERE WHAT IT READS IS OF BULK AT MOST 1048576: true; the input reads as it did. -/
def ztpHigherUptoRow : OpenClaim := { program := "ytfdoldefdkijoaa", sum := "7a015f0b724a7701b3d4a65779dd43dc064b9c44c48770da81be175011d75b66", func := "selvage/selvagelaw10.ZtpHigher", spec := "ztpHigher", apart := false, narrowed := true }
def ZtpHigherUptoSaid : Prop := ztpHigherUptoRow.holds Try.pinned (OpenSpec.upto ztpHigherSpec)

/-- 'selvagelaw10.ZtpNone', WHERE WHAT IT READS IS OF BULK AT MOST 1048576: true; the input reads as it did. -/
def ztpNoneUptoRow : OpenClaim := { program := "ytfdoldefdkijoaa", sum := "7a015f0b724a7701b3d4a65779dd43dc064b9c44c48770da81be175011d75b66", func := "selvage/selvagelaw10.ZtpNone", spec := "ztpNone", apart := false, narrowed := true }
def ZtpNoneUptoSaid : Prop := ztpNoneUptoRow.holds Try.pinned (OpenSpec.upto ztpNoneSpec)

end Rows
end Go.Proofs.Ytfdoldefdkijoaa
