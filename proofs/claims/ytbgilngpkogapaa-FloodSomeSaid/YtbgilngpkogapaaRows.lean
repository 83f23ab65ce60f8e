/-
  No cell of these rows narrows 'for every input' (looked for: loops, veiled, ifaces, maps, wideKeys, modest, calm, conditions, laid).
  DERIVED. THE GIVEN ROWS OF THIS SEAT. 4 by the template 'for every input the law returns true; each argument reads behind the call as it read before'; 0 by the template 'total and deterministic' (their statements: YtbgilngpkogapaaTotals.lean).
  GIVEN WITH THE SEED: the statements are not yours to turn. If you find one false, say at which input.
  Laid BY PROGRAM, IN A SANDBOX (cutbox-rows.mjs): the forced cells as the released guide's own fill.sh prints them over the translation 457374328eca7d9d… (all of the seat's roots in one cut). By AI agents, Wed Nov 11 2026. No macro, syntax, notation, axiom, sorry.
-/
import Derived.Test.YtbgilngpkogapaaChecked
import GoSem.Claim
import GoSem.ClaimJoined
import GoSem.ClaimMapViews
import Derived.JoinedTies
import Derived.KernelRfl
namespace Go.Proofs.Ytbgilngpkogapaa
/- THE CELL 'sum', in the pinned program and in every row, IS THE sha256 OF THE DUMP (.gsa) THAT YtbgilngpkogapaaProg.lean LOADS. Nothing in Lean hashes anything: it is a label: what it is worth is what the hold of that sum in a sandbox is worth. -/
noncomputable def Try.pinned : Pinned := { name := "ytbgilngpkogapaa", sum := "457374328eca7d9d054ef2f8114eeea6c474a0ae54de3180ba99669f72a56579", checked := Try.checked }
namespace Rows
def none {H : Type} : Left H := { results := [], args := [] }

/-- 'selvagelaw14.FloodGoes': WHATEVER THE INPUT: true; the input reads as it did. -/
def floodGoesSpec : ChangeSpec := { name := "floodGoes", fn := fun _ => fun
  | [d1, d2] => { results := [.lit (.bool true)], args := [d1, d2] }
  | _ => none }
def floodGoesRow : OpenClaim := { program := "ytbgilngpkogapaa", sum := "457374328eca7d9d054ef2f8114eeea6c474a0ae54de3180ba99669f72a56579", func := "selvage/selvagelaw14.FloodGoes", spec := "floodGoes", unfollowed := true, recurses := true, apart := false }
def FloodGoesSaid : Prop := floodGoesRow.holds Try.pinned (OpenSpec.ofChange floodGoesSpec)

/-- ITS FALSE NEIGHBOUR: 'it returns false'. Refute it at one input. -/
def floodGoesWrong : ChangeSpec := { name := "floodGoes", fn := fun _ => fun
  | [d1, d2] => { results := [.lit (.bool false)], args := [d1, d2] }
  | _ => none }
def FloodGoesWrongFalsely : Prop := floodGoesRow.holds Try.pinned (OpenSpec.ofChange floodGoesWrong)

/-- 'selvagelaw14.FloodScopes': WHATEVER THE INPUT: true; the input reads as it did. -/
def floodScopesSpec : ChangeSpec := { name := "floodScopes", fn := fun _ => fun
  | [d1, d2] => { results := [.lit (.bool true)], args := [d1, d2] }
  | _ => none }
def floodScopesRow : OpenClaim := { program := "ytbgilngpkogapaa", sum := "457374328eca7d9d054ef2f8114eeea6c474a0ae54de3180ba99669f72a56579", func := "selvage/selvagelaw14.FloodScopes", spec := "floodScopes", unfollowed := true, recurses := true, apart := false }
def FloodScopesSaid : Prop := floodScopesRow.holds Try.pinned (OpenSpec.ofChange floodScopesSpec)

/-- ITS FALSE NEIGHBOUR: 'it returns false'. Refute it at one input. -/
def floodScopesWrong : ChangeSpec := { name := "floodScopes", fn := fun _ => fun
  | [d1, d2] => { results := [.lit (.bool false)], args := [d1, d2] }
  | _ => none }
def FloodScopesWrongFalsely : Prop := floodScopesRow.holds Try.pinned (OpenSpec.ofChange floodScopesWrong)

/-- 'selvagelaw14.FloodClimbs': WHATEVER THE INPUT: true; the input reads as it did. -/
def floodClimbsSpec : ChangeSpec := { name := "floodClimbs", fn := fun _ => fun
  | [d1, d2] => { results := [.lit (.bool true)], args := [d1, d2] }
  | _ => none }
def floodClimbsRow : OpenClaim := { program := "ytbgilngpkogapaa", sum := "457374328eca7d9d054ef2f8114eeea6c474a0ae54de3180ba99669f72a56579", func := "selvage/selvagelaw14.FloodClimbs", spec := "floodClimbs", unfollowed := true, recurses := true, apart := false }
def FloodClimbsSaid : Prop := floodClimbsRow.holds Try.pinned (OpenSpec.ofChange floodClimbsSpec)

/-- ITS FALSE NEIGHBOUR: 'it returns false'. Refute it at one input. -/
def floodClimbsWrong : ChangeSpec := { name := "floodClimbs", fn := fun _ => fun
  | [d1, d2] => { results := [.lit (.bool false)], args := [d1, d2] }
  | _ => none }
def FloodClimbsWrongFalsely : Prop := floodClimbsRow.holds Try.pinned (OpenSpec.ofChange floodClimbsWrong)

/-- 'selvagelaw14.FloodSome': WHATEVER THE INPUT: true; the input reads as it did. -/
def floodSomeSpec : ChangeSpec := { name := "floodSome", fn := fun _ => fun
  | [d1, d2, d3] => { results := [.lit (.bool true)], args := [d1, d2, d3] }
  | _ => none }
def floodSomeRow : OpenClaim := { program := "ytbgilngpkogapaa", sum := "457374328eca7d9d054ef2f8114eeea6c474a0ae54de3180ba99669f72a56579", func := "selvage/selvagelaw14.FloodSome", spec := "floodSome", unfollowed := true, recurses := true, apart := false }
def FloodSomeSaid : Prop := floodSomeRow.holds Try.pinned (OpenSpec.ofChange floodSomeSpec)

/-- ITS FALSE NEIGHBOUR: 'it returns false'. Refute it at one input. -/
def floodSomeWrong : ChangeSpec := { name := "floodSome", fn := fun _ => fun
  | [d1, d2, d3] => { results := [.lit (.bool false)], args := [d1, d2, d3] }
  | _ => none }
def FloodSomeWrongFalsely : Prop := floodSomeRow.holds Try.pinned (OpenSpec.ofChange floodSomeWrong)

/- THE SECOND FORM. 'bulk': how many values and letters a reading holds, each counted each time it is reached (what is shared counts as often as it is met; a slice's spare places count too). A statement '..UptoSaid' is the law's where the arguments, and the package variables that the reading takes, are together of bulk at most 1048576: NARROWER than '..Said'. Prove '..Said' where nothing that the law and all that it calls make is longer than what came in: it says more and counts as full. Else prove '..UptoSaid'. A law counts once. -/
mutual
def uptoBulk {H : Type} : DataW H → Nat
  | .lit (.string bytes) => bytes.length + 1
  | .lit _ => 1
  | .nil => 1
  | .ptr d => uptoBulk d + 1
  | .slice elems spare => uptoBulkAll elems + uptoBulkAll spare + 1
  | .agg parts => uptoBulkAll parts + 1
  | .iface _ d => uptoBulk d + 1
  | .map entries => uptoBulkEntries entries + 1
  | .held _ => 1
def uptoBulkAll {H : Type} : List (DataW H) → Nat
  | [] => 0
  | d :: r => uptoBulk d + uptoBulkAll r
def uptoBulkEntries {H : Type} : List (Lit × DataW H) → Nat
  | [] => 0
  | x :: r => uptoBulkEntry x + uptoBulkEntries r
def uptoBulkEntry {H : Type} : Lit × DataW H → Nat
  | (.string bytes, d) => bytes.length + uptoBulk d + 1
  | (_, d) => uptoBulk d + 1
 end
def uptoSmall : (H : Type) → List (DataW H) → Bool := fun _ ds => decide (uptoBulkAll ds ≤ 1048576)
def OpenSpec.upto (s : _root_.Go.ChangeSpec) : _root_.Go.OpenSpec := { _root_.Go.OpenSpec.ofChange s with cond := some uptoSmall }

/-- 'selvagelaw14.FloodGoes', WHERE WHAT IT READS IS OF BULK AT MOST 1048576: true; the input reads as it did. -/
def floodGoesUptoRow : OpenClaim := { program := "ytbgilngpkogapaa", sum := "457374328eca7d9d054ef2f8114eeea6c474a0ae54de3180ba99669f72a56579", func := "selvage/selvagelaw14.FloodGoes", spec := "floodGoes", unfollowed := true, recurses := true, apart := false, narrowed := true }
def FloodGoesUptoSaid : Prop := floodGoesUptoRow.holds Try.pinned (OpenSpec.upto floodGoesSpec)

/-- 'selvagelaw14.FloodScopes', WHERE WHAT IT READS IS OF BULK AT MOST 1048576: true; the input reads as it did. -/
def floodScopesUptoRow : OpenClaim := { program := "ytbgilngpkogapaa", sum := "457374328eca7d9d054ef2f8114eeea6c474a0ae54de3180ba99669f72a56579", func := "selvage/selvagelaw14.FloodScopes", spec := "floodScopes", unfollowed := true, recurses := true, apart := false, narrowed := true }
def FloodScopesUptoSaid : Prop := floodScopesUptoRow.holds Try.pinned (OpenSpec.upto floodScopesSpec)

/-- 'selvagelaw14.FloodClimbs', WHERE WHAT IT READS IS OF BULK AT MOST 1048576: true; the input reads as it did. -/
def floodClimbsUptoRow : OpenClaim := { program := "ytbgilngpkogapaa", sum := "457374328eca7d9d054ef2f8114eeea6c474a0ae54de3180ba99669f72a56579", func := "selvage/selvagelaw14.FloodClimbs", spec := "floodClimbs", unfollowed := true, recurses := true, apart := false, narrowed := true }
def FloodClimbsUptoSaid : Prop := floodClimbsUptoRow.holds Try.pinned (OpenSpec.upto floodClimbsSpec)

/-- 'selvagelaw14.FloodSome', WHERE WHAT IT READS IS OF BULK AT MOST 1048576: true; the input reads as it did. -/
def floodSomeUptoRow : OpenClaim := { program := "ytbgilngpkogapaa", sum := "457374328eca7d9d054ef2f8114eeea6c474a0ae54de3180ba99669f72a56579", func := "selvage/selvagelaw14.FloodSome", spec := "floodSome", unfollowed := true, recurses := true, apart := false, narrowed := true }
def FloodSomeUptoSaid : Prop := floodSomeUptoRow.holds Try.pinned (OpenSpec.upto floodSomeSpec)

end Rows
end Go.Proofs.Ytbgilngpkogapaa
