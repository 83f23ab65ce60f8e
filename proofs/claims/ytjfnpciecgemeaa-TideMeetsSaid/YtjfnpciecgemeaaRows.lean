/-
  No cell of these rows narrows 'for every input' (looked for: loops, veiled, ifaces, maps, wideKeys, modest, calm, conditions, laid).
  DERIVED. THE GIVEN ROWS OF THIS SEAT. 4 by the template 'for every input the law returns true; each argument reads behind the call as it read before'; 0 by the template 'total and deterministic' (their statements: YtjfnpciecgemeaaTotals.lean).
  GIVEN WITH THE SEED: the statements are not yours to turn. If you find one false, say at which input.
  Laid BY PROGRAM, IN A SANDBOX (cutbox-rows.mjs): the forced cells as the released guide's own fill.sh prints them over the translation 5a103928fdf725e4… (all of the seat's roots in one cut). By AI agents, Wed Nov 11 2026. No macro, syntax, notation, axiom, sorry.
-/
import Derived.Test.YtjfnpciecgemeaaChecked
import GoSem.Claim
import GoSem.ClaimJoined
import GoSem.ClaimMapViews
import Derived.JoinedTies
import Derived.KernelRfl
namespace Go.Proofs.Ytjfnpciecgemeaa
/- THE CELL 'sum', in the pinned program and in every row, IS THE sha256 OF THE DUMP (.gsa) THAT YtjfnpciecgemeaaProg.lean LOADS. Nothing in Lean hashes anything: it is a label: what it is worth is what the hold of that sum in a sandbox is worth. -/
noncomputable def Try.pinned : Pinned := { name := "ytjfnpciecgemeaa", sum := "5a103928fdf725e4ab78e6cef4b53c6e9d3b58b92cf6f65a741b67eb42825541", checked := Try.checked }
namespace Rows
def none {H : Type} : Left H := { results := [], args := [] }

/-- 'selvagelaw13.TideSpans': WHATEVER THE INPUT: true; the input reads as it did. -/
def tideSpansSpec : ChangeSpec := { name := "tideSpans", fn := fun _ => fun
  | [d1, d2, d3] => { results := [.lit (.bool true)], args := [d1, d2, d3] }
  | _ => none }
def tideSpansRow : OpenClaim := { program := "ytjfnpciecgemeaa", sum := "5a103928fdf725e4ab78e6cef4b53c6e9d3b58b92cf6f65a741b67eb42825541", func := "selvage/selvagelaw13.TideSpans", spec := "tideSpans", unfollowed := true, recurses := true, plainKeys := false, apart := false }
def TideSpansSaid : Prop := tideSpansRow.holds Try.pinned (OpenSpec.ofChange tideSpansSpec)

/-- ITS FALSE NEIGHBOUR: 'it returns false'. Refute it at one input. -/
def tideSpansWrong : ChangeSpec := { name := "tideSpans", fn := fun _ => fun
  | [d1, d2, d3] => { results := [.lit (.bool false)], args := [d1, d2, d3] }
  | _ => none }
def TideSpansWrongFalsely : Prop := tideSpansRow.holds Try.pinned (OpenSpec.ofChange tideSpansWrong)

/-- 'selvagelaw13.TideMeets': WHATEVER THE INPUT: true; the input reads as it did. -/
def tideMeetsSpec : ChangeSpec := { name := "tideMeets", fn := fun _ => fun
  | [d1, d2, d3] => { results := [.lit (.bool true)], args := [d1, d2, d3] }
  | _ => none }
def tideMeetsRow : OpenClaim := { program := "ytjfnpciecgemeaa", sum := "5a103928fdf725e4ab78e6cef4b53c6e9d3b58b92cf6f65a741b67eb42825541", func := "selvage/selvagelaw13.TideMeets", spec := "tideMeets", unfollowed := true, recurses := true, plainKeys := false, apart := false }
def TideMeetsSaid : Prop := tideMeetsRow.holds Try.pinned (OpenSpec.ofChange tideMeetsSpec)

/-- ITS FALSE NEIGHBOUR: 'it returns false'. Refute it at one input. -/
def tideMeetsWrong : ChangeSpec := { name := "tideMeets", fn := fun _ => fun
  | [d1, d2, d3] => { results := [.lit (.bool false)], args := [d1, d2, d3] }
  | _ => none }
def TideMeetsWrongFalsely : Prop := tideMeetsRow.holds Try.pinned (OpenSpec.ofChange tideMeetsWrong)

/-- 'selvagelaw13.TideSame': WHATEVER THE INPUT: true; the input reads as it did. -/
def tideSameSpec : ChangeSpec := { name := "tideSame", fn := fun _ => fun
  | [d1, d2] => { results := [.lit (.bool true)], args := [d1, d2] }
  | _ => none }
def tideSameRow : OpenClaim := { program := "ytjfnpciecgemeaa", sum := "5a103928fdf725e4ab78e6cef4b53c6e9d3b58b92cf6f65a741b67eb42825541", func := "selvage/selvagelaw13.TideSame", spec := "tideSame", unfollowed := true, recurses := true, plainKeys := false, apart := false }
def TideSameSaid : Prop := tideSameRow.holds Try.pinned (OpenSpec.ofChange tideSameSpec)

/-- ITS FALSE NEIGHBOUR: 'it returns false'. Refute it at one input. -/
def tideSameWrong : ChangeSpec := { name := "tideSame", fn := fun _ => fun
  | [d1, d2] => { results := [.lit (.bool false)], args := [d1, d2] }
  | _ => none }
def TideSameWrongFalsely : Prop := tideSameRow.holds Try.pinned (OpenSpec.ofChange tideSameWrong)

/-- 'selvagelaw13.TideAlone': WHATEVER THE INPUT: true; the input reads as it did. -/
def tideAloneSpec : ChangeSpec := { name := "tideAlone", fn := fun _ => fun
  | [d1, d2] => { results := [.lit (.bool true)], args := [d1, d2] }
  | _ => none }
def tideAloneRow : OpenClaim := { program := "ytjfnpciecgemeaa", sum := "5a103928fdf725e4ab78e6cef4b53c6e9d3b58b92cf6f65a741b67eb42825541", func := "selvage/selvagelaw13.TideAlone", spec := "tideAlone", unfollowed := true, recurses := true, plainKeys := false, apart := false }
def TideAloneSaid : Prop := tideAloneRow.holds Try.pinned (OpenSpec.ofChange tideAloneSpec)

/-- ITS FALSE NEIGHBOUR: 'it returns false'. Refute it at one input. -/
def tideAloneWrong : ChangeSpec := { name := "tideAlone", fn := fun _ => fun
  | [d1, d2] => { results := [.lit (.bool false)], args := [d1, d2] }
  | _ => none }
def TideAloneWrongFalsely : Prop := tideAloneRow.holds Try.pinned (OpenSpec.ofChange tideAloneWrong)

/- THE SECOND FORM. 'bulk': how many values and letters a reading holds, each counted each time it is reached (what is shared counts as often as it is met; a slice's spare places count too). A statement '..UptoSaid' is the law's where the arguments, and the package variables that the reading takes, are together of bulk at most 1048576: NARROWER than '..Said'. Prove '..Said' where nothing that the law and all that it calls make is longer than what came in: it says more and counts as full. Else prove '..UptoSaid'. A law counts once. -/
mutual
def uptoBulk {H : Type} : DataW H → Nat
  | .lit (.string bytes) => bytes.length + 1
  | .lit _ => 1
  | .nil => 1
  | .ptr d => uptoBulk d + 1
  | .slice elems spare => uptoBulkAll elems + uptoBulkAll spare + 1
  | .agg parts => uptoBulkAll parts + 1
  | .iface _ d => uptoBulk d + 1
  | .map entries => uptoBulkEntries entries + 1
  | .held _ => 1
def uptoBulkAll {H : Type} : List (DataW H) → Nat
  | [] => 0
  | d :: r => uptoBulk d + uptoBulkAll r
def uptoBulkEntries {H : Type} : List (Lit × DataW H) → Nat
  | [] => 0
  | x :: r => uptoBulkEntry x + uptoBulkEntries r
def uptoBulkEntry {H : Type} : Lit × DataW H → Nat
  | (.string bytes, d) => bytes.length + uptoBulk d + 1
  | (_, d) => uptoBulk d + 1
 end
def uptoSmall : (H : Type) → List (DataW H) → Bool := fun _ ds => decide (uptoBulkAll ds ≤ 1048576)
def OpenSpec.upto (s : _root_.Go.ChangeSpec) : _root_.Go.OpenSpec := { _root_.Go.OpenSpec.ofChange s with cond := some uptoSmall }

/-- 'selvagelaw13.TideSpans', WHERE WHAT IT READS IS OF BULK AT MOST 1048576: true; the input reads as it did. -/
def tideSpansUptoRow : OpenClaim := { program := "ytjfnpciecgemeaa", sum := "5a103928fdf725e4ab78e6cef4b53c6e9d3b58b92cf6f65a741b67eb42825541", func := "selvage/selvagelaw13.TideSpans", spec := "tideSpans", unfollowed := true, recurses := true, plainKeys := false, apart := false, narrowed := true }
def TideSpansUptoSaid : Prop := tideSpansUptoRow.holds Try.pinned (OpenSpec.upto tideSpansSpec)

/-- 'selvagelaw13.TideMeets', WHERE WHAT IT READS IS OF BULK AT MOST 1048576: true; the input reads as it did. -/
def tideMeetsUptoRow : OpenClaim := { program := "ytjfnpciecgemeaa", sum := "5a103928fdf725e4ab78e6cef4b53c6e9d3b58b92cf6f65a741b67eb42825541", func := "selvage/selvagelaw13.TideMeets", spec := "tideMeets", unfollowed := true, recurses := true, plainKeys := false, apart := false, narrowed := true }
def TideMeetsUptoSaid : Prop := tideMeetsUptoRow.holds Try.pinned (OpenSpec.upto tideMeetsSpec)

/-- 'selvagelaw13.TideSame', WHERE WHAT IT READS IS OF BULK AT MOST 1048576: true; the input reads as it did. -/
def tideSameUptoRow : OpenClaim := { program := "ytjfnpciecgemeaa", sum := "5a103928fdf725e4ab78e6cef4b53c6e9d3b58b92cf6f65a741b67eb42825541", func := "selvage/selvagelaw13.TideSame", spec := "tideSame", unfollowed := true, recurses := true, plainKeys := false, apart := false, narrowed := true }
def TideSameUptoSaid : Prop := tideSameUptoRow.holds Try.pinned (OpenSpec.upto tideSameSpec)

/-- 'selvagelaw13.TideAlone', WHERE WHAT IT READS IS OF BULK AT MOST 1048576: true; the input reads as it did. -/
def tideAloneUptoRow : OpenClaim := { program := "ytjfnpciecgemeaa", sum := "5a103928fdf725e4ab78e6cef4b53c6e9d3b58b92cf6f65a741b67eb42825541", func := "selvage/selvagelaw13.TideAlone", spec := "tideAlone", unfollowed := true, recurses := true, plainKeys := false, apart := false, narrowed := true }
def TideAloneUptoSaid : Prop := tideAloneUptoRow.holds Try.pinned (OpenSpec.upto tideAloneSpec)

end Rows
end Go.Proofs.Ytjfnpciecgemeaa
