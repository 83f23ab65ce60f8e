/-
  THE DOCUMENT'S After: six ways.
-/
import Derived.Test.YtjfnpciecgemeaaTRef
namespace Go.Proofs.Ytjfnpciecgemeaa.ti
set_option linter.unusedSimpArgs false
set_option linter.unusedVariables false
open Go.RowKit
/-- What is behind an id: how the call ends. -/
def AftE (x : TId) (w : World) (e : Ending) (w' : World) : Prop := e = .returned (.tuple #[.agg #[.int .i64 (afterT x).1.d, .int .i64 (afterT x).1.o, .int .i64 (afterT x).1.k, .int .i64 (afterT x).1.n], .bool (afterT x).2]) ∧ Below w.heap.size w w'
end Go.Proofs.Ytjfnpciecgemeaa.ti
