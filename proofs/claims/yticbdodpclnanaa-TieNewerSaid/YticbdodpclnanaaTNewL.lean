/-
  TieNewer's walk, of what has landed.
-/
import Derived.Test.YticbdodpclnanaaTSort
namespace Go.Proofs.Yticbdodpclnanaa
set_option linter.unusedSimpArgs false
set_option linter.unusedVariables false
open Go.RowKit
theorem newer_law (a : THd) (ha : okH a) (b : THd) (hb : okH b) (w : World) : Calls Try.prog 7 #[.agg #[.int .i64 a.id.d, .int .i64 a.id.o, .int .i64 a.id.k, .int .i64 a.id.n, .int .i64 a.seq, .int .i64 a.life], .agg #[.int .i64 b.id.d, .int .i64 b.id.o, .int .i64 b.id.k, .int .i64 b.id.n, .int .i64 b.seq, .int .i64 b.life]] w fun e w' => e = .returned (.bool true) ∧ Below w.heap.size w w' := tnewer_walk progT a b ha hb w
end Go.Proofs.Yticbdodpclnanaa
