/-
  LieMeets: the law.
-/
import Derived.Test.YticbfmbinopjcaaLMt1
import Derived.Test.YticbfmbinopjcaaLMt2
import Derived.Test.YticbfmbinopjcaaLMt3
import Derived.Deep.RegionHeld
namespace Go.Proofs.Yticbfmbinopjcaa
set_option linter.unusedSimpArgs false
set_option linter.unusedVariables false
open Go.RowKit
theorem meets_law (p : PortT) (_ : InI p.level ∧ InI p.hold) (q : PortT) (_ : InI q.level ∧ InI q.hold) (r : Int) (_ : InI r) (w : World) : Calls Try.prog 6 #[.agg #[.int .i64 p.node, .int .i64 p.level, .int .i64 p.pod, .int .i64 p.mtu, .int .i64 p.link, .int .i64 p.hold], .agg #[.int .i64 q.node, .int .i64 q.level, .int .i64 q.pod, .int .i64 q.mtu, .int .i64 q.link, .int .i64 q.hold], .int .i64 r] w fun e w' => e = .returned (.bool true) ∧ Below w.heap.size w w' := by
  by_cases hp : portB p
  · by_cases hq : portB q
    · by_cases h1 : r < 2
      · exact meets_r1 p q r hp hq h1 w
      · by_cases h2 : 60 < r
        · exact meets_r2 p q r hp hq h1 h2 w
        · by_cases h3 : p.hold < 2
          · exact meets_h1 p q r hp hq h1 h2 h3 w
          · by_cases h4 : q.hold < 2
            · exact meets_h2 p q r hp hq h1 h2 h3 h4 w
            · by_cases hz : accB p (sayE (newE q))
              · exact meets_true p q r hp hq h1 h2 h3 h4 hz w
              · exact meets_false p q r hp hq h1 h2 h3 h4 hz w
    · exact meets_q p q r hp hq w
  · by_cases hq : portB q
    · exact meets_p p q r hp hq w
    · exact meets_pq p q r hp hq w
end Go.Proofs.Yticbfmbinopjcaa
