/-
  THE DOCUMENT'S Goes.
-/
import Derived.Test.YtbgilngpkogapaaGGo
namespace Go.Proofs.Ytbgilngpkogapaa.ti
set_option linter.unusedSimpArgs false
set_option linter.unusedVariables false
open Go.RowKit
def SaysG (e : Ending) (b : Bool) : Prop := e = .returned (.bool b)
set_option maxHeartbeats 3200000 in
set_option maxRecDepth 100000 in
theorem rgoes_any (t : TiV) (l : Sl2) (s : ScD) (w : World) : Calls Try.prog 9 #[aggV t l, aggSc s] w fun e w' => SaysG e (goesG t s) ∧ Below w.heap.size w w' := by
  unfold aggV aggSc
  go_enter Try.func9, Try.ntmps9
  go_wp2
  all_goals go_ret
  all_goals refine ⟨?_, ((below_box _ _).trans ((below_box _ _).mono (by simp))).trans ((below_box _ _).mono (by simp; omega))⟩
  all_goals unfold SaysG goesG reflG ofNode ofSelf
  all_goals simp_all
  all_goals first | rfl | (rw [if_neg (by omega)]; rfl)
end Go.Proofs.Ytbgilngpkogapaa.ti
