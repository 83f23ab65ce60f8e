/-
  WHOM AN END MAY HEAR: the document's Accepts.
-/
import Derived.Test.YticbfmbinopjcaaLMath
import Derived.Lib.Hide
import Derived.BigQuiet
import Derived.BigRegion
import Derived.IntWalk
namespace Go.Proofs.Yticbfmbinopjcaa
set_option linter.unusedSimpArgs false
set_option linter.unusedVariables false
open Go.RowKit
set_option maxHeartbeats 3200000 in
set_option maxRecDepth 100000 in
theorem raccepts_any (p : PortT) (x : LieT) (hp : p.level ≤ 9223372036854775807) (hx : x.level ≤ 9223372036854775807) (w : World) : Calls Try.prog 11 #[.agg #[.int .i64 p.node, .int .i64 p.level, .int .i64 p.pod, .int .i64 p.mtu, .int .i64 p.link, .int .i64 p.hold], .agg #[.int .i64 x.node, .int .i64 x.level, .int .i64 x.pod, .int .i64 x.mtu, .int .i64 x.link, .int .i64 x.nonce, .int .i64 x.seen, .int .i64 x.seenLink, .int .i64 x.seenNonce, .int .i64 x.hold, .bool x.rep, .bool x.noOffer]] w fun e w' => Says e (accB p x) ∧ Below w.heap.size w w' := by
  have HB : ∀ A C : Obj, RowKit.Hid (Below w.heap.size w ((w.alloc A).alloc C)) := fun A C => ((Below.refl _ w).alloc (Nat.le_refl _) _).alloc (by simp) _
  by_cases h1 : x.level < 0
  · go_enter Try.func11, Try.ntmps11
    go_wp2
    all_goals go_ret
    all_goals exact ⟨Says.no (fun h => by have := h.2.2.2.2.1; omega), (HB _ _).out⟩
  · by_cases h2 : p.level < 0
    · go_enter Try.func11, Try.ntmps11
      go_wp2
      all_goals go_ret
      all_goals exact ⟨Says.no (fun h => by have := h.2.2.2.1; omega), (HB _ _).out⟩
    · have e1 : -9223372036854775808 ≤ x.level - p.level ∧ x.level - p.level ≤ 9223372036854775807 := by omega
      have e2 : -9223372036854775808 ≤ p.level - x.level ∧ p.level - x.level ≤ 9223372036854775807 := by omega
      by_cases c1 : x.node = p.node
      · go_enter Try.func11, Try.ntmps11
        go_wp2
        all_goals go_ret
        all_goals exact ⟨Says.no (fun h => h.1 c1), (HB _ _).out⟩
      · by_cases c2 : x.mtu = p.mtu
        · by_cases c3 : podB p.pod x.pod
          · by_cases l0 : x.level = p.level
            · have C3 := Lib.hid c3
              unfold podB at c3
              go_enter Try.func11, Try.ntmps11
              go_wp2
              all_goals go_ret
              all_goals refine ⟨Says.of ?_, (HB _ _).out⟩
              all_goals unfold accB levB
              all_goals have c4 := C3.out
              all_goals simp_all
              all_goals omega
            · have C3 := Lib.hid c3
              unfold podB at c3
              go_enter Try.func11, Try.ntmps11
              go_wp2
              all_goals go_ret
              all_goals refine ⟨Says.of ?_, (HB _ _).out⟩
              all_goals unfold accB levB
              all_goals have c4 := C3.out
              all_goals simp_all
              all_goals omega
          · have C3 := Lib.hid c3
            unfold podB at c3
            have d1 : ¬ x.pod = p.pod := fun e => c3 (.inl e.symm)
            have d2 : ¬ x.pod = 0 := fun e => c3 (.inr (.inr e))
            have d3 : ¬ p.pod = 0 := fun e => c3 (.inr (.inl e))
            clear c3
            go_enter Try.func11, Try.ntmps11
            go_wp2
            all_goals go_ret
            all_goals exact ⟨Says.no (fun h => C3.out h.2.2.1), (HB _ _).out⟩
        · go_enter Try.func11, Try.ntmps11
          go_wp2
          all_goals go_ret
          all_goals exact ⟨Says.no (fun h => c2 h.2.1), (HB _ _).out⟩
end Go.Proofs.Yticbfmbinopjcaa
