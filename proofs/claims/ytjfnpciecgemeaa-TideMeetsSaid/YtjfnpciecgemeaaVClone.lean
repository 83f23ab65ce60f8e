/-
  THE LIBRARY'S slices.Clone: of neighbours, of nets.
-/
import Derived.Test.YtjfnpciecgemeaaVRow
import Derived.Test.YtjfnpciecgemeaaWReach
import Derived.Great.BuildSlice
namespace Go.Proofs.Ytjfnpciecgemeaa.ti
set_option linter.unusedSimpArgs false
set_option linter.unusedVariables false
open Go.RowKit
theorem kindE : KindE 35 141 3 24 (.agg #[.int .i64 0, .int .i64 0, .int .i64 0]) encEdge := ⟨by kernel_rfl, by kernel_rfl, rfl, by decide, fun _ => rfl, fun x u hu => by simp [encEdge] at hu; rcases hu with rfl | rfl | rfl <;> rfl⟩
theorem kindR : KindE 36 147 3 24 (.agg #[.int .u32 0, .int .i64 0, .int .i64 0]) encReach := ⟨by kernel_rfl, by kernel_rfl, rfl, by decide, fun _ => rfl, fun x u hu => by simp [encReach] at hu; rcases hu with rfl | rfl | rfl <;> rfl⟩
section
variable {E : Type} {sl T : TypeId} {sz bytes : Nat} {z : Value} {enc : E → List Value}
theorem KindE.build0 (K : KindE sl T sz bytes z enc) (W : World) : (Instr.buildSlice sl 0 #[]).run Try.prog W = .ok (.slice (some ⟨W.heap.size, 0, none⟩) 0 0) (W.alloc (.cells #[] T)) := by
  obtain ⟨i0, hi, hz0, hz1, hz2⟩ := info_parts K.info
  simp [Instr.buildSlice, run_underlying K.und, sizeOf, typeInfo, hi, newRow, Instr.fill]
  rw [show Array.range 0 = #[] from by simp, Array.map_empty]
theorem KindE.own0 (K : KindE sl T sz bytes z enc) (W : World) : OwnE T sz enc (W.alloc (.cells #[] T)) W.heap.size (.slice (some ⟨W.heap.size, 0, none⟩) 0 0) [] := World.ownsRow_lit W #[] 0 (Nat.le_refl _) (by decide) (by simp)
theorem KindE.wp_build0 (K : KindE sl T sz bytes z enc) {w : World} {ops : Array Oper} {rest : List Oper} {o : Oper} {a : Act} {Q : Exit → Act → World → Prop} (hgd : o.guard = Option.none) (ho : o.op = .buildSlice sl 0 #[])
    (h : wpList Try.prog ops Q rest (a.put o.dst (.slice (some ⟨w.heap.size, 0, none⟩) 0 0)) (w.alloc (.cells #[] T))) : wpList Try.prog ops Q (o :: rest) a w := by
  refine wpList_plain hgd fun K' hK' => ?_
  unfold Oper.wp
  simp [execOp, ho, K.build0, Result.andThen]
  exact hK' _ _ h
end
theorem eq_nilS {t e : TypeId} (ht : Try.prog.underlying t = some (.slice e)) (a : Option Addr) (n c : Nat) (W : World) : (binOp .eql t (.slice a n c) (.slice none 0 0)).run Try.prog W = .ok (.bool a.isNone) W := by
  have q : ∀ d : Nat, (Op.equalIn (d + 1) t (.slice a n c) (.slice none 0 0)).run Try.prog W = .ok a.isNone W := fun d => by
    unfold Op.equalIn
    cases a <;> simp [run_underlying ht, Result.andThen]
  have q2 : (Op.equal t (.slice a n c) (.slice none 0 0)).run Try.prog W = .ok a.isNone W := q 9999
  simp only [binOp]
  simp [q2, Result.andThen]
end Go.Proofs.Ytjfnpciecgemeaa.ti
