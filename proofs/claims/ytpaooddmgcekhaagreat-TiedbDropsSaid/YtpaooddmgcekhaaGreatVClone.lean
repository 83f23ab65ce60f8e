/-
  THE LIBRARY'S slices.Clone: of neighbours, of nets.
-/
import Derived.Test.YtpaooddmgcekhaaGreatVRow
import Derived.Test.YtpaooddmgcekhaaGreatWReach
import Derived.Great.BuildSlice
namespace Go.Proofs.YtpaooddmgcekhaaGreat.ti
set_option linter.unusedSimpArgs false
set_option linter.unusedVariables false
open Go.RowKit
theorem kindE : KindE 36 94 3 24 (.agg #[.int .i64 0, .int .i64 0, .int .i64 0]) encEdge := ⟨by kernel_rfl, by kernel_rfl, rfl, by decide, fun _ => rfl, fun x u hu => by simp [encEdge] at hu; rcases hu with rfl | rfl | rfl <;> rfl⟩
theorem kindR : KindE 37 99 3 24 (.agg #[.int .u32 0, .int .i64 0, .int .i64 0]) encReach := ⟨by kernel_rfl, by kernel_rfl, rfl, by decide, fun _ => rfl, fun x u hu => by simp [encReach] at hu; rcases hu with rfl | rfl | rfl <;> rfl⟩
section
variable {E : Type} {sl T : TypeId} {sz bytes : Nat} {z : Value} {enc : E → List Value}
theorem KindE.build0 (K : KindE sl T sz bytes z enc) (W : World) : (Instr.buildSlice sl 0 #[]).run Tryz.prog W = .ok (.slice (some ⟨W.heap.size, 0, none⟩) 0 0) (W.alloc (.cells #[] T)) := by
  obtain ⟨i0, hi, hz0, hz1, hz2⟩ := info_parts K.info
  simp [Instr.buildSlice, run_underlying K.und, sizeOf, typeInfo, hi, newRow, Instr.fill]
  rw [show Array.range 0 = #[] from by simp, Array.map_empty]
theorem KindE.own0 (K : KindE sl T sz bytes z enc) (W : World) : OwnE T sz enc (W.alloc (.cells #[] T)) W.heap.size (.slice (some ⟨W.heap.size, 0, none⟩) 0 0) [] := World.ownsRow_lit W #[] 0 (Nat.le_refl _) (by decide) (by simp)
theorem KindE.wp_build0 (K : KindE sl T sz bytes z enc) {w : World} {ops : Array Oper} {rest : List Oper} {o : Oper} {a : Act} {Q : Exit → Act → World → Prop} (hgd : o.guard = Option.none) (ho : o.op = .buildSlice sl 0 #[])
    (h : wpList Tryz.prog ops Q rest (a.put o.dst (.slice (some ⟨w.heap.size, 0, none⟩) 0 0)) (w.alloc (.cells #[] T))) : wpList Tryz.prog ops Q (o :: rest) a w := by
  refine wpList_plain hgd fun K' hK' => ?_
  unfold Oper.wp
  simp [execOp, ho, K.build0, Result.andThen]
  exact hK' _ _ h
end
theorem eq_nilS {t e : TypeId} (ht : Tryz.prog.underlying t = some (.slice e)) (a : Option Addr) (n c : Nat) (W : World) : (binOp .eql t (.slice a n c) (.slice none 0 0)).run Tryz.prog W = .ok (.bool a.isNone) W := by
  have q : ∀ d : Nat, (Op.equalIn (d + 1) t (.slice a n c) (.slice none 0 0)).run Tryz.prog W = .ok a.isNone W := fun d => by
    unfold Op.equalIn
    cases a <;> simp [run_underlying ht, Result.andThen]
  have q2 : (Op.equal t (.slice a n c) (.slice none 0 0)).run Tryz.prog W = .ok a.isNone W := q 9999
  simp only [binOp]
  simp [q2, Result.andThen]
set_option maxHeartbeats 1600000 in
set_option maxRecDepth 100000 in
theorem pcloneE_any (a : Option Addr) (l : List EdgeT) (c : Nat) (w : World) (hr : RdE 3 encEdge w a l) (hl : l.length ≤ 100) (hn : a = none → c = 0) :
    Calls Tryz.prog 48 #[.slice a l.length c] w fun e w' => ∃ v, e = .returned v ∧ OwnE 94 3 encEdge w' w.heap.size v l ∧ Below w.heap.size w w' := by
  cases a with
  | none =>
    obtain rfl : c = 0 := hn rfl
    have hl0 : l = [] := by
      rcases Nat.eq_zero_or_pos l.length with h0 | h0
      · exact List.eq_nil_of_length_eq_zero h0
      · obtain ⟨_, _, h', _⟩ := kindE.src hr h0; cases h'
    subst hl0
    clear hr hl hn
    have q := eq_nilS Tryz.underlying36 none 0 0
    go_enter Tryz.func48, Tryz.ntmps48
    go_wp2
    go_ret
    exact ⟨_, rfl, OwnE.nil _ _, Below.refl _ _⟩
  | some ad =>
    have HR := Lib.hid hr
    obtain ⟨n, hln⟩ : ∃ n, l.length = n := ⟨_, rfl⟩
    have HL := Lib.hid hln
    rw [hln] at hl ⊢
    clear hr hn hln
    have q := eq_nilS Tryz.underlying36 (some ad) n c
    have HB : Hid (Below w.heap.size w (w.alloc (.cells #[] 94))) := (Below.refl _ _).alloc (Nat.le_refl _) _
    go_enter Tryz.func48, Tryz.ntmps48
    go_wp2_with (first
      | (refine kindE.wp_build0 rfl rfl ?_)
      | (at_builtin; refine kindE.wp_append rfl _ _ rfl w.heap.size _ [] rfl (kindE.own0 w) (some ad) l n c rfl HL.out.symm (HR.out.below ((Below.refl _ _).alloc (Nat.le_refl _) _)) (by have := HL.out; unfold maxLen; simp; omega) (by have := HL.out; simp; omega) (by simp) ?_; intro A2 n2 c2 w3 hn2 HO3 hb3 _; have HO := Lib.hid HO3; have HB3 := Lib.hid (HB.out.trans hb3); clear HO3 hb3 hn2))
    go_ret
    exact ⟨_, rfl, HO.out, HB3.out⟩
set_option maxHeartbeats 1600000 in
set_option maxRecDepth 100000 in
theorem pcloneR_any (a : Option Addr) (l : List ReachT) (c : Nat) (w : World) (hr : RdE 3 encReach w a l) (hl : l.length ≤ 100) (hn : a = none → c = 0) :
    Calls Tryz.prog 49 #[.slice a l.length c] w fun e w' => ∃ v, e = .returned v ∧ OwnE 99 3 encReach w' w.heap.size v l ∧ Below w.heap.size w w' := by
  cases a with
  | none =>
    obtain rfl : c = 0 := hn rfl
    have hl0 : l = [] := by
      rcases Nat.eq_zero_or_pos l.length with h0 | h0
      · exact List.eq_nil_of_length_eq_zero h0
      · obtain ⟨_, _, h', _⟩ := kindR.src hr h0; cases h'
    subst hl0
    clear hr hl hn
    have q := eq_nilS Tryz.underlying37 none 0 0
    go_enter Tryz.func49, Tryz.ntmps49
    go_wp2
    go_ret
    exact ⟨_, rfl, OwnE.nil _ _, Below.refl _ _⟩
  | some ad =>
    have HR := Lib.hid hr
    obtain ⟨n, hln⟩ : ∃ n, l.length = n := ⟨_, rfl⟩
    have HL := Lib.hid hln
    rw [hln] at hl ⊢
    clear hr hn hln
    have q := eq_nilS Tryz.underlying37 (some ad) n c
    have HB : Hid (Below w.heap.size w (w.alloc (.cells #[] 99))) := (Below.refl _ _).alloc (Nat.le_refl _) _
    go_enter Tryz.func49, Tryz.ntmps49
    go_wp2_with (first
      | (refine kindR.wp_build0 rfl rfl ?_)
      | (at_builtin; refine kindR.wp_append rfl _ _ rfl w.heap.size _ [] rfl (kindR.own0 w) (some ad) l n c rfl HL.out.symm (HR.out.below ((Below.refl _ _).alloc (Nat.le_refl _) _)) (by have := HL.out; unfold maxLen; simp; omega) (by have := HL.out; simp; omega) (by simp) ?_; intro A2 n2 c2 w3 hn2 HO3 hb3 _; have HO := Lib.hid HO3; have HB3 := Lib.hid (HB.out.trans hb3); clear HO3 hb3 hn2))
    go_ret
    exact ⟨_, rfl, HO.out, HB3.out⟩
end Go.Proofs.YtpaooddmgcekhaaGreat.ti
