/-
  PREFIXES: the library's table out of the card's condition; prefixes that came in as arguments.
-/
import Derived.Test.YtebogllfjhiblaaDoorNAwake
import Derived.Test.YtebogllfjhiblaaDoorTie
import Derived.LaidMore
import Derived.OpenShut
import Derived.Lib.LaidTab
import Derived.Lib.SmallJoins
namespace Go.Proofs.YtebogllfjhiblaaDoor
set_option linter.unusedVariables false
open Go.RowKit Go.ChangeShapes Go.WideShapes
theorem gPow : Tryd.prog.globalNamed "internal/strconv.uint64pow10" = some 3 := by kernel_rfl
theorem tPow : (Tryd.prog.globals[3]?).map (·.type) = some 114 := by kernel_rfl
theorem tabp_of {W : World} (h : laidMetH Tryd.prog [("math/bits.deBruijn32tab", Rows.laid_math_bits_deBruijn32tab), ("math/bits.deBruijn64tab", Rows.laid_math_bits_deBruijn64tab), ("internal/strconv.uint64pow10", Rows.laid_internal_strconv_uint64pow10)] W) : TabP W.heap.size W := by
  rw [MakeChecks.laidMetH_plain _ _ _ (by kernel_rfl)] at h
  obtain ⟨ps, ⟨g0, t0, cs0, f0, p0, q0, hg0, ht0, hv0, hd0, hrest⟩, hx⟩ := h
  obtain ⟨⟨g1, t1, cs1, f1, p1, q1, hg1, ht1, hv1, hd1, hrest2⟩, _⟩ := hrest
  obtain ⟨⟨g2, t2, cs2, f2, p2, q2, hg2, ht2, hv2, hd2, _⟩, _⟩ := hrest2
  obtain rfl := Option.some.inj (gPow.symm.trans hg2)
  obtain rfl := Option.some.inj (tPow.symm.trans ht2)
  have e := Lib.cells_of_tab Tryd.underlying114 Tryd.underlying57 (by kernel_rfl) (by kernel_rfl) (k := .u64) (zs := Lib.pow10Tab) hd2
  refine Lib.tabBelow_of_tabIs ?_
  unfold Lib.TabIs
  rw [← e, hv2]
theorem door_met6 (os : Os) (args : Array Value) : laidMetH Tryd.prog [("math/bits.deBruijn32tab", Rows.laid_math_bits_deBruijn32tab), ("math/bits.deBruijn64tab", Rows.laid_math_bits_deBruijn64tab), ("internal/strconv.uint64pow10", Rows.laid_internal_strconv_uint64pow10)] ((World.doorLaid Tryd.prog 400 os).forCall (fun _ _ => 0) ⟨#[], args, []⟩).memory :=
  laidMetH_of_parts3 (fuel := 8) (laidMet_of_run' 8 (by kernel_rfl) (by kernel_rfl)) (by kernel_rfl) (by kernel_rfl)
set_option maxRecDepth 100000 in
theorem prefix_of {H : Type} {enc : TypeId × Value → H} {W : World} {held : Bool} {sp : Nat → Bool} {cs : Array Value} {d : DataW H} {ps : List MemPlace} (h : DataW.Trod enc Tryd.prog W 0 sp held 24 (.agg cs) d ps) :
    ∃ (n : Nat) (b : Int), cs = #[.int .u32 n, .int .i64 b] ∧ n < 4294967296 ∧ (-9223372036854775808 ≤ b ∧ b ≤ 9223372036854775807) := by
  obtain ⟨fuel, hf⟩ := h
  have hf' : DataW.trod enc Tryd.prog W 0 sp held fuel 24 cs.toList = some (d, ps) := hf
  obtain ⟨xs, n, _, _, hl, hlen, hel⟩ := DataW.trod_struct Tryd.underlying24 hf'
  rw [show Tryd.prog.cellsOf 24 = 2 from by kernel_rfl] at hl
  obtain ⟨c0, c1, hc⟩ : ∃ c0 c1, cs.toList = [c0, c1] := by
    match cs.toList, hl with
    | [c0, c1], _ => exact ⟨c0, c1, rfl⟩
  rw [hc] at hel
  have h0 : DataW.trod enc Tryd.prog W 0 sp held n 22 (List.take (Tryd.prog.cellsOf 22) (List.drop 0 [c0, c1])) = xs[0]? := hel 0 _ rfl
  have h1 : DataW.trod enc Tryd.prog W 0 sp held n 3 (List.take (Tryd.prog.cellsOf 3) (List.drop 1 [c0, c1])) = xs[1]? := hel 1 _ rfl
  rw [show Tryd.prog.cellsOf 22 = 1 from by kernel_rfl] at h0
  rw [show Tryd.prog.cellsOf 3 = 1 from by kernel_rfl] at h1
  have hx2 : xs.length = 2 := by rw [hlen]; rfl
  rw [List.getElem?_eq_getElem (by omega)] at h0 h1
  obtain ⟨m, e0, _, w0⟩ := DataW.trod_int Tryd.underlying22 h0
  obtain ⟨b, e1, _, w1⟩ := DataW.trod_int Tryd.underlying3 h1
  simp only [List.drop_zero, List.take_succ_cons, List.take_zero, List.cons.injEq, and_true] at e0
  simp only [List.drop_succ_cons, List.drop_zero, List.take_succ_cons, List.take_zero, List.cons.injEq, and_true] at e1
  subst e0 e1
  have hm : 0 ≤ m ∧ m ≤ 4294967295 := by simpa [Lit.wf, IntKind.min, IntKind.max, IntKind.signed, IntKind.bits] using w0
  have hb : -9223372036854775808 ≤ b ∧ b ≤ 9223372036854775807 := by simpa [Lit.wf, IntKind.min, IntKind.max, IntKind.signed, IntKind.bits] using w1
  obtain ⟨k, rfl⟩ : ∃ k : Nat, m = k := ⟨m.toNat, by omega⟩
  exact ⟨k, b, by rw [← Array.toList_inj, hc], by omega, hb⟩
end Go.Proofs.YtebogllfjhiblaaDoor
