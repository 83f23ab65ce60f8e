/-
  A KEY AND AN OUTER THAT CAME IN AS ARGUMENTS; bytes as a string, written out.
-/
import Derived.Test.YtmmocnokgcgmnaaDoorSLaw
namespace Go.Proofs.YtmmocnokgcgmnaaDoor
open Go.RowKit Go.ChangeShapes Go.WideShapes
set_option linter.unusedVariables false
section
variable {H : Type} {enc : TypeId × Value → H} {P : Program} {w : World} {held : Bool}
/-- Some cells read at a type. -/
def Rdq (enc : TypeId × Value → H) (P : Program) (w : World) (held : Bool) (t : TypeId) (cs : List Value) : Prop := ∃ fuel x, DataW.trod enc P w 0 (fun _ => true) held fuel t cs = some x
theorem rdq_struct {t : TypeId} {fs : Array Field} {cs : List Value} (ht : P.underlying t = some (.struct fs)) (h : Rdq enc P w held t cs) : cs.length = P.cellsOf t ∧ ∀ (i : Nat) (f : Field), fs[i]? = some f → Rdq enc P w held f.type ((cs.drop f.offset).take (P.cellsOf f.type)) := by
  obtain ⟨fuel, x, hx⟩ := h
  obtain ⟨xs, n, _, rfl, hl, hlen, hf⟩ := DataW.trod_struct ht hx
  refine ⟨hl, fun i f hif => ?_⟩
  have hi : i < xs.length := by
    rw [hlen]
    exact (Array.getElem?_eq_some_iff.1 hif).1
  exact ⟨n, xs[i], by rw [hf i f hif, List.getElem?_eq_getElem hi]⟩
theorem rdq_int {t : TypeId} {k : IntKind} {cs : List Value} (ht : P.underlying t = some (.int k)) (h : Rdq enc P w held t cs) : ∃ n, cs = [.int k n] ∧ (Lit.int k n).wf = true := by
  obtain ⟨fuel, x, hx⟩ := h
  obtain ⟨n, e, _, hw⟩ := DataW.trod_int ht hx
  exact ⟨n, e, hw⟩
end
set_option maxRecDepth 100000 in
theorem rdq_bytes {H : Type} {enc : TypeId × Value → H} {W : World} {held : Bool} {v : Value} (h : Rdq enc Tryd.prog W held 23 [v]) : ∃ a cap b, v = .slice a b.length cap ∧ InB W a b.length cap b := by
  obtain ⟨fuel, x, hf⟩ := h
  have hf2 := hf
  rcases open_ints Tryd.underlying23 Tryd.underlying5 (by kernel_rfl) hf with ⟨hcs, _⟩ | ⟨x, l, c, zs, hcs, _⟩
  · simp at hcs
    subst hcs
    obtain ⟨b, hb⟩ := inB_of hf2
    obtain rfl : b = [] := List.eq_nil_of_length_eq_zero hb.1
    exact ⟨none, 0, [], rfl, hb⟩
  · simp at hcs
    subst hcs
    obtain ⟨b, hb⟩ := inB_of hf2
    obtain rfl : b.length = l := hb.1
    exact ⟨_, c, b, rfl, hb⟩
set_option maxRecDepth 100000 in
theorem rdq_key {H : Type} {enc : TypeId × Value → H} {W : World} {held : Bool} {cs : List Value} (h : Rdq enc Tryd.prog W held 26 cs) : ∃ id sA sc sec, cs = [.int .i64 id, .slice sA sec.length sc] ∧ (-9223372036854775808 ≤ id ∧ id ≤ 9223372036854775807) ∧ InB W sA sec.length sc sec := by
  obtain ⟨hl, hf⟩ := rdq_struct Tryd.underlying26 h
  rw [show Tryd.prog.cellsOf 26 = 2 from by kernel_rfl] at hl
  obtain ⟨c0, c1, rfl⟩ : ∃ c0 c1, cs = [c0, c1] := by
    match cs, hl with
    | [c0, c1], _ => exact ⟨c0, c1, rfl⟩
  have h0 : Rdq enc Tryd.prog W held 3 [c0] := by
    have this : Rdq enc Tryd.prog W held 3 (List.take (Tryd.prog.cellsOf 3) (List.drop 0 [c0, c1])) := hf 0 _ rfl
    rw [show Tryd.prog.cellsOf 3 = 1 from by kernel_rfl] at this
    exact this
  have h1 : Rdq enc Tryd.prog W held 23 [c1] := by
    have this : Rdq enc Tryd.prog W held 23 (List.take (Tryd.prog.cellsOf 23) (List.drop 1 [c0, c1])) := hf 1 _ rfl
    rw [show Tryd.prog.cellsOf 23 = 1 from by kernel_rfl] at this
    exact this
  obtain ⟨n0, e0, hw⟩ := rdq_int Tryd.underlying3 h0
  simp only [List.cons.injEq, and_true] at e0
  subst e0
  obtain ⟨a, cap, b, rfl, hb⟩ := rdq_bytes h1
  exact ⟨n0, a, cap, b, rfl, by simpa [Lit.wf, IntKind.min, IntKind.max, IntKind.signed, IntKind.bits] using hw, hb⟩
set_option maxRecDepth 100000 in
theorem rdq_outer {H : Type} {enc : TypeId × Value → H} {W : World} {held : Bool} {cs : List Value} (h : Rdq enc Tryd.prog W held 28 cs) : ∃ k l r f : Int, cs = [.int .i64 k, .int .i64 l, .int .i64 r, .int .i64 f] := by
  obtain ⟨hl, hf⟩ := rdq_struct Tryd.underlying28 h
  rw [show Tryd.prog.cellsOf 28 = 4 from by kernel_rfl] at hl
  obtain ⟨c0, c1, c2, c3, rfl⟩ : ∃ c0 c1 c2 c3, cs = [c0, c1, c2, c3] := by
    match cs, hl with
    | [c0, c1, c2, c3], _ => exact ⟨c0, c1, c2, c3, rfl⟩
  have h0 : Rdq enc Tryd.prog W held 3 [c0] := by
    have this : Rdq enc Tryd.prog W held 3 (List.take (Tryd.prog.cellsOf 3) (List.drop 0 [c0, c1, c2, c3])) := hf 0 _ rfl
    rw [show Tryd.prog.cellsOf 3 = 1 from by kernel_rfl] at this
    exact this
  have h1 : Rdq enc Tryd.prog W held 3 [c1] := by
    have this : Rdq enc Tryd.prog W held 3 (List.take (Tryd.prog.cellsOf 3) (List.drop 1 [c0, c1, c2, c3])) := hf 1 _ rfl
    rw [show Tryd.prog.cellsOf 3 = 1 from by kernel_rfl] at this
    exact this
  have h2 : Rdq enc Tryd.prog W held 3 [c2] := by
    have this : Rdq enc Tryd.prog W held 3 (List.take (Tryd.prog.cellsOf 3) (List.drop 2 [c0, c1, c2, c3])) := hf 2 _ rfl
    rw [show Tryd.prog.cellsOf 3 = 1 from by kernel_rfl] at this
    exact this
  have h3 : Rdq enc Tryd.prog W held 3 [c3] := by
    have this : Rdq enc Tryd.prog W held 3 (List.take (Tryd.prog.cellsOf 3) (List.drop 3 [c0, c1, c2, c3])) := hf 3 _ rfl
    rw [show Tryd.prog.cellsOf 3 = 1 from by kernel_rfl] at this
    exact this
  obtain ⟨n0, e0, _⟩ := rdq_int Tryd.underlying3 h0
  obtain ⟨n1, e1, _⟩ := rdq_int Tryd.underlying3 h1
  obtain ⟨n2, e2, _⟩ := rdq_int Tryd.underlying3 h2
  obtain ⟨n3, e3, _⟩ := rdq_int Tryd.underlying3 h3
  simp only [List.cons.injEq, and_true] at e0 e1 e2 e3
  subst e0 e1 e2 e3
  exact ⟨n0, n1, n2, n3, rfl⟩
set_option maxRecDepth 100000 in
theorem key_of {H : Type} {enc : TypeId × Value → H} {W : World} {held : Bool} {cs : Array Value} {d : DataW H} {ps : List MemPlace} (h : DataW.Trod enc Tryd.prog W 0 (fun _ => true) held 26 (.agg cs) d ps) : ∃ id sA sc sec, cs = #[.int .i64 id, .slice sA sec.length sc] ∧ (-9223372036854775808 ≤ id ∧ id ≤ 9223372036854775807) ∧ InB W sA sec.length sc sec := by
  obtain ⟨fuel, hf⟩ := h
  have hf' : DataW.trod enc Tryd.prog W 0 (fun _ => true) held fuel 26 cs.toList = some (d, ps) := hf
  obtain ⟨id, sA, sc, sec, e, hb⟩ := rdq_key ⟨fuel, (d, ps), hf'⟩
  exact ⟨id, sA, sc, sec, by rw [← e], hb⟩
set_option maxRecDepth 100000 in
theorem outer_of {H : Type} {enc : TypeId × Value → H} {W : World} {held : Bool} {cs : Array Value} {d : DataW H} {ps : List MemPlace} (h : DataW.Trod enc Tryd.prog W 0 (fun _ => true) held 28 (.agg cs) d ps) : ∃ k l r f : Int, cs = #[.int .i64 k, .int .i64 l, .int .i64 r, .int .i64 f] := by
  obtain ⟨fuel, hf⟩ := h
  have hf' : DataW.trod enc Tryd.prog W 0 (fun _ => true) held fuel 28 cs.toList = some (d, ps) := hf
  obtain ⟨k, l, r, f, e⟩ := rdq_outer ⟨fuel, (d, ps), hf'⟩
  exact ⟨k, l, r, f, by rw [← e]⟩
/-- The string that these bytes are. -/
def strB (b : List Nat) := strOfNums (b.map fun n : Nat => (n : Int))
theorem conv_rdE {n₀ : Nat} {W : World} {a : Option Addr} {b : List Nat} (h : RdN n₀ W a b) {len : Nat} (hl : b.length = len) (cap : Nat) : (convert 23 9 (.slice a len cap)).run Tryd.prog W = .ok (.string (strB b)) W := by
  subst hl
  by_cases hz : 0 < b.length
  · obtain ⟨bb, off, rfl, hbb, hc⟩ := h hz
    exact run_convert_bytes_arg W 23 5 Tryd.underlying23 Tryd.underlying5 bb off b.length cap (b.map fun n : Nat => (n : Int)) (by simp) (fun i hi => by
      have hi' : i < b.length := by simpa using hi
      rw [hc i b[i] (List.getElem?_eq_getElem hi'), List.getD_eq_getElem?_getD, List.getElem?_map, List.getElem?_eq_getElem hi']
      rfl) 9 Tryd.underlying9
  · obtain rfl : b = [] := List.eq_nil_of_length_eq_zero (by omega)
    cases a with
    | none => exact run_convert_bytes_nil W 23 5 Tryd.underlying23 Tryd.underlying5 _ cap 9 Tryd.underlying9
    | some x =>
      rw [List.length_nil, run_convert_bytes_string W 23 9 5 _ _ cap Tryd.underlying23 Tryd.underlying5 Tryd.underlying9]
      exact run_bytesToString W x 0 cap [] (by simp [loadCells, loadCellsFrom, Sem.run_pure])
end Go.Proofs.YtmmocnokgcgmnaaDoor
