/-
  STEPS: a row of them that came in; a net that came in.
-/
import Derived.Test.YtpoognkppnplpaaYRow
import Derived.ProofKit
import Derived.OpenShut
import Derived.ChangeOld
import Derived.Below
import Derived.Stop.Joined
import Derived.Deep.CondSized
import Derived.Deep.Slices
namespace Go.Proofs.Ytpoognkppnplpaa
set_option linter.unusedSimpArgs false
set_option linter.unusedVariables false
open Go.RowKit Go.ChangeShapes Go.WideShapes
/-- A step. -/
structure Stp where
  d : Int
  n : Int
  p : Nat × Int
/-- A row of steps below a block. -/
def RdS (n₀ : Nat) (W : World) (a : Option Addr) (l : List Stp) : Prop := ∀ (j : Nat) (s : Stp), l[j]? = some s → s.p.1 < 4294967296 ∧ ∃ b off, a = some ⟨b, off, none⟩ ∧ b < n₀ ∧ W.cell? ⟨b, off + j * 4, none⟩ = some (.int .i64 s.d) ∧ W.cell? ⟨b, off + j * 4 + 1, none⟩ = some (.int .i64 s.n) ∧ W.cell? ⟨b, off + j * 4 + 2, none⟩ = some (.int .u32 s.p.1) ∧ W.cell? ⟨b, off + j * 4 + 3, none⟩ = some (.int .i64 s.p.2)
theorem RdS.below {n₀ : Nat} {W W' : World} {a : Option Addr} {l : List Stp} (h : RdS n₀ W a l) {B : Nat} (hb : Below B W W') (hB : n₀ ≤ B) : RdS n₀ W' a l := fun j s hj => by
  obtain ⟨hp, b, off, e, hbn, c0, c1, c2, c3⟩ := h j s hj
  exact ⟨hp, b, off, e, hbn, keepC hb (by show b < B; omega) c0, keepC hb (by show b < B; omega) c1, keepC hb (by show b < B; omega) c2, keepC hb (by show b < B; omega) c3⟩
theorem RdS.mono {n₀ n₁ : Nat} {W : World} {a : Option Addr} {l : List Stp} (h : RdS n₀ W a l) (hn : n₀ ≤ n₁) : RdS n₁ W a l := fun j s hj => by
  obtain ⟨hp, b, off, e, hbn, r⟩ := h j s hj
  exact ⟨hp, b, off, e, by omega, r⟩
set_option maxRecDepth 100000 in
theorem prefix_raw {H : Type} {enc : TypeId × Value → H} {W : World} {held : Bool} {sp : Nat → Bool} {cs : List Value} {fuel : Nat} {r : DataW H × List MemPlace} (hf' : DataW.trod enc Try.prog W 0 sp held fuel 25 cs = some r) :
    ∃ (n : Nat) (b : Int), cs = [.int .u32 n, .int .i64 b] ∧ n < 4294967296 ∧ (-9223372036854775808 ≤ b ∧ b ≤ 9223372036854775807) := by
  obtain ⟨d, ps⟩ := r
  obtain ⟨xs, n, _, _, hl, hlen, hel⟩ := DataW.trod_struct Try.underlying25 hf'
  rw [show Try.prog.cellsOf 25 = 2 from by kernel_rfl] at hl
  obtain ⟨c0, c1, hc⟩ : ∃ c0 c1, cs = [c0, c1] := by
    match cs, hl with
    | [c0, c1], _ => exact ⟨c0, c1, rfl⟩
  rw [hc] at hel
  have h0 : DataW.trod enc Try.prog W 0 sp held n 23 (List.take (Try.prog.cellsOf 23) (List.drop 0 [c0, c1])) = xs[0]? := hel 0 _ rfl
  have h1 : DataW.trod enc Try.prog W 0 sp held n 3 (List.take (Try.prog.cellsOf 3) (List.drop 1 [c0, c1])) = xs[1]? := hel 1 _ rfl
  rw [show Try.prog.cellsOf 23 = 1 from by kernel_rfl] at h0
  rw [show Try.prog.cellsOf 3 = 1 from by kernel_rfl] at h1
  have hx2 : xs.length = 2 := by rw [hlen]; rfl
  rw [List.getElem?_eq_getElem (by omega)] at h0 h1
  obtain ⟨m, e0, _, w0⟩ := DataW.trod_int Try.underlying23 h0
  obtain ⟨b, e1, _, w1⟩ := DataW.trod_int Try.underlying3 h1
  simp only [List.drop_zero, List.take_succ_cons, List.take_zero, List.cons.injEq, and_true] at e0
  simp only [List.drop_succ_cons, List.drop_zero, List.take_succ_cons, List.take_zero, List.cons.injEq, and_true] at e1
  subst e0 e1
  have hm : 0 ≤ m ∧ m ≤ 4294967295 := by simpa [Lit.wf, IntKind.min, IntKind.max, IntKind.signed, IntKind.bits] using w0
  have hb : -9223372036854775808 ≤ b ∧ b ≤ 9223372036854775807 := by simpa [Lit.wf, IntKind.min, IntKind.max, IntKind.signed, IntKind.bits] using w1
  obtain ⟨k, rfl⟩ : ∃ k : Nat, m = k := ⟨m.toNat, by omega⟩
  exact ⟨k, b, hc, by omega, hb⟩
theorem prefix_of {H : Type} {enc : TypeId × Value → H} {W : World} {held : Bool} {sp : Nat → Bool} {cs : Array Value} {d : DataW H} {ps : List MemPlace} (h : DataW.Trod enc Try.prog W 0 sp held 25 (.agg cs) d ps) :
    ∃ (n : Nat) (b : Int), cs = #[.int .u32 n, .int .i64 b] ∧ n < 4294967296 ∧ (-9223372036854775808 ≤ b ∧ b ≤ 9223372036854775807) := by
  obtain ⟨fuel, hf⟩ := h
  have hf' : DataW.trod enc Try.prog W 0 sp held fuel 25 cs.toList = some (d, ps) := hf
  obtain ⟨n, b, hc, h1, h2⟩ := prefix_raw hf'
  exact ⟨n, b, by rw [← Array.toList_inj, hc], h1, h2⟩
set_option maxRecDepth 100000 in
theorem step_raw {H : Type} {enc : TypeId × Value → H} {W : World} {held : Bool} {sp : Nat → Bool} {cs : List Value} {fuel : Nat} {r : DataW H × List MemPlace} (hf' : DataW.trod enc Try.prog W 0 sp held fuel 55 cs = some r) :
    ∃ s : Stp, cs = [.int .i64 s.d, .int .i64 s.n, .int .u32 s.p.1, .int .i64 s.p.2] ∧ s.p.1 < 4294967296 := by
  obtain ⟨d, ps⟩ := r
  obtain ⟨xs, n, _, _, hl, hlen, hel⟩ := DataW.trod_struct Try.underlying55 hf'
  rw [show Try.prog.cellsOf 55 = 4 from by kernel_rfl] at hl
  obtain ⟨c0, c1, c2, c3, hc⟩ : ∃ c0 c1 c2 c3, cs = [c0, c1, c2, c3] := by
    match cs, hl with
    | [c0, c1, c2, c3], _ => exact ⟨c0, c1, c2, c3, rfl⟩
  rw [hc] at hel
  have h0 : DataW.trod enc Try.prog W 0 sp held n 3 (List.take (Try.prog.cellsOf 3) (List.drop 0 [c0, c1, c2, c3])) = xs[0]? := hel 0 _ rfl
  have h1 : DataW.trod enc Try.prog W 0 sp held n 3 (List.take (Try.prog.cellsOf 3) (List.drop 1 [c0, c1, c2, c3])) = xs[1]? := hel 1 _ rfl
  have h2 : DataW.trod enc Try.prog W 0 sp held n 25 (List.take (Try.prog.cellsOf 25) (List.drop 2 [c0, c1, c2, c3])) = xs[2]? := hel 2 _ rfl
  rw [show Try.prog.cellsOf 3 = 1 from by kernel_rfl] at h0 h1
  rw [show Try.prog.cellsOf 25 = 2 from by kernel_rfl] at h2
  have hx2 : xs.length = 3 := by rw [hlen]; rfl
  rw [List.getElem?_eq_getElem (by omega)] at h0 h1 h2
  obtain ⟨m, e0, _, w0⟩ := DataW.trod_int Try.underlying3 h0
  obtain ⟨b, e1, _, w1⟩ := DataW.trod_int Try.underlying3 h1
  obtain ⟨pn, pb, e2, hpn, _⟩ := prefix_raw h2
  simp only [List.drop_zero, List.take_succ_cons, List.take_zero, List.cons.injEq, and_true] at e0
  simp only [List.drop_succ_cons, List.drop_zero, List.take_succ_cons, List.take_zero, List.cons.injEq, and_true] at e1 e2
  obtain ⟨rfl, rfl⟩ := e2
  subst e0 e1
  exact ⟨⟨m, b, (pn, pb)⟩, hc, hpn⟩
instance : Inhabited Stp := ⟨⟨0, 0, (0, 0)⟩⟩
theorem steps_of {H : Type} {enc : TypeId × Value → H} {W : World} {held : Bool} {a : Option Addr} {len cap : Nat} {d : DataW H} {ps : List MemPlace} (h : DataW.Trod enc Try.prog W 0 (fun _ => true) held 22 (.slice a len cap) d ps) :
    ∃ l : List Stp, l.length = len ∧ l.length ≤ 9223372036854775807 ∧ RdS W.heap.size W a l := by
  obtain ⟨fuel, hf⟩ := h
  have hf' : DataW.trod enc Try.prog W 0 (fun _ => true) held fuel 22 [.slice a len cap] = some (d, ps) := hf
  rcases Go.Deep.open_slice Try.underlying22 hf' with ⟨hcs, _⟩ | ⟨A, l, c, m, n, D, Pl, hcs, _, hl, hm, hmm, _, hall⟩
  · simp at hcs
    obtain ⟨rfl, rfl, rfl⟩ := hcs
    exact ⟨[], rfl, Nat.zero_le _, fun j kd hj => by simp at hj⟩
  · simp at hcs
    obtain ⟨rfl, rfl, rfl⟩ := hcs
    simp only [if_true] at hmm
    subst hmm
    rw [show Try.prog.cellsOf 55 = 4 from by kernel_rfl] at hall
    have hall2 : ∀ i', i' < m → ∃ q : Stp, W.cells? 0 (A.add (i' * 4)) 4 = some [.int .i64 q.d, .int .i64 q.n, .int .u32 q.p.1, .int .i64 q.p.2] ∧ q.p.1 < 4294967296 := by
      intro i' hi'
      obtain ⟨cs, hcs, htr⟩ := hall i' hi'
      obtain ⟨s, e1, hb⟩ := step_raw htr
      subst e1
      exact ⟨s, hcs, hb⟩
    obtain ⟨f, hf2⟩ := Go.Deep.choose_lt hall2
    refine ⟨(List.range len).map f, by simp, by simp; unfold maxLen at hm; omega, fun j kd hj => ?_⟩
    have hjl : j < len := by
      rcases Nat.lt_or_ge j len with h1 | h1
      · exact h1
      · rw [List.getElem?_eq_none (by simpa using h1)] at hj; cases hj
    obtain rfl : f j = kd := by simpa [hjl] using hj
    have cell : ∀ k, k < 4 → W.cell? (A.add (j * 4 + k)) = [Value.int .i64 (f j).d, .int .i64 (f j).n, .int .u32 (f j).p.1, .int .i64 (f j).p.2][k]? := fun k hk => by
      have := (World.cells?_some (hf2 j (by omega)).1).2.2 k hk
      rwa [Go.Deep.add_add] at this
    obtain ⟨b, off, spot⟩ := A
    have h0 := cell 0 (by decide)
    have h1 := cell 1 (by decide)
    have h2 := cell 2 (by decide)
    have h3 := cell 3 (by decide)
    have h00 : W.cell? ((⟨b, off, spot⟩ : Addr).add (0 * 4 + 0)) = some (Value.int .i64 (f 0).d) := by
      have := (World.cells?_some (hf2 0 (by omega)).1).2.2 0 (by decide)
      rwa [Go.Deep.add_add] at this
    have hspot : spot = none := by simpa [Addr.add] using World.cell?_spot h00
    subst hspot
    have plain : ∀ k, (⟨b, off, none⟩ : Addr).add k = ⟨b, off + k, none⟩ := fun k => by unfold Addr.add; split <;> simp_all
    rw [plain] at h0 h1 h2 h3
    exact ⟨(hf2 j (by omega)).2, b, off, rfl, World.block_lt_of_cell? W _ (h0.trans rfl), by simpa using h0, by simpa [Nat.add_assoc] using h1, by simpa [Nat.add_assoc] using h2, by simpa [Nat.add_assoc] using h3⟩
end Go.Proofs.Ytpoognkppnplpaa
