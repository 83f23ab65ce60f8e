/-
  KEYS THAT CAME IN AS AN ARGUMENT.
-/
import Derived.Test.YtmmocnokgcgmnaaDoorSPlainW
import Derived.Deep.Slices
namespace Go.Proofs.YtmmocnokgcgmnaaDoor
open Go.RowKit Go.ChangeShapes Go.WideShapes
set_option linter.unusedVariables false
instance : Inhabited KeyD := ⟨⟨0, none, 0, 0⟩⟩
set_option maxRecDepth 100000 in
theorem keys_of {H : Type} {enc : TypeId × Value → H} {W : World} {held : Bool} {a : Option Addr} {len cap : Nat} {d : DataW H} {ps : List MemPlace} (h : DataW.Trod enc Tryd.prog W 0 (fun _ => true) held 22 (.slice a len cap) d ps) :
    ∃ ks : List KeyD, ks.length = len ∧ ks.length ≤ 9223372036854775807 ∧ RdK W.heap.size W a ks := by
  obtain ⟨fuel, hf⟩ := h
  have hf' : DataW.trod enc Tryd.prog W 0 (fun _ => true) held fuel 22 [.slice a len cap] = some (d, ps) := hf
  rcases Go.Deep.open_slice Tryd.underlying22 hf' with ⟨hcs, _⟩ | ⟨A, l, c, m, n, D, Pl, hcs, _, hl, hm, hmm, _, hall⟩
  · simp at hcs
    obtain ⟨rfl, rfl, rfl⟩ := hcs
    exact ⟨[], rfl, Nat.zero_le _, fun j kd hj => by simp at hj⟩
  · simp at hcs
    obtain ⟨rfl, rfl, rfl⟩ := hcs
    simp only [if_true] at hmm
    subst hmm
    rw [show Tryd.prog.cellsOf 26 = 2 from by kernel_rfl] at hall
    have hall2 : ∀ i', i' < m → ∃ q : KeyD, W.cells? 0 (A.add (i' * 2)) 2 = some [.int .i64 q.id, .slice q.a q.n q.c] ∧ q.n ≤ 9223372036854775807 := by
      intro i' hi'
      obtain ⟨cs, hcs, htr⟩ := hall i' hi'
      obtain ⟨id, sA, sc, sec, e1, _, hb⟩ := rdq_key ⟨_, _, htr⟩
      subst e1
      have hbm := hb.2.1
      have hbc := hb.2.2.1
      exact ⟨⟨id, sA, sec.length, sc⟩, hcs, by show sec.length ≤ _; unfold maxLen at hbc; omega⟩
    obtain ⟨f, hf2⟩ := Go.Deep.choose_lt hall2
    refine ⟨(List.range len).map f, by simp, by simp; unfold maxLen at hm; omega, fun j kd hj => ?_⟩
    have hjl : j < len := by
      rcases Nat.lt_or_ge j len with h1 | h1
      · exact h1
      · rw [List.getElem?_eq_none (by simpa using h1)] at hj; cases hj
    obtain rfl : f j = kd := by simpa [hjl] using hj
    have cell : ∀ k, k < 2 → W.cell? (A.add (j * 2 + k)) = [Value.int .i64 (f j).id, .slice (f j).a (f j).n (f j).c][k]? := fun k hk => by
      have := (World.cells?_some (hf2 j (by omega)).1).2.2 k hk
      rwa [Go.Deep.add_add] at this
    obtain ⟨b, off, spot⟩ := A
    have h0 := cell 0 (by decide)
    have h1 := cell 1 (by decide)
    have h00 : W.cell? ((⟨b, off, spot⟩ : Addr).add (0 * 2 + 0)) = some (Value.int .i64 (f 0).id) := by
      have := (World.cells?_some (hf2 0 (by omega)).1).2.2 0 (by decide)
      rwa [Go.Deep.add_add] at this
    have hspot : spot = none := by simpa [Addr.add] using World.cell?_spot h00
    subst hspot
    have plain : ∀ k, (⟨b, off, none⟩ : Addr).add k = ⟨b, off + k, none⟩ := fun k => by unfold Addr.add; split <;> simp_all
    rw [plain] at h0 h1
    exact ⟨(hf2 j (by omega)).2, b, off, rfl, World.block_lt_of_cell? W _ (h0.trans rfl), by simpa using h0, by simpa [Nat.add_assoc] using h1⟩
end Go.Proofs.YtmmocnokgcgmnaaDoor
