/-
  A SLICE OF INTEGERS THAT CAME IN, as the row of its elements; appends onto a row of one's own whose source may be nil or empty.
-/
import Derived.Test.YthdlcpnmldhllaaDoorAids
import Derived.OpenShut
namespace Go.Proofs.YthdlcpnmldhllaaDoor
open Go.RowKit

/-- A slice of integers as it came in: nil, or 'cap' cells, of which the first 'len' are its elements. -/
def IsRow (k : IntKind) (w : World) (a : Option Addr) (len cap : Nat) (zs : List Int) : Prop :=
  (a = none ∧ len = 0 ∧ cap = 0 ∧ zs = []) ∨
  ∃ x, a = some x ∧ len ≤ cap ∧ cap ≤ maxLen ∧ zs.length = cap ∧ (∀ i, i < zs.length → w.cell? (x.add i) = some (.int k (zs.getD i 0))) ∧ ∀ n ∈ zs, (Lit.int k n).wf = true

theorem IsRow.read {k : IntKind} {w : World} {a : Option Addr} {len cap : Nat} {z : List Int} (h : IsRow k w a len cap z) :
    ∃ zs : List Int, zs.length = len ∧ len ≤ cap ∧ cap ≤ maxLen ∧ Rd k w.heap.size w a zs ∧ ∀ x ∈ zs, (Lit.int k x).wf = true := by
  rcases h with ⟨rfl, rfl, rfl, rfl⟩ | ⟨x, rfl, hl, hm, hz, hc, hw⟩
  · exact ⟨[], rfl, Nat.le_refl _, Nat.zero_le _, fun hp => by simp at hp, fun x hx => by simp at hx⟩
  · refine ⟨z.take len, by rw [List.length_take]; omega, hl, hm, fun hp => ?_, fun y hy => hw y (List.mem_of_mem_take hy)⟩
    rw [List.length_take] at hp
    obtain ⟨b, off, rfl, hcc⟩ := ints_at hc (by omega)
    refine ⟨b, off, rfl, World.block_lt_of_cell? w _ (hcc 0 (by omega)), fun j hj => ?_⟩
    rw [List.length_take] at hj
    rw [List.getElem?_take, if_pos (by omega), ← List.getD_eq_getElem?_getD]
    exact hcc j (by omega)

theorem wf_u8 {x : Int} (h : (Lit.int .u8 x).wf = true) : 0 ≤ x ∧ x ≤ 255 := by
  simpa [Lit.wf, IntKind.min, IntKind.max, IntKind.signed, IntKind.bits] using h
theorem wf_i64 {x : Int} (h : (Lit.int .i64 x).wf = true) : -9223372036854775808 ≤ x ∧ x ≤ 9223372036854775807 := by
  simpa [Lit.wf, IntKind.min, IntKind.max, IntKind.signed, IntKind.bits] using h
theorem ints_of {zs : List Int} (h : ∀ x ∈ zs, (Lit.int .i64 x).wf = true) : Ints64 zs := fun j => by
  rcases hz : zs[j]? with _ | x
  · simp
  · have := wf_i64 (h x (List.mem_of_getElem? hz))
    simpa using this

/-- The cells of a slice that reads as zs, as an append's source asks for them. -/
theorem Rd.news {k : IntKind} {n₀ : Nat} {W : World} {ad : Addr} {zs : List Int} (h : Rd k n₀ W (some ad) zs) : ∀ j u, (zs.map (Value.int k))[j]? = some u → W.cell? (ad.add j) = some u := fun j u hu => by
  have hj : j < zs.length := by
    rcases Nat.lt_or_ge j zs.length with h1 | h1
    · exact h1
    · rw [List.getElem?_eq_none (by simpa using h1)] at hu; cases hu
  obtain ⟨b, off, e, _, hc⟩ := h (by omega)
  injection e with e
  subst e
  have hadd : (⟨b, off, none⟩ : Addr).add j = ⟨b, off + j, none⟩ := by unfold Addr.add; split <;> simp_all
  rw [hadd, hc j hj]
  simp [hj] at hu ⊢
  exact hu
end Go.Proofs.YthdlcpnmldhllaaDoor
