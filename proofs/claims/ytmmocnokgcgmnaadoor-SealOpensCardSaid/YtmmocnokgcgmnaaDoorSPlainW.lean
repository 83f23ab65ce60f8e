/-
  SealPlain: the walk of the law.
-/
import Derived.Test.YtmmocnokgcgmnaaDoorSOpen0
namespace Go.Proofs.YtmmocnokgcgmnaaDoor
open Go.RowKit
theorem cutG {A G : Prop} (h : G → A) (g : G) : A := h g
/-- A key in a row of keys. -/
structure KeyD where
  id : Int
  a : Option Addr
  n : Nat
  c : Nat
/-- A row of keys, read. -/
def RdK (n₀ : Nat) (W : World) (kA : Option Addr) (ks : List KeyD) : Prop := ∀ (j : Nat) (kd : KeyD), ks[j]? = some kd → kd.n ≤ 9223372036854775807 ∧ ∃ B off, kA = some ⟨B, off, none⟩ ∧ B < n₀ ∧ W.cell? ⟨B, off + j * 2, none⟩ = some (.int .i64 kd.id) ∧ W.cell? ⟨B, off + j * 2 + 1, none⟩ = some (.slice kd.a kd.n kd.c)
end Go.Proofs.YtmmocnokgcgmnaaDoor
