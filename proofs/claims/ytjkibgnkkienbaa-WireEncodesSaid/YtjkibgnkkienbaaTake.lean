/-
  THE PROGRAM s Take: it ranges over the iterator and returns out of the first round: the first number of "scan" and the number of its bytes, or ErrForm; what was there is as it was.
-/
import Derived.Test.YtjkibgnkkienbaaIter
namespace Go.Proofs.Ytjkibgnkkienbaa
open Go.RowKit Go.Shelf
attribute [local go_sem] Oper.semAt_some

/-- The first number, the number of its bytes, and no error; or none. -/
def takeS (zs : List Int) : Int × Int × Int := match scan 0 0 zs with
  | [] => (0, 0, 2)
  | q :: _ => (q.n, q.k, 0)

/-- Three stores into three boxes in a row. -/
theorem three_set {W : World} {B : Nat} {u0 u1 u2 : Value} (hc0 : W.cell? ⟨B, 0, none⟩ = some u0) (hc1 : W.cell? ⟨B + 1, 0, none⟩ = some u1) (hc2 : W.cell? ⟨B + 1 + 1, 0, none⟩ = some u2) (v0 v1 v2 : Value) :
    (((W.setCell ⟨B, 0, none⟩ v0).setCell ⟨B + 1, 0, none⟩ v1).setCell ⟨B + 1 + 1, 0, none⟩ v2).cell? ⟨B, 0, none⟩ = some v0 ∧
    (((W.setCell ⟨B, 0, none⟩ v0).setCell ⟨B + 1, 0, none⟩ v1).setCell ⟨B + 1 + 1, 0, none⟩ v2).cell? ⟨B + 1, 0, none⟩ = some v1 ∧
    (((W.setCell ⟨B, 0, none⟩ v0).setCell ⟨B + 1, 0, none⟩ v1).setCell ⟨B + 1 + 1, 0, none⟩ v2).cell? ⟨B + 1 + 1, 0, none⟩ = some v2 ∧
    KeepsOthers W (((W.setCell ⟨B, 0, none⟩ v0).setCell ⟨B + 1, 0, none⟩ v1).setCell ⟨B + 1 + 1, 0, none⟩ v2) ∧
    Below B W (((W.setCell ⟨B, 0, none⟩ v0).setCell ⟨B + 1, 0, none⟩ v1).setCell ⟨B + 1 + 1, 0, none⟩ v2) := by
  have a1 : (W.setCell ⟨B, 0, none⟩ v0).cell? ⟨B + 1, 0, none⟩ = some u1 := (World.cell?_setCell_other _ _ _ _ (by simp)).trans hc1
  have a2 : ((W.setCell ⟨B, 0, none⟩ v0).setCell ⟨B + 1, 0, none⟩ v1).cell? ⟨B + 1 + 1, 0, none⟩ = some u2 := (World.cell?_setCell_other _ _ _ _ (by simp)).trans ((World.cell?_setCell_other _ _ _ _ (by simp)).trans hc2)
  refine ⟨?_, ?_, ?_, ?_, ?_⟩
  · exact (World.cell?_setCell_other _ _ _ _ (by simp)).trans ((World.cell?_setCell_other _ _ _ _ (by simp)).trans (World.cell?_setCell_same' _ _ _ (by rw [hc0]; rfl)))
  · exact (World.cell?_setCell_other _ _ _ _ (by simp)).trans (World.cell?_setCell_same' _ _ _ (by rw [a1]; rfl))
  · exact World.cell?_setCell_same' _ _ _ (by rw [a2]; rfl)
  · exact ((KeepsOthers.setCell _ _ _).trans (KeepsOthers.setCell _ _ _)).trans (KeepsOthers.setCell _ _ _)
  · exact (((Below.refl B W).setCell (p := ⟨B, 0, none⟩) (Nat.le_refl _) _).setCell (p := ⟨B + 1, 0, none⟩) (by simp) _).setCell (p := ⟨B + 1 + 1, 0, none⟩) (by simp; omega) _

end Go.Proofs.Ytjkibgnkkienbaa
