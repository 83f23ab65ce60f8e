/-
  THE DOCUMENT's item, in part: where there is no item (no number, or one too great); what a box of four cells is behind four stores.
-/
import Derived.Test.YtcfgjhlecfhecaaEnc
import Derived.Test.YtcfgjhlecfhecaaRefTake
namespace Go.Proofs.Ytcfgjhlecfhecaa
open Go.RowKit

theorem Box.frozen {W : World} {B : Nat} {cs : Array Value} (h : Box W B cs) (i : Nat) : W.frozen? ⟨B, i, none⟩ = false := by
  unfold Box at h
  simp [World.frozen?, h]
theorem Box.alloc {W : World} {B : Nat} {cs : Array Value} (h : Box W B cs) (o : Obj) : Box (W.alloc o) B cs := (Below.heap_alloc W o B h.lt).trans h
theorem Rd.drop {k : IntKind} {n₀ : Nat} {W : World} {b off : Nat} {zs : List Int} (h : Rd k n₀ W (some ⟨b, off, none⟩) zs) (j : Nat) : Rd k n₀ W (some ⟨b, off + j, none⟩) (zs.drop j) := fun hp => by
  rw [List.length_drop] at hp
  obtain ⟨b', off', e, hb, hc⟩ := h (by omega)
  injection e with e
  injection e with e1 e2
  subst e1 e2
  refine ⟨b, off + j, rfl, hb, fun i hi => ?_⟩
  rw [List.length_drop] at hi
  rw [List.getElem?_drop, Nat.add_assoc]
  exact hc (j + i) (by omega)
theorem Box.set_ {W : World} {B : Nat} {cs : Array Value} (h : Box W B cs) (i : Nat) (u : Value) : Box (W.setCell ⟨B, i, none⟩ u) B (cs.setIfInBounds i u) := by
  unfold Box at h ⊢
  simp [World.setCell, Array.getElem?_modify, h]
theorem Box.four {W : World} {B : Nat} {a b c d : Value} (h : Box W B #[a, b, c, d]) (v0 v1 v2 v3 : Value) :
    Box ((((W.setCell ⟨B, 0, none⟩ v0).setCell ⟨B, 1, none⟩ v1).setCell ⟨B, 2, none⟩ v2).setCell ⟨B, 3, none⟩ v3) B #[v0, v1, v2, v3] ∧
    Below B W ((((W.setCell ⟨B, 0, none⟩ v0).setCell ⟨B, 1, none⟩ v1).setCell ⟨B, 2, none⟩ v2).setCell ⟨B, 3, none⟩ v3) := by
  refine ⟨by simpa using (((h.set_ 0 v0).set_ 1 v1).set_ 2 v2).set_ 3 v3, ?_⟩
  exact ((((Below.refl B W).setCell (p := ⟨B, 0, none⟩) (Nat.le_refl _) _).setCell (p := ⟨B, 1, none⟩) (Nat.le_refl _) _).setCell (p := ⟨B, 2, none⟩) (Nat.le_refl _) _).setCell (p := ⟨B, 3, none⟩) (Nat.le_refl _) _

/-- The item that some bytes begin with, and the rest. -/
def itemS (zs : List Int) : Option (It × List Int) := match scan 0 0 zs with
  | [] => none
  | q :: _ => if 4003 < q.n then none
    else if q.n % 4 = 2 ∨ q.n % 4 = 3 then some (⟨(q.n % 4 : Nat) + 1, (q.n / 4 : Nat), 0, []⟩, zs.drop q.k)
    else match scan 0 0 (zs.drop q.k) with
      | [] => none
      | p :: _ => if q.n % 4 = 0 then some (⟨1, (q.n / 4 : Nat), zagI p.n, []⟩, (zs.drop q.k).drop p.k)
        else if ((zs.drop q.k).drop p.k).length < p.n then none
        else some (⟨2, (q.n / 4 : Nat), 0, ((zs.drop q.k).drop p.k).take p.n⟩, ((zs.drop q.k).drop p.k).drop p.n)

def NoItem (w : World) (e : Ending) (w' : World) : Prop :=
  e = .returned (.tuple #[.agg #[.int .i64 0, .int .i64 0, .int .i64 0, .slice none 0 0], .slice none 0 0, .bool false]) ∧ Below w.heap.size w w'
def AnItem (x : It) (rest : List Int) (w : World) (e : Ending) (w' : World) : Prop :=
  ∃ A c R cr, e = .returned (.tuple #[.agg #[.int .i64 x.kind, .int .i64 x.id, .int .i64 x.n, .slice A x.bs.length c], .slice R rest.length cr, .bool true]) ∧
    x.bs.length ≤ c ∧ c ≤ maxLen ∧ Rd .u8 w'.heap.size w' A x.bs ∧ rest.length ≤ cr ∧ cr ≤ 9223372036854775807 ∧ Rd .u8 w.heap.size w R rest ∧ Below w.heap.size w w'


end Go.Proofs.Ytcfgjhlecfhecaa
