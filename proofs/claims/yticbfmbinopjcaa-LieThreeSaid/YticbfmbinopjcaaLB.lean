/-
  THE BASE: what the later texts need of Math, Put, Scan, Zig, Iter, Take, Awake, Pack, Nums, Aids, RowIn, Items, Unpack, Lists, RefTake, Shape, Right, Same, SameQ, PItem, Enc, PRight, PNum, PEnc, OwnI, AwakeV, Frame.
-/
import Derived.KernelRfl
import Derived.Test.YticbfmbinopjcaaRows
import Derived.WalkKit
import Derived.Maps.AppendAt
import Derived.Laws.BitsAllLaws
import Derived.Lib.Hide
import Derived.Laws.OwnMore
import Derived.Deep.AppendLies
import Derived.RangeFuncNested
import Derived.RangeFuncBound
import Derived.RangeFuncCalls
import Derived.RangeFuncLeaves
import Derived.RangeFuncBox
import Derived.Shelf.Abstract
import Derived.Shelf.RegionOpen
import Derived.OwnWalkIn
import Derived.TacticsInMore
import Derived.LoopNIn
import Derived.LoopIn
import Derived.Laws.BytesArg
import Derived.OpenShut
import Derived.Deep.Slices
import Derived.Lib.SmallJoins
import Derived.Deep.QuietTactic
import Derived.BigQuiet
import Derived.WalkSmall
import Derived.Deep.RegionHeld
import Derived.IntWalk
import Derived.SizedLaws
import Derived.ProofKit
import Derived.ChangeOld
namespace Go.Proofs.Yticbfmbinopjcaa
section

end
section
open Go.RowKit
end
section

end
section
open Go.RowKit
end
section
open Go.RowKit Go.Shelf
attribute [local go_sem] Oper.semAt_some

/-- WHAT A SLICE OF INTEGERS READS AS: below block n₀ the cells are zs; nil, or empty, where there are none. -/
def Rd (k : IntKind) (n₀ : Nat) (W : World) (a : Option Addr) (zs : List Int) : Prop :=
  0 < zs.length → ∃ b off, a = some ⟨b, off, none⟩ ∧ b < n₀ ∧ ∀ j, j < zs.length → W.cell? ⟨b, off + j, none⟩ = some (.int k (zs[j]?.getD 0))
theorem Rd.below {k : IntKind} {n₀ : Nat} {A B : World} {a : Option Addr} {zs : List Int} (r : Rd k n₀ A a zs) (h : Below n₀ A B) : Rd k n₀ B a zs := fun hp => by
  obtain ⟨b, off, e, hb, hc⟩ := r hp
  exact ⟨b, off, e, hb, fun j hj => (h.cell (p := ⟨b, off + j, none⟩) hb).trans (hc j hj)⟩
theorem Rd.mono {k : IntKind} {n₀ n₁ : Nat} {A : World} {a : Option Addr} {zs : List Int} (r : Rd k n₀ A a zs) (h : n₀ ≤ n₁) : Rd k n₁ A a zs := fun hp => by
  obtain ⟨b, off, e, hb, hc⟩ := r hp
  exact ⟨b, off, e, by omega, hc⟩
end
section
open Go.RowKit Go.Shelf
attribute [local go_sem] Oper.semAt_some
end
section
open Go.RowKit Go.Shelf
end
section
open Go.RowKit
end
section

end
section
open Go.RowKit

theorem Rd.take {k : IntKind} {n₀ : Nat} {W : World} {a : Option Addr} {zs : List Int} (h : Rd k n₀ W a zs) (j : Nat) : Rd k n₀ W a (zs.take j) := fun hp => by
  rw [List.length_take] at hp
  obtain ⟨b, off, e, hb, hc⟩ := h (by omega)
  refine ⟨b, off, e, hb, fun i hi => ?_⟩
  rw [List.length_take] at hi
  rw [List.getElem?_take, if_pos (by omega)]
  exact hc i (by omega)
end
section
open Go.RowKit
end
section
open Go.RowKit Go.ChangeShapes Go.WideShapes

/-- An item, as data. -/
structure It where
  kind : Int
  id : Int
  n : Int
  bs : List Int

/-- A slice of items reads as l: of each item its three numbers and its bytes. -/
def RdI (n₀ : Nat) (w : World) (a : Option Addr) (l : List It) : Prop :=
  0 < l.length → ∃ b off, a = some ⟨b, off, none⟩ ∧ b < n₀ ∧ ∀ j x, l[j]? = some x →
    w.cell? ⟨b, off + j * 4, none⟩ = some (.int .i64 x.kind) ∧ w.cell? ⟨b, off + j * 4 + 1, none⟩ = some (.int .i64 x.id) ∧ w.cell? ⟨b, off + j * 4 + 2, none⟩ = some (.int .i64 x.n) ∧
    ∃ A cap, w.cell? ⟨b, off + j * 4 + 3, none⟩ = some (.slice A x.bs.length cap) ∧ x.bs.length ≤ cap ∧ cap ≤ maxLen ∧ Rd .u8 n₀ w A x.bs
/-- Its numbers are ints, its bytes are bytes. -/
def It.ok (x : It) : Prop := (Lit.int .i64 x.kind).wf = true ∧ (Lit.int .i64 x.id).wf = true ∧ (Lit.int .i64 x.n).wf = true ∧ ∀ y ∈ x.bs, (Lit.int .u8 y).wf = true

theorem RdI.below {n₀ : Nat} {A B : World} {a : Option Addr} {l : List It} (r : RdI n₀ A a l) (h : Below n₀ A B) : RdI n₀ B a l := fun hp => by
  obtain ⟨b, off, e, hb, hc⟩ := r hp
  refine ⟨b, off, e, hb, fun j x hx => ?_⟩
  obtain ⟨c0, c1, c2, S, cap, c3, hl, hm, hr⟩ := hc j x hx
  exact ⟨(h.cell (p := ⟨b, _, none⟩) hb).trans c0, (h.cell (p := ⟨b, _, none⟩) hb).trans c1, (h.cell (p := ⟨b, _, none⟩) hb).trans c2, S, cap, (h.cell (p := ⟨b, _, none⟩) hb).trans c3, hl, hm, hr.below h⟩
theorem RdI.mono {n₀ n₁ : Nat} {A : World} {a : Option Addr} {l : List It} (r : RdI n₀ A a l) (h : n₀ ≤ n₁) : RdI n₁ A a l := fun hp => by
  obtain ⟨b, off, e, hb, hc⟩ := r hp
  refine ⟨b, off, e, by omega, fun j x hx => ?_⟩
  obtain ⟨c0, c1, c2, S, cap, c3, hl, hm, hr⟩ := hc j x hx
  exact ⟨c0, c1, c2, S, cap, c3, hl, hm, hr.mono h⟩

section
variable {H : Type} {enc : TypeId × Value → H} {P : Program} {w : World}

end
end
section
open Go.RowKit Go.Shelf
attribute [local go_sem] Oper.semAt_some
end
section
open Go.RowKit

/-! ### The lists -/
end
section
open Go.RowKit
end
section
open Go.RowKit

/-- May an item be, by itself? -/
def shapeB (x : It) : Bool :=
  if x.kind = 1 then decide (1 ≤ x.id ∧ x.id ≤ 1000 ∧ x.bs.length = 0)
  else if x.kind = 2 then decide (1 ≤ x.id ∧ x.id ≤ 1000 ∧ x.n = 0)
  else if x.kind = 3 then decide (1 ≤ x.id ∧ x.id ≤ 1000 ∧ x.n = 0 ∧ x.bs.length = 0)
  else if x.kind = 4 then decide (x.id = 0 ∧ x.n = 0 ∧ x.bs.length = 0)
  else false

theorem ret_bool {a b : Bool} (h : a = b) : Ending.returned (.bool a) = .returned (.bool b) := by rw [h]
end
section
open Go.RowKit

/-- How an item turns the depth. -/
def step (x : It) (d : Int) : Int := if x.kind = 3 then d + 1 else if x.kind = 4 then d - 1 else d
def rightFrom : Int → List It → Bool
  | d, [] => d == 0
  | d, x :: l => shapeB x && decide (0 ≤ step x d ∧ step x d ≤ 8) && rightFrom (step x d) l
def rightB (l : List It) : Bool := rightFrom 0 l
end
section
open Go.RowKit
end
section
open Go.RowKit
end
section
open Go.RowKit

/-- By how much an item turns the depth. -/
def turn (x : It) : Int := if x.kind = 3 then 1 else if x.kind = 4 then -1 else 0
end
section
open Go.RowKit
end
section
open Go.RowKit
end
section
open Go.RowKit
end
section
open Go.RowKit
end
section
open Go.RowKit
theorem Try.info102 : (Try.prog.info? 102).map (fun i => (i.zero, i.size, i.bytes)) = some (some (.agg #[.int .i64 0, .int .i64 0, .int .i64 0, .slice none 0 0]), 4, 48) := by kernel_rfl
end
section
open Go.RowKit
end
section
open Go.RowKit Go.ChangeShapes Go.WideShapes
end
end Go.Proofs.Yticbfmbinopjcaa
