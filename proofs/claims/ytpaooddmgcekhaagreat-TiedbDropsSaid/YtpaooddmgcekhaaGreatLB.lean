/-
  THE BASE: what the later texts need of Math, Put, Scan, Zig, Iter, Take, Awake, Pack, Nums, Aids, RowIn, Items, Unpack, Lists, RefTake, Shape, Right, Same, SameQ, PItem, Enc, PRight, PNum, PEnc, OwnI, AwakeV, Frame.
-/
import Derived.KernelRfl
import Derived.Test.YtpaooddmgcekhaaGreatRows
import Derived.WalkKit
import Derived.Maps.AppendAt
import Derived.Laws.BitsAllLaws
import Derived.Lib.Hide
import Derived.Laws.OwnMore
import Derived.Deep.AppendLies
import Derived.RangeFuncNested
import Derived.RangeFuncBound
import Derived.RangeFuncCalls
import Derived.RangeFuncLeaves
import Derived.RangeFuncBox
import Derived.Shelf.Abstract
import Derived.Shelf.RegionOpen
import Derived.OwnWalkIn
import Derived.TacticsInMore
import Derived.LoopNIn
import Derived.LoopIn
import Derived.Laws.BytesArg
import Derived.OpenShut
import Derived.Deep.Slices
import Derived.Lib.SmallJoins
import Derived.Deep.QuietTactic
import Derived.BigQuiet
import Derived.WalkSmall
import Derived.Deep.RegionHeld
import Derived.IntWalk
import Derived.SizedLaws
import Derived.ProofKit
import Derived.ChangeOld
namespace Go.Proofs.YtpaooddmgcekhaaGreat
section

end
section
open Go.RowKit
end
section

end
section
open Go.RowKit
end
section
open Go.RowKit Go.Shelf
attribute [local go_sem] Oper.semAt_some

/-- WHAT A SLICE OF INTEGERS READS AS: below block n₀ the cells are zs; nil, or empty, where there are none. -/
def Rd (k : IntKind) (n₀ : Nat) (W : World) (a : Option Addr) (zs : List Int) : Prop :=
  0 < zs.length → ∃ b off, a = some ⟨b, off, none⟩ ∧ b < n₀ ∧ ∀ j, j < zs.length → W.cell? ⟨b, off + j, none⟩ = some (.int k (zs[j]?.getD 0))
theorem Rd.below {k : IntKind} {n₀ : Nat} {A B : World} {a : Option Addr} {zs : List Int} (r : Rd k n₀ A a zs) (h : Below n₀ A B) : Rd k n₀ B a zs := fun hp => by
  obtain ⟨b, off, e, hb, hc⟩ := r hp
  exact ⟨b, off, e, hb, fun j hj => (h.cell (p := ⟨b, off + j, none⟩) hb).trans (hc j hj)⟩
theorem Rd.mono {k : IntKind} {n₀ n₁ : Nat} {A : World} {a : Option Addr} {zs : List Int} (r : Rd k n₀ A a zs) (h : n₀ ≤ n₁) : Rd k n₁ A a zs := fun hp => by
  obtain ⟨b, off, e, hb, hc⟩ := r hp
  exact ⟨b, off, e, by omega, hc⟩
end
section
open Go.RowKit Go.Shelf
attribute [local go_sem] Oper.semAt_some
end
section
open Go.RowKit Go.Shelf
end
section
open Go.RowKit
end
section

end
section
open Go.RowKit

theorem Rd.take {k : IntKind} {n₀ : Nat} {W : World} {a : Option Addr} {zs : List Int} (h : Rd k n₀ W a zs) (j : Nat) : Rd k n₀ W a (zs.take j) := fun hp => by
  rw [List.length_take] at hp
  obtain ⟨b, off, e, hb, hc⟩ := h (by omega)
  refine ⟨b, off, e, hb, fun i hi => ?_⟩
  rw [List.length_take] at hi
  rw [List.getElem?_take, if_pos (by omega)]
  exact hc i (by omega)
end
section
open Go.RowKit
end
section
open Go.RowKit Go.ChangeShapes Go.WideShapes

/-- An item, as data. -/
structure It where
  kind : Int
  id : Int
  n : Int
  bs : List Int

/-- A slice of items reads as l: of each item its three numbers and its bytes. -/
def RdI (n₀ : Nat) (w : World) (a : Option Addr) (l : List It) : Prop :=
  0 < l.length → ∃ b off, a = some ⟨b, off, none⟩ ∧ b < n₀ ∧ ∀ j x, l[j]? = some x →
    w.cell? ⟨b, off + j * 4, none⟩ = some (.int .i64 x.kind) ∧ w.cell? ⟨b, off + j * 4 + 1, none⟩ = some (.int .i64 x.id) ∧ w.cell? ⟨b, off + j * 4 + 2, none⟩ = some (.int .i64 x.n) ∧
    ∃ A cap, w.cell? ⟨b, off + j * 4 + 3, none⟩ = some (.slice A x.bs.length cap) ∧ x.bs.length ≤ cap ∧ cap ≤ maxLen ∧ Rd .u8 n₀ w A x.bs
/-- Its numbers are ints, its bytes are bytes. -/
def It.ok (x : It) : Prop := (Lit.int .i64 x.kind).wf = true ∧ (Lit.int .i64 x.id).wf = true ∧ (Lit.int .i64 x.n).wf = true ∧ ∀ y ∈ x.bs, (Lit.int .u8 y).wf = true

theorem RdI.below {n₀ : Nat} {A B : World} {a : Option Addr} {l : List It} (r : RdI n₀ A a l) (h : Below n₀ A B) : RdI n₀ B a l := fun hp => by
  obtain ⟨b, off, e, hb, hc⟩ := r hp
  refine ⟨b, off, e, hb, fun j x hx => ?_⟩
  obtain ⟨c0, c1, c2, S, cap, c3, hl, hm, hr⟩ := hc j x hx
  exact ⟨(h.cell (p := ⟨b, _, none⟩) hb).trans c0, (h.cell (p := ⟨b, _, none⟩) hb).trans c1, (h.cell (p := ⟨b, _, none⟩) hb).trans c2, S, cap, (h.cell (p := ⟨b, _, none⟩) hb).trans c3, hl, hm, hr.below h⟩
theorem RdI.mono {n₀ n₁ : Nat} {A : World} {a : Option Addr} {l : List It} (r : RdI n₀ A a l) (h : n₀ ≤ n₁) : RdI n₁ A a l := fun hp => by
  obtain ⟨b, off, e, hb, hc⟩ := r hp
  refine ⟨b, off, e, by omega, fun j x hx => ?_⟩
  obtain ⟨c0, c1, c2, S, cap, c3, hl, hm, hr⟩ := hc j x hx
  exact ⟨c0, c1, c2, S, cap, c3, hl, hm, hr.mono h⟩

section
variable {H : Type} {enc : TypeId × Value → H} {P : Program} {w : World}

end
end
section
open Go.RowKit Go.Shelf
attribute [local go_sem] Oper.semAt_some
end
section
open Go.RowKit

/-! ### The lists -/
end
section
open Go.RowKit
end
section
open Go.RowKit

/-- May an item be, by itself? -/
def shapeB (x : It) : Bool :=
  if x.kind = 1 then decide (1 ≤ x.id ∧ x.id ≤ 1000 ∧ x.bs.length = 0)
  else if x.kind = 2 then decide (1 ≤ x.id ∧ x.id ≤ 1000 ∧ x.n = 0)
  else if x.kind = 3 then decide (1 ≤ x.id ∧ x.id ≤ 1000 ∧ x.n = 0 ∧ x.bs.length = 0)
  else if x.kind = 4 then decide (x.id = 0 ∧ x.n = 0 ∧ x.bs.length = 0)
  else false

theorem ret_bool {a b : Bool} (h : a = b) : Ending.returned (.bool a) = .returned (.bool b) := by rw [h]
end
section
open Go.RowKit

/-- How an item turns the depth. -/
def step (x : It) (d : Int) : Int := if x.kind = 3 then d + 1 else if x.kind = 4 then d - 1 else d
def rightFrom : Int → List It → Bool
  | d, [] => d == 0
  | d, x :: l => shapeB x && decide (0 ≤ step x d ∧ step x d ≤ 8) && rightFrom (step x d) l
def rightB (l : List It) : Bool := rightFrom 0 l
end
section
open Go.RowKit
end
section
open Go.RowKit
end
section
open Go.RowKit

/-- By how much an item turns the depth. -/
def turn (x : It) : Int := if x.kind = 3 then 1 else if x.kind = 4 then -1 else 0
end
section
open Go.RowKit

theorem run_append_nilc {P : Program} {w : World} (base : Nat) (t ty e : TypeId) (i : TypeInfo) (size : Nat) (ht : P.underlying t = some (.slice e)) (hi : P.info? e = some i) {v : Value} {n : Nat} {xs : List Value} (hown : w.ownsRow base e size v n xs) (c : Nat) :
    (Builtin.append_ #[t, t] ty #[v, .slice none 0 c]).run P w = .ok v w := by
  rcases hown.2 with ⟨rfl, rfl⟩ | ⟨g, cap, cur, rfl, _, _, hnc, _⟩
  · simp [Builtin.append_, run_underlying ht, sizeOf, typeInfo, hi, Builtin.lenOf, Builtin.firstCells]
  · simp [Builtin.append_, run_underlying ht, sizeOf, typeInfo, hi, Builtin.lenOf, Builtin.firstCells, hnc, storeCells]
end
section
open Go.RowKit
end
section
open Go.RowKit
end
section
open Go.RowKit
end
section
open Go.RowKit
theorem Tryz.info146 : (Tryz.prog.info? 146).map (fun i => (i.zero, i.size, i.bytes)) = some (some (.agg #[.int .i64 0, .int .i64 0, .int .i64 0, .slice none 0 0]), 4, 48) := by kernel_rfl

/-- Cells that describe items, whose bytes lie below n₀. -/
def CellsI (n₀ : Nat) (w : World) (l : List It) (xs : List Value) : Prop :=
  xs.length = l.length * 4 ∧ ∀ j x, l[j]? = some x → xs[j * 4]? = some (.int .i64 x.kind) ∧ xs[j * 4 + 1]? = some (.int .i64 x.id) ∧ xs[j * 4 + 2]? = some (.int .i64 x.n) ∧
    ∃ A cap, xs[j * 4 + 3]? = some (.slice A x.bs.length cap) ∧ x.bs.length ≤ cap ∧ cap ≤ maxLen ∧ Rd .u8 n₀ w A x.bs

theorem CellsI.nil (n₀ : Nat) (w : World) : CellsI n₀ w [] [] := ⟨rfl, fun j x hx => by simp at hx⟩
theorem CellsI.one {n₀ : Nat} {w : World} {x : It} {A : Option Addr} {cap : Nat} (h1 : x.bs.length ≤ cap) (h2 : cap ≤ maxLen) (h : Rd .u8 n₀ w A x.bs) :
    CellsI n₀ w [x] [.int .i64 x.kind, .int .i64 x.id, .int .i64 x.n, .slice A x.bs.length cap] := by
  refine ⟨rfl, fun j y hy => ?_⟩
  match j, hy with
  | 0, hy =>
    simp only [List.getElem?_cons_zero, Option.some.injEq] at hy
    subst hy
    exact ⟨rfl, rfl, rfl, A, cap, rfl, h1, h2, h⟩
  | j + 1, hy => simp at hy
theorem CellsI.below {n₀ : Nat} {w w' : World} {l : List It} {xs : List Value} (h : CellsI n₀ w l xs) (hb : Below n₀ w w') : CellsI n₀ w' l xs := ⟨h.1, fun j x hx => by
  obtain ⟨c0, c1, c2, A, cap, c3, h1, h2, hr⟩ := h.2 j x hx
  exact ⟨c0, c1, c2, A, cap, c3, h1, h2, hr.below hb⟩⟩
theorem CellsI.mono {n₀ n₁ : Nat} {w : World} {l : List It} {xs : List Value} (h : CellsI n₀ w l xs) (hn : n₀ ≤ n₁) : CellsI n₁ w l xs := ⟨h.1, fun j x hx => by
  obtain ⟨c0, c1, c2, A, cap, c3, h1, h2, hr⟩ := h.2 j x hx
  exact ⟨c0, c1, c2, A, cap, c3, h1, h2, hr.mono hn⟩⟩
theorem CellsI.append {n₀ : Nat} {w : World} {l m : List It} {xs ys : List Value} (h : CellsI n₀ w l xs) (hm : CellsI n₀ w m ys) : CellsI n₀ w (l ++ m) (xs ++ ys) := by
  refine ⟨by rw [List.length_append, List.length_append, h.1, hm.1]; omega, fun j x hx => ?_⟩
  rcases Nat.lt_or_ge j l.length with hj | hj
  · rw [List.getElem?_append_left hj] at hx
    obtain ⟨c0, c1, c2, A, cap, c3, h1, h2, hr⟩ := h.2 j x hx
    have hl := h.1
    exact ⟨by rw [List.getElem?_append_left (by omega)]; exact c0, by rw [List.getElem?_append_left (by omega)]; exact c1, by rw [List.getElem?_append_left (by omega)]; exact c2, A, cap, by rw [List.getElem?_append_left (by omega)]; exact c3, h1, h2, hr⟩
  · rw [List.getElem?_append_right hj] at hx
    obtain ⟨c0, c1, c2, A, cap, c3, h1, h2, hr⟩ := hm.2 (j - l.length) x hx
    have hl := h.1
    refine ⟨?_, ?_, ?_, A, cap, ?_, h1, h2, hr⟩
    · rw [List.getElem?_append_right (by omega), show j * 4 - xs.length = (j - l.length) * 4 by omega]; exact c0
    · rw [List.getElem?_append_right (by omega), show j * 4 + 1 - xs.length = (j - l.length) * 4 + 1 by omega]; exact c1
    · rw [List.getElem?_append_right (by omega), show j * 4 + 2 - xs.length = (j - l.length) * 4 + 2 by omega]; exact c2
    · rw [List.getElem?_append_right (by omega), show j * 4 + 3 - xs.length = (j - l.length) * 4 + 3 by omega]; exact c3
/-- What an append takes: the cells of its source. -/
def SrcI (n₀ : Nat) (w : World) (A : Option Addr) (m : List It) : Prop :=
  ∃ ys, CellsI n₀ w m ys ∧ match A with
    | none => m = []
    | some ad => ∀ j u, ys[j]? = some u → w.cell? (ad.add j) = some u
theorem SrcI.mono {n₀ n₁ : Nat} {w : World} {A : Option Addr} {m : List It} (h : SrcI n₀ w A m) (hn : n₀ ≤ n₁) : SrcI n₁ w A m := by
  obtain ⟨ys, hc, h⟩ := h
  exact ⟨ys, hc.mono hn, h⟩

theorem RdI.src {n₀ : Nat} {w : World} {A : Option Addr} {m : List It} (h : RdI n₀ w A m) : SrcI n₀ w A m := by
  by_cases hm : 0 < m.length
  · obtain ⟨b, off, rfl, hb, hc⟩ := h hm
    have hat : ∀ i, i < m.length * 4 → ∃ u, w.cell? ⟨b, off + i, none⟩ = some u := by
      intro i hi
      obtain ⟨c0, c1, c2, A, cap, c3, _⟩ := hc (i / 4) _ (List.getElem?_eq_getElem (show i / 4 < m.length by omega))
      have h4 : i % 4 = 0 ∨ i % 4 = 1 ∨ i % 4 = 2 ∨ i % 4 = 3 := by omega
      rcases h4 with h4 | h4 | h4 | h4
      · rw [show off + i / 4 * 4 = off + i by omega] at c0; exact ⟨_, c0⟩
      · rw [show off + i / 4 * 4 + 1 = off + i by omega] at c1; exact ⟨_, c1⟩
      · rw [show off + i / 4 * 4 + 2 = off + i by omega] at c2; exact ⟨_, c2⟩
      · rw [show off + i / 4 * 4 + 3 = off + i by omega] at c3; exact ⟨_, c3⟩
    have hg : ∀ i, i < m.length * 4 → ((List.range (m.length * 4)).map fun i => (w.cell? ⟨b, off + i, none⟩).getD (.int .i64 0))[i]? = w.cell? ⟨b, off + i, none⟩ := by
      intro i hi
      obtain ⟨u, hu⟩ := hat i hi
      simp [hi, hu]
    refine ⟨(List.range (m.length * 4)).map fun i => (w.cell? ⟨b, off + i, none⟩).getD (.int .i64 0), ⟨by simp, fun j x hx => ?_⟩, ?_⟩
    · have hj : j < m.length := by
        rcases Nat.lt_or_ge j m.length with h1 | h1
        · exact h1
        · rw [List.getElem?_eq_none h1] at hx; cases hx
      obtain ⟨c0, c1, c2, A, cap, c3, h1, h2, hr⟩ := hc j x hx
      exact ⟨(hg _ (by omega)).trans c0, (hg _ (by omega)).trans c1, (hg _ (by omega)).trans c2, A, cap, (hg _ (by omega)).trans c3, h1, h2, hr⟩
    · intro j u hu
      have hj : j < m.length * 4 := by
        rcases Nat.lt_or_ge j (m.length * 4) with h1 | h1
        · exact h1
        · rw [List.getElem?_eq_none (by simpa using h1)] at hu; cases hu
      have hadd : (⟨b, off, none⟩ : Addr).add j = ⟨b, off + j, none⟩ := by unfold Addr.add; split <;> simp_all
      rw [hadd, ← hg j hj]
      exact hu
  · obtain rfl : m = [] := List.eq_nil_of_length_eq_zero (by omega)
    refine ⟨[], CellsI.nil _ _, ?_⟩
    cases A with
    | none => rfl
    | some ad => intro j u hu; simp at hu
end
section
open Go.RowKit
end
section
open Go.RowKit Go.ChangeShapes Go.WideShapes
end
end Go.Proofs.YtpaooddmgcekhaaGreat
