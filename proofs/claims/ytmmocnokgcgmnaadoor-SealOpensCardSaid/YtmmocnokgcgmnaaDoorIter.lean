/-
  THE ITERATOR: the function that the program ranges over yields just the numbers of "scan", each with the number of its bytes, at every slice of bytes; a round may stop it.
-/
import Derived.Test.YtmmocnokgcgmnaaDoorZig
import Derived.RangeFuncNested
import Derived.RangeFuncBound
import Derived.RangeFuncCalls
import Derived.RangeFuncLeaves
import Derived.RangeFuncBox
import Derived.Shelf.Abstract
import Derived.Shelf.RegionOpen
import Derived.WalkKit
import Derived.OwnWalkIn
import Derived.TacticsInMore
import Derived.LoopNIn
import Derived.LoopIn
namespace Go.Proofs.YtmmocnokgcgmnaaDoor
open Go.RowKit Go.Shelf
attribute [local go_sem] Oper.semAt_some

/-- WHAT A SLICE OF INTEGERS READS AS: below block n₀ the cells are zs; nil, or empty, where there are none. -/
def Rd (k : IntKind) (n₀ : Nat) (W : World) (a : Option Addr) (zs : List Int) : Prop :=
  0 < zs.length → ∃ b off, a = some ⟨b, off, none⟩ ∧ b < n₀ ∧ ∀ j, j < zs.length → W.cell? ⟨b, off + j, none⟩ = some (.int k (zs[j]?.getD 0))
theorem Rd.below {k : IntKind} {n₀ : Nat} {A B : World} {a : Option Addr} {zs : List Int} (r : Rd k n₀ A a zs) (h : Below n₀ A B) : Rd k n₀ B a zs := fun hp => by
  obtain ⟨b, off, e, hb, hc⟩ := r hp
  exact ⟨b, off, e, hb, fun j hj => (h.cell (p := ⟨b, off + j, none⟩) hb).trans (hc j hj)⟩
theorem Rd.mono {k : IntKind} {n₀ n₁ : Nat} {A : World} {a : Option Addr} {zs : List Int} (r : Rd k n₀ A a zs) (h : n₀ ≤ n₁) : Rd k n₁ A a zs := fun hp => by
  obtain ⟨b, off, e, hb, hc⟩ := r hp
  exact ⟨b, off, e, by omega, hc⟩

/-- The bytes of a slice are bytes. -/
def Bytes (zs : List Int) : Prop := ∀ j : Nat, 0 ≤ zs[j]?.getD 0 ∧ zs[j]?.getD 0 ≤ 255

theorem step_bits {n p : Nat} {x : Int} (hw : Way n p) (hm : may x p = true) (h0 : 0 ≤ x) (h1 : x ≤ 255) :
    bits BinOp.or IntKind.u64 (↑n) (IntKind.u64.wrap (IntKind.u64.wrap (bits BinOp.andNot IntKind.u8 x 128) * 2 ^ (7 * p))) = ((n + (x % 128).toNat * 128 ^ p : Nat) : Int) := by
  have hfit := way_fit hw hm
  obtain ⟨hp, hn⟩ := hw
  obtain ⟨y, rfl⟩ : ∃ y : Nat, x = y := ⟨x.toNat, by omega⟩
  have e1 : bits BinOp.andNot IntKind.u8 (y : Int) 128 = ((y % 128 : Nat) : Int) := by
    have h := u8_andNot_nat y 128 (by omega) (by decide)
    refine h.trans ?_
    rw [show 255 - 128 = 2 ^ 7 - 1 by decide, Nat.and_two_pow_sub_one_eq_mod]
  rw [e1]
  have e2 : ((y : Int) % 128).toNat = y % 128 := by omega
  rw [e2] at hfit ⊢
  have e3 : (2 : Int) ^ (7 * p) = ((128 ^ p : Nat) : Int) := by
    rw [Int.pow_mul]
    simp
  have e4 : IntKind.u64.wrap (((y % 128 : Nat)) : Int) = ((y % 128 : Nat) : Int) := by
    rw [IntKind.wrap_u64]; omega
  rw [e4, e3, ← Int.natCast_mul]
  have e5 : IntKind.u64.wrap ((y % 128 * 128 ^ p : Nat) : Int) = ((y % 128 * 128 ^ p : Nat) : Int) := by
    rw [IntKind.wrap_u64]; omega
  rw [e5, u64_or_nat _ _ (by omega) (by omega)]
  have e6 : 128 ^ p = 2 ^ (7 * p) := by rw [Nat.pow_mul]
  rw [e6] at hn ⊢
  have h := Nat.shiftLeft_add_eq_or_of_lt hn (y % 128)
  rw [Nat.shiftLeft_eq] at h
  rw [Nat.or_comm, ← h, Nat.add_comm]

end Go.Proofs.YtmmocnokgcgmnaaDoor
