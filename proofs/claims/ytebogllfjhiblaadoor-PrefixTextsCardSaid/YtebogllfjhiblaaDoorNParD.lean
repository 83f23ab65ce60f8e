/-
  PREFIXES: the document's prefix of a text: the machine over the bytes: what it is.
-/
import Derived.Test.YtebogllfjhiblaaDoorNFig
namespace Go.Proofs.YtebogllfjhiblaaDoor
set_option linter.unusedVariables false
open Go.RowKit
def setF (f : Nat → Nat) (i v : Nat) : Nat → Nat := fun j => if j = i then v else f j
def mach : List UInt8 → (Nat → Nat) → Nat → Option (Nat → Nat)
  | [], f, _ => some f
  | c :: r, f, i =>
    if 48 ≤ c.toNat ∧ c.toNat ≤ 57 then
      if 255 < f i * 10 + (c.toNat - 48) then none else mach r (setF f i (f i * 10 + (c.toNat - 48))) i
    else if 4 < i + 1 then none else mach r f (i + 1)
def zeroF : Nat → Nat := fun _ => 0
/-- A row of five numbers. -/
def Arr (W : World) (k : Nat) (f : Nat → Nat) : Prop := W.heap[k]? = some (.cells #[.int .i64 (f 0), .int .i64 (f 1), .int .i64 (f 2), .int .i64 (f 3), .int .i64 (f 4)] 46 (0, 0))
theorem Arr.lt {W : World} {k : Nat} {f : Nat → Nat} (h : Arr W k f) : k < W.heap.size := (Array.getElem?_eq_some_iff.1 h).1
theorem Arr.new (w : World) : Arr (w.alloc (.cells #[.int .i64 0, .int .i64 0, .int .i64 0, .int .i64 0, .int .i64 0] 46)) w.heap.size zeroF := heap_alloc_new w _
theorem Arr.at {W : World} {k : Nat} {f : Nat → Nat} (h : Arr W k f) {j : Nat} (hj : j < 5) : W.cell? ⟨k, j, none⟩ = some (.int .i64 (f j)) ∧ W.frozen? ⟨k, j, none⟩ = false := by
  unfold Arr at h
  match j, hj with
  | 0, _ => exact ⟨by simp [World.cell?, h], by simp [World.frozen?, h]⟩
  | 1, _ => exact ⟨by simp [World.cell?, h], by simp [World.frozen?, h]⟩
  | 2, _ => exact ⟨by simp [World.cell?, h], by simp [World.frozen?, h]⟩
  | 3, _ => exact ⟨by simp [World.cell?, h], by simp [World.frozen?, h]⟩
  | 4, _ => exact ⟨by simp [World.cell?, h], by simp [World.frozen?, h]⟩
theorem Arr.set {W : World} {k : Nat} {f : Nat → Nat} (h : Arr W k f) {j : Nat} (hj : j < 5) (v : Nat) : Arr (W.setCell ⟨k, j, none⟩ (.int .i64 v)) k (setF f j v) := by
  unfold Arr at h ⊢
  rw [heap_setCell_same W k j _ _ _ h]
  match j, hj with
  | 0, _ => rfl
  | 1, _ => rfl
  | 2, _ => rfl
  | 3, _ => rfl
  | 4, _ => rfl
theorem Bx.other {W : World} {k : Nat} {a b : Value} (h : Bx W k a b) {p : Addr} (hp : p.block ≠ k) (v : Value) : Bx (W.setCell p v) k a b := by
  unfold Bx at h ⊢
  show (W.heap.modify p.block _)[k]? = _
  rw [Array.getElem?_modify, if_neg hp]
  exact h
theorem Bx.set0 {W : World} {k : Nat} {a b : Value} (h : Bx W k a b) (x : Value) : Bx (W.setCell ⟨k, 0, none⟩ x) k x b := by
  unfold Bx at h ⊢
  rw [heap_setCell_same W k 0 _ _ x h]
  rfl
def numF (f : Nat → Nat) : Nat := f 0 * 16777216 + f 1 * 65536 + f 2 * 256 + f 3
def rparseS (l : List UInt8) : Option (Nat × Int) := if 18 < l.length then none else match mach l zeroF 0 with
  | none => none
  | some f => if l = [] ∨ textP (numF f, (f 4 : Int)) ≠ l then none else some (numF f, (f 4 : Int))
theorem rparse_none {l : List UInt8} (h : mach l zeroF 0 = none) : rparseS l = none := by
  unfold rparseS
  rw [h]
  split <;> rfl
theorem mach_step {c : UInt8} {x : Nat} (hc : c.toNat = x) (r : List UInt8) (f : Nat → Nat) (i : Nat) : mach (c :: r) f i = if 48 ≤ x ∧ x ≤ 57 then (if 255 < f i * 10 + (x - 48) then none else mach r (setF f i (f i * 10 + (x - 48))) i) else if 4 < i + 1 then none else mach r f (i + 1) := by
  subst hc
  rw [mach]
theorem setF_le {f : Nat → Nat} (h : ∀ j, j < 5 → f j ≤ 255) (i v : Nat) (hv : v ≤ 255) : ∀ j, j < 5 → setF f i v j ≤ 255 := by
  intro j hj
  unfold setF
  split
  · exact hv
  · exact h j hj
end Go.Proofs.YtebogllfjhiblaaDoor
