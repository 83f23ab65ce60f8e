/-
  THE PROGRAM's Pack and Unpack, and the document's Same, at lists of many numbers: what Pack packs is unpacked as it was; what is unpacked was packed so; Same answers true of a list and itself.
-/
import Derived.Test.YthdlcpnmldhllaaDoorUnpack
import Derived.Test.YthdlcpnmldhllaaDoorRowIn
import Derived.Deep.QuietTactic
import Derived.BigQuiet
import Derived.WalkSmall
namespace Go.Proofs.YthdlcpnmldhllaaDoor
open Go.RowKit

theorem rd_of_row {W : World} {base : Nat} {e : TypeId} {k : IntKind} {A : Option Addr} {n m c : Nat} {zs : List Int} (h : W.ownsRow base e 1 (.slice A m c) n (zs.map (Value.int k))) : Rd k W.heap.size W A zs := fun hp => by
  have hn : 0 < n := by have := h.1; simp at this; omega
  obtain ⟨g, c', e', _, _⟩ := h.form hn
  injection e' with e1 e2 e3
  subst e1 e2 e3
  exact Rd.of_own (n := m) h hp

/-! ### The lists -/
theorem zig64 {n : Int} (h : (Lit.int .i64 n).wf = true) : (zigI n).toNat < 18446744073709551616 ∧ (((zigI n).toNat : Nat) : Int) = zigI n := by
  have := wf_i64 h
  have := zig_range this.1 this.2
  omega
theorem packL_cons (n : Int) (l : List Int) : packL (n :: l) = putL (zigI n).toNat ++ packL l := by simp [packL]
theorem scan_pack (l : List Int) (hl : ∀ x ∈ l, (Lit.int .i64 x).wf = true) : zags (scan 0 0 (packL l)) = l ∧ used (scan 0 0 (packL l)) = (packL l).length := by
  induction l with
  | nil => exact ⟨rfl, rfl⟩
  | cons n l ih =>
    obtain ⟨h1, h2⟩ := ih (fun x hx => hl x (by simp [hx]))
    obtain ⟨z1, z2⟩ := zig64 (hl n (by simp))
    rw [packL_cons, scan_put0 z1]
    have e : zags (Num.of (zigI n).toNat (putL (zigI n).toNat).length :: scan 0 0 (packL l)) = zagI ((Num.of (zigI n).toNat (putL (zigI n).toNat).length).n : Nat) :: zags (scan 0 0 (packL l)) := rfl
    have e2 : used (Num.of (zigI n).toNat (putL (zigI n).toNat).length :: scan 0 0 (packL l)) = (Num.of (zigI n).toNat (putL (zigI n).toNat).length).k + used (scan 0 0 (packL l)) := rfl
    rw [e, e2, h1, h2, Num.of_n z1, z2, zag_zig, Num.of_k (putL_len10 z1), List.length_append]
    exact ⟨rfl, rfl⟩
theorem packL_bytes (l : List Int) : ∀ x ∈ packL l, 0 ≤ x ∧ x ≤ 255 := by
  intro x hx
  obtain ⟨n, _, h⟩ := List.mem_flatMap.1 hx
  exact putL_range _ x h
theorem pack_scan : ∀ (k : Nat) (zs : List Int), zs.length ≤ k → (∀ x ∈ zs, 0 ≤ x ∧ x ≤ 255) → used (scan 0 0 zs) = zs.length → packL (zags (scan 0 0 zs)) = zs := by
  intro k
  induction k with
  | zero =>
    intro zs h _ _
    obtain rfl := List.eq_nil_of_length_eq_zero (by omega : zs.length = 0)
    rfl
  | succ k ih =>
    intro zs h hb hu
    rcases hsc : scan 0 0 zs with _ | ⟨q, qs⟩
    · rw [hsc] at hu
      have h0 : zs.length = 0 := hu.symm
      obtain rfl := List.eq_nil_of_length_eq_zero h0
      rfl
    · obtain ⟨h0, h1, h2, h3⟩ := scan_first0 hb hsc
      rw [hsc] at hu
      have hu' : q.k + used qs = zs.length := hu
      rw [h3] at hu' ⊢
      have hq := q.hn
      have e : zags (q :: scan 0 0 (zs.drop q.k)) = zagI (q.n : Nat) :: zags (scan 0 0 (zs.drop q.k)) := rfl
      rw [e, packL_cons, zig_zag (by omega), ih (zs.drop q.k) (by rw [List.length_drop]; omega) (fun x hx => hb x (List.mem_of_mem_drop hx)) (by rw [List.length_drop]; omega)]
      rw [show ((q.n : Int)).toNat = q.n by omega, ← h2, List.take_append_drop]
theorem zags_ints (l : List Num) : Ints64 (zags l) := fun j => by
  rcases hz : (zags l)[j]? with _ | x
  · simp
  · obtain ⟨q, _, rfl⟩ := List.mem_map.1 (List.mem_of_getElem? hz)
    have := q.hn
    have := zag_range (u := (q.n : Int)) (by omega) (by omega)
    simpa using this
theorem zags_len (l : List Num) : (zags l).length = l.length := by simp [zags]
theorem used_ge (l : List Num) (h : ∀ q ∈ l, 0 < q.k) : l.length ≤ used l := by
  induction l with
  | nil => simp [used]
  | cons q l ih =>
    have h1 := h q (by simp)
    have h2 := ih (fun x hx => h x (by simp [hx]))
    have e : used (q :: l) = q.k + used l := rfl
    simp only [List.length_cons]
    omega
theorem scan_len : ∀ (k : Nat) (zs : List Int), zs.length ≤ k → (∀ x ∈ zs, 0 ≤ x ∧ x ≤ 255) → (scan 0 0 zs).length ≤ zs.length := by
  intro k
  induction k with
  | zero =>
    intro zs h _
    obtain rfl := List.eq_nil_of_length_eq_zero (by omega : zs.length = 0)
    exact Nat.le_refl _
  | succ k ih =>
    intro zs h hb
    rcases hsc : scan 0 0 zs with _ | ⟨q, qs⟩
    · simp
    · obtain ⟨h0, h1, h2, h3⟩ := scan_first0 hb hsc
      have := ih (zs.drop q.k) (by rw [List.length_drop]; omega) (fun x hx => hb x (List.mem_of_mem_drop hx))
      rw [List.length_drop, ← h3] at this
      simp only [List.length_cons]
      omega

end Go.Proofs.YthdlcpnmldhllaaDoor
