/-
  PREFIXES: what the sort asks; the sort of two prefixes of which the second is less.
-/
import Derived.Test.YtebogllfjhiblaaDoorNJoin
import Derived.Test.YtebogllfjhiblaaDoorNShelf
import Derived.Shelf.GgSortFunc.SmallK
namespace Go.Proofs.YtebogllfjhiblaaDoor
set_option linter.unusedVariables false
open Go.RowKit
set_option maxHeartbeats 1600000 in
set_option maxRecDepth 100000 in
/-- The closure that the sort is handed. -/
theorem less_any (base g c Bs n : Nat) (L : List (Nat × Int)) (hn : L.length = n) (hn1 : n ≤ 1000) (i j : Nat) (p q : Nat × Int) (hi : L[i]? = some p) (hj : L[j]? = some q) (w : World) (ho : OwnP w base (.slice (some ⟨g, 0, none⟩) n c) L) (hb : Bx1 w Bs 37 (.slice (some ⟨g, 0, none⟩) n c)) :
    Calls Tryd.prog 48 #[.int .i64 i, .int .i64 j, .pointer (some ⟨Bs, 0, none⟩)] w fun e w' => e = .returned (.bool (ltP p q)) ∧ Below w.heap.size w w' := by
  have hin : i < n := by have := (List.getElem?_eq_some_iff.1 hi).1; omega
  have hjn : j < n := by have := (List.getElem?_eq_some_iff.1 hj).1; omega
  obtain ⟨a0, a1⟩ := ho.cell hi
  obtain ⟨b0, b1⟩ := ho.cell hj
  obtain ⟨s0, _⟩ := hb.cells
  have hc := compare_any p.1 p.2 q.1 q.2
  rw [show ((p.1, p.2) : Nat × Int) = p from rfl, show ((q.1, q.2) : Nat × Int) = q from rfl] at hc
  unfold ltP
  generalize cmpP p q = Z at *
  obtain ⟨W, hW⟩ : ∃ W, w.drew = W := ⟨_, rfl⟩
  have e0 : W.cell? ⟨Bs, 0, none⟩ = some (.slice (some ⟨g, 0, none⟩) n c) := by rw [← hW]; exact s0
  have e1 : W.cell? ⟨g, i * 2, none⟩ = some (.int .u32 p.1) := by rw [← hW]; exact a0
  have e2 : W.cell? ⟨g, i * 2 + 1, none⟩ = some (.int .i64 p.2) := by rw [← hW]; exact a1
  have e3 : W.cell? ⟨g, j * 2, none⟩ = some (.int .u32 q.1) := by rw [← hW]; exact b0
  have e4 : W.cell? ⟨g, j * 2 + 1, none⟩ = some (.int .i64 q.2) := by rw [← hW]; exact b1
  have HW := Lib.hid hW
  clear ho hb hi hj hn a0 a1 b0 b1 s0 hW
  go_enter Tryd.func48, Tryd.ntmps48
  go_wp2
  refine region_tail 8 (by kernel_rfl) (by kernel_rfl) W HW.out ?_
  simp only [List.take_succ_cons, List.take_zero, List.drop_succ_cons, List.drop_zero]
  still_step
  still_step
  still_step
  still_step
  still_step
  still_step
  still_step
  still_step
  refine wpStill_nil ?_
  go_wp2_with (go_at_call 24; refine (hc W).mono ?_; rintro e w1 ⟨rfl, hb1⟩; have HB := Lib.hid hb1; clear hb1)
  go_ret
  refine ⟨rfl, ?_⟩
  have h1 : Below w.heap.size w W := by rw [← HW.out]; exact bel_drawn (Below.refl _ _) 1
  have h2 : W.heap.size = w.heap.size := by rw [← HW.out]; rfl
  have h3 := HB.out
  rw [h2] at h3
  exact h1.trans h3
end Go.Proofs.YtebogllfjhiblaaDoor
