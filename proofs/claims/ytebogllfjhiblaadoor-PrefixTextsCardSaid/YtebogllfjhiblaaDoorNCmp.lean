/-
  PREFIXES: which of two is less.
-/
import Derived.Test.YtebogllfjhiblaaDoorNCut
import Derived.StillTailTactics
namespace Go.Proofs.YtebogllfjhiblaaDoor
open Go.RowKit
theorem region_tail {P : Program} {id : Nat} {Q : Exit → Act → World → Prop} {a : Act} {w : World} {l : List Oper} (n : Nat) (hm : P.follows .mixedOrders = true) (hB : Region.lexTailB .any l.toArray n = true) (W : World) (hW : w.drew = W)
    (h : wpStill P l.toArray W (fun a' => wpList P l.toArray Q (l.drop n) a' W) (l.take n) a) : (Code.region id l.toArray true).wp P Q a w := by
  subst hW
  exact wp_region_still_tail n hm hB h
theorem or_two (g : Nat) (x y z : Int) (hz0 : ¬ x = 0 → z = x) (hz1 : x = 0 → z = y) (w : World) (h0 : w.cell? ⟨g, 0, none⟩ = some (.int .i64 x)) (h1 : w.cell? ⟨g, 1, none⟩ = some (.int .i64 y)) :
    Calls Tryd.prog 36 #[.slice (some ⟨g, 0, none⟩) 2 2] w fun e w' => e = .returned (.int .i64 z) ∧ w' = w := by
  have H0 := Lib.hid hz0
  have H1 := Lib.hid hz1
  clear hz0 hz1
  go_enter Tryd.func36, Tryd.ntmps36
  go_wp2
  go_loop [8] (fun i => (i = .int .i64 0) ∨ (i = .int .i64 1 ∧ Hid (x = 0)) ∨ (i = .int .i64 2 ∧ Hid (x = 0 ∧ y = 0))) (fun i => 2 - (intOf i).toNat)
  case atStart => exact .inl rfl
  case round =>
    rcases hrel with rfl | ⟨rfl, HX⟩ | ⟨rfl, HX⟩
    · by_cases hx : x = 0
      · have HX := Lib.hid hx
        have hd : (x != 0) = false := by simpa using hx
        clear hx
        go_wp2
        go_round
        case rel => exact .inr (.inl ⟨rfl, HX⟩)
        case measure => simp [intOf]
      · have hd : (x != 0) = true := by simpa using hx
        obtain rfl := H0.out hx
        go_wp2
        go_ret
        exact ⟨rfl, rfl⟩
    · obtain rfl := H1.out HX.out
      by_cases hy : z = 0
      · have HY := Lib.hid hy
        have hd : (z != 0) = false := by simpa using hy
        clear hy
        go_wp2
        go_round
        case rel => exact .inr (.inr ⟨rfl, HX.out, HY.out⟩)
        case measure => simp [intOf]
      · have hd : (z != 0) = true := by simpa using hy
        go_wp2
        go_ret
        exact ⟨rfl, rfl⟩
    · obtain rfl := H1.out HX.out.1
      have H := Lib.hid HX.out.2
      go_wp2
      go_ret
      exact ⟨by rw [H.out]; rfl, rfl⟩
set_option maxHeartbeats 1600000 in
set_option maxRecDepth 100000 in
theorem compare_any (n : Nat) (b : Int) (m : Nat) (c : Int) (w : World) : Calls Tryd.prog 24 #[.agg #[.int .u32 n, .int .i64 b], .agg #[.int .u32 m, .int .i64 c]] w fun e w' => e = .returned (.int .i64 (cmpP (n, b) (m, c))) ∧ Below w.heap.size w w' := by
  have e : cmpP (n, b) (m, c) = if cmpI n m = 0 then cmpI b c else cmpI n m := rfl
  have h1 := cmp_u32 n m
  have h2 := cmp_int b c
  generalize cmpI n m = X at *
  generalize cmpI b c = Y at *
  generalize cmpP (n, b) (m, c) = Z at *
  have ho := or_two (w.heap.size + 2) X Y Z (fun h => by rw [e, if_neg h]) (fun h => by rw [e, if_pos h])
  clear e
  have c0 : ((w.alloc (.cells #[.int .u32 n, .int .i64 b] 24)).alloc (.cells #[.int .u32 m, .int .i64 c] 24)).drew.cell? ⟨w.heap.size, 0, none⟩ = some (.int .u32 n) := by simp
  have c1 : ((w.alloc (.cells #[.int .u32 n, .int .i64 b] 24)).alloc (.cells #[.int .u32 m, .int .i64 c] 24)).drew.cell? ⟨w.heap.size, 1, none⟩ = some (.int .i64 b) := by simp
  have c2 : ((w.alloc (.cells #[.int .u32 n, .int .i64 b] 24)).alloc (.cells #[.int .u32 m, .int .i64 c] 24)).drew.cell? ⟨w.heap.size + 1, 0, none⟩ = some (.int .u32 m) := by simp
  have c3 : ((w.alloc (.cells #[.int .u32 n, .int .i64 b] 24)).alloc (.cells #[.int .u32 m, .int .i64 c] 24)).drew.cell? ⟨w.heap.size + 1, 1, none⟩ = some (.int .i64 c) := by simp
  have B := Lib.hid (bel_drawn (((Below.refl w.heap.size w).alloc (Nat.le_refl _) (.cells #[.int .u32 n, .int .i64 b] 24)).alloc (by simp) (.cells #[.int .u32 m, .int .i64 c] 24)) 1)
  have hs : ((w.alloc (.cells #[.int .u32 n, .int .i64 b] 24)).alloc (.cells #[.int .u32 m, .int .i64 c] 24)).drew.heap.size = w.heap.size + 2 := by simp
  obtain ⟨W, hW⟩ : ∃ W, ((w.alloc (.cells #[.int .u32 n, .int .i64 b] 24)).alloc (.cells #[.int .u32 m, .int .i64 c] 24)).drew = W := ⟨_, rfl⟩
  rw [hW] at c0 c1 c2 c3 hs
  have HW := Lib.hid hW
  have HS := Lib.hid hs
  have ho2 := fun hc0 hc1 => ho (W.alloc (.cells #[.int .i64 X, .int .i64 Y] 3)) hc0 hc1
  rw [← hs] at ho2
  have ho3 := ho2 (by simp) (by simp)
  clear hW hs ho ho2
  go_enter Tryd.func24, Tryd.ntmps24
  go_wp2
  refine region_tail 10 (by kernel_rfl) (by kernel_rfl) W HW.out ?_
  simp only [List.take_succ_cons, List.take_zero, List.drop_succ_cons, List.drop_zero]
  still_step
  still_step
  still_step
  still_step
  still_call (h1 _)
  still_step
  still_step
  still_step
  still_step
  still_call (h2 _)
  refine wpStill_nil ?_
  go_wp2_with (go_at_call 36; refine ho3.mono ?_; rintro e w1 ⟨rfl, rfl⟩)
  go_ret
  refine ⟨rfl, ?_⟩
  have hs := HS.out
  have B' : Below w.heap.size w W := by rw [← HW.out]; exact B.out
  exact B'.trans ((Below.refl _ _).alloc (by omega) _)
end Go.Proofs.YtebogllfjhiblaaDoor
