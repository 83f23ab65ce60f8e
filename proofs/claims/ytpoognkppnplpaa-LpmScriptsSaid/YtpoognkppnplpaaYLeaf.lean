/-
  PREFIXES: what is right, in, less (the program).
-/
import Derived.Test.YtpoognkppnplpaaProg
import Derived.Test.YtpoognkppnplpaaNMath
import Derived.WalkKit
import Derived.Below
import Derived.BigQuiet
import Derived.Deep.QuietTactic
import Derived.Deep.RegionHeld
import Derived.Deep.RegionWith
import Derived.Laws.BitsAll
import Derived.Laws.BitsAllLaws
import Derived.StillTailTactics
namespace Go.Proofs.Ytpoognkppnplpaa
set_option linter.unusedVariables false
set_option linter.unusedSimpArgs false
open Go.RowKit
theorem bel_drawn {B : Nat} {W W' : World} (h : Below B W W') (n : Nat) : Below B W (W'.drewN n) := ⟨h.os, h.tape, h.output, h.size, h.block⟩
theorem keepC {B : Nat} {W W' : World} {p : Addr} {v : Value} (h : Below B W W') (hp : p.block < B) (hc : W.cell? p = some v) : W'.cell? p = some v := (h.cell hp).trans hc
theorem boxed {w : World} {cs : Array Value} {t : TypeId} {w' : World} (h : Below (w.alloc (.cells cs t)).drew.heap.size (w.alloc (.cells cs t)).drew w') : Below w.heap.size w w' :=
  (bel_drawn ((Below.refl _ _).alloc (Nat.le_refl _) _) 1).trans (h.mono (by simp))
theorem rightBits_any (b : Int) (w : World) : Calls Try.prog 38 #[.int .i64 b] w fun e w' => e = .returned (.bool (rightB b)) ∧ w' = w := by
  by_cases h0 : 0 ≤ b
  · by_cases h1 : b ≤ 32
    · have e : rightB b = true := by unfold rightB; exact decide_eq_true ⟨h0, h1⟩
      rw [e]
      clear e
      go_enter Try.func38, Try.ntmps38
      go_wp2
      go_ret
      exact ⟨rfl, rfl⟩
    · have e : rightB b = false := by unfold rightB; exact decide_eq_false (by omega)
      rw [e]
      clear e
      go_enter Try.func38, Try.ntmps38
      go_wp2
      go_ret
      exact ⟨rfl, rfl⟩
  · have e : rightB b = false := by unfold rightB; exact decide_eq_false (by omega)
    have h2 : decide (0 ≤ b) = false := decide_eq_false h0
    rw [e]
    clear e
    go_enter Try.func38, Try.ntmps38
    go_wp2
    go_ret
    exact ⟨rfl, rfl⟩
/-- The mask of so many bits. -/
def maskP (b : Int) : Nat := 4294967296 - sizeP b
theorem maskP_lt (b : Int) : maskP b < 4294967296 := by have := sizeP_pos b; unfold maskP; omega
theorem mask_val {b : Int} (h0 : 0 ≤ b) (h1 : b ≤ 32) : (4294967295 * 2 ^ (32 - b).toNat % 4294967296 : Int) = ((maskP b : Nat) : Int) := by
  have e : ((2 : Int) ^ (32 - b).toNat) = ((sizeP b : Nat) : Int) := by
    unfold sizeP
    rw [show (32 - b).toNat = 32 - b.toNat by omega]
    simp
  have := sizeP_pos b
  have := sizeP_le (b := b)
  rw [e]
  unfold maskP
  omega
theorem mask_any (b : Int) (h0 : 0 ≤ b) (h1 : b ≤ 32) (w : World) : Calls Try.prog 32 #[.int .i64 b] w fun e w' => e = .returned (.int .u32 (maskP b : Nat)) ∧ w' = w := by
  have hm := Lib.hid (mask_val h0 h1)
  go_enter Try.func32, Try.ntmps32
  go_wp2
  go_ret
  exact ⟨by rw [← hm.out]; rfl, rfl⟩
theorem bits_and {a : Nat} {b : Int} (ha : a < 4294967296) : bits .and .u32 (a : Int) (maskP b : Int) = ((a - a % sizeP b : Nat) : Int) := by
  rw [u32_and_nat a (maskP b) ha (maskP_lt b)]
  unfold maskP sizeP
  rw [and_mask a _ (by omega) ha]
theorem bits_andNot {a : Nat} {b : Int} (ha : a < 4294967296) : bits .andNot .u32 (a : Int) (maskP b : Int) = ((a % sizeP b : Nat) : Int) := by
  rw [u32_andNot_nat a (maskP b) ha (maskP_lt b)]
  unfold maskP sizeP
  rw [and_rest a _ (by omega)]
theorem right_any (n : Nat) (hn : n < 4294967296) (b : Int) (w : World) : Calls Try.prog 24 #[.agg #[.int .u32 n, .int .i64 b]] w fun e w' => e = .returned (.bool (rightP (n, b))) ∧ Below w.heap.size w w' := by
  have hr := rightBits_any b
  by_cases hb : rightB b = true
  · have h := hb
    unfold rightB at h
    have h01 := of_decide_eq_true h
    have hm := mask_any b h01.1 h01.2
    have hbit := bits_andNot (b := b) hn
    have m0 : (0 : Int) ≤ (maskP b : Int) := by omega
    have m1 : ((maskP b : Nat) : Int) < 4294967296 := by have := maskP_lt b; omega
    have e : rightP (n, b) = decide (((n % sizeP b : Nat) : Int) = 0) := by unfold rightP; rw [hb, Bool.true_and]; exact decide_eq_decide.2 (by generalize n % sizeP b = S; omega)
    rw [e]
    rw [hb] at hr
    generalize hS : n % sizeP b = S at *
    clear hS h e hb h01
    go_enter Try.func24, Try.ntmps24
    go_wp2
    go_quiet ((first | (go_at_call 38; exact Calls.quiet_of_same (hr _)) | (go_at_call 32; exact Calls.quiet_of_same (hm _))))
    go_wp2
    go_ret
    exact ⟨rfl, bel_drawn ((Below.refl _ _).alloc (Nat.le_refl _) _) _⟩
  · have hb : rightB b = false := by simpa using hb
    have e : rightP (n, b) = false := by unfold rightP; rw [hb, Bool.false_and]
    rw [e]
    rw [hb] at hr
    clear e hb
    go_enter Try.func24, Try.ntmps24
    go_wp2
    go_quiet ((go_at_call 38; exact Calls.quiet_of_same (hr _)))
    go_wp2
    go_ret
    exact ⟨rfl, bel_drawn ((Below.refl _ _).alloc (Nat.le_refl _) _) _⟩
/-- A prefix as the program holds it. -/
abbrev PV (n : Nat) (b : Int) : Value := .agg #[.int .u32 n, .int .i64 b]
set_option maxHeartbeats 1600000 in
set_option maxRecDepth 100000 in
theorem in_any (n : Nat) (hn : n < 4294967296) (b : Int) (a : Nat) (ha : a < 4294967296) (w : World) : Calls Try.prog 19 #[.agg #[.int .u32 n, .int .i64 b], .int .u32 a] w fun e w' => e = .returned (.bool (inP (n, b) a)) ∧ Below w.heap.size w w' := by
  have hr := right_any n hn b
  by_cases hp : rightP (n, b) = true
  · have h01 : 0 ≤ b ∧ b ≤ 32 := by
      have h := hp
      unfold rightP rightB at h
      simp only [Bool.and_eq_true, decide_eq_true_eq] at h
      exact h.1
    have hm := mask_any b h01.1 h01.2
    have hbit := bits_and (b := b) ha
    have m0 : (0 : Int) ≤ (maskP b : Int) := by omega
    have m1 : ((maskP b : Nat) : Int) < 4294967296 := by have := maskP_lt b; omega
    have e : inP (n, b) a = decide (((a - a % sizeP b : Nat) : Int) = n) := by unfold inP; rw [hp, Bool.true_and]; exact decide_eq_decide.2 (by show a - a % sizeP b = n ↔ _; generalize a - a % sizeP b = S; omega)
    rw [e]
    rw [hp] at hr
    generalize hS : a - a % sizeP b = S at *
    clear hS e hp h01
    go_enter Try.func19, Try.ntmps19
    go_wp2
    have d0 : (w.alloc (.cells #[.int .u32 n, .int .i64 b] 25)).drew.cell? ⟨w.heap.size, 0, none⟩ = some (.int .u32 n) := by simp
    have d1 : (w.alloc (.cells #[.int .u32 n, .int .i64 b] 25)).drew.cell? ⟨w.heap.size, 1, none⟩ = some (.int .i64 b) := by simp
    first | (go_region_held (fun W => W.cell? ⟨w.heap.size, 0, none⟩ = some (.int .u32 n) ∧ W.cell? ⟨w.heap.size, 1, none⟩ = some (.int .i64 b)) (first | exact ⟨d0, d1⟩ | exact ⟨by assumption, by assumption⟩)
      (first
        | (go_at_call 24; refine (hr _).mono ?_; rintro e w1 ⟨rfl, hb1⟩; have c0 := keepC hb1 (by simp) d0; have c1 := keepC hb1 (by simp) d1; have HB := Lib.hid (boxed hb1); clear hb1)
        | (go_at_call 32; refine (hm _).mono ?_; rintro e w1 ⟨rfl, rfl⟩))) | fail
    go_wp2
    go_ret
    exact ⟨rfl, HB.out⟩
  · have hp : rightP (n, b) = false := by simpa using hp
    have e : inP (n, b) a = false := by unfold inP; rw [hp, Bool.false_and]
    rw [e]
    rw [hp] at hr
    clear e hp
    go_enter Try.func19, Try.ntmps19
    go_wp2
    have d0 : (w.alloc (.cells #[.int .u32 n, .int .i64 b] 25)).drew.cell? ⟨w.heap.size, 0, none⟩ = some (.int .u32 n) := by simp
    have d1 : (w.alloc (.cells #[.int .u32 n, .int .i64 b] 25)).drew.cell? ⟨w.heap.size, 1, none⟩ = some (.int .i64 b) := by simp
    first | (go_region_with (first | (go_at_call 24; refine (hr _).mono ?_; rintro e w1 ⟨rfl, hb1⟩; have HB := Lib.hid (boxed hb1); clear hb1))) | fail
    all_goals (go_wp2; go_ret; exact ⟨rfl, HB.out⟩)
theorem isnan_u32 (x : Int) (w : World) : Calls Try.prog 46 #[.int .u32 x] w fun e w' => e = .returned (.bool false) ∧ w' = w := by
  go_enter Try.func46, Try.ntmps46
  go_wp2
  go_ret
  exact ⟨rfl, rfl⟩
theorem isnan_int (x : Int) (w : World) : Calls Try.prog 47 #[.int .i64 x] w fun e w' => e = .returned (.bool false) ∧ w' = w := by
  go_enter Try.func47, Try.ntmps47
  go_wp2
  go_ret
  exact ⟨rfl, rfl⟩
theorem cmpI_lt {x y : Int} (h : x < y) : cmpI x y = -1 := by unfold cmpI; rw [if_pos h]
theorem cmpI_gt {x y : Int} (h : y < x) : cmpI x y = 1 := by unfold cmpI; rw [if_neg (by omega), if_pos h]
theorem cmpI_eq (x : Int) : cmpI x x = 0 := by unfold cmpI; rw [if_neg (by omega), if_neg (by omega)]
theorem cmp_u32 (x y : Int) (w : World) : Calls Try.prog 36 #[.int .u32 x, .int .u32 y] w fun e w' => e = .returned (.int .i64 (cmpI x y)) ∧ w' = w := by
  rcases Int.lt_trichotomy x y with h | rfl | h
  · rw [cmpI_lt h]
    have h2 : ¬ y < x := by omega
    go_enter Try.func36, Try.ntmps36
    go_wp2_with (go_at_call 46; refine (isnan_u32 _ _).mono ?_; rintro e w1 ⟨rfl, rfl⟩)
    go_ret
    exact ⟨rfl, rfl⟩
  · rw [cmpI_eq]
    go_enter Try.func36, Try.ntmps36
    go_wp2_with (go_at_call 46; refine (isnan_u32 _ _).mono ?_; rintro e w1 ⟨rfl, rfl⟩)
    go_ret
    exact ⟨rfl, rfl⟩
  · rw [cmpI_gt h]
    have h2 : ¬ x < y := by omega
    go_enter Try.func36, Try.ntmps36
    go_wp2_with (go_at_call 46; refine (isnan_u32 _ _).mono ?_; rintro e w1 ⟨rfl, rfl⟩)
    go_ret
    exact ⟨rfl, rfl⟩
theorem cmp_int (x y : Int) (w : World) : Calls Try.prog 37 #[.int .i64 x, .int .i64 y] w fun e w' => e = .returned (.int .i64 (cmpI x y)) ∧ w' = w := by
  rcases Int.lt_trichotomy x y with h | rfl | h
  · rw [cmpI_lt h]
    have h2 : ¬ y < x := by omega
    go_enter Try.func37, Try.ntmps37
    go_wp2_with (go_at_call 47; refine (isnan_int _ _).mono ?_; rintro e w1 ⟨rfl, rfl⟩)
    go_ret
    exact ⟨rfl, rfl⟩
  · rw [cmpI_eq]
    go_enter Try.func37, Try.ntmps37
    go_wp2_with (go_at_call 47; refine (isnan_int _ _).mono ?_; rintro e w1 ⟨rfl, rfl⟩)
    go_ret
    exact ⟨rfl, rfl⟩
  · rw [cmpI_gt h]
    have h2 : ¬ x < y := by omega
    go_enter Try.func37, Try.ntmps37
    go_wp2_with (go_at_call 47; refine (isnan_int _ _).mono ?_; rintro e w1 ⟨rfl, rfl⟩)
    go_ret
    exact ⟨rfl, rfl⟩
theorem region_tail {P : Program} {id : Nat} {Q : Exit → Act → World → Prop} {a : Act} {w : World} {l : List Oper} (n : Nat) (hm : P.follows .mixedOrders = true) (hB : Region.lexTailB .any l.toArray n = true) (W : World) (hW : w.drew = W)
    (h : wpStill P l.toArray W (fun a' => wpList P l.toArray Q (l.drop n) a' W) (l.take n) a) : (Code.region id l.toArray true).wp P Q a w := by
  subst hW
  exact wp_region_still_tail n hm hB h
theorem or_two (g : Nat) (x y z : Int) (hz0 : ¬ x = 0 → z = x) (hz1 : x = 0 → z = y) (w : World) (h0 : w.cell? ⟨g, 0, none⟩ = some (.int .i64 x)) (h1 : w.cell? ⟨g, 1, none⟩ = some (.int .i64 y)) :
    Calls Try.prog 35 #[.slice (some ⟨g, 0, none⟩) 2 2] w fun e w' => e = .returned (.int .i64 z) ∧ w' = w := by
  have H0 := Lib.hid hz0
  have H1 := Lib.hid hz1
  clear hz0 hz1
  go_enter Try.func35, Try.ntmps35
  go_wp2
  go_loop [8] (fun i => (i = .int .i64 0) ∨ (i = .int .i64 1 ∧ Hid (x = 0)) ∨ (i = .int .i64 2 ∧ Hid (x = 0 ∧ y = 0))) (fun i => 2 - (intOf i).toNat)
  case atStart => exact .inl rfl
  case round =>
    rcases hrel with rfl | ⟨rfl, HX⟩ | ⟨rfl, HX⟩
    · by_cases hx : x = 0
      · have HX := Lib.hid hx
        have hd : (x != 0) = false := by simpa using hx
        clear hx
        go_wp2
        go_round
        case rel => exact .inr (.inl ⟨rfl, HX⟩)
        case measure => simp [intOf]
      · have hd : (x != 0) = true := by simpa using hx
        obtain rfl := H0.out hx
        go_wp2
        go_ret
        exact ⟨rfl, rfl⟩
    · obtain rfl := H1.out HX.out
      by_cases hy : z = 0
      · have HY := Lib.hid hy
        have hd : (z != 0) = false := by simpa using hy
        clear hy
        go_wp2
        go_round
        case rel => exact .inr (.inr ⟨rfl, HX.out, HY.out⟩)
        case measure => simp [intOf]
      · have hd : (z != 0) = true := by simpa using hy
        go_wp2
        go_ret
        exact ⟨rfl, rfl⟩
    · obtain rfl := H1.out HX.out.1
      have H := Lib.hid HX.out.2
      go_wp2
      go_ret
      exact ⟨by rw [H.out]; rfl, rfl⟩
set_option maxHeartbeats 1600000 in
set_option maxRecDepth 100000 in
theorem compare_any (n : Nat) (b : Int) (m : Nat) (c : Int) (w : World) : Calls Try.prog 23 #[.agg #[.int .u32 n, .int .i64 b], .agg #[.int .u32 m, .int .i64 c]] w fun e w' => e = .returned (.int .i64 (cmpP (n, b) (m, c))) ∧ Below w.heap.size w w' := by
  have e : cmpP (n, b) (m, c) = if cmpI n m = 0 then cmpI b c else cmpI n m := rfl
  have h1 := cmp_u32 n m
  have h2 := cmp_int b c
  generalize cmpI n m = X at *
  generalize cmpI b c = Y at *
  generalize cmpP (n, b) (m, c) = Z at *
  have ho := or_two (w.heap.size + 2) X Y Z (fun h => by rw [e, if_neg h]) (fun h => by rw [e, if_pos h])
  clear e
  have c0 : ((w.alloc (.cells #[.int .u32 n, .int .i64 b] 25)).alloc (.cells #[.int .u32 m, .int .i64 c] 25)).drew.cell? ⟨w.heap.size, 0, none⟩ = some (.int .u32 n) := by simp
  have c1 : ((w.alloc (.cells #[.int .u32 n, .int .i64 b] 25)).alloc (.cells #[.int .u32 m, .int .i64 c] 25)).drew.cell? ⟨w.heap.size, 1, none⟩ = some (.int .i64 b) := by simp
  have c2 : ((w.alloc (.cells #[.int .u32 n, .int .i64 b] 25)).alloc (.cells #[.int .u32 m, .int .i64 c] 25)).drew.cell? ⟨w.heap.size + 1, 0, none⟩ = some (.int .u32 m) := by simp
  have c3 : ((w.alloc (.cells #[.int .u32 n, .int .i64 b] 25)).alloc (.cells #[.int .u32 m, .int .i64 c] 25)).drew.cell? ⟨w.heap.size + 1, 1, none⟩ = some (.int .i64 c) := by simp
  have B := Lib.hid (bel_drawn (((Below.refl w.heap.size w).alloc (Nat.le_refl _) (.cells #[.int .u32 n, .int .i64 b] 25)).alloc (by simp) (.cells #[.int .u32 m, .int .i64 c] 25)) 1)
  have hs : ((w.alloc (.cells #[.int .u32 n, .int .i64 b] 25)).alloc (.cells #[.int .u32 m, .int .i64 c] 25)).drew.heap.size = w.heap.size + 2 := by simp
  obtain ⟨W, hW⟩ : ∃ W, ((w.alloc (.cells #[.int .u32 n, .int .i64 b] 25)).alloc (.cells #[.int .u32 m, .int .i64 c] 25)).drew = W := ⟨_, rfl⟩
  rw [hW] at c0 c1 c2 c3 hs
  have HW := Lib.hid hW
  have HS := Lib.hid hs
  have ho2 := fun hc0 hc1 => ho (W.alloc (.cells #[.int .i64 X, .int .i64 Y] 3)) hc0 hc1
  rw [← hs] at ho2
  have ho3 := ho2 (by simp) (by simp)
  clear hW hs ho ho2
  go_enter Try.func23, Try.ntmps23
  go_wp2
  refine region_tail 10 (by kernel_rfl) (by kernel_rfl) W HW.out ?_
  simp only [List.take_succ_cons, List.take_zero, List.drop_succ_cons, List.drop_zero]
  still_step
  still_step
  still_step
  still_step
  still_call (h1 _)
  still_step
  still_step
  still_step
  still_step
  still_call (h2 _)
  refine wpStill_nil ?_
  go_wp2_with (go_at_call 35; refine ho3.mono ?_; rintro e w1 ⟨rfl, rfl⟩)
  go_ret
  refine ⟨rfl, ?_⟩
  have hs := HS.out
  have B' : Below w.heap.size w W := by rw [← HW.out]; exact B.out
  exact B'.trans ((Below.refl _ _).alloc (by omega) _)
end Go.Proofs.Ytpoognkppnplpaa
