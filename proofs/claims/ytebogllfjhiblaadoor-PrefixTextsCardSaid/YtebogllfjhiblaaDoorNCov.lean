/-
  PREFIXES: whether one covers another one.
-/
import Derived.Test.YtebogllfjhiblaaDoorNIn
namespace Go.Proofs.YtebogllfjhiblaaDoor
open Go.RowKit
set_option maxHeartbeats 1600000 in
set_option maxRecDepth 100000 in
theorem covers_any (n : Nat) (hn : n < 4294967296) (b : Int) (m : Nat) (hm : m < 4294967296) (c : Int) (w : World) : Calls Tryd.prog 22 #[.agg #[.int .u32 n, .int .i64 b], .agg #[.int .u32 m, .int .i64 c]] w fun e w' => e = .returned (.bool (coversP (n, b) (m, c))) ∧ Below w.heap.size w w' := by
  have hr := right_any m hm c
  have hi := in_any n hn b m hm
  have e : coversP (n, b) (m, c) = (rightP (m, c) && (decide (b ≤ c) && inP (n, b) m)) := rfl
  rw [e]
  generalize inP (n, b) m = I at *
  clear e
  have B0 := Lib.hid (((Below.refl w.heap.size w).alloc (Nat.le_refl _) (.cells #[.int .u32 n, .int .i64 b] 24)).alloc (by simp) (.cells #[.int .u32 m, .int .i64 c] 24))
  have d0 : ((w.alloc (.cells #[.int .u32 n, .int .i64 b] 24)).alloc (.cells #[.int .u32 m, .int .i64 c] 24)).cell? ⟨w.heap.size, 0, none⟩ = some (.int .u32 n) := by simp
  have d1 : ((w.alloc (.cells #[.int .u32 n, .int .i64 b] 24)).alloc (.cells #[.int .u32 m, .int .i64 c] 24)).cell? ⟨w.heap.size, 1, none⟩ = some (.int .i64 b) := by simp
  have d2 : ((w.alloc (.cells #[.int .u32 n, .int .i64 b] 24)).alloc (.cells #[.int .u32 m, .int .i64 c] 24)).cell? ⟨w.heap.size + 1, 0, none⟩ = some (.int .u32 m) := by simp
  have d3 : ((w.alloc (.cells #[.int .u32 n, .int .i64 b] 24)).alloc (.cells #[.int .u32 m, .int .i64 c] 24)).cell? ⟨w.heap.size + 1, 1, none⟩ = some (.int .i64 c) := by simp
  cases hR : rightP (m, c)
  · rw [hR] at hr
    clear hR
    go_enter Tryd.func22, Tryd.ntmps22
    go_wp2_with (first
      | (go_at_call 16; refine (hr _).mono ?_; rintro e w1 ⟨rfl, hb1⟩; have HB := Lib.hid (B0.out.trans (hb1.mono (by simp; omega))); clear hb1))
    go_ret
    exact ⟨rfl, HB.out⟩
  · rw [hR] at hr
    clear hR
    by_cases hc : b ≤ c
    · go_enter Tryd.func22, Tryd.ntmps22
      go_wp2_with (first
        | (go_at_call 16; refine (hr _).mono ?_; rintro e w1 ⟨rfl, hb1⟩; have c0 := keepC hb1 (by simp; omega) d0; have c1 := keepC hb1 (by simp; omega) d1; have c2 := keepC hb1 (by simp) d2; have c3 := keepC hb1 (by simp) d3; have HB := Lib.hid (B0.out.trans (hb1.mono (by simp; omega))); clear hb1)
        | (go_at_call 20; refine (hi _).mono ?_; rintro e w2 ⟨rfl, hb2⟩; have HB2 := Lib.hid (HB.out.trans (hb2.mono HB.out.size)); clear hb2))
      go_ret
      exact ⟨by simp [hc], HB2.out⟩
    · have hd : decide (b ≤ c) = false := decide_eq_false hc
      rw [hd]
      go_enter Tryd.func22, Tryd.ntmps22
      go_wp2_with (first
        | (go_at_call 16; refine (hr _).mono ?_; rintro e w1 ⟨rfl, hb1⟩; have c0 := keepC hb1 (by simp; omega) d0; have c1 := keepC hb1 (by simp; omega) d1; have c2 := keepC hb1 (by simp) d2; have c3 := keepC hb1 (by simp) d3; have HB := Lib.hid (B0.out.trans (hb1.mono (by simp; omega))); clear hb1))
      go_ret
      exact ⟨rfl, HB.out⟩
end Go.Proofs.YtebogllfjhiblaaDoor
