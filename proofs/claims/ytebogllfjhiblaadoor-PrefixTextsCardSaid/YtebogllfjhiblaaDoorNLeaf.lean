/-
  PREFIXES: the functions that look at one or two: which bits, the mask, what is right, in, covered, cut, less.
-/
import Derived.Test.YtebogllfjhiblaaDoorChecked
import Derived.Test.YtebogllfjhiblaaDoorNMath
import Derived.WalkKit
import Derived.Below
import Derived.BigQuiet
import Derived.Deep.QuietTactic
import Derived.Deep.RegionHeld
import Derived.Deep.RegionWith
import Derived.Laws.BitsAll
import Derived.Laws.BitsAllLaws
namespace Go.Proofs.YtebogllfjhiblaaDoor
open Go.RowKit
theorem bel_drawn {B : Nat} {W W' : World} (h : Below B W W') (n : Nat) : Below B W (W'.drewN n) := ⟨h.os, h.tape, h.output, h.size, h.block⟩
theorem keepC {B : Nat} {W W' : World} {p : Addr} {v : Value} (h : Below B W W') (hp : p.block < B) (hc : W.cell? p = some v) : W'.cell? p = some v := (h.cell hp).trans hc
theorem boxed {w : World} {cs : Array Value} {t : TypeId} {w' : World} (h : Below (w.alloc (.cells cs t)).drew.heap.size (w.alloc (.cells cs t)).drew w') : Below w.heap.size w w' :=
  (bel_drawn ((Below.refl _ _).alloc (Nat.le_refl _) _) 1).trans (h.mono (by simp))
theorem rightBits_any (b : Int) (w : World) : Calls Tryd.prog 33 #[.int .i64 b] w fun e w' => e = .returned (.bool (rightB b)) ∧ w' = w := by
  by_cases h0 : 0 ≤ b
  · by_cases h1 : b ≤ 32
    · have e : rightB b = true := by unfold rightB; exact decide_eq_true ⟨h0, h1⟩
      rw [e]
      clear e
      go_enter Tryd.func33, Tryd.ntmps33
      go_wp2
      go_ret
      exact ⟨rfl, rfl⟩
    · have e : rightB b = false := by unfold rightB; exact decide_eq_false (by omega)
      rw [e]
      clear e
      go_enter Tryd.func33, Tryd.ntmps33
      go_wp2
      go_ret
      exact ⟨rfl, rfl⟩
  · have e : rightB b = false := by unfold rightB; exact decide_eq_false (by omega)
    have h2 : decide (0 ≤ b) = false := decide_eq_false h0
    rw [e]
    clear e
    go_enter Tryd.func33, Tryd.ntmps33
    go_wp2
    go_ret
    exact ⟨rfl, rfl⟩
/-- The mask of so many bits. -/
def maskP (b : Int) : Nat := 4294967296 - sizeP b
theorem maskP_lt (b : Int) : maskP b < 4294967296 := by have := sizeP_pos b; unfold maskP; omega
theorem mask_val {b : Int} (h0 : 0 ≤ b) (h1 : b ≤ 32) : (4294967295 * 2 ^ (32 - b).toNat % 4294967296 : Int) = ((maskP b : Nat) : Int) := by
  have e : ((2 : Int) ^ (32 - b).toNat) = ((sizeP b : Nat) : Int) := by
    unfold sizeP
    rw [show (32 - b).toNat = 32 - b.toNat by omega]
    simp
  have := sizeP_pos b
  have := sizeP_le (b := b)
  rw [e]
  unfold maskP
  omega
theorem mask_any (b : Int) (h0 : 0 ≤ b) (h1 : b ≤ 32) (w : World) : Calls Tryd.prog 34 #[.int .i64 b] w fun e w' => e = .returned (.int .u32 (maskP b : Nat)) ∧ w' = w := by
  have hm := Lib.hid (mask_val h0 h1)
  go_enter Tryd.func34, Tryd.ntmps34
  go_wp2
  go_ret
  exact ⟨by rw [← hm.out]; rfl, rfl⟩
theorem bits_and {a : Nat} {b : Int} (ha : a < 4294967296) : bits .and .u32 (a : Int) (maskP b : Int) = ((a - a % sizeP b : Nat) : Int) := by
  rw [u32_and_nat a (maskP b) ha (maskP_lt b)]
  unfold maskP sizeP
  rw [and_mask a _ (by omega) ha]
theorem bits_andNot {a : Nat} {b : Int} (ha : a < 4294967296) : bits .andNot .u32 (a : Int) (maskP b : Int) = ((a % sizeP b : Nat) : Int) := by
  rw [u32_andNot_nat a (maskP b) ha (maskP_lt b)]
  unfold maskP sizeP
  rw [and_rest a _ (by omega)]
theorem right_any (n : Nat) (hn : n < 4294967296) (b : Int) (w : World) : Calls Tryd.prog 16 #[.agg #[.int .u32 n, .int .i64 b]] w fun e w' => e = .returned (.bool (rightP (n, b))) ∧ Below w.heap.size w w' := by
  have hr := rightBits_any b
  by_cases hb : rightB b = true
  · have h := hb
    unfold rightB at h
    have h01 := of_decide_eq_true h
    have hm := mask_any b h01.1 h01.2
    have hbit := bits_andNot (b := b) hn
    have m0 : (0 : Int) ≤ (maskP b : Int) := by omega
    have m1 : ((maskP b : Nat) : Int) < 4294967296 := by have := maskP_lt b; omega
    have e : rightP (n, b) = decide (((n % sizeP b : Nat) : Int) = 0) := by unfold rightP; rw [hb, Bool.true_and]; exact decide_eq_decide.2 (by generalize n % sizeP b = S; omega)
    rw [e]
    rw [hb] at hr
    generalize hS : n % sizeP b = S at *
    clear hS h e hb h01
    go_enter Tryd.func16, Tryd.ntmps16
    go_wp2
    go_quiet ((first | (go_at_call 33; exact Calls.quiet_of_same (hr _)) | (go_at_call 34; exact Calls.quiet_of_same (hm _))))
    go_wp2
    go_ret
    exact ⟨rfl, bel_drawn ((Below.refl _ _).alloc (Nat.le_refl _) _) _⟩
  · have hb : rightB b = false := by simpa using hb
    have e : rightP (n, b) = false := by unfold rightP; rw [hb, Bool.false_and]
    rw [e]
    rw [hb] at hr
    clear e hb
    go_enter Tryd.func16, Tryd.ntmps16
    go_wp2
    go_quiet ((go_at_call 33; exact Calls.quiet_of_same (hr _)))
    go_wp2
    go_ret
    exact ⟨rfl, bel_drawn ((Below.refl _ _).alloc (Nat.le_refl _) _) _⟩
end Go.Proofs.YtebogllfjhiblaaDoor
