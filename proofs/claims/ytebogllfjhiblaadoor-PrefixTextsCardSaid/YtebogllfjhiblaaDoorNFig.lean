/-
  PREFIXES: the document's figures of a number.
-/
import Derived.Test.YtebogllfjhiblaaDoorNBackW
import Derived.Laws.IdiomStrings
namespace Go.Proofs.YtebogllfjhiblaaDoor
set_option linter.unusedVariables false
open Go.RowKit
theorem fig_cv (x : Nat) (hx : x < 10) (W : World) : (convert 63 9 (.slice (some ⟨W.heap.size, 0, none⟩) 1 1)).run Tryd.prog (W.alloc (.cells #[.int .u8 (48 + (x : Int))] 5)) = .ok (.string (strL [UInt8.ofNat (48 + x)])) (W.alloc (.cells #[.int .u8 (48 + (x : Int))] 5)) := by
  refine run_convert_bytes_back _ 63 9 5 ⟨W.heap.size, 0, none⟩ 1 [UInt8.ofNat (48 + x)] Tryd.underlying63 Tryd.underlying5 Tryd.underlying9 ?_
  intro j hj
  obtain rfl : j = 0 := by simp at hj; omega
  have e : ((UInt8.ofNat (48 + x)).toNat : Int) = 48 + (x : Int) := by
    rw [show (UInt8.ofNat (48 + x)).toNat = 48 + x by simp; omega]
    omega
  show World.cell? _ ⟨W.heap.size, 0 + 0, none⟩ = some (.int .u8 ((UInt8.ofNat (48 + x)).toNat : Int))
  rw [e]
  exact World.cell?_alloc_mark W _ _ _ 0
set_option maxHeartbeats 1600000 in
set_option maxRecDepth 100000 in
theorem fig_small (x : Nat) (hx : x < 10) (w : World) : Calls Tryd.prog 32 #[.int .i64 x] w fun e w' => e = .returned (.string (strL (Lib.decDigits x))) ∧ Below w.heap.size w w' := by
  rw [Lib.decDigits, dif_pos hx]
  have hd : decide ((x : Int) < 10) = true := by simp; omega
  have hb : (48 + (x : Int)) % 256 = 48 + (x : Int) := by omega
  have hcv := fig_cv x hx
  generalize [UInt8.ofNat (48 + x)] = C at *
  go_enter Tryd.func32, Tryd.ntmps32
  go_wp2
  go_ret
  exact ⟨rfl, (Below.refl _ _).alloc (Nat.le_refl _) _⟩
attribute [local go_sem] strL_append
theorem fig_step (x : Nat) (hx : 10 ≤ x) (hx2 : x < 1000) (w : World)
    (h1 : ∀ w, Calls Tryd.prog 32 #[.int .i64 ((x / 10 : Nat) : Int)] w fun e w' => e = .returned (.string (strL (Lib.decDigits (x / 10)))) ∧ Below w.heap.size w w')
    (h2 : ∀ w, Calls Tryd.prog 32 #[.int .i64 ((x % 10 : Nat) : Int)] w fun e w' => e = .returned (.string (strL [UInt8.ofNat (48 + x % 10)])) ∧ Below w.heap.size w w') :
    Calls Tryd.prog 32 #[.int .i64 x] w fun e w' => e = .returned (.string (strL (Lib.decDigits x))) ∧ Below w.heap.size w w' := by
  rw [Lib.decDigits, dif_neg (by omega)]
  have hd : decide ((x : Int) < 10) = false := by simp; omega
  obtain ⟨q, hq0⟩ : ∃ q, x / 10 = q := ⟨_, rfl⟩
  obtain ⟨r, hr0⟩ : ∃ r, x % 10 = r := ⟨_, rfl⟩
  rw [hq0] at h1 ⊢
  rw [hr0] at h2 ⊢
  have hq : (x : Int) / 10 = (q : Int) := by omega
  have hq2 : wrap64 (q : Int) = (q : Int) := by unfold wrap64; omega
  have hm : (x : Int) % 10 = (r : Int) := by omega
  have hL := strL_le (a := Lib.decDigits q) (by have := digits_len (x := q) (by omega); omega)
  have hC := strL_le (a := [UInt8.ofNat (48 + r)]) (by simp)
  generalize Lib.decDigits q = L at *
  generalize [UInt8.ofNat (48 + r)] = C at *
  clear hx hq0 hr0
  go_enter Tryd.func32, Tryd.ntmps32
  go_wp2_with (first
    | (go_at_call 32; ((with_reducible refine (h1 _).mono ?_); rintro e w1 ⟨rfl, hb1⟩); have B1 := Lib.hid hb1; clear hb1)
    | (go_at_call 32; ((with_reducible refine (h2 _).mono ?_); rintro e w2 ⟨rfl, hb2⟩); have B2 := Lib.hid (B1.out.trans (hb2.mono B1.out.size)); clear hb2))
  go_ret
  exact ⟨rfl, B2.out⟩
theorem fig_any (x : Nat) (hx : x < 1000) (w : World) : Calls Tryd.prog 32 #[.int .i64 x] w fun e w' => e = .returned (.string (strL (Lib.decDigits x))) ∧ Below w.heap.size w w' := by
  have key : ∀ x : Nat, x < 10 → ∀ w, Calls Tryd.prog 32 #[.int .i64 x] w fun e w' => e = .returned (.string (strL [UInt8.ofNat (48 + x)])) ∧ Below w.heap.size w w' := fun x hx w => by
    have := fig_small x hx w
    rwa [Lib.decDigits, dif_pos hx] at this
  have k2 : ∀ x : Nat, x < 100 → ∀ w, Calls Tryd.prog 32 #[.int .i64 x] w fun e w' => e = .returned (.string (strL (Lib.decDigits x))) ∧ Below w.heap.size w w' := fun x hx w => by
    rcases Nat.lt_or_ge x 10 with h | h
    · exact fig_small x h w
    · exact fig_step x h (by omega) w (fun w => fig_small _ (by omega) w) (fun w => key _ (by omega) w)
  rcases Nat.lt_or_ge x 10 with h | h
  · exact fig_small x h w
  · exact fig_step x h (by omega) w (fun w => k2 _ (by omega) w) (fun w => key _ (by omega) w)
end Go.Proofs.YtebogllfjhiblaaDoor
