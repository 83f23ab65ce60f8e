/-
  THE ENVELOPE's small functions: what may be; nonces.
-/
import Derived.Test.YtmmocnokgcgmnaaDoorHKeys
namespace Go.Proofs.YtmmocnokgcgmnaaDoor
open Go.RowKit

def okIn (n m : Int) : Prop := 0 ≤ n ∧ n ≤ m
def okO (k l r f : Int) : Prop := okIn k 255 ∧ okIn l 65535 ∧ okIn r 65535 ∧ okIn f 604800
def okK (id : Int) (n : Nat) : Prop := 1 ≤ id ∧ id ≤ 255 ∧ 1 ≤ n ∧ n ≤ 64
/-- What ends so answers whether. -/
def Says (e : Ending) (p : Prop) : Prop := ∃ b : Bool, e = .returned (.bool b) ∧ (b = true ↔ p)
theorem Says.of {b : Bool} {p : Prop} (h : b = true ↔ p) : Says (.returned (.bool b)) p := ⟨b, rfl, h⟩
theorem Says.yes {p : Prop} (h : p) : Says (.returned (.bool true)) p := ⟨true, rfl, by simp [h]⟩
theorem Says.no {p : Prop} (h : ¬ p) : Says (.returned (.bool false)) p := ⟨false, rfl, by simp [h]⟩

set_option maxHeartbeats 800000 in
set_option maxRecDepth 100000 in
theorem within_any (n m : Int) (w : World) : Calls Tryd.prog 22 #[.int .i64 n, .int .i64 m] w fun e w' => Says e (okIn n m) ∧ w' = w := by
  go_enter Tryd.func22, Tryd.ntmps22
  go_wp2
  all_goals go_ret
  all_goals refine ⟨Says.of ?_, rfl⟩
  all_goals unfold okIn
  all_goals first
    | (simp; done)
    | (simp; omega)
set_option maxHeartbeats 1600000 in
set_option maxRecDepth 100000 in
theorem okO_any (k l r f : Int) (w : World) : Calls Tryd.prog 10 #[.agg #[.int .i64 k, .int .i64 l, .int .i64 r, .int .i64 f]] w fun e w' => Says e (okO k l r f) ∧ Below w.heap.size w w' := by
  have hw := within_any
  go_enter Tryd.func10, Tryd.ntmps10
  go_wp2_with (go_at_call 22; refine (hw _ _ _).mono ?_; rintro e w1 ⟨⟨x, rfl, hx⟩, rfl⟩; have HX := Lib.hid hx; clear hx)
  all_goals go_ret
  all_goals refine ⟨?_, (Below.refl _ w).alloc (Nat.le_refl _) _⟩
  all_goals refine Says.of ?_
  all_goals simp_all [Hid, okO]
set_option maxHeartbeats 1600000 in
set_option maxRecDepth 100000 in
theorem okK_any (id : Int) (s : Option Addr) (n c : Nat) (hn : n ≤ 9223372036854775807) (w : World) : Calls Tryd.prog 17 #[.agg #[.int .i64 id, .slice s n c]] w fun e w' => Says e (okK id n) ∧ Below w.heap.size w w' := by
  go_enter Tryd.func17, Tryd.ntmps17
  go_wp2
  all_goals go_ret
  all_goals refine ⟨?_, (Below.refl _ w).alloc (Nat.le_refl _) _⟩
  all_goals refine Says.of ?_
  all_goals unfold okK
  all_goals first
    | (simp; done)
    | (simp; omega)
set_option maxHeartbeats 800000 in
set_option maxRecDepth 100000 in
theorem rokO_any (k l r f : Int) (w : World) : Calls Tryd.prog 14 #[.agg #[.int .i64 k, .int .i64 l, .int .i64 r, .int .i64 f]] w fun e w' => Says e (okO k l r f) ∧ Below w.heap.size w w' := by
  go_enter Tryd.func14, Tryd.ntmps14
  go_wp2
  all_goals go_ret
  all_goals refine ⟨?_, (Below.refl _ w).alloc (Nat.le_refl _) _⟩
  all_goals refine Says.of ?_
  all_goals unfold okO okIn
  all_goals first
    | (simp; done)
    | (simp; omega)
set_option maxHeartbeats 800000 in
set_option maxRecDepth 100000 in
theorem rokK_any (id : Int) (s : Option Addr) (n c : Nat) (hn : n ≤ 9223372036854775807) (w : World) : Calls Tryd.prog 15 #[.agg #[.int .i64 id, .slice s n c]] w fun e w' => Says e (okK id n) ∧ Below w.heap.size w w' := by
  go_enter Tryd.func15, Tryd.ntmps15
  go_wp2
  all_goals go_ret
  all_goals refine ⟨?_, (Below.refl _ w).alloc (Nat.le_refl _) _⟩
  all_goals refine Says.of ?_
  all_goals unfold okK
  all_goals first
    | (simp; done)
    | (simp; omega)

/-- The nonce behind one. -/
def nextN (n : Int) : Int := if 1 ≤ n ∧ n < 65535 then n + 1 else 1
set_option maxHeartbeats 800000 in
set_option maxRecDepth 100000 in
theorem isNonce_any (n : Int) (w : World) : Calls Tryd.prog 20 #[.int .i64 n] w fun e w' => Says e (okIn (n - 1) 65534) ∧ w' = w := by
  go_enter Tryd.func20, Tryd.ntmps20
  go_wp2
  all_goals go_ret
  all_goals refine ⟨Says.of ?_, rfl⟩
  all_goals unfold okIn
  all_goals first
    | (simp; done)
    | (simp; omega)
/-- What ends so answers that number. -/
def Tells (e : Ending) (n : Int) : Prop := e = .returned (.int .i64 n)
set_option maxHeartbeats 800000 in
set_option maxRecDepth 100000 in
theorem next_any (n : Int) (w : World) : Calls Tryd.prog 8 #[.int .i64 n] w fun e w' => Tells e (nextN n) ∧ w' = w := by
  have hw := isNonce_any
  go_enter Tryd.func8, Tryd.ntmps8
  go_wp2_with (go_at_call 20; refine (hw _ _).mono ?_; rintro e w1 ⟨⟨x, rfl, hx⟩, rfl⟩; have HX := Lib.hid hx; clear hx)
  all_goals go_ret
  all_goals refine ⟨?_, rfl⟩
  all_goals unfold Tells nextN
  all_goals have h := HX.out
  all_goals unfold okIn at h
  · rename_i h1 h2
    have h3 : n = 65535 := by simpa using h2
    rw [if_neg (by omega)]; rfl
  · rename_i h1 h2
    have h3 : ¬ n = 65535 := by simpa using h2
    have h4 := h.1 h1
    rw [if_pos (by omega)]
    show Ending.returned (.int .i64 (wrap64 (n + 1))) = _
    have hw : wrap64 (n + 1) = n + 1 := by unfold wrap64; omega
    rw [hw]
  · rename_i h1
    have h2 : ¬ (0 ≤ n - 1 ∧ n - 1 ≤ 65534) := fun h2 => h1 (h.2 h2)
    rw [if_neg (by omega)]; rfl
end Go.Proofs.YtmmocnokgcgmnaaDoor
