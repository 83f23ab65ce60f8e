/-
  WHOM AN END MAY HEAR: the program's Accepts and the document's; ports that may be.
-/
import Derived.Test.YticbfmbinopjcaaLMath
import Derived.Lib.Hide
import Derived.BigQuiet
import Derived.BigRegion
import Derived.IntWalk
namespace Go.Proofs.Yticbfmbinopjcaa
set_option linter.unusedSimpArgs false
set_option linter.unusedVariables false
open Go.RowKit
set_option maxHeartbeats 800000 in
set_option maxRecDepth 100000 in
theorem pods_any (a b : Int) (w : World) : Calls Try.prog 26 #[.int .i64 a, .int .i64 b] w fun e w' => Says e (podB a b) ∧ w' = w := by
  go_enter Try.func26, Try.ntmps26
  go_wp2
  all_goals go_ret
  all_goals refine ⟨Says.of ?_, rfl⟩
  all_goals unfold podB
  all_goals simp_all
set_option maxHeartbeats 800000 in
set_option maxRecDepth 100000 in
theorem lwithin_any (n a b : Int) (w : World) : Calls Try.prog 44 #[.int .i64 n, .int .i64 a, .int .i64 b] w fun e w' => Says e (a ≤ n ∧ n ≤ b) ∧ w' = w := by
  go_enter Try.func44, Try.ntmps44
  go_wp2
  all_goals go_ret
  all_goals refine ⟨Says.of ?_, rfl⟩
  all_goals first
    | (simp; done)
    | (simp; omega)
set_option maxHeartbeats 800000 in
set_option maxRecDepth 100000 in
theorem level_any (n : Int) (w : World) : Calls Try.prog 42 #[.int .i64 n] w fun e w' => Says e (-1 ≤ n ∧ n ≤ 24) ∧ w' = w := by
  have hw := lwithin_any
  go_enter Try.func42, Try.ntmps42
  go_wp2_with (go_at_call 44; refine (hw _ _ _ _).mono ?_; rintro e w1 ⟨⟨x, rfl, hx⟩, rfl⟩; have HX := Lib.hid hx; clear hx)
  go_ret
  exact ⟨Says.of HX.out, rfl⟩
set_option maxHeartbeats 800000 in
set_option maxRecDepth 100000 in
theorem time_any (n : Int) (w : World) : Calls Try.prog 30 #[.int .i64 n] w fun e w' => Says e (timeB n) ∧ w' = w := by
  have hw := lwithin_any
  go_enter Try.func30, Try.ntmps30
  go_wp2_with (go_at_call 44; refine (hw _ _ _ _).mono ?_; rintro e w1 ⟨⟨x, rfl, hx⟩, rfl⟩; have HX := Lib.hid hx; clear hx)
  go_ret
  exact ⟨Says.of HX.out, rfl⟩
set_option maxHeartbeats 800000 in
set_option maxRecDepth 100000 in
theorem apart_any (a b n : Int) (ha : 0 ≤ a ∧ a ≤ 9223372036854775807) (hb : 0 ≤ b ∧ b ≤ 9223372036854775807) (W : World) (q1 q2 : Nat) (h1 : W.cell? ⟨q1, 0, none⟩ = some (.int .i64 a)) (h2 : W.cell? ⟨q2, 0, none⟩ = some (.int .i64 b)) : Calls Try.prog 43 #[.int .i64 n, .pointer (some ⟨q1, 0, none⟩), .pointer (some ⟨q2, 0, none⟩)] W fun e w' => Says e (a - b = n ∨ b - a = n) ∧ w' = W := by
  have e1 : -9223372036854775808 ≤ a - b ∧ a - b ≤ 9223372036854775807 := by omega
  have e2 : -9223372036854775808 ≤ b - a ∧ b - a ≤ 9223372036854775807 := by omega
  clear ha hb
  go_enter Try.func43, Try.ntmps43
  go_wp2
  all_goals go_ret
  all_goals refine ⟨Says.of ?_, rfl⟩
  all_goals simp_all
set_option maxHeartbeats 1600000 in
set_option maxRecDepth 100000 in
theorem levels_any (a b : Int) (ha : a ≤ 9223372036854775807) (hb : b ≤ 9223372036854775807) (w : World) : Calls Try.prog 27 #[.int .i64 a, .int .i64 b] w fun e w' => Says e (levB a b) ∧ Below w.heap.size w w' := by
  have HB : RowKit.Hid (Below w.heap.size w ((w.alloc (.cells #[.int .i64 a] 3)).alloc (.cells #[.int .i64 b] 3))) := ((Below.refl _ w).alloc (Nat.le_refl _) _).alloc (by simp) _
  by_cases h1 : a < 0
  · go_enter Try.func27, Try.ntmps27
    go_wp2
    go_ret
    exact ⟨Says.no (fun h => by have := h.1; omega), HB.out⟩
  · by_cases h2 : b < 0
    · go_enter Try.func27, Try.ntmps27
      go_wp2
      go_ret
      exact ⟨Says.no (fun h => by have := h.2.1; omega), HB.out⟩
    · have hap := apart_any a b
      have HA := Lib.hid (fun n W q1 q2 => hap n ⟨by omega, ha⟩ ⟨by omega, hb⟩ W q1 q2)
      have T1 : True := trivial
      clear hap ha hb
      go_enter Try.func27, Try.ntmps27
      go_wp2_with (first
        | (go_at_call 43; have tt := T1; clear T1 tt; refine (HA.out _ _ _ _ (by go_simp) (by go_simp)).mono ?_; rintro e w1 ⟨⟨x, rfl, hx⟩, rfl⟩; have HX := Lib.hid hx; clear hx)
        | (go_at_call 43; refine (HA.out _ _ _ _ (by go_simp) (by go_simp)).mono ?_; rintro e w1 ⟨⟨y, rfl, hy⟩, rfl⟩; have HY := Lib.hid hy; clear hy))
      all_goals go_ret
      all_goals refine ⟨Says.of ?_, ((Below.refl _ w).alloc (Nat.le_refl _) _).alloc (by simp) _⟩
      all_goals unfold levB
      all_goals have k := HX.out
      all_goals try have k2 := HY.out
      all_goals cases x
      all_goals try cases y
      all_goals simp only [Bool.not_true, Bool.not_false, Bool.false_eq_true, false_iff, true_iff, iff_true, iff_false, eq_self_iff_true, beq_iff_eq, beq_eq_false_iff_ne] at *
      all_goals (first | omega | (exfalso; simp_all; done))
theorem wrapsub (a b : Int) (h : -9223372036854775808 ≤ a - b ∧ a - b ≤ 9223372036854775807) : wrap64 (a - b) = a - b := by unfold wrap64; omega
set_option maxHeartbeats 3200000 in
set_option maxRecDepth 100000 in
theorem accepts_any (p : PortT) (x : LieT) (hp : p.level ≤ 9223372036854775807) (hx : x.level ≤ 9223372036854775807) (w : World) : Calls Try.prog 10 #[.agg #[.int .i64 p.node, .int .i64 p.level, .int .i64 p.pod, .int .i64 p.mtu, .int .i64 p.link, .int .i64 p.hold], .agg #[.int .i64 x.node, .int .i64 x.level, .int .i64 x.pod, .int .i64 x.mtu, .int .i64 x.link, .int .i64 x.nonce, .int .i64 x.seen, .int .i64 x.seenLink, .int .i64 x.seenNonce, .int .i64 x.hold, .bool x.rep, .bool x.noOffer]] w fun e w' => Says e (accB p x) ∧ Below w.heap.size w w' := by
  have HPD := Lib.hid pods_any
  have HLV := Lib.hid (levels_any p.level x.level hp hx)
  have B0 : ∀ A C : Obj, RowKit.Hid (Below w.heap.size w ((w.alloc A).alloc C)) := fun A C => ((Below.refl _ w).alloc (Nat.le_refl _) _).alloc (by simp) _
  clear hp hx
  go_enter Try.func10, Try.ntmps10
  go_wp2_with (first
    | (go_at_call 26; refine (HPD.out _ _ _).mono ?_; rintro e w1 ⟨⟨z, rfl, hz⟩, rfl⟩; have HZ := Lib.hid hz; clear hz)
    | (go_at_call 27; refine (HLV.out _).mono ?_; rintro e w2 ⟨⟨y, rfl, hy⟩, hb⟩; have HY := Lib.hid hy; have HB := Lib.hid hb; clear hy hb))
  all_goals go_ret
  all_goals refine ⟨Says.of ?_, by first | exact (B0 _ _).out | exact (B0 _ _).out.trans (HB.out.mono (by simp; omega))⟩
  all_goals unfold accB
  all_goals (try have k1 := HZ.out)
  all_goals (try have k2 := HY.out)
  all_goals (try cases z)
  all_goals (try cases y)
  all_goals simp_all
end Go.Proofs.Yticbfmbinopjcaa
