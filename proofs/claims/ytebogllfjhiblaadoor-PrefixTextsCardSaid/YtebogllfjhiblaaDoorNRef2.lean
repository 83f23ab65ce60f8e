/-
  THE DOCUMENT's PREFIXES: whether an address is in one, whether one covers another one, what is cut off, which one is less: as in the program.
-/
import Derived.Test.YtebogllfjhiblaaDoorNRef
import Derived.Test.YtebogllfjhiblaaDoorNCmp
namespace Go.Proofs.YtebogllfjhiblaaDoor
set_option linter.unusedVariables false
set_option linter.unusedSimpArgs false
open Go.RowKit
theorem rightP_bits {n : Nat} {b : Int} (h : rightP (n, b) = true) : (0 ≤ b ∧ b ≤ 32) ∧ n % sizeP b = 0 := by
  unfold rightP rightB at h
  simp only [Bool.and_eq_true, decide_eq_true_eq] at h
  exact h
theorem in_alt {n : Nat} {b : Int} (h : rightP (n, b) = true) (a : Nat) : inP (n, b) a = (decide (n ≤ a) && decide (a < n + sizeP b)) := by
  unfold inP
  rw [h, Bool.true_and, ← Bool.decide_and]
  have hr := (rightP_bits h).2
  have hp := sizeP_pos b
  refine decide_eq_decide.2 ?_
  show a - a % sizeP b = n ↔ _
  generalize sizeP b = S at *
  have h1 := Nat.div_add_mod a S
  have h2 := Nat.mod_lt a hp
  obtain ⟨k, hk⟩ : ∃ k, n = S * k := ⟨n / S, by have := Nat.div_add_mod n S; omega⟩
  constructor
  · omega
  · rintro ⟨h3, h4⟩
    have h5 : a / S = k := by
      have e1 : S * k ≤ a := by omega
      have e2 : a < S * (k + 1) := by rw [Nat.mul_succ]; omega
      have e3 : k ≤ a / S := (Nat.le_div_iff_mul_le hp).2 (by rw [Nat.mul_comm]; exact e1)
      have e4 : a / S < k + 1 := Nat.div_lt_of_lt_mul e2
      omega
    rw [h5] at h1
    omega
set_option maxHeartbeats 1600000 in
set_option maxRecDepth 100000 in
theorem rin_any (n : Nat) (hn : n < 4294967296) (b : Int) (a : Nat) (ha : a < 4294967296) (w : World) : Calls Tryd.prog 21 #[.agg #[.int .u32 n, .int .i64 b], .int .u32 a] w fun e w' => e = .returned (.bool (inP (n, b) a)) ∧ Below w.heap.size w w' := by
  have hr := rright_any n hn b
  have B0 := Lib.hid ((Below.refl w.heap.size w).alloc (Nat.le_refl _) (.cells #[.int .u32 n, .int .i64 b] 24))
  have d0 : (w.alloc (.cells #[.int .u32 n, .int .i64 b] 24)).cell? ⟨w.heap.size, 0, none⟩ = some (.int .u32 n) := by simp
  have d1 : (w.alloc (.cells #[.int .u32 n, .int .i64 b] 24)).cell? ⟨w.heap.size, 1, none⟩ = some (.int .i64 b) := by simp
  by_cases hp : rightP (n, b) = true
  · have h01 := (rightP_bits hp).1
    have e := in_alt hp a
    have hm := rsize_any b h01.1 h01.2
    have hle := sizeP_le (b := b)
    rw [hp] at hr
    rw [e]
    generalize sizeP b = S at *
    clear e hp h01
    by_cases hge : n ≤ a
    · have g1 : decide ((n : Int) ≤ a) = true := decide_eq_true (by omega)
      have e2 : (decide (n ≤ a) && decide (a < n + S)) = decide ((a : Int) < n + S) := by rw [decide_eq_true hge, Bool.true_and]; exact decide_eq_decide.2 (by omega)
      rw [e2]
      clear e2
      go_enter Tryd.func21, Tryd.ntmps21
      go_wp2_with (go_at_call 17; refine (hr _).mono ?_; rintro e w1 ⟨rfl, hb1⟩; have c0 := keepC hb1 (by simp) d0; have c1 := keepC hb1 (by simp) d1; have HB := Lib.hid (B0.out.trans (hb1.mono (by simp))); clear hb1)
      go_quiet ((go_at_call 35; exact Calls.quiet_of_same (hm _)))
      go_wp2
      go_ret
      exact ⟨rfl, bel_drawn HB.out _⟩
    · have g1 : decide ((n : Int) ≤ a) = false := decide_eq_false (by omega)
      have e2 : (decide (n ≤ a) && decide (a < n + S)) = false := by rw [decide_eq_false hge, Bool.false_and]
      rw [e2]
      clear e2
      go_enter Tryd.func21, Tryd.ntmps21
      go_wp2_with (go_at_call 17; refine (hr _).mono ?_; rintro e w1 ⟨rfl, hb1⟩; have c0 := keepC hb1 (by simp) d0; have c1 := keepC hb1 (by simp) d1; have HB := Lib.hid (B0.out.trans (hb1.mono (by simp))); clear hb1)
      go_quiet (fail)
      go_wp2
      go_ret
      exact ⟨rfl, bel_drawn HB.out _⟩
  · have hp : rightP (n, b) = false := by simpa using hp
    have e : inP (n, b) a = false := by unfold inP; rw [hp, Bool.false_and]
    rw [e]
    rw [hp] at hr
    clear e hp
    go_enter Tryd.func21, Tryd.ntmps21
    go_wp2_with (go_at_call 17; refine (hr _).mono ?_; rintro e w1 ⟨rfl, hb1⟩; have HB := Lib.hid (B0.out.trans (hb1.mono (by simp))); clear hb1)
    go_quiet (fail)
    go_wp2
    go_ret
    exact ⟨rfl, bel_drawn HB.out _⟩
set_option maxHeartbeats 1600000 in
set_option maxRecDepth 100000 in
theorem rcovers_any (n : Nat) (hn : n < 4294967296) (b : Int) (m : Nat) (hm : m < 4294967296) (c : Int) (w : World) : Calls Tryd.prog 23 #[.agg #[.int .u32 n, .int .i64 b], .agg #[.int .u32 m, .int .i64 c]] w fun e w' => e = .returned (.bool (coversP (n, b) (m, c))) ∧ Below w.heap.size w w' := by
  have hr := rright_any m hm c
  have hi := rin_any n hn b m hm
  have e : coversP (n, b) (m, c) = (rightP (m, c) && (decide (b ≤ c) && inP (n, b) m)) := rfl
  rw [e]
  generalize inP (n, b) m = I at *
  clear e
  have B0 := Lib.hid (((Below.refl w.heap.size w).alloc (Nat.le_refl _) (.cells #[.int .u32 n, .int .i64 b] 24)).alloc (by simp) (.cells #[.int .u32 m, .int .i64 c] 24))
  have d0 : ((w.alloc (.cells #[.int .u32 n, .int .i64 b] 24)).alloc (.cells #[.int .u32 m, .int .i64 c] 24)).cell? ⟨w.heap.size, 0, none⟩ = some (.int .u32 n) := by simp
  have d1 : ((w.alloc (.cells #[.int .u32 n, .int .i64 b] 24)).alloc (.cells #[.int .u32 m, .int .i64 c] 24)).cell? ⟨w.heap.size, 1, none⟩ = some (.int .i64 b) := by simp
  have d2 : ((w.alloc (.cells #[.int .u32 n, .int .i64 b] 24)).alloc (.cells #[.int .u32 m, .int .i64 c] 24)).cell? ⟨w.heap.size + 1, 0, none⟩ = some (.int .u32 m) := by simp
  have d3 : ((w.alloc (.cells #[.int .u32 n, .int .i64 b] 24)).alloc (.cells #[.int .u32 m, .int .i64 c] 24)).cell? ⟨w.heap.size + 1, 1, none⟩ = some (.int .i64 c) := by simp
  cases hR : rightP (m, c)
  · rw [hR] at hr
    clear hR
    go_enter Tryd.func23, Tryd.ntmps23
    go_wp2_with (first
      | (go_at_call 17; refine (hr _).mono ?_; rintro e w1 ⟨rfl, hb1⟩; have HB := Lib.hid (B0.out.trans (hb1.mono (by simp; omega))); clear hb1))
    go_ret
    exact ⟨rfl, HB.out⟩
  · rw [hR] at hr
    clear hR
    by_cases hc : b ≤ c
    · go_enter Tryd.func23, Tryd.ntmps23
      go_wp2_with (first
        | (go_at_call 17; refine (hr _).mono ?_; rintro e w1 ⟨rfl, hb1⟩; have c0 := keepC hb1 (by simp; omega) d0; have c1 := keepC hb1 (by simp; omega) d1; have c2 := keepC hb1 (by simp) d2; have c3 := keepC hb1 (by simp) d3; have HB := Lib.hid (B0.out.trans (hb1.mono (by simp; omega))); clear hb1)
        | (go_at_call 21; refine (hi _).mono ?_; rintro e w2 ⟨rfl, hb2⟩; have HB2 := Lib.hid (HB.out.trans (hb2.mono HB.out.size)); clear hb2))
      go_ret
      exact ⟨by simp [hc], HB2.out⟩
    · have hd : decide (b ≤ c) = false := decide_eq_false hc
      rw [hd]
      go_enter Tryd.func23, Tryd.ntmps23
      go_wp2_with (first
        | (go_at_call 17; refine (hr _).mono ?_; rintro e w1 ⟨rfl, hb1⟩; have c0 := keepC hb1 (by simp; omega) d0; have c1 := keepC hb1 (by simp; omega) d1; have c2 := keepC hb1 (by simp) d2; have c3 := keepC hb1 (by simp) d3; have HB := Lib.hid (B0.out.trans (hb1.mono (by simp; omega))); clear hb1))
      go_ret
      exact ⟨rfl, HB.out⟩
theorem rcut_no (a : Nat) (b : Int) (hb : rightB b = false) (w : World) : Calls Tryd.prog 19 #[.int .u32 a, .int .i64 b] w fun e w' => e = .returned (.tuple #[.agg #[.int .u32 0, .int .i64 0], .int .i64 1]) ∧ Below w.heap.size w w' := by
  unfold rightB at hb
  have h := of_decide_eq_false hb
  by_cases h0 : b < 0
  · go_enter Tryd.func19, Tryd.ntmps19
    go_wp2
    refine bodyPost_ret (v := .tuple #[.agg #[.int .u32 0, .int .i64 0], .int .i64 1]) (by simp [results, Tryd.results19, go_sem]) rfl ⟨rfl, ?_⟩
    exact (Below.refl w.heap.size w).alloc (Nat.le_refl _) _
  · have h1 : 32 < b := by omega
    have hd : decide (b < 0) = false := decide_eq_false h0
    clear h hb
    go_enter Tryd.func19, Tryd.ntmps19
    go_wp2
    refine bodyPost_ret (v := .tuple #[.agg #[.int .u32 0, .int .i64 0], .int .i64 1]) (by simp [results, Tryd.results19, go_sem]) rfl ⟨rfl, ?_⟩
    exact (Below.refl w.heap.size w).alloc (Nat.le_refl _) _
theorem rcut_ok (a : Nat) (ha : a < 4294967296) (b : Int) (hb : rightB b = true) (w : World) : Calls Tryd.prog 19 #[.int .u32 a, .int .i64 b] w fun e w' => e = .returned (.tuple #[.agg #[.int .u32 (cutP a b).1, .int .i64 b], .int .i64 0]) ∧ Below w.heap.size w w' := by
  unfold rightB at hb
  have h := of_decide_eq_true hb
  have hm := rsize_any b h.1 h.2
  have hp := sizeP_pos b
  have hle := sizeP_le (b := b)
  have d0 : ¬ b < 0 := by omega
  have d1 : ¬ 32 < b := by omega
  have hd0 : decide (b < 0) = false := decide_eq_false d0
  have hmod : ((a : Int) % (sizeP b : Int)) = ((a % sizeP b : Nat) : Int) := by simp
  have hlt := Nat.mod_le a (sizeP b)
  show Calls _ _ _ _ fun e w' => e = .returned (.tuple #[.agg #[.int .u32 ((a - a % sizeP b : Nat) : Int), .int .i64 b], .int .i64 0]) ∧ Below w.heap.size w w'
  generalize hS : sizeP b = S at *
  generalize hR : a % S = R at *
  have H : ((a - R : Nat) : Int) = (a : Int) - (R : Int) := by omega
  rw [H]
  clear H hb hS hR
  go_enter Tryd.func19, Tryd.ntmps19
  go_wp2_with (go_at_call 35; refine (hm _).mono ?_; rintro e w1 ⟨rfl, rfl⟩)
  refine bodyPost_ret (v := .tuple #[.agg #[.int .u32 ((a : Int) - (R : Int)), .int .i64 b], .int .i64 0]) (by simp [results, Tryd.results19, go_sem]) rfl ⟨rfl, ?_⟩
  exact (Below.refl w.heap.size w).alloc (Nat.le_refl _) _
end Go.Proofs.YtebogllfjhiblaaDoor
