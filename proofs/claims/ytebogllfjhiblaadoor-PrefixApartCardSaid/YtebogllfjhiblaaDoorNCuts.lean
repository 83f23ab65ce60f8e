/-
  PREFIXES: the law of what is cut off an address.
-/
import Derived.Test.YtebogllfjhiblaaDoorNLaw
namespace Go.Proofs.YtebogllfjhiblaaDoor
set_option linter.unusedVariables false
open Go.RowKit
theorem cut_fix (a S : Nat) : (a - a % S) % S = 0 := by
  have h := Nat.div_add_mod a S
  rw [show a - a % S = S * (a / S) by omega]
  exact Nat.mul_mod_right _ _
theorem cut_right {b : Int} (h : rightB b = true) (a : Nat) : rightP (cutP a b) = true := by
  unfold rightP
  rw [show (cutP a b).2 = b from rfl, h, Bool.true_and]
  exact decide_eq_true (cut_fix a _)
theorem cut_in {b : Int} (h : rightB b = true) (a : Nat) : inP (cutP a b) a = true := by
  unfold inP
  rw [cut_right h, Bool.true_and]
  exact decide_eq_true rfl
theorem cut_cut {m n : Int} (h : m ≤ n) (a : Nat) : (a - a % sizeP n) - (a - a % sizeP n) % sizeP m = a - a % sizeP m := by
  obtain ⟨k, hk⟩ := sizeP_dvd h
  rw [hk]
  have hp := sizeP_pos n
  generalize sizeP n = S at *
  have h1 := Nat.div_add_mod a S
  have h2 := Nat.div_add_mod (a - a % S) (S * k)
  have h3 := Nat.div_add_mod a (S * k)
  have e : (a - a % S) / (S * k) = a / (S * k) := by
    rw [← Nat.div_div_eq_div_mul, ← Nat.div_div_eq_div_mul, show a - a % S = S * (a / S) by omega, Nat.mul_div_cancel_left _ hp]
  rw [e] at h2
  omega
theorem cut_covers {m n : Int} (hm : rightB m = true) (hn : rightB n = true) (a : Nat) : coversP (cutP a m) (cutP a n) = decide (m ≤ n) := by
  unfold coversP
  rw [cut_right hn, Bool.true_and, show (cutP a m).2 = m from rfl, show (cutP a n).2 = n from rfl]
  by_cases h : m ≤ n
  · rw [decide_eq_true h, Bool.true_and]
    unfold inP
    rw [cut_right hm, Bool.true_and]
    exact decide_eq_true (cut_cut h a)
  · rw [decide_eq_false h, Bool.false_and]
set_option maxHeartbeats 1600000 in
set_option maxRecDepth 100000 in
theorem cuts_walk (a : Nat) (ha : a < 4294967296) (m : Int) (_ : -9223372036854775808 ≤ m ∧ m ≤ 9223372036854775807) (n : Int) (_ : -9223372036854775808 ≤ n ∧ n ≤ 9223372036854775807) (w : World) (hT : TabP w.heap.size w) :
    Calls Tryd.prog 9 #[.int .u32 a, .int .i64 m, .int .i64 n] w fun e w' => e = .returned (.bool true) ∧ Below w.heap.size w w' := by
  have haw := awake6_any w hT
  have T1 : True := trivial
  have T2 : True := trivial
  clear hT
  by_cases hm : rightB m = true
  · by_cases hn : rightB n = true
    · have hc1 := cut_ok a ha m hm
      have hc2 := cut_ok a ha n hn
      have hi1 := in_any (cutP a m).1 (cutP_lt ha m) m a ha
      have hi2 := in_any (cutP a n).1 (cutP_lt ha n) n a ha
      have hr1 := right_any (cutP a m).1 (cutP_lt ha m) m
      have hcv := covers_any (cutP a m).1 (cutP_lt ha m) m (cutP a n).1 (cutP_lt ha n) n
      rw [show ((cutP a m).1, m) = cutP a m from rfl] at hi1 hr1 hcv
      rw [show ((cutP a n).1, n) = cutP a n from rfl] at hi2 hcv
      rw [cut_in hm] at hi1
      rw [cut_in hn] at hi2
      rw [cut_right hm] at hr1
      rw [cut_covers hm hn] at hcv
      generalize (cutP a m).1 = M at *
      generalize (cutP a n).1 = N at *
      clear hm hn
      go_enter Tryd.func9, Tryd.ntmps9
      go_wp2_with (first
        | (go_at_call 11; refine haw.mono ?_; rintro e w1 ⟨rfl, hb1⟩; have HB1 := Lib.hid hb1; clear hb1)
        | (go_at_call 18; have tt := T1; clear T1 tt; refine (hc1 _).mono ?_; rintro e w2 ⟨rfl, hb2⟩; have HB2 := Lib.hid (HB1.out.trans (hb2.mono HB1.out.size)); clear hb2)
        | (go_at_call 18; refine (hc2 _).mono ?_; rintro e w3 ⟨rfl, hb3⟩; have k1 := (Bx.new w2 (.int .u32 M) (.int .i64 m)).keep hb3 (by simp); have HB3 := Lib.hid (((HB2.out.alloc HB2.out.size (.cells #[.int .u32 M, .int .i64 m] 24)).trans (hb3.mono (by have := HB2.out.size; simp; omega))).alloc (by have h2 := HB2.out.size; have h3 := hb3.size; simp at h3; omega) (.cells #[.int .u32 N, .int .i64 n] 24)); have BXa3 := Lib.hid (k1.alloc (.cells #[.int .u32 N, .int .i64 n] 24)); have BXb3 := Lib.hid (Bx.new w3 (.int .u32 N) (.int .i64 n)); obtain ⟨p0, p1, _, _⟩ := k1.cells; have z2 : w2.heap.size < w3.heap.size := k1.lt; clear hb3 k1)
        | (go_at_call 20; have tt := T2; clear T2 tt; refine (hi1 _).mono ?_; rintro e w4 ⟨rfl, hb4⟩; have ka4 := BXa3.out.keep hb4 BXa3.out.lt; have kb4 := BXb3.out.keep hb4 BXb3.out.lt; obtain ⟨a4, a4', _, _⟩ := ka4.cells; obtain ⟨b4, b4', _, _⟩ := kb4.cells; have BXa4 := Lib.hid ka4; have BXb4 := Lib.hid kb4; have HB4 := Lib.hid (HB3.out.trans (hb4.mono HB3.out.size)); clear hb4 ka4 kb4)
        | (go_at_call 20; refine (hi2 _).mono ?_; rintro e w5 ⟨rfl, hb5⟩; have ka5 := BXa4.out.keep hb5 BXa4.out.lt; have kb5 := BXb4.out.keep hb5 BXb4.out.lt; obtain ⟨a5, a5', _, _⟩ := ka5.cells; obtain ⟨b5, b5', _, _⟩ := kb5.cells; have BXa5 := Lib.hid ka5; have BXb5 := Lib.hid kb5; have HB5 := Lib.hid (HB4.out.trans (hb5.mono HB4.out.size)); clear hb5 ka5 kb5)
        | (go_at_call 16; refine (hr1 _).mono ?_; rintro e w6 ⟨rfl, hb6⟩; have ka6 := BXa5.out.keep hb6 BXa5.out.lt; have kb6 := BXb5.out.keep hb6 BXb5.out.lt; obtain ⟨a6, a6', _, _⟩ := ka6.cells; obtain ⟨b6, b6', _, _⟩ := kb6.cells; have BXa6 := Lib.hid ka6; have BXb6 := Lib.hid kb6; have HB6 := Lib.hid (HB5.out.trans (hb6.mono HB5.out.size)); clear hb6 ka6 kb6)
        | (go_at_call 22; refine (hcv _).mono ?_; rintro e w7 ⟨rfl, hb7⟩; have ka7 := BXa6.out.keep hb7 BXa6.out.lt; have kb7 := BXb6.out.keep hb7 BXb6.out.lt; obtain ⟨a7, a7', _, _⟩ := ka7.cells; obtain ⟨b7, b7', _, _⟩ := kb7.cells; have BXa7 := Lib.hid ka7; have BXb7 := Lib.hid kb7; have HB7 := Lib.hid (HB6.out.trans (hb7.mono HB6.out.size)); clear hb7 ka7 kb7))
      go_ret
      exact ⟨rfl, HB7.out⟩
    · have hn : rightB n = false := by simpa using hn
      have hc1 := cut_ok a ha m hm
      have hc2 := cut_no a n hn
      have h01 := bits_of hm
      have d0 : decide (0 ≤ m) = true := decide_eq_true h01.1
      have d1 : decide (m ≤ 32) = true := decide_eq_true h01.2
      generalize (cutP a m).1 = M at *
      have hbad : ¬ (0 ≤ n ∧ n ≤ 32) := by unfold rightB at hn; exact of_decide_eq_false hn
      clear hm hn h01
      by_cases h0 : 0 ≤ n
      · have h1 : ¬ n ≤ 32 := fun h => hbad ⟨h0, h⟩
        have e0 : decide (0 ≤ n) = true := decide_eq_true h0
        have e1 : decide (n ≤ 32) = false := decide_eq_false h1
        clear hbad
        go_enter Tryd.func9, Tryd.ntmps9
        go_wp2_with (first
          | (go_at_call 11; refine haw.mono ?_; rintro e w1 ⟨rfl, hb1⟩; have HB1 := Lib.hid hb1; clear hb1)
          | (go_at_call 18; have tt := T1; clear T1 tt; refine (hc1 _).mono ?_; rintro e w2 ⟨rfl, hb2⟩; have HB2 := Lib.hid (HB1.out.trans (hb2.mono HB1.out.size)); clear hb2)
          | (go_at_call 18; refine (hc2 _).mono ?_; rintro e w3 ⟨rfl, hb3⟩; have HB3 := Lib.hid ((HB2.out.alloc HB2.out.size _).trans (hb3.mono (by have := HB2.out.size; simp; omega))); clear hb3))
        go_ret
        exact ⟨rfl, HB3.out.alloc HB3.out.size _⟩
      · have e0 : decide (0 ≤ n) = false := decide_eq_false h0
        clear hbad
        go_enter Tryd.func9, Tryd.ntmps9
        go_wp2_with (first
          | (go_at_call 11; refine haw.mono ?_; rintro e w1 ⟨rfl, hb1⟩; have HB1 := Lib.hid hb1; clear hb1)
          | (go_at_call 18; have tt := T1; clear T1 tt; refine (hc1 _).mono ?_; rintro e w2 ⟨rfl, hb2⟩; have HB2 := Lib.hid (HB1.out.trans (hb2.mono HB1.out.size)); clear hb2)
          | (go_at_call 18; refine (hc2 _).mono ?_; rintro e w3 ⟨rfl, hb3⟩; have HB3 := Lib.hid ((HB2.out.alloc HB2.out.size _).trans (hb3.mono (by have := HB2.out.size; simp; omega))); clear hb3))
        go_ret
        exact ⟨rfl, HB3.out.alloc HB3.out.size _⟩
  · have hm : rightB m = false := by simpa using hm
    have hc1 := cut_no a m hm
    have hbad : ¬ (0 ≤ m ∧ m ≤ 32) := by unfold rightB at hm; exact of_decide_eq_false hm
    obtain ⟨N, nn, er, hc2, hn⟩ : ∃ (N : Nat) (nn er : Int), (∀ w, Calls Tryd.prog 18 #[.int .u32 a, .int .i64 n] w fun e w' => e = .returned (.tuple #[.agg #[.int .u32 N, .int .i64 nn], .int .i64 er]) ∧ Below w.heap.size w w') ∧ ((er = 0 ∧ 0 ≤ n ∧ n ≤ 32) ∨ (er = 1 ∧ ¬ (0 ≤ n ∧ n ≤ 32))) := by
      cases hn : rightB n
      · exact ⟨0, 0, 1, cut_no a n hn, .inr ⟨rfl, by unfold rightB at hn; exact of_decide_eq_false hn⟩⟩
      · exact ⟨_, n, 0, cut_ok a ha n hn, .inl ⟨rfl, bits_of hn⟩⟩
    clear hm
    have hmm : (0 ≤ m ∧ ¬ m ≤ 32) ∨ ¬ 0 ≤ m := by omega
    have hnn : (er = 0 ∧ 0 ≤ n ∧ n ≤ 32) ∨ (er = 1 ∧ 0 ≤ n ∧ ¬ n ≤ 32) ∨ (er = 1 ∧ ¬ 0 ≤ n) := by omega
    clear hn hbad
    rcases hmm with ⟨h0, h1⟩ | h0
    · rcases hnn with ⟨rfl, k0, k1⟩ | ⟨rfl, k0, k1⟩ | ⟨rfl, k0⟩
      · have e0 : decide (0 ≤ m) = true := decide_eq_true h0
        have e1 : decide (m ≤ 32) = false := decide_eq_false h1
        have f0 : decide (0 ≤ n) = true := decide_eq_true k0
        have f1 : decide (n ≤ 32) = true := decide_eq_true k1
        go_enter Tryd.func9, Tryd.ntmps9
        go_wp2_with (first
          | (go_at_call 11; refine haw.mono ?_; rintro e w1 ⟨rfl, hb1⟩; have HB1 := Lib.hid hb1; clear hb1)
          | (go_at_call 18; have tt := T1; clear T1 tt; refine (hc1 _).mono ?_; rintro e w2 ⟨rfl, hb2⟩; have HB2 := Lib.hid (HB1.out.trans (hb2.mono HB1.out.size)); clear hb2)
          | (go_at_call 18; refine (hc2 _).mono ?_; rintro e w3 ⟨rfl, hb3⟩; have HB3 := Lib.hid ((HB2.out.alloc HB2.out.size _).trans (hb3.mono (by have := HB2.out.size; simp; omega))); clear hb3))
        go_ret
        exact ⟨rfl, HB3.out.alloc HB3.out.size _⟩
      · have e0 : decide (0 ≤ m) = true := decide_eq_true h0
        have e1 : decide (m ≤ 32) = false := decide_eq_false h1
        have f0 : decide (0 ≤ n) = true := decide_eq_true k0
        have f1 : decide (n ≤ 32) = false := decide_eq_false k1
        go_enter Tryd.func9, Tryd.ntmps9
        go_wp2_with (first
          | (go_at_call 11; refine haw.mono ?_; rintro e w1 ⟨rfl, hb1⟩; have HB1 := Lib.hid hb1; clear hb1)
          | (go_at_call 18; have tt := T1; clear T1 tt; refine (hc1 _).mono ?_; rintro e w2 ⟨rfl, hb2⟩; have HB2 := Lib.hid (HB1.out.trans (hb2.mono HB1.out.size)); clear hb2)
          | (go_at_call 18; refine (hc2 _).mono ?_; rintro e w3 ⟨rfl, hb3⟩; have HB3 := Lib.hid ((HB2.out.alloc HB2.out.size _).trans (hb3.mono (by have := HB2.out.size; simp; omega))); clear hb3))
        go_ret
        exact ⟨rfl, HB3.out.alloc HB3.out.size _⟩
      · have e0 : decide (0 ≤ m) = true := decide_eq_true h0
        have e1 : decide (m ≤ 32) = false := decide_eq_false h1
        have f0 : decide (0 ≤ n) = false := decide_eq_false k0
        go_enter Tryd.func9, Tryd.ntmps9
        go_wp2_with (first
          | (go_at_call 11; refine haw.mono ?_; rintro e w1 ⟨rfl, hb1⟩; have HB1 := Lib.hid hb1; clear hb1)
          | (go_at_call 18; have tt := T1; clear T1 tt; refine (hc1 _).mono ?_; rintro e w2 ⟨rfl, hb2⟩; have HB2 := Lib.hid (HB1.out.trans (hb2.mono HB1.out.size)); clear hb2)
          | (go_at_call 18; refine (hc2 _).mono ?_; rintro e w3 ⟨rfl, hb3⟩; have HB3 := Lib.hid ((HB2.out.alloc HB2.out.size _).trans (hb3.mono (by have := HB2.out.size; simp; omega))); clear hb3))
        go_ret
        exact ⟨rfl, HB3.out.alloc HB3.out.size _⟩
    · rcases hnn with ⟨rfl, k0, k1⟩ | ⟨rfl, k0, k1⟩ | ⟨rfl, k0⟩
      · have e0 : decide (0 ≤ m) = false := decide_eq_false h0
        have f0 : decide (0 ≤ n) = true := decide_eq_true k0
        have f1 : decide (n ≤ 32) = true := decide_eq_true k1
        go_enter Tryd.func9, Tryd.ntmps9
        go_wp2_with (first
          | (go_at_call 11; refine haw.mono ?_; rintro e w1 ⟨rfl, hb1⟩; have HB1 := Lib.hid hb1; clear hb1)
          | (go_at_call 18; have tt := T1; clear T1 tt; refine (hc1 _).mono ?_; rintro e w2 ⟨rfl, hb2⟩; have HB2 := Lib.hid (HB1.out.trans (hb2.mono HB1.out.size)); clear hb2)
          | (go_at_call 18; refine (hc2 _).mono ?_; rintro e w3 ⟨rfl, hb3⟩; have HB3 := Lib.hid ((HB2.out.alloc HB2.out.size _).trans (hb3.mono (by have := HB2.out.size; simp; omega))); clear hb3))
        go_ret
        exact ⟨rfl, HB3.out.alloc HB3.out.size _⟩
      · have e0 : decide (0 ≤ m) = false := decide_eq_false h0
        have f0 : decide (0 ≤ n) = true := decide_eq_true k0
        have f1 : decide (n ≤ 32) = false := decide_eq_false k1
        go_enter Tryd.func9, Tryd.ntmps9
        go_wp2_with (first
          | (go_at_call 11; refine haw.mono ?_; rintro e w1 ⟨rfl, hb1⟩; have HB1 := Lib.hid hb1; clear hb1)
          | (go_at_call 18; have tt := T1; clear T1 tt; refine (hc1 _).mono ?_; rintro e w2 ⟨rfl, hb2⟩; have HB2 := Lib.hid (HB1.out.trans (hb2.mono HB1.out.size)); clear hb2)
          | (go_at_call 18; refine (hc2 _).mono ?_; rintro e w3 ⟨rfl, hb3⟩; have HB3 := Lib.hid ((HB2.out.alloc HB2.out.size _).trans (hb3.mono (by have := HB2.out.size; simp; omega))); clear hb3))
        go_ret
        exact ⟨rfl, HB3.out.alloc HB3.out.size _⟩
      · have e0 : decide (0 ≤ m) = false := decide_eq_false h0
        have f0 : decide (0 ≤ n) = false := decide_eq_false k0
        go_enter Tryd.func9, Tryd.ntmps9
        go_wp2_with (first
          | (go_at_call 11; refine haw.mono ?_; rintro e w1 ⟨rfl, hb1⟩; have HB1 := Lib.hid hb1; clear hb1)
          | (go_at_call 18; have tt := T1; clear T1 tt; refine (hc1 _).mono ?_; rintro e w2 ⟨rfl, hb2⟩; have HB2 := Lib.hid (HB1.out.trans (hb2.mono HB1.out.size)); clear hb2)
          | (go_at_call 18; refine (hc2 _).mono ?_; rintro e w3 ⟨rfl, hb3⟩; have HB3 := Lib.hid ((HB2.out.alloc HB2.out.size _).trans (hb3.mono (by have := HB2.out.size; simp; omega))); clear hb3))
        go_ret
        exact ⟨rfl, HB3.out.alloc HB3.out.size _⟩
end Go.Proofs.YtebogllfjhiblaaDoor
