/-
  NONCES, the program's and the document's.
-/
import Derived.Test.YticbfmbinopjcaaWMem
namespace Go.Proofs.Yticbfmbinopjcaa
open Go.RowKit

def okIn (n m : Int) : Prop := 0 ≤ n ∧ n ≤ m
/-- What ends so answers whether. -/
def Says (e : Ending) (p : Prop) : Prop := ∃ b : Bool, e = .returned (.bool b) ∧ (b = true ↔ p)
theorem Says.of {b : Bool} {p : Prop} (h : b = true ↔ p) : Says (.returned (.bool b)) p := ⟨b, rfl, h⟩
theorem Says.yes {p : Prop} (h : p) : Says (.returned (.bool true)) p := ⟨true, rfl, by simp [h]⟩
theorem Says.no {p : Prop} (h : ¬ p) : Says (.returned (.bool false)) p := ⟨false, rfl, by simp [h]⟩

/-- The nonce behind one. -/
def nextN (n : Int) : Int := if 1 ≤ n ∧ n < 65535 then n + 1 else 1
set_option maxHeartbeats 800000 in
set_option maxRecDepth 100000 in
theorem isNonce_any (n : Int) (w : World) : Calls Try.prog 52 #[.int .i64 n] w fun e w' => Says e (okIn (n - 1) 65534) ∧ w' = w := by
  go_enter Try.func52, Try.ntmps52
  go_wp2
  all_goals go_ret
  all_goals refine ⟨Says.of ?_, rfl⟩
  all_goals unfold okIn
  all_goals first
    | (simp; done)
    | (simp; omega)
/-- What ends so answers that number. -/
def Tells (e : Ending) (n : Int) : Prop := e = .returned (.int .i64 n)
set_option maxHeartbeats 800000 in
set_option maxRecDepth 100000 in
theorem next_any (n : Int) (w : World) : Calls Try.prog 40 #[.int .i64 n] w fun e w' => Tells e (nextN n) ∧ w' = w := by
  have hw := isNonce_any
  go_enter Try.func40, Try.ntmps40
  go_wp2_with (go_at_call 52; refine (hw _ _).mono ?_; rintro e w1 ⟨⟨x, rfl, hx⟩, rfl⟩; have HX := Lib.hid hx; clear hx)
  all_goals go_ret
  all_goals refine ⟨?_, rfl⟩
  all_goals unfold Tells nextN
  all_goals have h := HX.out
  all_goals unfold okIn at h
  · rename_i h1 h2
    have h3 : n = 65535 := by simpa using h2
    rw [if_neg (by omega)]; rfl
  · rename_i h1 h2
    have h3 : ¬ n = 65535 := by simpa using h2
    have h4 := h.1 h1
    rw [if_pos (by omega)]
    show Ending.returned (.int .i64 (wrap64 (n + 1))) = _
    have hw : wrap64 (n + 1) = n + 1 := by unfold wrap64; omega
    rw [hw]
  · rename_i h1
    have h2 : ¬ (0 ≤ n - 1 ∧ n - 1 ≤ 65534) := fun h2 => h1 (h.2 h2)
    rw [if_neg (by omega)]; rfl
set_option maxHeartbeats 800000 in
set_option maxRecDepth 100000 in
theorem rnext_any (n : Int) (w : World) : Calls Try.prog 41 #[.int .i64 n] w fun e w' => Tells e (nextN n) ∧ w' = w := by
  go_enter Try.func41, Try.ntmps41
  go_wp2
  all_goals go_ret
  all_goals refine ⟨?_, rfl⟩
  all_goals unfold Tells nextN
  all_goals first
    | (rw [if_neg (by omega)]; rfl)
    | (rw [if_pos (by omega)]; rfl)
/-- How many steps own is behind told; how many may be. -/
def stepsN (told own : Int) : Int := (own - told + 65535) % 65535
def slackN (s : Int) : Int := if s < 0 then 0 else if 1000 < s then 1000 else s
def freshN (told own slack : Int) : Prop := okIn (told - 1) 65534 ∧ okIn (own - 1) 65534 ∧ stepsN told own ≤ slackN slack
set_option maxHeartbeats 800000 in
set_option maxRecDepth 100000 in
theorem fresh_any (told own slack : Int) (w : World) : Calls Try.prog 46 #[.int .i64 told, .int .i64 own, .int .i64 slack] w fun e w' => Says e (freshN told own slack) ∧ w' = w := by
  have hw := isNonce_any
  have T1 : True := trivial
  by_cases h1 : okIn (told - 1) 65534
  · by_cases h2 : okIn (own - 1) 65534
    · have e1 : -9223372036854775808 ≤ own - told ∧ own - told ≤ 9223372036854775807 := by unfold okIn at h1 h2; omega
      have e2 : -9223372036854775808 ≤ own - told + 65535 ∧ own - told + 65535 ≤ 9223372036854775807 := by unfold okIn at h1 h2; omega
      have e3 : (own - told + 65535).tmod 65535 = stepsN told own := by unfold stepsN; unfold okIn at h1 h2; exact Int.tmod_eq_emod_of_nonneg (by omega)
      have H1 := Lib.hid h1
      have H2 := Lib.hid h2
      clear h1 h2
      by_cases s1 : slack < 0
      · have es : slackN slack = 0 := by unfold slackN; rw [if_pos s1]
        go_enter Try.func46, Try.ntmps46
        go_wp2_with (first
          | (go_at_call 52; have tt := T1; clear T1 tt; refine (hw _ _).mono ?_; rintro e w1 ⟨⟨x, rfl, hx⟩, rfl⟩; obtain rfl : x = true := hx.2 H1.out; clear hx)
          | (go_at_call 52; refine (hw _ _).mono ?_; rintro e w1 ⟨⟨x, rfl, hx⟩, rfl⟩; obtain rfl : x = true := hx.2 H2.out; clear hx))
        go_ret
        exact ⟨Says.of (by unfold freshN; rw [es]; simp [H1.out, H2.out]), rfl⟩
      · by_cases s2 : 1000 < slack
        · have es : slackN slack = 1000 := by unfold slackN; rw [if_neg s1, if_pos s2]
          go_enter Try.func46, Try.ntmps46
          go_wp2_with (first
            | (go_at_call 52; have tt := T1; clear T1 tt; refine (hw _ _).mono ?_; rintro e w1 ⟨⟨x, rfl, hx⟩, rfl⟩; obtain rfl : x = true := hx.2 H1.out; clear hx)
            | (go_at_call 52; refine (hw _ _).mono ?_; rintro e w1 ⟨⟨x, rfl, hx⟩, rfl⟩; obtain rfl : x = true := hx.2 H2.out; clear hx))
          go_ret
          exact ⟨Says.of (by unfold freshN; rw [es]; simp [H1.out, H2.out]), rfl⟩
        · have es : slackN slack = slack := by unfold slackN; rw [if_neg s1, if_neg s2]
          go_enter Try.func46, Try.ntmps46
          go_wp2_with (first
            | (go_at_call 52; have tt := T1; clear T1 tt; refine (hw _ _).mono ?_; rintro e w1 ⟨⟨x, rfl, hx⟩, rfl⟩; obtain rfl : x = true := hx.2 H1.out; clear hx)
            | (go_at_call 52; refine (hw _ _).mono ?_; rintro e w1 ⟨⟨x, rfl, hx⟩, rfl⟩; obtain rfl : x = true := hx.2 H2.out; clear hx))
          go_ret
          exact ⟨Says.of (by unfold freshN; rw [es]; simp [H1.out, H2.out]), rfl⟩
    · have H1 := Lib.hid h1
      have H2 := Lib.hid h2
      clear h1 h2
      go_enter Try.func46, Try.ntmps46
      go_wp2_with (first
        | (go_at_call 52; have tt := T1; clear T1 tt; refine (hw _ _).mono ?_; rintro e w1 ⟨⟨x, rfl, hx⟩, rfl⟩; obtain rfl : x = true := hx.2 H1.out; clear hx)
        | (go_at_call 52; refine (hw _ _).mono ?_; rintro e w1 ⟨⟨x, rfl, hx⟩, rfl⟩; obtain rfl : x = false := by (cases x; rfl; exact absurd (hx.1 rfl) H2.out)))
      go_ret
      exact ⟨Says.no (fun h => H2.out h.2.1), rfl⟩
  · have H1 := Lib.hid h1
    clear h1
    go_enter Try.func46, Try.ntmps46
    go_wp2_with (go_at_call 52; have tt := T1; clear T1 tt; refine (hw _ _).mono ?_; rintro e w1 ⟨⟨x, rfl, hx⟩, rfl⟩; obtain rfl : x = false := by (cases x; rfl; exact absurd (hx.1 rfl) H1.out))
    go_ret
    exact ⟨Says.no (fun h => H1.out h.1), rfl⟩
set_option maxHeartbeats 1600000 in
set_option maxRecDepth 100000 in
theorem rfresh_any (told own slack : Int) (w : World) : Calls Try.prog 39 #[.int .i64 told, .int .i64 own, .int .i64 slack] w fun e w' => Says e (freshN told own slack) ∧ w' = w := by
  have hw := rnext_any
  by_cases hh : okIn (told - 1) 65534 ∧ okIn (own - 1) 65534
  · have key : ∀ S : Int, 0 ≤ S → S ≤ 1000 → slackN slack = S → ∀ wr : World, wr = w → True := fun _ _ _ _ _ _ => trivial
    obtain ⟨h1, h2⟩ := hh
    unfold okIn at h1 h2
    have hst : 0 ≤ stepsN told own ∧ stepsN told own < 65535 := by unfold stepsN; omega
    have hstep : ∀ i : Int, 0 ≤ i → i ≤ stepsN told own → ((told - 1 + i) % 65535 + 1 = own ↔ i = stepsN told own) := fun i h3 h4 => by unfold stepsN at h4 ⊢; omega
    have hnx : ∀ i : Int, 0 ≤ i → nextN ((told - 1 + i) % 65535 + 1) = (told - 1 + (i + 1)) % 65535 + 1 := fun i h3 => by unfold nextN; split <;> omega
    have HF : Hid (freshN told own slack ↔ stepsN told own ≤ slackN slack) := by unfold freshN okIn Hid; constructor; exact fun h => h.2.2; exact fun h => ⟨by omega, by omega, h⟩
    have HST := Lib.hid hst
    have HSTEP := Lib.hid hstep
    have HNX := Lib.hid hnx
    have hs0 : slackN slack = if slack < 0 then 0 else if 1000 < slack then 1000 else slack := rfl
    have h0 : (told - 1 + 0) % 65535 + 1 = told := by omega
    obtain ⟨st, hst2⟩ : ∃ st, stepsN told own = st := ⟨_, rfl⟩
    rw [hst2] at HF HST HSTEP
    have H0 := Lib.hid h0
    have g1 : ¬ told < 1 := by omega
    have g2 : ¬ 65535 < told := by omega
    have g3 : ¬ own < 1 := by omega
    have g4 : ¬ 65535 < own := by omega
    clear h1 h2 hst hstep hnx h0 hst2 key
    by_cases s1 : slack < 0
    · have HS : Hid (slackN slack = 0) := by unfold Hid; rw [hs0, if_pos s1]
      clear hs0
      go_enter Try.func39, Try.ntmps39
      go_wp2
      go_loopw [0, 7] (fun tv iv wr => ∃ i : Int, Hid (0 ≤ i ∧ i ≤ st ∧ i ≤ 0 + 1) ∧ tv = .int .i64 ((told - 1 + i) % 65535 + 1) ∧ iv = .int .i64 i ∧ wr = w) (fun _ iv _ => (0 + 1 - intOf iv).toNat)
      case atStart => exact ⟨0, ⟨by omega, HST.out.1, by omega⟩, by rw [H0.out], rfl, rfl⟩
      case round =>
        obtain ⟨i, HI, rfl, rfl, rfl⟩ := hrel
        obtain ⟨T, hT⟩ : ∃ T, (told - 1 + i) % 65535 + 1 = T := ⟨_, rfl⟩
        have HT := Lib.hid hT
        rw [hT]
        clear hT
        by_cases hle : i ≤ 0
        · by_cases heq : T = own
          · go_wp2
            go_ret
            have hi := HI.out
            have e : i = st := (HSTEP.out i hi.1 hi.2.1).1 (HT.out.trans heq)
            exact ⟨Says.yes (HF.out.2 (by rw [HS.out]; omega)), by first | rfl | trivial⟩
          · have hi := HI.out
            have e : i ≠ st := fun e => heq (HT.out.symm.trans ((HSTEP.out i hi.1 hi.2.1).2 e))
            have HE := Lib.hid e
            have hb : 0 ≤ i ∧ i ≤ 1000 := by omega
            clear hi e
            go_wp2_with (go_at_call 41; refine (hw _ _).mono ?_; rintro e w1 ⟨he, rfl⟩; unfold Tells at he; subst he)
            go_roundw
            case rel =>
              have hi := HI.out
              have he := HE.out
              exact ⟨i + 1, ⟨by omega, by omega, by omega⟩, by rw [← HNX.out i hi.1, HT.out], by go_num, by first | rfl | trivial⟩
            case measure => simp [intOf]; omega
        · go_wp2
          go_ret
          have hi := HI.out
          exact ⟨Says.no (fun h => by have := HF.out.1 h; rw [HS.out] at this; omega), by first | rfl | trivial⟩
    · by_cases s2 : 1000 < slack
      · have HS : Hid (slackN slack = 1000) := by unfold Hid; rw [hs0, if_neg s1, if_pos s2]
        clear hs0
        go_enter Try.func39, Try.ntmps39
        go_wp2
        go_loopw [0, 7] (fun tv iv wr => ∃ i : Int, Hid (0 ≤ i ∧ i ≤ st ∧ i ≤ 1000 + 1) ∧ tv = .int .i64 ((told - 1 + i) % 65535 + 1) ∧ iv = .int .i64 i ∧ wr = w) (fun _ iv _ => (1000 + 1 - intOf iv).toNat)
        case atStart => exact ⟨0, ⟨by omega, HST.out.1, by omega⟩, by rw [H0.out], rfl, rfl⟩
        case round =>
          obtain ⟨i, HI, rfl, rfl, rfl⟩ := hrel
          obtain ⟨T, hT⟩ : ∃ T, (told - 1 + i) % 65535 + 1 = T := ⟨_, rfl⟩
          have HT := Lib.hid hT
          rw [hT]
          clear hT
          by_cases hle : i ≤ 1000
          · by_cases heq : T = own
            · go_wp2
              go_ret
              have hi := HI.out
              have e : i = st := (HSTEP.out i hi.1 hi.2.1).1 (HT.out.trans heq)
              exact ⟨Says.yes (HF.out.2 (by rw [HS.out]; omega)), by first | rfl | trivial⟩
            · have hi := HI.out
              have e : i ≠ st := fun e => heq (HT.out.symm.trans ((HSTEP.out i hi.1 hi.2.1).2 e))
              have HE := Lib.hid e
              have hb : 0 ≤ i ∧ i ≤ 1000 := by omega
              clear hi e
              go_wp2_with (go_at_call 41; refine (hw _ _).mono ?_; rintro e w1 ⟨he, rfl⟩; unfold Tells at he; subst he)
              go_roundw
              case rel =>
                have hi := HI.out
                have he := HE.out
                exact ⟨i + 1, ⟨by omega, by omega, by omega⟩, by rw [← HNX.out i hi.1, HT.out], by go_num, by first | rfl | trivial⟩
              case measure => simp [intOf]; omega
          · go_wp2
            go_ret
            have hi := HI.out
            exact ⟨Says.no (fun h => by have := HF.out.1 h; rw [HS.out] at this; omega), by first | rfl | trivial⟩
      · have HS : Hid (slackN slack = slack) := by unfold Hid; rw [hs0, if_neg s1, if_neg s2]
        clear hs0
        go_enter Try.func39, Try.ntmps39
        go_wp2
        go_loopw [0, 7] (fun tv iv wr => ∃ i : Int, Hid (0 ≤ i ∧ i ≤ st ∧ i ≤ slack + 1) ∧ tv = .int .i64 ((told - 1 + i) % 65535 + 1) ∧ iv = .int .i64 i ∧ wr = w) (fun _ iv _ => (slack + 1 - intOf iv).toNat)
        case atStart => exact ⟨0, ⟨by omega, HST.out.1, by omega⟩, by rw [H0.out], rfl, rfl⟩
        case round =>
          obtain ⟨i, HI, rfl, rfl, rfl⟩ := hrel
          obtain ⟨T, hT⟩ : ∃ T, (told - 1 + i) % 65535 + 1 = T := ⟨_, rfl⟩
          have HT := Lib.hid hT
          rw [hT]
          clear hT
          by_cases hle : i ≤ slack
          · by_cases heq : T = own
            · go_wp2
              go_ret
              have hi := HI.out
              have e : i = st := (HSTEP.out i hi.1 hi.2.1).1 (HT.out.trans heq)
              exact ⟨Says.yes (HF.out.2 (by rw [HS.out]; omega)), by first | rfl | trivial⟩
            · have hi := HI.out
              have e : i ≠ st := fun e => heq (HT.out.symm.trans ((HSTEP.out i hi.1 hi.2.1).2 e))
              have HE := Lib.hid e
              have hb : 0 ≤ i ∧ i ≤ 1000 := by omega
              clear hi e
              go_wp2_with (go_at_call 41; refine (hw _ _).mono ?_; rintro e w1 ⟨he, rfl⟩; unfold Tells at he; subst he)
              go_roundw
              case rel =>
                have hi := HI.out
                have he := HE.out
                exact ⟨i + 1, ⟨by omega, by omega, by omega⟩, by rw [← HNX.out i hi.1, HT.out], by go_num, by first | rfl | trivial⟩
              case measure => simp [intOf]; omega
          · go_wp2
            go_ret
            have hi := HI.out
            exact ⟨Says.no (fun h => by have := HF.out.1 h; rw [HS.out] at this; omega), by first | rfl | trivial⟩
  · have HH := Lib.hid hh
    by_cases g1 : told < 1
    · go_enter Try.func39, Try.ntmps39
      go_wp2
      go_ret
      exact ⟨Says.no (fun h => HH.out ⟨h.1, h.2.1⟩), rfl⟩
    · by_cases g2 : 65535 < told
      · go_enter Try.func39, Try.ntmps39
        go_wp2
        go_ret
        exact ⟨Says.no (fun h => HH.out ⟨h.1, h.2.1⟩), rfl⟩
      · by_cases g3 : own < 1
        · go_enter Try.func39, Try.ntmps39
          go_wp2
          go_ret
          exact ⟨Says.no (fun h => HH.out ⟨h.1, h.2.1⟩), rfl⟩
        · have g4 : 65535 < own := by unfold okIn at hh; omega
          go_enter Try.func39, Try.ntmps39
          go_wp2
          go_ret
          exact ⟨Says.no (fun h => HH.out ⟨h.1, h.2.1⟩), rfl⟩
end Go.Proofs.Yticbfmbinopjcaa
