/-
  ZtpHolds: the law's walk.
-/
import Derived.Test.YtfdoldefdkijoaaZLawP
namespace Go.Proofs.Ytfdoldefdkijoaa
set_option linter.unusedSimpArgs false
set_option linter.unusedVariables false
open Go.ChangeMaps Go.MapKept Go.Maps Go.RowKit
def stZ (high low n : Int) : ZtT := if n = 11 then ⟨-1, false, false, [⟨2, low, 14⟩], high, false, 0⟩ else holdZ low (n - 1)
theorem st_next {high low n : Int} (h : 1 ≤ low ∧ low < high ∧ high ≤ 24) (hn : 11 ≤ n ∧ n ≤ 13) : (tickZ (offerZ (stZ high low n) 2 low false n).2 n).2 = holdZ low n ∧ stZ high low (n + 1) = holdZ low n := by
  constructor
  · by_cases e : n = 11
    · subst e
      exact holds3 h
    · unfold stZ
      rw [if_neg e]
      have := holds4 h (n - 1) (by omega)
      rw [show n - 1 + 1 = n by omega] at this
      exact this
  · unfold stZ
    rw [if_neg (by omega), show n + 1 - 1 = n by omega]
set_option maxHeartbeats 3200000 in
set_option maxRecDepth 100000 in
theorem hold_ok (high low : Int) (h : 1 ≤ low ∧ low < high ∧ high ≤ 24) (w : World) : Calls Try.prog 6 #[.int .i64 high, .int .i64 low] w fun e w' => e = .returned (.bool true) ∧ Below w.heap.size w w' := by
  have hawk := awake_any w
  have q1 : levelZ (⟨-1, false, false, [⟨1, high, 14⟩, ⟨2, low, 14⟩], high, false, 0⟩ : ZtT) = high - 1 := rfl
  have q2 : levelZ (⟨-1, false, false, [⟨2, low, 18⟩], low, false, 14⟩ : ZtT) = low - 1 := rfl
  have q3 : ∀ n, levelZ (holdZ low n) = -1 := fun _ => rfl
  have q4 : ∀ n, bestL (holdZ low n).L = low := fun n => best1 h.1
  have Q1 := Lib.hid q1
  have Q2 := Lib.hid q2
  have Q3 := Lib.hid q3
  have Q4 := Lib.hid q4
  have E1 := Lib.hid (holds1 h)
  have E2 := Lib.hid (holds2 h)
  have E5 := Lib.hid (holds5 h)
  have EN : Hid (∀ n, 11 ≤ n ∧ n ≤ 13 → (tickZ (offerZ (stZ high low n) 2 low false n).2 n).2 = holdZ low n ∧ stZ high low (n + 1) = holdZ low n) := fun n hn => st_next h hn
  have ES : Hid (stZ high low 11 = ⟨-1, false, false, [⟨2, low, 14⟩], high, false, 0⟩ ∧ stZ high low 14 = holdZ low 13) := ⟨by unfold stZ; rw [if_pos rfl], by unfold stZ; rw [if_neg (by omega)]; rfl⟩
  obtain ⟨g1, g2, g3⟩ := h
  have b1 : -9223372036854775808 ≤ low - 1 ∧ low - 1 ≤ 9223372036854775807 := by omega
  have b2 : -9223372036854775808 ≤ high - 1 ∧ high - 1 ≤ 9223372036854775807 := by omega
  clear q1 q2 q3 q4
  have A1 : True := trivial
  have A2 : True := trivial
  have A3 : True := trivial
  have A4 : True := trivial
  have A5 : True := trivial
  go_enter Try.func6, Try.ntmps6
  go_wp2_with (first
    | (go_at_call 9; refine hawk.mono ?_; rintro e w1 ⟨rfl, hb1⟩; have HB1 := Lib.hid hb1; have hnew := pnew_own w1; clear hb1)
    | (go_at_call 10; refine hnew.mono ?_; rintro e w2 ⟨pb, rfl, hz⟩; have c1 := poffer_law hz 1 high false 10; clear hz)
    | (have tt := A1; clear A1 tt; go_at_call 12; refine c1.mono ?_; rintro e w3 ⟨rfl, hz, _⟩; have c2 := poffer_law hz 2 low false 10; clear hz)
    | (have tt := A2; clear A2 tt; go_at_call 12; refine c2.mono ?_; rintro e w4 ⟨rfl, hz, _⟩; have c3 := ptick_law hz 10; rw [E1.out] at c3; clear hz)
    | (have tt := A3; clear A3 tt; go_at_call 14; refine c3.mono ?_; rintro e w5 ⟨rfl, hz, _⟩; have c4 := plevel_law hz; rw [Q1.out] at c4; have c5 := poffer_law hz 1 high true 11; rw [E2.out, ← ES.out.1] at c5; clear hz)
    | (have tt := A4; clear A4 tt; go_at_call 16; refine c4.mono ?_; rintro e w6 ⟨rfl, hww⟩; have hww := hww.symm; subst hww)
    | (have tt := A5; clear A5 tt; go_at_call 12; refine c5.mono ?_; rintro e w7 ⟨rfl, hz, _⟩; have HZ := Lib.hid hz; clear hz))
  go_loopw [9] (fun i wr => ∃ n : Int, 11 ≤ n ∧ n ≤ 14 ∧ i = .int .i64 n ∧ Hid (LZ w1 pb (stZ high low n) wr)) (fun i _ => (14 - intOf i).toNat)
  case atStart => exact ⟨11, by omega, by omega, rfl, HZ⟩
  case round =>
    obtain ⟨n, hn1, hn2, rfl, HQ⟩ := hrel
    by_cases hlt : n < 14
    · have HN := Lib.hid (EN.out n (by omega))
      have c1 := poffer_law HQ.out 2 low false n
      clear c2 c3 c4 c5
      go_wp2_with (first
        | (go_at_call 12; refine c1.mono ?_; rintro e w3 ⟨rfl, hz, _⟩; have c2 := ptick_law hz n; rw [HN.out.1] at c2; clear hz)
        | (go_at_call 14; refine c2.mono ?_; rintro e w5 ⟨rfl, hz, _⟩; have c4 := plevel_law hz; rw [Q3.out] at c4; have c5 := pbest_law hz; rw [Q4.out] at c5; clear hz)
        | (go_at_call 16; refine c4.mono ?_; rintro e w6 ⟨rfl, hww⟩; have hww := hww.symm; subst hww)
        | (go_at_call 18; refine c5.mono ?_; rintro e w7 ⟨rfl, hz, _⟩; have HZ7 := Lib.hid hz; clear hz))
      go_roundw
      case rel => exact ⟨n + 1, by omega, by omega, by go_num, by rw [HN.out.2]; exact HZ7⟩
      case measure => simp [intOf]; omega
    · obtain rfl : n = 14 := by omega
      have hz := HQ.out
      rw [ES.out.2] at hz
      have d1 := poffer_law hz 2 low false 14
      clear hz c2 c3 c4 c5
      go_wp2_with (first
        | (go_at_call 12; refine d1.mono ?_; rintro e w3 ⟨rfl, hz, _⟩; have d2 := ptick_law hz 14; rw [E5.out] at d2; clear hz)
        | (go_at_call 14; refine d2.mono ?_; rintro e w5 ⟨rfl, hz, _⟩; have d4 := plevel_law hz; rw [Q2.out] at d4; have HE := Lib.hid (HB1.out.trans (hz.b.mono HB1.out.size)); clear hz)
        | (go_at_call 16; refine d4.mono ?_; rintro e w6 ⟨rfl, hww⟩; have hww := hww.symm; subst hww))
      go_ret
      exact ⟨rfl, HE.out⟩
set_option maxHeartbeats 3200000 in
set_option maxRecDepth 100000 in
theorem hold_walk (high : Int) (_ : InI high) (low : Int) (_ : InI low) (w : World) : Calls Try.prog 6 #[.int .i64 high, .int .i64 low] w fun e w' => e = .returned (.bool true) ∧ Below w.heap.size w w' := by
  by_cases h : 1 ≤ low ∧ low < high ∧ high ≤ 24
  · exact hold_ok high low h w
  · have hawk := awake_any w
    by_cases k0 : low < 1
    · clear h
      go_enter Try.func6, Try.ntmps6
      go_wp2_with (first
        | (go_at_call 9; refine hawk.mono ?_; rintro e w1 ⟨rfl, hb1⟩; have HB1 := Lib.hid hb1; have hnew := pnew_own w1; clear hb1)
        | (go_at_call 10; refine hnew.mono ?_; rintro e w2 ⟨pb, rfl, hz⟩; have HZ := Lib.hid hz; clear hz))
      go_ret
      exact ⟨rfl, HB1.out.trans (HZ.out.b.mono HB1.out.size)⟩
    · by_cases k1 : 24 < high
      · clear h
        go_enter Try.func6, Try.ntmps6
        go_wp2_with (first
          | (go_at_call 9; refine hawk.mono ?_; rintro e w1 ⟨rfl, hb1⟩; have HB1 := Lib.hid hb1; have hnew := pnew_own w1; clear hb1)
          | (go_at_call 10; refine hnew.mono ?_; rintro e w2 ⟨pb, rfl, hz⟩; have HZ := Lib.hid hz; clear hz))
        go_ret
        exact ⟨rfl, HB1.out.trans (HZ.out.b.mono HB1.out.size)⟩
      · have k2 : high ≤ low := by omega
        clear h
        go_enter Try.func6, Try.ntmps6
        go_wp2_with (first
          | (go_at_call 9; refine hawk.mono ?_; rintro e w1 ⟨rfl, hb1⟩; have HB1 := Lib.hid hb1; have hnew := pnew_own w1; clear hb1)
          | (go_at_call 10; refine hnew.mono ?_; rintro e w2 ⟨pb, rfl, hz⟩; have HZ := Lib.hid hz; clear hz))
        go_ret
        exact ⟨rfl, HB1.out.trans (HZ.out.b.mono HB1.out.size)⟩
end Go.Proofs.Ytfdoldefdkijoaa
