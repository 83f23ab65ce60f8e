/-
  ZtpHigher: the law's walk.
-/
import Derived.Test.YtfdoldefdkijoaaZLawP
namespace Go.Proofs.Ytfdoldefdkijoaa
set_option linter.unusedSimpArgs false
set_option linter.unusedVariables false
open Go.ChangeMaps Go.MapKept Go.Maps Go.RowKit
set_option maxHeartbeats 3200000 in
set_option maxRecDepth 100000 in
theorem higher_ok (low high now : Int) (h : 1 ≤ low ∧ low < high ∧ high ≤ 24) (hn : 0 ≤ now ∧ now ≤ 549755813888) (w : World) : Calls Try.prog 7 #[.int .i64 low, .int .i64 high, .int .i64 now] w fun e w' => e = .returned (.bool true) ∧ Below w.heap.size w w' := by
  have hawk := awake_any w
  have q1 : levelZ (⟨-1, false, false, [⟨1, low, now + 4⟩], low, false, 0⟩ : ZtT) = low - 1 := rfl
  have q2 : levelZ (⟨-1, false, false, [⟨1, low, now + 4⟩, ⟨2, high, now + 4⟩], high, false, 0⟩ : ZtT) = high - 1 := rfl
  have q3 : levelZ (⟨-1, false, false, [⟨1, low, now + 4⟩, ⟨2, high, now + 4⟩, ⟨3, low, now + 5⟩], high, false, 0⟩ : ZtT) = high - 1 := rfl
  have r2 : quietZ (⟨-1, false, false, [⟨1, low, now + 4⟩, ⟨2, high, now + 4⟩, ⟨3, low, now + 5⟩], high, false, 0⟩ : ZtT) 2 = true := by simp [quietZ, findL, ownZ]
  have r1 : quietZ (⟨-1, false, false, [⟨1, low, now + 4⟩, ⟨2, high, now + 4⟩, ⟨3, low, now + 5⟩], high, false, 0⟩ : ZtT) 1 = false := by simp [quietZ, findL, ownZ]; omega
  have r3 : quietZ (⟨-1, false, false, [⟨1, low, now + 4⟩, ⟨2, high, now + 4⟩, ⟨3, low, now + 5⟩], high, false, 0⟩ : ZtT) 3 = false := by simp [quietZ, findL, ownZ]; omega
  have Q1 := Lib.hid q1
  have Q2 := Lib.hid q2
  have Q3 := Lib.hid q3
  have R1 := Lib.hid r1
  have R2 := Lib.hid r2
  have R3 := Lib.hid r3
  have E1 := Lib.hid (higher1 h hn)
  have E2 := Lib.hid (higher2 h hn)
  have E3 := Lib.hid (higher3 h hn)
  obtain ⟨g1, g2, g3⟩ := h
  obtain ⟨g4, g5⟩ := hn
  have b1 : -9223372036854775808 ≤ low - 1 ∧ low - 1 ≤ 9223372036854775807 := by omega
  have b2 : -9223372036854775808 ≤ high - 1 ∧ high - 1 ≤ 9223372036854775807 := by omega
  have b3 : -9223372036854775808 ≤ now + 1 ∧ now + 1 ≤ 9223372036854775807 := by omega
  have b4 : -9223372036854775808 ≤ now + 2 ∧ now + 2 ≤ 9223372036854775807 := by omega
  clear q1 q2 q3 r1 r2 r3
  have A1 : True := trivial
  have A2 : True := trivial
  have A3 : True := trivial
  have A4 : True := trivial
  have A5 : True := trivial
  have A6 : True := trivial
  have A7 : True := trivial
  have A8 : True := trivial
  have A9 : True := trivial
  have A10 : True := trivial
  have A11 : True := trivial
  have A12 : True := trivial
  go_enter Try.func7, Try.ntmps7
  go_wp2_with (first
    | (go_at_call 9; refine hawk.mono ?_; rintro e w1 ⟨rfl, hb1⟩; have HB1 := Lib.hid hb1; have hnew := pnew_own w1; clear hb1)
    | (go_at_call 10; refine hnew.mono ?_; rintro e w2 ⟨pb, rfl, hz⟩; have HZ := Lib.hid hz; clear hz; have c1 := poffer_law HZ.out 1 low false now)
    | (have tt := A1; clear A1 tt; go_at_call 12; refine c1.mono ?_; rintro e w9 ⟨rfl, hz, _⟩; have c2 := ptick_law hz now; rw [E1.out] at c2; clear hz)
    | (have tt := A2; clear A2 tt; go_at_call 14; refine c2.mono ?_; rintro e w9 ⟨rfl, hz, _⟩; have c3 := plevel_law hz; rw [Q1.out] at c3; have c4 := poffer_law hz 2 high false now; clear hz)
    | (have tt := A3; clear A3 tt; go_at_call 16; refine c3.mono ?_; rintro e w9 ⟨rfl, hww⟩; have hww := hww.symm; subst hww)
    | (have tt := A4; clear A4 tt; go_at_call 12; refine c4.mono ?_; rintro e w9 ⟨rfl, hz, _⟩; have c5 := ptick_law hz (now + 1); rw [E2.out] at c5; clear hz)
    | (have tt := A5; clear A5 tt; go_at_call 14; refine c5.mono ?_; rintro e w9 ⟨rfl, hz, _⟩; have c6 := plevel_law hz; rw [Q2.out] at c6; have c7 := poffer_law hz 3 low false (now + 1); clear hz)
    | (have tt := A6; clear A6 tt; go_at_call 16; refine c6.mono ?_; rintro e w9 ⟨rfl, hww⟩; have hww := hww.symm; subst hww)
    | (have tt := A7; clear A7 tt; go_at_call 12; refine c7.mono ?_; rintro e w9 ⟨rfl, hz, _⟩; have c8 := ptick_law hz (now + 2); rw [E3.out] at c8; clear hz)
    | (have tt := A8; clear A8 tt; go_at_call 14; refine c8.mono ?_; rintro e w9 ⟨rfl, hz, _⟩; have c9 := plevel_law hz; rw [Q3.out] at c9; have d2 := pquiet_law hz 2 (by unfold InI; omega); rw [R2.out] at d2; clear hz)
    | (have tt := A9; clear A9 tt; go_at_call 16; refine c9.mono ?_; rintro e w9 ⟨rfl, hww⟩; have hww := hww.symm; subst hww)
    | (have tt := A10; clear A10 tt; go_at_call 20; refine d2.mono ?_; rintro e w9 ⟨rfl, hz, _⟩; have d1 := pquiet_law hz 1 (by unfold InI; omega); rw [R1.out] at d1; clear hz)
    | (have tt := A11; clear A11 tt; go_at_call 20; refine d1.mono ?_; rintro e w9 ⟨rfl, hz, _⟩; have d3 := pquiet_law hz 3 (by unfold InI; omega); rw [R3.out] at d3; clear hz)
    | (have tt := A12; clear A12 tt; go_at_call 20; refine d3.mono ?_; rintro e w9 ⟨rfl, hz, _⟩; have HE := Lib.hid (HB1.out.trans (hz.b.mono HB1.out.size)); clear hz))
  go_ret
  exact ⟨rfl, HE.out⟩
set_option maxHeartbeats 3200000 in
set_option maxRecDepth 100000 in
theorem higher_walk (low : Int) (_ : InI low) (high : Int) (_ : InI high) (now : Int) (_ : InI now) (w : World) : Calls Try.prog 7 #[.int .i64 low, .int .i64 high, .int .i64 now] w fun e w' => e = .returned (.bool true) ∧ Below w.heap.size w w' := by
  by_cases h : (1 ≤ low ∧ low < high ∧ high ≤ 24) ∧ 0 ≤ now ∧ now ≤ 549755813888
  · exact higher_ok low high now h.1 h.2 w
  · have hawk := awake_any w
    by_cases k0 : low < 1
    · clear h
      go_enter Try.func7, Try.ntmps7
      go_wp2_with (first
        | (go_at_call 9; refine hawk.mono ?_; rintro e w1 ⟨rfl, hb1⟩; have HB1 := Lib.hid hb1; have hnew := pnew_own w1; clear hb1)
        | (go_at_call 10; refine hnew.mono ?_; rintro e w2 ⟨pb, rfl, hz⟩; have HZ := Lib.hid hz; clear hz))
      go_ret
      exact ⟨rfl, HB1.out.trans (HZ.out.b.mono HB1.out.size)⟩
    · skip
      by_cases k1 : 24 < high
      · clear h
        go_enter Try.func7, Try.ntmps7
        go_wp2_with (first
          | (go_at_call 9; refine hawk.mono ?_; rintro e w1 ⟨rfl, hb1⟩; have HB1 := Lib.hid hb1; have hnew := pnew_own w1; clear hb1)
          | (go_at_call 10; refine hnew.mono ?_; rintro e w2 ⟨pb, rfl, hz⟩; have HZ := Lib.hid hz; clear hz))
        go_ret
        exact ⟨rfl, HB1.out.trans (HZ.out.b.mono HB1.out.size)⟩
      · skip
        by_cases k2 : high ≤ low
        · clear h
          go_enter Try.func7, Try.ntmps7
          go_wp2_with (first
            | (go_at_call 9; refine hawk.mono ?_; rintro e w1 ⟨rfl, hb1⟩; have HB1 := Lib.hid hb1; have hnew := pnew_own w1; clear hb1)
            | (go_at_call 10; refine hnew.mono ?_; rintro e w2 ⟨pb, rfl, hz⟩; have HZ := Lib.hid hz; clear hz))
          go_ret
          exact ⟨rfl, HB1.out.trans (HZ.out.b.mono HB1.out.size)⟩
        · skip
          by_cases k3 : now < 0
          · clear h
            go_enter Try.func7, Try.ntmps7
            go_wp2_with (first
              | (go_at_call 9; refine hawk.mono ?_; rintro e w1 ⟨rfl, hb1⟩; have HB1 := Lib.hid hb1; have hnew := pnew_own w1; clear hb1)
              | (go_at_call 10; refine hnew.mono ?_; rintro e w2 ⟨pb, rfl, hz⟩; have HZ := Lib.hid hz; clear hz))
            go_ret
            exact ⟨rfl, HB1.out.trans (HZ.out.b.mono HB1.out.size)⟩
          · skip
            have k9 : 549755813888 < now := by omega
            clear h
            go_enter Try.func7, Try.ntmps7
            go_wp2_with (first
              | (go_at_call 9; refine hawk.mono ?_; rintro e w1 ⟨rfl, hb1⟩; have HB1 := Lib.hid hb1; have hnew := pnew_own w1; clear hb1)
              | (go_at_call 10; refine hnew.mono ?_; rintro e w2 ⟨pb, rfl, hz⟩; have HZ := Lib.hid hz; clear hz))
            go_ret
            exact ⟨rfl, HB1.out.trans (HZ.out.b.mono HB1.out.size)⟩
end Go.Proofs.Ytfdoldefdkijoaa
