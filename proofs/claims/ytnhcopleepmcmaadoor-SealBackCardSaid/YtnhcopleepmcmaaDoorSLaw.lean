/-
  WHAT EVERY LAW OF THE ENVELOPE BEGINS WITH: 'awake'; the laws of nonces.
-/
import Derived.Test.YtnhcopleepmcmaaDoorSWrap
import Derived.Test.YtnhcopleepmcmaaDoorSFresh
namespace Go.Proofs.YtnhcopleepmcmaaDoor
open Go.RowKit
theorem RdN.at0 {n₀ g : Nat} {W : World} {l : List Nat} (h : RdN n₀ W (some ⟨g, 0, none⟩) l) {j x : Nat} (hx : l[j]? = some x) : W.cell? ⟨g, j, none⟩ = some (.int .u8 x) := by
  obtain ⟨b, o, e, _, hc⟩ := h (by have := (List.getElem?_eq_some_iff.1 hx).1; omega)
  simp only [Option.some.injEq, Addr.mk.injEq] at e
  obtain ⟨rfl, rfl, _⟩ := e
  have := hc j x hx
  rwa [Nat.zero_add] at this
theorem wrap_seven : wrapL 0 258 0 0 [] [7] = [161, 247, 0, 1, 2, 0, 0, 0, 0, 0, 0, 0, 0, 0, 0, 0, 0, 0, 0, 0, 0, 0, 0, 0, 0, 0, 0, 7] := by
  unfold wrapL printL
  rw [if_pos (show ((0 : Nat) : Int) = 0 from rfl)]
  decide
set_option maxHeartbeats 1600000 in
set_option maxRecDepth 100000 in
theorem awake5_any (w : World) (hT : Tabs w) : Calls Tryd.prog 19 #[] w fun e w' => e = .returned (.bool true) ∧ Below w.heap.size w w' := by
  have B1 := (Below.refl w.heap.size w).alloc (Nat.le_refl _) (.cells #[.int .u8 7] 5)
  have hs := wrap_ok 0 none 0 [] (by simp) (Nat.le_refl _) (by decide) 0 258 0 0 (by unfold okO okIn; omega) (.inl rfl) (some ⟨w.heap.size, 0, none⟩) 1 [7] (by decide) (by decide) (w.alloc (.cells #[.int .u8 7] 5)) (RdN.nil _ _ _) (RdN.arr (Arr.new w 5 (u8s [7])) (by simp)) (hT.below B1 hT.pos)
  rw [wrap_seven, show ((0 : Nat) : Int) = 0 from rfl, show ((258 : Nat) : Int) = 258 from rfl] at hs
  have hn := next_any 5
  rw [show nextN 5 = 6 by decide] at hn
  have hb1 := Lib.hid B1
  have HLE : Hid (w.heap.size ≤ (w.alloc (.cells #[.int .u8 7] 5)).heap.size) := by unfold Hid; simp
  clear B1
  go_enter Tryd.func19, Tryd.ntmps19
  go_wp2_with (first
    | (go_at_call 20; refine hs.mono ?_; rintro e w1 ⟨⟨v1, rfl, HO1⟩, hb2⟩; obtain ⟨g, c, rfl, _, _, _, hr⟩ := own_rd HO1.out (by decide); have c0 := hr.at0 (j := 0) rfl; have c4 := hr.at0 (j := 4) rfl; have c27 := hr.at0 (j := 27) rfl; have HB2 := Lib.hid (hb1.out.trans (hb2.mono HLE.out)); clear hb2 HO1 hr)
    | (go_at_call 26; refine (hn _).mono ?_; rintro e w2 ⟨he, rfl⟩; unfold Tells at he; subst he))
  go_ret
  exact ⟨rfl, HB2.out⟩
set_option maxHeartbeats 1600000 in
set_option maxRecDepth 100000 in
theorem nonces_walk (told : Int) (_ : -9223372036854775808 ≤ told ∧ told ≤ 9223372036854775807) (own : Int) (_ : -9223372036854775808 ≤ own ∧ own ≤ 9223372036854775807) (slack : Int) (_ : -9223372036854775808 ≤ slack ∧ slack ≤ 9223372036854775807) (w : World) (hT : Tabs w) :
    Calls Tryd.prog 8 #[.int .i64 told, .int .i64 own, .int .i64 slack] w fun e w' => e = .returned (.bool true) ∧ Below w.heap.size w w' := by
  have haw := awake5_any w hT
  have hf := fresh_any told own slack
  have hrf := rfresh_any told own slack
  have hn := next_any told
  have hrn := rnext_any told
  obtain ⟨N, hN⟩ : ∃ N, nextN told = N := ⟨_, rfl⟩
  obtain ⟨F, hF⟩ : ∃ F, freshN told own slack = F := ⟨_, rfl⟩
  rw [hN] at hn hrn
  rw [hF] at hf hrf
  clear hN hF
  go_enter Tryd.func8, Tryd.ntmps8
  go_wp2_with (first
    | (go_at_call 19; refine haw.mono ?_; rintro e w1 ⟨rfl, hb1⟩; have HB1 := Lib.hid hb1; clear hb1)
    | (go_at_call 24; refine (hf _).mono ?_; rintro e w2 ⟨⟨x, rfl, hx⟩, rfl⟩; have HX := Lib.hid hx; clear hx)
    | (go_at_call 25; refine (hrf _).mono ?_; rintro e w3 ⟨⟨y, rfl, hy⟩, rfl⟩; obtain rfl : x = y := by (cases x <;> cases y <;> first | rfl | (exfalso; have h := HX.out; simp_all)))
    | (go_at_call 26; refine (hn _).mono ?_; rintro e w4 ⟨he, rfl⟩; unfold Tells at he; subst he)
    | (go_at_call 27; refine (hrn _).mono ?_; rintro e w5 ⟨he, rfl⟩; unfold Tells at he; subst he))
  go_ret
  exact ⟨rfl, HB1.out⟩
set_option maxHeartbeats 1600000 in
set_option maxRecDepth 100000 in
theorem turns_walk (nonce : Int) (_ : -9223372036854775808 ≤ nonce ∧ nonce ≤ 9223372036854775807) (steps : Int) (_ : -9223372036854775808 ≤ steps ∧ steps ≤ 9223372036854775807) (slack : Int) (_ : -9223372036854775808 ≤ slack ∧ slack ≤ 9223372036854775807) (w : World) (hT : Tabs w) :
    Calls Tryd.prog 10 #[.int .i64 nonce, .int .i64 steps, .int .i64 slack] w fun e w' => e = .returned (.bool true) ∧ Below w.heap.size w w' := by
  have haw := awake5_any w hT
  by_cases c1 : nonce < 1
  · go_enter Tryd.func10, Tryd.ntmps10
    go_wp2_with (go_at_call 19; refine haw.mono ?_; rintro e w1 ⟨rfl, hb1⟩; have HB1 := Lib.hid hb1; clear hb1)
    go_ret
    exact ⟨rfl, HB1.out⟩
  by_cases c2 : 65535 < nonce
  · go_enter Tryd.func10, Tryd.ntmps10
    go_wp2_with (go_at_call 19; refine haw.mono ?_; rintro e w1 ⟨rfl, hb1⟩; have HB1 := Lib.hid hb1; clear hb1)
    go_ret
    exact ⟨rfl, HB1.out⟩
  by_cases c3 : steps < 0
  · go_enter Tryd.func10, Tryd.ntmps10
    go_wp2_with (go_at_call 19; refine haw.mono ?_; rintro e w1 ⟨rfl, hb1⟩; have HB1 := Lib.hid hb1; clear hb1)
    go_ret
    exact ⟨rfl, HB1.out⟩
  by_cases c4 : 1000 < steps
  · go_enter Tryd.func10, Tryd.ntmps10
    go_wp2_with (go_at_call 19; refine haw.mono ?_; rintro e w1 ⟨rfl, hb1⟩; have HB1 := Lib.hid hb1; clear hb1)
    go_ret
    exact ⟨rfl, HB1.out⟩
  by_cases c5 : slack < 0
  · go_enter Tryd.func10, Tryd.ntmps10
    go_wp2_with (go_at_call 19; refine haw.mono ?_; rintro e w1 ⟨rfl, hb1⟩; have HB1 := Lib.hid hb1; clear hb1)
    go_ret
    exact ⟨rfl, HB1.out⟩
  by_cases c6 : 1000 < slack
  · go_enter Tryd.func10, Tryd.ntmps10
    go_wp2_with (go_at_call 19; refine haw.mono ?_; rintro e w1 ⟨rfl, hb1⟩; have HB1 := Lib.hid hb1; clear hb1)
    go_ret
    exact ⟨rfl, HB1.out⟩
  have hnx : ∀ i : Int, 0 ≤ i → nextN ((nonce - 1 + i) % 65535 + 1) = (nonce - 1 + (i + 1)) % 65535 + 1 := fun i h3 => by unfold nextN; split <;> omega
  have h0 : (nonce - 1 + 0) % 65535 + 1 = nonce := by omega
  have hf1 : freshN nonce ((nonce - 1 + steps) % 65535 + 1) slack ↔ steps ≤ slack := by
    unfold freshN okIn
    have e1 : slackN slack = slack := by unfold slackN; rw [if_neg c5, if_neg c6]
    have e2 : stepsN nonce ((nonce - 1 + steps) % 65535 + 1) = steps := by unfold stepsN; omega
    rw [e1, e2]
    exact ⟨fun h => h.2.2, fun h => ⟨by omega, by omega, h⟩⟩
  have hf2 : freshN ((nonce - 1 + steps) % 65535 + 1) nonce slack ↔ steps = 0 := by
    unfold freshN okIn
    have e1 : slackN slack = slack := by unfold slackN; rw [if_neg c5, if_neg c6]
    rw [e1]
    unfold stepsN
    exact ⟨fun h => by omega, fun h => ⟨by omega, by omega, by omega⟩⟩
  have HF1 := Lib.hid hf1
  have HF2 := Lib.hid hf2
  have HNX := Lib.hid hnx
  have H0 := Lib.hid h0
  have hn := next_any
  have hf := fresh_any
  have T1 : True := trivial
  clear hf1 hf2 hnx h0
  go_enter Tryd.func10, Tryd.ntmps10
  go_wp2_with (go_at_call 19; refine haw.mono ?_; rintro e w1 ⟨rfl, hb1⟩; have HB1 := Lib.hid hb1; clear hb1)
  go_loopw [8, 9] (fun nv iv wr => ∃ i : Int, Hid (0 ≤ i ∧ i ≤ steps) ∧ nv = .int .i64 ((nonce - 1 + i) % 65535 + 1) ∧ iv = .int .i64 i ∧ Hid (Below w.heap.size w wr)) (fun _ iv _ => (steps - intOf iv).toNat)
  case atStart => exact ⟨0, ⟨by omega, by omega⟩, by rw [H0.out], rfl, HB1⟩
  case round =>
    obtain ⟨i, HI, rfl, rfl, HB⟩ := hrel
    clear HB1
    by_cases hlt : i < steps
    · have hi := HI.out
      have hb : 0 ≤ i ∧ i ≤ 1000 := by omega
      have hni := hn ((nonce - 1 + i) % 65535 + 1)
      rw [HNX.out i hi.1] at hni
      obtain ⟨T, hT⟩ : ∃ T, (nonce - 1 + i) % 65535 + 1 = T := ⟨_, rfl⟩
      obtain ⟨U, hU⟩ : ∃ U, (nonce - 1 + (i + 1)) % 65535 + 1 = U := ⟨_, rfl⟩
      have u1 : ¬ U < 1 := by omega
      have u2 : ¬ 65535 < U := by omega
      have HU := Lib.hid hU
      rw [hT, hU] at hni
      rw [hT]
      clear hT hU hi
      go_wp2_with (go_at_call 26; refine (hni _).mono ?_; rintro e w1 ⟨he, rfl⟩; unfold Tells at he; subst he)
      go_roundw
      case rel =>
        have hi := HI.out
        exact ⟨i + 1, ⟨by omega, by omega⟩, by rw [HU.out], by go_num, HB⟩
      case measure => simp [intOf]; omega
    · have hi := HI.out
      obtain rfl : i = steps := by omega
      obtain ⟨T, hT⟩ : ∃ T, (nonce - 1 + i) % 65535 + 1 = T := ⟨_, rfl⟩
      rw [hT] at HF1 HF2 ⊢
      clear hT hi
      go_wp2_with (first
        | (go_at_call 24; have tt := T1; clear T1 tt; refine (hf _ _ _ _).mono ?_; rintro e w2 ⟨⟨x, rfl, hx⟩, rfl⟩; obtain rfl : x = decide (i ≤ slack) := (by rw [Bool.eq_iff_iff, decide_eq_true_eq]; exact hx.trans HF1.out); clear hx)
        | (go_at_call 24; refine (hf _ _ _ _).mono ?_; rintro e w3 ⟨⟨y, rfl, hy⟩, rfl⟩; obtain rfl : y = (i == 0) := (by rw [Bool.eq_iff_iff, beq_iff_eq]; exact hy.trans HF2.out); clear hy))
      all_goals go_ret
      all_goals exact ⟨rfl, HB.out⟩
end Go.Proofs.YtnhcopleepmcmaaDoor
