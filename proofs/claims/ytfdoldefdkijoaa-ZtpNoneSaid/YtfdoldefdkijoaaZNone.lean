/-
  ZtpNone: the law's walk.
-/
import Derived.Test.YtfdoldefdkijoaaZLawP
namespace Go.Proofs.Ytfdoldefdkijoaa
set_option linter.unusedSimpArgs false
set_option linter.unusedVariables false
open Go.ChangeMaps Go.MapKept Go.Maps Go.RowKit
theorem newN_level : levelZ newN = -1 := rfl
theorem newN_best : bestL newN.L = 0 := rfl
theorem newN_quiet (k : Int) : quietZ newN k = false := rfl
theorem none_off {W0 W : World} {pb kb : Nat} {s : StepT} (h : LZ W0 pb newN W) (bx : StepBx W kb s) (lv : Int) (nn : Bool) (hh : lv < 1 ∨ nn = true) : Calls Try.prog 12 #[.pointer (some ⟨pb, 0, Option.none⟩), .int .i64 s.link, .int .i64 lv, .bool nn, .int .i64 s.now] W fun e w' => ∃ c, e = .returned (.int .i64 c) ∧ LZ W0 pb newN w' ∧ StepBx w' kb s :=
  (poffer_law h s.link lv nn s.now).mono fun e w' ⟨he, hz, hk⟩ => ⟨_, he, by rw [none_offer _ _ _ _ hh] at hz; exact hz, bx.keep hk⟩
theorem none_tck {W0 W : World} {pb kb : Nat} {s : StepT} (h : LZ W0 pb newN W) (bx : StepBx W kb s) : Calls Try.prog 14 #[.pointer (some ⟨pb, 0, Option.none⟩), .int .i64 s.now] W fun e w' => ∃ c, e = .returned (.int .i64 c) ∧ LZ W0 pb newN w' ∧ StepBx w' kb s :=
  (ptick_law h s.now).mono fun e w' ⟨he, hz, hk⟩ => ⟨_, he, by rw [none_tick] at hz; exact hz, bx.keep hk⟩
set_option maxHeartbeats 3200000 in
set_option maxRecDepth 100000 in
theorem none_walk (a : Option Addr) (cap : Nat) (l : List StepT) (hn : l.length ≤ cap ∧ cap ≤ maxLen ∧ ∀ s ∈ l, okStep s) (w : World) (hr : RdS w.heap.size w a l) : Calls Try.prog 8 #[.slice a l.length cap] w fun e w' => e = .returned (.bool true) ∧ Below w.heap.size w w' := by
  have hawk := awake_any w
  have hl : l.length ≤ 9223372036854775807 := by have := hn.1; have := hn.2.1; unfold maxLen at this; omega
  have hok := hn.2.2
  clear hn
  obtain ⟨len, hlen⟩ : ∃ len, l.length = len := ⟨_, rfl⟩
  have HL := Lib.hid hlen
  have HR := Lib.hid hr
  have HOK := Lib.hid hok
  rw [hlen] at hl ⊢
  have hl2 : len ≤ 9223372036854775807 := hl
  clear hlen hr hok hl
  go_enter Try.func8, Try.ntmps8
  go_wp2_with (first
    | (go_at_call 9; refine hawk.mono ?_; rintro e w1 ⟨rfl, hb1⟩; have HB1 := Lib.hid hb1; have hnew := pnew_own w1; clear hb1)
    | (go_at_call 10; refine hnew.mono ?_; rintro e w2 ⟨pb, rfl, hz⟩; have HZ := Lib.hid hz; clear hz))
  go_loopw [6] (fun i wr => ∃ k : Nat, k ≤ len ∧ k ≤ 150 ∧ i = .int .i64 k ∧ Hid (LZ w1 pb newN wr)) (fun i _ => len - (intOf i).toNat)
  case atStart => exact ⟨0, Nat.zero_le _, by omega, rfl, HZ⟩
  case round =>
    obtain ⟨k, hk, hk2, rfl, HQ⟩ := hrel
    by_cases hlt : k < len
    · by_cases h150 : k < 150
      · obtain ⟨s, hs⟩ : ∃ s, l[k]? = some s := ⟨_, List.getElem?_eq_getElem (by have := HL.out; omega)⟩
        have hbw : Below w.heap.size w wr := HB1.out.trans (HQ.out.b.mono HB1.out.size)
        obtain ⟨b, off, rfl, hc⟩ := RdR.at HR.out hs hbw
        have d0 := hc 0 _ rfl
        rw [Nat.add_zero] at d0
        have d1 := hc 1 _ rfl
        have d2 := hc 2 _ rfl
        have d3 := hc 3 _ rfl
        have d4 := hc 4 _ rfl
        have HS := Lib.hid (HOK.out s (List.mem_of_getElem? hs))
        have hbx := (Below.refl wr.heap.size wr).alloc (Nat.le_refl _) (.cells #[.int .i64 s.d, .int .i64 s.link, .int .i64 s.level, .int .i64 s.now, .bool s.none] 33)
        have hz1 := HQ.out.below hbx
        have HZ1 := Lib.hid hz1
        have HX1 := Lib.hid (StepBx.made wr s)
        have T1 : True := trivial
        clear hc hs hbw hbx hz1
        cases q : (s.d == 0)
        all_goals go_wp2_with (first
          | (have tt := T1; clear T1 tt; go_at_call 12; with_reducible refine (none_off HZ1.out HX1.out _ _ (by first | (right; rfl) | (left; split <;> omega) | (left; omega))).mono ?_; rintro e w3 ⟨c3, rfl, hz3, hx3⟩; have HZ3 := Lib.hid hz3; have HX3 := Lib.hid hx3; obtain ⟨f0, f1, f2, f3, f4⟩ := hx3.cells; clear hz3 hx3)
          | (go_at_call 12; with_reducible refine (none_off HZ3.out HX3.out _ _ (by first | (right; rfl) | (left; split <;> omega) | (left; omega))).mono ?_; rintro e w4 ⟨c4, rfl, hz4, hx4⟩; have HZ4 := Lib.hid hz4; have hlv := plevel_law hz4; rw [newN_level] at hlv; have hbs := pbest_law hz4; rw [newN_best] at hbs; have HX4 := Lib.hid hx4; obtain ⟨g0, g1, g2, g3, g4⟩ := hx4.cells; clear hz4 hx4)
          | (go_at_call 14; with_reducible refine (none_tck HZ1.out HX1.out).mono ?_; rintro e w4 ⟨c4, rfl, hz4, hx4⟩; have HZ4 := Lib.hid hz4; have hlv := plevel_law hz4; rw [newN_level] at hlv; have hbs := pbest_law hz4; rw [newN_best] at hbs; have HX4 := Lib.hid hx4; obtain ⟨g0, g1, g2, g3, g4⟩ := hx4.cells; clear hz4 hx4)
          | (go_at_call 16; refine hlv.mono ?_; rintro e w5 ⟨rfl, hww⟩; have hww := hww.symm; subst hww)
          | (go_at_call 18; refine hbs.mono ?_; rintro e w6 ⟨rfl, hz6, hk6⟩; have hqt := pquiet_law hz6 s.link HS.out.1; rw [newN_quiet] at hqt; obtain ⟨j0, j1, j2, j3, j4⟩ := (HX4.out.keep hk6).cells; clear hz6 hk6)
          | (go_at_call 20; refine hqt.mono ?_; rintro e w7 ⟨rfl, hz7, _⟩; have HZ7 := Lib.hid hz7; clear hz7))
        all_goals go_roundw
        case rel => exact ⟨k + 1, by omega, by omega, by go_num, HZ7⟩
        case measure => simp [intOf]; omega
        case rel => exact ⟨k + 1, by omega, by omega, by go_num, HZ7⟩
        case measure => simp [intOf]; omega
      · obtain rfl : k = 150 := by omega
        go_wp2
        go_ret
        exact ⟨rfl, HB1.out.trans (HQ.out.b.mono HB1.out.size)⟩
    · obtain rfl : k = len := by omega
      go_wp2
      go_ret
      exact ⟨rfl, HB1.out.trans (HQ.out.b.mono HB1.out.size)⟩
end Go.Proofs.Ytfdoldefdkijoaa
