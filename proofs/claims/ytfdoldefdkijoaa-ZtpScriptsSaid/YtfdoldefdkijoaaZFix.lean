/-
  ZtpFixed: the law's walk.
-/
import Derived.Test.YtfdoldefdkijoaaZLawP
import Derived.StillTailTactics
namespace Go.Proofs.Ytfdoldefdkijoaa
set_option linter.unusedSimpArgs false
set_option linter.unusedVariables false
open Go.ChangeMaps Go.MapKept Go.Maps Go.RowKit
theorem region_tail {P : Program} {id : Nat} {Q : Exit → Act → World → Prop} {a : Act} {w : World} {l : List Oper} (n : Nat) (hm : P.follows .mixedOrders = true) (hB : Region.lexTailB .any l.toArray n = true) (W : World) (hW : w.drew = W)
    (h : wpStill P l.toArray W (fun a' => wpList P l.toArray Q (l.drop n) a' W) (l.take n) a) : (Code.region id l.toArray true).wp P Q a w := by
  subst hW
  exact wp_region_still_tail n hm hB h
/-- A node of one kind. -/
def FX (W0 : World) (pb : Nat) (f : Int) (a b : Bool) (W : World) : Prop := ∃ z, LZ W0 pb z W ∧ z.fixed = f ∧ z.leaf = a ∧ z.top = b
section
variable {W0 W : World} {pb : Nat} {f : Int} {a b : Bool}
theorem FX.bel (h : FX W0 pb f a b W) : Below W0.heap.size W0 W := by obtain ⟨z, h, _⟩ := h; exact h.b
theorem FX.drew (h : FX W0 pb f a b W) : FX W0 pb f a b W.drew := by obtain ⟨z, h, q⟩ := h; exact ⟨z, h.below (Below.refl _ _).drew, q⟩
theorem fx_offer (h : FX W0 pb f a b W) (link level : Int) (none : Bool) (now : Int) : Calls Try.prog 12 #[.pointer (some ⟨pb, 0, Option.none⟩), .int .i64 link, .int .i64 level, .bool none, .int .i64 now] W fun e w' => ∃ c, e = .returned (.int .i64 c) ∧ FX W0 pb f a b w' := by
  obtain ⟨z, h, k1, k2, k3⟩ := h
  refine (poffer_law h link level none now).mono fun e w' ⟨he, hz, _⟩ => ⟨_, he, _, hz, ?_⟩
  obtain ⟨q1, q2, q3⟩ := offer_kind z link level none now
  exact ⟨q1.trans k1, q2.trans k2, q3.trans k3⟩
theorem fx_tick (h : FX W0 pb f a b W) (now : Int) : Calls Try.prog 14 #[.pointer (some ⟨pb, 0, Option.none⟩), .int .i64 now] W fun e w' => ∃ c, e = .returned (.int .i64 c) ∧ FX W0 pb f a b w' := by
  obtain ⟨z, h, k1, k2, k3⟩ := h
  refine (ptick_law h now).mono fun e w' ⟨he, hz, _⟩ => ⟨_, he, _, hz, ?_⟩
  obtain ⟨q1, q2, q3⟩ := tick_kind z now
  exact ⟨q1.trans k1, q2.trans k2, q3.trans k3⟩
theorem fx_level (h : FX W0 pb f a b W) (ho : ownZ (newZ f a b) = false) {lv : Int} (hl : levelZ (newZ f a b) = lv) : Calls Try.prog 16 #[.pointer (some ⟨pb, 0, Option.none⟩)] W fun e w' => e = .returned (.int .i64 lv) ∧ w' = W := by
  obtain ⟨z, h, k1, k2, k3⟩ := h
  have q := level_kind (z := newZ f a b) (y := z) k1 k2 k3 ho
  have r := plevel_law h
  rw [q.1, hl] at r
  exact r
theorem fx_quiet (h : FX W0 pb f a b W) (ho : ownZ (newZ f a b) = false) (link : Int) (hk : InI link) : Calls Try.prog 20 #[.pointer (some ⟨pb, 0, Option.none⟩), .int .i64 link] W fun e w' => e = .returned (.bool false) ∧ FX W0 pb f a b w' := by
  obtain ⟨z, h, k1, k2, k3⟩ := h
  have q := level_kind (z := newZ f a b) (y := z) k1 k2 k3 ho
  have r := pquiet_law h link hk
  rw [quiet_own q.2] at r
  exact r.mono fun e w' ⟨he, hz, _⟩ => ⟨he, z, hz, k1, k2, k3⟩
end
set_option maxHeartbeats 3200000 in
set_option maxRecDepth 100000 in
theorem fixed_bad (f : Int) (fa fb : Bool) (hk : ¬ kindB f fa fb) (a : Option Addr) (cap n : Nat) (w : World) : Calls Try.prog 5 #[.int .i64 f, .agg #[.bool fa, .bool fb], .slice a n cap] w fun e w' => e = .returned (.bool true) ∧ Below w.heap.size w w' := by
  have HK := Lib.hid hk
  have hbx : Below w.heap.size w (w.alloc (.cells #[.bool fa, .bool fb] 22)) := (Below.refl _ _).alloc (Nat.le_refl _) _
  have HBX := Lib.hid hbx
  have hawk := awake_any (w.alloc (.cells #[.bool fa, .bool fb] 22))
  have b0 : (w.alloc (.cells #[.bool fa, .bool fb] 22)).cell? ⟨w.heap.size, 0, none⟩ = some (.bool fa) := by simp
  have b1 : (w.alloc (.cells #[.bool fa, .bool fb] 22)).cell? ⟨w.heap.size, 1, none⟩ = some (.bool fb) := by simp
  have BC := Lib.hid (And.intro b0 b1)
  have hsz : w.heap.size < (w.alloc (.cells #[.bool fa, .bool fb] 22)).heap.size := by simp
  clear hbx b0 b1
  clear hk
  go_enter Try.func5, Try.ntmps5
  go_wp2_with (first
    | (go_at_call 9; refine hawk.mono ?_; rintro e w1 ⟨rfl, hb1⟩; have HB1 := Lib.hid (HBX.out.trans (hb1.mono HBX.out.size)); have hnew := pnew_law f fa fb w1; have c0 := (hb1.cell (p := ⟨w.heap.size, 0, none⟩) hsz).trans BC.out.1; have c1 := (hb1.cell (p := ⟨w.heap.size, 1, none⟩) hsz).trans BC.out.2; have hs1 := Nat.lt_of_lt_of_le hsz hb1.size; clear hb1)
    | (go_at_call 10; refine hnew.mono ?_; rintro e w2 ⟨_, hy⟩; obtain ⟨rfl, hz⟩ := hy HK.out; have HB2 := Lib.hid (HB1.out.trans (hz.mono HB1.out.size)); clear hz hy))
  go_ret
  exact ⟨rfl, HB2.out⟩
set_option maxHeartbeats 3200000 in
set_option maxRecDepth 100000 in
theorem fixed_own (f : Int) (hf : f < 0) (hk : kindB f false false) (a : Option Addr) (cap n : Nat) (w : World) : Calls Try.prog 5 #[.int .i64 f, .agg #[.bool false, .bool false], .slice a n cap] w fun e w' => e = .returned (.bool true) ∧ Below w.heap.size w w' := by
  have HK := Lib.hid hk
  have hbx : Below w.heap.size w (w.alloc (.cells #[.bool false, .bool false] 22)) := (Below.refl _ _).alloc (Nat.le_refl _) _
  have HBX := Lib.hid hbx
  have hawk := awake_any (w.alloc (.cells #[.bool false, .bool false] 22))
  have b0 : (w.alloc (.cells #[.bool false, .bool false] 22)).cell? ⟨w.heap.size, 0, none⟩ = some (.bool false) := by simp
  have b1 : (w.alloc (.cells #[.bool false, .bool false] 22)).cell? ⟨w.heap.size, 1, none⟩ = some (.bool false) := by simp
  have BC := Lib.hid (And.intro b0 b1)
  have hsz : w.heap.size < (w.alloc (.cells #[.bool false, .bool false] 22)).heap.size := by simp
  clear hbx b0 b1
  clear hk
  go_enter Try.func5, Try.ntmps5
  go_wp2_with (first
    | (go_at_call 9; refine hawk.mono ?_; rintro e w1 ⟨rfl, hb1⟩; have HB1 := Lib.hid (HBX.out.trans (hb1.mono HBX.out.size)); have hnew := pnew_law f false false w1; have c0 := (hb1.cell (p := ⟨w.heap.size, 0, none⟩) hsz).trans BC.out.1; have c1 := (hb1.cell (p := ⟨w.heap.size, 1, none⟩) hsz).trans BC.out.2; have hs1 := Nat.lt_of_lt_of_le hsz hb1.size; clear hb1)
    | (go_at_call 10; refine hnew.mono ?_; rintro e w2 ⟨hy, _⟩; obtain ⟨pb, rfl, hz⟩ := hy HK.out; have e0 := (hz.b.cell (p := ⟨w.heap.size, 0, none⟩) hs1).trans c0; have e1 := (hz.b.cell (p := ⟨w.heap.size, 1, none⟩) hs1).trans c1; have HB2 := Lib.hid (HB1.out.trans (hz.b.mono HB1.out.size)); have HZ : Hid (FX w1 pb f false false w2) := ⟨_, hz, rfl, rfl, rfl⟩; clear hz hy))
  go_ret
  exact ⟨rfl, HB2.out⟩
set_option maxHeartbeats 3200000 in
set_option maxRecDepth 100000 in
theorem fixed_f (f : Int) (hf : InI f) (a : Option Addr) (cap : Nat) (l : List StepT) (hn : l.length ≤ cap ∧ cap ≤ maxLen ∧ ∀ s ∈ l, okStep s) (hk : kindB f false false) (h0 : 0 ≤ f) (w : World) (hr : RdS w.heap.size w a l) : Calls Try.prog 5 #[.int .i64 f, .agg #[.bool false, .bool false], .slice a l.length cap] w fun e w' => e = .returned (.bool true) ∧ Below w.heap.size w w' := by
  have HK := Lib.hid hk
  have HO : Hid (ownZ (newZ f false false) = false) := by unfold Hid ownZ newZ; simp [show ¬ f < 0 by omega]
  have HV : Hid (levelZ (newZ f false false) = f) := by unfold Hid levelZ newZ; exact if_pos h0
  have hbx : Below w.heap.size w (w.alloc (.cells #[.bool false, .bool false] 22)) := (Below.refl _ _).alloc (Nat.le_refl _) _
  have HBX := Lib.hid hbx
  have hawk := awake_any (w.alloc (.cells #[.bool false, .bool false] 22))
  have b0 : (w.alloc (.cells #[.bool false, .bool false] 22)).cell? ⟨w.heap.size, 0, none⟩ = some (.bool false) := by simp
  have b1 : (w.alloc (.cells #[.bool false, .bool false] 22)).cell? ⟨w.heap.size, 1, none⟩ = some (.bool false) := by simp
  have BC := Lib.hid (And.intro b0 b1)
  have hsz : w.heap.size < (w.alloc (.cells #[.bool false, .bool false] 22)).heap.size := by simp
  clear hbx b0 b1
  have hl : l.length ≤ 9223372036854775807 := by have := hn.1; have := hn.2.1; unfold maxLen at this; omega
  obtain ⟨len, hlen⟩ : ∃ len, l.length = len := ⟨_, rfl⟩
  have HL := Lib.hid hlen
  have HR := Lib.hid hr
  have HOK := Lib.hid hn.2.2
  rw [hlen] at hl ⊢
  clear hk hn hr hlen
  go_enter Try.func5, Try.ntmps5
  go_wp2_with (first
    | (go_at_call 9; refine hawk.mono ?_; rintro e w1 ⟨rfl, hb1⟩; have HB1 := Lib.hid (HBX.out.trans (hb1.mono HBX.out.size)); have hnew := pnew_law f false false w1; have c0 := (hb1.cell (p := ⟨w.heap.size, 0, none⟩) hsz).trans BC.out.1; have c1 := (hb1.cell (p := ⟨w.heap.size, 1, none⟩) hsz).trans BC.out.2; have hs1 := Nat.lt_of_lt_of_le hsz hb1.size; clear hb1)
    | (go_at_call 10; refine hnew.mono ?_; rintro e w2 ⟨hy, _⟩; obtain ⟨pb, rfl, hz⟩ := hy HK.out; have e0 := (hz.b.cell (p := ⟨w.heap.size, 0, none⟩) hs1).trans c0; have e1 := (hz.b.cell (p := ⟨w.heap.size, 1, none⟩) hs1).trans c1; have HB2 := Lib.hid (HB1.out.trans (hz.b.mono HB1.out.size)); have HZ : Hid (FX w1 pb f false false w2) := ⟨_, hz, rfl, rfl, rfl⟩; clear hz hy))
  go_loopw [11] (fun i wr => ∃ k : Nat, k ≤ len ∧ k ≤ 100 ∧ i = .int .i64 k ∧ Hid (FX w1 pb f false false wr)) (fun i _ => len - (intOf i).toNat)
  case atStart => exact ⟨0, Nat.zero_le _, by omega, rfl, HZ⟩
  case round =>
    obtain ⟨k, hk, hk2, rfl, HQ⟩ := hrel
    clear e0 e1 c0 c1
    by_cases hlt : k < len
    · by_cases h150 : k < 100
      · obtain ⟨s, hs⟩ : ∃ s, l[k]? = some s := ⟨_, List.getElem?_eq_getElem (by have := HL.out; omega)⟩
        have hbw : Below w.heap.size w wr := HB1.out.trans (HQ.out.bel.mono HB1.out.size)
        obtain ⟨bb, off, rfl, hc⟩ := RdR.at HR.out hs hbw
        have d0 := hc 0 _ rfl
        rw [Nat.add_zero] at d0
        have d1 := hc 1 _ rfl
        have d2 := hc 2 _ rfl
        have d3 := hc 3 _ rfl
        have d4 := hc 4 _ rfl
        have hbu : Below w.heap.size w wr.drew := hbw.drew
        obtain ⟨_, _, hba, hcu⟩ := RdR.at HR.out hs hbu
        injection hba with hba
        injection hba with hb1 hb2 _
        subst hb1 hb2
        obtain ⟨U, hU⟩ : ∃ U, wr.drew = U := ⟨_, rfl⟩
        rw [hU] at hcu
        have g1 := hcu 1 _ rfl
        have g2 := hcu 2 _ rfl
        have g3 := hcu 3 _ rfl
        have g4 := hcu 4 _ rfl
        have HUF : Hid (FX w1 pb f false false U) := by rw [← hU]; exact HQ.out.drew
        have HU := Lib.hid hU
        have HS := Lib.hid (HOK.out s (List.mem_of_getElem? hs))
        have HLZ : Hid (∀ W, FX w1 pb f false false W → W.cell? ⟨bb, off + k * 5 + 1, none⟩ = some (.int .i64 s.link)) := fun W hW => by
          have hb3 : Below w.heap.size w W := HB1.out.trans (hW.bel.mono HB1.out.size)
          obtain ⟨_, _, hba, hcw⟩ := RdR.at HR.out hs hb3
          injection hba with hba
          injection hba with hb1 hb2 _
          subst hb1 hb2
          exact hcw 1 _ rfl
        clear hc hs hbw hbu hU hcu
        cases q : (s.d == 0)
        · go_wp2_with (first
            | (go_at_call 14; (with_reducible refine (fx_tick HQ.out s.now).mono ?_); rintro e w4 ⟨c4, rfl, hz4⟩; have HZ4 := Lib.hid hz4; have hlv := fx_level hz4 HO.out HV.out; have hqt := fx_quiet hz4 HO.out s.link HS.out.1; have j1 := HLZ.out _ hz4; clear hz4)
            | (go_at_call 16; refine hlv.mono ?_; rintro e w5 ⟨rfl, hww⟩; have hww := hww.symm; subst hww)
            | (go_at_call 20; refine hqt.mono ?_; rintro e w7 ⟨rfl, hz7⟩; have HZ7 := Lib.hid hz7; clear hz7))
          go_roundw
          case rel => exact ⟨k + 1, by omega, by omega, by go_num, HZ7⟩
          case measure => simp [intOf]; omega
        · go_wp2
          refine region_tail 21 (by kernel_rfl) (by kernel_rfl) U HU.out ?_
          simp only [List.take_succ_cons, List.take_zero, List.drop_succ_cons, List.drop_zero]
          repeat still_step
          refine wpStill_nil ?_
          go_wp2_with (first
            | (go_at_call 12; (with_reducible refine (fx_offer HUF.out s.link s.level s.none s.now).mono ?_); rintro e w4 ⟨c4, rfl, hz4⟩; have HZ4 := Lib.hid hz4; have hlv := fx_level hz4 HO.out HV.out; have hqt := fx_quiet hz4 HO.out s.link HS.out.1; have j1 := HLZ.out _ hz4; clear hz4)
            | (go_at_call 16; refine hlv.mono ?_; rintro e w5 ⟨rfl, hww⟩; have hww := hww.symm; subst hww)
            | (go_at_call 20; refine hqt.mono ?_; rintro e w7 ⟨rfl, hz7⟩; have HZ7 := Lib.hid hz7; clear hz7))
          go_roundw
          case rel => exact ⟨k + 1, by omega, by omega, by go_num, HZ7⟩
          case measure => simp [intOf]; omega
      · obtain rfl : k = 100 := by omega
        go_wp2
        go_ret
        exact ⟨rfl, HB1.out.trans (HQ.out.bel.mono HB1.out.size)⟩
    · obtain rfl : k = len := by omega
      go_wp2
      go_ret
      exact ⟨rfl, HB1.out.trans (HQ.out.bel.mono HB1.out.size)⟩
set_option maxHeartbeats 3200000 in
set_option maxRecDepth 100000 in
theorem fixed_leaf (f : Int) (hf : InI f) (a : Option Addr) (cap : Nat) (l : List StepT) (hn : l.length ≤ cap ∧ cap ≤ maxLen ∧ ∀ s ∈ l, okStep s) (hk : kindB f true false) (h0 : f < 0) (w : World) (hr : RdS w.heap.size w a l) : Calls Try.prog 5 #[.int .i64 f, .agg #[.bool true, .bool false], .slice a l.length cap] w fun e w' => e = .returned (.bool true) ∧ Below w.heap.size w w' := by
  have HK := Lib.hid hk
  have HO : Hid (ownZ (newZ f true false) = false) := by unfold Hid ownZ newZ; simp
  have HV : Hid (levelZ (newZ f true false) = 0) := by unfold Hid levelZ newZ; simp [show ¬ 0 ≤ f by omega]
  have hbx : Below w.heap.size w (w.alloc (.cells #[.bool true, .bool false] 22)) := (Below.refl _ _).alloc (Nat.le_refl _) _
  have HBX := Lib.hid hbx
  have hawk := awake_any (w.alloc (.cells #[.bool true, .bool false] 22))
  have b0 : (w.alloc (.cells #[.bool true, .bool false] 22)).cell? ⟨w.heap.size, 0, none⟩ = some (.bool true) := by simp
  have b1 : (w.alloc (.cells #[.bool true, .bool false] 22)).cell? ⟨w.heap.size, 1, none⟩ = some (.bool false) := by simp
  have BC := Lib.hid (And.intro b0 b1)
  have hsz : w.heap.size < (w.alloc (.cells #[.bool true, .bool false] 22)).heap.size := by simp
  clear hbx b0 b1
  have hl : l.length ≤ 9223372036854775807 := by have := hn.1; have := hn.2.1; unfold maxLen at this; omega
  obtain ⟨len, hlen⟩ : ∃ len, l.length = len := ⟨_, rfl⟩
  have HL := Lib.hid hlen
  have HR := Lib.hid hr
  have HOK := Lib.hid hn.2.2
  rw [hlen] at hl ⊢
  clear hk hn hr hlen
  go_enter Try.func5, Try.ntmps5
  go_wp2_with (first
    | (go_at_call 9; refine hawk.mono ?_; rintro e w1 ⟨rfl, hb1⟩; have HB1 := Lib.hid (HBX.out.trans (hb1.mono HBX.out.size)); have hnew := pnew_law f true false w1; have c0 := (hb1.cell (p := ⟨w.heap.size, 0, none⟩) hsz).trans BC.out.1; have c1 := (hb1.cell (p := ⟨w.heap.size, 1, none⟩) hsz).trans BC.out.2; have hs1 := Nat.lt_of_lt_of_le hsz hb1.size; clear hb1)
    | (go_at_call 10; refine hnew.mono ?_; rintro e w2 ⟨hy, _⟩; obtain ⟨pb, rfl, hz⟩ := hy HK.out; have e0 := (hz.b.cell (p := ⟨w.heap.size, 0, none⟩) hs1).trans c0; have e1 := (hz.b.cell (p := ⟨w.heap.size, 1, none⟩) hs1).trans c1; have HB2 := Lib.hid (HB1.out.trans (hz.b.mono HB1.out.size)); have HZ : Hid (FX w1 pb f true false w2) := ⟨_, hz, rfl, rfl, rfl⟩; clear hz hy))
  go_loopw [11] (fun i wr => ∃ k : Nat, k ≤ len ∧ k ≤ 100 ∧ i = .int .i64 k ∧ Hid (FX w1 pb f true false wr)) (fun i _ => len - (intOf i).toNat)
  case atStart => exact ⟨0, Nat.zero_le _, by omega, rfl, HZ⟩
  case round =>
    obtain ⟨k, hk, hk2, rfl, HQ⟩ := hrel
    clear e0 e1 c0 c1
    by_cases hlt : k < len
    · by_cases h150 : k < 100
      · obtain ⟨s, hs⟩ : ∃ s, l[k]? = some s := ⟨_, List.getElem?_eq_getElem (by have := HL.out; omega)⟩
        have hbw : Below w.heap.size w wr := HB1.out.trans (HQ.out.bel.mono HB1.out.size)
        obtain ⟨bb, off, rfl, hc⟩ := RdR.at HR.out hs hbw
        have d0 := hc 0 _ rfl
        rw [Nat.add_zero] at d0
        have d1 := hc 1 _ rfl
        have d2 := hc 2 _ rfl
        have d3 := hc 3 _ rfl
        have d4 := hc 4 _ rfl
        have hbu : Below w.heap.size w wr.drew := hbw.drew
        obtain ⟨_, _, hba, hcu⟩ := RdR.at HR.out hs hbu
        injection hba with hba
        injection hba with hb1 hb2 _
        subst hb1 hb2
        obtain ⟨U, hU⟩ : ∃ U, wr.drew = U := ⟨_, rfl⟩
        rw [hU] at hcu
        have g1 := hcu 1 _ rfl
        have g2 := hcu 2 _ rfl
        have g3 := hcu 3 _ rfl
        have g4 := hcu 4 _ rfl
        have HUF : Hid (FX w1 pb f true false U) := by rw [← hU]; exact HQ.out.drew
        have HU := Lib.hid hU
        have HS := Lib.hid (HOK.out s (List.mem_of_getElem? hs))
        have HLZ : Hid (∀ W, FX w1 pb f true false W → W.cell? ⟨bb, off + k * 5 + 1, none⟩ = some (.int .i64 s.link)) := fun W hW => by
          have hb3 : Below w.heap.size w W := HB1.out.trans (hW.bel.mono HB1.out.size)
          obtain ⟨_, _, hba, hcw⟩ := RdR.at HR.out hs hb3
          injection hba with hba
          injection hba with hb1 hb2 _
          subst hb1 hb2
          exact hcw 1 _ rfl
        clear hc hs hbw hbu hU hcu
        cases q : (s.d == 0)
        · go_wp2_with (first
            | (go_at_call 14; (with_reducible refine (fx_tick HQ.out s.now).mono ?_); rintro e w4 ⟨c4, rfl, hz4⟩; have HZ4 := Lib.hid hz4; have hlv := fx_level hz4 HO.out HV.out; have hqt := fx_quiet hz4 HO.out s.link HS.out.1; have j1 := HLZ.out _ hz4; clear hz4)
            | (go_at_call 16; refine hlv.mono ?_; rintro e w5 ⟨rfl, hww⟩; have hww := hww.symm; subst hww)
            | (go_at_call 20; refine hqt.mono ?_; rintro e w7 ⟨rfl, hz7⟩; have HZ7 := Lib.hid hz7; clear hz7))
          go_roundw
          case rel => exact ⟨k + 1, by omega, by omega, by go_num, HZ7⟩
          case measure => simp [intOf]; omega
        · go_wp2
          refine region_tail 21 (by kernel_rfl) (by kernel_rfl) U HU.out ?_
          simp only [List.take_succ_cons, List.take_zero, List.drop_succ_cons, List.drop_zero]
          repeat still_step
          refine wpStill_nil ?_
          go_wp2_with (first
            | (go_at_call 12; (with_reducible refine (fx_offer HUF.out s.link s.level s.none s.now).mono ?_); rintro e w4 ⟨c4, rfl, hz4⟩; have HZ4 := Lib.hid hz4; have hlv := fx_level hz4 HO.out HV.out; have hqt := fx_quiet hz4 HO.out s.link HS.out.1; have j1 := HLZ.out _ hz4; clear hz4)
            | (go_at_call 16; refine hlv.mono ?_; rintro e w5 ⟨rfl, hww⟩; have hww := hww.symm; subst hww)
            | (go_at_call 20; refine hqt.mono ?_; rintro e w7 ⟨rfl, hz7⟩; have HZ7 := Lib.hid hz7; clear hz7))
          go_roundw
          case rel => exact ⟨k + 1, by omega, by omega, by go_num, HZ7⟩
          case measure => simp [intOf]; omega
      · obtain rfl : k = 100 := by omega
        go_wp2
        go_ret
        exact ⟨rfl, HB1.out.trans (HQ.out.bel.mono HB1.out.size)⟩
    · obtain rfl : k = len := by omega
      go_wp2
      go_ret
      exact ⟨rfl, HB1.out.trans (HQ.out.bel.mono HB1.out.size)⟩
set_option maxHeartbeats 3200000 in
set_option maxRecDepth 100000 in
theorem fixed_top (f : Int) (hf : InI f) (a : Option Addr) (cap : Nat) (l : List StepT) (hn : l.length ≤ cap ∧ cap ≤ maxLen ∧ ∀ s ∈ l, okStep s) (hk : kindB f false true) (h0 : f < 0) (w : World) (hr : RdS w.heap.size w a l) : Calls Try.prog 5 #[.int .i64 f, .agg #[.bool false, .bool true], .slice a l.length cap] w fun e w' => e = .returned (.bool true) ∧ Below w.heap.size w w' := by
  have HK := Lib.hid hk
  have HO : Hid (ownZ (newZ f false true) = false) := by unfold Hid ownZ newZ; simp
  have HV : Hid (levelZ (newZ f false true) = 24) := by unfold Hid levelZ newZ; simp [show ¬ 0 ≤ f by omega]
  have hbx : Below w.heap.size w (w.alloc (.cells #[.bool false, .bool true] 22)) := (Below.refl _ _).alloc (Nat.le_refl _) _
  have HBX := Lib.hid hbx
  have hawk := awake_any (w.alloc (.cells #[.bool false, .bool true] 22))
  have b0 : (w.alloc (.cells #[.bool false, .bool true] 22)).cell? ⟨w.heap.size, 0, none⟩ = some (.bool false) := by simp
  have b1 : (w.alloc (.cells #[.bool false, .bool true] 22)).cell? ⟨w.heap.size, 1, none⟩ = some (.bool true) := by simp
  have BC := Lib.hid (And.intro b0 b1)
  have hsz : w.heap.size < (w.alloc (.cells #[.bool false, .bool true] 22)).heap.size := by simp
  clear hbx b0 b1
  have hl : l.length ≤ 9223372036854775807 := by have := hn.1; have := hn.2.1; unfold maxLen at this; omega
  obtain ⟨len, hlen⟩ : ∃ len, l.length = len := ⟨_, rfl⟩
  have HL := Lib.hid hlen
  have HR := Lib.hid hr
  have HOK := Lib.hid hn.2.2
  rw [hlen] at hl ⊢
  clear hk hn hr hlen
  go_enter Try.func5, Try.ntmps5
  go_wp2_with (first
    | (go_at_call 9; refine hawk.mono ?_; rintro e w1 ⟨rfl, hb1⟩; have HB1 := Lib.hid (HBX.out.trans (hb1.mono HBX.out.size)); have hnew := pnew_law f false true w1; have c0 := (hb1.cell (p := ⟨w.heap.size, 0, none⟩) hsz).trans BC.out.1; have c1 := (hb1.cell (p := ⟨w.heap.size, 1, none⟩) hsz).trans BC.out.2; have hs1 := Nat.lt_of_lt_of_le hsz hb1.size; clear hb1)
    | (go_at_call 10; refine hnew.mono ?_; rintro e w2 ⟨hy, _⟩; obtain ⟨pb, rfl, hz⟩ := hy HK.out; have e0 := (hz.b.cell (p := ⟨w.heap.size, 0, none⟩) hs1).trans c0; have e1 := (hz.b.cell (p := ⟨w.heap.size, 1, none⟩) hs1).trans c1; have HB2 := Lib.hid (HB1.out.trans (hz.b.mono HB1.out.size)); have HZ : Hid (FX w1 pb f false true w2) := ⟨_, hz, rfl, rfl, rfl⟩; clear hz hy))
  go_loopw [11] (fun i wr => ∃ k : Nat, k ≤ len ∧ k ≤ 100 ∧ i = .int .i64 k ∧ Hid (FX w1 pb f false true wr)) (fun i _ => len - (intOf i).toNat)
  case atStart => exact ⟨0, Nat.zero_le _, by omega, rfl, HZ⟩
  case round =>
    obtain ⟨k, hk, hk2, rfl, HQ⟩ := hrel
    clear e0 e1 c0 c1
    by_cases hlt : k < len
    · by_cases h150 : k < 100
      · obtain ⟨s, hs⟩ : ∃ s, l[k]? = some s := ⟨_, List.getElem?_eq_getElem (by have := HL.out; omega)⟩
        have hbw : Below w.heap.size w wr := HB1.out.trans (HQ.out.bel.mono HB1.out.size)
        obtain ⟨bb, off, rfl, hc⟩ := RdR.at HR.out hs hbw
        have d0 := hc 0 _ rfl
        rw [Nat.add_zero] at d0
        have d1 := hc 1 _ rfl
        have d2 := hc 2 _ rfl
        have d3 := hc 3 _ rfl
        have d4 := hc 4 _ rfl
        have hbu : Below w.heap.size w wr.drew := hbw.drew
        obtain ⟨_, _, hba, hcu⟩ := RdR.at HR.out hs hbu
        injection hba with hba
        injection hba with hb1 hb2 _
        subst hb1 hb2
        obtain ⟨U, hU⟩ : ∃ U, wr.drew = U := ⟨_, rfl⟩
        rw [hU] at hcu
        have g1 := hcu 1 _ rfl
        have g2 := hcu 2 _ rfl
        have g3 := hcu 3 _ rfl
        have g4 := hcu 4 _ rfl
        have HUF : Hid (FX w1 pb f false true U) := by rw [← hU]; exact HQ.out.drew
        have HU := Lib.hid hU
        have HS := Lib.hid (HOK.out s (List.mem_of_getElem? hs))
        have HLZ : Hid (∀ W, FX w1 pb f false true W → W.cell? ⟨bb, off + k * 5 + 1, none⟩ = some (.int .i64 s.link)) := fun W hW => by
          have hb3 : Below w.heap.size w W := HB1.out.trans (hW.bel.mono HB1.out.size)
          obtain ⟨_, _, hba, hcw⟩ := RdR.at HR.out hs hb3
          injection hba with hba
          injection hba with hb1 hb2 _
          subst hb1 hb2
          exact hcw 1 _ rfl
        clear hc hs hbw hbu hU hcu
        cases q : (s.d == 0)
        · go_wp2_with (first
            | (go_at_call 14; (with_reducible refine (fx_tick HQ.out s.now).mono ?_); rintro e w4 ⟨c4, rfl, hz4⟩; have HZ4 := Lib.hid hz4; have hlv := fx_level hz4 HO.out HV.out; have hqt := fx_quiet hz4 HO.out s.link HS.out.1; have j1 := HLZ.out _ hz4; clear hz4)
            | (go_at_call 16; refine hlv.mono ?_; rintro e w5 ⟨rfl, hww⟩; have hww := hww.symm; subst hww)
            | (go_at_call 20; refine hqt.mono ?_; rintro e w7 ⟨rfl, hz7⟩; have HZ7 := Lib.hid hz7; clear hz7))
          go_roundw
          case rel => exact ⟨k + 1, by omega, by omega, by go_num, HZ7⟩
          case measure => simp [intOf]; omega
        · go_wp2
          refine region_tail 21 (by kernel_rfl) (by kernel_rfl) U HU.out ?_
          simp only [List.take_succ_cons, List.take_zero, List.drop_succ_cons, List.drop_zero]
          repeat still_step
          refine wpStill_nil ?_
          go_wp2_with (first
            | (go_at_call 12; (with_reducible refine (fx_offer HUF.out s.link s.level s.none s.now).mono ?_); rintro e w4 ⟨c4, rfl, hz4⟩; have HZ4 := Lib.hid hz4; have hlv := fx_level hz4 HO.out HV.out; have hqt := fx_quiet hz4 HO.out s.link HS.out.1; have j1 := HLZ.out _ hz4; clear hz4)
            | (go_at_call 16; refine hlv.mono ?_; rintro e w5 ⟨rfl, hww⟩; have hww := hww.symm; subst hww)
            | (go_at_call 20; refine hqt.mono ?_; rintro e w7 ⟨rfl, hz7⟩; have HZ7 := Lib.hid hz7; clear hz7))
          go_roundw
          case rel => exact ⟨k + 1, by omega, by omega, by go_num, HZ7⟩
          case measure => simp [intOf]; omega
      · obtain rfl : k = 100 := by omega
        go_wp2
        go_ret
        exact ⟨rfl, HB1.out.trans (HQ.out.bel.mono HB1.out.size)⟩
    · obtain rfl : k = len := by omega
      go_wp2
      go_ret
      exact ⟨rfl, HB1.out.trans (HQ.out.bel.mono HB1.out.size)⟩
theorem fixed_walk (f : Int) (hf : InI f) (fa fb : Bool) (a : Option Addr) (cap : Nat) (l : List StepT) (hn : l.length ≤ cap ∧ cap ≤ maxLen ∧ ∀ s ∈ l, okStep s) (w : World) (hr : RdS w.heap.size w a l) : Calls Try.prog 5 #[.int .i64 f, .agg #[.bool fa, .bool fb], .slice a l.length cap] w fun e w' => e = .returned (.bool true) ∧ Below w.heap.size w w' := by
  by_cases hk : kindB f fa fb
  · have hk2 := hk
    unfold kindB at hk2
    obtain ⟨_, _, h3, h4⟩ := hk2
    by_cases h0 : 0 ≤ f
    · obtain ⟨rfl, rfl⟩ := h3 h0
      exact fixed_f f hf a cap l hn hk h0 w hr
    · cases fa with
      | true =>
        obtain rfl := h4 rfl
        exact fixed_leaf f hf a cap l hn hk (by omega) w hr
      | false =>
        cases fb with
        | true => exact fixed_top f hf a cap l hn hk (by omega) w hr
        | false => exact fixed_own f (by omega) hk a cap l.length w
  · exact fixed_bad f fa fb hk a cap l.length w
end Go.Proofs.Ytfdoldefdkijoaa
