/-
  LieMeets: the walks.
-/
import Derived.Test.YticbfmbinopjcaaLMt
import Derived.Deep.RegionHeld
namespace Go.Proofs.Yticbfmbinopjcaa
set_option linter.unusedSimpArgs false
set_option linter.unusedVariables false
open Go.RowKit
set_option maxHeartbeats 3200000 in
set_option maxRecDepth 100000 in
theorem meets_true (p q : PortT) (r : Int) (hp : portB p) (hq : portB q) (hr0 : ¬ r < 2) (hr1 : ¬ 60 < r) (hh0 : ¬ p.hold < 2) (hh1 : ¬ q.hold < 2) (hz : accB p (sayE (newE q))) (w : World) : Calls Try.prog 6 #[.agg #[.int .i64 p.node, .int .i64 p.level, .int .i64 p.pod, .int .i64 p.mtu, .int .i64 p.link, .int .i64 p.hold], .agg #[.int .i64 q.node, .int .i64 q.level, .int .i64 q.pod, .int .i64 q.mtu, .int .i64 q.link, .int .i64 q.hold], .int .i64 r] w fun e w' => e = .returned (.bool true) ∧ Below w.heap.size w w' := by
  obtain ⟨V, hV⟩ : ∃ V, (w.alloc (.cells #[.int .i64 p.node, .int .i64 p.level, .int .i64 p.pod, .int .i64 p.mtu, .int .i64 p.link, .int .i64 p.hold] 23)).alloc (.cells #[.int .i64 q.node, .int .i64 q.level, .int .i64 q.pod, .int .i64 q.mtu, .int .i64 q.link, .int .i64 q.hold] 23) = V := ⟨_, rfl⟩
  have hb := Boxes.new w p q
  rw [hV] at hb
  have HB := Lib.hid hb
  have HV := Lib.hid hV
  clear hb hV
  have hzz : true = decide (accB p (sayE (newE q))) := by simp [hz]
  have HMS := Lib.hid (meet_step hp hq (by omega) (by omega) hzz)
  have HMI := Lib.hid (meet_inv hp hq (by omega) (by omega) hzz)
  have HME := Lib.hid (meet_end p q hq true)
  have HP := Lib.hid (new_one p hp)
  have HQ := Lib.hid (new_one q hq)
  have sp := fun W b (k : EndP 56 W b (newE p)) => say_any k
  have sq := fun W b (k : EndP 56 W b (newE q)) => say_any k
  simp only [newE, OtherT.zero] at sp sq
  have ap : ∀ W, Calls Try.prog 10 #[.agg #[.int .i64 p.node, .int .i64 p.level, .int .i64 p.pod, .int .i64 p.mtu, .int .i64 p.link, .int .i64 p.hold], .agg #[.int .i64 q.node, .int .i64 q.level, .int .i64 q.pod, .int .i64 q.mtu, .int .i64 q.link, .int .i64 1, .int .i64 0, .int .i64 0, .int .i64 0, .int .i64 q.hold, .bool false, .bool false]] W fun e w' => e = .returned (.bool true) ∧ Below W.heap.size W w' := fun W => (accepts_any p (sayE (newE q)) (by have := hp.2.1; omega) (by have := hq.2.1; simp only [sayE, newE]; omega) W).mono fun e w' h => ⟨by rw [h.1.dec, ← hzz], h.2⟩
  have aq : ∀ W, Calls Try.prog 10 #[.agg #[.int .i64 q.node, .int .i64 q.level, .int .i64 q.pod, .int .i64 q.mtu, .int .i64 q.link, .int .i64 q.hold], .agg #[.int .i64 p.node, .int .i64 p.level, .int .i64 p.pod, .int .i64 p.mtu, .int .i64 p.link, .int .i64 1, .int .i64 0, .int .i64 0, .int .i64 0, .int .i64 p.hold, .bool false, .bool false]] W fun e w' => e = .returned (.bool true) ∧ Below W.heap.size W w' := fun W => (accepts_any q (sayE (newE p)) (by have := hq.2.1; omega) (by have := hp.2.1; simp only [sayE, newE]; omega) W).mono fun e w' h => ⟨by rw [h.1.dec, decide_eq_decide.2 (acc_both p q).symm, ← hzz], h.2⟩
  have hqh : -9223372036854775808 ≤ r + q.hold ∧ r + q.hold ≤ 9223372036854775807 := by have := hq; unfold portB at this; omega
  obtain ⟨R, hR⟩ : ∃ R : Nat, (R : Int) = r := ⟨r.toNat, by omega⟩
  subst hR
  have hR2 : 2 ≤ R := by omega
  have hR6 : R ≤ 60 := by omega
  have SP := Lib.hid sp
  have SQ := Lib.hid sq
  have AP := Lib.hid ap
  have AQ := Lib.hid aq
  have C1 : True := trivial
  clear hp hq sp sq ap aq hz hzz
  go_enter Try.func6, Try.ntmps6
  go_wp2_with (first
    | (go_at_call 9; rw [HV.out]; refine (awake_any _).mono ?_; rintro e w1 ⟨rfl, hb1⟩; have hx := HB.out.below hb1; obtain ⟨xp0, xp1, xp2, xp3, xp4, xp5⟩ := hx.1.port; obtain ⟨xq0, xq1, xq2, xq3, xq4, xq5⟩ := hx.2.1.port; have B1 := Lib.hid hx; clear hb1 hx)
    | (go_at_call 12; have c1 := C1; clear C1 c1; (with_reducible refine (HP.out _).mono ?_); rintro e w2 ⟨bp, rfl, hb2⟩; have hx := B1.out.below hb2.bel; obtain ⟨yp0, yp1, yp2, yp3, yp4, yp5⟩ := hx.1.port; obtain ⟨yq0, yq1, yq2, yq3, yq4, yq5⟩ := hx.2.1.port; have B2 := Lib.hid hx; have OP := Lib.hid hb2; clear hb2 hx)
    | (go_at_call 12; (with_reducible refine (HQ.out _).mono ?_); rintro e w3 ⟨bq, rfl, hb2⟩; have hx := B2.out.below hb2.bel; obtain ⟨zp0, zp1, zp2, zp3, zp4, zp5⟩ := hx.1.port; obtain ⟨zq0, zq1, zq2, zq3, zq4, zq5⟩ := hx.2.1.port; have B3 := Lib.hid hx; have OQ := Lib.hid hb2; clear hb2 hx))
  have DD := Lib.hid ((Duo2.mk2 (OP.out.back B1.out.2.2) OQ.out).below (Below.refl _ _).drew)
  have B3 := Lib.hid (B3.out.below (Below.refl _ _).drew)
  clear zp0 zp1 zp2 zp3 zp4 zp5 zq0 zq1 zq2 zq3 zq4 zq5
  obtain ⟨zp0, zp1, zp2, zp3, zp4, zp5⟩ := B3.out.1.port
  obtain ⟨zq0, zq1, zq2, zq3, zq4, zq5⟩ := B3.out.2.1.port
  have C1 : True := trivial
  have C2 : True := trivial
  first
    | (go_region_held (fun W => W.cell? ⟨w.heap.size, 0, none⟩ = some (.int .i64 p.node) ∧ W.cell? ⟨w.heap.size, 1, none⟩ = some (.int .i64 p.level) ∧ W.cell? ⟨w.heap.size, 2, none⟩ = some (.int .i64 p.pod) ∧ W.cell? ⟨w.heap.size, 3, none⟩ = some (.int .i64 p.mtu) ∧ W.cell? ⟨w.heap.size, 4, none⟩ = some (.int .i64 p.link) ∧ W.cell? ⟨w.heap.size, 5, none⟩ = some (.int .i64 p.hold) ∧ W.cell? ⟨w.heap.size + 1, 0, none⟩ = some (.int .i64 q.node) ∧ W.cell? ⟨w.heap.size + 1, 1, none⟩ = some (.int .i64 q.level) ∧ W.cell? ⟨w.heap.size + 1, 2, none⟩ = some (.int .i64 q.pod) ∧ W.cell? ⟨w.heap.size + 1, 3, none⟩ = some (.int .i64 q.mtu) ∧ W.cell? ⟨w.heap.size + 1, 4, none⟩ = some (.int .i64 q.link) ∧ W.cell? ⟨w.heap.size + 1, 5, none⟩ = some (.int .i64 q.hold)) (first | exact ⟨zp0, zp1, zp2, zp3, zp4, zp5, zq0, zq1, zq2, zq3, zq4, zq5⟩ | exact ⟨by assumption, by assumption, by assumption, by assumption, by assumption, by assumption, by assumption, by assumption, by assumption, by assumption, by assumption, by assumption⟩)
        (first
          | (go_at_call 22; have c1 := C1; clear C1 c1; (with_reducible refine (SQ.out _ _ DD.out.b).mono ?_); rintro e w4 ⟨rfl, hbx⟩; have D4 := Lib.hid (DD.out.below hbx); have hx := B3.out.below hbx; obtain ⟨fp0, fp1, fp2, fp3, fp4, fp5⟩ := hx.1.port; obtain ⟨fq0, fq1, fq2, fq3, fq4, fq5⟩ := hx.2.1.port; have B4 := Lib.hid hx; clear hbx hx)
          | (go_at_call 10; have c2 := C2; clear C2 c2; (with_reducible refine (AP.out _).mono ?_); rintro e w5 ⟨rfl, hbx⟩; have D5 := Lib.hid (D4.out.below hbx); have hx := B4.out.below hbx; obtain ⟨gp0, gp1, gp2, gp3, gp4, gp5⟩ := hx.1.port; obtain ⟨gq0, gq1, gq2, gq3, gq4, gq5⟩ := hx.2.1.port; have B5 := Lib.hid hx; clear hbx hx)
          | (go_at_call 22; (with_reducible refine (SP.out _ _ D5.out.a).mono ?_); rintro e w6 ⟨rfl, hbx⟩; have D6 := Lib.hid (D5.out.below hbx); have hx := B5.out.below hbx; obtain ⟨hp0, hp1, hp2, hp3, hp4, hp5⟩ := hx.1.port; obtain ⟨hq0, hq1, hq2, hq3, hq4, hq5⟩ := hx.2.1.port; have B6 := Lib.hid hx; clear hbx hx)
          | (go_at_call 10; (with_reducible refine (AQ.out _).mono ?_); rintro e w7 ⟨rfl, hbx⟩; have D7 := Lib.hid (D6.out.below hbx); have hx := B6.out.below hbx; obtain ⟨ip0, ip1, ip2, ip3, ip4, ip5⟩ := hx.1.port; obtain ⟨iq0, iq1, iq2, iq3, iq4, iq5⟩ := hx.2.1.port; have B7 := Lib.hid hx; clear hbx hx)))
    | fail
  have J0 : RowKit.Hid (Duo2 56 56 w bp bq (Meet true p q 0).1 (Meet true p q 0).2 w7 ∧ Boxes w p q w7) := ⟨D7.out, B7.out⟩
  go_wp2
  go_loopw [13] (fun i wr => ∃ k : Nat, i = .int .i64 k ∧ k ≤ R ∧ RowKit.Hid (Duo2 56 56 w bp bq (Meet true p q k).1 (Meet true p q k).2 wr ∧ Boxes w p q wr)) (fun i _ => R - (intOf i).toNat)
  case atStart => exact ⟨0, rfl, Nat.zero_le _, J0⟩
  case round =>
    obtain ⟨k, rfl, hk, HA⟩ := hrel
    clear J0 DD D4 D5 B1 B2 B3 B4 B5 HP HQ OP OQ SP SQ AP AQ D6 D7 B6 B7
    by_cases hlt : k < R
    · have iv := HMI.out k (by omega)
      have rd := round_any HA.out.1 iv.1 iv.2 (k : Int)
      rw [HMS.out k (by omega)] at rd
      have bxk := HA.out.2
      have RD := Lib.hid rd
      by_cases h0 : 0 < k
      · have ms := meet_s p q true (k + 1) (by omega)
        have sa := fun W (z : EndP 56 W bp (Meet true p q (k + 1)).1) => state_any z
        have sb := fun W (z : EndP 56 W bq (Meet true p q (k + 1)).2) => state_any z
        rw [ms.1] at sa
        rw [ms.2] at sb
        simp only [Bool.false_eq_true, if_true, if_false] at sa sb
        have SA := Lib.hid sa
        have SB := Lib.hid sb
        have BXK := Lib.hid bxk
        have C1 : True := trivial
        clear sa sb ms rd iv HA bxk
        go_wp2_with (first
          | (go_at_call 24; (with_reducible refine (RD.out).mono ?_); rintro en w8 ⟨rfl, h1, h2⟩; have I8 : RowKit.Hid (Duo2 56 56 w bp bq (Meet true p q (k + 1)).1 (Meet true p q (k + 1)).2 w8 ∧ Boxes w p q w8) := ⟨h1, BXK.out.1.keep h2 (by decide) (by decide), BXK.out.2.1.keep h2 (by decide) (by decide), h1.bel⟩; clear h1 h2)
          | (go_at_call 21; have c1 := C1; clear C1 c1; (with_reducible refine (SA.out _ I8.out.1.a).mono ?_); rintro en w9 ⟨rfl, rfl⟩)
          | (go_at_call 21; (with_reducible refine (SB.out _ I8.out.1.b).mono ?_); rintro en w10 ⟨rfl, rfl⟩))
        go_roundw
        case rel => exact ⟨k + 1, by go_num, by omega, I8⟩
        case measure => simp [intOf]; omega
      · have BXK := Lib.hid bxk
        clear rd iv HA bxk
        go_wp2_with (go_at_call 24; (with_reducible refine (RD.out).mono ?_); rintro en w8 ⟨rfl, h1, h2⟩; have I8 : RowKit.Hid (Duo2 56 56 w bp bq (Meet true p q (k + 1)).1 (Meet true p q (k + 1)).2 w8 ∧ Boxes w p q w8) := ⟨h1, BXK.out.1.keep h2 (by decide) (by decide), BXK.out.2.1.keep h2 (by decide) (by decide), h1.bel⟩; clear h1 h2)
        go_roundw
        case rel => exact ⟨k + 1, by go_num, by omega, I8⟩
        case measure => simp [intOf]; omega
    · obtain rfl : k = R := by omega
      have tk := tick_any HA.out.1.a ((k : Int) + q.hold)
      have he := HME.out k hR2 hR6
      obtain ⟨t, ht⟩ : ∃ t, (tickE (Meet true p q k).1 ((k : Int) + q.hold)).2 = t := ⟨_, rfl⟩
      obtain ⟨n, hn⟩ : ∃ n, (tickE (Meet true p q k).1 ((k : Int) + q.hold)).1 = n := ⟨_, rfl⟩
      rw [ht] at he tk
      rw [hn] at tk
      have st := fun W (z : EndP 56 W bp t) => state_any z
      rw [he] at st
      obtain ⟨kq0, kq1, kq2, kq3, kq4, kq5⟩ := HA.out.2.2.1.port
      have TKK := Lib.hid tk
      have ST := Lib.hid st
      clear tk he ht hn st
      go_wp2_with (first
        | (go_at_call 16; (with_reducible refine (TKK.out).mono ?_); rintro en w8 ⟨rfl, h1, h2⟩; have E8 := Lib.hid h1; have F8 := Lib.hid (HA.out.1.bel.trans (h2.below HA.out.1.la HA.out.1.bel.size)); clear h1 h2)
        | (go_at_call 21; (with_reducible refine (ST.out _ E8.out).mono ?_); rintro en w9 ⟨rfl, rfl⟩))
      go_ret
      exact ⟨rfl, F8.out⟩
end Go.Proofs.Yticbfmbinopjcaa
