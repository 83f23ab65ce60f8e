/-
  LieBoth: one node accepts what another one says of itself just if that one accepts what it says.
-/
import Derived.Test.YticbfmbinopjcaaLLaw
import Derived.Deep.RegionHeld
namespace Go.Proofs.Yticbfmbinopjcaa
set_option linter.unusedSimpArgs false
set_option linter.unusedVariables false
open Go.RowKit
theorem BxP.port {T : TypeId} {W : World} {k : Nat} {p : PortT} (h : BxP T W k (encPort p)) : W.cell? ⟨k, 0, none⟩ = some (.int .i64 p.node) ∧ W.cell? ⟨k, 1, none⟩ = some (.int .i64 p.level) ∧ W.cell? ⟨k, 2, none⟩ = some (.int .i64 p.pod) ∧ W.cell? ⟨k, 3, none⟩ = some (.int .i64 p.mtu) ∧ W.cell? ⟨k, 4, none⟩ = some (.int .i64 p.link) ∧ W.cell? ⟨k, 5, none⟩ = some (.int .i64 p.hold) := ⟨h.cell 0 rfl, h.cell 1 rfl, h.cell 2 rfl, h.cell 3 rfl, h.cell 4 rfl, h.cell 5 rfl⟩
/-- Two ports in boxes. -/
def Boxes (w : World) (p q : PortT) (W : World) : Prop := BxP 23 W w.heap.size (encPort p) ∧ BxP 23 W (w.heap.size + 1) (encPort q) ∧ Below w.heap.size w W
theorem Boxes.below {w W W' : World} {p q : PortT} (h : Boxes w p q W) (k : Below W.heap.size W W') : Boxes w p q W' := ⟨h.1.below k, h.2.1.below k, h.2.2.trans (k.mono h.2.2.size)⟩
theorem Boxes.keep {w W W' : World} {p q : PortT} (h : Boxes w p q W) (k : KE W W') (b : Below w.heap.size W W') : Boxes w p q W' := ⟨h.1.keep k (by decide) (by decide), h.2.1.keep k (by decide) (by decide), h.2.2.trans b⟩
theorem Boxes.new (w : World) (p q : PortT) : Boxes w p q ((w.alloc (.cells #[.int .i64 p.node, .int .i64 p.level, .int .i64 p.pod, .int .i64 p.mtu, .int .i64 p.link, .int .i64 p.hold] 23)).alloc (.cells #[.int .i64 q.node, .int .i64 q.level, .int .i64 q.pod, .int .i64 q.mtu, .int .i64 q.link, .int .i64 q.hold] 23)) := by
  refine ⟨(heap_alloc_old _ _ (by simp)).trans (heap_alloc_new w _), ?_, ((Below.refl _ w).alloc (Nat.le_refl _) _).alloc (by simp) _⟩
  have := heap_alloc_new (w.alloc (.cells #[.int .i64 p.node, .int .i64 p.level, .int .i64 p.pod, .int .i64 p.mtu, .int .i64 p.link, .int .i64 p.hold] 23)) (.cells #[.int .i64 q.node, .int .i64 q.level, .int .i64 q.pod, .int .i64 q.mtu, .int .i64 q.link, .int .i64 q.hold] 23)
  rw [World.size_alloc] at this
  exact this
theorem acc_both (p q : PortT) : accB p (sayE (newE q)) ↔ accB q (sayE (newE p)) := by
  unfold accB podB levB
  simp only [sayE, newE]
  constructor <;> (intro h; refine ⟨?_, ?_, ?_, ?_, ?_, ?_⟩ <;> omega)
set_option maxHeartbeats 3200000 in
set_option maxRecDepth 100000 in
theorem both_pq (p q : PortT) (hp : ¬ portB p) (hq : ¬ portB q) (w : World) : Calls Try.prog 7 #[.agg #[.int .i64 p.node, .int .i64 p.level, .int .i64 p.pod, .int .i64 p.mtu, .int .i64 p.link, .int .i64 p.hold], .agg #[.int .i64 q.node, .int .i64 q.level, .int .i64 q.pod, .int .i64 q.mtu, .int .i64 q.link, .int .i64 q.hold]] w fun e w' => e = .returned (.bool true) ∧ Below w.heap.size w w' := by
  obtain ⟨V, hV⟩ : ∃ V, (w.alloc (.cells #[.int .i64 p.node, .int .i64 p.level, .int .i64 p.pod, .int .i64 p.mtu, .int .i64 p.link, .int .i64 p.hold] 23)).alloc (.cells #[.int .i64 q.node, .int .i64 q.level, .int .i64 q.pod, .int .i64 q.mtu, .int .i64 q.link, .int .i64 q.hold] 23) = V := ⟨_, rfl⟩
  have hb := Boxes.new w p q
  rw [hV] at hb
  have HB := Lib.hid hb
  have HV := Lib.hid hV
  clear hb hV
  have HP := Lib.hid (new_none p hp)
  have HQ := Lib.hid (new_none q hq)
  have C1 : True := trivial
  clear hp hq
  go_enter Try.func7, Try.ntmps7
  go_wp2_with (first
    | (go_at_call 9; rw [HV.out]; refine (awake_any _).mono ?_; rintro e w1 ⟨rfl, hb1⟩; have hx := HB.out.below hb1; obtain ⟨xp0, xp1, xp2, xp3, xp4, xp5⟩ := hx.1.port; obtain ⟨xq0, xq1, xq2, xq3, xq4, xq5⟩ := hx.2.1.port; have B1 := Lib.hid hx; clear hb1 hx)
    | (go_at_call 12; have c1 := C1; clear C1 c1; (with_reducible refine (HP.out _).mono ?_); rintro e w2 ⟨rfl, hb2⟩; have hx := B1.out.below hb2; obtain ⟨yp0, yp1, yp2, yp3, yp4, yp5⟩ := hx.1.port; obtain ⟨yq0, yq1, yq2, yq3, yq4, yq5⟩ := hx.2.1.port; have B2 := Lib.hid hx; clear hb2 hx)
    | (go_at_call 12; (with_reducible refine (HQ.out _).mono ?_); rintro e w3 ⟨rfl, hb2⟩; have hx := B2.out.below hb2; obtain ⟨zp0, zp1, zp2, zp3, zp4, zp5⟩ := hx.1.port; obtain ⟨zq0, zq1, zq2, zq3, zq4, zq5⟩ := hx.2.1.port; have B3 := Lib.hid hx; clear hb2 hx))
  go_ret
  exact ⟨rfl, B3.out.2.2⟩
set_option maxHeartbeats 3200000 in
set_option maxRecDepth 100000 in
theorem both_p (p q : PortT) (hp : ¬ portB p) (hq : portB q) (w : World) : Calls Try.prog 7 #[.agg #[.int .i64 p.node, .int .i64 p.level, .int .i64 p.pod, .int .i64 p.mtu, .int .i64 p.link, .int .i64 p.hold], .agg #[.int .i64 q.node, .int .i64 q.level, .int .i64 q.pod, .int .i64 q.mtu, .int .i64 q.link, .int .i64 q.hold]] w fun e w' => e = .returned (.bool true) ∧ Below w.heap.size w w' := by
  obtain ⟨V, hV⟩ : ∃ V, (w.alloc (.cells #[.int .i64 p.node, .int .i64 p.level, .int .i64 p.pod, .int .i64 p.mtu, .int .i64 p.link, .int .i64 p.hold] 23)).alloc (.cells #[.int .i64 q.node, .int .i64 q.level, .int .i64 q.pod, .int .i64 q.mtu, .int .i64 q.link, .int .i64 q.hold] 23) = V := ⟨_, rfl⟩
  have hb := Boxes.new w p q
  rw [hV] at hb
  have HB := Lib.hid hb
  have HV := Lib.hid hV
  clear hb hV
  have HP := Lib.hid (new_none p hp)
  have HQ := Lib.hid (new_one q hq)
  have C1 : True := trivial
  clear hp hq
  go_enter Try.func7, Try.ntmps7
  go_wp2_with (first
    | (go_at_call 9; rw [HV.out]; refine (awake_any _).mono ?_; rintro e w1 ⟨rfl, hb1⟩; have hx := HB.out.below hb1; obtain ⟨xp0, xp1, xp2, xp3, xp4, xp5⟩ := hx.1.port; obtain ⟨xq0, xq1, xq2, xq3, xq4, xq5⟩ := hx.2.1.port; have B1 := Lib.hid hx; clear hb1 hx)
    | (go_at_call 12; have c1 := C1; clear C1 c1; (with_reducible refine (HP.out _).mono ?_); rintro e w2 ⟨rfl, hb2⟩; have hx := B1.out.below hb2; obtain ⟨yp0, yp1, yp2, yp3, yp4, yp5⟩ := hx.1.port; obtain ⟨yq0, yq1, yq2, yq3, yq4, yq5⟩ := hx.2.1.port; have B2 := Lib.hid hx; clear hb2 hx)
    | (go_at_call 12; (with_reducible refine (HQ.out _).mono ?_); rintro e w3 ⟨bq, rfl, hb2⟩; have hx := B2.out.below hb2.bel; obtain ⟨zp0, zp1, zp2, zp3, zp4, zp5⟩ := hx.1.port; obtain ⟨zq0, zq1, zq2, zq3, zq4, zq5⟩ := hx.2.1.port; have B3 := Lib.hid hx; have OQ := Lib.hid hb2; clear hb2 hx))
  go_ret
  exact ⟨rfl, B3.out.2.2⟩
set_option maxHeartbeats 3200000 in
set_option maxRecDepth 100000 in
theorem both_q (p q : PortT) (hp : portB p) (hq : ¬ portB q) (w : World) : Calls Try.prog 7 #[.agg #[.int .i64 p.node, .int .i64 p.level, .int .i64 p.pod, .int .i64 p.mtu, .int .i64 p.link, .int .i64 p.hold], .agg #[.int .i64 q.node, .int .i64 q.level, .int .i64 q.pod, .int .i64 q.mtu, .int .i64 q.link, .int .i64 q.hold]] w fun e w' => e = .returned (.bool true) ∧ Below w.heap.size w w' := by
  obtain ⟨V, hV⟩ : ∃ V, (w.alloc (.cells #[.int .i64 p.node, .int .i64 p.level, .int .i64 p.pod, .int .i64 p.mtu, .int .i64 p.link, .int .i64 p.hold] 23)).alloc (.cells #[.int .i64 q.node, .int .i64 q.level, .int .i64 q.pod, .int .i64 q.mtu, .int .i64 q.link, .int .i64 q.hold] 23) = V := ⟨_, rfl⟩
  have hb := Boxes.new w p q
  rw [hV] at hb
  have HB := Lib.hid hb
  have HV := Lib.hid hV
  clear hb hV
  have HP := Lib.hid (new_one p hp)
  have HQ := Lib.hid (new_none q hq)
  have C1 : True := trivial
  clear hp hq
  go_enter Try.func7, Try.ntmps7
  go_wp2_with (first
    | (go_at_call 9; rw [HV.out]; refine (awake_any _).mono ?_; rintro e w1 ⟨rfl, hb1⟩; have hx := HB.out.below hb1; obtain ⟨xp0, xp1, xp2, xp3, xp4, xp5⟩ := hx.1.port; obtain ⟨xq0, xq1, xq2, xq3, xq4, xq5⟩ := hx.2.1.port; have B1 := Lib.hid hx; clear hb1 hx)
    | (go_at_call 12; have c1 := C1; clear C1 c1; (with_reducible refine (HP.out _).mono ?_); rintro e w2 ⟨bp, rfl, hb2⟩; have hx := B1.out.below hb2.bel; obtain ⟨yp0, yp1, yp2, yp3, yp4, yp5⟩ := hx.1.port; obtain ⟨yq0, yq1, yq2, yq3, yq4, yq5⟩ := hx.2.1.port; have B2 := Lib.hid hx; have OP := Lib.hid hb2; clear hb2 hx)
    | (go_at_call 12; (with_reducible refine (HQ.out _).mono ?_); rintro e w3 ⟨rfl, hb2⟩; have hx := B2.out.below hb2; obtain ⟨zp0, zp1, zp2, zp3, zp4, zp5⟩ := hx.1.port; obtain ⟨zq0, zq1, zq2, zq3, zq4, zq5⟩ := hx.2.1.port; have B3 := Lib.hid hx; clear hb2 hx))
  go_ret
  exact ⟨rfl, B3.out.2.2⟩
set_option maxHeartbeats 3200000 in
set_option maxRecDepth 100000 in
theorem both_walk (p q : PortT) (hp : portB p) (hq : portB q) (w : World) : Calls Try.prog 7 #[.agg #[.int .i64 p.node, .int .i64 p.level, .int .i64 p.pod, .int .i64 p.mtu, .int .i64 p.link, .int .i64 p.hold], .agg #[.int .i64 q.node, .int .i64 q.level, .int .i64 q.pod, .int .i64 q.mtu, .int .i64 q.link, .int .i64 q.hold]] w fun e w' => e = .returned (.bool true) ∧ Below w.heap.size w w' := by
  obtain ⟨V, hV⟩ : ∃ V, (w.alloc (.cells #[.int .i64 p.node, .int .i64 p.level, .int .i64 p.pod, .int .i64 p.mtu, .int .i64 p.link, .int .i64 p.hold] 23)).alloc (.cells #[.int .i64 q.node, .int .i64 q.level, .int .i64 q.pod, .int .i64 q.mtu, .int .i64 q.link, .int .i64 q.hold] 23) = V := ⟨_, rfl⟩
  have hb := Boxes.new w p q
  rw [hV] at hb
  have HB := Lib.hid hb
  have HV := Lib.hid hV
  clear hb hV
  have HP := Lib.hid (new_one p hp)
  have HQ := Lib.hid (new_one q hq)
  have sp := fun W b (k : EndP 56 W b (newE p)) => say_any k
  have sq := fun W b (k : EndP 56 W b (newE q)) => say_any k
  simp only [newE, OtherT.zero] at sp sq
  have ap : ∀ W, Calls Try.prog 10 #[.agg #[.int .i64 p.node, .int .i64 p.level, .int .i64 p.pod, .int .i64 p.mtu, .int .i64 p.link, .int .i64 p.hold], .agg #[.int .i64 q.node, .int .i64 q.level, .int .i64 q.pod, .int .i64 q.mtu, .int .i64 q.link, .int .i64 1, .int .i64 0, .int .i64 0, .int .i64 0, .int .i64 q.hold, .bool false, .bool false]] W fun e w' => e = .returned (.bool (decide (accB p (sayE (newE q))))) ∧ Below W.heap.size W w' := fun W => (accepts_any p (sayE (newE q)) (by have := hp.2.1; omega) (by have := hq.2.1; simp only [sayE, newE]; omega) W).mono fun e w' h => ⟨h.1.dec, h.2⟩
  have aq : ∀ W, Calls Try.prog 10 #[.agg #[.int .i64 q.node, .int .i64 q.level, .int .i64 q.pod, .int .i64 q.mtu, .int .i64 q.link, .int .i64 q.hold], .agg #[.int .i64 p.node, .int .i64 p.level, .int .i64 p.pod, .int .i64 p.mtu, .int .i64 p.link, .int .i64 1, .int .i64 0, .int .i64 0, .int .i64 0, .int .i64 p.hold, .bool false, .bool false]] W fun e w' => e = .returned (.bool (decide (accB p (sayE (newE q))))) ∧ Below W.heap.size W w' := fun W => (accepts_any q (sayE (newE p)) (by have := hq.2.1; omega) (by have := hp.2.1; simp only [sayE, newE]; omega) W).mono fun e w' h => ⟨by rw [h.1.dec, decide_eq_decide.2 (acc_both p q)], h.2⟩
  generalize decide (accB p (sayE (newE q))) = z at *
  have SP := Lib.hid sp
  have SQ := Lib.hid sq
  have AP := Lib.hid ap
  have AQ := Lib.hid aq
  have C1 : True := trivial
  clear hp hq sp sq ap aq
  go_enter Try.func7, Try.ntmps7
  go_wp2_with (first
    | (go_at_call 9; rw [HV.out]; refine (awake_any _).mono ?_; rintro e w1 ⟨rfl, hb1⟩; have hx := HB.out.below hb1; obtain ⟨xp0, xp1, xp2, xp3, xp4, xp5⟩ := hx.1.port; obtain ⟨xq0, xq1, xq2, xq3, xq4, xq5⟩ := hx.2.1.port; have B1 := Lib.hid hx; clear hb1 hx)
    | (go_at_call 12; have c1 := C1; clear C1 c1; (with_reducible refine (HP.out _).mono ?_); rintro e w2 ⟨bp, rfl, hb2⟩; have hx := B1.out.below hb2.bel; obtain ⟨yp0, yp1, yp2, yp3, yp4, yp5⟩ := hx.1.port; obtain ⟨yq0, yq1, yq2, yq3, yq4, yq5⟩ := hx.2.1.port; have B2 := Lib.hid hx; have OP := Lib.hid hb2; clear hb2 hx)
    | (go_at_call 12; (with_reducible refine (HQ.out _).mono ?_); rintro e w3 ⟨bq, rfl, hb2⟩; have hx := B2.out.below hb2.bel; obtain ⟨zp0, zp1, zp2, zp3, zp4, zp5⟩ := hx.1.port; obtain ⟨zq0, zq1, zq2, zq3, zq4, zq5⟩ := hx.2.1.port; have B3 := Lib.hid hx; have OQ := Lib.hid hb2; clear hb2 hx))
  have DD := Lib.hid ((Duo2.mk2 OP.out OQ.out).below (Below.refl _ _).drew)
  have B3 := Lib.hid (B3.out.below (Below.refl _ _).drew)
  clear zp0 zp1 zp2 zp3 zp4 zp5 zq0 zq1 zq2 zq3 zq4 zq5
  obtain ⟨zp0, zp1, zp2, zp3, zp4, zp5⟩ := B3.out.1.port
  obtain ⟨zq0, zq1, zq2, zq3, zq4, zq5⟩ := B3.out.2.1.port
  have C1 : True := trivial
  have C2 : True := trivial
  first
    | (go_region_held (fun W => W.cell? ⟨w.heap.size, 0, none⟩ = some (.int .i64 p.node) ∧ W.cell? ⟨w.heap.size, 1, none⟩ = some (.int .i64 p.level) ∧ W.cell? ⟨w.heap.size, 2, none⟩ = some (.int .i64 p.pod) ∧ W.cell? ⟨w.heap.size, 3, none⟩ = some (.int .i64 p.mtu) ∧ W.cell? ⟨w.heap.size, 4, none⟩ = some (.int .i64 p.link) ∧ W.cell? ⟨w.heap.size, 5, none⟩ = some (.int .i64 p.hold) ∧ W.cell? ⟨w.heap.size + 1, 0, none⟩ = some (.int .i64 q.node) ∧ W.cell? ⟨w.heap.size + 1, 1, none⟩ = some (.int .i64 q.level) ∧ W.cell? ⟨w.heap.size + 1, 2, none⟩ = some (.int .i64 q.pod) ∧ W.cell? ⟨w.heap.size + 1, 3, none⟩ = some (.int .i64 q.mtu) ∧ W.cell? ⟨w.heap.size + 1, 4, none⟩ = some (.int .i64 q.link) ∧ W.cell? ⟨w.heap.size + 1, 5, none⟩ = some (.int .i64 q.hold)) (first | exact ⟨zp0, zp1, zp2, zp3, zp4, zp5, zq0, zq1, zq2, zq3, zq4, zq5⟩ | exact ⟨by assumption, by assumption, by assumption, by assumption, by assumption, by assumption, by assumption, by assumption, by assumption, by assumption, by assumption, by assumption⟩)
        (first
          | (go_at_call 22; have c1 := C1; clear C1 c1; (with_reducible refine (SQ.out _ _ DD.out.b).mono ?_); rintro e w4 ⟨rfl, hb4⟩; have D4 := Lib.hid (DD.out.below hb4); have hx := B3.out.below hb4; obtain ⟨fp0, fp1, fp2, fp3, fp4, fp5⟩ := hx.1.port; obtain ⟨fq0, fq1, fq2, fq3, fq4, fq5⟩ := hx.2.1.port; have B4 := Lib.hid hx; clear hb4 hx)
          | (go_at_call 10; have c2 := C2; clear C2 c2; (with_reducible refine (AP.out _).mono ?_); rintro e w5 ⟨rfl, hb5⟩; have D5 := Lib.hid (D4.out.below hb5); have hx := B4.out.below hb5; obtain ⟨gp0, gp1, gp2, gp3, gp4, gp5⟩ := hx.1.port; obtain ⟨gq0, gq1, gq2, gq3, gq4, gq5⟩ := hx.2.1.port; have B5 := Lib.hid hx; clear hb5 hx)
          | (go_at_call 22; (with_reducible refine (SP.out _ _ D5.out.a).mono ?_); rintro e w6 ⟨rfl, hb6⟩; have hx := B5.out.below hb6; obtain ⟨hp0, hp1, hp2, hp3, hp4, hp5⟩ := hx.1.port; obtain ⟨hq0, hq1, hq2, hq3, hq4, hq5⟩ := hx.2.1.port; have B6 := Lib.hid hx; clear hb6 hx)
          | (go_at_call 10; (with_reducible refine (AQ.out _).mono ?_); rintro e w7 ⟨rfl, hb7⟩; have hx := B6.out.below hb7; obtain ⟨ip0, ip1, ip2, ip3, ip4, ip5⟩ := hx.1.port; obtain ⟨iq0, iq1, iq2, iq3, iq4, iq5⟩ := hx.2.1.port; have B7 := Lib.hid hx; clear hb7 hx)))
    | fail
  go_wp2
  go_ret
  exact ⟨by simp, B7.out.2.2⟩
theorem both_all (p q : PortT) (w : World) : Calls Try.prog 7 #[.agg #[.int .i64 p.node, .int .i64 p.level, .int .i64 p.pod, .int .i64 p.mtu, .int .i64 p.link, .int .i64 p.hold], .agg #[.int .i64 q.node, .int .i64 q.level, .int .i64 q.pod, .int .i64 q.mtu, .int .i64 q.link, .int .i64 q.hold]] w fun e w' => e = .returned (.bool true) ∧ Below w.heap.size w w' := by
  by_cases hp : portB p
  · by_cases hq : portB q
    · exact both_walk p q hp hq w
    · exact both_q p q hp hq w
  · by_cases hq : portB q
    · exact both_p p q hp hq w
    · exact both_pq p q hp hq w
theorem both_law (p : PortT) (_ : InI p.level ∧ InI p.hold) (q : PortT) (_ : InI q.level ∧ InI q.hold) (w : World) : Calls Try.prog 7 #[.agg #[.int .i64 p.node, .int .i64 p.level, .int .i64 p.pod, .int .i64 p.mtu, .int .i64 p.link, .int .i64 p.hold], .agg #[.int .i64 q.node, .int .i64 q.level, .int .i64 q.pod, .int .i64 q.mtu, .int .i64 q.link, .int .i64 q.hold]] w fun e w' => e = .returned (.bool true) ∧ Below w.heap.size w w' := both_all p q w
end Go.Proofs.Yticbfmbinopjcaa
