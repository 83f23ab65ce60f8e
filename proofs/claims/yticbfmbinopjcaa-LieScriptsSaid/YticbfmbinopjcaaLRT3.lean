/-
  THE DOCUMENT'S END takes what it hears: hearC1, hearC2, hearC3, hearC4.
-/
import Derived.Test.YticbfmbinopjcaaLRT0
namespace Go.Proofs.Yticbfmbinopjcaa
set_option linter.unusedSimpArgs false
set_option linter.unusedVariables false
open Go.RowKit
set_option maxHeartbeats 3200000 in
set_option maxRecDepth 100000 in
theorem rtake_hearC1 {W : World} {b : Nat} {e : EndT} (h : EndP 46 W b e) (hi : InvE e) (x : LieT) (now : Int) (k : timeB now) (kx : lieR x = true) (ka : accB e.p x) (k3 : ¬ e.s = 3) (k0 : e.o.node = 0) (b1 : (e.o.node == x.node) = false) (g1 : (x.seen == e.p.node) = true) (g2 : (x.seenLink == e.p.link) = true) (g3 : freshN x.seenNonce e.nonce 16) : Calls Try.prog 15 #[.pointer (some ⟨b, 0, none⟩), .agg #[.int .i64 x.node, .int .i64 x.level, .int .i64 x.pod, .int .i64 x.mtu, .int .i64 x.link, .int .i64 x.nonce, .int .i64 x.seen, .int .i64 x.seenLink, .int .i64 x.seenNonce, .int .i64 x.hold, .bool x.rep, .bool x.noOffer], .int .i64 now] W (TakeP 46 W b e x now) := by
  have hb := TK.new h x
  have H := Lib.hid h
  have ht := fun W => (rtime_any now W).mono fun e w' h => (⟨h.1.dec, h.2⟩ : e = .returned (.bool (decide (timeB now))) ∧ w' = W)
  obtain ⟨V, hV⟩ : ∃ V, W.alloc (.cells #[.int .i64 x.node, .int .i64 x.level, .int .i64 x.pod, .int .i64 x.mtu, .int .i64 x.link, .int .i64 x.nonce, .int .i64 x.seen, .int .i64 x.seenLink, .int .i64 x.seenNonce, .int .i64 x.hold, .bool x.rep, .bool x.noOffer] 25) = V := ⟨_, rfl⟩
  rw [hV] at hb
  have HV := Lib.hid hV
  have HB := Lib.hid hb
  rw [decide_eq_true k] at ht
  have hr := rright_lie x
  rw [kx] at hr
  have f := lie_facts kx
  have ha := fun W => (raccepts_any e.p x (by have := hi.port.2.1; omega) (by omega) W).mono fun en w' h => (⟨h.1.dec, h.2⟩ : en = .returned (.bool (decide (accB e.p x))) ∧ Below W.heap.size W w')
  have hfo := fun W (q : EndP 46 W b e) s => rfalls_any q s
  have hlt := h.lt
  have hne : b ≠ W.heap.size := by omega
  have hne2 : W.heap.size ≠ b := by omega
  have e1 : -9223372036854775808 ≤ now + x.hold ∧ now + x.hold ≤ 9223372036854775807 := by unfold timeB at k; omega
  have hf := fun W => rfresh_dec x.seenNonce e.nonce 16 W
  rw [decide_eq_true g3] at hf
  rw [decide_eq_true ka] at ha
  have K : RowKit.Hid (takeE e x now = (0, { e with o := ⟨x.node, x.link, x.level, x.nonce⟩, till := now + x.hold, s := 2 })) := by
    unfold Hid takeE
    rw [if_neg (by simpa using k), if_neg (by simp [kx]), if_neg (by simpa using ka), if_neg k3, if_neg (fun q => q.1 k0)]
    unfold hearE
    rw [if_pos ⟨by simpa using g1, by simpa using g2, g3⟩]
  have k0b : (e.o.node == 0) = true := by simpa using k0
  clear k kx ka hV hb h hi f hfo k0 g3
  go_enter Try.func15, Try.ntmps15
  go_wp2_with (first
    | (go_at_call 36; refine (ht _).mono ?_; rintro en w0 ⟨rfl, rfl⟩)
    | (go_at_call 37; rw [HV.out]; refine (hr _).mono ?_; rintro en w1 ⟨rfl, hb1⟩; have hk1 := HB.out.below hb1; obtain ⟨uc0, uc1, uc2, uc3, uc4, uc5⟩ := hk1.1.cells; obtain ⟨ug0, ug1, ug2, ug3, ug4, ug5, ug6⟩ := hk1.1.cells2; have uz := hk1.1.frozen; obtain ⟨ud0, ud1, ud2, ud3, ud4, ud5, ud6, ud7, ud8, ud9, ud10, ud11⟩ := hk1.2.1.all; have K1 := Lib.hid hk1; clear hb1 hk1))
  go_quiet (fail)
  go_wp2
  obtain ⟨U, hU⟩ : ∃ U, (w1.drewN nq).drew = U := ⟨_, rfl⟩
  have hku := (K1.out.drewN nq).drew
  rw [hU] at hku
  obtain ⟨qc0, qc1, qc2, qc3, qc4, qc5⟩ := hku.1.cells
  obtain ⟨qg0, qg1, qg2, qg3, qg4, qg5, qg6⟩ := hku.1.cells2
  have qz := hku.1.frozen
  obtain ⟨qd0, qd1, qd2, qd3, qd4, qd5, qd6, qd7, qd8, qd9, qd10, qd11⟩ := hku.2.1.all
  have KU := Lib.hid hku
  have HU := Lib.hid hU
  clear hku hU
  refine region_tail 5 (by kernel_rfl) (by kernel_rfl) U HU.out ?_
  simp only [List.take_succ_cons, List.take_zero, List.drop_succ_cons, List.drop_zero]
  repeat still_step
  refine wpStill_nil ?_
  go_wp2_with (go_at_call 11; refine (ha _).mono ?_; rintro en w2 ⟨rfl, hb2⟩; have hk2 := KU.out.below hb2; obtain ⟨vc0, vc1, vc2, vc3, vc4, vc5⟩ := hk2.1.cells; obtain ⟨vg0, vg1, vg2, vg3, vg4, vg5, vg6⟩ := hk2.1.cells2; have vz := hk2.1.frozen; obtain ⟨vd0, vd1, vd2, vd3, vd4, vd5, vd6, vd7, vd8, vd9, vd10, vd11⟩ := hk2.2.1.all; have K2 := Lib.hid hk2; obtain ⟨C, hC⟩ : ∃ C, ((((((w2.setCell ⟨b, 8, none⟩ (.int .i64 x.node)).setCell ⟨b, 9, none⟩ (.int .i64 x.link)).setCell ⟨b, 10, none⟩ (.int .i64 x.level)).setCell ⟨b, 11, none⟩ (.int .i64 x.nonce)).setCell ⟨b, 12, none⟩ (.int .i64 (now + x.hold))).setCell ⟨b, 6, none⟩ (.int .i64 1)) = C := ⟨_, rfl⟩; have ec : EndP 46 C b { e with o := ⟨x.node, x.link, x.level, x.nonce⟩, till := now + x.hold, s := 1 } := (by rw [← hC]; exact (heap_setCell_same _ b _ _ _ _ (heap_setCell_same _ b _ _ _ _ (heap_setCell_same _ b _ _ _ _ (heap_setCell_same _ b _ _ _ _ (heap_setCell_same _ b _ _ _ _ (heap_setCell_same _ b _ _ _ _ hk2.1))))))); have bc : But b W C := (by rw [← hC]; exact ((((((hk2.2.2.set _ _).set _ _).set _ _).set _ _).set _ _).set _ _)); have lc : LieP C W.heap.size x := hk2.2.1.same (by rw [← hC]; simp [heap_setCell_other, hne2]); obtain ⟨rc0, rc1, rc2, rc3, rc4, rc5⟩ := ec.cells; obtain ⟨rg0, rg1, rg2, rg3, rg4, rg5, rg6⟩ := ec.cells2; have rz := ec.frozen; obtain ⟨rd0, rd1, rd2, rd3, rd4, rd5, rd6, rd7, rd8, rd9, rd10, rd11⟩ := lc.all; simp only at rg0 rg1 rg2 rg3 rg4 rg5 rg6 rc0 rc1 rc2 rc3 rc4 rc5; have HC := Lib.hid hC; have EC := Lib.hid ec; have BC := Lib.hid bc; clear hC ec bc lc; clear hb2 hk2; clear uc0 uc1 uc2 uc3 uc4 uc5 ug0 ug1 ug2 ug3 ug4 ug5 ug6 uz ud0 ud1 ud2 ud3 ud4 ud5 ud6 ud7 ud8 ud9 ud10 ud11; clear qc0 qc1 qc2 qc3 qc4 qc5 qg0 qg1 qg2 qg3 qg4 qg5 qg6 qz qd0 qd1 qd2 qd3 qd4 qd5 qd6 qd7 qd8 qd9 qd10 qd11)
  rw [HC.out]
  go_quiet (exact Calls.quiet_of_same (hf _))
  go_wp2
  go_ret
  unfold TakeP
  rw [K.out]
  exact ⟨rfl, heap_setCell_same _ b _ _ _ _ (show _ = _ from EC.out), (BC.out.drewN _).set _ _⟩
set_option maxHeartbeats 3200000 in
set_option maxRecDepth 100000 in
theorem rtake_hearC2 {W : World} {b : Nat} {e : EndT} (h : EndP 46 W b e) (hi : InvE e) (x : LieT) (now : Int) (k : timeB now) (kx : lieR x = true) (ka : accB e.p x) (k3 : ¬ e.s = 3) (k0 : e.o.node = 0) (b1 : (e.o.node == x.node) = false) (g1 : (x.seen == e.p.node) = true) (g2 : (x.seenLink == e.p.link) = true) (g3 : ¬ freshN x.seenNonce e.nonce 16) : Calls Try.prog 15 #[.pointer (some ⟨b, 0, none⟩), .agg #[.int .i64 x.node, .int .i64 x.level, .int .i64 x.pod, .int .i64 x.mtu, .int .i64 x.link, .int .i64 x.nonce, .int .i64 x.seen, .int .i64 x.seenLink, .int .i64 x.seenNonce, .int .i64 x.hold, .bool x.rep, .bool x.noOffer], .int .i64 now] W (TakeP 46 W b e x now) := by
  have hb := TK.new h x
  have H := Lib.hid h
  have ht := fun W => (rtime_any now W).mono fun e w' h => (⟨h.1.dec, h.2⟩ : e = .returned (.bool (decide (timeB now))) ∧ w' = W)
  obtain ⟨V, hV⟩ : ∃ V, W.alloc (.cells #[.int .i64 x.node, .int .i64 x.level, .int .i64 x.pod, .int .i64 x.mtu, .int .i64 x.link, .int .i64 x.nonce, .int .i64 x.seen, .int .i64 x.seenLink, .int .i64 x.seenNonce, .int .i64 x.hold, .bool x.rep, .bool x.noOffer] 25) = V := ⟨_, rfl⟩
  rw [hV] at hb
  have HV := Lib.hid hV
  have HB := Lib.hid hb
  rw [decide_eq_true k] at ht
  have hr := rright_lie x
  rw [kx] at hr
  have f := lie_facts kx
  have ha := fun W => (raccepts_any e.p x (by have := hi.port.2.1; omega) (by omega) W).mono fun en w' h => (⟨h.1.dec, h.2⟩ : en = .returned (.bool (decide (accB e.p x))) ∧ Below W.heap.size W w')
  have hfo := fun W (q : EndP 46 W b e) s => rfalls_any q s
  have hlt := h.lt
  have hne : b ≠ W.heap.size := by omega
  have hne2 : W.heap.size ≠ b := by omega
  have e1 : -9223372036854775808 ≤ now + x.hold ∧ now + x.hold ≤ 9223372036854775807 := by unfold timeB at k; omega
  have hf := fun W => rfresh_dec x.seenNonce e.nonce 16 W
  rw [decide_eq_false g3] at hf
  rw [decide_eq_true ka] at ha
  have K : RowKit.Hid (takeE e x now = (0, { e with o := ⟨x.node, x.link, x.level, x.nonce⟩, till := now + x.hold, s := 1 })) := by
    unfold Hid takeE
    rw [if_neg (by simpa using k), if_neg (by simp [kx]), if_neg (by simpa using ka), if_neg k3, if_neg (fun q => q.1 k0)]
    unfold hearE
    rw [if_neg (fun h => g3 h.2.2)]
  have k0b : (e.o.node == 0) = true := by simpa using k0
  clear k kx ka hV hb h hi f hfo k0 g3
  go_enter Try.func15, Try.ntmps15
  go_wp2_with (first
    | (go_at_call 36; refine (ht _).mono ?_; rintro en w0 ⟨rfl, rfl⟩)
    | (go_at_call 37; rw [HV.out]; refine (hr _).mono ?_; rintro en w1 ⟨rfl, hb1⟩; have hk1 := HB.out.below hb1; obtain ⟨uc0, uc1, uc2, uc3, uc4, uc5⟩ := hk1.1.cells; obtain ⟨ug0, ug1, ug2, ug3, ug4, ug5, ug6⟩ := hk1.1.cells2; have uz := hk1.1.frozen; obtain ⟨ud0, ud1, ud2, ud3, ud4, ud5, ud6, ud7, ud8, ud9, ud10, ud11⟩ := hk1.2.1.all; have K1 := Lib.hid hk1; clear hb1 hk1))
  go_quiet (fail)
  go_wp2
  obtain ⟨U, hU⟩ : ∃ U, (w1.drewN nq).drew = U := ⟨_, rfl⟩
  have hku := (K1.out.drewN nq).drew
  rw [hU] at hku
  obtain ⟨qc0, qc1, qc2, qc3, qc4, qc5⟩ := hku.1.cells
  obtain ⟨qg0, qg1, qg2, qg3, qg4, qg5, qg6⟩ := hku.1.cells2
  have qz := hku.1.frozen
  obtain ⟨qd0, qd1, qd2, qd3, qd4, qd5, qd6, qd7, qd8, qd9, qd10, qd11⟩ := hku.2.1.all
  have KU := Lib.hid hku
  have HU := Lib.hid hU
  clear hku hU
  refine region_tail 5 (by kernel_rfl) (by kernel_rfl) U HU.out ?_
  simp only [List.take_succ_cons, List.take_zero, List.drop_succ_cons, List.drop_zero]
  repeat still_step
  refine wpStill_nil ?_
  go_wp2_with (go_at_call 11; refine (ha _).mono ?_; rintro en w2 ⟨rfl, hb2⟩; have hk2 := KU.out.below hb2; obtain ⟨vc0, vc1, vc2, vc3, vc4, vc5⟩ := hk2.1.cells; obtain ⟨vg0, vg1, vg2, vg3, vg4, vg5, vg6⟩ := hk2.1.cells2; have vz := hk2.1.frozen; obtain ⟨vd0, vd1, vd2, vd3, vd4, vd5, vd6, vd7, vd8, vd9, vd10, vd11⟩ := hk2.2.1.all; have K2 := Lib.hid hk2; obtain ⟨C, hC⟩ : ∃ C, ((((((w2.setCell ⟨b, 8, none⟩ (.int .i64 x.node)).setCell ⟨b, 9, none⟩ (.int .i64 x.link)).setCell ⟨b, 10, none⟩ (.int .i64 x.level)).setCell ⟨b, 11, none⟩ (.int .i64 x.nonce)).setCell ⟨b, 12, none⟩ (.int .i64 (now + x.hold))).setCell ⟨b, 6, none⟩ (.int .i64 1)) = C := ⟨_, rfl⟩; have ec : EndP 46 C b { e with o := ⟨x.node, x.link, x.level, x.nonce⟩, till := now + x.hold, s := 1 } := (by rw [← hC]; exact (heap_setCell_same _ b _ _ _ _ (heap_setCell_same _ b _ _ _ _ (heap_setCell_same _ b _ _ _ _ (heap_setCell_same _ b _ _ _ _ (heap_setCell_same _ b _ _ _ _ (heap_setCell_same _ b _ _ _ _ hk2.1))))))); have bc : But b W C := (by rw [← hC]; exact ((((((hk2.2.2.set _ _).set _ _).set _ _).set _ _).set _ _).set _ _)); have lc : LieP C W.heap.size x := hk2.2.1.same (by rw [← hC]; simp [heap_setCell_other, hne2]); obtain ⟨rc0, rc1, rc2, rc3, rc4, rc5⟩ := ec.cells; obtain ⟨rg0, rg1, rg2, rg3, rg4, rg5, rg6⟩ := ec.cells2; have rz := ec.frozen; obtain ⟨rd0, rd1, rd2, rd3, rd4, rd5, rd6, rd7, rd8, rd9, rd10, rd11⟩ := lc.all; simp only at rg0 rg1 rg2 rg3 rg4 rg5 rg6 rc0 rc1 rc2 rc3 rc4 rc5; have HC := Lib.hid hC; have EC := Lib.hid ec; have BC := Lib.hid bc; clear hC ec bc lc; clear hb2 hk2; clear uc0 uc1 uc2 uc3 uc4 uc5 ug0 ug1 ug2 ug3 ug4 ug5 ug6 uz ud0 ud1 ud2 ud3 ud4 ud5 ud6 ud7 ud8 ud9 ud10 ud11; clear qc0 qc1 qc2 qc3 qc4 qc5 qg0 qg1 qg2 qg3 qg4 qg5 qg6 qz qd0 qd1 qd2 qd3 qd4 qd5 qd6 qd7 qd8 qd9 qd10 qd11)
  rw [HC.out]
  go_quiet (exact Calls.quiet_of_same (hf _))
  go_wp2
  go_ret
  unfold TakeP
  rw [K.out]
  exact ⟨rfl, EC.out, BC.out.drewN _⟩
set_option maxHeartbeats 3200000 in
set_option maxRecDepth 100000 in
theorem rtake_hearC3 {W : World} {b : Nat} {e : EndT} (h : EndP 46 W b e) (hi : InvE e) (x : LieT) (now : Int) (k : timeB now) (kx : lieR x = true) (ka : accB e.p x) (k3 : ¬ e.s = 3) (k0 : e.o.node = 0) (b1 : (e.o.node == x.node) = false) (g1 : (x.seen == e.p.node) = true) (g2 : (x.seenLink == e.p.link) = false) : Calls Try.prog 15 #[.pointer (some ⟨b, 0, none⟩), .agg #[.int .i64 x.node, .int .i64 x.level, .int .i64 x.pod, .int .i64 x.mtu, .int .i64 x.link, .int .i64 x.nonce, .int .i64 x.seen, .int .i64 x.seenLink, .int .i64 x.seenNonce, .int .i64 x.hold, .bool x.rep, .bool x.noOffer], .int .i64 now] W (TakeP 46 W b e x now) := by
  have hb := TK.new h x
  have H := Lib.hid h
  have ht := fun W => (rtime_any now W).mono fun e w' h => (⟨h.1.dec, h.2⟩ : e = .returned (.bool (decide (timeB now))) ∧ w' = W)
  obtain ⟨V, hV⟩ : ∃ V, W.alloc (.cells #[.int .i64 x.node, .int .i64 x.level, .int .i64 x.pod, .int .i64 x.mtu, .int .i64 x.link, .int .i64 x.nonce, .int .i64 x.seen, .int .i64 x.seenLink, .int .i64 x.seenNonce, .int .i64 x.hold, .bool x.rep, .bool x.noOffer] 25) = V := ⟨_, rfl⟩
  rw [hV] at hb
  have HV := Lib.hid hV
  have HB := Lib.hid hb
  rw [decide_eq_true k] at ht
  have hr := rright_lie x
  rw [kx] at hr
  have f := lie_facts kx
  have ha := fun W => (raccepts_any e.p x (by have := hi.port.2.1; omega) (by omega) W).mono fun en w' h => (⟨h.1.dec, h.2⟩ : en = .returned (.bool (decide (accB e.p x))) ∧ Below W.heap.size W w')
  have hfo := fun W (q : EndP 46 W b e) s => rfalls_any q s
  have hlt := h.lt
  have hne : b ≠ W.heap.size := by omega
  have hne2 : W.heap.size ≠ b := by omega
  have e1 : -9223372036854775808 ≤ now + x.hold ∧ now + x.hold ≤ 9223372036854775807 := by unfold timeB at k; omega
  have hf := fun W => rfresh_dec x.seenNonce e.nonce 16 W
  rw [decide_eq_true ka] at ha
  have K : RowKit.Hid (takeE e x now = (0, { e with o := ⟨x.node, x.link, x.level, x.nonce⟩, till := now + x.hold, s := 1 })) := by
    unfold Hid takeE
    rw [if_neg (by simpa using k), if_neg (by simp [kx]), if_neg (by simpa using ka), if_neg k3, if_neg (fun q => q.1 k0)]
    unfold hearE
    rw [if_neg (fun h => by have := h.2.1; simp [this] at g2)]
  have k0b : (e.o.node == 0) = true := by simpa using k0
  clear k kx ka hV hb h hi f hfo k0
  go_enter Try.func15, Try.ntmps15
  go_wp2_with (first
    | (go_at_call 36; refine (ht _).mono ?_; rintro en w0 ⟨rfl, rfl⟩)
    | (go_at_call 37; rw [HV.out]; refine (hr _).mono ?_; rintro en w1 ⟨rfl, hb1⟩; have hk1 := HB.out.below hb1; obtain ⟨uc0, uc1, uc2, uc3, uc4, uc5⟩ := hk1.1.cells; obtain ⟨ug0, ug1, ug2, ug3, ug4, ug5, ug6⟩ := hk1.1.cells2; have uz := hk1.1.frozen; obtain ⟨ud0, ud1, ud2, ud3, ud4, ud5, ud6, ud7, ud8, ud9, ud10, ud11⟩ := hk1.2.1.all; have K1 := Lib.hid hk1; clear hb1 hk1))
  go_quiet (fail)
  go_wp2
  obtain ⟨U, hU⟩ : ∃ U, (w1.drewN nq).drew = U := ⟨_, rfl⟩
  have hku := (K1.out.drewN nq).drew
  rw [hU] at hku
  obtain ⟨qc0, qc1, qc2, qc3, qc4, qc5⟩ := hku.1.cells
  obtain ⟨qg0, qg1, qg2, qg3, qg4, qg5, qg6⟩ := hku.1.cells2
  have qz := hku.1.frozen
  obtain ⟨qd0, qd1, qd2, qd3, qd4, qd5, qd6, qd7, qd8, qd9, qd10, qd11⟩ := hku.2.1.all
  have KU := Lib.hid hku
  have HU := Lib.hid hU
  clear hku hU
  refine region_tail 5 (by kernel_rfl) (by kernel_rfl) U HU.out ?_
  simp only [List.take_succ_cons, List.take_zero, List.drop_succ_cons, List.drop_zero]
  repeat still_step
  refine wpStill_nil ?_
  go_wp2_with (go_at_call 11; refine (ha _).mono ?_; rintro en w2 ⟨rfl, hb2⟩; have hk2 := KU.out.below hb2; obtain ⟨vc0, vc1, vc2, vc3, vc4, vc5⟩ := hk2.1.cells; obtain ⟨vg0, vg1, vg2, vg3, vg4, vg5, vg6⟩ := hk2.1.cells2; have vz := hk2.1.frozen; obtain ⟨vd0, vd1, vd2, vd3, vd4, vd5, vd6, vd7, vd8, vd9, vd10, vd11⟩ := hk2.2.1.all; have K2 := Lib.hid hk2; obtain ⟨C, hC⟩ : ∃ C, ((((((w2.setCell ⟨b, 8, none⟩ (.int .i64 x.node)).setCell ⟨b, 9, none⟩ (.int .i64 x.link)).setCell ⟨b, 10, none⟩ (.int .i64 x.level)).setCell ⟨b, 11, none⟩ (.int .i64 x.nonce)).setCell ⟨b, 12, none⟩ (.int .i64 (now + x.hold))).setCell ⟨b, 6, none⟩ (.int .i64 1)) = C := ⟨_, rfl⟩; have ec : EndP 46 C b { e with o := ⟨x.node, x.link, x.level, x.nonce⟩, till := now + x.hold, s := 1 } := (by rw [← hC]; exact (heap_setCell_same _ b _ _ _ _ (heap_setCell_same _ b _ _ _ _ (heap_setCell_same _ b _ _ _ _ (heap_setCell_same _ b _ _ _ _ (heap_setCell_same _ b _ _ _ _ (heap_setCell_same _ b _ _ _ _ hk2.1))))))); have bc : But b W C := (by rw [← hC]; exact ((((((hk2.2.2.set _ _).set _ _).set _ _).set _ _).set _ _).set _ _)); have lc : LieP C W.heap.size x := hk2.2.1.same (by rw [← hC]; simp [heap_setCell_other, hne2]); obtain ⟨rc0, rc1, rc2, rc3, rc4, rc5⟩ := ec.cells; obtain ⟨rg0, rg1, rg2, rg3, rg4, rg5, rg6⟩ := ec.cells2; have rz := ec.frozen; obtain ⟨rd0, rd1, rd2, rd3, rd4, rd5, rd6, rd7, rd8, rd9, rd10, rd11⟩ := lc.all; simp only at rg0 rg1 rg2 rg3 rg4 rg5 rg6 rc0 rc1 rc2 rc3 rc4 rc5; have HC := Lib.hid hC; have EC := Lib.hid ec; have BC := Lib.hid bc; clear hC ec bc lc; clear hb2 hk2; clear uc0 uc1 uc2 uc3 uc4 uc5 ug0 ug1 ug2 ug3 ug4 ug5 ug6 uz ud0 ud1 ud2 ud3 ud4 ud5 ud6 ud7 ud8 ud9 ud10 ud11; clear qc0 qc1 qc2 qc3 qc4 qc5 qg0 qg1 qg2 qg3 qg4 qg5 qg6 qz qd0 qd1 qd2 qd3 qd4 qd5 qd6 qd7 qd8 qd9 qd10 qd11)
  rw [HC.out]
  go_quiet (exact Calls.quiet_of_same (hf _))
  go_wp2
  go_ret
  unfold TakeP
  rw [K.out]
  exact ⟨rfl, EC.out, BC.out.drewN _⟩
set_option maxHeartbeats 3200000 in
set_option maxRecDepth 100000 in
theorem rtake_hearC4 {W : World} {b : Nat} {e : EndT} (h : EndP 46 W b e) (hi : InvE e) (x : LieT) (now : Int) (k : timeB now) (kx : lieR x = true) (ka : accB e.p x) (k3 : ¬ e.s = 3) (k0 : e.o.node = 0) (b1 : (e.o.node == x.node) = false) (g1 : (x.seen == e.p.node) = false) : Calls Try.prog 15 #[.pointer (some ⟨b, 0, none⟩), .agg #[.int .i64 x.node, .int .i64 x.level, .int .i64 x.pod, .int .i64 x.mtu, .int .i64 x.link, .int .i64 x.nonce, .int .i64 x.seen, .int .i64 x.seenLink, .int .i64 x.seenNonce, .int .i64 x.hold, .bool x.rep, .bool x.noOffer], .int .i64 now] W (TakeP 46 W b e x now) := by
  have hb := TK.new h x
  have H := Lib.hid h
  have ht := fun W => (rtime_any now W).mono fun e w' h => (⟨h.1.dec, h.2⟩ : e = .returned (.bool (decide (timeB now))) ∧ w' = W)
  obtain ⟨V, hV⟩ : ∃ V, W.alloc (.cells #[.int .i64 x.node, .int .i64 x.level, .int .i64 x.pod, .int .i64 x.mtu, .int .i64 x.link, .int .i64 x.nonce, .int .i64 x.seen, .int .i64 x.seenLink, .int .i64 x.seenNonce, .int .i64 x.hold, .bool x.rep, .bool x.noOffer] 25) = V := ⟨_, rfl⟩
  rw [hV] at hb
  have HV := Lib.hid hV
  have HB := Lib.hid hb
  rw [decide_eq_true k] at ht
  have hr := rright_lie x
  rw [kx] at hr
  have f := lie_facts kx
  have ha := fun W => (raccepts_any e.p x (by have := hi.port.2.1; omega) (by omega) W).mono fun en w' h => (⟨h.1.dec, h.2⟩ : en = .returned (.bool (decide (accB e.p x))) ∧ Below W.heap.size W w')
  have hfo := fun W (q : EndP 46 W b e) s => rfalls_any q s
  have hlt := h.lt
  have hne : b ≠ W.heap.size := by omega
  have hne2 : W.heap.size ≠ b := by omega
  have e1 : -9223372036854775808 ≤ now + x.hold ∧ now + x.hold ≤ 9223372036854775807 := by unfold timeB at k; omega
  have hf := fun W => rfresh_dec x.seenNonce e.nonce 16 W
  rw [decide_eq_true ka] at ha
  have K : RowKit.Hid (takeE e x now = (0, { e with o := ⟨x.node, x.link, x.level, x.nonce⟩, till := now + x.hold, s := 1 })) := by
    unfold Hid takeE
    rw [if_neg (by simpa using k), if_neg (by simp [kx]), if_neg (by simpa using ka), if_neg k3, if_neg (fun q => q.1 k0)]
    unfold hearE
    rw [if_neg (fun h => by have := h.1; simp [this] at g1)]
  have k0b : (e.o.node == 0) = true := by simpa using k0
  clear k kx ka hV hb h hi f hfo k0
  go_enter Try.func15, Try.ntmps15
  go_wp2_with (first
    | (go_at_call 36; refine (ht _).mono ?_; rintro en w0 ⟨rfl, rfl⟩)
    | (go_at_call 37; rw [HV.out]; refine (hr _).mono ?_; rintro en w1 ⟨rfl, hb1⟩; have hk1 := HB.out.below hb1; obtain ⟨uc0, uc1, uc2, uc3, uc4, uc5⟩ := hk1.1.cells; obtain ⟨ug0, ug1, ug2, ug3, ug4, ug5, ug6⟩ := hk1.1.cells2; have uz := hk1.1.frozen; obtain ⟨ud0, ud1, ud2, ud3, ud4, ud5, ud6, ud7, ud8, ud9, ud10, ud11⟩ := hk1.2.1.all; have K1 := Lib.hid hk1; clear hb1 hk1))
  go_quiet (fail)
  go_wp2
  obtain ⟨U, hU⟩ : ∃ U, (w1.drewN nq).drew = U := ⟨_, rfl⟩
  have hku := (K1.out.drewN nq).drew
  rw [hU] at hku
  obtain ⟨qc0, qc1, qc2, qc3, qc4, qc5⟩ := hku.1.cells
  obtain ⟨qg0, qg1, qg2, qg3, qg4, qg5, qg6⟩ := hku.1.cells2
  have qz := hku.1.frozen
  obtain ⟨qd0, qd1, qd2, qd3, qd4, qd5, qd6, qd7, qd8, qd9, qd10, qd11⟩ := hku.2.1.all
  have KU := Lib.hid hku
  have HU := Lib.hid hU
  clear hku hU
  refine region_tail 5 (by kernel_rfl) (by kernel_rfl) U HU.out ?_
  simp only [List.take_succ_cons, List.take_zero, List.drop_succ_cons, List.drop_zero]
  repeat still_step
  refine wpStill_nil ?_
  go_wp2_with (go_at_call 11; refine (ha _).mono ?_; rintro en w2 ⟨rfl, hb2⟩; have hk2 := KU.out.below hb2; obtain ⟨vc0, vc1, vc2, vc3, vc4, vc5⟩ := hk2.1.cells; obtain ⟨vg0, vg1, vg2, vg3, vg4, vg5, vg6⟩ := hk2.1.cells2; have vz := hk2.1.frozen; obtain ⟨vd0, vd1, vd2, vd3, vd4, vd5, vd6, vd7, vd8, vd9, vd10, vd11⟩ := hk2.2.1.all; have K2 := Lib.hid hk2; obtain ⟨C, hC⟩ : ∃ C, ((((((w2.setCell ⟨b, 8, none⟩ (.int .i64 x.node)).setCell ⟨b, 9, none⟩ (.int .i64 x.link)).setCell ⟨b, 10, none⟩ (.int .i64 x.level)).setCell ⟨b, 11, none⟩ (.int .i64 x.nonce)).setCell ⟨b, 12, none⟩ (.int .i64 (now + x.hold))).setCell ⟨b, 6, none⟩ (.int .i64 1)) = C := ⟨_, rfl⟩; have ec : EndP 46 C b { e with o := ⟨x.node, x.link, x.level, x.nonce⟩, till := now + x.hold, s := 1 } := (by rw [← hC]; exact (heap_setCell_same _ b _ _ _ _ (heap_setCell_same _ b _ _ _ _ (heap_setCell_same _ b _ _ _ _ (heap_setCell_same _ b _ _ _ _ (heap_setCell_same _ b _ _ _ _ (heap_setCell_same _ b _ _ _ _ hk2.1))))))); have bc : But b W C := (by rw [← hC]; exact ((((((hk2.2.2.set _ _).set _ _).set _ _).set _ _).set _ _).set _ _)); have lc : LieP C W.heap.size x := hk2.2.1.same (by rw [← hC]; simp [heap_setCell_other, hne2]); obtain ⟨rc0, rc1, rc2, rc3, rc4, rc5⟩ := ec.cells; obtain ⟨rg0, rg1, rg2, rg3, rg4, rg5, rg6⟩ := ec.cells2; have rz := ec.frozen; obtain ⟨rd0, rd1, rd2, rd3, rd4, rd5, rd6, rd7, rd8, rd9, rd10, rd11⟩ := lc.all; simp only at rg0 rg1 rg2 rg3 rg4 rg5 rg6 rc0 rc1 rc2 rc3 rc4 rc5; have HC := Lib.hid hC; have EC := Lib.hid ec; have BC := Lib.hid bc; clear hC ec bc lc; clear hb2 hk2; clear uc0 uc1 uc2 uc3 uc4 uc5 ug0 ug1 ug2 ug3 ug4 ug5 ug6 uz ud0 ud1 ud2 ud3 ud4 ud5 ud6 ud7 ud8 ud9 ud10 ud11; clear qc0 qc1 qc2 qc3 qc4 qc5 qg0 qg1 qg2 qg3 qg4 qg5 qg6 qz qd0 qd1 qd2 qd3 qd4 qd5 qd6 qd7 qd8 qd9 qd10 qd11)
  rw [HC.out]
  go_quiet (exact Calls.quiet_of_same (hf _))
  go_wp2
  go_ret
  unfold TakeP
  rw [K.out]
  exact ⟨rfl, EC.out, BC.out.drewN _⟩
end Go.Proofs.Yticbfmbinopjcaa
