/-
  THE DOCUMENT'S END takes what it hears: oldA, multiA, oldB, multiB, oldC, multiC, twoB, twoC.
-/
import Derived.Test.YticbfmbinopjcaaLRT0
namespace Go.Proofs.Yticbfmbinopjcaa
set_option linter.unusedSimpArgs false
set_option linter.unusedVariables false
open Go.RowKit
set_option maxHeartbeats 3200000 in
set_option maxRecDepth 100000 in
theorem rtake_oldA {W : World} {b : Nat} {e : EndT} (h : EndP 46 W b e) (hi : InvE e) (x : LieT) (now : Int) (k : timeB now) (kx : lieR x = true) (ka : ¬ accB e.p x) (b1 : (e.o.node == x.node) = true) (b2 : (e.o.link == x.link) = true) : Calls Try.prog 15 #[.pointer (some ⟨b, 0, none⟩), .agg #[.int .i64 x.node, .int .i64 x.level, .int .i64 x.pod, .int .i64 x.mtu, .int .i64 x.link, .int .i64 x.nonce, .int .i64 x.seen, .int .i64 x.seenLink, .int .i64 x.seenNonce, .int .i64 x.hold, .bool x.rep, .bool x.noOffer], .int .i64 now] W (TakeP 46 W b e x now) := by
  have hb := TK.new h x
  have H := Lib.hid h
  have ht := fun W => (rtime_any now W).mono fun e w' h => (⟨h.1.dec, h.2⟩ : e = .returned (.bool (decide (timeB now))) ∧ w' = W)
  obtain ⟨V, hV⟩ : ∃ V, W.alloc (.cells #[.int .i64 x.node, .int .i64 x.level, .int .i64 x.pod, .int .i64 x.mtu, .int .i64 x.link, .int .i64 x.nonce, .int .i64 x.seen, .int .i64 x.seenLink, .int .i64 x.seenNonce, .int .i64 x.hold, .bool x.rep, .bool x.noOffer] 25) = V := ⟨_, rfl⟩
  rw [hV] at hb
  have HV := Lib.hid hV
  have HB := Lib.hid hb
  rw [decide_eq_true k] at ht
  have hr := rright_lie x
  rw [kx] at hr
  have f := lie_facts kx
  have ha := fun W => (raccepts_any e.p x (by have := hi.port.2.1; omega) (by omega) W).mono fun en w' h => (⟨h.1.dec, h.2⟩ : en = .returned (.bool (decide (accB e.p x))) ∧ Below W.heap.size W w')
  have hfo := fun W (q : EndP 46 W b e) s => rfalls_any q s
  rw [decide_eq_false ka] at ha
  have ks : sameO e.o x := ⟨by simpa using b1, by simpa using b2⟩
  have K : RowKit.Hid (takeE e x now = (6, fallE e 0)) := by unfold Hid takeE; rw [if_neg (by simpa using k), if_neg (by simp [kx]), if_pos ka, if_pos ks]
  clear k kx ka ks hV hb h hi f
  go_enter Try.func15, Try.ntmps15
  go_wp2_with (first
    | (go_at_call 36; refine (ht _).mono ?_; rintro en w0 ⟨rfl, rfl⟩)
    | (go_at_call 37; rw [HV.out]; refine (hr _).mono ?_; rintro en w1 ⟨rfl, hb1⟩; have hk1 := HB.out.below hb1; obtain ⟨uc0, uc1, uc2, uc3, uc4, uc5⟩ := hk1.1.cells; obtain ⟨ug0, ug1, ug2, ug3, ug4, ug5, ug6⟩ := hk1.1.cells2; have uz := hk1.1.frozen; obtain ⟨ud0, ud1, ud2, ud3, ud4, ud5, ud6, ud7, ud8, ud9, ud10, ud11⟩ := hk1.2.1.all; have K1 := Lib.hid hk1; clear hb1 hk1))
  go_quiet (fail)
  go_wp2
  obtain ⟨U, hU⟩ : ∃ U, (w1.drewN nq).drew = U := ⟨_, rfl⟩
  have hku := (K1.out.drewN nq).drew
  rw [hU] at hku
  obtain ⟨qc0, qc1, qc2, qc3, qc4, qc5⟩ := hku.1.cells
  obtain ⟨qg0, qg1, qg2, qg3, qg4, qg5, qg6⟩ := hku.1.cells2
  have qz := hku.1.frozen
  obtain ⟨qd0, qd1, qd2, qd3, qd4, qd5, qd6, qd7, qd8, qd9, qd10, qd11⟩ := hku.2.1.all
  have KU := Lib.hid hku
  have HU := Lib.hid hU
  clear hku hU
  refine region_tail 5 (by kernel_rfl) (by kernel_rfl) U HU.out ?_
  simp only [List.take_succ_cons, List.take_zero, List.drop_succ_cons, List.drop_zero]
  repeat still_step
  refine wpStill_nil ?_
  go_wp2_with (first
    | (go_at_call 11; refine (ha _).mono ?_; rintro en w2 ⟨rfl, hb2⟩; have hk2 := KU.out.below hb2; obtain ⟨vc0, vc1, vc2, vc3, vc4, vc5⟩ := hk2.1.cells; obtain ⟨vg0, vg1, vg2, vg3, vg4, vg5, vg6⟩ := hk2.1.cells2; have vz := hk2.1.frozen; obtain ⟨vd0, vd1, vd2, vd3, vd4, vd5, vd6, vd7, vd8, vd9, vd10, vd11⟩ := hk2.2.1.all; have K2 := Lib.hid hk2; clear hb2 hk2; clear uc0 uc1 uc2 uc3 uc4 uc5 ug0 ug1 ug2 ug3 ug4 ug5 ug6 uz ud0 ud1 ud2 ud3 ud4 ud5 ud6 ud7 ud8 ud9 ud10 ud11; clear qc0 qc1 qc2 qc3 qc4 qc5 qg0 qg1 qg2 qg3 qg4 qg5 qg6 qz qd0 qd1 qd2 qd3 qd4 qd5 qd6 qd7 qd8 qd9 qd10 qd11)
    | (go_at_call 38; refine (hfo _ K2.out.1 _).mono ?_; rintro en w4 ⟨rfl, h41, h42⟩; have H41 := Lib.hid h41; have H42 := Lib.hid h42; clear h41 h42))
  go_ret
  unfold TakeP
  rw [K.out]
  exact ⟨rfl, H41.out, K2.out.2.2.trans H42.out⟩
set_option maxHeartbeats 3200000 in
set_option maxRecDepth 100000 in
theorem rtake_multiA {W : World} {b : Nat} {e : EndT} (h : EndP 46 W b e) (hi : InvE e) (x : LieT) (now : Int) (k : timeB now) (kx : lieR x = true) (ka : accB e.p x) (k3 : e.s = 3) (b1 : (e.o.node == x.node) = true) (b2 : (e.o.link == x.link) = true) : Calls Try.prog 15 #[.pointer (some ⟨b, 0, none⟩), .agg #[.int .i64 x.node, .int .i64 x.level, .int .i64 x.pod, .int .i64 x.mtu, .int .i64 x.link, .int .i64 x.nonce, .int .i64 x.seen, .int .i64 x.seenLink, .int .i64 x.seenNonce, .int .i64 x.hold, .bool x.rep, .bool x.noOffer], .int .i64 now] W (TakeP 46 W b e x now) := by
  have hb := TK.new h x
  have H := Lib.hid h
  have ht := fun W => (rtime_any now W).mono fun e w' h => (⟨h.1.dec, h.2⟩ : e = .returned (.bool (decide (timeB now))) ∧ w' = W)
  obtain ⟨V, hV⟩ : ∃ V, W.alloc (.cells #[.int .i64 x.node, .int .i64 x.level, .int .i64 x.pod, .int .i64 x.mtu, .int .i64 x.link, .int .i64 x.nonce, .int .i64 x.seen, .int .i64 x.seenLink, .int .i64 x.seenNonce, .int .i64 x.hold, .bool x.rep, .bool x.noOffer] 25) = V := ⟨_, rfl⟩
  rw [hV] at hb
  have HV := Lib.hid hV
  have HB := Lib.hid hb
  rw [decide_eq_true k] at ht
  have hr := rright_lie x
  rw [kx] at hr
  have f := lie_facts kx
  have ha := fun W => (raccepts_any e.p x (by have := hi.port.2.1; omega) (by omega) W).mono fun en w' h => (⟨h.1.dec, h.2⟩ : en = .returned (.bool (decide (accB e.p x))) ∧ Below W.heap.size W w')
  have hfo := fun W (q : EndP 46 W b e) s => rfalls_any q s
  rw [decide_eq_true ka] at ha
  have K : RowKit.Hid (takeE e x now = (6, e)) := by unfold Hid takeE; rw [if_neg (by simpa using k), if_neg (by simp [kx]), if_neg (by simpa using ka), if_pos k3]
  clear k kx ka hV hb h hi f hfo
  go_enter Try.func15, Try.ntmps15
  go_wp2_with (first
    | (go_at_call 36; refine (ht _).mono ?_; rintro en w0 ⟨rfl, rfl⟩)
    | (go_at_call 37; rw [HV.out]; refine (hr _).mono ?_; rintro en w1 ⟨rfl, hb1⟩; have hk1 := HB.out.below hb1; obtain ⟨uc0, uc1, uc2, uc3, uc4, uc5⟩ := hk1.1.cells; obtain ⟨ug0, ug1, ug2, ug3, ug4, ug5, ug6⟩ := hk1.1.cells2; have uz := hk1.1.frozen; obtain ⟨ud0, ud1, ud2, ud3, ud4, ud5, ud6, ud7, ud8, ud9, ud10, ud11⟩ := hk1.2.1.all; have K1 := Lib.hid hk1; clear hb1 hk1))
  go_quiet (fail)
  go_wp2
  obtain ⟨U, hU⟩ : ∃ U, (w1.drewN nq).drew = U := ⟨_, rfl⟩
  have hku := (K1.out.drewN nq).drew
  rw [hU] at hku
  obtain ⟨qc0, qc1, qc2, qc3, qc4, qc5⟩ := hku.1.cells
  obtain ⟨qg0, qg1, qg2, qg3, qg4, qg5, qg6⟩ := hku.1.cells2
  have qz := hku.1.frozen
  obtain ⟨qd0, qd1, qd2, qd3, qd4, qd5, qd6, qd7, qd8, qd9, qd10, qd11⟩ := hku.2.1.all
  have KU := Lib.hid hku
  have HU := Lib.hid hU
  clear hku hU
  refine region_tail 5 (by kernel_rfl) (by kernel_rfl) U HU.out ?_
  simp only [List.take_succ_cons, List.take_zero, List.drop_succ_cons, List.drop_zero]
  repeat still_step
  refine wpStill_nil ?_
  go_wp2_with (go_at_call 11; refine (ha _).mono ?_; rintro en w2 ⟨rfl, hb2⟩; have hk2 := KU.out.below hb2; obtain ⟨vc0, vc1, vc2, vc3, vc4, vc5⟩ := hk2.1.cells; obtain ⟨vg0, vg1, vg2, vg3, vg4, vg5, vg6⟩ := hk2.1.cells2; have vz := hk2.1.frozen; obtain ⟨vd0, vd1, vd2, vd3, vd4, vd5, vd6, vd7, vd8, vd9, vd10, vd11⟩ := hk2.2.1.all; have K2 := Lib.hid hk2; clear hb2 hk2; clear uc0 uc1 uc2 uc3 uc4 uc5 ug0 ug1 ug2 ug3 ug4 ug5 ug6 uz ud0 ud1 ud2 ud3 ud4 ud5 ud6 ud7 ud8 ud9 ud10 ud11; clear qc0 qc1 qc2 qc3 qc4 qc5 qg0 qg1 qg2 qg3 qg4 qg5 qg6 qz qd0 qd1 qd2 qd3 qd4 qd5 qd6 qd7 qd8 qd9 qd10 qd11)
  go_ret
  unfold TakeP
  rw [K.out]
  exact ⟨rfl, K2.out.1, K2.out.2.2⟩
set_option maxHeartbeats 3200000 in
set_option maxRecDepth 100000 in
theorem rtake_oldB {W : World} {b : Nat} {e : EndT} (h : EndP 46 W b e) (hi : InvE e) (x : LieT) (now : Int) (k : timeB now) (kx : lieR x = true) (ka : ¬ accB e.p x) (b1 : (e.o.node == x.node) = true) (b2 : (e.o.link == x.link) = false) : Calls Try.prog 15 #[.pointer (some ⟨b, 0, none⟩), .agg #[.int .i64 x.node, .int .i64 x.level, .int .i64 x.pod, .int .i64 x.mtu, .int .i64 x.link, .int .i64 x.nonce, .int .i64 x.seen, .int .i64 x.seenLink, .int .i64 x.seenNonce, .int .i64 x.hold, .bool x.rep, .bool x.noOffer], .int .i64 now] W (TakeP 46 W b e x now) := by
  have hb := TK.new h x
  have H := Lib.hid h
  have ht := fun W => (rtime_any now W).mono fun e w' h => (⟨h.1.dec, h.2⟩ : e = .returned (.bool (decide (timeB now))) ∧ w' = W)
  obtain ⟨V, hV⟩ : ∃ V, W.alloc (.cells #[.int .i64 x.node, .int .i64 x.level, .int .i64 x.pod, .int .i64 x.mtu, .int .i64 x.link, .int .i64 x.nonce, .int .i64 x.seen, .int .i64 x.seenLink, .int .i64 x.seenNonce, .int .i64 x.hold, .bool x.rep, .bool x.noOffer] 25) = V := ⟨_, rfl⟩
  rw [hV] at hb
  have HV := Lib.hid hV
  have HB := Lib.hid hb
  rw [decide_eq_true k] at ht
  have hr := rright_lie x
  rw [kx] at hr
  have f := lie_facts kx
  have ha := fun W => (raccepts_any e.p x (by have := hi.port.2.1; omega) (by omega) W).mono fun en w' h => (⟨h.1.dec, h.2⟩ : en = .returned (.bool (decide (accB e.p x))) ∧ Below W.heap.size W w')
  have hfo := fun W (q : EndP 46 W b e) s => rfalls_any q s
  rw [decide_eq_false ka] at ha
  have ks : ¬ sameO e.o x := fun q => by have := q.2; simp [this] at b2
  have K : RowKit.Hid (takeE e x now = (6, e)) := by unfold Hid takeE; rw [if_neg (by simpa using k), if_neg (by simp [kx]), if_pos ka, if_neg ks]
  clear k kx ka ks hV hb h hi f
  go_enter Try.func15, Try.ntmps15
  go_wp2_with (first
    | (go_at_call 36; refine (ht _).mono ?_; rintro en w0 ⟨rfl, rfl⟩)
    | (go_at_call 37; rw [HV.out]; refine (hr _).mono ?_; rintro en w1 ⟨rfl, hb1⟩; have hk1 := HB.out.below hb1; obtain ⟨uc0, uc1, uc2, uc3, uc4, uc5⟩ := hk1.1.cells; obtain ⟨ug0, ug1, ug2, ug3, ug4, ug5, ug6⟩ := hk1.1.cells2; have uz := hk1.1.frozen; obtain ⟨ud0, ud1, ud2, ud3, ud4, ud5, ud6, ud7, ud8, ud9, ud10, ud11⟩ := hk1.2.1.all; have K1 := Lib.hid hk1; clear hb1 hk1))
  go_quiet (fail)
  go_wp2
  obtain ⟨U, hU⟩ : ∃ U, (w1.drewN nq).drew = U := ⟨_, rfl⟩
  have hku := (K1.out.drewN nq).drew
  rw [hU] at hku
  obtain ⟨qc0, qc1, qc2, qc3, qc4, qc5⟩ := hku.1.cells
  obtain ⟨qg0, qg1, qg2, qg3, qg4, qg5, qg6⟩ := hku.1.cells2
  have qz := hku.1.frozen
  obtain ⟨qd0, qd1, qd2, qd3, qd4, qd5, qd6, qd7, qd8, qd9, qd10, qd11⟩ := hku.2.1.all
  have KU := Lib.hid hku
  have HU := Lib.hid hU
  clear hku hU
  refine region_tail 5 (by kernel_rfl) (by kernel_rfl) U HU.out ?_
  simp only [List.take_succ_cons, List.take_zero, List.drop_succ_cons, List.drop_zero]
  repeat still_step
  refine wpStill_nil ?_
  go_wp2_with (first
    | (go_at_call 11; refine (ha _).mono ?_; rintro en w2 ⟨rfl, hb2⟩; have hk2 := KU.out.below hb2; obtain ⟨vc0, vc1, vc2, vc3, vc4, vc5⟩ := hk2.1.cells; obtain ⟨vg0, vg1, vg2, vg3, vg4, vg5, vg6⟩ := hk2.1.cells2; have vz := hk2.1.frozen; obtain ⟨vd0, vd1, vd2, vd3, vd4, vd5, vd6, vd7, vd8, vd9, vd10, vd11⟩ := hk2.2.1.all; have K2 := Lib.hid hk2; clear hb2 hk2; clear uc0 uc1 uc2 uc3 uc4 uc5 ug0 ug1 ug2 ug3 ug4 ug5 ug6 uz ud0 ud1 ud2 ud3 ud4 ud5 ud6 ud7 ud8 ud9 ud10 ud11; clear qc0 qc1 qc2 qc3 qc4 qc5 qg0 qg1 qg2 qg3 qg4 qg5 qg6 qz qd0 qd1 qd2 qd3 qd4 qd5 qd6 qd7 qd8 qd9 qd10 qd11))
  go_ret
  unfold TakeP
  rw [K.out]
  exact ⟨rfl, K2.out.1, K2.out.2.2⟩
set_option maxHeartbeats 3200000 in
set_option maxRecDepth 100000 in
theorem rtake_multiB {W : World} {b : Nat} {e : EndT} (h : EndP 46 W b e) (hi : InvE e) (x : LieT) (now : Int) (k : timeB now) (kx : lieR x = true) (ka : accB e.p x) (k3 : e.s = 3) (b1 : (e.o.node == x.node) = true) (b2 : (e.o.link == x.link) = false) : Calls Try.prog 15 #[.pointer (some ⟨b, 0, none⟩), .agg #[.int .i64 x.node, .int .i64 x.level, .int .i64 x.pod, .int .i64 x.mtu, .int .i64 x.link, .int .i64 x.nonce, .int .i64 x.seen, .int .i64 x.seenLink, .int .i64 x.seenNonce, .int .i64 x.hold, .bool x.rep, .bool x.noOffer], .int .i64 now] W (TakeP 46 W b e x now) := by
  have hb := TK.new h x
  have H := Lib.hid h
  have ht := fun W => (rtime_any now W).mono fun e w' h => (⟨h.1.dec, h.2⟩ : e = .returned (.bool (decide (timeB now))) ∧ w' = W)
  obtain ⟨V, hV⟩ : ∃ V, W.alloc (.cells #[.int .i64 x.node, .int .i64 x.level, .int .i64 x.pod, .int .i64 x.mtu, .int .i64 x.link, .int .i64 x.nonce, .int .i64 x.seen, .int .i64 x.seenLink, .int .i64 x.seenNonce, .int .i64 x.hold, .bool x.rep, .bool x.noOffer] 25) = V := ⟨_, rfl⟩
  rw [hV] at hb
  have HV := Lib.hid hV
  have HB := Lib.hid hb
  rw [decide_eq_true k] at ht
  have hr := rright_lie x
  rw [kx] at hr
  have f := lie_facts kx
  have ha := fun W => (raccepts_any e.p x (by have := hi.port.2.1; omega) (by omega) W).mono fun en w' h => (⟨h.1.dec, h.2⟩ : en = .returned (.bool (decide (accB e.p x))) ∧ Below W.heap.size W w')
  have hfo := fun W (q : EndP 46 W b e) s => rfalls_any q s
  rw [decide_eq_true ka] at ha
  have K : RowKit.Hid (takeE e x now = (6, e)) := by unfold Hid takeE; rw [if_neg (by simpa using k), if_neg (by simp [kx]), if_neg (by simpa using ka), if_pos k3]
  clear k kx ka hV hb h hi f hfo
  go_enter Try.func15, Try.ntmps15
  go_wp2_with (first
    | (go_at_call 36; refine (ht _).mono ?_; rintro en w0 ⟨rfl, rfl⟩)
    | (go_at_call 37; rw [HV.out]; refine (hr _).mono ?_; rintro en w1 ⟨rfl, hb1⟩; have hk1 := HB.out.below hb1; obtain ⟨uc0, uc1, uc2, uc3, uc4, uc5⟩ := hk1.1.cells; obtain ⟨ug0, ug1, ug2, ug3, ug4, ug5, ug6⟩ := hk1.1.cells2; have uz := hk1.1.frozen; obtain ⟨ud0, ud1, ud2, ud3, ud4, ud5, ud6, ud7, ud8, ud9, ud10, ud11⟩ := hk1.2.1.all; have K1 := Lib.hid hk1; clear hb1 hk1))
  go_quiet (fail)
  go_wp2
  obtain ⟨U, hU⟩ : ∃ U, (w1.drewN nq).drew = U := ⟨_, rfl⟩
  have hku := (K1.out.drewN nq).drew
  rw [hU] at hku
  obtain ⟨qc0, qc1, qc2, qc3, qc4, qc5⟩ := hku.1.cells
  obtain ⟨qg0, qg1, qg2, qg3, qg4, qg5, qg6⟩ := hku.1.cells2
  have qz := hku.1.frozen
  obtain ⟨qd0, qd1, qd2, qd3, qd4, qd5, qd6, qd7, qd8, qd9, qd10, qd11⟩ := hku.2.1.all
  have KU := Lib.hid hku
  have HU := Lib.hid hU
  clear hku hU
  refine region_tail 5 (by kernel_rfl) (by kernel_rfl) U HU.out ?_
  simp only [List.take_succ_cons, List.take_zero, List.drop_succ_cons, List.drop_zero]
  repeat still_step
  refine wpStill_nil ?_
  go_wp2_with (go_at_call 11; refine (ha _).mono ?_; rintro en w2 ⟨rfl, hb2⟩; have hk2 := KU.out.below hb2; obtain ⟨vc0, vc1, vc2, vc3, vc4, vc5⟩ := hk2.1.cells; obtain ⟨vg0, vg1, vg2, vg3, vg4, vg5, vg6⟩ := hk2.1.cells2; have vz := hk2.1.frozen; obtain ⟨vd0, vd1, vd2, vd3, vd4, vd5, vd6, vd7, vd8, vd9, vd10, vd11⟩ := hk2.2.1.all; have K2 := Lib.hid hk2; clear hb2 hk2; clear uc0 uc1 uc2 uc3 uc4 uc5 ug0 ug1 ug2 ug3 ug4 ug5 ug6 uz ud0 ud1 ud2 ud3 ud4 ud5 ud6 ud7 ud8 ud9 ud10 ud11; clear qc0 qc1 qc2 qc3 qc4 qc5 qg0 qg1 qg2 qg3 qg4 qg5 qg6 qz qd0 qd1 qd2 qd3 qd4 qd5 qd6 qd7 qd8 qd9 qd10 qd11)
  go_ret
  unfold TakeP
  rw [K.out]
  exact ⟨rfl, K2.out.1, K2.out.2.2⟩
set_option maxHeartbeats 3200000 in
set_option maxRecDepth 100000 in
theorem rtake_oldC {W : World} {b : Nat} {e : EndT} (h : EndP 46 W b e) (hi : InvE e) (x : LieT) (now : Int) (k : timeB now) (kx : lieR x = true) (ka : ¬ accB e.p x) (b1 : (e.o.node == x.node) = false) : Calls Try.prog 15 #[.pointer (some ⟨b, 0, none⟩), .agg #[.int .i64 x.node, .int .i64 x.level, .int .i64 x.pod, .int .i64 x.mtu, .int .i64 x.link, .int .i64 x.nonce, .int .i64 x.seen, .int .i64 x.seenLink, .int .i64 x.seenNonce, .int .i64 x.hold, .bool x.rep, .bool x.noOffer], .int .i64 now] W (TakeP 46 W b e x now) := by
  have hb := TK.new h x
  have H := Lib.hid h
  have ht := fun W => (rtime_any now W).mono fun e w' h => (⟨h.1.dec, h.2⟩ : e = .returned (.bool (decide (timeB now))) ∧ w' = W)
  obtain ⟨V, hV⟩ : ∃ V, W.alloc (.cells #[.int .i64 x.node, .int .i64 x.level, .int .i64 x.pod, .int .i64 x.mtu, .int .i64 x.link, .int .i64 x.nonce, .int .i64 x.seen, .int .i64 x.seenLink, .int .i64 x.seenNonce, .int .i64 x.hold, .bool x.rep, .bool x.noOffer] 25) = V := ⟨_, rfl⟩
  rw [hV] at hb
  have HV := Lib.hid hV
  have HB := Lib.hid hb
  rw [decide_eq_true k] at ht
  have hr := rright_lie x
  rw [kx] at hr
  have f := lie_facts kx
  have ha := fun W => (raccepts_any e.p x (by have := hi.port.2.1; omega) (by omega) W).mono fun en w' h => (⟨h.1.dec, h.2⟩ : en = .returned (.bool (decide (accB e.p x))) ∧ Below W.heap.size W w')
  have hfo := fun W (q : EndP 46 W b e) s => rfalls_any q s
  rw [decide_eq_false ka] at ha
  have ks : ¬ sameO e.o x := fun q => by have := q.1; simp [this] at b1
  have K : RowKit.Hid (takeE e x now = (6, e)) := by unfold Hid takeE; rw [if_neg (by simpa using k), if_neg (by simp [kx]), if_pos ka, if_neg ks]
  clear k kx ka ks hV hb h hi f
  go_enter Try.func15, Try.ntmps15
  go_wp2_with (first
    | (go_at_call 36; refine (ht _).mono ?_; rintro en w0 ⟨rfl, rfl⟩)
    | (go_at_call 37; rw [HV.out]; refine (hr _).mono ?_; rintro en w1 ⟨rfl, hb1⟩; have hk1 := HB.out.below hb1; obtain ⟨uc0, uc1, uc2, uc3, uc4, uc5⟩ := hk1.1.cells; obtain ⟨ug0, ug1, ug2, ug3, ug4, ug5, ug6⟩ := hk1.1.cells2; have uz := hk1.1.frozen; obtain ⟨ud0, ud1, ud2, ud3, ud4, ud5, ud6, ud7, ud8, ud9, ud10, ud11⟩ := hk1.2.1.all; have K1 := Lib.hid hk1; clear hb1 hk1))
  go_quiet (fail)
  go_wp2
  obtain ⟨U, hU⟩ : ∃ U, (w1.drewN nq).drew = U := ⟨_, rfl⟩
  have hku := (K1.out.drewN nq).drew
  rw [hU] at hku
  obtain ⟨qc0, qc1, qc2, qc3, qc4, qc5⟩ := hku.1.cells
  obtain ⟨qg0, qg1, qg2, qg3, qg4, qg5, qg6⟩ := hku.1.cells2
  have qz := hku.1.frozen
  obtain ⟨qd0, qd1, qd2, qd3, qd4, qd5, qd6, qd7, qd8, qd9, qd10, qd11⟩ := hku.2.1.all
  have KU := Lib.hid hku
  have HU := Lib.hid hU
  clear hku hU
  refine region_tail 5 (by kernel_rfl) (by kernel_rfl) U HU.out ?_
  simp only [List.take_succ_cons, List.take_zero, List.drop_succ_cons, List.drop_zero]
  repeat still_step
  refine wpStill_nil ?_
  go_wp2_with (first
    | (go_at_call 11; refine (ha _).mono ?_; rintro en w2 ⟨rfl, hb2⟩; have hk2 := KU.out.below hb2; obtain ⟨vc0, vc1, vc2, vc3, vc4, vc5⟩ := hk2.1.cells; obtain ⟨vg0, vg1, vg2, vg3, vg4, vg5, vg6⟩ := hk2.1.cells2; have vz := hk2.1.frozen; obtain ⟨vd0, vd1, vd2, vd3, vd4, vd5, vd6, vd7, vd8, vd9, vd10, vd11⟩ := hk2.2.1.all; have K2 := Lib.hid hk2; clear hb2 hk2; clear uc0 uc1 uc2 uc3 uc4 uc5 ug0 ug1 ug2 ug3 ug4 ug5 ug6 uz ud0 ud1 ud2 ud3 ud4 ud5 ud6 ud7 ud8 ud9 ud10 ud11; clear qc0 qc1 qc2 qc3 qc4 qc5 qg0 qg1 qg2 qg3 qg4 qg5 qg6 qz qd0 qd1 qd2 qd3 qd4 qd5 qd6 qd7 qd8 qd9 qd10 qd11))
  go_ret
  unfold TakeP
  rw [K.out]
  exact ⟨rfl, K2.out.1, K2.out.2.2⟩
set_option maxHeartbeats 3200000 in
set_option maxRecDepth 100000 in
theorem rtake_multiC {W : World} {b : Nat} {e : EndT} (h : EndP 46 W b e) (hi : InvE e) (x : LieT) (now : Int) (k : timeB now) (kx : lieR x = true) (ka : accB e.p x) (k3 : e.s = 3) (b1 : (e.o.node == x.node) = false) : Calls Try.prog 15 #[.pointer (some ⟨b, 0, none⟩), .agg #[.int .i64 x.node, .int .i64 x.level, .int .i64 x.pod, .int .i64 x.mtu, .int .i64 x.link, .int .i64 x.nonce, .int .i64 x.seen, .int .i64 x.seenLink, .int .i64 x.seenNonce, .int .i64 x.hold, .bool x.rep, .bool x.noOffer], .int .i64 now] W (TakeP 46 W b e x now) := by
  have hb := TK.new h x
  have H := Lib.hid h
  have ht := fun W => (rtime_any now W).mono fun e w' h => (⟨h.1.dec, h.2⟩ : e = .returned (.bool (decide (timeB now))) ∧ w' = W)
  obtain ⟨V, hV⟩ : ∃ V, W.alloc (.cells #[.int .i64 x.node, .int .i64 x.level, .int .i64 x.pod, .int .i64 x.mtu, .int .i64 x.link, .int .i64 x.nonce, .int .i64 x.seen, .int .i64 x.seenLink, .int .i64 x.seenNonce, .int .i64 x.hold, .bool x.rep, .bool x.noOffer] 25) = V := ⟨_, rfl⟩
  rw [hV] at hb
  have HV := Lib.hid hV
  have HB := Lib.hid hb
  rw [decide_eq_true k] at ht
  have hr := rright_lie x
  rw [kx] at hr
  have f := lie_facts kx
  have ha := fun W => (raccepts_any e.p x (by have := hi.port.2.1; omega) (by omega) W).mono fun en w' h => (⟨h.1.dec, h.2⟩ : en = .returned (.bool (decide (accB e.p x))) ∧ Below W.heap.size W w')
  have hfo := fun W (q : EndP 46 W b e) s => rfalls_any q s
  rw [decide_eq_true ka] at ha
  have K : RowKit.Hid (takeE e x now = (6, e)) := by unfold Hid takeE; rw [if_neg (by simpa using k), if_neg (by simp [kx]), if_neg (by simpa using ka), if_pos k3]
  clear k kx ka hV hb h hi f hfo
  go_enter Try.func15, Try.ntmps15
  go_wp2_with (first
    | (go_at_call 36; refine (ht _).mono ?_; rintro en w0 ⟨rfl, rfl⟩)
    | (go_at_call 37; rw [HV.out]; refine (hr _).mono ?_; rintro en w1 ⟨rfl, hb1⟩; have hk1 := HB.out.below hb1; obtain ⟨uc0, uc1, uc2, uc3, uc4, uc5⟩ := hk1.1.cells; obtain ⟨ug0, ug1, ug2, ug3, ug4, ug5, ug6⟩ := hk1.1.cells2; have uz := hk1.1.frozen; obtain ⟨ud0, ud1, ud2, ud3, ud4, ud5, ud6, ud7, ud8, ud9, ud10, ud11⟩ := hk1.2.1.all; have K1 := Lib.hid hk1; clear hb1 hk1))
  go_quiet (fail)
  go_wp2
  obtain ⟨U, hU⟩ : ∃ U, (w1.drewN nq).drew = U := ⟨_, rfl⟩
  have hku := (K1.out.drewN nq).drew
  rw [hU] at hku
  obtain ⟨qc0, qc1, qc2, qc3, qc4, qc5⟩ := hku.1.cells
  obtain ⟨qg0, qg1, qg2, qg3, qg4, qg5, qg6⟩ := hku.1.cells2
  have qz := hku.1.frozen
  obtain ⟨qd0, qd1, qd2, qd3, qd4, qd5, qd6, qd7, qd8, qd9, qd10, qd11⟩ := hku.2.1.all
  have KU := Lib.hid hku
  have HU := Lib.hid hU
  clear hku hU
  refine region_tail 5 (by kernel_rfl) (by kernel_rfl) U HU.out ?_
  simp only [List.take_succ_cons, List.take_zero, List.drop_succ_cons, List.drop_zero]
  repeat still_step
  refine wpStill_nil ?_
  go_wp2_with (go_at_call 11; refine (ha _).mono ?_; rintro en w2 ⟨rfl, hb2⟩; have hk2 := KU.out.below hb2; obtain ⟨vc0, vc1, vc2, vc3, vc4, vc5⟩ := hk2.1.cells; obtain ⟨vg0, vg1, vg2, vg3, vg4, vg5, vg6⟩ := hk2.1.cells2; have vz := hk2.1.frozen; obtain ⟨vd0, vd1, vd2, vd3, vd4, vd5, vd6, vd7, vd8, vd9, vd10, vd11⟩ := hk2.2.1.all; have K2 := Lib.hid hk2; clear hb2 hk2; clear uc0 uc1 uc2 uc3 uc4 uc5 ug0 ug1 ug2 ug3 ug4 ug5 ug6 uz ud0 ud1 ud2 ud3 ud4 ud5 ud6 ud7 ud8 ud9 ud10 ud11; clear qc0 qc1 qc2 qc3 qc4 qc5 qg0 qg1 qg2 qg3 qg4 qg5 qg6 qz qd0 qd1 qd2 qd3 qd4 qd5 qd6 qd7 qd8 qd9 qd10 qd11)
  go_ret
  unfold TakeP
  rw [K.out]
  exact ⟨rfl, K2.out.1, K2.out.2.2⟩
set_option maxHeartbeats 3200000 in
set_option maxRecDepth 100000 in
theorem rtake_twoB {W : World} {b : Nat} {e : EndT} (h : EndP 46 W b e) (hi : InvE e) (x : LieT) (now : Int) (k : timeB now) (kx : lieR x = true) (ka : accB e.p x) (k3 : ¬ e.s = 3) (ko : e.o.node ≠ 0) (b1 : (e.o.node == x.node) = true) (b2 : (e.o.link == x.link) = false) : Calls Try.prog 15 #[.pointer (some ⟨b, 0, none⟩), .agg #[.int .i64 x.node, .int .i64 x.level, .int .i64 x.pod, .int .i64 x.mtu, .int .i64 x.link, .int .i64 x.nonce, .int .i64 x.seen, .int .i64 x.seenLink, .int .i64 x.seenNonce, .int .i64 x.hold, .bool x.rep, .bool x.noOffer], .int .i64 now] W (TakeP 46 W b e x now) := by
  have hb := TK.new h x
  have H := Lib.hid h
  have ht := fun W => (rtime_any now W).mono fun e w' h => (⟨h.1.dec, h.2⟩ : e = .returned (.bool (decide (timeB now))) ∧ w' = W)
  obtain ⟨V, hV⟩ : ∃ V, W.alloc (.cells #[.int .i64 x.node, .int .i64 x.level, .int .i64 x.pod, .int .i64 x.mtu, .int .i64 x.link, .int .i64 x.nonce, .int .i64 x.seen, .int .i64 x.seenLink, .int .i64 x.seenNonce, .int .i64 x.hold, .bool x.rep, .bool x.noOffer] 25) = V := ⟨_, rfl⟩
  rw [hV] at hb
  have HV := Lib.hid hV
  have HB := Lib.hid hb
  rw [decide_eq_true k] at ht
  have hr := rright_lie x
  rw [kx] at hr
  have f := lie_facts kx
  have ha := fun W => (raccepts_any e.p x (by have := hi.port.2.1; omega) (by omega) W).mono fun en w' h => (⟨h.1.dec, h.2⟩ : en = .returned (.bool (decide (accB e.p x))) ∧ Below W.heap.size W w')
  have hfo := fun W (q : EndP 46 W b e) s => rfalls_any q s
  rw [decide_eq_true ka] at ha
  have ks : ¬ sameO e.o x := fun q => by have := q.2; simp [this] at b2
  have e1 : -9223372036854775808 ≤ now + 4 ∧ now + 4 ≤ 9223372036854775807 := by unfold timeB at k; omega
  have K : RowKit.Hid (takeE e x now = (0, { fallE e 3 with till := now + 4 })) := by unfold Hid takeE; rw [if_neg (by simpa using k), if_neg (by simp [kx]), if_neg (by simpa using ka), if_neg k3, if_pos ⟨ko, ks⟩]
  clear k kx ka hV hb h hi f ks
  go_enter Try.func15, Try.ntmps15
  go_wp2_with (first
    | (go_at_call 36; refine (ht _).mono ?_; rintro en w0 ⟨rfl, rfl⟩)
    | (go_at_call 37; rw [HV.out]; refine (hr _).mono ?_; rintro en w1 ⟨rfl, hb1⟩; have hk1 := HB.out.below hb1; obtain ⟨uc0, uc1, uc2, uc3, uc4, uc5⟩ := hk1.1.cells; obtain ⟨ug0, ug1, ug2, ug3, ug4, ug5, ug6⟩ := hk1.1.cells2; have uz := hk1.1.frozen; obtain ⟨ud0, ud1, ud2, ud3, ud4, ud5, ud6, ud7, ud8, ud9, ud10, ud11⟩ := hk1.2.1.all; have K1 := Lib.hid hk1; clear hb1 hk1))
  go_quiet (fail)
  go_wp2
  obtain ⟨U, hU⟩ : ∃ U, (w1.drewN nq).drew = U := ⟨_, rfl⟩
  have hku := (K1.out.drewN nq).drew
  rw [hU] at hku
  obtain ⟨qc0, qc1, qc2, qc3, qc4, qc5⟩ := hku.1.cells
  obtain ⟨qg0, qg1, qg2, qg3, qg4, qg5, qg6⟩ := hku.1.cells2
  have qz := hku.1.frozen
  obtain ⟨qd0, qd1, qd2, qd3, qd4, qd5, qd6, qd7, qd8, qd9, qd10, qd11⟩ := hku.2.1.all
  have KU := Lib.hid hku
  have HU := Lib.hid hU
  clear hku hU
  refine region_tail 5 (by kernel_rfl) (by kernel_rfl) U HU.out ?_
  simp only [List.take_succ_cons, List.take_zero, List.drop_succ_cons, List.drop_zero]
  repeat still_step
  refine wpStill_nil ?_
  go_wp2_with (first
    | (go_at_call 11; refine (ha _).mono ?_; rintro en w2 ⟨rfl, hb2⟩; have hk2 := KU.out.below hb2; obtain ⟨vc0, vc1, vc2, vc3, vc4, vc5⟩ := hk2.1.cells; obtain ⟨vg0, vg1, vg2, vg3, vg4, vg5, vg6⟩ := hk2.1.cells2; have vz := hk2.1.frozen; obtain ⟨vd0, vd1, vd2, vd3, vd4, vd5, vd6, vd7, vd8, vd9, vd10, vd11⟩ := hk2.2.1.all; have K2 := Lib.hid hk2; clear hb2 hk2; clear uc0 uc1 uc2 uc3 uc4 uc5 ug0 ug1 ug2 ug3 ug4 ug5 ug6 uz ud0 ud1 ud2 ud3 ud4 ud5 ud6 ud7 ud8 ud9 ud10 ud11; clear qc0 qc1 qc2 qc3 qc4 qc5 qg0 qg1 qg2 qg3 qg4 qg5 qg6 qz qd0 qd1 qd2 qd3 qd4 qd5 qd6 qd7 qd8 qd9 qd10 qd11)
    | (go_at_call 38; refine (hfo _ K2.out.1 _).mono ?_; rintro en w4 ⟨rfl, h41, h42⟩; obtain ⟨a0, a1, a2, a3, a4, a5⟩ := h41.cells; obtain ⟨a6, a7, a8, a9, a10, a11, a12⟩ := h41.cells2; have az := h41.frozen; have H41 := Lib.hid h41; have H42 := Lib.hid h42; clear h41 h42))
  go_ret
  unfold TakeP
  rw [K.out]
  exact ⟨rfl, heap_setCell_same _ b _ _ _ _ H41.out, (K2.out.2.2.trans H42.out).set _ _⟩
set_option maxHeartbeats 3200000 in
set_option maxRecDepth 100000 in
theorem rtake_twoC {W : World} {b : Nat} {e : EndT} (h : EndP 46 W b e) (hi : InvE e) (x : LieT) (now : Int) (k : timeB now) (kx : lieR x = true) (ka : accB e.p x) (k3 : ¬ e.s = 3) (ko : e.o.node ≠ 0) (b1 : (e.o.node == x.node) = false) : Calls Try.prog 15 #[.pointer (some ⟨b, 0, none⟩), .agg #[.int .i64 x.node, .int .i64 x.level, .int .i64 x.pod, .int .i64 x.mtu, .int .i64 x.link, .int .i64 x.nonce, .int .i64 x.seen, .int .i64 x.seenLink, .int .i64 x.seenNonce, .int .i64 x.hold, .bool x.rep, .bool x.noOffer], .int .i64 now] W (TakeP 46 W b e x now) := by
  have hb := TK.new h x
  have H := Lib.hid h
  have ht := fun W => (rtime_any now W).mono fun e w' h => (⟨h.1.dec, h.2⟩ : e = .returned (.bool (decide (timeB now))) ∧ w' = W)
  obtain ⟨V, hV⟩ : ∃ V, W.alloc (.cells #[.int .i64 x.node, .int .i64 x.level, .int .i64 x.pod, .int .i64 x.mtu, .int .i64 x.link, .int .i64 x.nonce, .int .i64 x.seen, .int .i64 x.seenLink, .int .i64 x.seenNonce, .int .i64 x.hold, .bool x.rep, .bool x.noOffer] 25) = V := ⟨_, rfl⟩
  rw [hV] at hb
  have HV := Lib.hid hV
  have HB := Lib.hid hb
  rw [decide_eq_true k] at ht
  have hr := rright_lie x
  rw [kx] at hr
  have f := lie_facts kx
  have ha := fun W => (raccepts_any e.p x (by have := hi.port.2.1; omega) (by omega) W).mono fun en w' h => (⟨h.1.dec, h.2⟩ : en = .returned (.bool (decide (accB e.p x))) ∧ Below W.heap.size W w')
  have hfo := fun W (q : EndP 46 W b e) s => rfalls_any q s
  rw [decide_eq_true ka] at ha
  have ks : ¬ sameO e.o x := fun q => by have := q.1; simp [this] at b1
  have e1 : -9223372036854775808 ≤ now + 4 ∧ now + 4 ≤ 9223372036854775807 := by unfold timeB at k; omega
  have K : RowKit.Hid (takeE e x now = (0, { fallE e 3 with till := now + 4 })) := by unfold Hid takeE; rw [if_neg (by simpa using k), if_neg (by simp [kx]), if_neg (by simpa using ka), if_neg k3, if_pos ⟨ko, ks⟩]
  clear k kx ka hV hb h hi f ks
  go_enter Try.func15, Try.ntmps15
  go_wp2_with (first
    | (go_at_call 36; refine (ht _).mono ?_; rintro en w0 ⟨rfl, rfl⟩)
    | (go_at_call 37; rw [HV.out]; refine (hr _).mono ?_; rintro en w1 ⟨rfl, hb1⟩; have hk1 := HB.out.below hb1; obtain ⟨uc0, uc1, uc2, uc3, uc4, uc5⟩ := hk1.1.cells; obtain ⟨ug0, ug1, ug2, ug3, ug4, ug5, ug6⟩ := hk1.1.cells2; have uz := hk1.1.frozen; obtain ⟨ud0, ud1, ud2, ud3, ud4, ud5, ud6, ud7, ud8, ud9, ud10, ud11⟩ := hk1.2.1.all; have K1 := Lib.hid hk1; clear hb1 hk1))
  go_quiet (fail)
  go_wp2
  obtain ⟨U, hU⟩ : ∃ U, (w1.drewN nq).drew = U := ⟨_, rfl⟩
  have hku := (K1.out.drewN nq).drew
  rw [hU] at hku
  obtain ⟨qc0, qc1, qc2, qc3, qc4, qc5⟩ := hku.1.cells
  obtain ⟨qg0, qg1, qg2, qg3, qg4, qg5, qg6⟩ := hku.1.cells2
  have qz := hku.1.frozen
  obtain ⟨qd0, qd1, qd2, qd3, qd4, qd5, qd6, qd7, qd8, qd9, qd10, qd11⟩ := hku.2.1.all
  have KU := Lib.hid hku
  have HU := Lib.hid hU
  clear hku hU
  refine region_tail 5 (by kernel_rfl) (by kernel_rfl) U HU.out ?_
  simp only [List.take_succ_cons, List.take_zero, List.drop_succ_cons, List.drop_zero]
  repeat still_step
  refine wpStill_nil ?_
  go_wp2_with (first
    | (go_at_call 11; refine (ha _).mono ?_; rintro en w2 ⟨rfl, hb2⟩; have hk2 := KU.out.below hb2; obtain ⟨vc0, vc1, vc2, vc3, vc4, vc5⟩ := hk2.1.cells; obtain ⟨vg0, vg1, vg2, vg3, vg4, vg5, vg6⟩ := hk2.1.cells2; have vz := hk2.1.frozen; obtain ⟨vd0, vd1, vd2, vd3, vd4, vd5, vd6, vd7, vd8, vd9, vd10, vd11⟩ := hk2.2.1.all; have K2 := Lib.hid hk2; clear hb2 hk2; clear uc0 uc1 uc2 uc3 uc4 uc5 ug0 ug1 ug2 ug3 ug4 ug5 ug6 uz ud0 ud1 ud2 ud3 ud4 ud5 ud6 ud7 ud8 ud9 ud10 ud11; clear qc0 qc1 qc2 qc3 qc4 qc5 qg0 qg1 qg2 qg3 qg4 qg5 qg6 qz qd0 qd1 qd2 qd3 qd4 qd5 qd6 qd7 qd8 qd9 qd10 qd11)
    | (go_at_call 38; refine (hfo _ K2.out.1 _).mono ?_; rintro en w4 ⟨rfl, h41, h42⟩; obtain ⟨a0, a1, a2, a3, a4, a5⟩ := h41.cells; obtain ⟨a6, a7, a8, a9, a10, a11, a12⟩ := h41.cells2; have az := h41.frozen; have H41 := Lib.hid h41; have H42 := Lib.hid h42; clear h41 h42))
  go_ret
  unfold TakeP
  rw [K.out]
  exact ⟨rfl, heap_setCell_same _ b _ _ _ _ H41.out, (K2.out.2.2.trans H42.out).set _ _⟩
end Go.Proofs.Yticbfmbinopjcaa
