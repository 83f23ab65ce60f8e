/-
  WHAT AN END DOES WITH WHAT IT HEARS: Take.
-/
import Derived.Test.YticbfmbinopjcaaLDo
namespace Go.Proofs.Yticbfmbinopjcaa
set_option linter.unusedSimpArgs false
set_option linter.unusedVariables false
open Go.RowKit
theorem lieP_pk (n₀ : Nat) (W : World) (x : LieT) : Pk n₀ W (lieP x) none none none 0 0 0 :=
  ⟨fun h => by simp [lieP, TieT.zero] at h, fun h => by simp [lieP, TieT.zero] at h, fun h => by simp [lieP] at h, ⟨by simp [lieP, TieT.zero], by simp [lieP, TieT.zero], by unfold maxLen; omega⟩, ⟨by simp [lieP, TieT.zero], by simp [lieP, TieT.zero], by unfold maxLen; omega⟩, ⟨by simp [lieP], by simp [lieP], by unfold maxLen; omega⟩, fun y hy => by simp [lieP, TieT.zero] at hy⟩
theorem right_lie (x : LieT) (W : World) : Calls Try.prog 31 #[.agg #[.int .i64 1, .int .i64 x.node, .int .i64 x.level, .int .i64 x.pod, .int .i64 x.mtu, .int .i64 x.link, .int .i64 x.nonce, .int .i64 x.seen, .int .i64 x.seenLink, .int .i64 x.seenNonce, .int .i64 x.hold, .bool x.rep, .bool x.noOffer, .int .i64 0, .int .i64 0, .int .i64 0, .int .i64 0, .int .i64 0, .int .i64 0, .int .i64 0, .bool false, .slice none 0 0, .slice none 0 0, .int .i64 0, .int .i64 0, .int .i64 0, .int .i64 0, .int .i64 0, .int .i64 0, .int .i64 0, .int .i64 0, .slice none 0 0]] W fun e w' => e = .returned (.bool (lieR x)) ∧ Below W.heap.size W w' := by
  have h := wright_any (lieP x) none none none 0 0 0 W (lieP_pk _ _ _)
  rw [lieP_right] at h
  exact h
/-- How memory stands while an end takes something: the end, the lie in a box. -/
def TK (T : TypeId) (W0 : World) (b k : Nat) (e : EndT) (x : LieT) (W : World) : Prop := EndP T W b e ∧ LieP W k x ∧ But b W0 W
theorem TK.below {T : TypeId} {W0 W W' : World} {b k : Nat} {e : EndT} {x : LieT} (h : TK T W0 b k e x W) (q : Below W.heap.size W W') : TK T W0 b k e x W' := ⟨h.1.same (q.block b h.1.lt), h.2.1.below q, h.2.2.trans (But.of_below q)⟩
theorem TK.drew {T : TypeId} {W0 W : World} {b k : Nat} {e : EndT} {x : LieT} (h : TK T W0 b k e x W) : TK T W0 b k e x W.drew := ⟨h.1, h.2.1, h.2.2.drewN 1⟩
theorem TK.new {T : TypeId} {W : World} {b : Nat} {e : EndT} (h : EndP T W b e) (x : LieT) : TK T W b W.heap.size e x (W.alloc (.cells #[.int .i64 x.node, .int .i64 x.level, .int .i64 x.pod, .int .i64 x.mtu, .int .i64 x.link, .int .i64 x.nonce, .int .i64 x.seen, .int .i64 x.seenLink, .int .i64 x.seenNonce, .int .i64 x.hold, .bool x.rep, .bool x.noOffer] 25)) :=
  ⟨h.same (heap_alloc_old W _ h.lt), LieP.new W x, (But.refl b W).alloc _⟩
def TakeP (T : TypeId) (W : World) (b : Nat) (e : EndT) (x : LieT) (now : Int) (en : Ending) (W' : World) : Prop := en = .returned (.int .i64 (takeE e x now).1) ∧ EndP T W' b (takeE e x now).2 ∧ But b W W'
set_option maxHeartbeats 3200000 in
set_option maxRecDepth 100000 in
theorem take_arg {W : World} {b : Nat} {e : EndT} (h : EndP 56 W b e) (hi : InvE e) (x : LieT) (now : Int) (k : ¬ timeB now) : Calls Try.prog 14 #[.pointer (some ⟨b, 0, none⟩), .agg #[.int .i64 x.node, .int .i64 x.level, .int .i64 x.pod, .int .i64 x.mtu, .int .i64 x.link, .int .i64 x.nonce, .int .i64 x.seen, .int .i64 x.seenLink, .int .i64 x.seenNonce, .int .i64 x.hold, .bool x.rep, .bool x.noOffer], .int .i64 now] W (TakeP 56 W b e x now) := by
  have hb := TK.new h x
  have H := Lib.hid h
  have ht := fun W => (time_any now W).mono fun e w' h => (⟨h.1.dec, h.2⟩ : e = .returned (.bool (decide (timeB now))) ∧ w' = W)
  obtain ⟨V, hV⟩ : ∃ V, W.alloc (.cells #[.int .i64 x.node, .int .i64 x.level, .int .i64 x.pod, .int .i64 x.mtu, .int .i64 x.link, .int .i64 x.nonce, .int .i64 x.seen, .int .i64 x.seenLink, .int .i64 x.seenNonce, .int .i64 x.hold, .bool x.rep, .bool x.noOffer] 25) = V := ⟨_, rfl⟩
  rw [hV] at hb
  have HV := Lib.hid hV
  have HB := Lib.hid hb
  rw [decide_eq_false k] at ht
  have K : RowKit.Hid (takeE e x now = (1, e)) := by unfold Hid takeE; rw [if_pos k]
  clear k hV hb h hi
  go_enter Try.func14, Try.ntmps14
  go_wp2_with (go_at_call 30; refine (ht _).mono ?_; rintro en w0 ⟨rfl, rfl⟩)
  go_ret
  unfold TakeP
  rw [K.out, HV.out]
  exact ⟨rfl, HB.out.1, HB.out.2.2⟩
set_option maxHeartbeats 3200000 in
set_option maxRecDepth 100000 in
theorem take_form {W : World} {b : Nat} {e : EndT} (h : EndP 56 W b e) (hi : InvE e) (x : LieT) (now : Int) (k : timeB now) (kx : lieR x = false) : Calls Try.prog 14 #[.pointer (some ⟨b, 0, none⟩), .agg #[.int .i64 x.node, .int .i64 x.level, .int .i64 x.pod, .int .i64 x.mtu, .int .i64 x.link, .int .i64 x.nonce, .int .i64 x.seen, .int .i64 x.seenLink, .int .i64 x.seenNonce, .int .i64 x.hold, .bool x.rep, .bool x.noOffer], .int .i64 now] W (TakeP 56 W b e x now) := by
  have hb := TK.new h x
  have H := Lib.hid h
  have ht := fun W => (time_any now W).mono fun e w' h => (⟨h.1.dec, h.2⟩ : e = .returned (.bool (decide (timeB now))) ∧ w' = W)
  obtain ⟨V, hV⟩ : ∃ V, W.alloc (.cells #[.int .i64 x.node, .int .i64 x.level, .int .i64 x.pod, .int .i64 x.mtu, .int .i64 x.link, .int .i64 x.nonce, .int .i64 x.seen, .int .i64 x.seenLink, .int .i64 x.seenNonce, .int .i64 x.hold, .bool x.rep, .bool x.noOffer] 25) = V := ⟨_, rfl⟩
  rw [hV] at hb
  have HV := Lib.hid hV
  have HB := Lib.hid hb
  rw [decide_eq_true k] at ht
  have hr := right_lie x
  rw [kx] at hr
  have K : RowKit.Hid (takeE e x now = (2, e)) := by unfold Hid takeE; rw [if_neg (by simpa using k), if_pos kx]
  clear k kx hV hb h hi
  go_enter Try.func14, Try.ntmps14
  go_wp2_with (first
    | (go_at_call 30; refine (ht _).mono ?_; rintro en w0 ⟨rfl, rfl⟩)
    | (go_at_call 31; rw [HV.out]; refine (hr _).mono ?_; rintro en w1 ⟨rfl, hb1⟩; have K1 := Lib.hid (HB.out.below hb1); clear hb1))
  go_ret
  unfold TakeP
  rw [K.out]
  exact ⟨rfl, K1.out.1, K1.out.2.2⟩
set_option maxHeartbeats 3200000 in
set_option maxRecDepth 100000 in
theorem take_old {W : World} {b : Nat} {e : EndT} (h : EndP 56 W b e) (hi : InvE e) (x : LieT) (now : Int) (k : timeB now) (kx : lieR x = true) (ka : ¬ accB e.p x) : Calls Try.prog 14 #[.pointer (some ⟨b, 0, none⟩), .agg #[.int .i64 x.node, .int .i64 x.level, .int .i64 x.pod, .int .i64 x.mtu, .int .i64 x.link, .int .i64 x.nonce, .int .i64 x.seen, .int .i64 x.seenLink, .int .i64 x.seenNonce, .int .i64 x.hold, .bool x.rep, .bool x.noOffer], .int .i64 now] W (TakeP 56 W b e x now) := by
  have hb := TK.new h x
  have H := Lib.hid h
  have ht := fun W => (time_any now W).mono fun e w' h => (⟨h.1.dec, h.2⟩ : e = .returned (.bool (decide (timeB now))) ∧ w' = W)
  obtain ⟨V, hV⟩ : ∃ V, W.alloc (.cells #[.int .i64 x.node, .int .i64 x.level, .int .i64 x.pod, .int .i64 x.mtu, .int .i64 x.link, .int .i64 x.nonce, .int .i64 x.seen, .int .i64 x.seenLink, .int .i64 x.seenNonce, .int .i64 x.hold, .bool x.rep, .bool x.noOffer] 25) = V := ⟨_, rfl⟩
  rw [hV] at hb
  have HV := Lib.hid hV
  have HB := Lib.hid hb
  rw [decide_eq_true k] at ht
  have hr := right_lie x
  rw [kx] at hr
  have f := lie_facts kx
  have ha := fun W => (accepts_any e.p x (by have := hi.port.2.1; omega) (by omega) W).mono fun en w' h => (⟨h.1.dec, h.2⟩ : en = .returned (.bool (decide (accB e.p x))) ∧ Below W.heap.size W w')
  have hfr := fun W (q : EndP 56 W b e) => from_any q hi x (by omega)
  have hhe := fun W (q : EndP 56 W b e) => hears_any q hi
  have hfo := fun W (q : EndP 56 W b e) s => forget_any q s
  rw [decide_eq_false ka] at ha
  by_cases ks : sameO e.o x
  · rw [decide_eq_true ks] at hfr
    have K : RowKit.Hid (takeE e x now = (6, fallE e 0)) := by unfold Hid takeE; rw [if_neg (by simpa using k), if_neg (by simp [kx]), if_pos ka, if_pos ks]
    clear k kx ka ks hV hb h hi f hhe
    go_enter Try.func14, Try.ntmps14
    go_wp2_with (first
      | (go_at_call 30; refine (ht _).mono ?_; rintro en w0 ⟨rfl, rfl⟩)
      | (go_at_call 31; rw [HV.out]; refine (hr _).mono ?_; rintro en w1 ⟨rfl, hb1⟩; have hk1 := HB.out.below hb1; obtain ⟨U, hU⟩ : ∃ U, w1.drew = U := ⟨_, rfl⟩; have hku := hk1.drew; rw [hU] at hku; obtain ⟨uc0, uc1, uc2, uc3, uc4, uc5⟩ := hku.1.cells; obtain ⟨ug0, ug1, ug2, ug3, ug4, ug5, ug6⟩ := hku.1.cells2; have uz := hku.1.frozen; obtain ⟨ud0, ud1, ud2, ud3, ud4, ud5, ud6, ud7, ud8, ud9, ud10, ud11⟩ := hku.2.1.all; have KU := Lib.hid hku; have HU := Lib.hid hU; clear hb1 hk1 hku hU))
    refine region_tail 5 (by kernel_rfl) (by kernel_rfl) U HU.out ?_
    simp only [List.take_succ_cons, List.take_zero, List.drop_succ_cons, List.drop_zero]
    repeat still_step
    refine wpStill_nil ?_
    go_wp2_with (first
      | (go_at_call 10; refine (ha _).mono ?_; rintro en w2 ⟨rfl, hb2⟩; have hk2 := KU.out.below hb2; obtain ⟨vc0, vc1, vc2, vc3, vc4, vc5⟩ := hk2.1.cells; obtain ⟨vg0, vg1, vg2, vg3, vg4, vg5, vg6⟩ := hk2.1.cells2; have vz := hk2.1.frozen; obtain ⟨vd0, vd1, vd2, vd3, vd4, vd5, vd6, vd7, vd8, vd9, vd10, vd11⟩ := hk2.2.1.all; have K2 := Lib.hid hk2; clear hb2 hk2; clear uc0 uc1 uc2 uc3 uc4 uc5 ug0 ug1 ug2 ug3 ug4 ug5 ug6 uz ud0 ud1 ud2 ud3 ud4 ud5 ud6 ud7 ud8 ud9 ud10 ud11)
      | (go_at_call 32; refine (hfr _ K2.out.1).mono ?_; rintro en w3 ⟨rfl, hb3⟩; have hk3 := K2.out.below hb3; obtain ⟨xc0, xc1, xc2, xc3, xc4, xc5⟩ := hk3.1.cells; obtain ⟨xg0, xg1, xg2, xg3, xg4, xg5, xg6⟩ := hk3.1.cells2; have xz := hk3.1.frozen; obtain ⟨yd0, yd1, yd2, yd3, yd4, yd5, yd6, yd7, yd8, yd9, yd10, yd11⟩ := hk3.2.1.all; have K3 := Lib.hid hk3; clear hb3 hk3; clear vc0 vc1 vc2 vc3 vc4 vc5 vg0 vg1 vg2 vg3 vg4 vg5 vg6 vz vd0 vd1 vd2 vd3 vd4 vd5 vd6 vd7 vd8 vd9 vd10 vd11)
      | (go_at_call 33; refine (hfo _ K3.out.1 _).mono ?_; rintro en w4 ⟨rfl, h41, h42⟩; have H41 := Lib.hid h41; have H42 := Lib.hid h42; clear h41 h42))
    go_ret
    unfold TakeP
    rw [K.out]
    exact ⟨rfl, H41.out, K3.out.2.2.trans H42.out⟩
  · rw [decide_eq_false ks] at hfr
    have K : RowKit.Hid (takeE e x now = (6, e)) := by unfold Hid takeE; rw [if_neg (by simpa using k), if_neg (by simp [kx]), if_pos ka, if_neg ks]
    clear k kx ka ks hV hb h hi f hhe hfo
    go_enter Try.func14, Try.ntmps14
    go_wp2_with (first
      | (go_at_call 30; refine (ht _).mono ?_; rintro en w0 ⟨rfl, rfl⟩)
      | (go_at_call 31; rw [HV.out]; refine (hr _).mono ?_; rintro en w1 ⟨rfl, hb1⟩; have hk1 := HB.out.below hb1; obtain ⟨U, hU⟩ : ∃ U, w1.drew = U := ⟨_, rfl⟩; have hku := hk1.drew; rw [hU] at hku; obtain ⟨uc0, uc1, uc2, uc3, uc4, uc5⟩ := hku.1.cells; obtain ⟨ug0, ug1, ug2, ug3, ug4, ug5, ug6⟩ := hku.1.cells2; have uz := hku.1.frozen; obtain ⟨ud0, ud1, ud2, ud3, ud4, ud5, ud6, ud7, ud8, ud9, ud10, ud11⟩ := hku.2.1.all; have KU := Lib.hid hku; have HU := Lib.hid hU; clear hb1 hk1 hku hU))
    refine region_tail 5 (by kernel_rfl) (by kernel_rfl) U HU.out ?_
    simp only [List.take_succ_cons, List.take_zero, List.drop_succ_cons, List.drop_zero]
    repeat still_step
    refine wpStill_nil ?_
    go_wp2_with (first
      | (go_at_call 10; refine (ha _).mono ?_; rintro en w2 ⟨rfl, hb2⟩; have hk2 := KU.out.below hb2; obtain ⟨vc0, vc1, vc2, vc3, vc4, vc5⟩ := hk2.1.cells; obtain ⟨vg0, vg1, vg2, vg3, vg4, vg5, vg6⟩ := hk2.1.cells2; have vz := hk2.1.frozen; obtain ⟨vd0, vd1, vd2, vd3, vd4, vd5, vd6, vd7, vd8, vd9, vd10, vd11⟩ := hk2.2.1.all; have K2 := Lib.hid hk2; clear hb2 hk2; clear uc0 uc1 uc2 uc3 uc4 uc5 ug0 ug1 ug2 ug3 ug4 ug5 ug6 uz ud0 ud1 ud2 ud3 ud4 ud5 ud6 ud7 ud8 ud9 ud10 ud11)
      | (go_at_call 32; refine (hfr _ K2.out.1).mono ?_; rintro en w3 ⟨rfl, hb3⟩; have hk3 := K2.out.below hb3; obtain ⟨xc0, xc1, xc2, xc3, xc4, xc5⟩ := hk3.1.cells; obtain ⟨xg0, xg1, xg2, xg3, xg4, xg5, xg6⟩ := hk3.1.cells2; have xz := hk3.1.frozen; obtain ⟨yd0, yd1, yd2, yd3, yd4, yd5, yd6, yd7, yd8, yd9, yd10, yd11⟩ := hk3.2.1.all; have K3 := Lib.hid hk3; clear hb3 hk3; clear vc0 vc1 vc2 vc3 vc4 vc5 vg0 vg1 vg2 vg3 vg4 vg5 vg6 vz vd0 vd1 vd2 vd3 vd4 vd5 vd6 vd7 vd8 vd9 vd10 vd11))
    go_ret
    unfold TakeP
    rw [K.out]
    exact ⟨rfl, K3.out.1, K3.out.2.2⟩
set_option maxHeartbeats 3200000 in
set_option maxRecDepth 100000 in
theorem take_multi {W : World} {b : Nat} {e : EndT} (h : EndP 56 W b e) (hi : InvE e) (x : LieT) (now : Int) (k : timeB now) (kx : lieR x = true) (ka : accB e.p x) (k3 : e.s = 3) : Calls Try.prog 14 #[.pointer (some ⟨b, 0, none⟩), .agg #[.int .i64 x.node, .int .i64 x.level, .int .i64 x.pod, .int .i64 x.mtu, .int .i64 x.link, .int .i64 x.nonce, .int .i64 x.seen, .int .i64 x.seenLink, .int .i64 x.seenNonce, .int .i64 x.hold, .bool x.rep, .bool x.noOffer], .int .i64 now] W (TakeP 56 W b e x now) := by
  have hb := TK.new h x
  have H := Lib.hid h
  have ht := fun W => (time_any now W).mono fun e w' h => (⟨h.1.dec, h.2⟩ : e = .returned (.bool (decide (timeB now))) ∧ w' = W)
  obtain ⟨V, hV⟩ : ∃ V, W.alloc (.cells #[.int .i64 x.node, .int .i64 x.level, .int .i64 x.pod, .int .i64 x.mtu, .int .i64 x.link, .int .i64 x.nonce, .int .i64 x.seen, .int .i64 x.seenLink, .int .i64 x.seenNonce, .int .i64 x.hold, .bool x.rep, .bool x.noOffer] 25) = V := ⟨_, rfl⟩
  rw [hV] at hb
  have HV := Lib.hid hV
  have HB := Lib.hid hb
  rw [decide_eq_true k] at ht
  have hr := right_lie x
  rw [kx] at hr
  have f := lie_facts kx
  have ha := fun W => (accepts_any e.p x (by have := hi.port.2.1; omega) (by omega) W).mono fun en w' h => (⟨h.1.dec, h.2⟩ : en = .returned (.bool (decide (accB e.p x))) ∧ Below W.heap.size W w')
  have hfr := fun W (q : EndP 56 W b e) => from_any q hi x (by omega)
  have hhe := fun W (q : EndP 56 W b e) => hears_any q hi
  have hfo := fun W (q : EndP 56 W b e) s => forget_any q s
  rw [decide_eq_true ka] at ha
  have K : RowKit.Hid (takeE e x now = (6, e)) := by unfold Hid takeE; rw [if_neg (by simpa using k), if_neg (by simp [kx]), if_neg (by simpa using ka), if_pos k3]
  clear k kx ka hV hb h hi f hhe hfo hfr
  go_enter Try.func14, Try.ntmps14
  go_wp2_with (first
    | (go_at_call 30; refine (ht _).mono ?_; rintro en w0 ⟨rfl, rfl⟩)
    | (go_at_call 31; rw [HV.out]; refine (hr _).mono ?_; rintro en w1 ⟨rfl, hb1⟩; have hk1 := HB.out.below hb1; obtain ⟨U, hU⟩ : ∃ U, w1.drew = U := ⟨_, rfl⟩; have hku := hk1.drew; rw [hU] at hku; obtain ⟨uc0, uc1, uc2, uc3, uc4, uc5⟩ := hku.1.cells; obtain ⟨ug0, ug1, ug2, ug3, ug4, ug5, ug6⟩ := hku.1.cells2; have uz := hku.1.frozen; obtain ⟨ud0, ud1, ud2, ud3, ud4, ud5, ud6, ud7, ud8, ud9, ud10, ud11⟩ := hku.2.1.all; have KU := Lib.hid hku; have HU := Lib.hid hU; clear hb1 hk1 hku hU))
  refine region_tail 5 (by kernel_rfl) (by kernel_rfl) U HU.out ?_
  simp only [List.take_succ_cons, List.take_zero, List.drop_succ_cons, List.drop_zero]
  repeat still_step
  refine wpStill_nil ?_
  go_wp2_with (go_at_call 10; refine (ha _).mono ?_; rintro en w2 ⟨rfl, hb2⟩; have hk2 := KU.out.below hb2; obtain ⟨vc0, vc1, vc2, vc3, vc4, vc5⟩ := hk2.1.cells; obtain ⟨vg0, vg1, vg2, vg3, vg4, vg5, vg6⟩ := hk2.1.cells2; have vz := hk2.1.frozen; obtain ⟨vd0, vd1, vd2, vd3, vd4, vd5, vd6, vd7, vd8, vd9, vd10, vd11⟩ := hk2.2.1.all; have K2 := Lib.hid hk2; clear hb2 hk2; clear uc0 uc1 uc2 uc3 uc4 uc5 ug0 ug1 ug2 ug3 ug4 ug5 ug6 uz ud0 ud1 ud2 ud3 ud4 ud5 ud6 ud7 ud8 ud9 ud10 ud11)
  go_ret
  unfold TakeP
  rw [K.out]
  exact ⟨rfl, K2.out.1, K2.out.2.2⟩
set_option maxHeartbeats 3200000 in
set_option maxRecDepth 100000 in
theorem take_two {W : World} {b : Nat} {e : EndT} (h : EndP 56 W b e) (hi : InvE e) (x : LieT) (now : Int) (k : timeB now) (kx : lieR x = true) (ka : accB e.p x) (k3 : ¬ e.s = 3) (ko : e.o.node ≠ 0) (ks : ¬ sameO e.o x) : Calls Try.prog 14 #[.pointer (some ⟨b, 0, none⟩), .agg #[.int .i64 x.node, .int .i64 x.level, .int .i64 x.pod, .int .i64 x.mtu, .int .i64 x.link, .int .i64 x.nonce, .int .i64 x.seen, .int .i64 x.seenLink, .int .i64 x.seenNonce, .int .i64 x.hold, .bool x.rep, .bool x.noOffer], .int .i64 now] W (TakeP 56 W b e x now) := by
  have hb := TK.new h x
  have H := Lib.hid h
  have ht := fun W => (time_any now W).mono fun e w' h => (⟨h.1.dec, h.2⟩ : e = .returned (.bool (decide (timeB now))) ∧ w' = W)
  obtain ⟨V, hV⟩ : ∃ V, W.alloc (.cells #[.int .i64 x.node, .int .i64 x.level, .int .i64 x.pod, .int .i64 x.mtu, .int .i64 x.link, .int .i64 x.nonce, .int .i64 x.seen, .int .i64 x.seenLink, .int .i64 x.seenNonce, .int .i64 x.hold, .bool x.rep, .bool x.noOffer] 25) = V := ⟨_, rfl⟩
  rw [hV] at hb
  have HV := Lib.hid hV
  have HB := Lib.hid hb
  rw [decide_eq_true k] at ht
  have hr := right_lie x
  rw [kx] at hr
  have f := lie_facts kx
  have ha := fun W => (accepts_any e.p x (by have := hi.port.2.1; omega) (by omega) W).mono fun en w' h => (⟨h.1.dec, h.2⟩ : en = .returned (.bool (decide (accB e.p x))) ∧ Below W.heap.size W w')
  have hfr := fun W (q : EndP 56 W b e) => from_any q hi x (by omega)
  have hhe := fun W (q : EndP 56 W b e) => hears_any q hi
  have hfo := fun W (q : EndP 56 W b e) s => forget_any q s
  rw [decide_eq_true ka] at ha
  rw [decide_eq_true ko] at hhe
  rw [decide_eq_false ks] at hfr
  have e1 : -9223372036854775808 ≤ now + 4 ∧ now + 4 ≤ 9223372036854775807 := by unfold timeB at k; omega
  have K : RowKit.Hid (takeE e x now = (0, { fallE e 3 with till := now + 4 })) := by unfold Hid takeE; rw [if_neg (by simpa using k), if_neg (by simp [kx]), if_neg (by simpa using ka), if_neg k3, if_pos ⟨ko, ks⟩]
  clear k kx ka hV hb h hi f ko ks
  go_enter Try.func14, Try.ntmps14
  go_wp2_with (first
    | (go_at_call 30; refine (ht _).mono ?_; rintro en w0 ⟨rfl, rfl⟩)
    | (go_at_call 31; rw [HV.out]; refine (hr _).mono ?_; rintro en w1 ⟨rfl, hb1⟩; have hk1 := HB.out.below hb1; obtain ⟨U, hU⟩ : ∃ U, w1.drew = U := ⟨_, rfl⟩; have hku := hk1.drew; rw [hU] at hku; obtain ⟨uc0, uc1, uc2, uc3, uc4, uc5⟩ := hku.1.cells; obtain ⟨ug0, ug1, ug2, ug3, ug4, ug5, ug6⟩ := hku.1.cells2; have uz := hku.1.frozen; obtain ⟨ud0, ud1, ud2, ud3, ud4, ud5, ud6, ud7, ud8, ud9, ud10, ud11⟩ := hku.2.1.all; have KU := Lib.hid hku; have HU := Lib.hid hU; clear hb1 hk1 hku hU))
  refine region_tail 5 (by kernel_rfl) (by kernel_rfl) U HU.out ?_
  simp only [List.take_succ_cons, List.take_zero, List.drop_succ_cons, List.drop_zero]
  repeat still_step
  refine wpStill_nil ?_
  go_wp2_with (first
    | (go_at_call 10; refine (ha _).mono ?_; rintro en w2 ⟨rfl, hb2⟩; have hk2 := KU.out.below hb2; obtain ⟨vc0, vc1, vc2, vc3, vc4, vc5⟩ := hk2.1.cells; obtain ⟨vg0, vg1, vg2, vg3, vg4, vg5, vg6⟩ := hk2.1.cells2; have vz := hk2.1.frozen; obtain ⟨vd0, vd1, vd2, vd3, vd4, vd5, vd6, vd7, vd8, vd9, vd10, vd11⟩ := hk2.2.1.all; have K2 := Lib.hid hk2; clear hb2 hk2; clear uc0 uc1 uc2 uc3 uc4 uc5 ug0 ug1 ug2 ug3 ug4 ug5 ug6 uz ud0 ud1 ud2 ud3 ud4 ud5 ud6 ud7 ud8 ud9 ud10 ud11)
    | (go_at_call 34; refine (hhe _ K2.out.1).mono ?_; rintro en w5 ⟨rfl, rfl⟩)
    | (go_at_call 32; refine (hfr _ K2.out.1).mono ?_; rintro en w3 ⟨rfl, hb3⟩; have hk3 := K2.out.below hb3; obtain ⟨xc0, xc1, xc2, xc3, xc4, xc5⟩ := hk3.1.cells; obtain ⟨xg0, xg1, xg2, xg3, xg4, xg5, xg6⟩ := hk3.1.cells2; have xz := hk3.1.frozen; obtain ⟨yd0, yd1, yd2, yd3, yd4, yd5, yd6, yd7, yd8, yd9, yd10, yd11⟩ := hk3.2.1.all; have K3 := Lib.hid hk3; clear hb3 hk3; clear vc0 vc1 vc2 vc3 vc4 vc5 vg0 vg1 vg2 vg3 vg4 vg5 vg6 vz vd0 vd1 vd2 vd3 vd4 vd5 vd6 vd7 vd8 vd9 vd10 vd11)
    | (go_at_call 33; refine (hfo _ K3.out.1 _).mono ?_; rintro en w4 ⟨rfl, h41, h42⟩; obtain ⟨a0, a1, a2, a3, a4, a5⟩ := h41.cells; obtain ⟨a6, a7, a8, a9, a10, a11, a12⟩ := h41.cells2; have az := h41.frozen; have H41 := Lib.hid h41; have H42 := Lib.hid h42; clear h41 h42))
  go_ret
  unfold TakeP
  rw [K.out]
  exact ⟨rfl, heap_setCell_same _ b _ _ _ _ H41.out, (K3.out.2.2.trans H42.out).set _ _⟩
set_option maxHeartbeats 3200000 in
set_option maxRecDepth 100000 in
theorem take_hear {W : World} {b : Nat} {e : EndT} (h : EndP 56 W b e) (hi : InvE e) (x : LieT) (now : Int) (k : timeB now) (kx : lieR x = true) (ka : accB e.p x) (k3 : ¬ e.s = 3) (ko : ¬ (e.o.node ≠ 0 ∧ ¬ sameO e.o x)) : Calls Try.prog 14 #[.pointer (some ⟨b, 0, none⟩), .agg #[.int .i64 x.node, .int .i64 x.level, .int .i64 x.pod, .int .i64 x.mtu, .int .i64 x.link, .int .i64 x.nonce, .int .i64 x.seen, .int .i64 x.seenLink, .int .i64 x.seenNonce, .int .i64 x.hold, .bool x.rep, .bool x.noOffer], .int .i64 now] W (TakeP 56 W b e x now) := by
  have hb := TK.new h x
  have H := Lib.hid h
  have ht := fun W => (time_any now W).mono fun e w' h => (⟨h.1.dec, h.2⟩ : e = .returned (.bool (decide (timeB now))) ∧ w' = W)
  obtain ⟨V, hV⟩ : ∃ V, W.alloc (.cells #[.int .i64 x.node, .int .i64 x.level, .int .i64 x.pod, .int .i64 x.mtu, .int .i64 x.link, .int .i64 x.nonce, .int .i64 x.seen, .int .i64 x.seenLink, .int .i64 x.seenNonce, .int .i64 x.hold, .bool x.rep, .bool x.noOffer] 25) = V := ⟨_, rfl⟩
  rw [hV] at hb
  have HV := Lib.hid hV
  have HB := Lib.hid hb
  rw [decide_eq_true k] at ht
  have hr := right_lie x
  rw [kx] at hr
  have f := lie_facts kx
  have ha := fun W => (accepts_any e.p x (by have := hi.port.2.1; omega) (by omega) W).mono fun en w' h => (⟨h.1.dec, h.2⟩ : en = .returned (.bool (decide (accB e.p x))) ∧ Below W.heap.size W w')
  have hfr := fun W (q : EndP 56 W b e) => from_any q hi x (by omega)
  have hhe := fun W (q : EndP 56 W b e) => hears_any q hi
  have hfo := fun W (q : EndP 56 W b e) s => forget_any q s
  rw [decide_eq_true ka] at ha
  have hhr := fun W (q : EndP 56 W b e) => hear_any q x now k kx
  have K : RowKit.Hid (takeE e x now = (0, hearE e x now)) := by unfold Hid takeE; rw [if_neg (by simpa using k), if_neg (by simp [kx]), if_neg (by simpa using ka), if_neg k3, if_neg ko]
  by_cases k0 : e.o.node ≠ 0
  · have ks : sameO e.o x := by
      by_cases q : sameO e.o x
      · exact q
      · exact absurd ⟨k0, q⟩ ko
    rw [decide_eq_true k0] at hhe
    rw [decide_eq_true ks] at hfr
    clear k kx ka hV hb h hi f ko ks k0 hfo
    go_enter Try.func14, Try.ntmps14
    go_wp2_with (first
      | (go_at_call 30; refine (ht _).mono ?_; rintro en w0 ⟨rfl, rfl⟩)
      | (go_at_call 31; rw [HV.out]; refine (hr _).mono ?_; rintro en w1 ⟨rfl, hb1⟩; have hk1 := HB.out.below hb1; obtain ⟨U, hU⟩ : ∃ U, w1.drew = U := ⟨_, rfl⟩; have hku := hk1.drew; rw [hU] at hku; obtain ⟨uc0, uc1, uc2, uc3, uc4, uc5⟩ := hku.1.cells; obtain ⟨ug0, ug1, ug2, ug3, ug4, ug5, ug6⟩ := hku.1.cells2; have uz := hku.1.frozen; obtain ⟨ud0, ud1, ud2, ud3, ud4, ud5, ud6, ud7, ud8, ud9, ud10, ud11⟩ := hku.2.1.all; have KU := Lib.hid hku; have HU := Lib.hid hU; clear hb1 hk1 hku hU))
    refine region_tail 5 (by kernel_rfl) (by kernel_rfl) U HU.out ?_
    simp only [List.take_succ_cons, List.take_zero, List.drop_succ_cons, List.drop_zero]
    repeat still_step
    refine wpStill_nil ?_
    go_wp2_with (first
      | (go_at_call 10; refine (ha _).mono ?_; rintro en w2 ⟨rfl, hb2⟩; have hk2 := KU.out.below hb2; obtain ⟨vc0, vc1, vc2, vc3, vc4, vc5⟩ := hk2.1.cells; obtain ⟨vg0, vg1, vg2, vg3, vg4, vg5, vg6⟩ := hk2.1.cells2; have vz := hk2.1.frozen; obtain ⟨vd0, vd1, vd2, vd3, vd4, vd5, vd6, vd7, vd8, vd9, vd10, vd11⟩ := hk2.2.1.all; have K2 := Lib.hid hk2; clear hb2 hk2; clear uc0 uc1 uc2 uc3 uc4 uc5 ug0 ug1 ug2 ug3 ug4 ug5 ug6 uz ud0 ud1 ud2 ud3 ud4 ud5 ud6 ud7 ud8 ud9 ud10 ud11)
      | (go_at_call 34; refine (hhe _ K2.out.1).mono ?_; rintro en w5 ⟨rfl, rfl⟩)
      | (go_at_call 32; refine (hfr _ K2.out.1).mono ?_; rintro en w3 ⟨rfl, hb3⟩; have hk3 := K2.out.below hb3; obtain ⟨xc0, xc1, xc2, xc3, xc4, xc5⟩ := hk3.1.cells; obtain ⟨xg0, xg1, xg2, xg3, xg4, xg5, xg6⟩ := hk3.1.cells2; have xz := hk3.1.frozen; obtain ⟨yd0, yd1, yd2, yd3, yd4, yd5, yd6, yd7, yd8, yd9, yd10, yd11⟩ := hk3.2.1.all; have K3 := Lib.hid hk3; clear hb3 hk3; clear vc0 vc1 vc2 vc3 vc4 vc5 vg0 vg1 vg2 vg3 vg4 vg5 vg6 vz vd0 vd1 vd2 vd3 vd4 vd5 vd6 vd7 vd8 vd9 vd10 vd11)
      | (go_at_call 35; refine (hhr _ K3.out.1).mono ?_; rintro en w4 ⟨rfl, h41, h42⟩; have H41 := Lib.hid h41; have H42 := Lib.hid h42; clear h41 h42))
    go_ret
    unfold TakeP
    rw [K.out]
    exact ⟨rfl, H41.out, K3.out.2.2.trans H42.out⟩
  · rw [decide_eq_false k0] at hhe
    clear k kx ka hV hb h hi f ko k0 hfo hfr
    go_enter Try.func14, Try.ntmps14
    go_wp2_with (first
      | (go_at_call 30; refine (ht _).mono ?_; rintro en w0 ⟨rfl, rfl⟩)
      | (go_at_call 31; rw [HV.out]; refine (hr _).mono ?_; rintro en w1 ⟨rfl, hb1⟩; have hk1 := HB.out.below hb1; obtain ⟨U, hU⟩ : ∃ U, w1.drew = U := ⟨_, rfl⟩; have hku := hk1.drew; rw [hU] at hku; obtain ⟨uc0, uc1, uc2, uc3, uc4, uc5⟩ := hku.1.cells; obtain ⟨ug0, ug1, ug2, ug3, ug4, ug5, ug6⟩ := hku.1.cells2; have uz := hku.1.frozen; obtain ⟨ud0, ud1, ud2, ud3, ud4, ud5, ud6, ud7, ud8, ud9, ud10, ud11⟩ := hku.2.1.all; have KU := Lib.hid hku; have HU := Lib.hid hU; clear hb1 hk1 hku hU))
    refine region_tail 5 (by kernel_rfl) (by kernel_rfl) U HU.out ?_
    simp only [List.take_succ_cons, List.take_zero, List.drop_succ_cons, List.drop_zero]
    repeat still_step
    refine wpStill_nil ?_
    go_wp2_with (first
      | (go_at_call 10; refine (ha _).mono ?_; rintro en w2 ⟨rfl, hb2⟩; have hk2 := KU.out.below hb2; obtain ⟨vc0, vc1, vc2, vc3, vc4, vc5⟩ := hk2.1.cells; obtain ⟨vg0, vg1, vg2, vg3, vg4, vg5, vg6⟩ := hk2.1.cells2; have vz := hk2.1.frozen; obtain ⟨vd0, vd1, vd2, vd3, vd4, vd5, vd6, vd7, vd8, vd9, vd10, vd11⟩ := hk2.2.1.all; have K2 := Lib.hid hk2; clear hb2 hk2; clear uc0 uc1 uc2 uc3 uc4 uc5 ug0 ug1 ug2 ug3 ug4 ug5 ug6 uz ud0 ud1 ud2 ud3 ud4 ud5 ud6 ud7 ud8 ud9 ud10 ud11)
      | (go_at_call 34; refine (hhe _ K2.out.1).mono ?_; rintro en w5 ⟨rfl, rfl⟩)
      | (go_at_call 35; refine (hhr _ K2.out.1).mono ?_; rintro en w4 ⟨rfl, h41, h42⟩; have H41 := Lib.hid h41; have H42 := Lib.hid h42; clear h41 h42))
    go_ret
    unfold TakeP
    rw [K.out]
    exact ⟨rfl, H41.out, K2.out.2.2.trans H42.out⟩
theorem take_any {W : World} {b : Nat} {e : EndT} (h : EndP 56 W b e) (hi : InvE e) (x : LieT) (now : Int) : Calls Try.prog 14 #[.pointer (some ⟨b, 0, none⟩), .agg #[.int .i64 x.node, .int .i64 x.level, .int .i64 x.pod, .int .i64 x.mtu, .int .i64 x.link, .int .i64 x.nonce, .int .i64 x.seen, .int .i64 x.seenLink, .int .i64 x.seenNonce, .int .i64 x.hold, .bool x.rep, .bool x.noOffer], .int .i64 now] W (TakeP 56 W b e x now) := by
  by_cases k : timeB now
  · cases kx : lieR x
    · exact take_form h hi x now k kx
    · by_cases ka : accB e.p x
      · by_cases k3 : e.s = 3
        · exact take_multi h hi x now k kx ka k3
        · by_cases ko : e.o.node ≠ 0 ∧ ¬ sameO e.o x
          · exact take_two h hi x now k kx ka k3 ko.1 ko.2
          · exact take_hear h hi x now k kx ka k3 ko
      · exact take_old h hi x now k kx ka
  · exact take_arg h hi x now k
end Go.Proofs.Yticbfmbinopjcaa
