/-
  LieThree: the law's walk.
-/
import Derived.Test.YticbfmbinopjcaaLThr
namespace Go.Proofs.Yticbfmbinopjcaa
set_option linter.unusedSimpArgs false
set_option linter.unusedVariables false
open Go.RowKit
theorem thr_take {w W : World} {b bl : Nat} {x : LieT} {e : EndT} (h : ThrI w b bl e x W) (y : LieT) (now : Int) : Calls Try.prog 14 #[.pointer (some ⟨b, 0, none⟩), .agg #[.int .i64 y.node, .int .i64 y.level, .int .i64 y.pod, .int .i64 y.mtu, .int .i64 y.link, .int .i64 y.nonce, .int .i64 y.seen, .int .i64 y.seenLink, .int .i64 y.seenNonce, .int .i64 y.hold, .bool y.rep, .bool y.noOffer], .int .i64 now] W fun en W' => en = .returned (.int .i64 (takeE e y now).1) ∧ ThrJ w b bl e (takeE e y now).2 x W' ∧ KE W W' :=
  (take_any h.one.e h.inv y now).mono fun en W' ⟨h1, h2, h3⟩ => ⟨h1, h.turn h2 h3 (takeE_inv h.inv _ _), h3.ke h.one.e (.inl rfl)⟩
theorem thr_tick {w W : World} {b bl : Nat} {x : LieT} {e : EndT} (h : ThrI w b bl e x W) (now : Int) : Calls Try.prog 16 #[.pointer (some ⟨b, 0, none⟩), .int .i64 now] W fun en W' => en = .returned (.int .i64 (tickE e now).1) ∧ ThrI w b bl (tickE e now).2 x W' :=
  (tick_any h.one.e now).mono fun en W' ⟨h1, h2, h3⟩ => ⟨h1, (h.turn h2 h3 (tickE_inv h.inv _)).same (tickE_p _ _) (tick_link h.link _)⟩
theorem thr_level {w W : World} {b bl : Nat} {x : LieT} {e : EndT} (h : ThrI w b bl e x W) (l : Int) : Calls Try.prog 18 #[.pointer (some ⟨b, 0, none⟩), .int .i64 l] W fun en W' => en = .returned (.int .i64 (levelE e l).1) ∧ ThrJ w b bl e (levelE e l).2 x W' ∧ KE W W' :=
  (levelE_any h.one.e l).mono fun en W' ⟨h1, h2, h3⟩ => ⟨h1, h.turn h2 h3 (levelE_inv h.inv _), h3.ke h.one.e (.inl rfl)⟩
theorem thr_other {w W : World} {b bl : Nat} {x : LieT} {e : EndT} (h : ThrI w b bl e x W) : Calls Try.prog 20 #[.pointer (some ⟨b, 0, none⟩)] W fun en W' => en = .returned (.tuple #[.agg #[.int .i64 e.o.node, .int .i64 e.o.link, .int .i64 e.o.level, .int .i64 e.o.nonce], .bool (decide (e.o.node ≠ 0))]) ∧ ThrI w b bl e x W' :=
  (other_any h.one.e h.inv).mono fun en W' ⟨h1, h2⟩ => ⟨h1, h.below h2⟩
theorem thr_acc {w W : World} {b bl : Nat} {x : LieT} {e : EndT} (h : ThrI w b bl e x W) (ho : e.o.node ≠ 0) : ∀ W1, Calls Try.prog 10 #[.agg #[.int .i64 e.p.node, .int .i64 e.p.level, .int .i64 e.p.pod, .int .i64 e.p.mtu, .int .i64 e.p.link, .int .i64 e.p.hold], .agg #[.int .i64 x.node, .int .i64 x.level, .int .i64 x.pod, .int .i64 x.mtu, .int .i64 x.link, .int .i64 x.nonce, .int .i64 x.seen, .int .i64 x.seenLink, .int .i64 x.seenNonce, .int .i64 x.hold, .bool x.rep, .bool x.noOffer]] W1 fun en W' => en = .returned (.bool true) ∧ Below W1.heap.size W1 W' := fun W1 =>
  (accepts_any e.p x (by have := h.inv.port.2.1; omega) h.lev W1).mono fun en W' k => ⟨by rw [k.1.dec, decide_eq_true (h.link.1 ho).2.2], k.2⟩
set_option maxHeartbeats 1600000 in
set_option maxRecDepth 100000 in
theorem three_no (p : PortT) (hp : ¬ portB p) (a : Option Addr) (len cap : Nat) (w : World) : Calls Try.prog 5 #[.agg #[.int .i64 p.node, .int .i64 p.level, .int .i64 p.pod, .int .i64 p.mtu, .int .i64 p.link, .int .i64 p.hold], .slice a len cap] w fun e w' => e = .returned (.bool true) ∧ Below w.heap.size w w' := by
  have hb : Below w.heap.size w (w.alloc (.cells #[.int .i64 p.node, .int .i64 p.level, .int .i64 p.pod, .int .i64 p.mtu, .int .i64 p.link, .int .i64 p.hold] 23)) := (Below.refl _ w).alloc (Nat.le_refl _) _
  have hx : BxP 23 (w.alloc (.cells #[.int .i64 p.node, .int .i64 p.level, .int .i64 p.pod, .int .i64 p.mtu, .int .i64 p.link, .int .i64 p.hold] 23)) w.heap.size (encPort p) := heap_alloc_new w _
  obtain ⟨V, hV⟩ : ∃ V, w.alloc (.cells #[.int .i64 p.node, .int .i64 p.level, .int .i64 p.pod, .int .i64 p.mtu, .int .i64 p.link, .int .i64 p.hold] 23) = V := ⟨_, rfl⟩
  rw [hV] at hb hx
  have HP := Lib.hid (new_none p hp)
  have HV := Lib.hid hV
  have HB := Lib.hid hb
  have HX := Lib.hid hx
  clear hp hV hb hx
  go_enter Try.func5, Try.ntmps5
  go_wp2_with (first
    | (go_at_call 9; rw [HV.out]; refine (awake_any _).mono ?_; rintro e w1 ⟨rfl, hb1⟩; have hx := HX.out.below hb1; obtain ⟨xp0, xp1, xp2, xp3, xp4, xp5⟩ := hx.port; have HB1 := Lib.hid (HB.out.trans (hb1.mono HB.out.size)); clear hb1 hx)
    | (go_at_call 12; (with_reducible refine (HP.out _).mono ?_); rintro e w2 ⟨rfl, hb2⟩; have HB2 := Lib.hid (HB1.out.trans (hb2.mono HB1.out.size)); clear hb2))
  go_ret
  exact ⟨rfl, HB2.out⟩
set_option maxHeartbeats 100000000 in
set_option maxRecDepth 100000 in
theorem three_yes (p : PortT) (hp : portB p) (a : Option Addr) (cap : Nat) (l : List StepT) (hl : l.length ≤ maxLen) (w : World) (hr : RdS w.heap.size w a l) : Calls Try.prog 5 #[.agg #[.int .i64 p.node, .int .i64 p.level, .int .i64 p.pod, .int .i64 p.mtu, .int .i64 p.link, .int .i64 p.hold], .slice a l.length cap] w fun e w' => e = .returned (.bool true) ∧ Below w.heap.size w w' := by
  have hb : Below w.heap.size w (w.alloc (.cells #[.int .i64 p.node, .int .i64 p.level, .int .i64 p.pod, .int .i64 p.mtu, .int .i64 p.link, .int .i64 p.hold] 23)) := (Below.refl _ w).alloc (Nat.le_refl _) _
  have hx : BxP 23 (w.alloc (.cells #[.int .i64 p.node, .int .i64 p.level, .int .i64 p.pod, .int .i64 p.mtu, .int .i64 p.link, .int .i64 p.hold] 23)) w.heap.size (encPort p) := heap_alloc_new w _
  obtain ⟨V, hV⟩ : ∃ V, w.alloc (.cells #[.int .i64 p.node, .int .i64 p.level, .int .i64 p.pod, .int .i64 p.mtu, .int .i64 p.link, .int .i64 p.hold] 23) = V := ⟨_, rfl⟩
  rw [hV] at hb hx
  have HP := Lib.hid (new_one p hp)
  have HI := Lib.hid (newE_inv hp)
  have HV := Lib.hid hV
  have HB := Lib.hid hb
  have HX := Lib.hid hx
  have HR := Lib.hid hr
  obtain ⟨len, hlen⟩ : ∃ len, l.length = len := ⟨_, rfl⟩
  have HL := Lib.hid hlen
  have hlm : len ≤ 9223372036854775807 := by unfold maxLen at hl; omega
  rw [hlen]
  clear hp hV hb hx hr hlen hl
  go_enter Try.func5, Try.ntmps5
  go_wp2_with (first
    | (go_at_call 9; rw [HV.out]; refine (awake_any _).mono ?_; rintro e w1 ⟨rfl, hb1⟩; have hx := HX.out.below hb1; obtain ⟨xp0, xp1, xp2, xp3, xp4, xp5⟩ := hx.port; have X1 := Lib.hid hx; have HB1 := Lib.hid (HB.out.trans (hb1.mono HB.out.size)); clear hb1 hx)
    | (go_at_call 12; (with_reducible refine (HP.out _).mono ?_); rintro e w2 ⟨b, rfl, hb2⟩; have hbo := X1.out.below hb2.bel; have I0 : RowKit.Hid (ThrI w b w2.heap.size (newE p) LieT.zero (w2.alloc (.cells #[.int .i64 0, .int .i64 0, .int .i64 0, .int .i64 0, .int .i64 0, .int .i64 0, .int .i64 0, .int .i64 0, .int .i64 0, .int .i64 0, .bool false, .bool false] 25))) := ⟨(hb2.back HB1.out).below ((Below.refl _ _).alloc (Nat.le_refl _) _), HI.out, ⟨fun q => absurd rfl q, fun q => by cases q⟩, by decide, (heap_alloc_old _ _ hbo.lt).trans hbo, heap_alloc_new w2 _, hbo.lt⟩; clear hb2 hbo))
  clear xp0 xp1 xp2 xp3 xp4 xp5
  go_loopw [9] (fun i wr => ∃ (k : Nat) (e : EndT) (x : LieT), i = .int .i64 k ∧ k ≤ len ∧ k ≤ 200 ∧ RowKit.Hid (ThrI w b w2.heap.size e x wr)) (fun i _ => len - (intOf i).toNat)
  case atStart => exact ⟨0, newE p, LieT.zero, rfl, Nat.zero_le _, Nat.zero_le _, I0⟩
  case round =>
    obtain ⟨k, e, x, rfl, hk, hk2, HA⟩ := hrel
    generalize w2.heap.size = bl at *
    clear I0 X1 HB1 HX HB HP HI
    by_cases hlt : k < len
    · by_cases hlt2 : k < 200
      · obtain ⟨s, hs⟩ : ∃ s, l[k]? = some s := ⟨_, List.getElem?_eq_getElem (by have := HL.out; omega)⟩
        obtain ⟨ab, off, ha, y0, y1, y2, y3, y4, y5, y6, y7, y8, y9, y10, y11, y12, y13, y14⟩ := HR.out.step hs HA.out.one.bel
        subst ha
        have ia := HA.out.alloc (.cells #[.int .i64 s.d, .int .i64 s.now, .int .i64 s.n, .int .i64 s.x.node, .int .i64 s.x.level, .int .i64 s.x.pod, .int .i64 s.x.mtu, .int .i64 s.x.link, .int .i64 s.x.nonce, .int .i64 s.x.seen, .int .i64 s.x.seenLink, .int .i64 s.x.seenNonce, .int .i64 s.x.hold, .bool s.x.rep, .bool s.x.noOffer] 37)
        have SB := Lib.hid (show BxP 37 (wr.alloc (.cells #[.int .i64 s.d, .int .i64 s.now, .int .i64 s.n, .int .i64 s.x.node, .int .i64 s.x.level, .int .i64 s.x.pod, .int .i64 s.x.mtu, .int .i64 s.x.link, .int .i64 s.x.nonce, .int .i64 s.x.seen, .int .i64 s.x.seenLink, .int .i64 s.x.seenNonce, .int .i64 s.x.hold, .bool s.x.rep, .bool s.x.noOffer] 37)) wr.heap.size (encStep s) from heap_alloc_new wr _)
        have IA := Lib.hid ia
        clear hs HA ia
        by_cases cd : s.d = 0
        · by_cases cr : (takeE e s.x s.now).1 = 0
          · have b0 : (s.d == 0) = true := by simpa using cd
            have tk := fun W (q : ThrI w b bl e x W) => thr_take q s.x s.now
            have lk := take_link IA.out.link s.x s.now
            have hpp := takeE_p e s.x s.now
            have hno := take_no cr
            have hin := takeE_inv IA.out.inv s.x s.now
            rw [if_pos cr] at lk
            rw [cr] at tk
            obtain ⟨f, hf⟩ : ∃ f, (takeE e s.x s.now).2 = f := ⟨_, rfl⟩
            rw [hf] at tk lk hpp hin
            obtain ⟨y, hy⟩ : ∃ y, s.x = y := ⟨_, rfl⟩
            have nx : ∀ W2, ThrJ w b bl e f x W2 → ThrI w b bl f s.x ((((((((((((W2.setCell ⟨bl, 0, none⟩ (.int .i64 s.x.node)).setCell ⟨bl, 1, none⟩ (.int .i64 s.x.level)).setCell ⟨bl, 2, none⟩ (.int .i64 s.x.pod)).setCell ⟨bl, 3, none⟩ (.int .i64 s.x.mtu)).setCell ⟨bl, 4, none⟩ (.int .i64 s.x.link)).setCell ⟨bl, 5, none⟩ (.int .i64 s.x.nonce)).setCell ⟨bl, 6, none⟩ (.int .i64 s.x.seen)).setCell ⟨bl, 7, none⟩ (.int .i64 s.x.seenLink)).setCell ⟨bl, 8, none⟩ (.int .i64 s.x.seenNonce)).setCell ⟨bl, 9, none⟩ (.int .i64 s.x.hold)).setCell ⟨bl, 10, none⟩ (.bool s.x.rep)).setCell ⟨bl, 11, none⟩ (.bool s.x.noOffer)) := fun W2 q => q.last hpp s.x lk (by have := lie_facts hno; omega)
            have LV : RowKit.Hid (s.x.level ≤ 9223372036854775807) := by have := lie_facts hno; unfold Hid; omega
            have YL := Lib.hid hy
            have TK1 := Lib.hid tk
            have NX := Lib.hid nx
            have LK := Lib.hid lk
            have IN := Lib.hid hin
            clear hf tk nx lk hpp hno hin cr cd hy YL y
            have oo := fun W (q : ThrI w b bl f s.x W) => thr_other q
            have st := fun W (q : EndP 56 W b f) => state_any q
            obtain ⟨ov, hov⟩ : ∃ z, f.o.level = z := ⟨_, rfl⟩
            obtain ⟨oc, hoc⟩ : ∃ z, f.o.nonce = z := ⟨_, rfl⟩
            simp only [hov, hoc] at oo
            clear hov hoc
            by_cases s2 : f.s = 2
            · have on : f.o.node ≠ 0 := IN.out.heard.2 (.inr s2)
              have lk := LK.out.1 on
              have lk2 := LK.out.2 s2
              rw [decide_eq_true on] at oo
              simp only [lk.1, lk.2.1] at oo
              simp only [s2] at st
              have OO := Lib.hid oo
              have ST := Lib.hid st
              have QS := Lib.hid lk2
              have AC : RowKit.Hid (∀ W1, Calls Try.prog 10 #[.agg #[.int .i64 f.p.node, .int .i64 f.p.level, .int .i64 f.p.pod, .int .i64 f.p.mtu, .int .i64 f.p.link, .int .i64 f.p.hold], .agg #[.int .i64 s.x.node, .int .i64 s.x.level, .int .i64 s.x.pod, .int .i64 s.x.mtu, .int .i64 s.x.link, .int .i64 s.x.nonce, .int .i64 f.p.node, .int .i64 f.p.link, .int .i64 s.x.seenNonce, .int .i64 s.x.hold, .bool s.x.rep, .bool s.x.noOffer]] W1 fun en W' => en = .returned (.bool true) ∧ Below W1.heap.size W1 W') := fun W1 =>
                (accepts_any f.p { s.x with seen := f.p.node, seenLink := f.p.link } (by have := IN.out.port.2.1; omega) LV.out W1).mono fun en W' k => ⟨by rw [k.1.dec, decide_eq_true (show accB f.p { s.x with seen := f.p.node, seenLink := f.p.link } from lk.2.2)], k.2⟩
              clear oo st on lk lk2 s2
              go_wp2_with (first
                    | (go_at_call 14; (with_reducible refine (TK1.out _ IA.out).mono ?_); rintro en w2 ⟨rfl, hj, hke⟩; have sb := SB.out.keep hke (by decide) (by decide); have v0 := sb.cell 0 rfl; have v1 := sb.cell 1 rfl; have v2 := sb.cell 2 rfl; have v3 := sb.cell 3 rfl; have v4 := sb.cell 4 rfl; have v5 := sb.cell 5 rfl; have v6 := sb.cell 6 rfl; have v7 := sb.cell 7 rfl; have v8 := sb.cell 8 rfl; have v9 := sb.cell 9 rfl; have v10 := sb.cell 10 rfl; have v11 := sb.cell 11 rfl; have v12 := sb.cell 12 rfl; have v13 := sb.cell 13 rfl; have v14 := sb.cell 14 rfl; obtain ⟨g0, g1, g2, g3, g4, g5, g6, g7, g8, g9, g10, g11⟩ := hj.lb.lie; have gz := hj.lb.frozen; obtain ⟨C, hC⟩ : ∃ C, ((((((((((((w2.setCell ⟨bl, 0, none⟩ (.int .i64 s.x.node)).setCell ⟨bl, 1, none⟩ (.int .i64 s.x.level)).setCell ⟨bl, 2, none⟩ (.int .i64 s.x.pod)).setCell ⟨bl, 3, none⟩ (.int .i64 s.x.mtu)).setCell ⟨bl, 4, none⟩ (.int .i64 s.x.link)).setCell ⟨bl, 5, none⟩ (.int .i64 s.x.nonce)).setCell ⟨bl, 6, none⟩ (.int .i64 s.x.seen)).setCell ⟨bl, 7, none⟩ (.int .i64 s.x.seenLink)).setCell ⟨bl, 8, none⟩ (.int .i64 s.x.seenNonce)).setCell ⟨bl, 9, none⟩ (.int .i64 s.x.hold)).setCell ⟨bl, 10, none⟩ (.bool s.x.rep)).setCell ⟨bl, 11, none⟩ (.bool s.x.noOffer)) = C := ⟨_, rfl⟩; have hi := NX.out _ hj; rw [hC] at hi; have HC := Lib.hid hC; have I2 := Lib.hid hi; clear hj hke sb hC hi)
                    | (go_at_call 20; rw [HC.out]; (with_reducible refine (OO.out _ I2.out).mono ?_); rintro en w4 ⟨rfl, hi4⟩; obtain ⟨zp0, zp1, zp2, zp3, zp4, zp5⟩ := hi4.box.port; obtain ⟨zl0, zl1, zl2, zl3, zl4, zl5, zl6, zl7, zl8, zl9, zl10, zl11⟩ := hi4.lb.lie; rw [QS.out.1] at zl6; rw [QS.out.2] at zl7; have ltp := hi4.box.lt; have ltl := hi4.lb.lt; have nep : w.heap.size ≠ w4.heap.size := (by omega); have nel : bl ≠ w4.heap.size := (by omega); have I4 := Lib.hid (hi4.alloc (.cells #[.int .i64 s.x.node, .int .i64 s.x.link, .int .i64 ov, .int .i64 oc] 41)); clear hi4)
                    | (go_at_call 21; (with_reducible refine (ST.out _ I4.out.one.e).mono ?_); rintro en w5 ⟨rfl, rfl⟩)
                    | (go_at_call 10; (with_reducible refine (AC.out _).mono ?_); rintro en w6 ⟨rfl, hb6⟩; have I6 := Lib.hid (I4.out.below hb6); obtain ⟨wp0, wp1, wp2, wp3, wp4, wp5⟩ := I6.out.box.port; obtain ⟨wl0, wl1, wl2, wl3, wl4, wl5, wl6, wl7, wl8, wl9, wl10, wl11⟩ := I6.out.lb.lie; rw [QS.out.1] at wl6; rw [QS.out.2] at wl7; clear hb6))
              go_roundw
              case rel => exact ⟨k + 1, f, s.x, by go_num, by omega, by omega, I6⟩
              case measure => simp [intOf]; omega
            · by_cases s1 : f.s = 1
              · have on : f.o.node ≠ 0 := IN.out.heard.2 (.inl s1)
                have lk := LK.out.1 on
                rw [decide_eq_true on] at oo
                simp only [lk.1, lk.2.1] at oo
                simp only [s1] at st
                have OO := Lib.hid oo
                have ST := Lib.hid st
                have AC : RowKit.Hid (∀ W1, Calls Try.prog 10 #[.agg #[.int .i64 f.p.node, .int .i64 f.p.level, .int .i64 f.p.pod, .int .i64 f.p.mtu, .int .i64 f.p.link, .int .i64 f.p.hold], .agg #[.int .i64 s.x.node, .int .i64 s.x.level, .int .i64 s.x.pod, .int .i64 s.x.mtu, .int .i64 s.x.link, .int .i64 s.x.nonce, .int .i64 s.x.seen, .int .i64 s.x.seenLink, .int .i64 s.x.seenNonce, .int .i64 s.x.hold, .bool s.x.rep, .bool s.x.noOffer]] W1 fun en W' => en = .returned (.bool true) ∧ Below W1.heap.size W1 W') := fun W1 =>
                  (accepts_any f.p _ (by have := IN.out.port.2.1; omega) LV.out W1).mono fun en W' k => ⟨by rw [k.1.dec, decide_eq_true lk.2.2], k.2⟩
                clear oo st on lk s1
                go_wp2_with (first
                      | (go_at_call 14; (with_reducible refine (TK1.out _ IA.out).mono ?_); rintro en w2 ⟨rfl, hj, hke⟩; have sb := SB.out.keep hke (by decide) (by decide); have v0 := sb.cell 0 rfl; have v1 := sb.cell 1 rfl; have v2 := sb.cell 2 rfl; have v3 := sb.cell 3 rfl; have v4 := sb.cell 4 rfl; have v5 := sb.cell 5 rfl; have v6 := sb.cell 6 rfl; have v7 := sb.cell 7 rfl; have v8 := sb.cell 8 rfl; have v9 := sb.cell 9 rfl; have v10 := sb.cell 10 rfl; have v11 := sb.cell 11 rfl; have v12 := sb.cell 12 rfl; have v13 := sb.cell 13 rfl; have v14 := sb.cell 14 rfl; obtain ⟨g0, g1, g2, g3, g4, g5, g6, g7, g8, g9, g10, g11⟩ := hj.lb.lie; have gz := hj.lb.frozen; obtain ⟨C, hC⟩ : ∃ C, ((((((((((((w2.setCell ⟨bl, 0, none⟩ (.int .i64 s.x.node)).setCell ⟨bl, 1, none⟩ (.int .i64 s.x.level)).setCell ⟨bl, 2, none⟩ (.int .i64 s.x.pod)).setCell ⟨bl, 3, none⟩ (.int .i64 s.x.mtu)).setCell ⟨bl, 4, none⟩ (.int .i64 s.x.link)).setCell ⟨bl, 5, none⟩ (.int .i64 s.x.nonce)).setCell ⟨bl, 6, none⟩ (.int .i64 s.x.seen)).setCell ⟨bl, 7, none⟩ (.int .i64 s.x.seenLink)).setCell ⟨bl, 8, none⟩ (.int .i64 s.x.seenNonce)).setCell ⟨bl, 9, none⟩ (.int .i64 s.x.hold)).setCell ⟨bl, 10, none⟩ (.bool s.x.rep)).setCell ⟨bl, 11, none⟩ (.bool s.x.noOffer)) = C := ⟨_, rfl⟩; have hi := NX.out _ hj; rw [hC] at hi; have HC := Lib.hid hC; have I2 := Lib.hid hi; clear hj hke sb hC hi)
                      | (go_at_call 20; rw [HC.out]; (with_reducible refine (OO.out _ I2.out).mono ?_); rintro en w4 ⟨rfl, hi4⟩; obtain ⟨zp0, zp1, zp2, zp3, zp4, zp5⟩ := hi4.box.port; obtain ⟨zl0, zl1, zl2, zl3, zl4, zl5, zl6, zl7, zl8, zl9, zl10, zl11⟩ := hi4.lb.lie; have ltp := hi4.box.lt; have ltl := hi4.lb.lt; have nep : w.heap.size ≠ w4.heap.size := (by omega); have nel : bl ≠ w4.heap.size := (by omega); have I4 := Lib.hid (hi4.alloc (.cells #[.int .i64 s.x.node, .int .i64 s.x.link, .int .i64 ov, .int .i64 oc] 41)); clear hi4)
                      | (go_at_call 21; (with_reducible refine (ST.out _ I4.out.one.e).mono ?_); rintro en w5 ⟨rfl, rfl⟩)
                      | (go_at_call 10; (with_reducible refine (AC.out _).mono ?_); rintro en w6 ⟨rfl, hb6⟩; have I6 := Lib.hid (I4.out.below hb6); obtain ⟨wp0, wp1, wp2, wp3, wp4, wp5⟩ := I6.out.box.port; obtain ⟨wl0, wl1, wl2, wl3, wl4, wl5, wl6, wl7, wl8, wl9, wl10, wl11⟩ := I6.out.lb.lie; clear hb6))
                go_roundw
                case rel => exact ⟨k + 1, f, s.x, by go_num, by omega, by omega, I6⟩
                case measure => simp [intOf]; omega
              · have on : f.o.node = 0 := by
                  by_cases q : f.o.node = 0
                  · exact q
                  · rcases IN.out.heard.1 q with q | q
                    · exact absurd q s1
                    · exact absurd q s2
                obtain ⟨ol, hol⟩ : ∃ z, f.o.link = z := ⟨_, rfl⟩
                obtain ⟨sv, hsv⟩ : ∃ z, f.s = z := ⟨_, rfl⟩
                simp only [on, hol, ne_eq, not_true_eq_false, decide_false] at oo
                simp only [hsv] at st
                rw [hsv] at s1 s2
                have sb2 : (sv == 2) = false := by simpa using s2
                have sb1 : (sv == 1) = false := by simpa using s1
                clear s1 s2
                have OO := Lib.hid oo
                have ST := Lib.hid st
                clear oo st on hol hsv
                go_wp2_with (first
                      | (go_at_call 14; (with_reducible refine (TK1.out _ IA.out).mono ?_); rintro en w2 ⟨rfl, hj, hke⟩; have sb := SB.out.keep hke (by decide) (by decide); have v0 := sb.cell 0 rfl; have v1 := sb.cell 1 rfl; have v2 := sb.cell 2 rfl; have v3 := sb.cell 3 rfl; have v4 := sb.cell 4 rfl; have v5 := sb.cell 5 rfl; have v6 := sb.cell 6 rfl; have v7 := sb.cell 7 rfl; have v8 := sb.cell 8 rfl; have v9 := sb.cell 9 rfl; have v10 := sb.cell 10 rfl; have v11 := sb.cell 11 rfl; have v12 := sb.cell 12 rfl; have v13 := sb.cell 13 rfl; have v14 := sb.cell 14 rfl; obtain ⟨g0, g1, g2, g3, g4, g5, g6, g7, g8, g9, g10, g11⟩ := hj.lb.lie; have gz := hj.lb.frozen; obtain ⟨C, hC⟩ : ∃ C, ((((((((((((w2.setCell ⟨bl, 0, none⟩ (.int .i64 s.x.node)).setCell ⟨bl, 1, none⟩ (.int .i64 s.x.level)).setCell ⟨bl, 2, none⟩ (.int .i64 s.x.pod)).setCell ⟨bl, 3, none⟩ (.int .i64 s.x.mtu)).setCell ⟨bl, 4, none⟩ (.int .i64 s.x.link)).setCell ⟨bl, 5, none⟩ (.int .i64 s.x.nonce)).setCell ⟨bl, 6, none⟩ (.int .i64 s.x.seen)).setCell ⟨bl, 7, none⟩ (.int .i64 s.x.seenLink)).setCell ⟨bl, 8, none⟩ (.int .i64 s.x.seenNonce)).setCell ⟨bl, 9, none⟩ (.int .i64 s.x.hold)).setCell ⟨bl, 10, none⟩ (.bool s.x.rep)).setCell ⟨bl, 11, none⟩ (.bool s.x.noOffer)) = C := ⟨_, rfl⟩; have hi := NX.out _ hj; rw [hC] at hi; have HC := Lib.hid hC; have I2 := Lib.hid hi; clear hj hke sb hC hi)
                      | (go_at_call 20; rw [HC.out]; (with_reducible refine (OO.out _ I2.out).mono ?_); rintro en w4 ⟨rfl, hi4⟩; obtain ⟨zp0, zp1, zp2, zp3, zp4, zp5⟩ := hi4.box.port; obtain ⟨zl0, zl1, zl2, zl3, zl4, zl5, zl6, zl7, zl8, zl9, zl10, zl11⟩ := hi4.lb.lie; have ltp := hi4.box.lt; have ltl := hi4.lb.lt; have nep : w.heap.size ≠ w4.heap.size := (by omega); have nel : bl ≠ w4.heap.size := (by omega); have I4 := Lib.hid (hi4.alloc (.cells #[.int .i64 0, .int .i64 ol, .int .i64 ov, .int .i64 oc] 41)); clear hi4)
                      | (go_at_call 21; (with_reducible refine (ST.out _ I4.out.one.e).mono ?_); rintro en w5 ⟨rfl, rfl⟩))
                go_roundw
                case rel => exact ⟨k + 1, f, s.x, by go_num, by omega, by omega, I4⟩
                case measure => simp [intOf]; omega
          · have LV := Lib.hid IA.out.lev
            have b0 : (s.d == 0) = true := by simpa using cd
            have tk := fun W (q : ThrI w b bl e x W) => thr_take q s.x s.now
            have lk := take_link IA.out.link s.x s.now
            have hpp := takeE_p e s.x s.now
            have hin := takeE_inv IA.out.inv s.x s.now
            rw [if_neg cr] at lk
            obtain ⟨r, hr⟩ : ∃ r, (takeE e s.x s.now).1 = r := ⟨_, rfl⟩
            rw [hr] at tk cr
            obtain ⟨f, hf⟩ : ∃ f, (takeE e s.x s.now).2 = f := ⟨_, rfl⟩
            rw [hf] at tk lk hpp hin
            have nx : ∀ W2, ThrJ w b bl e f x W2 → ThrI w b bl f x W2 := fun W2 q => q.same hpp lk
            have TK1 := Lib.hid tk
            have NX := Lib.hid nx
            have LK := Lib.hid lk
            have IN := Lib.hid hin
            clear hf hr tk nx lk hpp hin cd
            have oo := fun W (q : ThrI w b bl f x W) => thr_other q
            have st := fun W (q : EndP 56 W b f) => state_any q
            obtain ⟨ov, hov⟩ : ∃ z, f.o.level = z := ⟨_, rfl⟩
            obtain ⟨oc, hoc⟩ : ∃ z, f.o.nonce = z := ⟨_, rfl⟩
            simp only [hov, hoc] at oo
            clear hov hoc
            by_cases s2 : f.s = 2
            · as_aux_lemma =>
                have on : f.o.node ≠ 0 := IN.out.heard.2 (.inr s2)
                have lk := LK.out.1 on
                have lk2 := LK.out.2 s2
                rw [decide_eq_true on] at oo
                simp only [lk.1, lk.2.1] at oo
                simp only [s2] at st
                have OO := Lib.hid oo
                have ST := Lib.hid st
                have QS := Lib.hid lk2
                have AC : RowKit.Hid (∀ W1, Calls Try.prog 10 #[.agg #[.int .i64 f.p.node, .int .i64 f.p.level, .int .i64 f.p.pod, .int .i64 f.p.mtu, .int .i64 f.p.link, .int .i64 f.p.hold], .agg #[.int .i64 x.node, .int .i64 x.level, .int .i64 x.pod, .int .i64 x.mtu, .int .i64 x.link, .int .i64 x.nonce, .int .i64 f.p.node, .int .i64 f.p.link, .int .i64 x.seenNonce, .int .i64 x.hold, .bool x.rep, .bool x.noOffer]] W1 fun en W' => en = .returned (.bool true) ∧ Below W1.heap.size W1 W') := fun W1 =>
                  (accepts_any f.p { x with seen := f.p.node, seenLink := f.p.link } (by have := IN.out.port.2.1; omega) LV.out W1).mono fun en W' k => ⟨by rw [k.1.dec, decide_eq_true (show accB f.p { x with seen := f.p.node, seenLink := f.p.link } from lk.2.2)], k.2⟩
                clear oo st on lk lk2 s2
                go_wp2_with (first
                      | (go_at_call 14; (with_reducible refine (TK1.out _ IA.out).mono ?_); rintro en w2 ⟨rfl, hj, hke⟩; have sb := SB.out.keep hke (by decide) (by decide); have v0 := sb.cell 0 rfl; have v1 := sb.cell 1 rfl; have v2 := sb.cell 2 rfl; have v3 := sb.cell 3 rfl; have v4 := sb.cell 4 rfl; have v5 := sb.cell 5 rfl; have v6 := sb.cell 6 rfl; have v7 := sb.cell 7 rfl; have v8 := sb.cell 8 rfl; have v9 := sb.cell 9 rfl; have v10 := sb.cell 10 rfl; have v11 := sb.cell 11 rfl; have v12 := sb.cell 12 rfl; have v13 := sb.cell 13 rfl; have v14 := sb.cell 14 rfl; have I2 := Lib.hid (NX.out _ hj); clear hj hke sb)
                      | (go_at_call 20; (with_reducible refine (OO.out _ I2.out).mono ?_); rintro en w4 ⟨rfl, hi4⟩; obtain ⟨zp0, zp1, zp2, zp3, zp4, zp5⟩ := hi4.box.port; obtain ⟨zl0, zl1, zl2, zl3, zl4, zl5, zl6, zl7, zl8, zl9, zl10, zl11⟩ := hi4.lb.lie; rw [QS.out.1] at zl6; rw [QS.out.2] at zl7; have ltp := hi4.box.lt; have ltl := hi4.lb.lt; have nep : w.heap.size ≠ w4.heap.size := (by omega); have nel : bl ≠ w4.heap.size := (by omega); have I4 := Lib.hid (hi4.alloc (.cells #[.int .i64 x.node, .int .i64 x.link, .int .i64 ov, .int .i64 oc] 41)); clear hi4)
                      | (go_at_call 21; (with_reducible refine (ST.out _ I4.out.one.e).mono ?_); rintro en w5 ⟨rfl, rfl⟩)
                      | (go_at_call 10; (with_reducible refine (AC.out _).mono ?_); rintro en w6 ⟨rfl, hb6⟩; have I6 := Lib.hid (I4.out.below hb6); obtain ⟨wp0, wp1, wp2, wp3, wp4, wp5⟩ := I6.out.box.port; obtain ⟨wl0, wl1, wl2, wl3, wl4, wl5, wl6, wl7, wl8, wl9, wl10, wl11⟩ := I6.out.lb.lie; rw [QS.out.1] at wl6; rw [QS.out.2] at wl7; clear hb6))
                go_roundw
                case rel => exact ⟨k + 1, f, x, by go_num, by omega, by omega, I6⟩
                case measure => simp [intOf]; omega
            · by_cases s1 : f.s = 1
              · as_aux_lemma =>
                  have on : f.o.node ≠ 0 := IN.out.heard.2 (.inl s1)
                  have lk := LK.out.1 on
                  rw [decide_eq_true on] at oo
                  simp only [lk.1, lk.2.1] at oo
                  simp only [s1] at st
                  have OO := Lib.hid oo
                  have ST := Lib.hid st
                  have AC : RowKit.Hid (∀ W1, Calls Try.prog 10 #[.agg #[.int .i64 f.p.node, .int .i64 f.p.level, .int .i64 f.p.pod, .int .i64 f.p.mtu, .int .i64 f.p.link, .int .i64 f.p.hold], .agg #[.int .i64 x.node, .int .i64 x.level, .int .i64 x.pod, .int .i64 x.mtu, .int .i64 x.link, .int .i64 x.nonce, .int .i64 x.seen, .int .i64 x.seenLink, .int .i64 x.seenNonce, .int .i64 x.hold, .bool x.rep, .bool x.noOffer]] W1 fun en W' => en = .returned (.bool true) ∧ Below W1.heap.size W1 W') := fun W1 =>
                    (accepts_any f.p _ (by have := IN.out.port.2.1; omega) LV.out W1).mono fun en W' k => ⟨by rw [k.1.dec, decide_eq_true lk.2.2], k.2⟩
                  clear oo st on lk s1
                  go_wp2_with (first
                        | (go_at_call 14; (with_reducible refine (TK1.out _ IA.out).mono ?_); rintro en w2 ⟨rfl, hj, hke⟩; have sb := SB.out.keep hke (by decide) (by decide); have v0 := sb.cell 0 rfl; have v1 := sb.cell 1 rfl; have v2 := sb.cell 2 rfl; have v3 := sb.cell 3 rfl; have v4 := sb.cell 4 rfl; have v5 := sb.cell 5 rfl; have v6 := sb.cell 6 rfl; have v7 := sb.cell 7 rfl; have v8 := sb.cell 8 rfl; have v9 := sb.cell 9 rfl; have v10 := sb.cell 10 rfl; have v11 := sb.cell 11 rfl; have v12 := sb.cell 12 rfl; have v13 := sb.cell 13 rfl; have v14 := sb.cell 14 rfl; have I2 := Lib.hid (NX.out _ hj); clear hj hke sb)
                        | (go_at_call 20; (with_reducible refine (OO.out _ I2.out).mono ?_); rintro en w4 ⟨rfl, hi4⟩; obtain ⟨zp0, zp1, zp2, zp3, zp4, zp5⟩ := hi4.box.port; obtain ⟨zl0, zl1, zl2, zl3, zl4, zl5, zl6, zl7, zl8, zl9, zl10, zl11⟩ := hi4.lb.lie; have ltp := hi4.box.lt; have ltl := hi4.lb.lt; have nep : w.heap.size ≠ w4.heap.size := (by omega); have nel : bl ≠ w4.heap.size := (by omega); have I4 := Lib.hid (hi4.alloc (.cells #[.int .i64 x.node, .int .i64 x.link, .int .i64 ov, .int .i64 oc] 41)); clear hi4)
                        | (go_at_call 21; (with_reducible refine (ST.out _ I4.out.one.e).mono ?_); rintro en w5 ⟨rfl, rfl⟩)
                        | (go_at_call 10; (with_reducible refine (AC.out _).mono ?_); rintro en w6 ⟨rfl, hb6⟩; have I6 := Lib.hid (I4.out.below hb6); obtain ⟨wp0, wp1, wp2, wp3, wp4, wp5⟩ := I6.out.box.port; obtain ⟨wl0, wl1, wl2, wl3, wl4, wl5, wl6, wl7, wl8, wl9, wl10, wl11⟩ := I6.out.lb.lie; clear hb6))
                  go_roundw
                  case rel => exact ⟨k + 1, f, x, by go_num, by omega, by omega, I6⟩
                  case measure => simp [intOf]; omega
              · as_aux_lemma =>
                  have on : f.o.node = 0 := by
                    by_cases q : f.o.node = 0
                    · exact q
                    · rcases IN.out.heard.1 q with q | q
                      · exact absurd q s1
                      · exact absurd q s2
                  obtain ⟨ol, hol⟩ : ∃ z, f.o.link = z := ⟨_, rfl⟩
                  obtain ⟨sv, hsv⟩ : ∃ z, f.s = z := ⟨_, rfl⟩
                  simp only [on, hol, ne_eq, not_true_eq_false, decide_false] at oo
                  simp only [hsv] at st
                  rw [hsv] at s1 s2
                  have sb2 : (sv == 2) = false := by simpa using s2
                  have sb1 : (sv == 1) = false := by simpa using s1
                  clear s1 s2
                  have OO := Lib.hid oo
                  have ST := Lib.hid st
                  clear oo st on hol hsv
                  go_wp2_with (first
                        | (go_at_call 14; (with_reducible refine (TK1.out _ IA.out).mono ?_); rintro en w2 ⟨rfl, hj, hke⟩; have sb := SB.out.keep hke (by decide) (by decide); have v0 := sb.cell 0 rfl; have v1 := sb.cell 1 rfl; have v2 := sb.cell 2 rfl; have v3 := sb.cell 3 rfl; have v4 := sb.cell 4 rfl; have v5 := sb.cell 5 rfl; have v6 := sb.cell 6 rfl; have v7 := sb.cell 7 rfl; have v8 := sb.cell 8 rfl; have v9 := sb.cell 9 rfl; have v10 := sb.cell 10 rfl; have v11 := sb.cell 11 rfl; have v12 := sb.cell 12 rfl; have v13 := sb.cell 13 rfl; have v14 := sb.cell 14 rfl; have I2 := Lib.hid (NX.out _ hj); clear hj hke sb)
                        | (go_at_call 20; (with_reducible refine (OO.out _ I2.out).mono ?_); rintro en w4 ⟨rfl, hi4⟩; obtain ⟨zp0, zp1, zp2, zp3, zp4, zp5⟩ := hi4.box.port; obtain ⟨zl0, zl1, zl2, zl3, zl4, zl5, zl6, zl7, zl8, zl9, zl10, zl11⟩ := hi4.lb.lie; have ltp := hi4.box.lt; have ltl := hi4.lb.lt; have nep : w.heap.size ≠ w4.heap.size := (by omega); have nel : bl ≠ w4.heap.size := (by omega); have I4 := Lib.hid (hi4.alloc (.cells #[.int .i64 0, .int .i64 ol, .int .i64 ov, .int .i64 oc] 41)); clear hi4)
                        | (go_at_call 21; (with_reducible refine (ST.out _ I4.out.one.e).mono ?_); rintro en w5 ⟨rfl, rfl⟩))
                  go_roundw
                  case rel => exact ⟨k + 1, f, x, by go_num, by omega, by omega, I4⟩
                  case measure => simp [intOf]; omega
        · have b0 : (s.d == 0) = false := by simpa using cd
          clear cd
          by_cases cd : s.d = 1
          · have LV := Lib.hid IA.out.lev
            have b1 : (s.d == 1) = true := by simpa using cd
            have tk := fun W (q : ThrI w b bl e x W) => thr_tick q s.now
            have lk := tick_link IA.out.link s.now
            have hin := tickE_inv IA.out.inv s.now
            obtain ⟨r, hr⟩ : ∃ r, (tickE e s.now).1 = r := ⟨_, rfl⟩
            obtain ⟨f, hf⟩ : ∃ f, (tickE e s.now).2 = f := ⟨_, rfl⟩
            rw [hr, hf] at tk
            rw [hf] at lk hin
            have TK1 := Lib.hid tk
            have LK := Lib.hid lk
            have IN := Lib.hid hin
            clear hf hr tk lk hin cd
            have oo := fun W (q : ThrI w b bl f x W) => thr_other q
            have st := fun W (q : EndP 56 W b f) => state_any q
            obtain ⟨ov, hov⟩ : ∃ z, f.o.level = z := ⟨_, rfl⟩
            obtain ⟨oc, hoc⟩ : ∃ z, f.o.nonce = z := ⟨_, rfl⟩
            simp only [hov, hoc] at oo
            clear hov hoc
            by_cases s2 : f.s = 2
            · as_aux_lemma =>
                have on : f.o.node ≠ 0 := IN.out.heard.2 (.inr s2)
                have lk := LK.out.1 on
                have lk2 := LK.out.2 s2
                rw [decide_eq_true on] at oo
                simp only [lk.1, lk.2.1] at oo
                simp only [s2] at st
                have OO := Lib.hid oo
                have ST := Lib.hid st
                have QS := Lib.hid lk2
                have AC : RowKit.Hid (∀ W1, Calls Try.prog 10 #[.agg #[.int .i64 f.p.node, .int .i64 f.p.level, .int .i64 f.p.pod, .int .i64 f.p.mtu, .int .i64 f.p.link, .int .i64 f.p.hold], .agg #[.int .i64 x.node, .int .i64 x.level, .int .i64 x.pod, .int .i64 x.mtu, .int .i64 x.link, .int .i64 x.nonce, .int .i64 f.p.node, .int .i64 f.p.link, .int .i64 x.seenNonce, .int .i64 x.hold, .bool x.rep, .bool x.noOffer]] W1 fun en W' => en = .returned (.bool true) ∧ Below W1.heap.size W1 W') := fun W1 =>
                  (accepts_any f.p { x with seen := f.p.node, seenLink := f.p.link } (by have := IN.out.port.2.1; omega) LV.out W1).mono fun en W' k => ⟨by rw [k.1.dec, decide_eq_true (show accB f.p { x with seen := f.p.node, seenLink := f.p.link } from lk.2.2)], k.2⟩
                clear oo st on lk lk2 s2
                go_wp2_with (first
                      | (go_at_call 16; (with_reducible refine (TK1.out _ IA.out).mono ?_); rintro en w2 ⟨rfl, hj⟩; have I2 := Lib.hid hj; clear hj)
                      | (go_at_call 20; (with_reducible refine (OO.out _ I2.out).mono ?_); rintro en w4 ⟨rfl, hi4⟩; obtain ⟨zp0, zp1, zp2, zp3, zp4, zp5⟩ := hi4.box.port; obtain ⟨zl0, zl1, zl2, zl3, zl4, zl5, zl6, zl7, zl8, zl9, zl10, zl11⟩ := hi4.lb.lie; rw [QS.out.1] at zl6; rw [QS.out.2] at zl7; have ltp := hi4.box.lt; have ltl := hi4.lb.lt; have nep : w.heap.size ≠ w4.heap.size := (by omega); have nel : bl ≠ w4.heap.size := (by omega); have I4 := Lib.hid (hi4.alloc (.cells #[.int .i64 x.node, .int .i64 x.link, .int .i64 ov, .int .i64 oc] 41)); clear hi4)
                      | (go_at_call 21; (with_reducible refine (ST.out _ I4.out.one.e).mono ?_); rintro en w5 ⟨rfl, rfl⟩)
                      | (go_at_call 10; (with_reducible refine (AC.out _).mono ?_); rintro en w6 ⟨rfl, hb6⟩; have I6 := Lib.hid (I4.out.below hb6); obtain ⟨wp0, wp1, wp2, wp3, wp4, wp5⟩ := I6.out.box.port; obtain ⟨wl0, wl1, wl2, wl3, wl4, wl5, wl6, wl7, wl8, wl9, wl10, wl11⟩ := I6.out.lb.lie; rw [QS.out.1] at wl6; rw [QS.out.2] at wl7; clear hb6))
                go_roundw
                case rel => exact ⟨k + 1, f, x, by go_num, by omega, by omega, I6⟩
                case measure => simp [intOf]; omega
            · by_cases s1 : f.s = 1
              · as_aux_lemma =>
                  have on : f.o.node ≠ 0 := IN.out.heard.2 (.inl s1)
                  have lk := LK.out.1 on
                  rw [decide_eq_true on] at oo
                  simp only [lk.1, lk.2.1] at oo
                  simp only [s1] at st
                  have OO := Lib.hid oo
                  have ST := Lib.hid st
                  have AC : RowKit.Hid (∀ W1, Calls Try.prog 10 #[.agg #[.int .i64 f.p.node, .int .i64 f.p.level, .int .i64 f.p.pod, .int .i64 f.p.mtu, .int .i64 f.p.link, .int .i64 f.p.hold], .agg #[.int .i64 x.node, .int .i64 x.level, .int .i64 x.pod, .int .i64 x.mtu, .int .i64 x.link, .int .i64 x.nonce, .int .i64 x.seen, .int .i64 x.seenLink, .int .i64 x.seenNonce, .int .i64 x.hold, .bool x.rep, .bool x.noOffer]] W1 fun en W' => en = .returned (.bool true) ∧ Below W1.heap.size W1 W') := fun W1 =>
                    (accepts_any f.p _ (by have := IN.out.port.2.1; omega) LV.out W1).mono fun en W' k => ⟨by rw [k.1.dec, decide_eq_true lk.2.2], k.2⟩
                  clear oo st on lk s1
                  go_wp2_with (first
                        | (go_at_call 16; (with_reducible refine (TK1.out _ IA.out).mono ?_); rintro en w2 ⟨rfl, hj⟩; have I2 := Lib.hid hj; clear hj)
                        | (go_at_call 20; (with_reducible refine (OO.out _ I2.out).mono ?_); rintro en w4 ⟨rfl, hi4⟩; obtain ⟨zp0, zp1, zp2, zp3, zp4, zp5⟩ := hi4.box.port; obtain ⟨zl0, zl1, zl2, zl3, zl4, zl5, zl6, zl7, zl8, zl9, zl10, zl11⟩ := hi4.lb.lie; have ltp := hi4.box.lt; have ltl := hi4.lb.lt; have nep : w.heap.size ≠ w4.heap.size := (by omega); have nel : bl ≠ w4.heap.size := (by omega); have I4 := Lib.hid (hi4.alloc (.cells #[.int .i64 x.node, .int .i64 x.link, .int .i64 ov, .int .i64 oc] 41)); clear hi4)
                        | (go_at_call 21; (with_reducible refine (ST.out _ I4.out.one.e).mono ?_); rintro en w5 ⟨rfl, rfl⟩)
                        | (go_at_call 10; (with_reducible refine (AC.out _).mono ?_); rintro en w6 ⟨rfl, hb6⟩; have I6 := Lib.hid (I4.out.below hb6); obtain ⟨wp0, wp1, wp2, wp3, wp4, wp5⟩ := I6.out.box.port; obtain ⟨wl0, wl1, wl2, wl3, wl4, wl5, wl6, wl7, wl8, wl9, wl10, wl11⟩ := I6.out.lb.lie; clear hb6))
                  go_roundw
                  case rel => exact ⟨k + 1, f, x, by go_num, by omega, by omega, I6⟩
                  case measure => simp [intOf]; omega
              · as_aux_lemma =>
                  have on : f.o.node = 0 := by
                    by_cases q : f.o.node = 0
                    · exact q
                    · rcases IN.out.heard.1 q with q | q
                      · exact absurd q s1
                      · exact absurd q s2
                  obtain ⟨ol, hol⟩ : ∃ z, f.o.link = z := ⟨_, rfl⟩
                  obtain ⟨sv, hsv⟩ : ∃ z, f.s = z := ⟨_, rfl⟩
                  simp only [on, hol, ne_eq, not_true_eq_false, decide_false] at oo
                  simp only [hsv] at st
                  rw [hsv] at s1 s2
                  have sb2 : (sv == 2) = false := by simpa using s2
                  have sb1 : (sv == 1) = false := by simpa using s1
                  clear s1 s2
                  have OO := Lib.hid oo
                  have ST := Lib.hid st
                  clear oo st on hol hsv
                  go_wp2_with (first
                        | (go_at_call 16; (with_reducible refine (TK1.out _ IA.out).mono ?_); rintro en w2 ⟨rfl, hj⟩; have I2 := Lib.hid hj; clear hj)
                        | (go_at_call 20; (with_reducible refine (OO.out _ I2.out).mono ?_); rintro en w4 ⟨rfl, hi4⟩; obtain ⟨zp0, zp1, zp2, zp3, zp4, zp5⟩ := hi4.box.port; obtain ⟨zl0, zl1, zl2, zl3, zl4, zl5, zl6, zl7, zl8, zl9, zl10, zl11⟩ := hi4.lb.lie; have ltp := hi4.box.lt; have ltl := hi4.lb.lt; have nep : w.heap.size ≠ w4.heap.size := (by omega); have nel : bl ≠ w4.heap.size := (by omega); have I4 := Lib.hid (hi4.alloc (.cells #[.int .i64 0, .int .i64 ol, .int .i64 ov, .int .i64 oc] 41)); clear hi4)
                        | (go_at_call 21; (with_reducible refine (ST.out _ I4.out.one.e).mono ?_); rintro en w5 ⟨rfl, rfl⟩))
                  go_roundw
                  case rel => exact ⟨k + 1, f, x, by go_num, by omega, by omega, I4⟩
                  case measure => simp [intOf]; omega
          · have b1 : (s.d == 1) = false := by simpa using cd
            clear cd
            by_cases cd : s.d = 2
            · by_cases cr : (levelE e s.n).1 = 0
              · have LV := Lib.hid IA.out.lev
                have b2 : (s.d == 2) = true := by simpa using cd
                have tk := fun W (q : ThrI w b bl e x W) => thr_level q s.n
                have lk := level_link IA.out.link s.n
                have hpp := level_p e s.n
                have hin := levelE_inv IA.out.inv s.n
                rw [if_pos cr] at hpp
                rw [cr] at tk
                obtain ⟨f, hf⟩ : ∃ f, (levelE e s.n).2 = f := ⟨_, rfl⟩
                rw [hf] at tk lk hpp hin
                have nx : ∀ W2, ThrJ w b bl e f x W2 → ThrI w b bl f x (W2.setCell ⟨w.heap.size, 1, none⟩ (.int .i64 s.n)) := fun W2 q => q.level s.n hpp lk
                have TK1 := Lib.hid tk
                have NX := Lib.hid nx
                have LK := Lib.hid lk
                have IN := Lib.hid hin
                clear hf tk nx lk hpp hin cr cd
                have oo := fun W (q : ThrI w b bl f x W) => thr_other q
                have st := fun W (q : EndP 56 W b f) => state_any q
                obtain ⟨ov, hov⟩ : ∃ z, f.o.level = z := ⟨_, rfl⟩
                obtain ⟨oc, hoc⟩ : ∃ z, f.o.nonce = z := ⟨_, rfl⟩
                simp only [hov, hoc] at oo
                clear hov hoc
                by_cases s2 : f.s = 2
                · as_aux_lemma =>
                    have on : f.o.node ≠ 0 := IN.out.heard.2 (.inr s2)
                    have lk := LK.out.1 on
                    have lk2 := LK.out.2 s2
                    rw [decide_eq_true on] at oo
                    simp only [lk.1, lk.2.1] at oo
                    simp only [s2] at st
                    have OO := Lib.hid oo
                    have ST := Lib.hid st
                    have QS := Lib.hid lk2
                    have AC : RowKit.Hid (∀ W1, Calls Try.prog 10 #[.agg #[.int .i64 f.p.node, .int .i64 f.p.level, .int .i64 f.p.pod, .int .i64 f.p.mtu, .int .i64 f.p.link, .int .i64 f.p.hold], .agg #[.int .i64 x.node, .int .i64 x.level, .int .i64 x.pod, .int .i64 x.mtu, .int .i64 x.link, .int .i64 x.nonce, .int .i64 f.p.node, .int .i64 f.p.link, .int .i64 x.seenNonce, .int .i64 x.hold, .bool x.rep, .bool x.noOffer]] W1 fun en W' => en = .returned (.bool true) ∧ Below W1.heap.size W1 W') := fun W1 =>
                      (accepts_any f.p { x with seen := f.p.node, seenLink := f.p.link } (by have := IN.out.port.2.1; omega) LV.out W1).mono fun en W' k => ⟨by rw [k.1.dec, decide_eq_true (show accB f.p { x with seen := f.p.node, seenLink := f.p.link } from lk.2.2)], k.2⟩
                    clear oo st on lk lk2 s2
                    go_wp2_with (first
                          | (go_at_call 18; (with_reducible refine (TK1.out _ IA.out).mono ?_); rintro en w2 ⟨rfl, hj, hke⟩; have sb := SB.out.keep hke (by decide) (by decide); have v0 := sb.cell 0 rfl; have v1 := sb.cell 1 rfl; have v2 := sb.cell 2 rfl; have v3 := sb.cell 3 rfl; have v4 := sb.cell 4 rfl; have v5 := sb.cell 5 rfl; have v6 := sb.cell 6 rfl; have v7 := sb.cell 7 rfl; have v8 := sb.cell 8 rfl; have v9 := sb.cell 9 rfl; have v10 := sb.cell 10 rfl; have v11 := sb.cell 11 rfl; have v12 := sb.cell 12 rfl; have v13 := sb.cell 13 rfl; have v14 := sb.cell 14 rfl; obtain ⟨g0, g1, g2, g3, g4, g5⟩ := hj.box.port; have gz := hj.box.frozen; obtain ⟨C, hC⟩ : ∃ C, w2.setCell ⟨w.heap.size, 1, none⟩ (.int .i64 s.n) = C := ⟨_, rfl⟩; have hi := NX.out _ hj; rw [hC] at hi; have HC := Lib.hid hC; have I2 := Lib.hid hi; clear hj hke sb hC hi)
                          | (go_at_call 20; rw [HC.out]; (with_reducible refine (OO.out _ I2.out).mono ?_); rintro en w4 ⟨rfl, hi4⟩; obtain ⟨zp0, zp1, zp2, zp3, zp4, zp5⟩ := hi4.box.port; obtain ⟨zl0, zl1, zl2, zl3, zl4, zl5, zl6, zl7, zl8, zl9, zl10, zl11⟩ := hi4.lb.lie; rw [QS.out.1] at zl6; rw [QS.out.2] at zl7; have ltp := hi4.box.lt; have ltl := hi4.lb.lt; have nep : w.heap.size ≠ w4.heap.size := (by omega); have nel : bl ≠ w4.heap.size := (by omega); have I4 := Lib.hid (hi4.alloc (.cells #[.int .i64 x.node, .int .i64 x.link, .int .i64 ov, .int .i64 oc] 41)); clear hi4)
                          | (go_at_call 21; (with_reducible refine (ST.out _ I4.out.one.e).mono ?_); rintro en w5 ⟨rfl, rfl⟩)
                          | (go_at_call 10; (with_reducible refine (AC.out _).mono ?_); rintro en w6 ⟨rfl, hb6⟩; have I6 := Lib.hid (I4.out.below hb6); obtain ⟨wp0, wp1, wp2, wp3, wp4, wp5⟩ := I6.out.box.port; obtain ⟨wl0, wl1, wl2, wl3, wl4, wl5, wl6, wl7, wl8, wl9, wl10, wl11⟩ := I6.out.lb.lie; rw [QS.out.1] at wl6; rw [QS.out.2] at wl7; clear hb6))
                    go_roundw
                    case rel => exact ⟨k + 1, f, x, by go_num, by omega, by omega, I6⟩
                    case measure => simp [intOf]; omega
                · by_cases s1 : f.s = 1
                  · as_aux_lemma =>
                      have on : f.o.node ≠ 0 := IN.out.heard.2 (.inl s1)
                      have lk := LK.out.1 on
                      rw [decide_eq_true on] at oo
                      simp only [lk.1, lk.2.1] at oo
                      simp only [s1] at st
                      have OO := Lib.hid oo
                      have ST := Lib.hid st
                      have AC : RowKit.Hid (∀ W1, Calls Try.prog 10 #[.agg #[.int .i64 f.p.node, .int .i64 f.p.level, .int .i64 f.p.pod, .int .i64 f.p.mtu, .int .i64 f.p.link, .int .i64 f.p.hold], .agg #[.int .i64 x.node, .int .i64 x.level, .int .i64 x.pod, .int .i64 x.mtu, .int .i64 x.link, .int .i64 x.nonce, .int .i64 x.seen, .int .i64 x.seenLink, .int .i64 x.seenNonce, .int .i64 x.hold, .bool x.rep, .bool x.noOffer]] W1 fun en W' => en = .returned (.bool true) ∧ Below W1.heap.size W1 W') := fun W1 =>
                        (accepts_any f.p _ (by have := IN.out.port.2.1; omega) LV.out W1).mono fun en W' k => ⟨by rw [k.1.dec, decide_eq_true lk.2.2], k.2⟩
                      clear oo st on lk s1
                      go_wp2_with (first
                            | (go_at_call 18; (with_reducible refine (TK1.out _ IA.out).mono ?_); rintro en w2 ⟨rfl, hj, hke⟩; have sb := SB.out.keep hke (by decide) (by decide); have v0 := sb.cell 0 rfl; have v1 := sb.cell 1 rfl; have v2 := sb.cell 2 rfl; have v3 := sb.cell 3 rfl; have v4 := sb.cell 4 rfl; have v5 := sb.cell 5 rfl; have v6 := sb.cell 6 rfl; have v7 := sb.cell 7 rfl; have v8 := sb.cell 8 rfl; have v9 := sb.cell 9 rfl; have v10 := sb.cell 10 rfl; have v11 := sb.cell 11 rfl; have v12 := sb.cell 12 rfl; have v13 := sb.cell 13 rfl; have v14 := sb.cell 14 rfl; obtain ⟨g0, g1, g2, g3, g4, g5⟩ := hj.box.port; have gz := hj.box.frozen; obtain ⟨C, hC⟩ : ∃ C, w2.setCell ⟨w.heap.size, 1, none⟩ (.int .i64 s.n) = C := ⟨_, rfl⟩; have hi := NX.out _ hj; rw [hC] at hi; have HC := Lib.hid hC; have I2 := Lib.hid hi; clear hj hke sb hC hi)
                            | (go_at_call 20; rw [HC.out]; (with_reducible refine (OO.out _ I2.out).mono ?_); rintro en w4 ⟨rfl, hi4⟩; obtain ⟨zp0, zp1, zp2, zp3, zp4, zp5⟩ := hi4.box.port; obtain ⟨zl0, zl1, zl2, zl3, zl4, zl5, zl6, zl7, zl8, zl9, zl10, zl11⟩ := hi4.lb.lie; have ltp := hi4.box.lt; have ltl := hi4.lb.lt; have nep : w.heap.size ≠ w4.heap.size := (by omega); have nel : bl ≠ w4.heap.size := (by omega); have I4 := Lib.hid (hi4.alloc (.cells #[.int .i64 x.node, .int .i64 x.link, .int .i64 ov, .int .i64 oc] 41)); clear hi4)
                            | (go_at_call 21; (with_reducible refine (ST.out _ I4.out.one.e).mono ?_); rintro en w5 ⟨rfl, rfl⟩)
                            | (go_at_call 10; (with_reducible refine (AC.out _).mono ?_); rintro en w6 ⟨rfl, hb6⟩; have I6 := Lib.hid (I4.out.below hb6); obtain ⟨wp0, wp1, wp2, wp3, wp4, wp5⟩ := I6.out.box.port; obtain ⟨wl0, wl1, wl2, wl3, wl4, wl5, wl6, wl7, wl8, wl9, wl10, wl11⟩ := I6.out.lb.lie; clear hb6))
                      go_roundw
                      case rel => exact ⟨k + 1, f, x, by go_num, by omega, by omega, I6⟩
                      case measure => simp [intOf]; omega
                  · as_aux_lemma =>
                      have on : f.o.node = 0 := by
                        by_cases q : f.o.node = 0
                        · exact q
                        · rcases IN.out.heard.1 q with q | q
                          · exact absurd q s1
                          · exact absurd q s2
                      obtain ⟨ol, hol⟩ : ∃ z, f.o.link = z := ⟨_, rfl⟩
                      obtain ⟨sv, hsv⟩ : ∃ z, f.s = z := ⟨_, rfl⟩
                      simp only [on, hol, ne_eq, not_true_eq_false, decide_false] at oo
                      simp only [hsv] at st
                      rw [hsv] at s1 s2
                      have sb2 : (sv == 2) = false := by simpa using s2
                      have sb1 : (sv == 1) = false := by simpa using s1
                      clear s1 s2
                      have OO := Lib.hid oo
                      have ST := Lib.hid st
                      clear oo st on hol hsv
                      go_wp2_with (first
                            | (go_at_call 18; (with_reducible refine (TK1.out _ IA.out).mono ?_); rintro en w2 ⟨rfl, hj, hke⟩; have sb := SB.out.keep hke (by decide) (by decide); have v0 := sb.cell 0 rfl; have v1 := sb.cell 1 rfl; have v2 := sb.cell 2 rfl; have v3 := sb.cell 3 rfl; have v4 := sb.cell 4 rfl; have v5 := sb.cell 5 rfl; have v6 := sb.cell 6 rfl; have v7 := sb.cell 7 rfl; have v8 := sb.cell 8 rfl; have v9 := sb.cell 9 rfl; have v10 := sb.cell 10 rfl; have v11 := sb.cell 11 rfl; have v12 := sb.cell 12 rfl; have v13 := sb.cell 13 rfl; have v14 := sb.cell 14 rfl; obtain ⟨g0, g1, g2, g3, g4, g5⟩ := hj.box.port; have gz := hj.box.frozen; obtain ⟨C, hC⟩ : ∃ C, w2.setCell ⟨w.heap.size, 1, none⟩ (.int .i64 s.n) = C := ⟨_, rfl⟩; have hi := NX.out _ hj; rw [hC] at hi; have HC := Lib.hid hC; have I2 := Lib.hid hi; clear hj hke sb hC hi)
                            | (go_at_call 20; rw [HC.out]; (with_reducible refine (OO.out _ I2.out).mono ?_); rintro en w4 ⟨rfl, hi4⟩; obtain ⟨zp0, zp1, zp2, zp3, zp4, zp5⟩ := hi4.box.port; obtain ⟨zl0, zl1, zl2, zl3, zl4, zl5, zl6, zl7, zl8, zl9, zl10, zl11⟩ := hi4.lb.lie; have ltp := hi4.box.lt; have ltl := hi4.lb.lt; have nep : w.heap.size ≠ w4.heap.size := (by omega); have nel : bl ≠ w4.heap.size := (by omega); have I4 := Lib.hid (hi4.alloc (.cells #[.int .i64 0, .int .i64 ol, .int .i64 ov, .int .i64 oc] 41)); clear hi4)
                            | (go_at_call 21; (with_reducible refine (ST.out _ I4.out.one.e).mono ?_); rintro en w5 ⟨rfl, rfl⟩))
                      go_roundw
                      case rel => exact ⟨k + 1, f, x, by go_num, by omega, by omega, I4⟩
                      case measure => simp [intOf]; omega
              · have LV := Lib.hid IA.out.lev
                have b2 : (s.d == 2) = true := by simpa using cd
                have tk := fun W (q : ThrI w b bl e x W) => thr_level q s.n
                have lk := level_link IA.out.link s.n
                have hpp := level_p e s.n
                have hin := levelE_inv IA.out.inv s.n
                rw [if_neg cr] at hpp
                obtain ⟨r, hr⟩ : ∃ r, (levelE e s.n).1 = r := ⟨_, rfl⟩
                rw [hr] at tk cr
                obtain ⟨f, hf⟩ : ∃ f, (levelE e s.n).2 = f := ⟨_, rfl⟩
                rw [hf] at tk lk hpp hin
                have nx : ∀ W2, ThrJ w b bl e f x W2 → ThrI w b bl f x W2 := fun W2 q => q.same hpp lk
                have TK1 := Lib.hid tk
                have NX := Lib.hid nx
                have LK := Lib.hid lk
                have IN := Lib.hid hin
                clear hf hr tk nx lk hpp hin cd
                have oo := fun W (q : ThrI w b bl f x W) => thr_other q
                have st := fun W (q : EndP 56 W b f) => state_any q
                obtain ⟨ov, hov⟩ : ∃ z, f.o.level = z := ⟨_, rfl⟩
                obtain ⟨oc, hoc⟩ : ∃ z, f.o.nonce = z := ⟨_, rfl⟩
                simp only [hov, hoc] at oo
                clear hov hoc
                by_cases s2 : f.s = 2
                · as_aux_lemma =>
                    have on : f.o.node ≠ 0 := IN.out.heard.2 (.inr s2)
                    have lk := LK.out.1 on
                    have lk2 := LK.out.2 s2
                    rw [decide_eq_true on] at oo
                    simp only [lk.1, lk.2.1] at oo
                    simp only [s2] at st
                    have OO := Lib.hid oo
                    have ST := Lib.hid st
                    have QS := Lib.hid lk2
                    have AC : RowKit.Hid (∀ W1, Calls Try.prog 10 #[.agg #[.int .i64 f.p.node, .int .i64 f.p.level, .int .i64 f.p.pod, .int .i64 f.p.mtu, .int .i64 f.p.link, .int .i64 f.p.hold], .agg #[.int .i64 x.node, .int .i64 x.level, .int .i64 x.pod, .int .i64 x.mtu, .int .i64 x.link, .int .i64 x.nonce, .int .i64 f.p.node, .int .i64 f.p.link, .int .i64 x.seenNonce, .int .i64 x.hold, .bool x.rep, .bool x.noOffer]] W1 fun en W' => en = .returned (.bool true) ∧ Below W1.heap.size W1 W') := fun W1 =>
                      (accepts_any f.p { x with seen := f.p.node, seenLink := f.p.link } (by have := IN.out.port.2.1; omega) LV.out W1).mono fun en W' k => ⟨by rw [k.1.dec, decide_eq_true (show accB f.p { x with seen := f.p.node, seenLink := f.p.link } from lk.2.2)], k.2⟩
                    clear oo st on lk lk2 s2
                    go_wp2_with (first
                          | (go_at_call 18; (with_reducible refine (TK1.out _ IA.out).mono ?_); rintro en w2 ⟨rfl, hj, hke⟩; have I2 := Lib.hid (NX.out _ hj); clear hj hke)
                          | (go_at_call 20; (with_reducible refine (OO.out _ I2.out).mono ?_); rintro en w4 ⟨rfl, hi4⟩; obtain ⟨zp0, zp1, zp2, zp3, zp4, zp5⟩ := hi4.box.port; obtain ⟨zl0, zl1, zl2, zl3, zl4, zl5, zl6, zl7, zl8, zl9, zl10, zl11⟩ := hi4.lb.lie; rw [QS.out.1] at zl6; rw [QS.out.2] at zl7; have ltp := hi4.box.lt; have ltl := hi4.lb.lt; have nep : w.heap.size ≠ w4.heap.size := (by omega); have nel : bl ≠ w4.heap.size := (by omega); have I4 := Lib.hid (hi4.alloc (.cells #[.int .i64 x.node, .int .i64 x.link, .int .i64 ov, .int .i64 oc] 41)); clear hi4)
                          | (go_at_call 21; (with_reducible refine (ST.out _ I4.out.one.e).mono ?_); rintro en w5 ⟨rfl, rfl⟩)
                          | (go_at_call 10; (with_reducible refine (AC.out _).mono ?_); rintro en w6 ⟨rfl, hb6⟩; have I6 := Lib.hid (I4.out.below hb6); obtain ⟨wp0, wp1, wp2, wp3, wp4, wp5⟩ := I6.out.box.port; obtain ⟨wl0, wl1, wl2, wl3, wl4, wl5, wl6, wl7, wl8, wl9, wl10, wl11⟩ := I6.out.lb.lie; rw [QS.out.1] at wl6; rw [QS.out.2] at wl7; clear hb6))
                    go_roundw
                    case rel => exact ⟨k + 1, f, x, by go_num, by omega, by omega, I6⟩
                    case measure => simp [intOf]; omega
                · by_cases s1 : f.s = 1
                  · as_aux_lemma =>
                      have on : f.o.node ≠ 0 := IN.out.heard.2 (.inl s1)
                      have lk := LK.out.1 on
                      rw [decide_eq_true on] at oo
                      simp only [lk.1, lk.2.1] at oo
                      simp only [s1] at st
                      have OO := Lib.hid oo
                      have ST := Lib.hid st
                      have AC : RowKit.Hid (∀ W1, Calls Try.prog 10 #[.agg #[.int .i64 f.p.node, .int .i64 f.p.level, .int .i64 f.p.pod, .int .i64 f.p.mtu, .int .i64 f.p.link, .int .i64 f.p.hold], .agg #[.int .i64 x.node, .int .i64 x.level, .int .i64 x.pod, .int .i64 x.mtu, .int .i64 x.link, .int .i64 x.nonce, .int .i64 x.seen, .int .i64 x.seenLink, .int .i64 x.seenNonce, .int .i64 x.hold, .bool x.rep, .bool x.noOffer]] W1 fun en W' => en = .returned (.bool true) ∧ Below W1.heap.size W1 W') := fun W1 =>
                        (accepts_any f.p _ (by have := IN.out.port.2.1; omega) LV.out W1).mono fun en W' k => ⟨by rw [k.1.dec, decide_eq_true lk.2.2], k.2⟩
                      clear oo st on lk s1
                      go_wp2_with (first
                            | (go_at_call 18; (with_reducible refine (TK1.out _ IA.out).mono ?_); rintro en w2 ⟨rfl, hj, hke⟩; have I2 := Lib.hid (NX.out _ hj); clear hj hke)
                            | (go_at_call 20; (with_reducible refine (OO.out _ I2.out).mono ?_); rintro en w4 ⟨rfl, hi4⟩; obtain ⟨zp0, zp1, zp2, zp3, zp4, zp5⟩ := hi4.box.port; obtain ⟨zl0, zl1, zl2, zl3, zl4, zl5, zl6, zl7, zl8, zl9, zl10, zl11⟩ := hi4.lb.lie; have ltp := hi4.box.lt; have ltl := hi4.lb.lt; have nep : w.heap.size ≠ w4.heap.size := (by omega); have nel : bl ≠ w4.heap.size := (by omega); have I4 := Lib.hid (hi4.alloc (.cells #[.int .i64 x.node, .int .i64 x.link, .int .i64 ov, .int .i64 oc] 41)); clear hi4)
                            | (go_at_call 21; (with_reducible refine (ST.out _ I4.out.one.e).mono ?_); rintro en w5 ⟨rfl, rfl⟩)
                            | (go_at_call 10; (with_reducible refine (AC.out _).mono ?_); rintro en w6 ⟨rfl, hb6⟩; have I6 := Lib.hid (I4.out.below hb6); obtain ⟨wp0, wp1, wp2, wp3, wp4, wp5⟩ := I6.out.box.port; obtain ⟨wl0, wl1, wl2, wl3, wl4, wl5, wl6, wl7, wl8, wl9, wl10, wl11⟩ := I6.out.lb.lie; clear hb6))
                      go_roundw
                      case rel => exact ⟨k + 1, f, x, by go_num, by omega, by omega, I6⟩
                      case measure => simp [intOf]; omega
                  · as_aux_lemma =>
                      have on : f.o.node = 0 := by
                        by_cases q : f.o.node = 0
                        · exact q
                        · rcases IN.out.heard.1 q with q | q
                          · exact absurd q s1
                          · exact absurd q s2
                      obtain ⟨ol, hol⟩ : ∃ z, f.o.link = z := ⟨_, rfl⟩
                      obtain ⟨sv, hsv⟩ : ∃ z, f.s = z := ⟨_, rfl⟩
                      simp only [on, hol, ne_eq, not_true_eq_false, decide_false] at oo
                      simp only [hsv] at st
                      rw [hsv] at s1 s2
                      have sb2 : (sv == 2) = false := by simpa using s2
                      have sb1 : (sv == 1) = false := by simpa using s1
                      clear s1 s2
                      have OO := Lib.hid oo
                      have ST := Lib.hid st
                      clear oo st on hol hsv
                      go_wp2_with (first
                            | (go_at_call 18; (with_reducible refine (TK1.out _ IA.out).mono ?_); rintro en w2 ⟨rfl, hj, hke⟩; have I2 := Lib.hid (NX.out _ hj); clear hj hke)
                            | (go_at_call 20; (with_reducible refine (OO.out _ I2.out).mono ?_); rintro en w4 ⟨rfl, hi4⟩; obtain ⟨zp0, zp1, zp2, zp3, zp4, zp5⟩ := hi4.box.port; obtain ⟨zl0, zl1, zl2, zl3, zl4, zl5, zl6, zl7, zl8, zl9, zl10, zl11⟩ := hi4.lb.lie; have ltp := hi4.box.lt; have ltl := hi4.lb.lt; have nep : w.heap.size ≠ w4.heap.size := (by omega); have nel : bl ≠ w4.heap.size := (by omega); have I4 := Lib.hid (hi4.alloc (.cells #[.int .i64 0, .int .i64 ol, .int .i64 ov, .int .i64 oc] 41)); clear hi4)
                            | (go_at_call 21; (with_reducible refine (ST.out _ I4.out.one.e).mono ?_); rintro en w5 ⟨rfl, rfl⟩))
                      go_roundw
                      case rel => exact ⟨k + 1, f, x, by go_num, by omega, by omega, I4⟩
                      case measure => simp [intOf]; omega
            · have b2 : (s.d == 2) = false := by simpa using cd
              clear cd
              have LV := Lib.hid IA.out.lev
              have lk := IA.out.link
              have hin := IA.out.inv
              obtain ⟨f, hf⟩ : ∃ f, e = f := ⟨_, rfl⟩
              rw [hf] at IA lk hin
              have I2 := IA
              have LK := Lib.hid lk
              have IN := Lib.hid hin
              clear hf lk hin
              have oo := fun W (q : ThrI w b bl f x W) => thr_other q
              have st := fun W (q : EndP 56 W b f) => state_any q
              obtain ⟨ov, hov⟩ : ∃ z, f.o.level = z := ⟨_, rfl⟩
              obtain ⟨oc, hoc⟩ : ∃ z, f.o.nonce = z := ⟨_, rfl⟩
              simp only [hov, hoc] at oo
              clear hov hoc
              by_cases s2 : f.s = 2
              · as_aux_lemma =>
                  have on : f.o.node ≠ 0 := IN.out.heard.2 (.inr s2)
                  have lk := LK.out.1 on
                  have lk2 := LK.out.2 s2
                  rw [decide_eq_true on] at oo
                  simp only [lk.1, lk.2.1] at oo
                  simp only [s2] at st
                  have OO := Lib.hid oo
                  have ST := Lib.hid st
                  have QS := Lib.hid lk2
                  have AC : RowKit.Hid (∀ W1, Calls Try.prog 10 #[.agg #[.int .i64 f.p.node, .int .i64 f.p.level, .int .i64 f.p.pod, .int .i64 f.p.mtu, .int .i64 f.p.link, .int .i64 f.p.hold], .agg #[.int .i64 x.node, .int .i64 x.level, .int .i64 x.pod, .int .i64 x.mtu, .int .i64 x.link, .int .i64 x.nonce, .int .i64 f.p.node, .int .i64 f.p.link, .int .i64 x.seenNonce, .int .i64 x.hold, .bool x.rep, .bool x.noOffer]] W1 fun en W' => en = .returned (.bool true) ∧ Below W1.heap.size W1 W') := fun W1 =>
                    (accepts_any f.p { x with seen := f.p.node, seenLink := f.p.link } (by have := IN.out.port.2.1; omega) LV.out W1).mono fun en W' k => ⟨by rw [k.1.dec, decide_eq_true (show accB f.p { x with seen := f.p.node, seenLink := f.p.link } from lk.2.2)], k.2⟩
                  clear oo st on lk lk2 s2
                  go_wp2_with (first
                        | (go_at_call 20; (with_reducible refine (OO.out _ I2.out).mono ?_); rintro en w4 ⟨rfl, hi4⟩; obtain ⟨zp0, zp1, zp2, zp3, zp4, zp5⟩ := hi4.box.port; obtain ⟨zl0, zl1, zl2, zl3, zl4, zl5, zl6, zl7, zl8, zl9, zl10, zl11⟩ := hi4.lb.lie; rw [QS.out.1] at zl6; rw [QS.out.2] at zl7; have ltp := hi4.box.lt; have ltl := hi4.lb.lt; have nep : w.heap.size ≠ w4.heap.size := (by omega); have nel : bl ≠ w4.heap.size := (by omega); have I4 := Lib.hid (hi4.alloc (.cells #[.int .i64 x.node, .int .i64 x.link, .int .i64 ov, .int .i64 oc] 41)); clear hi4)
                        | (go_at_call 21; (with_reducible refine (ST.out _ I4.out.one.e).mono ?_); rintro en w5 ⟨rfl, rfl⟩)
                        | (go_at_call 10; (with_reducible refine (AC.out _).mono ?_); rintro en w6 ⟨rfl, hb6⟩; have I6 := Lib.hid (I4.out.below hb6); obtain ⟨wp0, wp1, wp2, wp3, wp4, wp5⟩ := I6.out.box.port; obtain ⟨wl0, wl1, wl2, wl3, wl4, wl5, wl6, wl7, wl8, wl9, wl10, wl11⟩ := I6.out.lb.lie; rw [QS.out.1] at wl6; rw [QS.out.2] at wl7; clear hb6))
                  go_roundw
                  case rel => exact ⟨k + 1, f, x, by go_num, by omega, by omega, I6⟩
                  case measure => simp [intOf]; omega
              · by_cases s1 : f.s = 1
                · as_aux_lemma =>
                    have on : f.o.node ≠ 0 := IN.out.heard.2 (.inl s1)
                    have lk := LK.out.1 on
                    rw [decide_eq_true on] at oo
                    simp only [lk.1, lk.2.1] at oo
                    simp only [s1] at st
                    have OO := Lib.hid oo
                    have ST := Lib.hid st
                    have AC : RowKit.Hid (∀ W1, Calls Try.prog 10 #[.agg #[.int .i64 f.p.node, .int .i64 f.p.level, .int .i64 f.p.pod, .int .i64 f.p.mtu, .int .i64 f.p.link, .int .i64 f.p.hold], .agg #[.int .i64 x.node, .int .i64 x.level, .int .i64 x.pod, .int .i64 x.mtu, .int .i64 x.link, .int .i64 x.nonce, .int .i64 x.seen, .int .i64 x.seenLink, .int .i64 x.seenNonce, .int .i64 x.hold, .bool x.rep, .bool x.noOffer]] W1 fun en W' => en = .returned (.bool true) ∧ Below W1.heap.size W1 W') := fun W1 =>
                      (accepts_any f.p _ (by have := IN.out.port.2.1; omega) LV.out W1).mono fun en W' k => ⟨by rw [k.1.dec, decide_eq_true lk.2.2], k.2⟩
                    clear oo st on lk s1
                    go_wp2_with (first
                          | (go_at_call 20; (with_reducible refine (OO.out _ I2.out).mono ?_); rintro en w4 ⟨rfl, hi4⟩; obtain ⟨zp0, zp1, zp2, zp3, zp4, zp5⟩ := hi4.box.port; obtain ⟨zl0, zl1, zl2, zl3, zl4, zl5, zl6, zl7, zl8, zl9, zl10, zl11⟩ := hi4.lb.lie; have ltp := hi4.box.lt; have ltl := hi4.lb.lt; have nep : w.heap.size ≠ w4.heap.size := (by omega); have nel : bl ≠ w4.heap.size := (by omega); have I4 := Lib.hid (hi4.alloc (.cells #[.int .i64 x.node, .int .i64 x.link, .int .i64 ov, .int .i64 oc] 41)); clear hi4)
                          | (go_at_call 21; (with_reducible refine (ST.out _ I4.out.one.e).mono ?_); rintro en w5 ⟨rfl, rfl⟩)
                          | (go_at_call 10; (with_reducible refine (AC.out _).mono ?_); rintro en w6 ⟨rfl, hb6⟩; have I6 := Lib.hid (I4.out.below hb6); obtain ⟨wp0, wp1, wp2, wp3, wp4, wp5⟩ := I6.out.box.port; obtain ⟨wl0, wl1, wl2, wl3, wl4, wl5, wl6, wl7, wl8, wl9, wl10, wl11⟩ := I6.out.lb.lie; clear hb6))
                    go_roundw
                    case rel => exact ⟨k + 1, f, x, by go_num, by omega, by omega, I6⟩
                    case measure => simp [intOf]; omega
                · as_aux_lemma =>
                    have on : f.o.node = 0 := by
                      by_cases q : f.o.node = 0
                      · exact q
                      · rcases IN.out.heard.1 q with q | q
                        · exact absurd q s1
                        · exact absurd q s2
                    obtain ⟨ol, hol⟩ : ∃ z, f.o.link = z := ⟨_, rfl⟩
                    obtain ⟨sv, hsv⟩ : ∃ z, f.s = z := ⟨_, rfl⟩
                    simp only [on, hol, ne_eq, not_true_eq_false, decide_false] at oo
                    simp only [hsv] at st
                    rw [hsv] at s1 s2
                    have sb2 : (sv == 2) = false := by simpa using s2
                    have sb1 : (sv == 1) = false := by simpa using s1
                    clear s1 s2
                    have OO := Lib.hid oo
                    have ST := Lib.hid st
                    clear oo st on hol hsv
                    go_wp2_with (first
                          | (go_at_call 20; (with_reducible refine (OO.out _ I2.out).mono ?_); rintro en w4 ⟨rfl, hi4⟩; obtain ⟨zp0, zp1, zp2, zp3, zp4, zp5⟩ := hi4.box.port; obtain ⟨zl0, zl1, zl2, zl3, zl4, zl5, zl6, zl7, zl8, zl9, zl10, zl11⟩ := hi4.lb.lie; have ltp := hi4.box.lt; have ltl := hi4.lb.lt; have nep : w.heap.size ≠ w4.heap.size := (by omega); have nel : bl ≠ w4.heap.size := (by omega); have I4 := Lib.hid (hi4.alloc (.cells #[.int .i64 0, .int .i64 ol, .int .i64 ov, .int .i64 oc] 41)); clear hi4)
                          | (go_at_call 21; (with_reducible refine (ST.out _ I4.out.one.e).mono ?_); rintro en w5 ⟨rfl, rfl⟩))
                    go_roundw
                    case rel => exact ⟨k + 1, f, x, by go_num, by omega, by omega, I4⟩
                    case measure => simp [intOf]; omega
      · obtain rfl : k = 200 := by omega
        have HF := Lib.hid HA.out.one.bel
        clear HA
        go_wp2
        go_ret
        exact ⟨rfl, HF.out⟩
    · obtain rfl : k = len := by omega
      have HF := Lib.hid HA.out.one.bel
      clear HA
      go_wp2
      go_ret
      exact ⟨rfl, HF.out⟩
theorem three_law (p : PortT) (_ : InI p.level ∧ InI p.hold) (a : Option Addr) (cap : Nat) (l : List StepT) (hl : l.length ≤ cap ∧ cap ≤ maxLen ∧ ∀ s ∈ l, InI s.now) (w : World) (hr : RdS w.heap.size w a l) : Calls Try.prog 5 #[.agg #[.int .i64 p.node, .int .i64 p.level, .int .i64 p.pod, .int .i64 p.mtu, .int .i64 p.link, .int .i64 p.hold], .slice a l.length cap] w fun e w' => e = .returned (.bool true) ∧ Below w.heap.size w w' := by
  by_cases hp : portB p
  · exact three_yes p hp a cap l (Nat.le_trans hl.1 hl.2.1) w hr
  · exact three_no p hp a l.length cap w
end Go.Proofs.Yticbfmbinopjcaa
