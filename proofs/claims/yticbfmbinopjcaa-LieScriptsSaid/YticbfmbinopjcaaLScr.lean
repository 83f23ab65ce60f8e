/-
  LieScripts: an end of any port does any steps, as the document says.
-/
import Derived.Test.YticbfmbinopjcaaLThr
import Derived.Test.YticbfmbinopjcaaLRTake
import Derived.Deep.RegionHeld
namespace Go.Proofs.Yticbfmbinopjcaa
set_option linter.unusedSimpArgs false
set_option linter.unusedVariables false
open Go.RowKit
/-- Both ends, the program's and the document's: the same. -/
structure Bth (w : World) (ba bb : Nat) (e f : EndT) (W : World) : Prop where
  d : Duo2 56 46 w ba bb e f W
theorem Bth.below {w W W' : World} {ba bb : Nat} {e f : EndT} (h : Bth w ba bb e f W) (k : Below W.heap.size W W') : Bth w ba bb e f W' := ⟨h.d.below k⟩
theorem Bth.alloc {w W : World} {ba bb : Nat} {e f : EndT} (h : Bth w ba bb e f W) (o : Obj) : Bth w ba bb e f (W.alloc o) := h.below ((Below.refl _ _).alloc (Nat.le_refl _) o)
section
variable {w W : World} {ba bb : Nat} {e f : EndT}
theorem bth_take (h : Bth w ba bb e f W) (hi : InvE e) (y : LieT) (now : Int) : Calls Try.prog 14 #[.pointer (some ⟨ba, 0, none⟩), .agg #[.int .i64 y.node, .int .i64 y.level, .int .i64 y.pod, .int .i64 y.mtu, .int .i64 y.link, .int .i64 y.nonce, .int .i64 y.seen, .int .i64 y.seenLink, .int .i64 y.seenNonce, .int .i64 y.hold, .bool y.rep, .bool y.noOffer], .int .i64 now] W fun en W' => en = .returned (.int .i64 (takeE e y now).1) ∧ Bth w ba bb (takeE e y now).2 f W' ∧ KE W W' :=
  (take_any h.d.a hi y now).mono fun en W' ⟨h1, h2, h3⟩ => ⟨h1, ⟨h.d.doA h2 h3⟩, h3.ke h.d.a (.inl rfl)⟩
theorem bth_rtake (h : Bth w ba bb e f W) (hi : InvE f) (y : LieT) (now : Int) : Calls Try.prog 15 #[.pointer (some ⟨bb, 0, none⟩), .agg #[.int .i64 y.node, .int .i64 y.level, .int .i64 y.pod, .int .i64 y.mtu, .int .i64 y.link, .int .i64 y.nonce, .int .i64 y.seen, .int .i64 y.seenLink, .int .i64 y.seenNonce, .int .i64 y.hold, .bool y.rep, .bool y.noOffer], .int .i64 now] W fun en W' => en = .returned (.int .i64 (takeE f y now).1) ∧ Bth w ba bb e (takeE f y now).2 W' ∧ KE W W' :=
  (rtake_any h.d.b hi y now).mono fun en W' ⟨h1, h2, h3⟩ => ⟨h1, ⟨h.d.doB h2 h3⟩, h3.ke h.d.b (.inr rfl)⟩
theorem bth_tick (h : Bth w ba bb e f W) (now : Int) : Calls Try.prog 16 #[.pointer (some ⟨ba, 0, none⟩), .int .i64 now] W fun en W' => en = .returned (.int .i64 (tickE e now).1) ∧ Bth w ba bb (tickE e now).2 f W' ∧ KE W W' :=
  (tick_any h.d.a now).mono fun en W' ⟨h1, h2, h3⟩ => ⟨h1, ⟨h.d.doA h2 h3⟩, h3.ke h.d.a (.inl rfl)⟩
theorem bth_rtick (h : Bth w ba bb e f W) (now : Int) : Calls Try.prog 17 #[.pointer (some ⟨bb, 0, none⟩), .int .i64 now] W fun en W' => en = .returned (.int .i64 (tickE f now).1) ∧ Bth w ba bb e (tickE f now).2 W' ∧ KE W W' :=
  (rtick_any h.d.b now).mono fun en W' ⟨h1, h2, h3⟩ => ⟨h1, ⟨h.d.doB h2 h3⟩, h3.ke h.d.b (.inr rfl)⟩
theorem bth_level (h : Bth w ba bb e f W) (l : Int) : Calls Try.prog 18 #[.pointer (some ⟨ba, 0, none⟩), .int .i64 l] W fun en W' => en = .returned (.int .i64 (levelE e l).1) ∧ Bth w ba bb (levelE e l).2 f W' ∧ KE W W' :=
  (levelE_any h.d.a l).mono fun en W' ⟨h1, h2, h3⟩ => ⟨h1, ⟨h.d.doA h2 h3⟩, h3.ke h.d.a (.inl rfl)⟩
theorem bth_rlevel (h : Bth w ba bb e f W) (l : Int) : Calls Try.prog 19 #[.pointer (some ⟨bb, 0, none⟩), .int .i64 l] W fun en W' => en = .returned (.int .i64 (levelE f l).1) ∧ Bth w ba bb e (levelE f l).2 W' ∧ KE W W' :=
  (rlevelE_any h.d.b l).mono fun en W' ⟨h1, h2, h3⟩ => ⟨h1, ⟨h.d.doB h2 h3⟩, h3.ke h.d.b (.inr rfl)⟩
end
theorem rnew_one (p : PortT) (hp : portB p) (w : World) : Calls Try.prog 13 #[.agg #[.int .i64 p.node, .int .i64 p.level, .int .i64 p.pod, .int .i64 p.mtu, .int .i64 p.link, .int .i64 p.hold]] w fun e w' => ∃ b, e = .returned (.tuple #[.pointer (some ⟨b, 0, none⟩), .int .i64 0]) ∧ One 46 w b (newE p) w' :=
  (rnew_some p hp w).mono fun e w' ⟨b, h1, h2, h3, h4⟩ => ⟨b, h1, h3, h2, h4⟩
theorem same_other (a b c d : Int) (W : World) : (Op.equalIn 10000 41 (.agg #[.int .i64 a, .int .i64 b, .int .i64 c, .int .i64 d]) (.agg #[.int .i64 a, .int .i64 b, .int .i64 c, .int .i64 d])).run Try.prog W = .ok true W := by
  go_simp
theorem same_lie (a b c d e f g h i j : Int) (W : World) : (Op.equalIn 10000 25 (.agg #[.int .i64 a, .int .i64 b, .int .i64 c, .int .i64 d, .int .i64 e, .int .i64 f, .int .i64 g, .int .i64 h, .int .i64 i, .int .i64 j, .bool false, .bool false]) (.agg #[.int .i64 a, .int .i64 b, .int .i64 c, .int .i64 d, .int .i64 e, .int .i64 f, .int .i64 g, .int .i64 h, .int .i64 i, .int .i64 j, .bool false, .bool false])).run Try.prog W = .ok true W := by
  go_simp
set_option maxHeartbeats 1600000 in
set_option maxRecDepth 100000 in
theorem scr_no (p : PortT) (hp : ¬ portB p) (a : Option Addr) (len cap : Nat) (hlm : len ≤ 9223372036854775807) (w : World) : Calls Try.prog 4 #[.agg #[.int .i64 p.node, .int .i64 p.level, .int .i64 p.pod, .int .i64 p.mtu, .int .i64 p.link, .int .i64 p.hold], .slice a len cap] w fun e w' => e = .returned (.bool true) ∧ Below w.heap.size w w' := by
  have hb : Below w.heap.size w (w.alloc (.cells #[.int .i64 p.node, .int .i64 p.level, .int .i64 p.pod, .int .i64 p.mtu, .int .i64 p.link, .int .i64 p.hold] 23)) := (Below.refl _ w).alloc (Nat.le_refl _) _
  have hx : BxP 23 (w.alloc (.cells #[.int .i64 p.node, .int .i64 p.level, .int .i64 p.pod, .int .i64 p.mtu, .int .i64 p.link, .int .i64 p.hold] 23)) w.heap.size (encPort p) := heap_alloc_new w _
  obtain ⟨V, hV⟩ : ∃ V, w.alloc (.cells #[.int .i64 p.node, .int .i64 p.level, .int .i64 p.pod, .int .i64 p.mtu, .int .i64 p.link, .int .i64 p.hold] 23) = V := ⟨_, rfl⟩
  rw [hV] at hb hx
  have HV := Lib.hid hV
  have HB := Lib.hid hb
  have HX := Lib.hid hx
  clear hV hb hx
  have HP := Lib.hid (new_none p hp)
  have HQ := Lib.hid (rnew_none p hp)
  clear hp
  go_enter Try.func4, Try.ntmps4
  go_wp2_with (first
    | (go_at_call 9; rw [HV.out]; refine (awake_any _).mono ?_; rintro e w1 ⟨rfl, hb1⟩; have hx := HX.out.below hb1; obtain ⟨xp0, xp1, xp2, xp3, xp4, xp5⟩ := hx.port; have X1 := Lib.hid hx; have HB1 := Lib.hid (HB.out.trans (hb1.mono HB.out.size)); clear hb1 hx)
    | (go_at_call 12; (with_reducible refine (HP.out _).mono ?_); rintro e w2 ⟨rfl, hb2⟩; have hx := X1.out.below hb2; obtain ⟨yp0, yp1, yp2, yp3, yp4, yp5⟩ := hx.port; have HB2 := Lib.hid (HB1.out.trans (hb2.mono HB1.out.size)); clear hb2 hx)
    | (go_at_call 13; (with_reducible refine (HQ.out _).mono ?_); rintro e w3 ⟨rfl, hb3⟩; have HB3 := Lib.hid (HB2.out.trans (hb3.mono HB2.out.size)); clear hb3))
  go_loopw [10] (fun i wr => i = .int .i64 0 ∧ wr = w3) (fun i _ => 0)
  case atStart => exact ⟨rfl, rfl⟩
  case round =>
    obtain ⟨rfl, rfl⟩ := hrel
    by_cases h0 : (0 : Int) < len
    · go_wp2
      go_ret
      exact ⟨rfl, HB3.out⟩
    · go_wp2
      go_ret
      exact ⟨rfl, HB3.out⟩
attribute [local go_sem high] same_other same_lie
set_option maxHeartbeats 6400000 in
set_option maxRecDepth 100000 in
theorem scr_yes (p : PortT) (hp : portB p) (a : Option Addr) (cap : Nat) (l : List StepT) (hl : l.length ≤ maxLen) (w : World) (hr : RdS w.heap.size w a l) : Calls Try.prog 4 #[.agg #[.int .i64 p.node, .int .i64 p.level, .int .i64 p.pod, .int .i64 p.mtu, .int .i64 p.link, .int .i64 p.hold], .slice a l.length cap] w fun e w' => e = .returned (.bool true) ∧ Below w.heap.size w w' := by
  have hb : Below w.heap.size w (w.alloc (.cells #[.int .i64 p.node, .int .i64 p.level, .int .i64 p.pod, .int .i64 p.mtu, .int .i64 p.link, .int .i64 p.hold] 23)) := (Below.refl _ w).alloc (Nat.le_refl _) _
  have hx : BxP 23 (w.alloc (.cells #[.int .i64 p.node, .int .i64 p.level, .int .i64 p.pod, .int .i64 p.mtu, .int .i64 p.link, .int .i64 p.hold] 23)) w.heap.size (encPort p) := heap_alloc_new w _
  obtain ⟨V, hV⟩ : ∃ V, w.alloc (.cells #[.int .i64 p.node, .int .i64 p.level, .int .i64 p.pod, .int .i64 p.mtu, .int .i64 p.link, .int .i64 p.hold] 23) = V := ⟨_, rfl⟩
  rw [hV] at hb hx
  have HV := Lib.hid hV
  have HB := Lib.hid hb
  have HX := Lib.hid hx
  clear hV hb hx
  have HP := Lib.hid (new_one p hp)
  have HQ := Lib.hid (rnew_one p hp)
  have HI := Lib.hid (newE_inv hp)
  have HR := Lib.hid hr
  obtain ⟨len, hlen⟩ : ∃ len, l.length = len := ⟨_, rfl⟩
  have HL := Lib.hid hlen
  have hlm : len ≤ 9223372036854775807 := by unfold maxLen at hl; omega
  rw [hlen]
  clear hp hr hlen hl
  go_enter Try.func4, Try.ntmps4
  go_wp2_with (first
    | (go_at_call 9; rw [HV.out]; refine (awake_any _).mono ?_; rintro e w1 ⟨rfl, hb1⟩; have hx := HX.out.below hb1; obtain ⟨xp0, xp1, xp2, xp3, xp4, xp5⟩ := hx.port; have X1 := Lib.hid hx; have HB1 := Lib.hid (HB.out.trans (hb1.mono HB.out.size)); clear hb1 hx)
    | (go_at_call 12; (with_reducible refine (HP.out _).mono ?_); rintro e w2 ⟨ba, rfl, hb2⟩; have hx := X1.out.below hb2.bel; obtain ⟨yp0, yp1, yp2, yp3, yp4, yp5⟩ := hx.port; have O2 := Lib.hid (hb2.back HB1.out); clear hb2 hx)
    | (go_at_call 13; (with_reducible refine (HQ.out _).mono ?_); rintro e w3 ⟨bb, rfl, hb3⟩; have I0 : RowKit.Hid (Bth w ba bb (newE p) (newE p) w3) := ⟨Duo2.mk2 O2.out hb3⟩; clear hb3))
  clear xp0 xp1 xp2 xp3 xp4 xp5 yp0 yp1 yp2 yp3 yp4 yp5
  go_loopw [10] (fun i wr => ∃ (k : Nat) (e : EndT), i = .int .i64 k ∧ k ≤ len ∧ k ≤ 200 ∧ RowKit.Hid (Bth w ba bb e e wr ∧ InvE e)) (fun i _ => len - (intOf i).toNat)
  case atStart => exact ⟨0, newE p, rfl, Nat.zero_le _, Nat.zero_le _, ⟨I0, HI.out⟩⟩
  case round =>
    obtain ⟨k, e, rfl, hk, hk2, HA⟩ := hrel
    clear I0 X1 HB1 HX HB HP HI HQ O2
    by_cases hlt : k < len
    · by_cases hlt2 : k < 200
      · obtain ⟨s, hs⟩ : ∃ s, l[k]? = some s := ⟨_, List.getElem?_eq_getElem (by have := HL.out; omega)⟩
        obtain ⟨ab, off, ha, y0, y1, y2, y3, y4, y5, y6, y7, y8, y9, y10, y11, y12, y13, y14⟩ := HR.out.step hs HA.out.1.d.bel
        subst ha
        have SB := Lib.hid (show BxP 37 (wr.alloc (.cells #[.int .i64 s.d, .int .i64 s.now, .int .i64 s.n, .int .i64 s.x.node, .int .i64 s.x.level, .int .i64 s.x.pod, .int .i64 s.x.mtu, .int .i64 s.x.link, .int .i64 s.x.nonce, .int .i64 s.x.seen, .int .i64 s.x.seenLink, .int .i64 s.x.seenNonce, .int .i64 s.x.hold, .bool s.x.rep, .bool s.x.noOffer] 37)) wr.heap.size (encStep s) from heap_alloc_new wr _)
        have IA := Lib.hid (HA.out.1.alloc (.cells #[.int .i64 s.d, .int .i64 s.now, .int .i64 s.n, .int .i64 s.x.node, .int .i64 s.x.level, .int .i64 s.x.pod, .int .i64 s.x.mtu, .int .i64 s.x.link, .int .i64 s.x.nonce, .int .i64 s.x.seen, .int .i64 s.x.seenLink, .int .i64 s.x.seenNonce, .int .i64 s.x.hold, .bool s.x.rep, .bool s.x.noOffer] 37))
        have IE := Lib.hid HA.out.2
        clear hs HA
        by_cases d0 : s.d = 0
        · have b0 : (s.d == 0) = true := by simpa using d0
          clear d0
          as_aux_lemma =>
            have tk := fun W (q : Bth w ba bb e e W) => bth_take q IE.out s.x s.now
            obtain ⟨f, hf⟩ : ∃ f, (takeE e s.x s.now).2 = f := ⟨_, rfl⟩
            obtain ⟨r, hr⟩ : ∃ r, (takeE e s.x s.now).1 = r := ⟨_, rfl⟩
            have rk := fun W (q : Bth w ba bb f e W) => bth_rtake q IE.out s.x s.now
            have hin := takeE_inv IE.out s.x s.now
            rw [hr, hf] at tk
            rw [hr, hf] at rk
            rw [hf] at hin
            have TK1 := Lib.hid tk
            have RK1 := Lib.hid rk
            have IN := Lib.hid hin
            clear hf hr tk rk hin
            have oo := fun W (q : Bth w ba bb f f W) => other_any q.d.a IN.out
            have st := fun W (q : Bth w ba bb f f W) => state_any q.d.a
            have s1 := fun W (q : Bth w ba bb f f W) => say_any q.d.a
            have s2 := fun W (q : Bth w ba bb f f W) => rsay_any q.d.b
            simp only [show decide (f.o.node ≠ 0) = (f.o.node != 0) from by by_cases q : f.o.node = 0 <;> simp [q]] at oo
            have OO := Lib.hid oo
            have ST := Lib.hid st
            have S1 := Lib.hid s1
            have S2' := Lib.hid s2
            clear oo st s1 s2
            go_wp2_with (first
                  | (go_at_call 14; (with_reducible refine (TK1.out _ IA.out).mono ?_); rintro en w2 ⟨rfl, hj, hke⟩; have sb := SB.out.keep hke (by decide) (by decide); have v0 := sb.cell 0 rfl; have v1 := sb.cell 1 rfl; have v2 := sb.cell 2 rfl; have v3 := sb.cell 3 rfl; have v4 := sb.cell 4 rfl; have v5 := sb.cell 5 rfl; have v6 := sb.cell 6 rfl; have v7 := sb.cell 7 rfl; have v8 := sb.cell 8 rfl; have v9 := sb.cell 9 rfl; have v10 := sb.cell 10 rfl; have v11 := sb.cell 11 rfl; have v12 := sb.cell 12 rfl; have v13 := sb.cell 13 rfl; have v14 := sb.cell 14 rfl; have I2 := Lib.hid hj; have S2 := Lib.hid sb; clear hj hke sb)
                  | (go_at_call 15; (with_reducible refine (RK1.out _ I2.out).mono ?_); rintro en w3 ⟨rfl, hj, hke⟩; have sb := S2.out.keep hke (by decide) (by decide); have u0 := sb.cell 0 rfl; have u1 := sb.cell 1 rfl; have u2 := sb.cell 2 rfl; have u3 := sb.cell 3 rfl; have u4 := sb.cell 4 rfl; have u5 := sb.cell 5 rfl; have u6 := sb.cell 6 rfl; have u7 := sb.cell 7 rfl; have u8 := sb.cell 8 rfl; have u9 := sb.cell 9 rfl; have u10 := sb.cell 10 rfl; have u11 := sb.cell 11 rfl; have u12 := sb.cell 12 rfl; have u13 := sb.cell 13 rfl; have u14 := sb.cell 14 rfl; have I3 := Lib.hid hj; clear hj hke sb)
                  | (go_at_call 20; (with_reducible refine (OO.out _ I3.out).mono ?_); rintro en w5 ⟨rfl, hb5⟩; have I5 := Lib.hid (I3.out.below hb5); clear hb5))
            have L5 := Lib.hid (show BxP 41 ((w5.alloc (.cells #[.int .i64 f.o.node, .int .i64 f.o.link, .int .i64 f.o.level, .int .i64 f.o.nonce] 41)).drew) w5.heap.size [.int .i64 f.o.node, .int .i64 f.o.link, .int .i64 f.o.level, .int .i64 f.o.nonce] from heap_alloc_new w5 _)
            have I6 := Lib.hid ((I5.out.alloc (.cells #[.int .i64 f.o.node, .int .i64 f.o.link, .int .i64 f.o.level, .int .i64 f.o.nonce] 41)).below (Below.refl _ _).drew)
            clear y0 y1 y2 y3 y4 y5 y6 y7 y8 y9 y10 y11 y12 y13 y14 v0 u0 v1 u1 v2 u2 v3 u3 v4 u4 v5 u5 v6 u6 v7 u7 v8 u8 v9 u9 v10 u10 v11 u11 v12 u12 v13 u13 v14 u14 b0 HR SB HL
            have t6 := I6.out.d.b.cells2.1; have t8 := I6.out.d.b.cells2.2.2.1; have t9 := I6.out.d.b.cells2.2.2.2.1; have t10 := I6.out.d.b.cells2.2.2.2.2.1; have t11 := I6.out.d.b.cells2.2.2.2.2.2.1; have to0 := L5.out.cell 0 rfl; have to1 := L5.out.cell 1 rfl; have to2 := L5.out.cell 2 rfl; have to3 := L5.out.cell 3 rfl
            first
              | (go_region_held (fun W => W.cell? ⟨bb, 6, none⟩ = some (.int .i64 f.s) ∧ W.cell? ⟨bb, 8, none⟩ = some (.int .i64 f.o.node) ∧ W.cell? ⟨bb, 9, none⟩ = some (.int .i64 f.o.link) ∧ W.cell? ⟨bb, 10, none⟩ = some (.int .i64 f.o.level) ∧ W.cell? ⟨bb, 11, none⟩ = some (.int .i64 f.o.nonce) ∧ W.cell? ⟨w5.heap.size, 0, none⟩ = some (.int .i64 f.o.node) ∧ W.cell? ⟨w5.heap.size, 1, none⟩ = some (.int .i64 f.o.link) ∧ W.cell? ⟨w5.heap.size, 2, none⟩ = some (.int .i64 f.o.level) ∧ W.cell? ⟨w5.heap.size, 3, none⟩ = some (.int .i64 f.o.nonce)) (first | exact ⟨t6, t8, t9, t10, t11, to0, to1, to2, to3⟩ | exact ⟨by assumption, by assumption, by assumption, by assumption, by assumption, by assumption, by assumption, by assumption, by assumption⟩)
                  (first
                    | (go_at_call 21; (with_reducible refine (ST.out _ I6.out).mono ?_); rintro en w7 ⟨rfl, rfl⟩)
                    | (go_at_call 22; (with_reducible refine (S1.out _ I6.out).mono ?_); rintro en w8 ⟨rfl, hb8⟩; have I8 := Lib.hid (I6.out.below hb8); have L8 := Lib.hid (L5.out.below hb8); have a6 := I8.out.d.b.cells2.1; have a8 := I8.out.d.b.cells2.2.2.1; have a9 := I8.out.d.b.cells2.2.2.2.1; have a10 := I8.out.d.b.cells2.2.2.2.2.1; have a11 := I8.out.d.b.cells2.2.2.2.2.2.1; have ao0 := L8.out.cell 0 rfl; have ao1 := L8.out.cell 1 rfl; have ao2 := L8.out.cell 2 rfl; have ao3 := L8.out.cell 3 rfl; clear hb8)
                    | (go_at_call 23; (with_reducible refine (S2'.out _ I8.out).mono ?_); rintro en w9 ⟨rfl, hb9⟩; have I9 := Lib.hid (I8.out.below hb9); have L9 := Lib.hid (L8.out.below hb9); have c6 := I9.out.d.b.cells2.1; have c8 := I9.out.d.b.cells2.2.2.1; have c9 := I9.out.d.b.cells2.2.2.2.1; have c10 := I9.out.d.b.cells2.2.2.2.2.1; have c11 := I9.out.d.b.cells2.2.2.2.2.2.1; have co0 := L9.out.cell 0 rfl; have co1 := L9.out.cell 1 rfl; have co2 := L9.out.cell 2 rfl; have co3 := L9.out.cell 3 rfl; clear hb9)))
              | fail
            go_wp2
            go_roundw
            case rel => exact ⟨k + 1, f, by go_num, by omega, by omega, ⟨I9.out, IN.out⟩⟩
            case measure => simp [intOf]; omega
        · have b0 : (s.d == 0) = false := by simpa using d0
          clear d0
          by_cases d1 : s.d = 1
          · have b1 : (s.d == 1) = true := by simpa using d1
            clear d1
            as_aux_lemma =>
              have tk := fun W (q : Bth w ba bb e e W) => bth_tick q s.now
              obtain ⟨f, hf⟩ : ∃ f, (tickE e s.now).2 = f := ⟨_, rfl⟩
              obtain ⟨r, hr⟩ : ∃ r, (tickE e s.now).1 = r := ⟨_, rfl⟩
              have rk := fun W (q : Bth w ba bb f e W) => bth_rtick q s.now
              have hin := tickE_inv IE.out s.now
              rw [hr, hf] at tk
              rw [hr, hf] at rk
              rw [hf] at hin
              have TK1 := Lib.hid tk
              have RK1 := Lib.hid rk
              have IN := Lib.hid hin
              clear hf hr tk rk hin
              have oo := fun W (q : Bth w ba bb f f W) => other_any q.d.a IN.out
              have st := fun W (q : Bth w ba bb f f W) => state_any q.d.a
              have s1 := fun W (q : Bth w ba bb f f W) => say_any q.d.a
              have s2 := fun W (q : Bth w ba bb f f W) => rsay_any q.d.b
              simp only [show decide (f.o.node ≠ 0) = (f.o.node != 0) from by by_cases q : f.o.node = 0 <;> simp [q]] at oo
              have OO := Lib.hid oo
              have ST := Lib.hid st
              have S1 := Lib.hid s1
              have S2' := Lib.hid s2
              clear oo st s1 s2
              go_wp2_with (first
                    | (go_at_call 16; (with_reducible refine (TK1.out _ IA.out).mono ?_); rintro en w2 ⟨rfl, hj, hke⟩; have sb := SB.out.keep hke (by decide) (by decide); have v0 := sb.cell 0 rfl; have v1 := sb.cell 1 rfl; have v2 := sb.cell 2 rfl; have v3 := sb.cell 3 rfl; have v4 := sb.cell 4 rfl; have v5 := sb.cell 5 rfl; have v6 := sb.cell 6 rfl; have v7 := sb.cell 7 rfl; have v8 := sb.cell 8 rfl; have v9 := sb.cell 9 rfl; have v10 := sb.cell 10 rfl; have v11 := sb.cell 11 rfl; have v12 := sb.cell 12 rfl; have v13 := sb.cell 13 rfl; have v14 := sb.cell 14 rfl; have I2 := Lib.hid hj; have S2 := Lib.hid sb; clear hj hke sb)
                    | (go_at_call 17; (with_reducible refine (RK1.out _ I2.out).mono ?_); rintro en w3 ⟨rfl, hj, hke⟩; have sb := S2.out.keep hke (by decide) (by decide); have u0 := sb.cell 0 rfl; have u1 := sb.cell 1 rfl; have u2 := sb.cell 2 rfl; have u3 := sb.cell 3 rfl; have u4 := sb.cell 4 rfl; have u5 := sb.cell 5 rfl; have u6 := sb.cell 6 rfl; have u7 := sb.cell 7 rfl; have u8 := sb.cell 8 rfl; have u9 := sb.cell 9 rfl; have u10 := sb.cell 10 rfl; have u11 := sb.cell 11 rfl; have u12 := sb.cell 12 rfl; have u13 := sb.cell 13 rfl; have u14 := sb.cell 14 rfl; have I3 := Lib.hid hj; clear hj hke sb)
                    | (go_at_call 20; (with_reducible refine (OO.out _ I3.out).mono ?_); rintro en w5 ⟨rfl, hb5⟩; have I5 := Lib.hid (I3.out.below hb5); clear hb5))
              have L5 := Lib.hid (show BxP 41 ((w5.alloc (.cells #[.int .i64 f.o.node, .int .i64 f.o.link, .int .i64 f.o.level, .int .i64 f.o.nonce] 41)).drew) w5.heap.size [.int .i64 f.o.node, .int .i64 f.o.link, .int .i64 f.o.level, .int .i64 f.o.nonce] from heap_alloc_new w5 _)
              have I6 := Lib.hid ((I5.out.alloc (.cells #[.int .i64 f.o.node, .int .i64 f.o.link, .int .i64 f.o.level, .int .i64 f.o.nonce] 41)).below (Below.refl _ _).drew)
              clear y0 y1 y2 y3 y4 y5 y6 y7 y8 y9 y10 y11 y12 y13 y14 v0 u0 v1 u1 v2 u2 v3 u3 v4 u4 v5 u5 v6 u6 v7 u7 v8 u8 v9 u9 v10 u10 v11 u11 v12 u12 v13 u13 v14 u14 b0 b1 HR SB HL
              have t6 := I6.out.d.b.cells2.1; have t8 := I6.out.d.b.cells2.2.2.1; have t9 := I6.out.d.b.cells2.2.2.2.1; have t10 := I6.out.d.b.cells2.2.2.2.2.1; have t11 := I6.out.d.b.cells2.2.2.2.2.2.1; have to0 := L5.out.cell 0 rfl; have to1 := L5.out.cell 1 rfl; have to2 := L5.out.cell 2 rfl; have to3 := L5.out.cell 3 rfl
              first
                | (go_region_held (fun W => W.cell? ⟨bb, 6, none⟩ = some (.int .i64 f.s) ∧ W.cell? ⟨bb, 8, none⟩ = some (.int .i64 f.o.node) ∧ W.cell? ⟨bb, 9, none⟩ = some (.int .i64 f.o.link) ∧ W.cell? ⟨bb, 10, none⟩ = some (.int .i64 f.o.level) ∧ W.cell? ⟨bb, 11, none⟩ = some (.int .i64 f.o.nonce) ∧ W.cell? ⟨w5.heap.size, 0, none⟩ = some (.int .i64 f.o.node) ∧ W.cell? ⟨w5.heap.size, 1, none⟩ = some (.int .i64 f.o.link) ∧ W.cell? ⟨w5.heap.size, 2, none⟩ = some (.int .i64 f.o.level) ∧ W.cell? ⟨w5.heap.size, 3, none⟩ = some (.int .i64 f.o.nonce)) (first | exact ⟨t6, t8, t9, t10, t11, to0, to1, to2, to3⟩ | exact ⟨by assumption, by assumption, by assumption, by assumption, by assumption, by assumption, by assumption, by assumption, by assumption⟩)
                    (first
                      | (go_at_call 21; (with_reducible refine (ST.out _ I6.out).mono ?_); rintro en w7 ⟨rfl, rfl⟩)
                      | (go_at_call 22; (with_reducible refine (S1.out _ I6.out).mono ?_); rintro en w8 ⟨rfl, hb8⟩; have I8 := Lib.hid (I6.out.below hb8); have L8 := Lib.hid (L5.out.below hb8); have a6 := I8.out.d.b.cells2.1; have a8 := I8.out.d.b.cells2.2.2.1; have a9 := I8.out.d.b.cells2.2.2.2.1; have a10 := I8.out.d.b.cells2.2.2.2.2.1; have a11 := I8.out.d.b.cells2.2.2.2.2.2.1; have ao0 := L8.out.cell 0 rfl; have ao1 := L8.out.cell 1 rfl; have ao2 := L8.out.cell 2 rfl; have ao3 := L8.out.cell 3 rfl; clear hb8)
                      | (go_at_call 23; (with_reducible refine (S2'.out _ I8.out).mono ?_); rintro en w9 ⟨rfl, hb9⟩; have I9 := Lib.hid (I8.out.below hb9); have L9 := Lib.hid (L8.out.below hb9); have c6 := I9.out.d.b.cells2.1; have c8 := I9.out.d.b.cells2.2.2.1; have c9 := I9.out.d.b.cells2.2.2.2.1; have c10 := I9.out.d.b.cells2.2.2.2.2.1; have c11 := I9.out.d.b.cells2.2.2.2.2.2.1; have co0 := L9.out.cell 0 rfl; have co1 := L9.out.cell 1 rfl; have co2 := L9.out.cell 2 rfl; have co3 := L9.out.cell 3 rfl; clear hb9)))
                | fail
              go_wp2
              go_roundw
              case rel => exact ⟨k + 1, f, by go_num, by omega, by omega, ⟨I9.out, IN.out⟩⟩
              case measure => simp [intOf]; omega
          · have b1 : (s.d == 1) = false := by simpa using d1
            clear d1
            by_cases d2 : s.d = 2
            · have b2 : (s.d == 2) = true := by simpa using d2
              clear d2
              as_aux_lemma =>
                have tk := fun W (q : Bth w ba bb e e W) => bth_level q s.n
                obtain ⟨f, hf⟩ : ∃ f, (levelE e s.n).2 = f := ⟨_, rfl⟩
                obtain ⟨r, hr⟩ : ∃ r, (levelE e s.n).1 = r := ⟨_, rfl⟩
                have rk := fun W (q : Bth w ba bb f e W) => bth_rlevel q s.n
                have hin := levelE_inv IE.out s.n
                rw [hr, hf] at tk
                rw [hr, hf] at rk
                rw [hf] at hin
                have TK1 := Lib.hid tk
                have RK1 := Lib.hid rk
                have IN := Lib.hid hin
                clear hf hr tk rk hin
                have oo := fun W (q : Bth w ba bb f f W) => other_any q.d.a IN.out
                have st := fun W (q : Bth w ba bb f f W) => state_any q.d.a
                have s1 := fun W (q : Bth w ba bb f f W) => say_any q.d.a
                have s2 := fun W (q : Bth w ba bb f f W) => rsay_any q.d.b
                simp only [show decide (f.o.node ≠ 0) = (f.o.node != 0) from by by_cases q : f.o.node = 0 <;> simp [q]] at oo
                have OO := Lib.hid oo
                have ST := Lib.hid st
                have S1 := Lib.hid s1
                have S2' := Lib.hid s2
                clear oo st s1 s2
                go_wp2_with (first
                      | (go_at_call 18; (with_reducible refine (TK1.out _ IA.out).mono ?_); rintro en w2 ⟨rfl, hj, hke⟩; have sb := SB.out.keep hke (by decide) (by decide); have v0 := sb.cell 0 rfl; have v1 := sb.cell 1 rfl; have v2 := sb.cell 2 rfl; have v3 := sb.cell 3 rfl; have v4 := sb.cell 4 rfl; have v5 := sb.cell 5 rfl; have v6 := sb.cell 6 rfl; have v7 := sb.cell 7 rfl; have v8 := sb.cell 8 rfl; have v9 := sb.cell 9 rfl; have v10 := sb.cell 10 rfl; have v11 := sb.cell 11 rfl; have v12 := sb.cell 12 rfl; have v13 := sb.cell 13 rfl; have v14 := sb.cell 14 rfl; have I2 := Lib.hid hj; have S2 := Lib.hid sb; clear hj hke sb)
                      | (go_at_call 19; (with_reducible refine (RK1.out _ I2.out).mono ?_); rintro en w3 ⟨rfl, hj, hke⟩; have sb := S2.out.keep hke (by decide) (by decide); have u0 := sb.cell 0 rfl; have u1 := sb.cell 1 rfl; have u2 := sb.cell 2 rfl; have u3 := sb.cell 3 rfl; have u4 := sb.cell 4 rfl; have u5 := sb.cell 5 rfl; have u6 := sb.cell 6 rfl; have u7 := sb.cell 7 rfl; have u8 := sb.cell 8 rfl; have u9 := sb.cell 9 rfl; have u10 := sb.cell 10 rfl; have u11 := sb.cell 11 rfl; have u12 := sb.cell 12 rfl; have u13 := sb.cell 13 rfl; have u14 := sb.cell 14 rfl; have I3 := Lib.hid hj; clear hj hke sb)
                      | (go_at_call 20; (with_reducible refine (OO.out _ I3.out).mono ?_); rintro en w5 ⟨rfl, hb5⟩; have I5 := Lib.hid (I3.out.below hb5); clear hb5))
                have L5 := Lib.hid (show BxP 41 ((w5.alloc (.cells #[.int .i64 f.o.node, .int .i64 f.o.link, .int .i64 f.o.level, .int .i64 f.o.nonce] 41)).drew) w5.heap.size [.int .i64 f.o.node, .int .i64 f.o.link, .int .i64 f.o.level, .int .i64 f.o.nonce] from heap_alloc_new w5 _)
                have I6 := Lib.hid ((I5.out.alloc (.cells #[.int .i64 f.o.node, .int .i64 f.o.link, .int .i64 f.o.level, .int .i64 f.o.nonce] 41)).below (Below.refl _ _).drew)
                clear y0 y1 y2 y3 y4 y5 y6 y7 y8 y9 y10 y11 y12 y13 y14 v0 u0 v1 u1 v2 u2 v3 u3 v4 u4 v5 u5 v6 u6 v7 u7 v8 u8 v9 u9 v10 u10 v11 u11 v12 u12 v13 u13 v14 u14 b0 b1 b2 HR SB HL
                have t6 := I6.out.d.b.cells2.1; have t8 := I6.out.d.b.cells2.2.2.1; have t9 := I6.out.d.b.cells2.2.2.2.1; have t10 := I6.out.d.b.cells2.2.2.2.2.1; have t11 := I6.out.d.b.cells2.2.2.2.2.2.1; have to0 := L5.out.cell 0 rfl; have to1 := L5.out.cell 1 rfl; have to2 := L5.out.cell 2 rfl; have to3 := L5.out.cell 3 rfl
                first
                  | (go_region_held (fun W => W.cell? ⟨bb, 6, none⟩ = some (.int .i64 f.s) ∧ W.cell? ⟨bb, 8, none⟩ = some (.int .i64 f.o.node) ∧ W.cell? ⟨bb, 9, none⟩ = some (.int .i64 f.o.link) ∧ W.cell? ⟨bb, 10, none⟩ = some (.int .i64 f.o.level) ∧ W.cell? ⟨bb, 11, none⟩ = some (.int .i64 f.o.nonce) ∧ W.cell? ⟨w5.heap.size, 0, none⟩ = some (.int .i64 f.o.node) ∧ W.cell? ⟨w5.heap.size, 1, none⟩ = some (.int .i64 f.o.link) ∧ W.cell? ⟨w5.heap.size, 2, none⟩ = some (.int .i64 f.o.level) ∧ W.cell? ⟨w5.heap.size, 3, none⟩ = some (.int .i64 f.o.nonce)) (first | exact ⟨t6, t8, t9, t10, t11, to0, to1, to2, to3⟩ | exact ⟨by assumption, by assumption, by assumption, by assumption, by assumption, by assumption, by assumption, by assumption, by assumption⟩)
                      (first
                        | (go_at_call 21; (with_reducible refine (ST.out _ I6.out).mono ?_); rintro en w7 ⟨rfl, rfl⟩)
                        | (go_at_call 22; (with_reducible refine (S1.out _ I6.out).mono ?_); rintro en w8 ⟨rfl, hb8⟩; have I8 := Lib.hid (I6.out.below hb8); have L8 := Lib.hid (L5.out.below hb8); have a6 := I8.out.d.b.cells2.1; have a8 := I8.out.d.b.cells2.2.2.1; have a9 := I8.out.d.b.cells2.2.2.2.1; have a10 := I8.out.d.b.cells2.2.2.2.2.1; have a11 := I8.out.d.b.cells2.2.2.2.2.2.1; have ao0 := L8.out.cell 0 rfl; have ao1 := L8.out.cell 1 rfl; have ao2 := L8.out.cell 2 rfl; have ao3 := L8.out.cell 3 rfl; clear hb8)
                        | (go_at_call 23; (with_reducible refine (S2'.out _ I8.out).mono ?_); rintro en w9 ⟨rfl, hb9⟩; have I9 := Lib.hid (I8.out.below hb9); have L9 := Lib.hid (L8.out.below hb9); have c6 := I9.out.d.b.cells2.1; have c8 := I9.out.d.b.cells2.2.2.1; have c9 := I9.out.d.b.cells2.2.2.2.1; have c10 := I9.out.d.b.cells2.2.2.2.2.1; have c11 := I9.out.d.b.cells2.2.2.2.2.2.1; have co0 := L9.out.cell 0 rfl; have co1 := L9.out.cell 1 rfl; have co2 := L9.out.cell 2 rfl; have co3 := L9.out.cell 3 rfl; clear hb9)))
                  | fail
                go_wp2
                go_roundw
                case rel => exact ⟨k + 1, f, by go_num, by omega, by omega, ⟨I9.out, IN.out⟩⟩
                case measure => simp [intOf]; omega
            · have b2 : (s.d == 2) = false := by simpa using d2
              clear d2
              as_aux_lemma =>
                obtain ⟨f, hf⟩ : ∃ f, e = f := ⟨_, rfl⟩
                rw [hf] at IA IE
                have I3 := IA
                have IN := IE
                clear hf
                have oo := fun W (q : Bth w ba bb f f W) => other_any q.d.a IN.out
                have st := fun W (q : Bth w ba bb f f W) => state_any q.d.a
                have s1 := fun W (q : Bth w ba bb f f W) => say_any q.d.a
                have s2 := fun W (q : Bth w ba bb f f W) => rsay_any q.d.b
                simp only [show decide (f.o.node ≠ 0) = (f.o.node != 0) from by by_cases q : f.o.node = 0 <;> simp [q]] at oo
                have OO := Lib.hid oo
                have ST := Lib.hid st
                have S1 := Lib.hid s1
                have S2' := Lib.hid s2
                clear oo st s1 s2
                go_wp2_with (first
                      | (go_at_call 20; (with_reducible refine (OO.out _ I3.out).mono ?_); rintro en w5 ⟨rfl, hb5⟩; have I5 := Lib.hid (I3.out.below hb5); clear hb5))
                have L5 := Lib.hid (show BxP 41 ((w5.alloc (.cells #[.int .i64 f.o.node, .int .i64 f.o.link, .int .i64 f.o.level, .int .i64 f.o.nonce] 41)).drew) w5.heap.size [.int .i64 f.o.node, .int .i64 f.o.link, .int .i64 f.o.level, .int .i64 f.o.nonce] from heap_alloc_new w5 _)
                have I6 := Lib.hid ((I5.out.alloc (.cells #[.int .i64 f.o.node, .int .i64 f.o.link, .int .i64 f.o.level, .int .i64 f.o.nonce] 41)).below (Below.refl _ _).drew)
                clear y0 y1 y2 y3 y4 y5 y6 y7 y8 y9 y10 y11 y12 y13 y14 b0 b1 b2 HR SB HL
                have t6 := I6.out.d.b.cells2.1; have t8 := I6.out.d.b.cells2.2.2.1; have t9 := I6.out.d.b.cells2.2.2.2.1; have t10 := I6.out.d.b.cells2.2.2.2.2.1; have t11 := I6.out.d.b.cells2.2.2.2.2.2.1; have to0 := L5.out.cell 0 rfl; have to1 := L5.out.cell 1 rfl; have to2 := L5.out.cell 2 rfl; have to3 := L5.out.cell 3 rfl
                first
                  | (go_region_held (fun W => W.cell? ⟨bb, 6, none⟩ = some (.int .i64 f.s) ∧ W.cell? ⟨bb, 8, none⟩ = some (.int .i64 f.o.node) ∧ W.cell? ⟨bb, 9, none⟩ = some (.int .i64 f.o.link) ∧ W.cell? ⟨bb, 10, none⟩ = some (.int .i64 f.o.level) ∧ W.cell? ⟨bb, 11, none⟩ = some (.int .i64 f.o.nonce) ∧ W.cell? ⟨w5.heap.size, 0, none⟩ = some (.int .i64 f.o.node) ∧ W.cell? ⟨w5.heap.size, 1, none⟩ = some (.int .i64 f.o.link) ∧ W.cell? ⟨w5.heap.size, 2, none⟩ = some (.int .i64 f.o.level) ∧ W.cell? ⟨w5.heap.size, 3, none⟩ = some (.int .i64 f.o.nonce)) (first | exact ⟨t6, t8, t9, t10, t11, to0, to1, to2, to3⟩ | exact ⟨by assumption, by assumption, by assumption, by assumption, by assumption, by assumption, by assumption, by assumption, by assumption⟩)
                      (first
                        | (go_at_call 21; (with_reducible refine (ST.out _ I6.out).mono ?_); rintro en w7 ⟨rfl, rfl⟩)
                        | (go_at_call 22; (with_reducible refine (S1.out _ I6.out).mono ?_); rintro en w8 ⟨rfl, hb8⟩; have I8 := Lib.hid (I6.out.below hb8); have L8 := Lib.hid (L5.out.below hb8); have a6 := I8.out.d.b.cells2.1; have a8 := I8.out.d.b.cells2.2.2.1; have a9 := I8.out.d.b.cells2.2.2.2.1; have a10 := I8.out.d.b.cells2.2.2.2.2.1; have a11 := I8.out.d.b.cells2.2.2.2.2.2.1; have ao0 := L8.out.cell 0 rfl; have ao1 := L8.out.cell 1 rfl; have ao2 := L8.out.cell 2 rfl; have ao3 := L8.out.cell 3 rfl; clear hb8)
                        | (go_at_call 23; (with_reducible refine (S2'.out _ I8.out).mono ?_); rintro en w9 ⟨rfl, hb9⟩; have I9 := Lib.hid (I8.out.below hb9); have L9 := Lib.hid (L8.out.below hb9); have c6 := I9.out.d.b.cells2.1; have c8 := I9.out.d.b.cells2.2.2.1; have c9 := I9.out.d.b.cells2.2.2.2.1; have c10 := I9.out.d.b.cells2.2.2.2.2.1; have c11 := I9.out.d.b.cells2.2.2.2.2.2.1; have co0 := L9.out.cell 0 rfl; have co1 := L9.out.cell 1 rfl; have co2 := L9.out.cell 2 rfl; have co3 := L9.out.cell 3 rfl; clear hb9)))
                  | fail
                go_wp2
                go_roundw
                case rel => exact ⟨k + 1, f, by go_num, by omega, by omega, ⟨I9.out, IN.out⟩⟩
                case measure => simp [intOf]; omega
      · obtain rfl : k = 200 := by omega
        have HF := Lib.hid HA.out.1.d.bel
        clear HA
        go_wp2
        go_ret
        exact ⟨rfl, HF.out⟩
    · obtain rfl : k = len := by omega
      have HF := Lib.hid HA.out.1.d.bel
      clear HA
      go_wp2
      go_ret
      exact ⟨rfl, HF.out⟩
theorem scr_law (p : PortT) (_ : InI p.level ∧ InI p.hold) (a : Option Addr) (cap : Nat) (l : List StepT) (hl : l.length ≤ cap ∧ cap ≤ maxLen ∧ ∀ s ∈ l, InI s.now) (w : World) (hr : RdS w.heap.size w a l) : Calls Try.prog 4 #[.agg #[.int .i64 p.node, .int .i64 p.level, .int .i64 p.pod, .int .i64 p.mtu, .int .i64 p.link, .int .i64 p.hold], .slice a l.length cap] w fun e w' => e = .returned (.bool true) ∧ Below w.heap.size w w' := by
  by_cases hp : portB p
  · exact scr_yes p hp a cap l (Nat.le_trans hl.1 hl.2.1) w hr
  · exact scr_no p hp a l.length cap (by have := hl.1; have := hl.2.1; unfold maxLen at this; omega) w
end Go.Proofs.Yticbfmbinopjcaa
