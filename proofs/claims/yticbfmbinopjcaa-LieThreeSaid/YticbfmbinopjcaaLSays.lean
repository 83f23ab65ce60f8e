/-
  STEPS that came in, one by one; what a step leaves as it is.
-/
import Derived.Test.YticbfmbinopjcaaLBoth
namespace Go.Proofs.Yticbfmbinopjcaa
set_option linter.unusedSimpArgs false
set_option linter.unusedVariables false
open Go.RowKit
theorem takeE_p (e : EndT) (x : LieT) (now : Int) : (takeE e x now).2.p = e.p := by
  unfold takeE
  split
  · rfl
  · split
    · rfl
    · split
      · simp only; split <;> rfl
      · split
        · rfl
        · split <;> rfl
theorem tickE_p (e : EndT) (now : Int) : (tickE e now).2.p = e.p := by
  unfold tickE
  split
  · rfl
  · split <;> rfl
/-- A step's cells, wherever memory of one's own has grown. -/
theorem RdS.step {w W : World} {a : Option Addr} {l : List StepT} {k : Nat} {s : StepT} (h : RdS w.heap.size w a l) (hk : l[k]? = some s) (hb : Below w.heap.size w W) : ∃ b off, a = some ⟨b, off, none⟩ ∧ W.cell? ⟨b, off + k * 15, none⟩ = some (.int .i64 s.d) ∧ W.cell? ⟨b, off + k * 15 + 1, none⟩ = some (.int .i64 s.now) ∧ W.cell? ⟨b, off + k * 15 + 2, none⟩ = some (.int .i64 s.n) ∧ W.cell? ⟨b, off + k * 15 + 3, none⟩ = some (.int .i64 s.x.node) ∧ W.cell? ⟨b, off + k * 15 + 4, none⟩ = some (.int .i64 s.x.level) ∧ W.cell? ⟨b, off + k * 15 + 5, none⟩ = some (.int .i64 s.x.pod) ∧ W.cell? ⟨b, off + k * 15 + 6, none⟩ = some (.int .i64 s.x.mtu) ∧ W.cell? ⟨b, off + k * 15 + 7, none⟩ = some (.int .i64 s.x.link) ∧ W.cell? ⟨b, off + k * 15 + 8, none⟩ = some (.int .i64 s.x.nonce) ∧ W.cell? ⟨b, off + k * 15 + 9, none⟩ = some (.int .i64 s.x.seen) ∧ W.cell? ⟨b, off + k * 15 + 10, none⟩ = some (.int .i64 s.x.seenLink) ∧ W.cell? ⟨b, off + k * 15 + 11, none⟩ = some (.int .i64 s.x.seenNonce) ∧ W.cell? ⟨b, off + k * 15 + 12, none⟩ = some (.int .i64 s.x.hold) ∧ W.cell? ⟨b, off + k * 15 + 13, none⟩ = some (.bool s.x.rep) ∧ W.cell? ⟨b, off + k * 15 + 14, none⟩ = some (.bool s.x.noOffer) := by
  obtain ⟨b, off, e, hlt, hc⟩ := h (by have := (List.getElem?_eq_some_iff.1 hk).1; omega)
  have q : ∀ i v, (encStep s)[i]? = some v → W.cell? ⟨b, off + k * 15 + i, none⟩ = some v := fun i v hv => (hb.cell (p := ⟨b, _, none⟩) hlt).trans (hc k s hk i v hv)
  exact ⟨b, off, e, q 0 _ rfl, q 1 _ rfl, q 2 _ rfl, q 3 _ rfl, q 4 _ rfl, q 5 _ rfl, q 6 _ rfl, q 7 _ rfl, q 8 _ rfl, q 9 _ rfl, q 10 _ rfl, q 11 _ rfl, q 12 _ rfl, q 13 _ rfl, q 14 _ rfl⟩
/-- What LieSays holds on to: the end, its port in a box. -/
structure SayI (w : World) (b : Nat) (p : PortT) (e : EndT) (W : World) : Prop where
  one : One 56 w b e W
  inv : InvE e
  pe : e.p = p
  box : BxP 23 W w.heap.size (encPort p)
theorem SayI.below {w W W' : World} {b : Nat} {p : PortT} {e : EndT} (h : SayI w b p e W) (k : Below W.heap.size W W') : SayI w b p e W' := ⟨h.one.below k, h.inv, h.pe, h.box.below k⟩
theorem SayI.alloc {w W : World} {b : Nat} {p : PortT} {e : EndT} (h : SayI w b p e W) (o : Obj) : SayI w b p e (W.alloc o) := h.below ((Below.refl _ _).alloc (Nat.le_refl _) o)
theorem SayI.turn {w W W' : World} {b : Nat} {p : PortT} {e e' : EndT} (h : SayI w b p e W) (q : EndP 56 W' b e') (k : But b W W') (i : InvE e') (hp : e'.p = e.p) : SayI w b p e' W' := ⟨h.one.turn q k, i, hp.trans h.pe, h.box.keep (k.ke h.one.e (.inl rfl)) (by decide) (by decide)⟩
theorem say_at {w W : World} {b : Nat} {p : PortT} {e : EndT} (h : SayI w b p e W) : Calls Try.prog 22 #[.pointer (some ⟨b, 0, none⟩)] W fun en W' => en = .returned (.agg #[.int .i64 p.node, .int .i64 p.level, .int .i64 p.pod, .int .i64 p.mtu, .int .i64 p.link, .int .i64 e.nonce, .int .i64 e.o.node, .int .i64 e.o.link, .int .i64 e.o.nonce, .int .i64 p.hold, .bool false, .bool false]) ∧ SayI w b p e W' ∧ Below W.heap.size W W' := by
  have q := say_any h.one.e
  rw [h.pe] at q
  exact q.mono fun en W' ⟨h1, h2⟩ => ⟨h1, h.below h2, h2⟩
theorem other_at {w W : World} {b : Nat} {p : PortT} {e : EndT} (h : SayI w b p e W) : Calls Try.prog 20 #[.pointer (some ⟨b, 0, none⟩)] W fun en W' => en = .returned (.tuple #[.agg #[.int .i64 e.o.node, .int .i64 e.o.link, .int .i64 e.o.level, .int .i64 e.o.nonce], .bool (decide (e.o.node ≠ 0))]) ∧ SayI w b p e W' ∧ Below W.heap.size W W' :=
  (other_any h.one.e h.inv).mono fun en W' ⟨h1, h2⟩ => ⟨h1, h.below h2, h2⟩
theorem take_at {w W : World} {b : Nat} {p : PortT} {e : EndT} (h : SayI w b p e W) (x : LieT) (now : Int) : Calls Try.prog 14 #[.pointer (some ⟨b, 0, none⟩), .agg #[.int .i64 x.node, .int .i64 x.level, .int .i64 x.pod, .int .i64 x.mtu, .int .i64 x.link, .int .i64 x.nonce, .int .i64 x.seen, .int .i64 x.seenLink, .int .i64 x.seenNonce, .int .i64 x.hold, .bool x.rep, .bool x.noOffer], .int .i64 now] W fun en W' => en = .returned (.int .i64 (takeE e x now).1) ∧ SayI w b p (takeE e x now).2 W' ∧ KE W W' :=
  (take_any h.one.e h.inv x now).mono fun en W' ⟨h1, h2, h3⟩ => ⟨h1, h.turn h2 h3 (takeE_inv h.inv _ _) (takeE_p _ _ _), h3.ke h.one.e (.inl rfl)⟩
theorem tick_at {w W : World} {b : Nat} {p : PortT} {e : EndT} (h : SayI w b p e W) (now : Int) : Calls Try.prog 16 #[.pointer (some ⟨b, 0, none⟩), .int .i64 now] W fun en W' => en = .returned (.int .i64 (tickE e now).1) ∧ SayI w b p (tickE e now).2 W' ∧ KE W W' :=
  (tick_any h.one.e now).mono fun en W' ⟨h1, h2, h3⟩ => ⟨h1, h.turn h2 h3 (tickE_inv h.inv _) (tickE_p _ _), h3.ke h.one.e (.inl rfl)⟩
set_option maxHeartbeats 1600000 in
set_option maxRecDepth 100000 in
theorem says_no (p : PortT) (hp : ¬ portB p) (a : Option Addr) (len cap : Nat) (w : World) : Calls Try.prog 8 #[.agg #[.int .i64 p.node, .int .i64 p.level, .int .i64 p.pod, .int .i64 p.mtu, .int .i64 p.link, .int .i64 p.hold], .slice a len cap] w fun e w' => e = .returned (.bool true) ∧ Below w.heap.size w w' := by
  have hb : Below w.heap.size w (w.alloc (.cells #[.int .i64 p.node, .int .i64 p.level, .int .i64 p.pod, .int .i64 p.mtu, .int .i64 p.link, .int .i64 p.hold] 23)) := (Below.refl _ w).alloc (Nat.le_refl _) _
  have hx : BxP 23 (w.alloc (.cells #[.int .i64 p.node, .int .i64 p.level, .int .i64 p.pod, .int .i64 p.mtu, .int .i64 p.link, .int .i64 p.hold] 23)) w.heap.size (encPort p) := heap_alloc_new w _
  obtain ⟨V, hV⟩ : ∃ V, w.alloc (.cells #[.int .i64 p.node, .int .i64 p.level, .int .i64 p.pod, .int .i64 p.mtu, .int .i64 p.link, .int .i64 p.hold] 23) = V := ⟨_, rfl⟩
  rw [hV] at hb hx
  have HP := Lib.hid (new_none p hp)
  have HV := Lib.hid hV
  have HB := Lib.hid hb
  have HX := Lib.hid hx
  clear hp hV hb hx
  go_enter Try.func8, Try.ntmps8
  go_wp2_with (first
    | (go_at_call 9; rw [HV.out]; refine (awake_any _).mono ?_; rintro e w1 ⟨rfl, hb1⟩; have hx := HX.out.below hb1; obtain ⟨xp0, xp1, xp2, xp3, xp4, xp5⟩ := hx.port; have HB1 := Lib.hid (HB.out.trans (hb1.mono HB.out.size)); clear hb1 hx)
    | (go_at_call 12; (with_reducible refine (HP.out _).mono ?_); rintro e w2 ⟨rfl, hb2⟩; have HB2 := Lib.hid (HB1.out.trans (hb2.mono HB1.out.size)); clear hb2))
  go_ret
  exact ⟨rfl, HB2.out⟩
set_option maxHeartbeats 3200000 in
set_option maxRecDepth 100000 in
theorem says_yes (p : PortT) (hp : portB p) (a : Option Addr) (cap : Nat) (l : List StepT) (hl : l.length ≤ maxLen) (w : World) (hr : RdS w.heap.size w a l) : Calls Try.prog 8 #[.agg #[.int .i64 p.node, .int .i64 p.level, .int .i64 p.pod, .int .i64 p.mtu, .int .i64 p.link, .int .i64 p.hold], .slice a l.length cap] w fun e w' => e = .returned (.bool true) ∧ Below w.heap.size w w' := by
  have hb : Below w.heap.size w (w.alloc (.cells #[.int .i64 p.node, .int .i64 p.level, .int .i64 p.pod, .int .i64 p.mtu, .int .i64 p.link, .int .i64 p.hold] 23)) := (Below.refl _ w).alloc (Nat.le_refl _) _
  have hx : BxP 23 (w.alloc (.cells #[.int .i64 p.node, .int .i64 p.level, .int .i64 p.pod, .int .i64 p.mtu, .int .i64 p.link, .int .i64 p.hold] 23)) w.heap.size (encPort p) := heap_alloc_new w _
  obtain ⟨V, hV⟩ : ∃ V, w.alloc (.cells #[.int .i64 p.node, .int .i64 p.level, .int .i64 p.pod, .int .i64 p.mtu, .int .i64 p.link, .int .i64 p.hold] 23) = V := ⟨_, rfl⟩
  rw [hV] at hb hx
  have HP := Lib.hid (new_one p hp)
  have HI := Lib.hid (newE_inv hp)
  have HV := Lib.hid hV
  have HB := Lib.hid hb
  have HX := Lib.hid hx
  have HR := Lib.hid hr
  obtain ⟨len, hlen⟩ : ∃ len, l.length = len := ⟨_, rfl⟩
  have HL := Lib.hid hlen
  have hlm : len ≤ 9223372036854775807 := by unfold maxLen at hl; omega
  rw [hlen]
  clear hp hV hb hx hr hlen hl
  go_enter Try.func8, Try.ntmps8
  go_wp2_with (first
    | (go_at_call 9; rw [HV.out]; refine (awake_any _).mono ?_; rintro e w1 ⟨rfl, hb1⟩; have hx := HX.out.below hb1; obtain ⟨xp0, xp1, xp2, xp3, xp4, xp5⟩ := hx.port; have X1 := Lib.hid hx; have HB1 := Lib.hid (HB.out.trans (hb1.mono HB.out.size)); clear hb1 hx)
    | (go_at_call 12; (with_reducible refine (HP.out _).mono ?_); rintro e w2 ⟨b, rfl, hb2⟩; have I0 : RowKit.Hid (SayI w b p (newE p) w2) := ⟨hb2.back HB1.out, HI.out, rfl, X1.out.below hb2.bel⟩; clear hb2))
  clear xp0 xp1 xp2 xp3 xp4 xp5
  go_loopw [8] (fun i wr => ∃ (k : Nat) (e : EndT), i = .int .i64 k ∧ k ≤ len ∧ k ≤ 150 ∧ RowKit.Hid (SayI w b p e wr)) (fun i _ => len - (intOf i).toNat)
  case atStart => exact ⟨0, newE p, rfl, Nat.zero_le _, Nat.zero_le _, I0⟩
  case round =>
    obtain ⟨k, e, rfl, hk, hk2, HA⟩ := hrel
    clear I0 X1 HB1 HX HB HP HI
    by_cases hlt : k < len
    · by_cases hlt2 : k < 150
      · obtain ⟨s, hs⟩ : ∃ s, l[k]? = some s := ⟨_, List.getElem?_eq_getElem (by have := HL.out; omega)⟩
        obtain ⟨ab, off, ha, y0, y1, y2, y3, y4, y5, y6, y7, y8, y9, y10, y11, y12, y13, y14⟩ := HR.out.step hs HA.out.one.bel
        subst ha
        have ia := HA.out.alloc (.cells #[.int .i64 s.d, .int .i64 s.now, .int .i64 s.n, .int .i64 s.x.node, .int .i64 s.x.level, .int .i64 s.x.pod, .int .i64 s.x.mtu, .int .i64 s.x.link, .int .i64 s.x.nonce, .int .i64 s.x.seen, .int .i64 s.x.seenLink, .int .i64 s.x.seenNonce, .int .i64 s.x.hold, .bool s.x.rep, .bool s.x.noOffer] 37)
        have IA := Lib.hid ia
        clear hs HA ia
        by_cases d0 : s.d = 0
        · have b0 : (s.d == 0) = true := by simpa using d0
          clear d0
          have tk := fun W (q : SayI w b p e W) => take_at q s.x s.now
          obtain ⟨r, hr⟩ : ∃ r, (takeE e s.x s.now).1 = r := ⟨_, rfl⟩
          obtain ⟨f, hf⟩ : ∃ f, (takeE e s.x s.now).2 = f := ⟨_, rfl⟩
          rw [hr, hf] at tk
          have IF : RowKit.Hid (InvE f) := by rw [← hf]; exact takeE_inv IA.out.inv _ _
          have TK1 := Lib.hid tk
          clear hr hf tk
          have fn : 1 ≤ f.nonce ∧ f.nonce ≤ 65535 := IF.out.nonce
          have sa := fun W (q : SayI w b p f W) => say_at q
          have oo := fun W (q : SayI w b p f W) => other_at q
          obtain ⟨nn, hnn⟩ : ∃ x, f.nonce = x := ⟨_, rfl⟩
          obtain ⟨ol, hol⟩ : ∃ x, f.o.link = x := ⟨_, rfl⟩
          obtain ⟨ov, hov⟩ : ∃ x, f.o.level = x := ⟨_, rfl⟩
          obtain ⟨oc, hoc⟩ : ∃ x, f.o.nonce = x := ⟨_, rfl⟩
          rw [hnn] at fn
          simp only [hnn, hol, hoc] at sa
          simp only [hol, hov, hoc] at oo
          have NB := Lib.hid fn
          clear hnn hol hov hoc fn
          by_cases hz : f.o.node = 0
          · obtain ⟨on, hon⟩ : ∃ x : Int, x = 0 := ⟨_, rfl⟩
            simp only [hz, ne_eq, not_true_eq_false, decide_false] at sa oo
            have SA := Lib.hid sa
            have OO := Lib.hid oo
            clear sa oo
            have hn1 := NB.out
            go_wp2_with (first
                  | (go_at_call 14; (with_reducible refine (TK1.out _ IA.out).mono ?_); rintro en w2 ⟨rfl, hi2, _⟩; have I2 := Lib.hid hi2; clear hi2)
                  | (go_at_call 22; (with_reducible refine (SA.out _ I2.out).mono ?_); rintro e w3 ⟨rfl, hi3, hb3⟩; have hl3 := heap_alloc_new w3 (.cells #[.int .i64 p.node, .int .i64 p.level, .int .i64 p.pod, .int .i64 p.mtu, .int .i64 p.link, .int .i64 nn, .int .i64 0, .int .i64 ol, .int .i64 oc, .int .i64 p.hold, .bool false, .bool false] 25); have I3 := Lib.hid (hi3.alloc (.cells #[.int .i64 p.node, .int .i64 p.level, .int .i64 p.pod, .int .i64 p.mtu, .int .i64 p.link, .int .i64 nn, .int .i64 0, .int .i64 ol, .int .i64 oc, .int .i64 p.hold, .bool false, .bool false] 25)); have L3 := Lib.hid (show BxP 25 (w3.alloc (.cells #[.int .i64 p.node, .int .i64 p.level, .int .i64 p.pod, .int .i64 p.mtu, .int .i64 p.link, .int .i64 nn, .int .i64 0, .int .i64 ol, .int .i64 oc, .int .i64 p.hold, .bool false, .bool false] 25)) w3.heap.size [.int .i64 p.node, .int .i64 p.level, .int .i64 p.pod, .int .i64 p.mtu, .int .i64 p.link, .int .i64 nn, .int .i64 0, .int .i64 ol, .int .i64 oc, .int .i64 p.hold, .bool false, .bool false] from hl3); clear hi3 hb3 hl3)
                  | (go_at_call 20; (with_reducible refine (OO.out _ I3.out).mono ?_); rintro e w4 ⟨rfl, hi4, hb4⟩; have hl4 := L3.out.below hb4; have q0 := hl4.cell 0 rfl; have q1 := hl4.cell 1 rfl; have q2 := hl4.cell 2 rfl; have q3 := hl4.cell 3 rfl; have q4 := hl4.cell 4 rfl; have q5 := hl4.cell 5 rfl; have q6 := hl4.cell 6 rfl; have q7 := hl4.cell 7 rfl; have q8 := hl4.cell 8 rfl; have q9 := hl4.cell 9 rfl; have lt3 := hl4.lt; have ne3 : w3.heap.size ≠ w4.heap.size := (by omega); have ltp := hi4.box.lt; have nep : w.heap.size ≠ w4.heap.size := (by omega); obtain ⟨zp0, zp1, zp2, zp3, zp4, zp5⟩ := hi4.box.port; have I4 := Lib.hid (hi4.alloc (.cells #[.int .i64 0, .int .i64 ol, .int .i64 ov, .int .i64 oc] 41)); clear hi4 hb4 hl4))
            go_roundw
            case rel => exact ⟨k + 1, f, by go_num, by omega, by omega, I4⟩
            case measure => simp [intOf]; omega
          · have dz : decide (f.o.node ≠ 0) = true := decide_eq_true hz
            obtain ⟨on, hon⟩ : ∃ x, f.o.node = x := ⟨_, rfl⟩
            rw [dz] at oo
            simp only [hon] at sa oo
            clear hz dz hon
            have SA := Lib.hid sa
            have OO := Lib.hid oo
            clear sa oo
            have hn1 := NB.out
            go_wp2_with (first
                  | (go_at_call 14; (with_reducible refine (TK1.out _ IA.out).mono ?_); rintro en w2 ⟨rfl, hi2, _⟩; have I2 := Lib.hid hi2; clear hi2)
                  | (go_at_call 22; (with_reducible refine (SA.out _ I2.out).mono ?_); rintro e w3 ⟨rfl, hi3, hb3⟩; have hl3 := heap_alloc_new w3 (.cells #[.int .i64 p.node, .int .i64 p.level, .int .i64 p.pod, .int .i64 p.mtu, .int .i64 p.link, .int .i64 nn, .int .i64 on, .int .i64 ol, .int .i64 oc, .int .i64 p.hold, .bool false, .bool false] 25); have I3 := Lib.hid (hi3.alloc (.cells #[.int .i64 p.node, .int .i64 p.level, .int .i64 p.pod, .int .i64 p.mtu, .int .i64 p.link, .int .i64 nn, .int .i64 on, .int .i64 ol, .int .i64 oc, .int .i64 p.hold, .bool false, .bool false] 25)); have L3 := Lib.hid (show BxP 25 (w3.alloc (.cells #[.int .i64 p.node, .int .i64 p.level, .int .i64 p.pod, .int .i64 p.mtu, .int .i64 p.link, .int .i64 nn, .int .i64 on, .int .i64 ol, .int .i64 oc, .int .i64 p.hold, .bool false, .bool false] 25)) w3.heap.size [.int .i64 p.node, .int .i64 p.level, .int .i64 p.pod, .int .i64 p.mtu, .int .i64 p.link, .int .i64 nn, .int .i64 on, .int .i64 ol, .int .i64 oc, .int .i64 p.hold, .bool false, .bool false] from hl3); clear hi3 hb3 hl3)
                  | (go_at_call 20; (with_reducible refine (OO.out _ I3.out).mono ?_); rintro e w4 ⟨rfl, hi4, hb4⟩; have hl4 := L3.out.below hb4; have q0 := hl4.cell 0 rfl; have q1 := hl4.cell 1 rfl; have q2 := hl4.cell 2 rfl; have q3 := hl4.cell 3 rfl; have q4 := hl4.cell 4 rfl; have q5 := hl4.cell 5 rfl; have q6 := hl4.cell 6 rfl; have q7 := hl4.cell 7 rfl; have q8 := hl4.cell 8 rfl; have q9 := hl4.cell 9 rfl; have lt3 := hl4.lt; have ne3 : w3.heap.size ≠ w4.heap.size := (by omega); have ltp := hi4.box.lt; have nep : w.heap.size ≠ w4.heap.size := (by omega); obtain ⟨zp0, zp1, zp2, zp3, zp4, zp5⟩ := hi4.box.port; have I4 := Lib.hid (hi4.alloc (.cells #[.int .i64 on, .int .i64 ol, .int .i64 ov, .int .i64 oc] 41)); clear hi4 hb4 hl4))
            go_roundw
            case rel => exact ⟨k + 1, f, by go_num, by omega, by omega, I4⟩
            case measure => simp [intOf]; omega
        · have b0 : (s.d == 0) = false := by simpa using d0
          clear d0
          by_cases d1 : s.d = 1
          · have b1 : (s.d == 1) = true := by simpa using d1
            clear d1
            have tk := fun W (q : SayI w b p e W) => tick_at q s.now
            obtain ⟨r, hr⟩ : ∃ r, (tickE e s.now).1 = r := ⟨_, rfl⟩
            obtain ⟨f, hf⟩ : ∃ f, (tickE e s.now).2 = f := ⟨_, rfl⟩
            rw [hr, hf] at tk
            have IF : RowKit.Hid (InvE f) := by rw [← hf]; exact tickE_inv IA.out.inv _
            have TK1 := Lib.hid tk
            clear hr hf tk
            have fn : 1 ≤ f.nonce ∧ f.nonce ≤ 65535 := IF.out.nonce
            have sa := fun W (q : SayI w b p f W) => say_at q
            have oo := fun W (q : SayI w b p f W) => other_at q
            obtain ⟨nn, hnn⟩ : ∃ x, f.nonce = x := ⟨_, rfl⟩
            obtain ⟨ol, hol⟩ : ∃ x, f.o.link = x := ⟨_, rfl⟩
            obtain ⟨ov, hov⟩ : ∃ x, f.o.level = x := ⟨_, rfl⟩
            obtain ⟨oc, hoc⟩ : ∃ x, f.o.nonce = x := ⟨_, rfl⟩
            rw [hnn] at fn
            simp only [hnn, hol, hoc] at sa
            simp only [hol, hov, hoc] at oo
            have NB := Lib.hid fn
            clear hnn hol hov hoc fn
            by_cases hz : f.o.node = 0
            · obtain ⟨on, hon⟩ : ∃ x : Int, x = 0 := ⟨_, rfl⟩
              simp only [hz, ne_eq, not_true_eq_false, decide_false] at sa oo
              have SA := Lib.hid sa
              have OO := Lib.hid oo
              clear sa oo
              have hn1 := NB.out
              go_wp2_with (first
                    | (go_at_call 16; (with_reducible refine (TK1.out _ IA.out).mono ?_); rintro en w2 ⟨rfl, hi2, _⟩; have I2 := Lib.hid hi2; clear hi2)
                    | (go_at_call 22; (with_reducible refine (SA.out _ I2.out).mono ?_); rintro e w3 ⟨rfl, hi3, hb3⟩; have hl3 := heap_alloc_new w3 (.cells #[.int .i64 p.node, .int .i64 p.level, .int .i64 p.pod, .int .i64 p.mtu, .int .i64 p.link, .int .i64 nn, .int .i64 0, .int .i64 ol, .int .i64 oc, .int .i64 p.hold, .bool false, .bool false] 25); have I3 := Lib.hid (hi3.alloc (.cells #[.int .i64 p.node, .int .i64 p.level, .int .i64 p.pod, .int .i64 p.mtu, .int .i64 p.link, .int .i64 nn, .int .i64 0, .int .i64 ol, .int .i64 oc, .int .i64 p.hold, .bool false, .bool false] 25)); have L3 := Lib.hid (show BxP 25 (w3.alloc (.cells #[.int .i64 p.node, .int .i64 p.level, .int .i64 p.pod, .int .i64 p.mtu, .int .i64 p.link, .int .i64 nn, .int .i64 0, .int .i64 ol, .int .i64 oc, .int .i64 p.hold, .bool false, .bool false] 25)) w3.heap.size [.int .i64 p.node, .int .i64 p.level, .int .i64 p.pod, .int .i64 p.mtu, .int .i64 p.link, .int .i64 nn, .int .i64 0, .int .i64 ol, .int .i64 oc, .int .i64 p.hold, .bool false, .bool false] from hl3); clear hi3 hb3 hl3)
                    | (go_at_call 20; (with_reducible refine (OO.out _ I3.out).mono ?_); rintro e w4 ⟨rfl, hi4, hb4⟩; have hl4 := L3.out.below hb4; have q0 := hl4.cell 0 rfl; have q1 := hl4.cell 1 rfl; have q2 := hl4.cell 2 rfl; have q3 := hl4.cell 3 rfl; have q4 := hl4.cell 4 rfl; have q5 := hl4.cell 5 rfl; have q6 := hl4.cell 6 rfl; have q7 := hl4.cell 7 rfl; have q8 := hl4.cell 8 rfl; have q9 := hl4.cell 9 rfl; have lt3 := hl4.lt; have ne3 : w3.heap.size ≠ w4.heap.size := (by omega); have ltp := hi4.box.lt; have nep : w.heap.size ≠ w4.heap.size := (by omega); obtain ⟨zp0, zp1, zp2, zp3, zp4, zp5⟩ := hi4.box.port; have I4 := Lib.hid (hi4.alloc (.cells #[.int .i64 0, .int .i64 ol, .int .i64 ov, .int .i64 oc] 41)); clear hi4 hb4 hl4))
              go_roundw
              case rel => exact ⟨k + 1, f, by go_num, by omega, by omega, I4⟩
              case measure => simp [intOf]; omega
            · have dz : decide (f.o.node ≠ 0) = true := decide_eq_true hz
              obtain ⟨on, hon⟩ : ∃ x, f.o.node = x := ⟨_, rfl⟩
              rw [dz] at oo
              simp only [hon] at sa oo
              clear hz dz hon
              have SA := Lib.hid sa
              have OO := Lib.hid oo
              clear sa oo
              have hn1 := NB.out
              go_wp2_with (first
                    | (go_at_call 16; (with_reducible refine (TK1.out _ IA.out).mono ?_); rintro en w2 ⟨rfl, hi2, _⟩; have I2 := Lib.hid hi2; clear hi2)
                    | (go_at_call 22; (with_reducible refine (SA.out _ I2.out).mono ?_); rintro e w3 ⟨rfl, hi3, hb3⟩; have hl3 := heap_alloc_new w3 (.cells #[.int .i64 p.node, .int .i64 p.level, .int .i64 p.pod, .int .i64 p.mtu, .int .i64 p.link, .int .i64 nn, .int .i64 on, .int .i64 ol, .int .i64 oc, .int .i64 p.hold, .bool false, .bool false] 25); have I3 := Lib.hid (hi3.alloc (.cells #[.int .i64 p.node, .int .i64 p.level, .int .i64 p.pod, .int .i64 p.mtu, .int .i64 p.link, .int .i64 nn, .int .i64 on, .int .i64 ol, .int .i64 oc, .int .i64 p.hold, .bool false, .bool false] 25)); have L3 := Lib.hid (show BxP 25 (w3.alloc (.cells #[.int .i64 p.node, .int .i64 p.level, .int .i64 p.pod, .int .i64 p.mtu, .int .i64 p.link, .int .i64 nn, .int .i64 on, .int .i64 ol, .int .i64 oc, .int .i64 p.hold, .bool false, .bool false] 25)) w3.heap.size [.int .i64 p.node, .int .i64 p.level, .int .i64 p.pod, .int .i64 p.mtu, .int .i64 p.link, .int .i64 nn, .int .i64 on, .int .i64 ol, .int .i64 oc, .int .i64 p.hold, .bool false, .bool false] from hl3); clear hi3 hb3 hl3)
                    | (go_at_call 20; (with_reducible refine (OO.out _ I3.out).mono ?_); rintro e w4 ⟨rfl, hi4, hb4⟩; have hl4 := L3.out.below hb4; have q0 := hl4.cell 0 rfl; have q1 := hl4.cell 1 rfl; have q2 := hl4.cell 2 rfl; have q3 := hl4.cell 3 rfl; have q4 := hl4.cell 4 rfl; have q5 := hl4.cell 5 rfl; have q6 := hl4.cell 6 rfl; have q7 := hl4.cell 7 rfl; have q8 := hl4.cell 8 rfl; have q9 := hl4.cell 9 rfl; have lt3 := hl4.lt; have ne3 : w3.heap.size ≠ w4.heap.size := (by omega); have ltp := hi4.box.lt; have nep : w.heap.size ≠ w4.heap.size := (by omega); obtain ⟨zp0, zp1, zp2, zp3, zp4, zp5⟩ := hi4.box.port; have I4 := Lib.hid (hi4.alloc (.cells #[.int .i64 on, .int .i64 ol, .int .i64 ov, .int .i64 oc] 41)); clear hi4 hb4 hl4))
              go_roundw
              case rel => exact ⟨k + 1, f, by go_num, by omega, by omega, I4⟩
              case measure => simp [intOf]; omega
          · have b1 : (s.d == 1) = false := by simpa using d1
            clear d1
            obtain ⟨f, hf⟩ : ∃ f, e = f := ⟨_, rfl⟩
            rw [hf] at IA
            clear hf
            have IF : RowKit.Hid (InvE f) := IA.out.inv
            have I2 := IA
            have fn : 1 ≤ f.nonce ∧ f.nonce ≤ 65535 := IF.out.nonce
            have sa := fun W (q : SayI w b p f W) => say_at q
            have oo := fun W (q : SayI w b p f W) => other_at q
            obtain ⟨nn, hnn⟩ : ∃ x, f.nonce = x := ⟨_, rfl⟩
            obtain ⟨ol, hol⟩ : ∃ x, f.o.link = x := ⟨_, rfl⟩
            obtain ⟨ov, hov⟩ : ∃ x, f.o.level = x := ⟨_, rfl⟩
            obtain ⟨oc, hoc⟩ : ∃ x, f.o.nonce = x := ⟨_, rfl⟩
            rw [hnn] at fn
            simp only [hnn, hol, hoc] at sa
            simp only [hol, hov, hoc] at oo
            have NB := Lib.hid fn
            clear hnn hol hov hoc fn
            by_cases hz : f.o.node = 0
            · obtain ⟨on, hon⟩ : ∃ x : Int, x = 0 := ⟨_, rfl⟩
              simp only [hz, ne_eq, not_true_eq_false, decide_false] at sa oo
              have SA := Lib.hid sa
              have OO := Lib.hid oo
              clear sa oo
              have hn1 := NB.out
              go_wp2_with (first
                    | (go_at_call 22; (with_reducible refine (SA.out _ I2.out).mono ?_); rintro e w3 ⟨rfl, hi3, hb3⟩; have hl3 := heap_alloc_new w3 (.cells #[.int .i64 p.node, .int .i64 p.level, .int .i64 p.pod, .int .i64 p.mtu, .int .i64 p.link, .int .i64 nn, .int .i64 0, .int .i64 ol, .int .i64 oc, .int .i64 p.hold, .bool false, .bool false] 25); have I3 := Lib.hid (hi3.alloc (.cells #[.int .i64 p.node, .int .i64 p.level, .int .i64 p.pod, .int .i64 p.mtu, .int .i64 p.link, .int .i64 nn, .int .i64 0, .int .i64 ol, .int .i64 oc, .int .i64 p.hold, .bool false, .bool false] 25)); have L3 := Lib.hid (show BxP 25 (w3.alloc (.cells #[.int .i64 p.node, .int .i64 p.level, .int .i64 p.pod, .int .i64 p.mtu, .int .i64 p.link, .int .i64 nn, .int .i64 0, .int .i64 ol, .int .i64 oc, .int .i64 p.hold, .bool false, .bool false] 25)) w3.heap.size [.int .i64 p.node, .int .i64 p.level, .int .i64 p.pod, .int .i64 p.mtu, .int .i64 p.link, .int .i64 nn, .int .i64 0, .int .i64 ol, .int .i64 oc, .int .i64 p.hold, .bool false, .bool false] from hl3); clear hi3 hb3 hl3)
                    | (go_at_call 20; (with_reducible refine (OO.out _ I3.out).mono ?_); rintro e w4 ⟨rfl, hi4, hb4⟩; have hl4 := L3.out.below hb4; have q0 := hl4.cell 0 rfl; have q1 := hl4.cell 1 rfl; have q2 := hl4.cell 2 rfl; have q3 := hl4.cell 3 rfl; have q4 := hl4.cell 4 rfl; have q5 := hl4.cell 5 rfl; have q6 := hl4.cell 6 rfl; have q7 := hl4.cell 7 rfl; have q8 := hl4.cell 8 rfl; have q9 := hl4.cell 9 rfl; have lt3 := hl4.lt; have ne3 : w3.heap.size ≠ w4.heap.size := (by omega); have ltp := hi4.box.lt; have nep : w.heap.size ≠ w4.heap.size := (by omega); obtain ⟨zp0, zp1, zp2, zp3, zp4, zp5⟩ := hi4.box.port; have I4 := Lib.hid (hi4.alloc (.cells #[.int .i64 0, .int .i64 ol, .int .i64 ov, .int .i64 oc] 41)); clear hi4 hb4 hl4))
              go_roundw
              case rel => exact ⟨k + 1, f, by go_num, by omega, by omega, I4⟩
              case measure => simp [intOf]; omega
            · have dz : decide (f.o.node ≠ 0) = true := decide_eq_true hz
              obtain ⟨on, hon⟩ : ∃ x, f.o.node = x := ⟨_, rfl⟩
              rw [dz] at oo
              simp only [hon] at sa oo
              clear hz dz hon
              have SA := Lib.hid sa
              have OO := Lib.hid oo
              clear sa oo
              have hn1 := NB.out
              go_wp2_with (first
                    | (go_at_call 22; (with_reducible refine (SA.out _ I2.out).mono ?_); rintro e w3 ⟨rfl, hi3, hb3⟩; have hl3 := heap_alloc_new w3 (.cells #[.int .i64 p.node, .int .i64 p.level, .int .i64 p.pod, .int .i64 p.mtu, .int .i64 p.link, .int .i64 nn, .int .i64 on, .int .i64 ol, .int .i64 oc, .int .i64 p.hold, .bool false, .bool false] 25); have I3 := Lib.hid (hi3.alloc (.cells #[.int .i64 p.node, .int .i64 p.level, .int .i64 p.pod, .int .i64 p.mtu, .int .i64 p.link, .int .i64 nn, .int .i64 on, .int .i64 ol, .int .i64 oc, .int .i64 p.hold, .bool false, .bool false] 25)); have L3 := Lib.hid (show BxP 25 (w3.alloc (.cells #[.int .i64 p.node, .int .i64 p.level, .int .i64 p.pod, .int .i64 p.mtu, .int .i64 p.link, .int .i64 nn, .int .i64 on, .int .i64 ol, .int .i64 oc, .int .i64 p.hold, .bool false, .bool false] 25)) w3.heap.size [.int .i64 p.node, .int .i64 p.level, .int .i64 p.pod, .int .i64 p.mtu, .int .i64 p.link, .int .i64 nn, .int .i64 on, .int .i64 ol, .int .i64 oc, .int .i64 p.hold, .bool false, .bool false] from hl3); clear hi3 hb3 hl3)
                    | (go_at_call 20; (with_reducible refine (OO.out _ I3.out).mono ?_); rintro e w4 ⟨rfl, hi4, hb4⟩; have hl4 := L3.out.below hb4; have q0 := hl4.cell 0 rfl; have q1 := hl4.cell 1 rfl; have q2 := hl4.cell 2 rfl; have q3 := hl4.cell 3 rfl; have q4 := hl4.cell 4 rfl; have q5 := hl4.cell 5 rfl; have q6 := hl4.cell 6 rfl; have q7 := hl4.cell 7 rfl; have q8 := hl4.cell 8 rfl; have q9 := hl4.cell 9 rfl; have lt3 := hl4.lt; have ne3 : w3.heap.size ≠ w4.heap.size := (by omega); have ltp := hi4.box.lt; have nep : w.heap.size ≠ w4.heap.size := (by omega); obtain ⟨zp0, zp1, zp2, zp3, zp4, zp5⟩ := hi4.box.port; have I4 := Lib.hid (hi4.alloc (.cells #[.int .i64 on, .int .i64 ol, .int .i64 ov, .int .i64 oc] 41)); clear hi4 hb4 hl4))
              go_roundw
              case rel => exact ⟨k + 1, f, by go_num, by omega, by omega, I4⟩
              case measure => simp [intOf]; omega
      · obtain rfl : k = 150 := by omega
        have HF := Lib.hid HA.out.one.bel
        clear HA
        go_wp2
        go_ret
        exact ⟨rfl, HF.out⟩
    · obtain rfl : k = len := by omega
      have HF := Lib.hid HA.out.one.bel
      clear HA
      go_wp2
      go_ret
      exact ⟨rfl, HF.out⟩
theorem says_law (p : PortT) (_ : InI p.level ∧ InI p.hold) (a : Option Addr) (cap : Nat) (l : List StepT) (hl : l.length ≤ cap ∧ cap ≤ maxLen ∧ ∀ s ∈ l, InI s.now) (w : World) (hr : RdS w.heap.size w a l) : Calls Try.prog 8 #[.agg #[.int .i64 p.node, .int .i64 p.level, .int .i64 p.pod, .int .i64 p.mtu, .int .i64 p.link, .int .i64 p.hold], .slice a l.length cap] w fun e w' => e = .returned (.bool true) ∧ Below w.heap.size w w' := by
  by_cases hp : portB p
  · exact says_yes p hp a cap l (Nat.le_trans hl.1 hl.2.1) w hr
  · exact says_no p hp a l.length cap w
end Go.Proofs.Yticbfmbinopjcaa
