/-
  TWO ENDS THAT HEAR ONE ANOTHER: a round; the laws' ends are awake.
-/
import Derived.Test.YticbfmbinopjcaaLArg
namespace Go.Proofs.Yticbfmbinopjcaa
set_option linter.unusedSimpArgs false
set_option linter.unusedVariables false
open Go.RowKit Go.ChangeShapes Go.WideShapes
/-- All cells but those of ends are as they were. -/
def KE (W W' : World) : Prop := W.heap.size ≤ W'.heap.size ∧ ∀ (i : Nat) (cs : Array Value) (T : TypeId) (fr : Nat × Nat), T ≠ 56 → T ≠ 46 → W.heap[i]? = some (.cells cs T fr) → W'.heap[i]? = some (.cells cs T fr)
theorem KE.refl (W : World) : KE W W := ⟨Nat.le_refl _, fun _ _ _ _ _ _ h => h⟩
theorem KE.trans {X Y Z : World} (h : KE X Y) (k : KE Y Z) : KE X Z := ⟨Nat.le_trans h.1 k.1, fun i cs T fr a b c => k.2 i cs T fr a b (h.2 i cs T fr a b c)⟩
theorem KE.below {X Y : World} (h : Below X.heap.size X Y) : KE X Y := ⟨h.size, fun i _ _ _ _ _ hc => (h.block i (Array.getElem?_eq_some_iff.1 hc).1).trans hc⟩
theorem But.ke {T : TypeId} {W W' : World} {b : Nat} {e : EndT} (h : But b W W') (q : EndP T W b e) (hT : T = 56 ∨ T = 46) : KE W W' := by
  refine ⟨h.size, fun i cs U fr h1 h2 hc => (h.block i (Array.getElem?_eq_some_iff.1 hc).1 ?_).trans hc⟩
  rintro rfl
  unfold EndP at q
  rw [q] at hc
  injection hc with hc
  injection hc with _ hc _
  rcases hT with rfl | rfl
  · exact h1 hc.symm
  · exact h2 hc.symm
/-- A box that is no end's. -/
def BxP (T : TypeId) (W : World) (k : Nat) (l : List Value) : Prop := W.heap[k]? = some (.cells l.toArray T (0, 0))
theorem BxP.lt {T : TypeId} {W : World} {k : Nat} {l : List Value} (h : BxP T W k l) : k < W.heap.size := (Array.getElem?_eq_some_iff.1 h).1
theorem BxP.below {T : TypeId} {W W' : World} {k : Nat} {l : List Value} (h : BxP T W k l) (q : Below W.heap.size W W') : BxP T W' k l := (q.block k h.lt).trans h
theorem BxP.keep {T : TypeId} {W W' : World} {k : Nat} {l : List Value} (h : BxP T W k l) (q : KE W W') (h1 : T ≠ 56) (h2 : T ≠ 46) : BxP T W' k l := q.2 _ _ _ _ h1 h2 h
theorem BxP.cell {T : TypeId} {W : World} {k : Nat} {l : List Value} (h : BxP T W k l) (i : Nat) {v : Value} (hv : l[i]? = some v) : W.cell? ⟨k, i, none⟩ = some v := by
  unfold BxP at h
  rw [cell_of_row W k _ _ _ _ h]
  simpa using hv
theorem BxP.range {T : TypeId} {W : World} {k : Nat} {l : List Value} (h : BxP T W k l) : W.rangeAt k 0 l := fun j v hv => by
  rw [Nat.zero_add]
  exact h.cell j hv
theorem BxP.frozen {T : TypeId} {W : World} {k : Nat} {l : List Value} (h : BxP T W k l) (j : Nat) : W.frozen? ⟨k, j, none⟩ = false := by
  unfold BxP at h
  simp [World.frozen?, h]
/-- One end, of type T, made behind W0. -/
structure One (T : TypeId) (W0 : World) (b : Nat) (e : EndT) (W : World) : Prop where
  e : EndP T W b e
  le : W0.heap.size ≤ b
  bel : Below W0.heap.size W0 W
theorem One.below {T : TypeId} {W0 W W' : World} {b : Nat} {e : EndT} (h : One T W0 b e W) (q : Below W.heap.size W W') : One T W0 b e W' := ⟨h.e.same (q.block b h.e.lt), h.le, h.bel.trans (q.mono h.bel.size)⟩
theorem One.turn {T : TypeId} {W0 W W' : World} {b : Nat} {e e' : EndT} (h : One T W0 b e W) (q : EndP T W' b e') (k : But b W W') : One T W0 b e' W' := ⟨q, h.le, h.bel.trans (k.below h.le h.bel.size)⟩
theorem One.back {T : TypeId} {W0 W1 W : World} {b : Nat} {e : EndT} (h : One T W1 b e W) (k : Below W0.heap.size W0 W1) : One T W0 b e W := ⟨h.e, Nat.le_trans k.size h.le, k.trans (h.bel.mono k.size)⟩
/-- Two ends beside one another. -/
structure Duo2 (T U : TypeId) (W0 : World) (ba bb : Nat) (a b : EndT) (W : World) : Prop where
  a : EndP T W ba a
  b : EndP U W bb b
  ne : ba ≠ bb
  la : W0.heap.size ≤ ba
  lb : W0.heap.size ≤ bb
  bel : Below W0.heap.size W0 W
section
variable {T U : TypeId} {W0 W W' : World} {ba bb : Nat} {a b a' b' : EndT}
theorem Duo2.below (h : Duo2 T U W0 ba bb a b W) (q : Below W.heap.size W W') : Duo2 T U W0 ba bb a b W' := ⟨h.a.same (q.block ba h.a.lt), h.b.same (q.block bb h.b.lt), h.ne, h.la, h.lb, h.bel.trans (q.mono h.bel.size)⟩
theorem Duo2.doA (h : Duo2 T U W0 ba bb a b W) (q : EndP T W' ba a') (k : But ba W W') : Duo2 T U W0 ba bb a' b W' := ⟨q, h.b.same (k.block bb h.b.lt (fun e => h.ne e.symm)), h.ne, h.la, h.lb, h.bel.trans (k.below h.la h.bel.size)⟩
theorem Duo2.doB (h : Duo2 T U W0 ba bb a b W) (q : EndP U W' bb b') (k : But bb W W') : Duo2 T U W0 ba bb a b' W' := ⟨h.a.same (k.block ba h.a.lt h.ne), q, h.ne, h.la, h.lb, h.bel.trans (k.below h.lb h.bel.size)⟩
theorem Duo2.mk2 {W1 : World} (h : One T W0 ba a W1) (k : One U W1 bb b W) : Duo2 T U W0 ba bb a b W := ⟨h.e.same (k.bel.block ba h.e.lt), k.e, fun e => by have := h.e.lt; have := k.le; omega, h.le, Nat.le_trans h.bel.size k.le, h.bel.trans (k.bel.mono h.bel.size)⟩
end
theorem new_one (p : PortT) (hp : portB p) (w : World) : Calls Try.prog 12 #[.agg #[.int .i64 p.node, .int .i64 p.level, .int .i64 p.pod, .int .i64 p.mtu, .int .i64 p.link, .int .i64 p.hold]] w fun e w' => ∃ b, e = .returned (.tuple #[.pointer (some ⟨b, 0, none⟩), .int .i64 0]) ∧ One 56 w b (newE p) w' :=
  (new_some p hp w).mono fun e w' ⟨b, h1, h2, h3, h4⟩ => ⟨b, h1, h3, h2, h4⟩
def roundE (a b : EndT) (now : Int) : EndT × EndT :=
  ((takeE (tickE a now).2 (sayE (takeE (tickE b now).2 (sayE (tickE a now).2) now).2) now).2, (takeE (tickE b now).2 (sayE (tickE a now).2) now).2)
theorem roundE_inv {a b : EndT} (ha : InvE a) (hb : InvE b) (now : Int) : InvE (roundE a b now).1 ∧ InvE (roundE a b now).2 := ⟨takeE_inv (tickE_inv ha _) _ _, takeE_inv (tickE_inv hb _) _ _⟩
set_option maxHeartbeats 1600000 in
set_option maxRecDepth 100000 in
theorem round_any {W0 W : World} {ba bb : Nat} {a b : EndT} (h : Duo2 56 56 W0 ba bb a b W) (ha : InvE a) (hb : InvE b) (now : Int) : Calls Try.prog 24 #[.pointer (some ⟨ba, 0, none⟩), .pointer (some ⟨bb, 0, none⟩), .int .i64 now] W fun en W' => en = .returned (.tuple #[]) ∧ Duo2 56 56 W0 ba bb (roundE a b now).1 (roundE a b now).2 W' ∧ KE W W' := by
  have ia := tickE_inv ha now
  have ib := tickE_inv hb now
  have t1 := fun W (q : EndP 56 W ba a) => tick_any q now
  have t2 := fun W (q : EndP 56 W bb b) => tick_any q now
  unfold roundE
  obtain ⟨a1, ha1⟩ : ∃ a1, (tickE a now).2 = a1 := ⟨_, rfl⟩
  obtain ⟨b1, hb1⟩ : ∃ b1, (tickE b now).2 = b1 := ⟨_, rfl⟩
  obtain ⟨na, hna⟩ : ∃ n, (tickE a now).1 = n := ⟨_, rfl⟩
  obtain ⟨nb, hnb⟩ : ∃ n, (tickE b now).1 = n := ⟨_, rfl⟩
  rw [ha1] at ia t1 ⊢
  rw [hb1] at ib t2 ⊢
  rw [hna] at t1
  rw [hnb] at t2
  have s1 := fun W (q : EndP 56 W ba a1) => say_any q
  have k1 : ∀ W, EndP 56 W bb b1 → Calls Try.prog 14 #[.pointer (some ⟨bb, 0, none⟩), .agg #[.int .i64 a1.p.node, .int .i64 a1.p.level, .int .i64 a1.p.pod, .int .i64 a1.p.mtu, .int .i64 a1.p.link, .int .i64 a1.nonce, .int .i64 a1.o.node, .int .i64 a1.o.link, .int .i64 a1.o.nonce, .int .i64 a1.p.hold, .bool false, .bool false], .int .i64 now] W (TakeP 56 W bb b1 (sayE a1) now) := fun W q => take_any q ib (sayE a1) now
  unfold TakeP at k1
  have ib2 := takeE_inv ib (sayE a1) now
  obtain ⟨b2, hb2⟩ : ∃ b2, (takeE b1 (sayE a1) now).2 = b2 := ⟨_, rfl⟩
  obtain ⟨mb, hmb⟩ : ∃ n, (takeE b1 (sayE a1) now).1 = n := ⟨_, rfl⟩
  rw [hb2] at ib2 k1 ⊢
  rw [hmb] at k1
  have s2 := fun W (q : EndP 56 W bb b2) => say_any q
  have k2 : ∀ W, EndP 56 W ba a1 → Calls Try.prog 14 #[.pointer (some ⟨ba, 0, none⟩), .agg #[.int .i64 b2.p.node, .int .i64 b2.p.level, .int .i64 b2.p.pod, .int .i64 b2.p.mtu, .int .i64 b2.p.link, .int .i64 b2.nonce, .int .i64 b2.o.node, .int .i64 b2.o.link, .int .i64 b2.o.nonce, .int .i64 b2.p.hold, .bool false, .bool false], .int .i64 now] W (TakeP 56 W ba a1 (sayE b2) now) := fun W q => take_any q ia (sayE b2) now
  unfold TakeP at k2
  obtain ⟨a2, ha2⟩ : ∃ a2, (takeE a1 (sayE b2) now).2 = a2 := ⟨_, rfl⟩
  obtain ⟨ma, hma⟩ : ∃ n, (takeE a1 (sayE b2) now).1 = n := ⟨_, rfl⟩
  rw [ha2] at k2 ⊢
  rw [hma] at k2
  have H := Lib.hid h
  have T1 := Lib.hid t1
  have T2 := Lib.hid t2
  have S1 := Lib.hid s1
  have S2 := Lib.hid s2
  have K1 := Lib.hid k1
  have K2 := Lib.hid k2
  have C1 : True := trivial
  have C2 : True := trivial
  have C3 : True := trivial
  clear h t1 t2 s1 s2 k1 k2 ia ib ib2 ha hb ha1 hb1 hna hnb hb2 hmb ha2 hma
  go_enter Try.func24, Try.ntmps24
  go_wp2_with (first
    | (go_at_call 16; have c1 := C1; clear C1 c1; (with_reducible refine (T1.out _ H.out.a).mono ?_); rintro en w1 ⟨rfl, h1, h2⟩; have D1 := Lib.hid (H.out.doA h1 h2); have E1 := Lib.hid (h2.ke H.out.a (.inl rfl)); clear h1 h2)
    | (go_at_call 16; (with_reducible refine (T2.out _ D1.out.b).mono ?_); rintro en w2 ⟨rfl, h1, h2⟩; have D2 := Lib.hid (D1.out.doB h1 h2); have E2 := Lib.hid (E1.out.trans (h2.ke D1.out.b (.inl rfl))); clear h1 h2)
    | (go_at_call 22; have c2 := C2; clear C2 c2; (with_reducible refine (S1.out _ D2.out.a).mono ?_); rintro en w3 ⟨rfl, h1⟩; have D3 := Lib.hid (D2.out.below h1); have E3 := Lib.hid (E2.out.trans (KE.below h1)); clear h1)
    | (go_at_call 14; have c3 := C3; clear C3 c3; (with_reducible refine (K1.out _ D3.out.b).mono ?_); rintro en w4 ⟨rfl, h1, h2⟩; have D4 := Lib.hid (D3.out.doB h1 h2); have E4 := Lib.hid (E3.out.trans (h2.ke D3.out.b (.inl rfl))); clear h1 h2)
    | (go_at_call 22; (with_reducible refine (S2.out _ D4.out.b).mono ?_); rintro en w5 ⟨rfl, h1⟩; have D5 := Lib.hid (D4.out.below h1); have E5 := Lib.hid (E4.out.trans (KE.below h1)); clear h1)
    | (go_at_call 14; (with_reducible refine (K2.out _ D5.out.a).mono ?_); rintro en w6 ⟨rfl, h1, h2⟩; have D6 := Lib.hid (D5.out.doA h1 h2); have E6 := Lib.hid (E5.out.trans (h2.ke D5.out.a (.inl rfl))); clear h1 h2))
  go_end0
  exact ⟨rfl, D6.out, E6.out⟩
set_option maxHeartbeats 800000 in
set_option maxRecDepth 100000 in
theorem lport_any (n l : Int) (w : World) : Calls Try.prog 25 #[.int .i64 n, .int .i64 l] w fun e w' => e = .returned (.agg #[.int .i64 n, .int .i64 l, .int .i64 0, .int .i64 1400, .int .i64 n, .int .i64 3]) ∧ Below w.heap.size w w' := by
  have B0 : RowKit.Hid (∀ A : Obj, Below w.heap.size w (w.alloc A)) := fun A => (Below.refl _ w).alloc (Nat.le_refl _) _
  go_enter Try.func25, Try.ntmps25
  go_wp2
  refine bodyPost_ret (results_row1 (cs := [.int .i64 n, .int .i64 l, .int .i64 0, .int .i64 1400, .int .i64 n, .int .i64 3]) rfl rfl (BxP.range (T := 23) (heap_alloc_new w _)) Try.underlying23 rfl (by kernel_rfl)) rfl ?_
  exact ⟨rfl, B0.out _⟩
def awP : PortT := ⟨1, 1, 0, 1400, 1, 3⟩
def awQ : PortT := ⟨2, 2, 0, 1400, 2, 3⟩
def aw1 : EndT × EndT := roundE (newE awP) (newE awQ) 0
def aw2 : EndT × EndT := roundE aw1.1 aw1.2 1
theorem aw_end : aw2.1.s = 2 ∧ aw2.2.s = 2 ∧ aw2.1.o.node = 2 := by decide +kernel
set_option maxHeartbeats 1600000 in
set_option maxRecDepth 100000 in
theorem awake_any (w : World) : Calls Try.prog 9 #[] w fun e w' => e = .returned (.bool true) ∧ Below w.heap.size w w' := by
  have hp1 := lport_any 1 1
  have hp2 := lport_any 2 2
  have pb1 : portB awP := by decide +kernel
  have pb2 : portB awQ := by decide +kernel
  have hn1 := new_one awP pb1
  have hn2 := new_one awQ pb2
  simp only [awP, awQ] at hn1 hn2
  have i1 := roundE_inv (newE_inv pb1) (newE_inv pb2) 0
  have i2 := roundE_inv i1.1 i1.2 1
  have r1 := fun W0 W ba bb (q : Duo2 56 56 W0 ba bb (newE awP) (newE awQ) W) => round_any q (newE_inv pb1) (newE_inv pb2) 0
  have r2 := fun W0 W ba bb (q : Duo2 56 56 W0 ba bb aw1.1 aw1.2 W) => round_any q i1.1 i1.2 1
  have oo := fun W ba (q : EndP 56 W ba aw2.1) => other_any q i2.1
  have sa := fun W ba (q : EndP 56 W ba aw2.1) => state_any q
  have sb := fun W ba (q : EndP 56 W ba aw2.2) => state_any q
  have ae := aw_end
  rw [show roundE (newE awP) (newE awQ) 0 = aw1 from rfl] at r1
  rw [show roundE aw1.1 aw1.2 1 = aw2 from rfl] at r2
  simp only [awP, awQ] at r1
  obtain ⟨x2, hx2⟩ : ∃ x, aw2.1 = x := ⟨_, rfl⟩
  obtain ⟨y2, hy2⟩ : ∃ x, aw2.2 = x := ⟨_, rfl⟩
  obtain ⟨x1, hx1⟩ : ∃ x, aw1.1 = x := ⟨_, rfl⟩
  obtain ⟨y1, hy1⟩ : ∃ x, aw1.2 = x := ⟨_, rfl⟩
  rw [hx1, hy1] at r1 r2
  rw [hx2] at r2 oo sa ae
  rw [hy2] at r2 sb ae
  obtain ⟨ae1, ae2, ae3⟩ := ae
  rw [ae1] at sa
  rw [ae2] at sb
  rw [ae3] at oo
  simp only [show decide ((2 : Int) ≠ 0) = true from by decide] at oo
  have R1 := Lib.hid r1
  have R2 := Lib.hid r2
  have OO := Lib.hid oo
  have SA := Lib.hid sa
  have SB := Lib.hid sb
  have HN1 := Lib.hid hn1
  have HN2 := Lib.hid hn2
  have HP1 := Lib.hid hp1
  have HP2 := Lib.hid hp2
  have C1 : True := trivial
  clear r1 r2 oo sa sb hn1 hn2 hp1 hp2 ae1 ae2 ae3 hx1 hx2 hy1 hy2 i1 i2 pb1 pb2
  go_enter Try.func9, Try.ntmps9
  go_wp2_with (first
    | (go_at_call 25; (with_reducible refine (HP1.out _).mono ?_); rintro en w1 ⟨rfl, h1⟩; have B1 := Lib.hid h1; clear h1)
    | (go_at_call 25; (with_reducible refine (HP2.out _).mono ?_); rintro en w3 ⟨rfl, h1⟩; have O3 := Lib.hid (O2.out.below h1); clear h1)
    | (go_at_call 12; (with_reducible refine (HN1.out _).mono ?_); rintro en w2 ⟨ba, rfl, h1⟩; have O2 := Lib.hid (h1.back B1.out); clear h1)
    | (go_at_call 12; (with_reducible refine (HN2.out _).mono ?_); rintro en w4 ⟨bb, rfl, h1⟩; have D4 := Lib.hid (Duo2.mk2 O3.out h1); clear h1)
    | (go_at_call 24; (with_reducible refine (R1.out _ _ _ _ D4.out).mono ?_); rintro en w5 ⟨rfl, h1, _⟩; have D5 := Lib.hid h1; clear h1)
    | (go_at_call 24; (with_reducible refine (R2.out _ _ _ _ D5.out).mono ?_); rintro en w6 ⟨rfl, h1, _⟩; have D6 := Lib.hid h1; clear h1)
    | (go_at_call 20; (with_reducible refine (OO.out _ _ D6.out.a).mono ?_); rintro en w7 ⟨rfl, h1⟩; have D7 := Lib.hid (D6.out.below h1); have D8 := Lib.hid (D7.out.below ((Below.refl _ _).alloc (Nat.le_refl _) (.cells #[.int .i64 2, .int .i64 x2.o.link, .int .i64 x2.o.level, .int .i64 x2.o.nonce] 41))); clear h1)
    | (go_at_call 21; (with_reducible refine (SA.out _ _ D8.out.a).mono ?_); rintro en w8 ⟨rfl, rfl⟩)
    | (go_at_call 21; (with_reducible refine (SB.out _ _ D8.out.b).mono ?_); rintro en w9 ⟨rfl, rfl⟩))
  go_ret
  exact ⟨rfl, D8.out.bel⟩
end Go.Proofs.Yticbfmbinopjcaa
