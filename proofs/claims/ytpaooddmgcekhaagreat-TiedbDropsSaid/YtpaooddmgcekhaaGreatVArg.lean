/-
  WHAT CAME IN: neighbours, nets, pieces, steps.
-/
import Derived.Test.YtpaooddmgcekhaaGreatVBase
namespace Go.Proofs.YtpaooddmgcekhaaGreat.ti
set_option linter.unusedSimpArgs false
set_option linter.unusedVariables false
open Go.RowKit Go.ChangeShapes Go.WideShapes
section
variable {H : Type} {enc : TypeId × Value → H} {P : Program} {w : World} {held : Bool}
/-- A slice of structs; a nil one has no room. -/
theorem rdf_sliceN {E : Type} [Inhabited E] {sz : Nat} {en : E → List Value} {ok : E → Prop} {s t : TypeId} {v : Value} (hs : P.underlying s = some (.slice t)) (hsz : P.cellsOf t = sz) (hen : ∀ x, (en x).length = sz)
    (elem : ∀ cs, Rdf enc P w held t cs → ∃ x, cs = en x ∧ ok x) (h : Rdf enc P w held s [v]) (hp : 0 < sz) :
    ∃ (A : Option Addr) (l : List E) (cap : Nat), v = .slice A l.length cap ∧ l.length ≤ cap ∧ cap ≤ maxLen ∧ RdE sz en w A l ∧ (∀ y ∈ l, ok y) ∧ (A = none → cap = 0) := by
  have h0 := h
  obtain ⟨A, l, cap, hv, h1, h2, h3, h4⟩ := rdf_slice hs hsz hen elem h hp
  refine ⟨A, l, cap, hv, h1, h2, fun j p hj => ?_, h4, fun hA => ?_⟩
  · obtain ⟨b, off, e, hlt, hc⟩ := h3 (by have := (List.getElem?_eq_some_iff.1 hj).1; omega)
    exact ⟨b, off, e, hlt, fun i v hv => hc j p hj i v hv⟩
  · obtain ⟨fuel, x, hx⟩ := h0
    rcases Go.Deep.open_slice hs hx with ⟨hcs, _⟩ | ⟨a, len, cp, m, n, D, Pl, hcs, _, hl, hm, hmm, rfl, hall⟩
    · injection hcs with hcs
      rw [hcs] at hv
      injection hv with _ _ e3
      exact e3.symm
    · injection hcs with hcs
      rw [hcs, hA] at hv
      injection hv with e1
      cases e1
end
instance : Inhabited EdgeT := ⟨⟨0, 0, 0⟩⟩
instance : Inhabited ReachT := ⟨⟨0, 0, 0⟩⟩
theorem lst3 {α : Type} {cs : List α} (h : cs.length = 3) : ∃ c0 c1 c2, cs = [c0, c1, c2] := by
  match cs, h with
  | [c0, c1, c2], _ => exact ⟨c0, c1, c2, rfl⟩
theorem lst10 {α : Type} {cs : List α} (h : cs.length = 10) : ∃ c0 c1 c2 c3 c4 c5 c6 c7 c8 c9, cs = [c0, c1, c2, c3, c4, c5, c6, c7, c8, c9] := by
  match cs, h with
  | [c0, c1, c2, c3, c4, c5, c6, c7, c8, c9], _ => exact ⟨c0, c1, c2, c3, c4, c5, c6, c7, c8, c9, rfl⟩
theorem lst12 {α : Type} {cs : List α} (h : cs.length = 12) : ∃ c0 c1 c2 c3 c4 c5 c6 c7 c8 c9 c10 c11, cs = [c0, c1, c2, c3, c4, c5, c6, c7, c8, c9, c10, c11] := by
  match cs, h with
  | [c0, c1, c2, c3, c4, c5, c6, c7, c8, c9, c10, c11], _ => exact ⟨c0, c1, c2, c3, c4, c5, c6, c7, c8, c9, c10, c11, rfl⟩
set_option maxRecDepth 100000 in
theorem rdf_edge {H : Type} {enc : TypeId × Value → H} {w : World} {held : Bool} {cs : List Value} (h : Rdf enc Tryz.prog w held 94 cs) : ∃ x : EdgeT, cs = encEdge x ∧ True := by
  obtain ⟨hl, hf⟩ := rdf_struct Tryz.underlying94 h
  obtain ⟨c0, c1, c2, rfl⟩ := lst3 (hl.trans (by kernel_rfl) : cs.length = 3)
  have h0 : Rdf enc Tryz.prog w held 3 [c0] := by
    have this : Rdf enc Tryz.prog w held 3 (List.take (Tryz.prog.cellsOf 3) (List.drop 0 [c0, c1, c2])) := hf 0 _ rfl
    rw [show ∀ (a : List Value), a.take (Tryz.prog.cellsOf 3) = a.take 1 from fun a => by rw [show Tryz.prog.cellsOf 3 = 1 from by kernel_rfl]] at this
    exact this
  have h1 : Rdf enc Tryz.prog w held 3 [c1] := by
    have this : Rdf enc Tryz.prog w held 3 (List.take (Tryz.prog.cellsOf 3) (List.drop 1 [c0, c1, c2])) := hf 1 _ rfl
    rw [show ∀ (a : List Value), a.take (Tryz.prog.cellsOf 3) = a.take 1 from fun a => by rw [show Tryz.prog.cellsOf 3 = 1 from by kernel_rfl]] at this
    exact this
  have h2 : Rdf enc Tryz.prog w held 3 [c2] := by
    have this : Rdf enc Tryz.prog w held 3 (List.take (Tryz.prog.cellsOf 3) (List.drop 2 [c0, c1, c2])) := hf 2 _ rfl
    rw [show ∀ (a : List Value), a.take (Tryz.prog.cellsOf 3) = a.take 1 from fun a => by rw [show Tryz.prog.cellsOf 3 = 1 from by kernel_rfl]] at this
    exact this
  obtain ⟨n0, e0, w0⟩ := rdf_int Tryz.underlying3 h0
  injection e0 with e0 _
  obtain ⟨n1, e1, w1⟩ := rdf_int Tryz.underlying3 h1
  injection e1 with e1 _
  obtain ⟨n2, e2, w2⟩ := rdf_int Tryz.underlying3 h2
  injection e2 with e2 _
  subst e0 e1 e2
  exact ⟨⟨n0, n1, n2⟩, rfl, trivial⟩
theorem lst2 {α : Type} {cs : List α} (h : cs.length = 2) : ∃ c0 c1, cs = [c0, c1] := by
  match cs, h with
  | [c0, c1], _ => exact ⟨c0, c1, rfl⟩
set_option maxRecDepth 100000 in
theorem rdf_prefix {H : Type} {enc : TypeId × Value → H} {w : World} {held : Bool} {cs : List Value} (h : Rdf enc Tryz.prog w held 97 cs) : ∃ (n b : Int), cs = [.int .u32 n, .int .i64 b] ∧ 0 ≤ n ∧ n < 4294967296 := by
  obtain ⟨hl, hf⟩ := rdf_struct Tryz.underlying97 h
  obtain ⟨c0, c1, rfl⟩ := lst2 (hl.trans (by kernel_rfl) : cs.length = 2)
  have h0 : Rdf enc Tryz.prog w held 95 [c0] := by
    have this : Rdf enc Tryz.prog w held 95 (List.take (Tryz.prog.cellsOf 95) (List.drop 0 [c0, c1])) := hf 0 _ rfl
    rw [show ∀ (a : List Value), a.take (Tryz.prog.cellsOf 95) = a.take 1 from fun a => by rw [show Tryz.prog.cellsOf 95 = 1 from by kernel_rfl]] at this
    exact this
  have h1 : Rdf enc Tryz.prog w held 3 [c1] := by
    have this : Rdf enc Tryz.prog w held 3 (List.take (Tryz.prog.cellsOf 3) (List.drop 1 [c0, c1])) := hf 1 _ rfl
    rw [show ∀ (a : List Value), a.take (Tryz.prog.cellsOf 3) = a.take 1 from fun a => by rw [show Tryz.prog.cellsOf 3 = 1 from by kernel_rfl]] at this
    exact this
  obtain ⟨n0, e0, w0⟩ := rdf_int Tryz.underlying95 h0
  obtain ⟨n1, e1, w1⟩ := rdf_int Tryz.underlying3 h1
  injection e0 with e0 _
  injection e1 with e1 _
  subst e0 e1
  refine ⟨n0, n1, rfl, ?_⟩
  simp [Lit.wf, IntKind.min, IntKind.max, IntKind.signed, IntKind.bits] at w0
  omega
set_option maxRecDepth 100000 in
theorem rdf_reach {H : Type} {enc : TypeId × Value → H} {w : World} {held : Bool} {cs : List Value} (h : Rdf enc Tryz.prog w held 99 cs) : ∃ x : ReachT, cs = encReach x ∧ 0 ≤ x.net ∧ x.net < 4294967296 := by
  obtain ⟨hl, hf⟩ := rdf_struct Tryz.underlying99 h
  obtain ⟨c0, c1, c2, rfl⟩ := lst3 (hl.trans (by kernel_rfl) : cs.length = 3)
  have h0 : Rdf enc Tryz.prog w held 97 [c0, c1] := by
    have this : Rdf enc Tryz.prog w held 97 (List.take (Tryz.prog.cellsOf 97) (List.drop 0 [c0, c1, c2])) := hf 0 _ rfl
    rw [show ∀ (a : List Value), a.take (Tryz.prog.cellsOf 97) = a.take 2 from fun a => by rw [show Tryz.prog.cellsOf 97 = 2 from by kernel_rfl]] at this
    exact this
  have h1 : Rdf enc Tryz.prog w held 3 [c2] := by
    have this : Rdf enc Tryz.prog w held 3 (List.take (Tryz.prog.cellsOf 3) (List.drop 2 [c0, c1, c2])) := hf 1 _ rfl
    rw [show ∀ (a : List Value), a.take (Tryz.prog.cellsOf 3) = a.take 1 from fun a => by rw [show Tryz.prog.cellsOf 3 = 1 from by kernel_rfl]] at this
    exact this
  obtain ⟨n, b, e0, k0, k1⟩ := rdf_prefix h0
  obtain ⟨n1, e1, w1⟩ := rdf_int Tryz.underlying3 h1
  injection e0 with e0 e2
  injection e2 with e2 _
  injection e1 with e1 _
  subst e0 e1 e2
  exact ⟨⟨n, b, n1⟩, rfl, k0, k1⟩
/-- A piece that came in. -/
structure In2 (W : World) (t : TiV) (s : Sl2) : Prop where
  e : RdE 3 encEdge W s.ea t.es
  r : RdE 3 encReach W s.ra t.rs
  le : t.es.length ≤ s.ec ∧ s.ec ≤ maxLen
  lr : t.rs.length ≤ s.rc ∧ s.rc ≤ maxLen
  ne : s.ea = none → s.ec = 0
  nr : s.ra = none → s.rc = 0
  ok : ∀ y ∈ t.rs, 0 ≤ y.net ∧ y.net < 4294967296
  hd : okH t.hd
theorem In2.below {W W' : World} {t : TiV} {s : Sl2} (h : In2 W t s) (k : Below W.heap.size W W') : In2 W' t s := ⟨h.e.below k, h.r.below k, h.le, h.lr, h.ne, h.nr, h.ok, h.hd⟩
theorem In2.rd {W : World} {t : TiV} {s : Sl2} (h : In2 W t s) (h1 : t.es.length ≤ 100) (h2 : t.rs.length ≤ 100) : Rd2 W t s := ⟨h.e, h.r, ⟨h1, h.le.1, h.le.2⟩, ⟨h2, h.lr.1, h.lr.2⟩, h.ne, h.nr, h.ok⟩
def cellsVI (t : TiV) (s : Sl2) : List Value := [.int .i64 t.hd.id.d, .int .i64 t.hd.id.o, .int .i64 t.hd.id.k, .int .i64 t.hd.id.n, .int .i64 t.hd.seq, .int .i64 t.hd.life, .int .i64 t.level, .bool t.over, .slice s.ea t.es.length s.ec, .slice s.ra t.rs.length s.rc]
set_option maxRecDepth 100000 in
theorem rdf_tie {H : Type} {enc : TypeId × Value → H} {w : World} {held : Bool} {cs : List Value} (h : Rdf enc Tryz.prog w held 39 cs) : ∃ (t : TiV) (s : Sl2), cs = cellsVI t s ∧ In2 w t s := by
  obtain ⟨hl, hf⟩ := rdf_struct Tryz.underlying39 h
  obtain ⟨c0, c1, c2, c3, c4, c5, c6, c7, c8, c9, rfl⟩ := lst10 (hl.trans (by kernel_rfl) : cs.length = 10)
  have h0 : Rdf enc Tryz.prog w held 35 [c0, c1, c2, c3, c4, c5] := by
    have this : Rdf enc Tryz.prog w held 35 (List.take (Tryz.prog.cellsOf 35) (List.drop 0 [c0, c1, c2, c3, c4, c5, c6, c7, c8, c9])) := hf 0 _ rfl
    rw [show ∀ (a : List Value), a.take (Tryz.prog.cellsOf 35) = a.take 6 from fun a => by rw [show Tryz.prog.cellsOf 35 = 6 from by kernel_rfl]] at this
    exact this
  have h1 : Rdf enc Tryz.prog w held 3 [c6] := by
    have this : Rdf enc Tryz.prog w held 3 (List.take (Tryz.prog.cellsOf 3) (List.drop 6 [c0, c1, c2, c3, c4, c5, c6, c7, c8, c9])) := hf 1 _ rfl
    rw [show ∀ (a : List Value), a.take (Tryz.prog.cellsOf 3) = a.take 1 from fun a => by rw [show Tryz.prog.cellsOf 3 = 1 from by kernel_rfl]] at this
    exact this
  have h2 : Rdf enc Tryz.prog w held 4 [c7] := by
    have this : Rdf enc Tryz.prog w held 4 (List.take (Tryz.prog.cellsOf 4) (List.drop 7 [c0, c1, c2, c3, c4, c5, c6, c7, c8, c9])) := hf 2 _ rfl
    rw [show ∀ (a : List Value), a.take (Tryz.prog.cellsOf 4) = a.take 1 from fun a => by rw [show Tryz.prog.cellsOf 4 = 1 from by kernel_rfl]] at this
    exact this
  have h3 : Rdf enc Tryz.prog w held 36 [c8] := by
    have this : Rdf enc Tryz.prog w held 36 (List.take (Tryz.prog.cellsOf 36) (List.drop 8 [c0, c1, c2, c3, c4, c5, c6, c7, c8, c9])) := hf 3 _ rfl
    rw [show ∀ (a : List Value), a.take (Tryz.prog.cellsOf 36) = a.take 1 from fun a => by rw [show Tryz.prog.cellsOf 36 = 1 from by kernel_rfl]] at this
    exact this
  have h4 : Rdf enc Tryz.prog w held 37 [c9] := by
    have this : Rdf enc Tryz.prog w held 37 (List.take (Tryz.prog.cellsOf 37) (List.drop 9 [c0, c1, c2, c3, c4, c5, c6, c7, c8, c9])) := hf 4 _ rfl
    rw [show ∀ (a : List Value), a.take (Tryz.prog.cellsOf 37) = a.take 1 from fun a => by rw [show Tryz.prog.cellsOf 37 = 1 from by kernel_rfl]] at this
    exact this
  obtain ⟨x, hx, hk⟩ := rdf_head h0
  obtain ⟨n1, e1, w1⟩ := rdf_int Tryz.underlying3 h1
  obtain ⟨b2, e2⟩ := rdf_bool Tryz.underlying4 h2
  obtain ⟨A, l, ca, hA, a1, a2, a3, _, a5⟩ := rdf_sliceN (en := encEdge) (ok := fun _ => True) Tryz.underlying36 (by kernel_rfl : Tryz.prog.cellsOf 94 = 3) (fun _ => rfl) (fun cs hcs => rdf_edge hcs) h3 (by decide)
  obtain ⟨B, m, cb, hB, b1, b2', b3, b4, b5⟩ := rdf_sliceN (en := encReach) (ok := fun y => 0 ≤ y.net ∧ y.net < 4294967296) Tryz.underlying37 (by kernel_rfl : Tryz.prog.cellsOf 99 = 3) (fun _ => rfl) (fun cs hcs => rdf_reach hcs) h4 (by decide)
  simp [cellsT] at hx
  obtain ⟨rfl, rfl, rfl, rfl, rfl, rfl⟩ := hx
  injection e1 with e1 _
  injection e2 with e2 _
  subst e1 e2 hA hB
  exact ⟨⟨x, n1, b2, l, m⟩, ⟨A, ca, B, cb⟩, rfl, a3, b3, ⟨a1, a2⟩, ⟨b1, b2'⟩, a5, b5, b4, hk⟩
theorem tie_of {H : Type} {enc : TypeId × Value → H} {W : World} {held : Bool} {cs : Array Value} {d : DataW H} {ps : List MemPlace} (h : DataW.Trod enc Tryz.prog W 0 (fun _ => true) held 39 (.agg cs) d ps) : ∃ (t : TiV) (s : Sl2), (.agg cs : Value) = aggV t s ∧ In2 W t s := by
  obtain ⟨fuel, hf⟩ := h
  obtain ⟨t, s, e, hk⟩ := rdf_tie (cs := cs.toList) ⟨fuel, _, hf⟩
  refine ⟨t, s, ?_, hk⟩
  have : cs = (cellsVI t s).toArray := by rw [← Array.toList_inj, e]
  rw [this]
  rfl
/-- A step. -/
structure StT where
  d : Int
  now : Int
  t : TiV
  s : Sl2
instance : Inhabited StT := ⟨⟨0, 0, TiV.nil, ⟨none, 0, none, 0⟩⟩⟩
def cellsS (x : StT) : List Value := [.int .i64 x.d, .int .i64 x.now, .int .i64 x.t.hd.id.d, .int .i64 x.t.hd.id.o, .int .i64 x.t.hd.id.k, .int .i64 x.t.hd.id.n, .int .i64 x.t.hd.seq, .int .i64 x.t.hd.life, .int .i64 x.t.level, .bool x.t.over, .slice x.s.ea x.t.es.length x.s.ec, .slice x.s.ra x.t.rs.length x.s.rc]
set_option maxRecDepth 100000 in
theorem rdf_step {H : Type} {enc : TypeId × Value → H} {w : World} {held : Bool} {cs : List Value} (h : Rdf enc Tryz.prog w held 41 cs) : ∃ x : StT, cs = cellsS x ∧ In64 x.now ∧ In2 w x.t x.s := by
  obtain ⟨hl, hf⟩ := rdf_struct Tryz.underlying41 h
  obtain ⟨c0, c1, c2, c3, c4, c5, c6, c7, c8, c9, c10, c11, rfl⟩ := lst12 (hl.trans (by kernel_rfl) : cs.length = 12)
  have h0 : Rdf enc Tryz.prog w held 3 [c0] := by
    have this : Rdf enc Tryz.prog w held 3 (List.take (Tryz.prog.cellsOf 3) (List.drop 0 [c0, c1, c2, c3, c4, c5, c6, c7, c8, c9, c10, c11])) := hf 0 _ rfl
    rw [show ∀ (a : List Value), a.take (Tryz.prog.cellsOf 3) = a.take 1 from fun a => by rw [show Tryz.prog.cellsOf 3 = 1 from by kernel_rfl]] at this
    exact this
  have h1 : Rdf enc Tryz.prog w held 3 [c1] := by
    have this : Rdf enc Tryz.prog w held 3 (List.take (Tryz.prog.cellsOf 3) (List.drop 1 [c0, c1, c2, c3, c4, c5, c6, c7, c8, c9, c10, c11])) := hf 1 _ rfl
    rw [show ∀ (a : List Value), a.take (Tryz.prog.cellsOf 3) = a.take 1 from fun a => by rw [show Tryz.prog.cellsOf 3 = 1 from by kernel_rfl]] at this
    exact this
  have h2 : Rdf enc Tryz.prog w held 39 [c2, c3, c4, c5, c6, c7, c8, c9, c10, c11] := by
    have this : Rdf enc Tryz.prog w held 39 (List.take (Tryz.prog.cellsOf 39) (List.drop 2 [c0, c1, c2, c3, c4, c5, c6, c7, c8, c9, c10, c11])) := hf 2 _ rfl
    rw [show ∀ (a : List Value), a.take (Tryz.prog.cellsOf 39) = a.take 10 from fun a => by rw [show Tryz.prog.cellsOf 39 = 10 from by kernel_rfl]] at this
    exact this
  obtain ⟨n0, e0, w0⟩ := rdf_int Tryz.underlying3 h0
  obtain ⟨n1, e1, w1⟩ := rdf_int Tryz.underlying3 h1
  obtain ⟨t, s, ht, hk⟩ := rdf_tie h2
  injection e0 with e0 _
  injection e1 with e1 _
  simp [cellsVI] at ht
  obtain ⟨rfl, rfl, rfl, rfl, rfl, rfl, rfl, rfl, rfl, rfl⟩ := ht
  subst e0 e1
  exact ⟨⟨n0, n1, t, s⟩, rfl, bounds64 w1, hk⟩
theorem steps_of {H : Type} {enc : TypeId × Value → H} {W : World} {held : Bool} {a : Option Addr} {len cap : Nat} {d : DataW H} {ps : List MemPlace} (h : DataW.Trod enc Tryz.prog W 0 (fun _ => true) held 22 (.slice a len cap) d ps) :
    ∃ l : List StT, l.length = len ∧ RdE 12 cellsS W a l ∧ ∀ x ∈ l, In64 x.now ∧ In2 W x.t x.s := by
  obtain ⟨fuel, hf⟩ := h
  obtain ⟨A, l, c, hv, h1, h2, h3, h4, _⟩ := rdf_sliceN (en := cellsS) (ok := fun x => In64 x.now ∧ In2 W x.t x.s) Tryz.underlying22 (by kernel_rfl : Tryz.prog.cellsOf 41 = 12) (fun _ => rfl) (fun cs hcs => rdf_step hcs) (⟨fuel, _, hf⟩ : Rdf enc Tryz.prog W held 22 [.slice a len cap]) (by decide)
  injection hv with e1 e2 e3
  subst e1 e2 e3
  exact ⟨l, rfl, h3, h4⟩
end Go.Proofs.YtpaooddmgcekhaaGreat.ti
