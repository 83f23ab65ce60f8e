/-
  A PACKET IS LAID BEHIND THOSE THAT ARE THERE: the region of Describe's loop that draws its order.
-/
import Derived.Test.YtjfnpciecgemeaaDGrp
import Derived.Test.YtjfnpciecgemeaaDArr
import Derived.RangeFuncCalls
import Derived.OrdersIn
namespace Go.Proofs.Ytjfnpciecgemeaa.ti
set_option linter.unusedSimpArgs false
set_option linter.unusedVariables false
open Go.RowKit Go.Shelf
attribute [local go_sem] Oper.semAt_some
theorem KindE.stepIn_append {E : Type} {sl T : TypeId} {sz bytes : Nat} {z : Value} {enc : E → List Value} (K : KindE sl T sz bytes z enc) {F : Fence} {n : Nat} {ops : Array Oper} {o : Oper} {a : Act} {w : World} {K' : Act → World → Prop} {Q : Exit → Act → World → Prop} {X : Prop} (hgd : o.guard = none) (s x : Operand)
    (ho : o.op = .call { callee := .builtin .append, args := #[s, x], argTypes := #[sl, sl] }) (base : Nat) (v : Value) (l : List E) (hs : a.eval s = v) (hown : OwnE T sz enc w base v l)
    (A : Option Addr) (m : List E) (k c : Nat) (hx : a.eval x = .slice A k c) (hn : k = m.length) (hr : RdE sz enc w A m) (h63 : l.length + m.length ≤ maxLen) (hby : (l.length + m.length) * bytes ≤ 140737488355328) (hbase : base ≤ w.heap.size)
    (h : ∀ A' n' c' w', n' = (l ++ m).length → OwnE T sz enc w' base (.slice A' n' c') (l ++ m) → Below base w w' → w.grownBy w' v.ownBlock → K' (a.put o.dst (.slice A' n' c')) w') :
    if Region.wanted o (yielded ops a.tmps) = true then o.wpIn F n Try.prog a w K' Q else X := by
  subst hn
  obtain ⟨v', w', hrun, h1, h2, h3⟩ := K.append w o.type hown c hr h63 hby hbase
  obtain ⟨A', c', e, _⟩ := h1.shape
  subst e
  rw [if_pos (by simp [Region.wanted, hgd])]
  unfold Oper.wpIn
  refine ⟨by simp [Oper.about, ho, resolve, Target.leads, Sem.run_pure], ?_⟩
  rw [Oper.semAt_plain F _ _ (by rw [ho]; intro c hc'; cases hc')]
  simp [execOp, ho, resolve, invoke, builtin, hs, hx, hrun, Result.andThen]
  rw [← List.length_append]
  exact h A' _ c' w' rfl h1 h2 h3
theorem own_form {W : World} {b : Nat} {v : Value} {l : List THd} (h : OwnH 34 W b v l) : ∃ (A : Option Addr) (c : Nat), v = .slice A l.length c ∧ l.length ≤ c ∧ c ≤ maxLen := h.toE.shape
theorem rd_new (W : World) (s : DpS) : RdE 32 encD (W.alloc (.cells (encD s).toArray 40)) (some ⟨W.heap.size, 0, none⟩) [s] := fun j p hj => by
  have hj0 : j = 0 := by have := (List.getElem?_eq_some_iff.1 hj).1; simp at this; exact this
  subst hj0
  simp at hj
  subst hj
  refine ⟨_, 0, rfl, by simp, ?_⟩
  simpa using (Arr.new W 40 (encD s)).range
/-- All blocks but one, and but those of packets, lie as they lay. -/
def KeepN (pb : Nat) (W W' : World) : Prop := ∀ (k : Nat) (cs : Array Value) (T : TypeId) (fr : Nat × Nat), k ≠ pb → T ≠ 40 → W.heap[k]? = some (.cells cs T fr) → W'.heap[k]? = some (.cells cs T fr)
/-- The packets that were laid: their box, their row, their heads. -/
def PkS (n0 pb : Nat) (ps : List Dp) (W : World) : Prop := ∃ (v : Value) (ss : List DpS), Boxed W pb 26 v ∧ ss.map DpS.p = ps ∧ OwnE 40 32 encD W n0 v ss ∧ ∀ s ∈ ss, OwnH 34 W n0 (.slice s.a s.p.hs.length s.c) s.p.hs
theorem keeps_below {W W' : World} (h : Below W.heap.size W W') : KeepsOthers W W' := ⟨h.size, fun k o hk _ => (h.block k (Array.getElem?_eq_some_iff.1 hk).1).trans hk⟩
theorem keeps_grown {W W' : World} {row : Option Nat} (h : W.grownBy W' row) (hr : ∀ r, row = some r → ∃ cs t z, W.heap[r]? = some (.cells cs t z)) : KeepsOthers W W' := ⟨h.size, fun k o hk ho => by
  refine (h.block k (Array.getElem?_eq_some_iff.1 hk).1 (fun e => ?_)).trans hk
  obtain ⟨cs, t, z, hc⟩ := hr k e.symm
  rw [hk] at hc
  injection hc with hc
  subst hc
  cases ho⟩
theorem KeepN.trans {pb : Nat} {A B C : World} (h : KeepN pb A B) (k : KeepN pb B C) : KeepN pb A C := fun j cs T fr h1 h2 hj => k j cs T fr h1 h2 (h j cs T fr h1 h2 hj)
theorem KeepN.of_below {pb : Nat} {W W' : World} (h : Below W.heap.size W W') : KeepN pb W W' := fun j cs T fr _ _ hj => (h.block j (Array.getElem?_eq_some_iff.1 hj).1).trans hj
theorem KeepN.grown {pb : Nat} {W W' : World} {row : Option Nat} (h : W.grownBy W' row) (hr : ∀ r, row = some r → ∃ cs fr, W.heap[r]? = some (.cells cs 40 fr)) : KeepN pb W W' := fun j cs T fr _ h2 hj => by
  refine (h.block j (Array.getElem?_eq_some_iff.1 hj).1 (fun e => ?_)).trans hj
  obtain ⟨cs', fr', hb⟩ := hr j e.symm
  rw [hb] at hj
  cases hj
  exact h2 rfl
theorem KeepN.set {pb : Nat} (W : World) (v : Value) : KeepN pb W (W.setCell ⟨pb, 0, none⟩ v) := fun j cs T fr h1 _ hj => by rw [Below.heap_setCell _ _ _ _ h1]; exact hj
theorem OwnH.keepN {pb : Nat} {W W' : World} {v u : Value} {base : Nat} {l : List THd} (h : OwnH 34 W base v l) (hb : Boxed W pb 26 u) (k : KeepN pb W W') : OwnH 34 W' base v l := h.same fun g hg => by
  obtain ⟨cur, hc⟩ := h.toE.block hg
  refine (k g _ _ _ (fun e => ?_) (by decide) hc).trans hc.symm
  rw [e] at hc
  rw [show W.heap[pb]? = _ from hb] at hc
  cases hc
def ops11 : Array Oper := #[{ dst := some 38, op := Op.load 26 (Operand.tmp 6), type := 26, pos := "tide.go:29", after := #[], guard := none }, { dst := some 39, op := Op.load 24 (Operand.tmp 7), type := 24, pos := "tide.go:29", after := #[], guard := none }, { dst := some 40, op := Op.load 24 (Operand.tmp 10), type := 24, pos := "tide.go:29", after := #[], guard := none }, { dst := some 41, op := Op.move (Operand.tmp 8), type := 22, pos := "tide.go:29", after := #[], guard := none }, { dst := some 42, op := Op.call { callee := Callee.value (Operand.func 22), args := #[Operand.tmp 41], argTypes := #[22] }, type := 22, pos := "tide.go:29", after := #[{ on := 3, ground := Ground.data }], guard := none }, { dst := some 43, op := Op.build 40 #[(0, Operand.const (Value.int IntKind.i64 3)), (3, Operand.tmp 39), (4, Operand.tmp 40), (5, Operand.tmp 42)], type := 40, pos := "tide.go:29", after := #[{ on := 1, ground := Ground.data }, { on := 2, ground := Ground.data }, { on := 4, ground := Ground.data }], guard := none }, { dst := some 44, op := Op.buildSlice 26 1 #[(0, Operand.tmp 43)], type := 26, pos := "tide.go:29", after := #[{ on := 5, ground := Ground.data }], guard := none }, { dst := some 45, op := Op.call { callee := Callee.builtin Builtin.append, args := #[Operand.tmp 38, Operand.tmp 44], argTypes := #[26, 26] }, type := 26, pos := "tide.go:29", after := #[{ on := 0, ground := Ground.data }, { on := 6, ground := Ground.data }, { on := 4, ground := Ground.chain }], guard := none }, { dst := none, op := Op.store 26 (Operand.tmp 6) (Operand.tmp 45), type := 0, pos := "tide.go:29", after := #[{ on := 7, ground := Ground.data }, { on := 7, ground := Ground.chain }, { on := 0, ground := Ground.phase }, { on := 1, ground := Ground.phase }, { on := 2, ground := Ground.phase }, { on := 3, ground := Ground.phase }, { on := 4, ground := Ground.phase }, { on := 5, ground := Ground.phase }, { on := 6, ground := Ground.phase }, { on := 7, ground := Ground.phase }], guard := none }]
attribute [local irreducible] wpAnyIn
set_option maxRecDepth 100000 in
set_option maxHeartbeats 16000000 in
theorem region11_any {n lp : Nat} {Q : Exit → Act → World → Prop} (n0 pb fb tb : Nat) (ps : List Dp) (f t : TId) (g : List THd) (gA : Option Addr) (gn gc : Nat) (W : World) (u0 u1 u2 u3 u4 u5 u9 u11 u12 u13 u14 u15 u16 u17 u18 u19 u20 u21 u22 u23 u24 u25 u26 u27 u28 u29 u30 u31 u32 u33 u34 u35 u36 u37 u38 u39 u40 u41 u42 u43 u44 u45 u46 u47 u48 u49 u50 u51 : Value)
    (hP : PkS n0 pb ps W) (hlen : ps.length ≤ 100000000000) (hn0 : n0 ≤ W.heap.size) (hpb : n0 ≤ pb) (hf : Arr W fb 24 (cellsI f)) (ht : Arr W tb 24 (cellsI t)) (hg : RdT W gA g) (hgn : gn = g.length) (hgl : g.length ≤ 1000) (hgc : gA = none → gc = 0)
    (hQ : ∀ (x38 x39 x40 x41 x42 x43 x44 x45 : Value) (W' : World), (PkS n0 pb (ps ++ [⟨f, t, g⟩]) W' ∧ KeepN pb W W' ∧ Below n0 W W' ∧ KeepsOthers W W') → Q .normal { tmps := #[u0, u1, u2, u3, u4, u5, .pointer (some ⟨pb, 0, none⟩), .pointer (some ⟨fb, 0, none⟩), .slice gA gn gc, u9, .pointer (some ⟨tb, 0, none⟩), u11, u12, u13, u14, u15, u16, u17, u18, u19, u20, u21, u22, u23, u24, u25, u26, u27, u28, u29, u30, u31, u32, u33, u34, u35, u36, u37, x38, x39, x40, x41, x42, x43, x44, x45, u46, u47, u48, u49, u50, u51], defers := [] } W') :
    (Code.region 11 ops11 true).wpIn (Fence.wide.inRound lp) n Try.prog Q { tmps := #[u0, u1, u2, u3, u4, u5, .pointer (some ⟨pb, 0, none⟩), .pointer (some ⟨fb, 0, none⟩), .slice gA gn gc, u9, .pointer (some ⟨tb, 0, none⟩), u11, u12, u13, u14, u15, u16, u17, u18, u19, u20, u21, u22, u23, u24, u25, u26, u27, u28, u29, u30, u31, u32, u33, u34, u35, u36, u37, u38, u39, u40, u41, u42, u43, u44, u45, u46, u47, u48, u49, u50, u51], defers := [] } W := by
  subst hgn
  obtain ⟨v, ss, hbx, hss, hown, hhs⟩ := hP
  have hsl : ss.length ≤ 100000000000 := by rw [← hss, List.length_map] at hlen; exact hlen
  have HC : Hid (∀ W', Below W.drew.heap.size W.drew W' → W'.cell? ⟨pb, 0, none⟩ = some v ∧ W'.cell? ⟨fb, 0, none⟩ = some (.int .i64 f.d) ∧ W'.cell? ⟨fb, 1, none⟩ = some (.int .i64 f.o) ∧ W'.cell? ⟨fb, 2, none⟩ = some (.int .i64 f.k) ∧ W'.cell? ⟨fb, 3, none⟩ = some (.int .i64 f.n) ∧ W'.cell? ⟨tb, 0, none⟩ = some (.int .i64 t.d) ∧ W'.cell? ⟨tb, 1, none⟩ = some (.int .i64 t.o) ∧ W'.cell? ⟨tb, 2, none⟩ = some (.int .i64 t.k) ∧ W'.cell? ⟨tb, 3, none⟩ = some (.int .i64 t.n)) := fun W' hb => by
    have h1 : Boxed W' pb 26 v := (hb.block _ (Array.getElem?_eq_some_iff.1 hbx).1).trans hbx
    have h2 := hf.below (n₀ := W.drew.heap.size) (W' := W') ⟨hb.os, hb.tape, hb.output, hb.size, hb.block⟩ hf.lt
    have h3 := ht.below (n₀ := W.drew.heap.size) (W' := W') ⟨hb.os, hb.tape, hb.output, hb.size, hb.block⟩ ht.lt
    exact ⟨h1.cell, h2.cell 0, h2.cell 1, h2.cell 2, h2.cell 3, h3.cell 0, h3.cell 1, h3.cell 2, h3.cell 3⟩
  have HCL : Hid (Calls Try.prog 22 #[.slice gA g.length gc] W.drew fun e w' => ∃ v, e = .returned v ∧ OwnH 34 w' W.drew.heap.size v g ∧ Below W.drew.heap.size W.drew w') := by
    exact pclone_any gA g gc W.drew (hg.below (Below.refl _ W).drew) hgl hgc
  have HOW : Hid (∀ W', Below W.drew.heap.size W.drew W' → OwnE 40 32 encD W' n0 v ss) := fun W' hb => hown.below ⟨hb.os, hb.tape, hb.output, hb.size, hb.block⟩
  have HL : Hid (ss.length ≤ 100000000000) := hsl
  have HN0 : Hid (n0 ≤ W.drew.heap.size) := hn0
  have HF : Hid (∀ (cA : Option Addr) (cc : Nat) (w3 : World) (A4 : Option Addr) (n4 c4 : Nat) (w4 : World), OwnH 34 w3 W.drew.heap.size (.slice cA g.length cc) g → Below W.drew.heap.size W.drew w3 → OwnE 40 32 encD w4 n0 (.slice A4 n4 c4) (ss ++ [⟨⟨f, t, g⟩, cA, cc⟩]) → Below n0 (w3.alloc (.cells (encD ⟨⟨f, t, g⟩, cA, cc⟩).toArray 40)) w4 → (w3.alloc (.cells (encD ⟨⟨f, t, g⟩, cA, cc⟩).toArray 40)).grownBy w4 v.ownBlock →
      (∃ x, w4.cell? ⟨pb, 0, none⟩ = some x) ∧ w4.frozen? ⟨pb, 0, none⟩ = false ∧ (PkS n0 pb (ps ++ [⟨f, t, g⟩]) (w4.setCell ⟨pb, 0, none⟩ (.slice A4 n4 c4)) ∧ KeepN pb W (w4.setCell ⟨pb, 0, none⟩ (.slice A4 n4 c4)) ∧ Below n0 W (w4.setCell ⟨pb, 0, none⟩ (.slice A4 n4 c4)) ∧ KeepsOthers W (w4.setCell ⟨pb, 0, none⟩ (.slice A4 n4 c4)))) := fun cA cc w3 A4 n4 c4 w4 ho3 hb3 ho4 hb4 hg4 => by
    have e1 : Below n0 W w3 := (Below.refl n0 W).drew.trans (hb3.mono hn0)
    have e2 : Below n0 W (w3.alloc (.cells (encD ⟨⟨f, t, g⟩, cA, cc⟩).toArray 40)) := e1.alloc (Nat.le_trans hn0 e1.size) _
    have k3 : KeepN pb W (w3.alloc (.cells (encD ⟨⟨f, t, g⟩, cA, cc⟩).toArray 40)) := KeepN.of_below ((Below.refl W.heap.size W).drew.trans hb3 |>.alloc hb3.size _)
    have krow : ∀ r, v.ownBlock = some r → ∃ cs fr, (w3.alloc (.cells (encD ⟨⟨f, t, g⟩, cA, cc⟩).toArray 40)).heap[r]? = some (.cells cs 40 fr) := fun r e => by
      obtain ⟨cur, hc⟩ := (hown.below ⟨hb3.os, hb3.tape, hb3.output, hb3.size, hb3.block⟩).block e
      exact ⟨cur, _, by rw [Below.heap_alloc _ _ _ (Array.getElem?_eq_some_iff.1 hc).1]; exact hc⟩
    have k4 : KeepN pb (w3.alloc (.cells (encD ⟨⟨f, t, g⟩, cA, cc⟩).toArray 40)) w4 := KeepN.grown hg4 krow
    have b3 : Boxed w3 pb 26 v := (hb3.block _ (Array.getElem?_eq_some_iff.1 hbx).1).trans hbx
    have b3a : Boxed (w3.alloc (.cells (encD ⟨⟨f, t, g⟩, cA, cc⟩).toArray 40)) pb 26 v := b3.alloc _
    have b4 : Boxed w4 pb 26 v := b3a.kept hg4 fun e => by
      obtain ⟨cur, hc⟩ := (hown.below (W' := w3) ⟨hb3.os, hb3.tape, hb3.output, hb3.size, hb3.block⟩).block e.symm
      rw [show w3.heap[pb]? = _ from b3] at hc
      cases hc
    have k5 : KeepN pb w4 (w4.setCell ⟨pb, 0, none⟩ (.slice A4 n4 c4)) := KeepN.set _ _
    have k25 := k4.trans k5
    have kall := k3.trans k25
    refine ⟨⟨_, b4.cell⟩, b4.frozen, ⟨.slice A4 n4 c4, ss ++ [⟨⟨f, t, g⟩, cA, cc⟩], b4.set _, by rw [List.map_append, hss]; rfl, ?_, ?_⟩, kall, (e2.trans hb4).setCell (p := ⟨pb, 0, none⟩) hpb _, (keeps_below ((Below.refl W.heap.size W).drew.trans hb3 |>.alloc hb3.size _)).trans ((keeps_grown hg4 fun r e => by obtain ⟨cs, fr, h⟩ := krow r e; exact ⟨cs, _, fr, h⟩).trans (keeps_grown (grownBy_setCell' w4 pb _) fun r e => by cases e; exact ⟨_, _, _, b4⟩))⟩
    · refine ho4.same fun q hq => ?_
      obtain ⟨cur, hc⟩ := ho4.block hq
      refine Below.heap_setCell _ _ _ _ (fun e => ?_)
      rw [e] at hc
      rw [show w4.heap[pb]? = _ from b4] at hc
      cases hc
    · intro s hs
      rcases List.mem_append.1 hs with q | q
      · exact (hhs s q).keepN hbx kall
      · simp at q
        subst q
        exact ((ho3.keepN b3 ((KeepN.of_below ((Below.refl _ _).alloc (Nat.le_refl _) _)).trans k25)).mono hn0)
  obtain ⟨q0, f0, f1, f2, f3, t0, t1, t2, t3⟩ := HC.out _ (Below.refl _ _)
  clear hbx hss hown hhs hf ht hg
  have n0123456 : Hid (∀ (cA : Option Addr) (cc : Nat) (w3 : World), OwnH 34 w3 W.drew.heap.size (.slice cA g.length cc) g → Below W.drew.heap.size W.drew w3 → wpAnyIn (Fence.wide.inRound lp) n Try.prog .any ops11 Q 2 #[true, true, true, true, true, true, true, false, false] { tmps := #[u0, u1, u2, u3, u4, u5, .pointer (some ⟨pb, 0, none⟩), .pointer (some ⟨fb, 0, none⟩), .slice gA g.length gc, u9, .pointer (some ⟨tb, 0, none⟩), u11, u12, u13, u14, u15, u16, u17, u18, u19, u20, u21, u22, u23, u24, u25, u26, u27, u28, u29, u30, u31, u32, u33, u34, u35, u36, u37, v, .agg #[.int .i64 f.d, .int .i64 f.o, .int .i64 f.k, .int .i64 f.n], .agg #[.int .i64 t.d, .int .i64 t.o, .int .i64 t.k, .int .i64 t.n], .slice gA g.length gc, .slice cA g.length cc, .agg #[.int .i64 3, .int .i64 0, .int .i64 0, .int .i64 0, .int .i64 0, .int .i64 0, .int .i64 0, .int .i64 0, .int .i64 0, .int .i64 0, .int .i64 0, .bool false, .bool false, .int .i64 0, .int .i64 0, .int .i64 0, .int .i64 0, .int .i64 0, .int .i64 0, .int .i64 0, .bool false, .slice none 0 0, .slice none 0 0, .int .i64 f.d, .int .i64 f.o, .int .i64 f.k, .int .i64 f.n, .int .i64 t.d, .int .i64 t.o, .int .i64 t.k, .int .i64 t.n, .slice cA g.length cc], .slice (some ⟨w3.heap.size, 0, none⟩) 1 1, u45, u46, u47, u48, u49, u50, u51], defers := [] } (w3.alloc (.cells #[.int .i64 3, .int .i64 0, .int .i64 0, .int .i64 0, .int .i64 0, .int .i64 0, .int .i64 0, .int .i64 0, .int .i64 0, .int .i64 0, .int .i64 0, .bool false, .bool false, .int .i64 0, .int .i64 0, .int .i64 0, .int .i64 0, .int .i64 0, .int .i64 0, .int .i64 0, .bool false, .slice none 0 0, .slice none 0 0, .int .i64 f.d, .int .i64 f.o, .int .i64 f.k, .int .i64 f.n, .int .i64 t.d, .int .i64 t.o, .int .i64 t.k, .int .i64 t.n, .slice cA g.length cc] 40))) := by
    unfold Hid
    intro cA cc w3 hO3 hB3
    have HO3 := Lib.hid hO3
    have HB3 := Lib.hid hB3
    clear hO3 hB3
    obtain ⟨q0, f0, f1, f2, f3, t0, t1, t2, t3⟩ := HC.out _ (HB3.out.alloc HB3.out.size (.cells #[.int .i64 3, .int .i64 0, .int .i64 0, .int .i64 0, .int .i64 0, .int .i64 0, .int .i64 0, .int .i64 0, .int .i64 0, .int .i64 0, .int .i64 0, .bool false, .bool false, .int .i64 0, .int .i64 0, .int .i64 0, .int .i64 0, .int .i64 0, .int .i64 0, .int .i64 0, .bool false, .slice none 0 0, .slice none 0 0, .int .i64 f.d, .int .i64 f.o, .int .i64 f.k, .int .i64 f.n, .int .i64 t.d, .int .i64 t.o, .int .i64 t.k, .int .i64 t.n, .slice cA g.length cc] 40))
    unfold ops11
    refine wpAnyIn_ready (rs := [7]) (by kernel_rfl) (by simp) ?_
    refine AllReadyIn.cons rfl (fun K hK => ?_) AllReadyIn.nil
    refine kindP.stepIn_append rfl (.tmp 38) (.tmp 44) rfl n0 _ ss rfl (HOW.out _ ((HB3.out.alloc HB3.out.size _))) _ [⟨⟨f, t, g⟩, cA, cc⟩] 1 1 rfl rfl (rd_new w3 ⟨⟨f, t, g⟩, cA, cc⟩) (by simp; have := HL.out; unfold maxLen; omega) (by simp; have := HL.out; omega) (by have := HB3.out.size; have := HN0.out; simp; omega) ?_
    intro A4 n4 c4 w4 hn4 ho4 hb4 hg4
    obtain ⟨hpc, hpf, fin⟩ := HF.out cA cc w3 A4 n4 c4 w4 HO3.out HB3.out ho4 hb4 hg4
    have FIN := Lib.hid fin
    clear hn4 ho4 hb4 hg4 fin
    refine hK _ _ ?_
    clear hK K
    obtain ⟨X, hX⟩ := hpc
    refine wpAnyIn_ready (rs := [8]) (by kernel_rfl) (by simp) ?_
    refine AllReadyIn.cons rfl (fun K hK => ?_) AllReadyIn.nil
    go_simp
    refine hK _ _ ?_
    clear hK K
    refine wpAnyIn_done (by kernel_rfl) ?_ _
    exact hQ _ _ _ _ _ _ _ _ _ FIN.out
  have n012345 : Hid (∀ (cA : Option Addr) (cc : Nat) (w3 : World), OwnH 34 w3 W.drew.heap.size (.slice cA g.length cc) g → Below W.drew.heap.size W.drew w3 → wpAnyIn (Fence.wide.inRound lp) n Try.prog .any ops11 Q 3 #[true, true, true, true, true, true, false, false, false] { tmps := #[u0, u1, u2, u3, u4, u5, .pointer (some ⟨pb, 0, none⟩), .pointer (some ⟨fb, 0, none⟩), .slice gA g.length gc, u9, .pointer (some ⟨tb, 0, none⟩), u11, u12, u13, u14, u15, u16, u17, u18, u19, u20, u21, u22, u23, u24, u25, u26, u27, u28, u29, u30, u31, u32, u33, u34, u35, u36, u37, v, .agg #[.int .i64 f.d, .int .i64 f.o, .int .i64 f.k, .int .i64 f.n], .agg #[.int .i64 t.d, .int .i64 t.o, .int .i64 t.k, .int .i64 t.n], .slice gA g.length gc, .slice cA g.length cc, .agg #[.int .i64 3, .int .i64 0, .int .i64 0, .int .i64 0, .int .i64 0, .int .i64 0, .int .i64 0, .int .i64 0, .int .i64 0, .int .i64 0, .int .i64 0, .bool false, .bool false, .int .i64 0, .int .i64 0, .int .i64 0, .int .i64 0, .int .i64 0, .int .i64 0, .int .i64 0, .bool false, .slice none 0 0, .slice none 0 0, .int .i64 f.d, .int .i64 f.o, .int .i64 f.k, .int .i64 f.n, .int .i64 t.d, .int .i64 t.o, .int .i64 t.k, .int .i64 t.n, .slice cA g.length cc], u44, u45, u46, u47, u48, u49, u50, u51], defers := [] } w3) := by
    unfold Hid
    intro cA cc w3 hO3 hB3
    have HO3 := Lib.hid hO3
    have HB3 := Lib.hid hB3
    clear hO3 hB3
    obtain ⟨q0, f0, f1, f2, f3, t0, t1, t2, t3⟩ := HC.out _ HB3.out
    unfold ops11
    refine wpAnyIn_ready (rs := [6]) (by kernel_rfl) (by simp) ?_
    refine AllReadyIn.cons rfl (fun K hK => ?_) AllReadyIn.nil
    go_simp
    refine hK _ _ ?_
    exact n0123456.out cA cc w3 HO3.out HB3.out
  have n123456 : Hid (∀ (cA : Option Addr) (cc : Nat) (w3 : World), OwnH 34 w3 W.drew.heap.size (.slice cA g.length cc) g → Below W.drew.heap.size W.drew w3 → wpAnyIn (Fence.wide.inRound lp) n Try.prog .any ops11 Q 3 #[false, true, true, true, true, true, true, false, false] { tmps := #[u0, u1, u2, u3, u4, u5, .pointer (some ⟨pb, 0, none⟩), .pointer (some ⟨fb, 0, none⟩), .slice gA g.length gc, u9, .pointer (some ⟨tb, 0, none⟩), u11, u12, u13, u14, u15, u16, u17, u18, u19, u20, u21, u22, u23, u24, u25, u26, u27, u28, u29, u30, u31, u32, u33, u34, u35, u36, u37, u38, .agg #[.int .i64 f.d, .int .i64 f.o, .int .i64 f.k, .int .i64 f.n], .agg #[.int .i64 t.d, .int .i64 t.o, .int .i64 t.k, .int .i64 t.n], .slice gA g.length gc, .slice cA g.length cc, .agg #[.int .i64 3, .int .i64 0, .int .i64 0, .int .i64 0, .int .i64 0, .int .i64 0, .int .i64 0, .int .i64 0, .int .i64 0, .int .i64 0, .int .i64 0, .bool false, .bool false, .int .i64 0, .int .i64 0, .int .i64 0, .int .i64 0, .int .i64 0, .int .i64 0, .int .i64 0, .bool false, .slice none 0 0, .slice none 0 0, .int .i64 f.d, .int .i64 f.o, .int .i64 f.k, .int .i64 f.n, .int .i64 t.d, .int .i64 t.o, .int .i64 t.k, .int .i64 t.n, .slice cA g.length cc], .slice (some ⟨w3.heap.size, 0, none⟩) 1 1, u45, u46, u47, u48, u49, u50, u51], defers := [] } (w3.alloc (.cells #[.int .i64 3, .int .i64 0, .int .i64 0, .int .i64 0, .int .i64 0, .int .i64 0, .int .i64 0, .int .i64 0, .int .i64 0, .int .i64 0, .int .i64 0, .bool false, .bool false, .int .i64 0, .int .i64 0, .int .i64 0, .int .i64 0, .int .i64 0, .int .i64 0, .int .i64 0, .bool false, .slice none 0 0, .slice none 0 0, .int .i64 f.d, .int .i64 f.o, .int .i64 f.k, .int .i64 f.n, .int .i64 t.d, .int .i64 t.o, .int .i64 t.k, .int .i64 t.n, .slice cA g.length cc] 40))) := by
    unfold Hid
    intro cA cc w3 hO3 hB3
    have HO3 := Lib.hid hO3
    have HB3 := Lib.hid hB3
    clear hO3 hB3
    obtain ⟨q0, f0, f1, f2, f3, t0, t1, t2, t3⟩ := HC.out _ (HB3.out.alloc HB3.out.size (.cells #[.int .i64 3, .int .i64 0, .int .i64 0, .int .i64 0, .int .i64 0, .int .i64 0, .int .i64 0, .int .i64 0, .int .i64 0, .int .i64 0, .int .i64 0, .bool false, .bool false, .int .i64 0, .int .i64 0, .int .i64 0, .int .i64 0, .int .i64 0, .int .i64 0, .int .i64 0, .bool false, .slice none 0 0, .slice none 0 0, .int .i64 f.d, .int .i64 f.o, .int .i64 f.k, .int .i64 f.n, .int .i64 t.d, .int .i64 t.o, .int .i64 t.k, .int .i64 t.n, .slice cA g.length cc] 40))
    unfold ops11
    refine wpAnyIn_ready (rs := [0]) (by kernel_rfl) (by simp) ?_
    refine AllReadyIn.cons rfl (fun K hK => ?_) AllReadyIn.nil
    go_simp
    refine hK _ _ ?_
    exact n0123456.out cA cc w3 HO3.out HB3.out
  have n01234 : Hid (∀ (cA : Option Addr) (cc : Nat) (w3 : World), OwnH 34 w3 W.drew.heap.size (.slice cA g.length cc) g → Below W.drew.heap.size W.drew w3 → wpAnyIn (Fence.wide.inRound lp) n Try.prog .any ops11 Q 4 #[true, true, true, true, true, false, false, false, false] { tmps := #[u0, u1, u2, u3, u4, u5, .pointer (some ⟨pb, 0, none⟩), .pointer (some ⟨fb, 0, none⟩), .slice gA g.length gc, u9, .pointer (some ⟨tb, 0, none⟩), u11, u12, u13, u14, u15, u16, u17, u18, u19, u20, u21, u22, u23, u24, u25, u26, u27, u28, u29, u30, u31, u32, u33, u34, u35, u36, u37, v, .agg #[.int .i64 f.d, .int .i64 f.o, .int .i64 f.k, .int .i64 f.n], .agg #[.int .i64 t.d, .int .i64 t.o, .int .i64 t.k, .int .i64 t.n], .slice gA g.length gc, .slice cA g.length cc, u43, u44, u45, u46, u47, u48, u49, u50, u51], defers := [] } w3) := by
    unfold Hid
    intro cA cc w3 hO3 hB3
    have HO3 := Lib.hid hO3
    have HB3 := Lib.hid hB3
    clear hO3 hB3
    obtain ⟨q0, f0, f1, f2, f3, t0, t1, t2, t3⟩ := HC.out _ HB3.out
    unfold ops11
    refine wpAnyIn_ready (rs := [5]) (by kernel_rfl) (by simp) ?_
    refine AllReadyIn.cons rfl (fun K hK => ?_) AllReadyIn.nil
    go_simp
    refine hK _ _ ?_
    exact n012345.out cA cc w3 HO3.out HB3.out
  have n12345 : Hid (∀ (cA : Option Addr) (cc : Nat) (w3 : World), OwnH 34 w3 W.drew.heap.size (.slice cA g.length cc) g → Below W.drew.heap.size W.drew w3 → wpAnyIn (Fence.wide.inRound lp) n Try.prog .any ops11 Q 4 #[false, true, true, true, true, true, false, false, false] { tmps := #[u0, u1, u2, u3, u4, u5, .pointer (some ⟨pb, 0, none⟩), .pointer (some ⟨fb, 0, none⟩), .slice gA g.length gc, u9, .pointer (some ⟨tb, 0, none⟩), u11, u12, u13, u14, u15, u16, u17, u18, u19, u20, u21, u22, u23, u24, u25, u26, u27, u28, u29, u30, u31, u32, u33, u34, u35, u36, u37, u38, .agg #[.int .i64 f.d, .int .i64 f.o, .int .i64 f.k, .int .i64 f.n], .agg #[.int .i64 t.d, .int .i64 t.o, .int .i64 t.k, .int .i64 t.n], .slice gA g.length gc, .slice cA g.length cc, .agg #[.int .i64 3, .int .i64 0, .int .i64 0, .int .i64 0, .int .i64 0, .int .i64 0, .int .i64 0, .int .i64 0, .int .i64 0, .int .i64 0, .int .i64 0, .bool false, .bool false, .int .i64 0, .int .i64 0, .int .i64 0, .int .i64 0, .int .i64 0, .int .i64 0, .int .i64 0, .bool false, .slice none 0 0, .slice none 0 0, .int .i64 f.d, .int .i64 f.o, .int .i64 f.k, .int .i64 f.n, .int .i64 t.d, .int .i64 t.o, .int .i64 t.k, .int .i64 t.n, .slice cA g.length cc], u44, u45, u46, u47, u48, u49, u50, u51], defers := [] } w3) := by
    unfold Hid
    intro cA cc w3 hO3 hB3
    have HO3 := Lib.hid hO3
    have HB3 := Lib.hid hB3
    clear hO3 hB3
    obtain ⟨q0, f0, f1, f2, f3, t0, t1, t2, t3⟩ := HC.out _ HB3.out
    unfold ops11
    refine wpAnyIn_ready (rs := [0, 6]) (by kernel_rfl) (by simp) ?_
    refine AllReadyIn.cons rfl (fun K hK => ?_) (AllReadyIn.cons rfl (fun K hK => ?_) AllReadyIn.nil)
    · go_simp
      refine hK _ _ ?_
      exact n012345.out cA cc w3 HO3.out HB3.out
    · go_simp
      refine hK _ _ ?_
      exact n123456.out cA cc w3 HO3.out HB3.out
  have n0123 : Hid (wpAnyIn (Fence.wide.inRound lp) n Try.prog .any ops11 Q 5 #[true, true, true, true, false, false, false, false, false] { tmps := #[u0, u1, u2, u3, u4, u5, .pointer (some ⟨pb, 0, none⟩), .pointer (some ⟨fb, 0, none⟩), .slice gA g.length gc, u9, .pointer (some ⟨tb, 0, none⟩), u11, u12, u13, u14, u15, u16, u17, u18, u19, u20, u21, u22, u23, u24, u25, u26, u27, u28, u29, u30, u31, u32, u33, u34, u35, u36, u37, v, .agg #[.int .i64 f.d, .int .i64 f.o, .int .i64 f.k, .int .i64 f.n], .agg #[.int .i64 t.d, .int .i64 t.o, .int .i64 t.k, .int .i64 t.n], .slice gA g.length gc, u42, u43, u44, u45, u46, u47, u48, u49, u50, u51], defers := [] } W.drew) := by
    unfold Hid
    unfold ops11
    refine wpAnyIn_ready (rs := [4]) (by kernel_rfl) (by simp) ?_
    refine AllReadyIn.cons rfl (fun K hK => ?_) AllReadyIn.nil
    go_simp
    refine ⟨trivial, fun h => (by cases h), ?_⟩
    refine (CallsIn.inRound lp (callsIn_wide.2 (HCL.out))).mono ?_
    rintro e w3 ⟨v3, rfl, ho3, hb3⟩
    obtain ⟨cA, cc, rfl, hcc⟩ := own_form ho3
    refine hK _ _ ?_
    exact n01234.out cA cc w3 ho3 hb3
  have n0134 : Hid (∀ (cA : Option Addr) (cc : Nat) (w3 : World), OwnH 34 w3 W.drew.heap.size (.slice cA g.length cc) g → Below W.drew.heap.size W.drew w3 → wpAnyIn (Fence.wide.inRound lp) n Try.prog .any ops11 Q 5 #[true, true, false, true, true, false, false, false, false] { tmps := #[u0, u1, u2, u3, u4, u5, .pointer (some ⟨pb, 0, none⟩), .pointer (some ⟨fb, 0, none⟩), .slice gA g.length gc, u9, .pointer (some ⟨tb, 0, none⟩), u11, u12, u13, u14, u15, u16, u17, u18, u19, u20, u21, u22, u23, u24, u25, u26, u27, u28, u29, u30, u31, u32, u33, u34, u35, u36, u37, v, .agg #[.int .i64 f.d, .int .i64 f.o, .int .i64 f.k, .int .i64 f.n], u40, .slice gA g.length gc, .slice cA g.length cc, u43, u44, u45, u46, u47, u48, u49, u50, u51], defers := [] } w3) := by
    unfold Hid
    intro cA cc w3 hO3 hB3
    have HO3 := Lib.hid hO3
    have HB3 := Lib.hid hB3
    clear hO3 hB3
    obtain ⟨q0, f0, f1, f2, f3, t0, t1, t2, t3⟩ := HC.out _ HB3.out
    unfold ops11
    refine wpAnyIn_ready (rs := [2]) (by kernel_rfl) (by simp) ?_
    refine AllReadyIn.cons rfl (fun K hK => ?_) AllReadyIn.nil
    go_simp
    refine hK _ _ ?_
    exact n01234.out cA cc w3 HO3.out HB3.out
  have n0234 : Hid (∀ (cA : Option Addr) (cc : Nat) (w3 : World), OwnH 34 w3 W.drew.heap.size (.slice cA g.length cc) g → Below W.drew.heap.size W.drew w3 → wpAnyIn (Fence.wide.inRound lp) n Try.prog .any ops11 Q 5 #[true, false, true, true, true, false, false, false, false] { tmps := #[u0, u1, u2, u3, u4, u5, .pointer (some ⟨pb, 0, none⟩), .pointer (some ⟨fb, 0, none⟩), .slice gA g.length gc, u9, .pointer (some ⟨tb, 0, none⟩), u11, u12, u13, u14, u15, u16, u17, u18, u19, u20, u21, u22, u23, u24, u25, u26, u27, u28, u29, u30, u31, u32, u33, u34, u35, u36, u37, v, u39, .agg #[.int .i64 t.d, .int .i64 t.o, .int .i64 t.k, .int .i64 t.n], .slice gA g.length gc, .slice cA g.length cc, u43, u44, u45, u46, u47, u48, u49, u50, u51], defers := [] } w3) := by
    unfold Hid
    intro cA cc w3 hO3 hB3
    have HO3 := Lib.hid hO3
    have HB3 := Lib.hid hB3
    clear hO3 hB3
    obtain ⟨q0, f0, f1, f2, f3, t0, t1, t2, t3⟩ := HC.out _ HB3.out
    unfold ops11
    refine wpAnyIn_ready (rs := [1]) (by kernel_rfl) (by simp) ?_
    refine AllReadyIn.cons rfl (fun K hK => ?_) AllReadyIn.nil
    go_simp
    refine hK _ _ ?_
    exact n01234.out cA cc w3 HO3.out HB3.out
  have n1234 : Hid (∀ (cA : Option Addr) (cc : Nat) (w3 : World), OwnH 34 w3 W.drew.heap.size (.slice cA g.length cc) g → Below W.drew.heap.size W.drew w3 → wpAnyIn (Fence.wide.inRound lp) n Try.prog .any ops11 Q 5 #[false, true, true, true, true, false, false, false, false] { tmps := #[u0, u1, u2, u3, u4, u5, .pointer (some ⟨pb, 0, none⟩), .pointer (some ⟨fb, 0, none⟩), .slice gA g.length gc, u9, .pointer (some ⟨tb, 0, none⟩), u11, u12, u13, u14, u15, u16, u17, u18, u19, u20, u21, u22, u23, u24, u25, u26, u27, u28, u29, u30, u31, u32, u33, u34, u35, u36, u37, u38, .agg #[.int .i64 f.d, .int .i64 f.o, .int .i64 f.k, .int .i64 f.n], .agg #[.int .i64 t.d, .int .i64 t.o, .int .i64 t.k, .int .i64 t.n], .slice gA g.length gc, .slice cA g.length cc, u43, u44, u45, u46, u47, u48, u49, u50, u51], defers := [] } w3) := by
    unfold Hid
    intro cA cc w3 hO3 hB3
    have HO3 := Lib.hid hO3
    have HB3 := Lib.hid hB3
    clear hO3 hB3
    obtain ⟨q0, f0, f1, f2, f3, t0, t1, t2, t3⟩ := HC.out _ HB3.out
    unfold ops11
    refine wpAnyIn_ready (rs := [0, 5]) (by kernel_rfl) (by simp) ?_
    refine AllReadyIn.cons rfl (fun K hK => ?_) (AllReadyIn.cons rfl (fun K hK => ?_) AllReadyIn.nil)
    · go_simp
      refine hK _ _ ?_
      exact n01234.out cA cc w3 HO3.out HB3.out
    · go_simp
      refine hK _ _ ?_
      exact n12345.out cA cc w3 HO3.out HB3.out
  have n012 : Hid (wpAnyIn (Fence.wide.inRound lp) n Try.prog .any ops11 Q 6 #[true, true, true, false, false, false, false, false, false] { tmps := #[u0, u1, u2, u3, u4, u5, .pointer (some ⟨pb, 0, none⟩), .pointer (some ⟨fb, 0, none⟩), .slice gA g.length gc, u9, .pointer (some ⟨tb, 0, none⟩), u11, u12, u13, u14, u15, u16, u17, u18, u19, u20, u21, u22, u23, u24, u25, u26, u27, u28, u29, u30, u31, u32, u33, u34, u35, u36, u37, v, .agg #[.int .i64 f.d, .int .i64 f.o, .int .i64 f.k, .int .i64 f.n], .agg #[.int .i64 t.d, .int .i64 t.o, .int .i64 t.k, .int .i64 t.n], u41, u42, u43, u44, u45, u46, u47, u48, u49, u50, u51], defers := [] } W.drew) := by
    unfold Hid
    unfold ops11
    refine wpAnyIn_ready (rs := [3]) (by kernel_rfl) (by simp) ?_
    refine AllReadyIn.cons rfl (fun K hK => ?_) AllReadyIn.nil
    go_simp
    refine hK _ _ ?_
    exact n0123.out
  have n013 : Hid (wpAnyIn (Fence.wide.inRound lp) n Try.prog .any ops11 Q 6 #[true, true, false, true, false, false, false, false, false] { tmps := #[u0, u1, u2, u3, u4, u5, .pointer (some ⟨pb, 0, none⟩), .pointer (some ⟨fb, 0, none⟩), .slice gA g.length gc, u9, .pointer (some ⟨tb, 0, none⟩), u11, u12, u13, u14, u15, u16, u17, u18, u19, u20, u21, u22, u23, u24, u25, u26, u27, u28, u29, u30, u31, u32, u33, u34, u35, u36, u37, v, .agg #[.int .i64 f.d, .int .i64 f.o, .int .i64 f.k, .int .i64 f.n], u40, .slice gA g.length gc, u42, u43, u44, u45, u46, u47, u48, u49, u50, u51], defers := [] } W.drew) := by
    unfold Hid
    unfold ops11
    refine wpAnyIn_ready (rs := [2, 4]) (by kernel_rfl) (by simp) ?_
    refine AllReadyIn.cons rfl (fun K hK => ?_) (AllReadyIn.cons rfl (fun K hK => ?_) AllReadyIn.nil)
    · go_simp
      refine hK _ _ ?_
      exact n0123.out
    · go_simp
      refine ⟨trivial, fun h => (by cases h), ?_⟩
      refine (CallsIn.inRound lp (callsIn_wide.2 (HCL.out))).mono ?_
      rintro e w3 ⟨v3, rfl, ho3, hb3⟩
      obtain ⟨cA, cc, rfl, hcc⟩ := own_form ho3
      refine hK _ _ ?_
      exact n0134.out cA cc w3 ho3 hb3
  have n023 : Hid (wpAnyIn (Fence.wide.inRound lp) n Try.prog .any ops11 Q 6 #[true, false, true, true, false, false, false, false, false] { tmps := #[u0, u1, u2, u3, u4, u5, .pointer (some ⟨pb, 0, none⟩), .pointer (some ⟨fb, 0, none⟩), .slice gA g.length gc, u9, .pointer (some ⟨tb, 0, none⟩), u11, u12, u13, u14, u15, u16, u17, u18, u19, u20, u21, u22, u23, u24, u25, u26, u27, u28, u29, u30, u31, u32, u33, u34, u35, u36, u37, v, u39, .agg #[.int .i64 t.d, .int .i64 t.o, .int .i64 t.k, .int .i64 t.n], .slice gA g.length gc, u42, u43, u44, u45, u46, u47, u48, u49, u50, u51], defers := [] } W.drew) := by
    unfold Hid
    unfold ops11
    refine wpAnyIn_ready (rs := [1, 4]) (by kernel_rfl) (by simp) ?_
    refine AllReadyIn.cons rfl (fun K hK => ?_) (AllReadyIn.cons rfl (fun K hK => ?_) AllReadyIn.nil)
    · go_simp
      refine hK _ _ ?_
      exact n0123.out
    · go_simp
      refine ⟨trivial, fun h => (by cases h), ?_⟩
      refine (CallsIn.inRound lp (callsIn_wide.2 (HCL.out))).mono ?_
      rintro e w3 ⟨v3, rfl, ho3, hb3⟩
      obtain ⟨cA, cc, rfl, hcc⟩ := own_form ho3
      refine hK _ _ ?_
      exact n0234.out cA cc w3 ho3 hb3
  have n034 : Hid (∀ (cA : Option Addr) (cc : Nat) (w3 : World), OwnH 34 w3 W.drew.heap.size (.slice cA g.length cc) g → Below W.drew.heap.size W.drew w3 → wpAnyIn (Fence.wide.inRound lp) n Try.prog .any ops11 Q 6 #[true, false, false, true, true, false, false, false, false] { tmps := #[u0, u1, u2, u3, u4, u5, .pointer (some ⟨pb, 0, none⟩), .pointer (some ⟨fb, 0, none⟩), .slice gA g.length gc, u9, .pointer (some ⟨tb, 0, none⟩), u11, u12, u13, u14, u15, u16, u17, u18, u19, u20, u21, u22, u23, u24, u25, u26, u27, u28, u29, u30, u31, u32, u33, u34, u35, u36, u37, v, u39, u40, .slice gA g.length gc, .slice cA g.length cc, u43, u44, u45, u46, u47, u48, u49, u50, u51], defers := [] } w3) := by
    unfold Hid
    intro cA cc w3 hO3 hB3
    have HO3 := Lib.hid hO3
    have HB3 := Lib.hid hB3
    clear hO3 hB3
    obtain ⟨q0, f0, f1, f2, f3, t0, t1, t2, t3⟩ := HC.out _ HB3.out
    unfold ops11
    refine wpAnyIn_ready (rs := [1, 2]) (by kernel_rfl) (by simp) ?_
    refine AllReadyIn.cons rfl (fun K hK => ?_) (AllReadyIn.cons rfl (fun K hK => ?_) AllReadyIn.nil)
    · go_simp
      refine hK _ _ ?_
      exact n0134.out cA cc w3 HO3.out HB3.out
    · go_simp
      refine hK _ _ ?_
      exact n0234.out cA cc w3 HO3.out HB3.out
  have n123 : Hid (wpAnyIn (Fence.wide.inRound lp) n Try.prog .any ops11 Q 6 #[false, true, true, true, false, false, false, false, false] { tmps := #[u0, u1, u2, u3, u4, u5, .pointer (some ⟨pb, 0, none⟩), .pointer (some ⟨fb, 0, none⟩), .slice gA g.length gc, u9, .pointer (some ⟨tb, 0, none⟩), u11, u12, u13, u14, u15, u16, u17, u18, u19, u20, u21, u22, u23, u24, u25, u26, u27, u28, u29, u30, u31, u32, u33, u34, u35, u36, u37, u38, .agg #[.int .i64 f.d, .int .i64 f.o, .int .i64 f.k, .int .i64 f.n], .agg #[.int .i64 t.d, .int .i64 t.o, .int .i64 t.k, .int .i64 t.n], .slice gA g.length gc, u42, u43, u44, u45, u46, u47, u48, u49, u50, u51], defers := [] } W.drew) := by
    unfold Hid
    unfold ops11
    refine wpAnyIn_ready (rs := [0, 4]) (by kernel_rfl) (by simp) ?_
    refine AllReadyIn.cons rfl (fun K hK => ?_) (AllReadyIn.cons rfl (fun K hK => ?_) AllReadyIn.nil)
    · go_simp
      refine hK _ _ ?_
      exact n0123.out
    · go_simp
      refine ⟨trivial, fun h => (by cases h), ?_⟩
      refine (CallsIn.inRound lp (callsIn_wide.2 (HCL.out))).mono ?_
      rintro e w3 ⟨v3, rfl, ho3, hb3⟩
      obtain ⟨cA, cc, rfl, hcc⟩ := own_form ho3
      refine hK _ _ ?_
      exact n1234.out cA cc w3 ho3 hb3
  have n134 : Hid (∀ (cA : Option Addr) (cc : Nat) (w3 : World), OwnH 34 w3 W.drew.heap.size (.slice cA g.length cc) g → Below W.drew.heap.size W.drew w3 → wpAnyIn (Fence.wide.inRound lp) n Try.prog .any ops11 Q 6 #[false, true, false, true, true, false, false, false, false] { tmps := #[u0, u1, u2, u3, u4, u5, .pointer (some ⟨pb, 0, none⟩), .pointer (some ⟨fb, 0, none⟩), .slice gA g.length gc, u9, .pointer (some ⟨tb, 0, none⟩), u11, u12, u13, u14, u15, u16, u17, u18, u19, u20, u21, u22, u23, u24, u25, u26, u27, u28, u29, u30, u31, u32, u33, u34, u35, u36, u37, u38, .agg #[.int .i64 f.d, .int .i64 f.o, .int .i64 f.k, .int .i64 f.n], u40, .slice gA g.length gc, .slice cA g.length cc, u43, u44, u45, u46, u47, u48, u49, u50, u51], defers := [] } w3) := by
    unfold Hid
    intro cA cc w3 hO3 hB3
    have HO3 := Lib.hid hO3
    have HB3 := Lib.hid hB3
    clear hO3 hB3
    obtain ⟨q0, f0, f1, f2, f3, t0, t1, t2, t3⟩ := HC.out _ HB3.out
    unfold ops11
    refine wpAnyIn_ready (rs := [0, 2]) (by kernel_rfl) (by simp) ?_
    refine AllReadyIn.cons rfl (fun K hK => ?_) (AllReadyIn.cons rfl (fun K hK => ?_) AllReadyIn.nil)
    · go_simp
      refine hK _ _ ?_
      exact n0134.out cA cc w3 HO3.out HB3.out
    · go_simp
      refine hK _ _ ?_
      exact n1234.out cA cc w3 HO3.out HB3.out
  have n234 : Hid (∀ (cA : Option Addr) (cc : Nat) (w3 : World), OwnH 34 w3 W.drew.heap.size (.slice cA g.length cc) g → Below W.drew.heap.size W.drew w3 → wpAnyIn (Fence.wide.inRound lp) n Try.prog .any ops11 Q 6 #[false, false, true, true, true, false, false, false, false] { tmps := #[u0, u1, u2, u3, u4, u5, .pointer (some ⟨pb, 0, none⟩), .pointer (some ⟨fb, 0, none⟩), .slice gA g.length gc, u9, .pointer (some ⟨tb, 0, none⟩), u11, u12, u13, u14, u15, u16, u17, u18, u19, u20, u21, u22, u23, u24, u25, u26, u27, u28, u29, u30, u31, u32, u33, u34, u35, u36, u37, u38, u39, .agg #[.int .i64 t.d, .int .i64 t.o, .int .i64 t.k, .int .i64 t.n], .slice gA g.length gc, .slice cA g.length cc, u43, u44, u45, u46, u47, u48, u49, u50, u51], defers := [] } w3) := by
    unfold Hid
    intro cA cc w3 hO3 hB3
    have HO3 := Lib.hid hO3
    have HB3 := Lib.hid hB3
    clear hO3 hB3
    obtain ⟨q0, f0, f1, f2, f3, t0, t1, t2, t3⟩ := HC.out _ HB3.out
    unfold ops11
    refine wpAnyIn_ready (rs := [0, 1]) (by kernel_rfl) (by simp) ?_
    refine AllReadyIn.cons rfl (fun K hK => ?_) (AllReadyIn.cons rfl (fun K hK => ?_) AllReadyIn.nil)
    · go_simp
      refine hK _ _ ?_
      exact n0234.out cA cc w3 HO3.out HB3.out
    · go_simp
      refine hK _ _ ?_
      exact n1234.out cA cc w3 HO3.out HB3.out
  have n01 : Hid (wpAnyIn (Fence.wide.inRound lp) n Try.prog .any ops11 Q 7 #[true, true, false, false, false, false, false, false, false] { tmps := #[u0, u1, u2, u3, u4, u5, .pointer (some ⟨pb, 0, none⟩), .pointer (some ⟨fb, 0, none⟩), .slice gA g.length gc, u9, .pointer (some ⟨tb, 0, none⟩), u11, u12, u13, u14, u15, u16, u17, u18, u19, u20, u21, u22, u23, u24, u25, u26, u27, u28, u29, u30, u31, u32, u33, u34, u35, u36, u37, v, .agg #[.int .i64 f.d, .int .i64 f.o, .int .i64 f.k, .int .i64 f.n], u40, u41, u42, u43, u44, u45, u46, u47, u48, u49, u50, u51], defers := [] } W.drew) := by
    unfold Hid
    unfold ops11
    refine wpAnyIn_ready (rs := [2, 3]) (by kernel_rfl) (by simp) ?_
    refine AllReadyIn.cons rfl (fun K hK => ?_) (AllReadyIn.cons rfl (fun K hK => ?_) AllReadyIn.nil)
    · go_simp
      refine hK _ _ ?_
      exact n012.out
    · go_simp
      refine hK _ _ ?_
      exact n013.out
  have n02 : Hid (wpAnyIn (Fence.wide.inRound lp) n Try.prog .any ops11 Q 7 #[true, false, true, false, false, false, false, false, false] { tmps := #[u0, u1, u2, u3, u4, u5, .pointer (some ⟨pb, 0, none⟩), .pointer (some ⟨fb, 0, none⟩), .slice gA g.length gc, u9, .pointer (some ⟨tb, 0, none⟩), u11, u12, u13, u14, u15, u16, u17, u18, u19, u20, u21, u22, u23, u24, u25, u26, u27, u28, u29, u30, u31, u32, u33, u34, u35, u36, u37, v, u39, .agg #[.int .i64 t.d, .int .i64 t.o, .int .i64 t.k, .int .i64 t.n], u41, u42, u43, u44, u45, u46, u47, u48, u49, u50, u51], defers := [] } W.drew) := by
    unfold Hid
    unfold ops11
    refine wpAnyIn_ready (rs := [1, 3]) (by kernel_rfl) (by simp) ?_
    refine AllReadyIn.cons rfl (fun K hK => ?_) (AllReadyIn.cons rfl (fun K hK => ?_) AllReadyIn.nil)
    · go_simp
      refine hK _ _ ?_
      exact n012.out
    · go_simp
      refine hK _ _ ?_
      exact n023.out
  have n03 : Hid (wpAnyIn (Fence.wide.inRound lp) n Try.prog .any ops11 Q 7 #[true, false, false, true, false, false, false, false, false] { tmps := #[u0, u1, u2, u3, u4, u5, .pointer (some ⟨pb, 0, none⟩), .pointer (some ⟨fb, 0, none⟩), .slice gA g.length gc, u9, .pointer (some ⟨tb, 0, none⟩), u11, u12, u13, u14, u15, u16, u17, u18, u19, u20, u21, u22, u23, u24, u25, u26, u27, u28, u29, u30, u31, u32, u33, u34, u35, u36, u37, v, u39, u40, .slice gA g.length gc, u42, u43, u44, u45, u46, u47, u48, u49, u50, u51], defers := [] } W.drew) := by
    unfold Hid
    unfold ops11
    refine wpAnyIn_ready (rs := [1, 2, 4]) (by kernel_rfl) (by simp) ?_
    refine AllReadyIn.cons rfl (fun K hK => ?_) (AllReadyIn.cons rfl (fun K hK => ?_) (AllReadyIn.cons rfl (fun K hK => ?_) AllReadyIn.nil))
    · go_simp
      refine hK _ _ ?_
      exact n013.out
    · go_simp
      refine hK _ _ ?_
      exact n023.out
    · go_simp
      refine ⟨trivial, fun h => (by cases h), ?_⟩
      refine (CallsIn.inRound lp (callsIn_wide.2 (HCL.out))).mono ?_
      rintro e w3 ⟨v3, rfl, ho3, hb3⟩
      obtain ⟨cA, cc, rfl, hcc⟩ := own_form ho3
      refine hK _ _ ?_
      exact n034.out cA cc w3 ho3 hb3
  have n12 : Hid (wpAnyIn (Fence.wide.inRound lp) n Try.prog .any ops11 Q 7 #[false, true, true, false, false, false, false, false, false] { tmps := #[u0, u1, u2, u3, u4, u5, .pointer (some ⟨pb, 0, none⟩), .pointer (some ⟨fb, 0, none⟩), .slice gA g.length gc, u9, .pointer (some ⟨tb, 0, none⟩), u11, u12, u13, u14, u15, u16, u17, u18, u19, u20, u21, u22, u23, u24, u25, u26, u27, u28, u29, u30, u31, u32, u33, u34, u35, u36, u37, u38, .agg #[.int .i64 f.d, .int .i64 f.o, .int .i64 f.k, .int .i64 f.n], .agg #[.int .i64 t.d, .int .i64 t.o, .int .i64 t.k, .int .i64 t.n], u41, u42, u43, u44, u45, u46, u47, u48, u49, u50, u51], defers := [] } W.drew) := by
    unfold Hid
    unfold ops11
    refine wpAnyIn_ready (rs := [0, 3]) (by kernel_rfl) (by simp) ?_
    refine AllReadyIn.cons rfl (fun K hK => ?_) (AllReadyIn.cons rfl (fun K hK => ?_) AllReadyIn.nil)
    · go_simp
      refine hK _ _ ?_
      exact n012.out
    · go_simp
      refine hK _ _ ?_
      exact n123.out
  have n13 : Hid (wpAnyIn (Fence.wide.inRound lp) n Try.prog .any ops11 Q 7 #[false, true, false, true, false, false, false, false, false] { tmps := #[u0, u1, u2, u3, u4, u5, .pointer (some ⟨pb, 0, none⟩), .pointer (some ⟨fb, 0, none⟩), .slice gA g.length gc, u9, .pointer (some ⟨tb, 0, none⟩), u11, u12, u13, u14, u15, u16, u17, u18, u19, u20, u21, u22, u23, u24, u25, u26, u27, u28, u29, u30, u31, u32, u33, u34, u35, u36, u37, u38, .agg #[.int .i64 f.d, .int .i64 f.o, .int .i64 f.k, .int .i64 f.n], u40, .slice gA g.length gc, u42, u43, u44, u45, u46, u47, u48, u49, u50, u51], defers := [] } W.drew) := by
    unfold Hid
    unfold ops11
    refine wpAnyIn_ready (rs := [0, 2, 4]) (by kernel_rfl) (by simp) ?_
    refine AllReadyIn.cons rfl (fun K hK => ?_) (AllReadyIn.cons rfl (fun K hK => ?_) (AllReadyIn.cons rfl (fun K hK => ?_) AllReadyIn.nil))
    · go_simp
      refine hK _ _ ?_
      exact n013.out
    · go_simp
      refine hK _ _ ?_
      exact n123.out
    · go_simp
      refine ⟨trivial, fun h => (by cases h), ?_⟩
      refine (CallsIn.inRound lp (callsIn_wide.2 (HCL.out))).mono ?_
      rintro e w3 ⟨v3, rfl, ho3, hb3⟩
      obtain ⟨cA, cc, rfl, hcc⟩ := own_form ho3
      refine hK _ _ ?_
      exact n134.out cA cc w3 ho3 hb3
  have n23 : Hid (wpAnyIn (Fence.wide.inRound lp) n Try.prog .any ops11 Q 7 #[false, false, true, true, false, false, false, false, false] { tmps := #[u0, u1, u2, u3, u4, u5, .pointer (some ⟨pb, 0, none⟩), .pointer (some ⟨fb, 0, none⟩), .slice gA g.length gc, u9, .pointer (some ⟨tb, 0, none⟩), u11, u12, u13, u14, u15, u16, u17, u18, u19, u20, u21, u22, u23, u24, u25, u26, u27, u28, u29, u30, u31, u32, u33, u34, u35, u36, u37, u38, u39, .agg #[.int .i64 t.d, .int .i64 t.o, .int .i64 t.k, .int .i64 t.n], .slice gA g.length gc, u42, u43, u44, u45, u46, u47, u48, u49, u50, u51], defers := [] } W.drew) := by
    unfold Hid
    unfold ops11
    refine wpAnyIn_ready (rs := [0, 1, 4]) (by kernel_rfl) (by simp) ?_
    refine AllReadyIn.cons rfl (fun K hK => ?_) (AllReadyIn.cons rfl (fun K hK => ?_) (AllReadyIn.cons rfl (fun K hK => ?_) AllReadyIn.nil))
    · go_simp
      refine hK _ _ ?_
      exact n023.out
    · go_simp
      refine hK _ _ ?_
      exact n123.out
    · go_simp
      refine ⟨trivial, fun h => (by cases h), ?_⟩
      refine (CallsIn.inRound lp (callsIn_wide.2 (HCL.out))).mono ?_
      rintro e w3 ⟨v3, rfl, ho3, hb3⟩
      obtain ⟨cA, cc, rfl, hcc⟩ := own_form ho3
      refine hK _ _ ?_
      exact n234.out cA cc w3 ho3 hb3
  have n34 : Hid (∀ (cA : Option Addr) (cc : Nat) (w3 : World), OwnH 34 w3 W.drew.heap.size (.slice cA g.length cc) g → Below W.drew.heap.size W.drew w3 → wpAnyIn (Fence.wide.inRound lp) n Try.prog .any ops11 Q 7 #[false, false, false, true, true, false, false, false, false] { tmps := #[u0, u1, u2, u3, u4, u5, .pointer (some ⟨pb, 0, none⟩), .pointer (some ⟨fb, 0, none⟩), .slice gA g.length gc, u9, .pointer (some ⟨tb, 0, none⟩), u11, u12, u13, u14, u15, u16, u17, u18, u19, u20, u21, u22, u23, u24, u25, u26, u27, u28, u29, u30, u31, u32, u33, u34, u35, u36, u37, u38, u39, u40, .slice gA g.length gc, .slice cA g.length cc, u43, u44, u45, u46, u47, u48, u49, u50, u51], defers := [] } w3) := by
    unfold Hid
    intro cA cc w3 hO3 hB3
    have HO3 := Lib.hid hO3
    have HB3 := Lib.hid hB3
    clear hO3 hB3
    obtain ⟨q0, f0, f1, f2, f3, t0, t1, t2, t3⟩ := HC.out _ HB3.out
    unfold ops11
    refine wpAnyIn_ready (rs := [0, 1, 2]) (by kernel_rfl) (by simp) ?_
    refine AllReadyIn.cons rfl (fun K hK => ?_) (AllReadyIn.cons rfl (fun K hK => ?_) (AllReadyIn.cons rfl (fun K hK => ?_) AllReadyIn.nil))
    · go_simp
      refine hK _ _ ?_
      exact n034.out cA cc w3 HO3.out HB3.out
    · go_simp
      refine hK _ _ ?_
      exact n134.out cA cc w3 HO3.out HB3.out
    · go_simp
      refine hK _ _ ?_
      exact n234.out cA cc w3 HO3.out HB3.out
  have n0 : Hid (wpAnyIn (Fence.wide.inRound lp) n Try.prog .any ops11 Q 8 #[true, false, false, false, false, false, false, false, false] { tmps := #[u0, u1, u2, u3, u4, u5, .pointer (some ⟨pb, 0, none⟩), .pointer (some ⟨fb, 0, none⟩), .slice gA g.length gc, u9, .pointer (some ⟨tb, 0, none⟩), u11, u12, u13, u14, u15, u16, u17, u18, u19, u20, u21, u22, u23, u24, u25, u26, u27, u28, u29, u30, u31, u32, u33, u34, u35, u36, u37, v, u39, u40, u41, u42, u43, u44, u45, u46, u47, u48, u49, u50, u51], defers := [] } W.drew) := by
    unfold Hid
    unfold ops11
    refine wpAnyIn_ready (rs := [1, 2, 3]) (by kernel_rfl) (by simp) ?_
    refine AllReadyIn.cons rfl (fun K hK => ?_) (AllReadyIn.cons rfl (fun K hK => ?_) (AllReadyIn.cons rfl (fun K hK => ?_) AllReadyIn.nil))
    · go_simp
      refine hK _ _ ?_
      exact n01.out
    · go_simp
      refine hK _ _ ?_
      exact n02.out
    · go_simp
      refine hK _ _ ?_
      exact n03.out
  have n1 : Hid (wpAnyIn (Fence.wide.inRound lp) n Try.prog .any ops11 Q 8 #[false, true, false, false, false, false, false, false, false] { tmps := #[u0, u1, u2, u3, u4, u5, .pointer (some ⟨pb, 0, none⟩), .pointer (some ⟨fb, 0, none⟩), .slice gA g.length gc, u9, .pointer (some ⟨tb, 0, none⟩), u11, u12, u13, u14, u15, u16, u17, u18, u19, u20, u21, u22, u23, u24, u25, u26, u27, u28, u29, u30, u31, u32, u33, u34, u35, u36, u37, u38, .agg #[.int .i64 f.d, .int .i64 f.o, .int .i64 f.k, .int .i64 f.n], u40, u41, u42, u43, u44, u45, u46, u47, u48, u49, u50, u51], defers := [] } W.drew) := by
    unfold Hid
    unfold ops11
    refine wpAnyIn_ready (rs := [0, 2, 3]) (by kernel_rfl) (by simp) ?_
    refine AllReadyIn.cons rfl (fun K hK => ?_) (AllReadyIn.cons rfl (fun K hK => ?_) (AllReadyIn.cons rfl (fun K hK => ?_) AllReadyIn.nil))
    · go_simp
      refine hK _ _ ?_
      exact n01.out
    · go_simp
      refine hK _ _ ?_
      exact n12.out
    · go_simp
      refine hK _ _ ?_
      exact n13.out
  have n2 : Hid (wpAnyIn (Fence.wide.inRound lp) n Try.prog .any ops11 Q 8 #[false, false, true, false, false, false, false, false, false] { tmps := #[u0, u1, u2, u3, u4, u5, .pointer (some ⟨pb, 0, none⟩), .pointer (some ⟨fb, 0, none⟩), .slice gA g.length gc, u9, .pointer (some ⟨tb, 0, none⟩), u11, u12, u13, u14, u15, u16, u17, u18, u19, u20, u21, u22, u23, u24, u25, u26, u27, u28, u29, u30, u31, u32, u33, u34, u35, u36, u37, u38, u39, .agg #[.int .i64 t.d, .int .i64 t.o, .int .i64 t.k, .int .i64 t.n], u41, u42, u43, u44, u45, u46, u47, u48, u49, u50, u51], defers := [] } W.drew) := by
    unfold Hid
    unfold ops11
    refine wpAnyIn_ready (rs := [0, 1, 3]) (by kernel_rfl) (by simp) ?_
    refine AllReadyIn.cons rfl (fun K hK => ?_) (AllReadyIn.cons rfl (fun K hK => ?_) (AllReadyIn.cons rfl (fun K hK => ?_) AllReadyIn.nil))
    · go_simp
      refine hK _ _ ?_
      exact n02.out
    · go_simp
      refine hK _ _ ?_
      exact n12.out
    · go_simp
      refine hK _ _ ?_
      exact n23.out
  have n3 : Hid (wpAnyIn (Fence.wide.inRound lp) n Try.prog .any ops11 Q 8 #[false, false, false, true, false, false, false, false, false] { tmps := #[u0, u1, u2, u3, u4, u5, .pointer (some ⟨pb, 0, none⟩), .pointer (some ⟨fb, 0, none⟩), .slice gA g.length gc, u9, .pointer (some ⟨tb, 0, none⟩), u11, u12, u13, u14, u15, u16, u17, u18, u19, u20, u21, u22, u23, u24, u25, u26, u27, u28, u29, u30, u31, u32, u33, u34, u35, u36, u37, u38, u39, u40, .slice gA g.length gc, u42, u43, u44, u45, u46, u47, u48, u49, u50, u51], defers := [] } W.drew) := by
    unfold Hid
    unfold ops11
    refine wpAnyIn_ready (rs := [0, 1, 2, 4]) (by kernel_rfl) (by simp) ?_
    refine AllReadyIn.cons rfl (fun K hK => ?_) (AllReadyIn.cons rfl (fun K hK => ?_) (AllReadyIn.cons rfl (fun K hK => ?_) (AllReadyIn.cons rfl (fun K hK => ?_) AllReadyIn.nil)))
    · go_simp
      refine hK _ _ ?_
      exact n03.out
    · go_simp
      refine hK _ _ ?_
      exact n13.out
    · go_simp
      refine hK _ _ ?_
      exact n23.out
    · go_simp
      refine ⟨trivial, fun h => (by cases h), ?_⟩
      refine (CallsIn.inRound lp (callsIn_wide.2 (HCL.out))).mono ?_
      rintro e w3 ⟨v3, rfl, ho3, hb3⟩
      obtain ⟨cA, cc, rfl, hcc⟩ := own_form ho3
      refine hK _ _ ?_
      exact n34.out cA cc w3 ho3 hb3
  refine wpIn_region_any (by kernel_rfl) ?_
  change wpAnyIn _ _ _ _ _ _ 9 #[false, false, false, false, false, false, false, false, false] _ (World.drew _)
  unfold ops11
  refine wpAnyIn_ready (rs := [0, 1, 2, 3]) (by kernel_rfl) (by simp) ?_
  refine AllReadyIn.cons rfl (fun K hK => ?_) (AllReadyIn.cons rfl (fun K hK => ?_) (AllReadyIn.cons rfl (fun K hK => ?_) (AllReadyIn.cons rfl (fun K hK => ?_) AllReadyIn.nil)))
  · go_simp
    refine hK _ _ ?_
    exact n0.out
  · go_simp
    refine hK _ _ ?_
    exact n1.out
  · go_simp
    refine hK _ _ ?_
    exact n2.out
  · go_simp
    refine hK _ _ ?_
    exact n3.out
end Go.Proofs.Ytjfnpciecgemeaa.ti
