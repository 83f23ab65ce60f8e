/-
  WHAT AN END DOES BESIDES: New, Say, Other, Tick, Level.
-/
import Derived.Test.YticbfmbinopjcaaLHear
import Derived.Test.YticbfmbinopjcaaWRef3
import Derived.StillTailTactics
namespace Go.Proofs.Yticbfmbinopjcaa
set_option linter.unusedSimpArgs false
set_option linter.unusedVariables false
open Go.RowKit
theorem region_tail {P : Program} {id : Nat} {Q : Exit → Act → World → Prop} {a : Act} {w : World} {l : List Oper} (n : Nat) (hm : P.follows .mixedOrders = true) (hB : Region.lexTailB .any l.toArray n = true) (W : World) (hW : w.drew = W)
    (h : wpStill P l.toArray W (fun a' => wpList P l.toArray Q (l.drop n) a' W) (l.take n) a) : (Code.region id l.toArray true).wp P Q a w := by
  subst hW
  exact wp_region_still_tail n hm hB h
theorem LieP.frozen {W : World} {k : Nat} {x : LieT} (h : LieP W k x) (j : Nat) : W.frozen? ⟨k, j, none⟩ = false := by
  unfold LieP at h
  simp [World.frozen?, h]
theorem LieP.all {W : World} {k : Nat} {x : LieT} (h : LieP W k x) : W.cell? ⟨k, 0, none⟩ = some (.int .i64 x.node) ∧ W.cell? ⟨k, 1, none⟩ = some (.int .i64 x.level) ∧ W.cell? ⟨k, 2, none⟩ = some (.int .i64 x.pod) ∧ W.cell? ⟨k, 3, none⟩ = some (.int .i64 x.mtu) ∧ W.cell? ⟨k, 4, none⟩ = some (.int .i64 x.link) ∧ W.cell? ⟨k, 5, none⟩ = some (.int .i64 x.nonce) ∧ W.cell? ⟨k, 6, none⟩ = some (.int .i64 x.seen) ∧ W.cell? ⟨k, 7, none⟩ = some (.int .i64 x.seenLink) ∧ W.cell? ⟨k, 8, none⟩ = some (.int .i64 x.seenNonce) ∧ W.cell? ⟨k, 9, none⟩ = some (.int .i64 x.hold) ∧ W.cell? ⟨k, 10, none⟩ = some (.bool x.rep) ∧ W.cell? ⟨k, 11, none⟩ = some (.bool x.noOffer) := by
  unfold LieP at h
  simp [World.cell?, h]
/-- A block that holds who is heard. -/
def OthP (W : World) (k : Nat) (x : OtherT) : Prop := W.heap[k]? = some (.cells #[.int .i64 x.node, .int .i64 x.link, .int .i64 x.level, .int .i64 x.nonce] 41 (0, 0))
theorem OthP.frozen {W : World} {k : Nat} {x : OtherT} (h : OthP W k x) (j : Nat) : W.frozen? ⟨k, j, none⟩ = false := by
  unfold OthP at h
  simp [World.frozen?, h]
theorem OthP.all {W : World} {k : Nat} {x : OtherT} (h : OthP W k x) : W.cell? ⟨k, 0, none⟩ = some (.int .i64 x.node) ∧ W.cell? ⟨k, 1, none⟩ = some (.int .i64 x.link) ∧ W.cell? ⟨k, 2, none⟩ = some (.int .i64 x.level) ∧ W.cell? ⟨k, 3, none⟩ = some (.int .i64 x.nonce) := by
  unfold OthP at h
  simp [World.cell?, h]
theorem OthP.range {W : World} {k : Nat} {x : OtherT} (h : OthP W k x) : W.rangeAt k 0 [.int .i64 x.node, .int .i64 x.link, .int .i64 x.level, .int .i64 x.nonce] := by
  intro j v hv
  unfold OthP at h
  rw [cell_of_row W k _ _ _ _ h, Nat.zero_add]
  rw [← Array.getElem?_toList]
  exact hv
theorem heap_set_list {W : World} {k j : Nat} {v : Value} {cs : List Value} {T : TypeId} (h : W.heap[k]? = some (.cells cs.toArray T (0, 0))) : (W.setCell ⟨k, j, none⟩ v).heap[k]? = some (.cells (cs.set j v).toArray T (0, 0)) := by
  rw [heap_setCell_same _ _ _ _ _ _ h]
  simp
theorem LieP.put {U : World} {k : Nat} {x : LieT} (h : LieP U k x) (y : LieT) : LieP ((((((((((((U.setCell ⟨k, 0, none⟩ (.int .i64 y.node)).setCell ⟨k, 1, none⟩ (.int .i64 y.level)).setCell ⟨k, 2, none⟩ (.int .i64 y.pod)).setCell ⟨k, 3, none⟩ (.int .i64 y.mtu)).setCell ⟨k, 4, none⟩ (.int .i64 y.link)).setCell ⟨k, 5, none⟩ (.int .i64 y.nonce)).setCell ⟨k, 6, none⟩ (.int .i64 y.seen)).setCell ⟨k, 7, none⟩ (.int .i64 y.seenLink)).setCell ⟨k, 8, none⟩ (.int .i64 y.seenNonce)).setCell ⟨k, 9, none⟩ (.int .i64 y.hold)).setCell ⟨k, 10, none⟩ (.bool y.rep)).setCell ⟨k, 11, none⟩ (.bool y.noOffer)) k y := by
  have h' : U.heap[k]? = some (.cells [.int .i64 x.node, .int .i64 x.level, .int .i64 x.pod, .int .i64 x.mtu, .int .i64 x.link, .int .i64 x.nonce, .int .i64 x.seen, .int .i64 x.seenLink, .int .i64 x.seenNonce, .int .i64 x.hold, .bool x.rep, .bool x.noOffer].toArray 25 (0, 0)) := h
  have q := (heap_set_list (j := 11) (v := .bool y.noOffer) (heap_set_list (j := 10) (v := .bool y.rep) (heap_set_list (j := 9) (v := .int .i64 y.hold) (heap_set_list (j := 8) (v := .int .i64 y.seenNonce) (heap_set_list (j := 7) (v := .int .i64 y.seenLink) (heap_set_list (j := 6) (v := .int .i64 y.seen) (heap_set_list (j := 5) (v := .int .i64 y.nonce) (heap_set_list (j := 4) (v := .int .i64 y.link) (heap_set_list (j := 3) (v := .int .i64 y.mtu) (heap_set_list (j := 2) (v := .int .i64 y.pod) (heap_set_list (j := 1) (v := .int .i64 y.level) (heap_set_list (j := 0) (v := .int .i64 y.node) h'))))))))))))
  simp only [List.set_cons_zero, List.set_cons_succ] at q
  exact q
theorem OthP.put {U : World} {k : Nat} {x : OtherT} (h : OthP U k x) (y : OtherT) : OthP ((((U.setCell ⟨k, 0, none⟩ (.int .i64 y.node)).setCell ⟨k, 1, none⟩ (.int .i64 y.link)).setCell ⟨k, 2, none⟩ (.int .i64 y.level)).setCell ⟨k, 3, none⟩ (.int .i64 y.nonce)) k y := by
  have h' : U.heap[k]? = some (.cells [.int .i64 x.node, .int .i64 x.link, .int .i64 x.level, .int .i64 x.nonce].toArray 41 (0, 0)) := h
  have q := (heap_set_list (j := 3) (v := .int .i64 y.nonce) (heap_set_list (j := 2) (v := .int .i64 y.level) (heap_set_list (j := 1) (v := .int .i64 y.link) (heap_set_list (j := 0) (v := .int .i64 y.node) h'))))
  simp only [List.set_cons_zero, List.set_cons_succ] at q
  exact q
theorem results_row1 {P : Program} {fn : Func} {tmps : Array Value} {w : World} {a t b : Nat} {cs : List Value} {d : TypeDesc} (hf : fn.results = #[.cell a t]) (ha : tmps.getD a undef = .pointer (some ⟨b, 0, none⟩)) (hc : w.rangeAt b 0 cs)
    (hu : P.underlying t = some d) (hd : d.isRow = true) (hi : (P.info? t).map (·.size) = some cs.length) : (results fn tmps).run P w = .ok (.agg cs.toArray) w := by
  unfold results
  rw [hf]
  have h0 := run_loadVar_mid w b 0 t cs d hc hu hd hi
  have ha' : tmps[a]?.getD undef = .pointer (some ⟨b, 0, none⟩) := by simpa using ha
  simp [ha', asAddr, h0, Result.andThen_ok]
theorem results_row2 {P : Program} {fn : Func} {tmps : Array Value} {w : World} {a t s b : Nat} {cs : List Value} {d : TypeDesc} (hf : fn.results = #[.cell a t, .tmp s]) (ha : tmps.getD a undef = .pointer (some ⟨b, 0, none⟩)) (hc : w.rangeAt b 0 cs)
    (hu : P.underlying t = some d) (hd : d.isRow = true) (hi : (P.info? t).map (·.size) = some cs.length) : (results fn tmps).run P w = .ok (.tuple #[.agg cs.toArray, tmps.getD s undef]) w := by
  unfold results
  rw [hf]
  have h0 := run_loadVar_mid w b 0 t cs d hc hu hd hi
  have ha' : tmps[a]?.getD undef = .pointer (some ⟨b, 0, none⟩) := by simpa using ha
  simp [ha', asAddr, h0, Result.andThen_ok]
set_option maxHeartbeats 3200000 in
set_option maxRecDepth 100000 in
theorem port_any (p : PortT) (w : World) : Calls Try.prog 28 #[.agg #[.int .i64 p.node, .int .i64 p.level, .int .i64 p.pod, .int .i64 p.mtu, .int .i64 p.link, .int .i64 p.hold]] w fun e w' => Says e (portB p) ∧ Below w.heap.size w w' := by
  have hw := lwithin_any
  have hl := level_any
  go_enter Try.func28, Try.ntmps28
  go_wp2_with (first
    | (go_at_call 44; refine (hw _ _ _ _).mono ?_; rintro e w1 ⟨⟨x, rfl, hx⟩, rfl⟩; have HX := Lib.hid hx; clear hx)
    | (go_at_call 42; refine (hl _ _).mono ?_; rintro e w1 ⟨⟨x, rfl, hx⟩, rfl⟩; have HX := Lib.hid hx; clear hx))
  all_goals go_ret
  all_goals refine ⟨Says.of ?_, (Below.refl _ w).alloc (Nat.le_refl _) _⟩
  all_goals unfold portB
  all_goals simp_all [Hid]
  all_goals (try omega)
set_option maxHeartbeats 1600000 in
set_option maxRecDepth 100000 in
theorem new_none (p : PortT) (hp : ¬ portB p) (w : World) : Calls Try.prog 12 #[.agg #[.int .i64 p.node, .int .i64 p.level, .int .i64 p.pod, .int .i64 p.mtu, .int .i64 p.link, .int .i64 p.hold]] w fun e w' => e = .returned (.tuple #[.pointer none, .int .i64 1]) ∧ Below w.heap.size w w' := by
  have hw := fun w => (port_any p w).mono fun e w' h => (⟨h.1.dec, h.2⟩ : e = .returned (.bool (decide (portB p))) ∧ Below w.heap.size w w')
  rw [decide_eq_false hp] at hw
  have B0 : ∀ A : Obj, RowKit.Hid (Below w.heap.size w (w.alloc A)) := fun A => (Below.refl _ w).alloc (Nat.le_refl _) _
  clear hp
  go_enter Try.func12, Try.ntmps12
  go_wp2_with (go_at_call 28; refine (hw _).mono ?_; rintro e w1 ⟨rfl, hb⟩; have HB := Lib.hid hb; clear hb)
  go_ret2
  exact ⟨rfl, (B0 _).out.trans (HB.out.mono (by simp))⟩
def NewP (T : TypeId) (p : PortT) (w : World) (e : Ending) (w' : World) : Prop := ∃ b, e = .returned (.tuple #[.pointer (some ⟨b, 0, none⟩), .int .i64 0]) ∧ w.heap.size ≤ b ∧ EndP T w' b (newE p) ∧ Below w.heap.size w w'
theorem NewP.of {T : TypeId} {p : PortT} {w w1 : World} (h : Below w.heap.size w w1) : NewP T p w (.returned (.tuple #[.pointer (some ⟨w1.heap.size, 0, none⟩), .int .i64 0])) (w1.alloc (.cells #[.int .i64 p.node, .int .i64 p.level, .int .i64 p.pod, .int .i64 p.mtu, .int .i64 p.link, .int .i64 p.hold, .int .i64 0, .int .i64 1, .int .i64 0, .int .i64 0, .int .i64 0, .int .i64 0, .int .i64 0] T)) :=
  ⟨w1.heap.size, rfl, h.size, heap_alloc_new w1 _, h.alloc h.size _⟩
set_option maxHeartbeats 1600000 in
set_option maxRecDepth 100000 in
theorem new_some (p : PortT) (hp : portB p) (w : World) : Calls Try.prog 12 #[.agg #[.int .i64 p.node, .int .i64 p.level, .int .i64 p.pod, .int .i64 p.mtu, .int .i64 p.link, .int .i64 p.hold]] w (NewP 56 p w) := by
  have hw := fun w => (port_any p w).mono fun e w' h => (⟨h.1.dec, h.2⟩ : e = .returned (.bool (decide (portB p))) ∧ Below w.heap.size w w')
  rw [decide_eq_true hp] at hw
  have B0 : ∀ A : Obj, RowKit.Hid (Below w.heap.size w (w.alloc A)) := fun A => (Below.refl _ w).alloc (Nat.le_refl _) _
  have RG : RowKit.Hid (∀ w2, Below (w.heap.size + 1) (w.alloc (.cells #[.int .i64 p.node, .int .i64 p.level, .int .i64 p.pod, .int .i64 p.mtu, .int .i64 p.link, .int .i64 p.hold] 23)) w2 → w2.rangeAt w.heap.size 0 [.int .i64 p.node, .int .i64 p.level, .int .i64 p.pod, .int .i64 p.mtu, .int .i64 p.link, .int .i64 p.hold]) := fun w2 h => range_box (World.alloc_heap_new w _) h (Nat.lt_succ_self _)
  clear hp
  go_enter Try.func12, Try.ntmps12
  go_wp2_with (first
    | (go_at_call 28; refine (hw _).mono ?_; rintro e w1 ⟨rfl, hb⟩; have HB := Lib.hid hb; have RG1 := Lib.hid (RG.out w1 (by simpa using hb)); clear hb RG)
    | (refine wpList_load_mid rfl 23 (.tmp 1) rfl _ _ rfl _ _ RG1.out Try.underlying23 rfl (by kernel_rfl) ?_))
  go_ret2
  exact NewP.of ((B0 _).out.trans (HB.out.mono (by simp)))
set_option maxHeartbeats 1600000 in
set_option maxRecDepth 100000 in
theorem say_any {W : World} {b : Nat} {e : EndT} (h : EndP 56 W b e) : Calls Try.prog 22 #[.pointer (some ⟨b, 0, none⟩)] W fun en W' => en = .returned (.agg #[.int .i64 e.p.node, .int .i64 e.p.level, .int .i64 e.p.pod, .int .i64 e.p.mtu, .int .i64 e.p.link, .int .i64 e.nonce, .int .i64 e.o.node, .int .i64 e.o.link, .int .i64 e.o.nonce, .int .i64 e.p.hold, .bool false, .bool false]) ∧ Below W.heap.size W W' := by
  obtain ⟨C, hC⟩ : ∃ C, W.alloc (.cells #[.int .i64 0, .int .i64 0, .int .i64 0, .int .i64 0, .int .i64 0, .int .i64 0, .int .i64 0, .int .i64 0, .int .i64 0, .int .i64 0, .bool false, .bool false] 25) = C := ⟨_, rfl⟩
  obtain ⟨U, hU⟩ : ∃ U, C.drew = U := ⟨_, rfl⟩
  have h0 : EndP 56 U b e := h.same (by rw [← hU, ← hC]; exact heap_alloc_old W _ h.lt)
  have lu : LieP U W.heap.size LieT.zero := by rw [← hU, ← hC]; exact LieP.new W LieT.zero
  have bu : Below W.heap.size W U := by rw [← hU, ← hC]; exact ((Below.refl _ W).alloc (Nat.le_refl _) _).drew
  have hne := h0.ne_lie lu (by decide)
  have lz := lu.frozen
  obtain ⟨d0, d1, d2, d3, d4, d5, d6, d7, d8, d9, d10, d11⟩ := lu.all
  obtain ⟨c0, c1, c2, c3, c4, c5⟩ := h0.cells
  obtain ⟨c6, c7, c8, c9, c10, c11, c12⟩ := h0.cells2
  have HC := Lib.hid hC
  have HU := Lib.hid hU
  have LU := Lib.hid lu
  have BU := Lib.hid bu
  clear h h0 hC hU lu bu
  go_enter Try.func22, Try.ntmps22
  go_wp2
  rw [HC.out]
  refine region_tail 50 (by kernel_rfl) (by kernel_rfl) U HU.out ?_
  simp only [List.take_succ_cons, List.take_zero, List.drop_succ_cons, List.drop_zero]
  repeat still_step
  refine wpStill_nil ?_
  go_wp2
  refine bodyPost_ret (results_row1 (cs := [.int .i64 e.p.node, .int .i64 e.p.level, .int .i64 e.p.pod, .int .i64 e.p.mtu, .int .i64 e.p.link, .int .i64 e.nonce, .int .i64 e.o.node, .int .i64 e.o.link, .int .i64 e.o.nonce, .int .i64 e.p.hold, .bool false, .bool false]) rfl rfl (LieP.range (LU.out.put (sayE e))) Try.underlying25 rfl (by kernel_rfl)) rfl ?_
  exact ⟨rfl, ((((((((((((BU.out.setCell (p := ⟨W.heap.size, 0, none⟩) (Nat.le_refl _) _).setCell (p := ⟨W.heap.size, 1, none⟩) (Nat.le_refl _) _).setCell (p := ⟨W.heap.size, 2, none⟩) (Nat.le_refl _) _).setCell (p := ⟨W.heap.size, 3, none⟩) (Nat.le_refl _) _).setCell (p := ⟨W.heap.size, 4, none⟩) (Nat.le_refl _) _).setCell (p := ⟨W.heap.size, 5, none⟩) (Nat.le_refl _) _).setCell (p := ⟨W.heap.size, 6, none⟩) (Nat.le_refl _) _).setCell (p := ⟨W.heap.size, 7, none⟩) (Nat.le_refl _) _).setCell (p := ⟨W.heap.size, 8, none⟩) (Nat.le_refl _) _).setCell (p := ⟨W.heap.size, 9, none⟩) (Nat.le_refl _) _).setCell (p := ⟨W.heap.size, 10, none⟩) (Nat.le_refl _) _).setCell (p := ⟨W.heap.size, 11, none⟩) (Nat.le_refl _) _)⟩
set_option maxHeartbeats 1600000 in
set_option maxRecDepth 100000 in
theorem other_any {W : World} {b : Nat} {e : EndT} (h : EndP 56 W b e) (hi : InvE e) : Calls Try.prog 20 #[.pointer (some ⟨b, 0, none⟩)] W fun en W' => en = .returned (.tuple #[.agg #[.int .i64 e.o.node, .int .i64 e.o.link, .int .i64 e.o.level, .int .i64 e.o.nonce], .bool (decide (e.o.node ≠ 0))]) ∧ Below W.heap.size W W' := by
  obtain ⟨C, hC⟩ : ∃ C, W.alloc (.cells #[.int .i64 0, .int .i64 0, .int .i64 0, .int .i64 0] 41) = C := ⟨_, rfl⟩
  obtain ⟨U, hU⟩ : ∃ U, C.drew = U := ⟨_, rfl⟩
  have h0 : EndP 56 U b e := h.same (by rw [← hU, ← hC]; exact heap_alloc_old W _ h.lt)
  have lu : OthP U W.heap.size OtherT.zero := by rw [← hU, ← hC]; exact heap_alloc_new W _
  have bu : Below W.heap.size W U := by rw [← hU, ← hC]; exact ((Below.refl _ W).alloc (Nat.le_refl _) _).drew
  have hh := hears_any h0 hi
  have hlt := h.lt
  have hne : W.heap.size ≠ b := by omega
  have lz := lu.frozen
  obtain ⟨d0, d1, d2, d3⟩ := lu.all
  obtain ⟨c0, c1, c2, c3, c4, c5⟩ := h0.cells
  obtain ⟨c6, c7, c8, c9, c10, c11, c12⟩ := h0.cells2
  have HC := Lib.hid hC
  have HU := Lib.hid hU
  have OU := Lib.hid lu
  have BU := Lib.hid bu
  generalize decide (e.o.node ≠ 0) = hr at *
  clear h h0 hC hU lu bu hi hlt
  go_enter Try.func20, Try.ntmps20
  go_wp2
  rw [HC.out]
  refine region_tail 6 (by kernel_rfl) (by kernel_rfl) U HU.out ?_
  simp only [List.take_succ_cons, List.take_zero, List.drop_succ_cons, List.drop_zero]
  repeat (first | still_step | still_call hh)
  refine wpStill_nil ?_
  go_wp2
  refine bodyPost_ret (results_row2 (cs := [.int .i64 e.o.node, .int .i64 e.o.link, .int .i64 e.o.level, .int .i64 e.o.nonce]) rfl rfl (OthP.range (OU.out.put e.o)) Try.underlying41 rfl (by kernel_rfl)) rfl ?_
  exact ⟨rfl, ((((BU.out.setCell (p := ⟨W.heap.size, 0, none⟩) (Nat.le_refl _) _).setCell (p := ⟨W.heap.size, 1, none⟩) (Nat.le_refl _) _).setCell (p := ⟨W.heap.size, 2, none⟩) (Nat.le_refl _) _).setCell (p := ⟨W.heap.size, 3, none⟩) (Nat.le_refl _) _)⟩
set_option maxHeartbeats 1600000 in
set_option maxRecDepth 100000 in
theorem tick_any {W : World} {b : Nat} {e : EndT} (h : EndP 56 W b e) (now : Int) : Calls Try.prog 16 #[.pointer (some ⟨b, 0, none⟩), .int .i64 now] W fun en W' => en = .returned (.int .i64 (tickE e now).1) ∧ EndP 56 W' b (tickE e now).2 ∧ But b W W' := by
  have ht := fun W => (time_any now W).mono fun e w' h => (⟨h.1.dec, h.2⟩ : e = .returned (.bool (decide (timeB now))) ∧ w' = W)
  have H := Lib.hid h
  have fz := h.frozen
  obtain ⟨c0, c1, c2, c3, c4, c5⟩ := h.cells
  obtain ⟨c6, c7, c8, c9, c10, c11, c12⟩ := h.cells2
  have hlt := h.lt
  have hne : b ≠ W.heap.size := by omega
  have hne2 : W.heap.size ≠ b := by omega
  clear h
  by_cases k : timeB now
  · rw [decide_eq_true k] at ht
    have hn := next_any e.nonce
    obtain ⟨C, hC⟩ : ∃ C, W.setCell ⟨b, 7, none⟩ (.int .i64 (nextN e.nonce)) = C := ⟨_, rfl⟩
    have ec : EndP 56 C b { e with nonce := nextN e.nonce } := by rw [← hC]; exact heap_setCell_same _ b _ _ _ _ H.out
    have bc : But b W C := by rw [← hC]; exact (But.refl b W).set _ _
    have hf := forget_any ec 0
    have EC := Lib.hid ec
    have BC := Lib.hid bc
    have HC := Lib.hid hC
    by_cases k1 : e.s ≠ 0
    · by_cases k2 : e.till ≤ now
      · have K : RowKit.Hid (tickE e now = (0, fallE { e with nonce := nextN e.nonce } 0)) := by unfold Hid tickE; rw [if_neg (by simpa using k), if_pos ⟨k1, k2⟩]
        clear k ec bc hC
        go_enter Try.func16, Try.ntmps16
        go_wp2_with (first
          | (go_at_call 30; refine (ht _).mono ?_; rintro en w1 ⟨rfl, rfl⟩)
          | (go_at_call 40; refine (hn _).mono ?_; rintro en w1 ⟨hen, rfl⟩; unfold Tells at hen; subst hen)
          | (go_at_call 33; rw [HC.out]; refine hf.mono ?_; rintro en w2 ⟨rfl, h1, h2⟩; have H1 := Lib.hid h1; have H2 := Lib.hid h2; clear h1 h2))
        go_ret
        rw [K.out]
        exact ⟨rfl, H1.out, BC.out.trans H2.out⟩
      · have K : RowKit.Hid (tickE e now = (0, { e with nonce := nextN e.nonce })) := by unfold Hid tickE; rw [if_neg (by simpa using k), if_neg (fun h => k2 h.2)]
        clear k ec bc hC hf
        go_enter Try.func16, Try.ntmps16
        go_wp2_with (first
          | (go_at_call 30; refine (ht _).mono ?_; rintro en w1 ⟨rfl, rfl⟩)
          | (go_at_call 40; refine (hn _).mono ?_; rintro en w1 ⟨hen, rfl⟩; unfold Tells at hen; subst hen))
        go_ret
        rw [K.out, HC.out]
        exact ⟨rfl, EC.out, BC.out⟩
    · have K : RowKit.Hid (tickE e now = (0, { e with nonce := nextN e.nonce })) := by unfold Hid tickE; rw [if_neg (by simpa using k), if_neg (fun h => k1 h.1)]
      have k0 : e.s = 0 := by omega
      rw [k0] at c6
      clear k k1 k0 ec bc hC hf
      go_enter Try.func16, Try.ntmps16
      go_wp2_with (first
        | (go_at_call 30; refine (ht _).mono ?_; rintro en w1 ⟨rfl, rfl⟩)
        | (go_at_call 40; refine (hn _).mono ?_; rintro en w1 ⟨hen, rfl⟩; unfold Tells at hen; subst hen))
      go_ret
      rw [K.out, HC.out]
      exact ⟨rfl, EC.out, BC.out⟩
  · rw [decide_eq_false k] at ht
    have K : RowKit.Hid (tickE e now = (1, e)) := by unfold Hid tickE; rw [if_pos k]
    clear k
    go_enter Try.func16, Try.ntmps16
    go_wp2_with (go_at_call 30; refine (ht _).mono ?_; rintro en w1 ⟨rfl, rfl⟩)
    go_ret
    rw [K.out]
    exact ⟨rfl, H.out, But.refl b _⟩
set_option maxHeartbeats 1600000 in
set_option maxRecDepth 100000 in
theorem levelE_any {W : World} {b : Nat} {e : EndT} (h : EndP 56 W b e) (l : Int) : Calls Try.prog 18 #[.pointer (some ⟨b, 0, none⟩), .int .i64 l] W fun en W' => en = .returned (.int .i64 (levelE e l).1) ∧ EndP 56 W' b (levelE e l).2 ∧ But b W W' := by
  have ht := fun W => (level_any l W).mono fun e w' h => (⟨h.1.dec, h.2⟩ : e = .returned (.bool (decide (-1 ≤ l ∧ l ≤ 24))) ∧ w' = W)
  have H := Lib.hid h
  have fz := h.frozen
  obtain ⟨c0, c1, c2, c3, c4, c5⟩ := h.cells
  obtain ⟨c6, c7, c8, c9, c10, c11, c12⟩ := h.cells2
  have hlt := h.lt
  have hne : b ≠ W.heap.size := by omega
  have hne2 : W.heap.size ≠ b := by omega
  clear h
  by_cases k : -1 ≤ l ∧ l ≤ 24
  · rw [decide_eq_true k] at ht
    by_cases k1 : l = e.p.level
    · have K : RowKit.Hid (levelE e l = (0, e)) := by unfold Hid levelE; rw [if_neg (by simpa using k), if_pos k1]
      rw [← k1] at c1
      clear k k1
      go_enter Try.func18, Try.ntmps18
      go_wp2_with (go_at_call 42; refine (ht _).mono ?_; rintro en w1 ⟨rfl, rfl⟩)
      go_ret
      rw [K.out]
      exact ⟨rfl, H.out, But.refl b _⟩
    · obtain ⟨C, hC⟩ : ∃ C, W.setCell ⟨b, 1, none⟩ (.int .i64 l) = C := ⟨_, rfl⟩
      have ec : EndP 56 C b { e with p := { e.p with level := l } } := by rw [← hC]; exact heap_setCell_same _ b _ _ _ _ H.out
      have bc : But b W C := by rw [← hC]; exact (But.refl b W).set _ _
      have hf := forget_any ec 0
      have BC := Lib.hid bc
      have HC := Lib.hid hC
      have K : RowKit.Hid (levelE e l = (0, fallE { e with p := { e.p with level := l } } 0)) := by unfold Hid levelE; rw [if_neg (by simpa using k), if_neg k1]
      clear k ec bc hC
      go_enter Try.func18, Try.ntmps18
      go_wp2_with (first
        | (go_at_call 42; refine (ht _).mono ?_; rintro en w1 ⟨rfl, rfl⟩)
        | (go_at_call 33; rw [HC.out]; refine hf.mono ?_; rintro en w2 ⟨rfl, h1, h2⟩; have H1 := Lib.hid h1; have H2 := Lib.hid h2; clear h1 h2))
      go_ret
      rw [K.out]
      exact ⟨rfl, H1.out, BC.out.trans H2.out⟩
  · rw [decide_eq_false k] at ht
    have K : RowKit.Hid (levelE e l = (1, e)) := by unfold Hid levelE; rw [if_pos k]
    clear k
    go_enter Try.func18, Try.ntmps18
    go_wp2_with (go_at_call 42; refine (ht _).mono ?_; rintro en w1 ⟨rfl, rfl⟩)
    go_ret
    rw [K.out]
    exact ⟨rfl, H.out, But.refl b _⟩
end Go.Proofs.Yticbfmbinopjcaa
