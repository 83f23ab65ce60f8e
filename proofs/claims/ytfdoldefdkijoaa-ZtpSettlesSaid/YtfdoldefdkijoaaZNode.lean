/-
  THE PROGRAM'S NODE: its memory; its leaves; New, Level, Best.
-/
import Derived.Test.YtfdoldefdkijoaaZMap
import Derived.Test.YtfdoldefdkijoaaZDo
namespace Go.Proofs.Ytfdoldefdkijoaa
set_option linter.unusedSimpArgs false
set_option linter.unusedVariables false
open Go.ChangeMaps Go.MapKept Go.Maps Go.RowKit
def fixP (z : ZtT) : Int := if 0 ≤ z.fixed then z.fixed else if z.leaf = true then 0 else if z.top = true then 24 else z.fixed
def tillP (z : ZtT) : Int := if z.down = true then z.till else 0
theorem fix_own (z : ZtT) : decide (fixP z < 0) = ownZ z := by
  unfold fixP ownZ
  by_cases h : 0 ≤ z.fixed
  · rw [if_pos h]
    simp [show ¬ z.fixed < 0 by omega]
  · rw [if_neg h]
    cases z.leaf <;> cases z.top <;> simp <;> omega
theorem fix_level {z : ZtT} (h : kindB z.fixed z.leaf z.top) : levelZ z = if ownZ z = true then z.taken - 1 else fixP z := by
  unfold kindB at h
  unfold levelZ ownZ fixP
  by_cases h0 : 0 ≤ z.fixed
  · rw [if_pos h0, if_pos h0]
    simp [show ¬ z.fixed < 0 by omega]
  · rw [if_neg h0, if_neg h0]
    have : decide (z.fixed < 0) = true := decide_eq_true (by omega)
    rw [this]
    cases hl : z.leaf <;> cases ht : z.top
    all_goals simp
    have := h.2.2.2 hl
    rw [ht] at this
    cases this
structure PZ (W : World) (base pb mb : Nat) (z : ZtT) : Prop where
  box : W.heap[pb]? = some (.cells #[.int .i64 (fixP z), .map (some mb), .int .i64 z.taken, .int .i64 (tillP z)] 46 (0, 0))
  map : MapZ W mb z.L
  lp : base ≤ pb
  lm : base ≤ mb
  base : base ≤ W.heap.size
  held : z.down = true → z.taken = 0
def ProgZ (W : World) (base pb : Nat) (z : ZtT) : Prop := ∃ mb, PZ W base pb mb z
/-- All cells but those of a node are as they were. -/
def KeepP (W W' : World) : Prop := W.heap.size ≤ W'.heap.size ∧ ∀ (i : Nat) (cs : Array Value) (T : TypeId) (fr : Nat × Nat), T ≠ 46 → W.heap[i]? = some (.cells cs T fr) → W'.heap[i]? = some (.cells cs T fr)
theorem KeepP.refl (W : World) : KeepP W W := ⟨Nat.le_refl _, fun _ _ _ _ _ h => h⟩
theorem KeepP.trans {X Y Z : World} (h : KeepP X Y) (k : KeepP Y Z) : KeepP X Z := ⟨Nat.le_trans h.1 k.1, fun i cs T fr hT hc => k.2 i cs T fr hT (h.2 i cs T fr hT hc)⟩
theorem KeepP.below {X Y : World} (h : Below X.heap.size X Y) : KeepP X Y := ⟨h.size, fun i _ _ _ _ hc => (h.block i (Array.getElem?_eq_some_iff.1 hc).1).trans hc⟩
theorem KeepP.setCell {X : World} {b i : Nat} {cs : Array Value} {fr : Nat × Nat} (hb : X.heap[b]? = some (.cells cs 46 fr)) (v : Value) : KeepP X (X.setCell ⟨b, i, none⟩ v) :=
  ⟨by simp, fun k ds U fs hU hc => by
    have hne : k ≠ b := fun e => by rw [e, hb] at hc; injection hc with hc; injection hc with _ h2 _; exact hU h2.symm
    rw [heap_setCell_other _ _ _ _ hne]; exact hc⟩
theorem KeepP.turned {X Y : World} {b : Nat} (h : X.mapTurned Y b) : KeepP X Y := by
  obtain ⟨es, c, es', c', hb, rfl⟩ := h
  refine ⟨by simp [setBlock], fun i cs T fr _ hc => ?_⟩
  have hne : i ≠ b := fun e => by rw [e, hb] at hc; cases hc
  exact (heap_setBlock_other hb _ hne).trans hc
theorem turned_size {X Y : World} {b : Nat} (h : X.mapTurned Y b) : Y.heap.size = X.heap.size := by
  obtain ⟨es, c, es', c', hb, rfl⟩ := h
  simp [setBlock]
theorem turned_below {X Y A : World} {b base : Nat} (h : X.mapTurned Y b) (k : Below base A X) (hb : base ≤ b) (hs : base ≤ X.heap.size) : Below base A Y :=
  k.grown h.grown hs fun j e => by injection e with e; omega
theorem turned_other {X Y : World} {b i : Nat} (h : X.mapTurned Y b) (hi : i ≠ b) : Y.heap[i]? = X.heap[i]? := by
  obtain ⟨es, c, es', c', hb, rfl⟩ := h
  exact heap_setBlock_other hb _ hi
/-- How a call on the program's node ends. -/
def PEnd (w : World) (base pb : Nat) (z : ZtT) (w' : World) : Prop := ProgZ w' base pb z ∧ Below base w w' ∧ KeepP w w'
section
variable {w W : World} {base pb mb : Nat} {z : ZtT}
theorem PZ.lt (h : PZ w base pb mb z) : pb < w.heap.size := (Array.getElem?_eq_some_iff.1 h.box).1
theorem PZ.ne (h : PZ w base pb mb z) : pb ≠ mb := by
  intro e
  obtain ⟨es, c, hm⟩ := h.map.isMap
  have := h.box
  rw [e, hm] at this
  cases this
theorem PZ.cells (h : PZ w base pb mb z) : w.cell? ⟨pb, 0, none⟩ = some (.int .i64 (fixP z)) ∧ w.cell? ⟨pb, 1, none⟩ = some (.map (some mb)) ∧ w.cell? ⟨pb, 2, none⟩ = some (.int .i64 z.taken) ∧ w.cell? ⟨pb, 3, none⟩ = some (.int .i64 (tillP z)) := by
  have hb := h.box
  simp [World.cell?, hb]
theorem PZ.frozen (h : PZ w base pb mb z) (j : Nat) : w.frozen? ⟨pb, j, none⟩ = false := by
  have hb := h.box
  simp [World.frozen?, hb]
theorem PZ.below (h : PZ w base pb mb z) (k : Below w.heap.size w W) : PZ W base pb mb z := ⟨(k.block pb h.lt).trans h.box, h.map.same (k.block mb h.map.lt), h.lp, h.lm, Nat.le_trans h.base k.size, h.held⟩
theorem PZ.same (h : PZ w base pb mb z) (h1 : W.heap[pb]? = w.heap[pb]?) (h2 : W.heap[mb]? = w.heap[mb]?) (h3 : w.heap.size ≤ W.heap.size) : PZ W base pb mb z := ⟨h1.trans h.box, h.map.same h2, h.lp, h.lm, Nat.le_trans h.base h3, h.held⟩
theorem ProgZ.below (h : ProgZ w base pb z) (k : Below w.heap.size w W) : ProgZ W base pb z := by
  obtain ⟨mb, h⟩ := h
  exact ⟨mb, h.below k⟩
theorem ProgZ.keep (h : ProgZ w base pb z) {ts : List TypeId} (k : KeepO ts w W) (ht : 46 ∉ ts) : ProgZ W base pb z := by
  obtain ⟨mb, h⟩ := h
  obtain ⟨es, c, hm⟩ := h.map.isMap
  exact ⟨mb, h.same ((k.2 _ _ (show NotT ts (Obj.cells #[.int .i64 (fixP z), .map (some mb), .int .i64 z.taken, .int .i64 (tillP z)] 46 (0, 0)) from ht) h.box).trans h.box.symm) ((k.2 _ _ (show NotT ts (Obj.map es c) from trivial) hm).trans hm.symm) k.1⟩
theorem RefZ.keep {rb : Nat} (h : RefZ w base rb z) (k : KeepP w W) : RefZ W base rb z := by
  obtain ⟨v, h⟩ := h
  refine ⟨v, h.same k.1 fun i cs T fr hT hc => k.2 i cs T fr (fun e => ?_) hc⟩
  rcases hT with hT | hT
  · rw [hT] at e; exact absurd e (by decide)
  · rw [hT] at e; exact absurd e (by decide)
theorem PZ.pend (h : PZ w base pb mb z) (k : Below w.heap.size w W) : PEnd w base pb z W := ⟨⟨mb, h.below k⟩, k.mono h.base, KeepP.below k⟩
theorem PZ.turn {X Y : World} {L : List OffT} (h : PZ w base pb mb z) (k : Below w.heap.size w X) (ht : X.mapTurned Y mb) (hm : MapZ Y mb L) : PEnd w base pb { z with L := L } Y := by
  have q := h.below k
  refine ⟨⟨mb, (turned_other ht q.ne).trans q.box, hm, h.lp, h.lm, by rw [turned_size ht]; exact q.base, h.held⟩, turned_below ht (k.mono h.base) h.lm q.base, (KeepP.below k).trans (KeepP.turned ht)⟩
set_option maxHeartbeats 800000 in
set_option maxRecDepth 100000 in
theorem within_any (n a b : Int) (w : World) : Calls Try.prog 23 #[.int .i64 n, .int .i64 a, .int .i64 b] w fun e w' => e = .returned (.bool (decide (a ≤ n ∧ n ≤ b))) ∧ w' = w := by
  by_cases h1 : a ≤ n
  · by_cases h2 : n ≤ b
    · rw [decide_eq_true (show a ≤ n ∧ n ≤ b from ⟨h1, h2⟩)]
      go_enter Try.func23, Try.ntmps23
      go_wp2
      go_ret
      exact ⟨by simp [h1, h2], rfl⟩
    · rw [decide_eq_false (show ¬ (a ≤ n ∧ n ≤ b) from fun q => h2 q.2)]
      go_enter Try.func23, Try.ntmps23
      go_wp2
      go_ret
      exact ⟨by simp [h1, h2], rfl⟩
  · rw [decide_eq_false (show ¬ (a ≤ n ∧ n ≤ b) from fun q => h1 q.1)]
    go_enter Try.func23, Try.ntmps23
    go_wp2
    go_ret
    exact ⟨by simp [h1], rfl⟩
set_option maxHeartbeats 800000 in
set_option maxRecDepth 100000 in
theorem plevelOk_any (n : Int) (w : World) : Calls Try.prog 22 #[.int .i64 n] w fun e w' => e = .returned (.bool (decide (-1 ≤ n ∧ n ≤ 24))) ∧ w' = w := by
  have hw := within_any n (-1) 24 w
  go_enter Try.func22, Try.ntmps22
  go_wp2_with (go_at_call 23; refine hw.mono ?_; rintro e w1 ⟨rfl, rfl⟩)
  go_ret
  have hb : (decide (-1 ≤ n) && decide (n ≤ 24)) = decide (-1 ≤ n ∧ n ≤ 24) := by rw [Bool.eq_iff_iff]; simp
  exact ⟨congrArg (fun b => Ending.returned (.bool b)) hb, rfl⟩
set_option maxHeartbeats 800000 in
set_option maxRecDepth 100000 in
theorem ptimeOk_any (n : Int) (w : World) : Calls Try.prog 24 #[.int .i64 n] w fun e w' => e = .returned (.bool (decide (momB n))) ∧ w' = w := by
  have hw := within_any n 0 1099511627776 w
  go_enter Try.func24, Try.ntmps24
  go_wp2_with (go_at_call 23; refine hw.mono ?_; rintro e w1 ⟨rfl, rfl⟩)
  go_ret
  have hb : (decide (0 ≤ n) && decide (n ≤ 1099511627776)) = decide (momB n) := by
    by_cases h : momB n
    · rw [decide_eq_true h, decide_eq_true h.1, decide_eq_true h.2]; rfl
    · rw [decide_eq_false h]
      by_cases h1 : 0 ≤ n
      · rw [decide_eq_false (fun q => h ⟨h1, q⟩), Bool.and_false]
      · rw [decide_eq_false h1, Bool.false_and]
  exact ⟨congrArg (fun b => Ending.returned (.bool b)) hb, rfl⟩
set_option maxHeartbeats 800000 in
set_option maxRecDepth 100000 in
theorem pown_any (h : ProgZ w base pb z) : Calls Try.prog 26 #[.pointer (some ⟨pb, 0, none⟩)] w fun e w' => e = .returned (.bool (ownZ z)) ∧ w' = w := by
  obtain ⟨mb, h⟩ := h
  obtain ⟨c0, c1, c2, c3⟩ := h.cells
  clear h
  rw [← fix_own]
  generalize fixP z = f at *
  go_enter Try.func26, Try.ntmps26
  go_wp2
  go_ret
  exact ⟨rfl, rfl⟩
set_option maxHeartbeats 800000 in
set_option maxRecDepth 100000 in
theorem plevel_any (h : ProgZ w base pb z) (hi : InvZ z) : Calls Try.prog 16 #[.pointer (some ⟨pb, 0, none⟩)] w fun e w' => e = .returned (.int .i64 (levelZ z)) ∧ w' = w := by
  have ho := pown_any h
  obtain ⟨mb, h⟩ := h
  obtain ⟨c0, c1, c2, c3⟩ := h.cells
  clear h
  rw [fix_level hi.kind]
  have e1 : -9223372036854775808 ≤ z.taken - 1 ∧ z.taken - 1 ≤ 9223372036854775807 := by have := hi.tk; omega
  clear hi
  generalize fixP z = f at *
  generalize ownZ z = o at *
  cases o
  all_goals (go_enter Try.func16, Try.ntmps16)
  all_goals (go_wp2_with (go_at_call 26; refine ho.mono ?_; rintro e w1 ⟨rfl, rfl⟩))
  all_goals go_ret
  all_goals exact ⟨rfl, rfl⟩
end
end Go.Proofs.Ytfdoldefdkijoaa
