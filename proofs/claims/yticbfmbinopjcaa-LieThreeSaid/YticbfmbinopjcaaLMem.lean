/-
  ENDS in memory: a block of thirteen cells; what leaves all other blocks as they are; forget, hears.
-/
import Derived.Test.YticbfmbinopjcaaLMath
import Derived.WalkKit
import Derived.Lib.Hide
import Derived.Below
import Derived.BigQuiet
import Derived.BigRegion
import Derived.Deep.QuietTactic
import Derived.StillTailTactics
import Derived.Laws.Rows
import Derived.IntWalk
namespace Go.Proofs.Yticbfmbinopjcaa
set_option linter.unusedSimpArgs false
set_option linter.unusedVariables false
open Go.RowKit
/-- A block that holds an end (T: its type). -/
def EndP (T : TypeId) (W : World) (b : Nat) (e : EndT) : Prop := W.heap[b]? = some (.cells #[.int .i64 e.p.node, .int .i64 e.p.level, .int .i64 e.p.pod, .int .i64 e.p.mtu, .int .i64 e.p.link, .int .i64 e.p.hold, .int .i64 e.s, .int .i64 e.nonce, .int .i64 e.o.node, .int .i64 e.o.link, .int .i64 e.o.level, .int .i64 e.o.nonce, .int .i64 e.till] T (0, 0))
section
variable {T : TypeId} {W W' : World} {b : Nat} {e : EndT}
theorem EndP.lt (h : EndP T W b e) : b < W.heap.size := (Array.getElem?_eq_some_iff.1 h).1
theorem EndP.same (h : EndP T W b e) (q : W'.heap[b]? = W.heap[b]?) : EndP T W' b e := q.trans h
theorem EndP.frozen (h : EndP T W b e) (j : Nat) : W.frozen? ⟨b, j, none⟩ = false := by
  unfold EndP at h
  simp [World.frozen?, h]
theorem EndP.cells (h : EndP T W b e) : W.cell? ⟨b, 0, none⟩ = some (.int .i64 e.p.node) ∧ W.cell? ⟨b, 1, none⟩ = some (.int .i64 e.p.level) ∧ W.cell? ⟨b, 2, none⟩ = some (.int .i64 e.p.pod) ∧ W.cell? ⟨b, 3, none⟩ = some (.int .i64 e.p.mtu) ∧ W.cell? ⟨b, 4, none⟩ = some (.int .i64 e.p.link) ∧ W.cell? ⟨b, 5, none⟩ = some (.int .i64 e.p.hold) := by
  unfold EndP at h
  simp [World.cell?, h]
theorem EndP.cells2 (h : EndP T W b e) : W.cell? ⟨b, 6, none⟩ = some (.int .i64 e.s) ∧ W.cell? ⟨b, 7, none⟩ = some (.int .i64 e.nonce) ∧ W.cell? ⟨b, 8, none⟩ = some (.int .i64 e.o.node) ∧ W.cell? ⟨b, 9, none⟩ = some (.int .i64 e.o.link) ∧ W.cell? ⟨b, 10, none⟩ = some (.int .i64 e.o.level) ∧ W.cell? ⟨b, 11, none⟩ = some (.int .i64 e.o.nonce) ∧ W.cell? ⟨b, 12, none⟩ = some (.int .i64 e.till) := by
  unfold EndP at h
  simp [World.cell?, h]
end
/-- All blocks but one are as they were. -/
structure But (b : Nat) (W W' : World) : Prop where
  os : W'.os = W.os
  tape : W'.tape = W.tape
  output : W'.output = W.output
  size : W.heap.size ≤ W'.heap.size
  block : ∀ i, i < W.heap.size → i ≠ b → W'.heap[i]? = W.heap[i]?
theorem bel_drawn {B : Nat} {W W' : World} (h : Below B W W') (n : Nat) : Below B W (W'.drewN n) := ⟨h.os, h.tape, h.output, h.size, h.block⟩
theorem But.refl (b : Nat) (W : World) : But b W W := ⟨rfl, rfl, rfl, Nat.le_refl _, fun _ _ _ => rfl⟩
theorem But.trans {b : Nat} {X Y Z : World} (h : But b X Y) (k : But b Y Z) : But b X Z :=
  ⟨k.os.trans h.os, k.tape.trans h.tape, k.output.trans h.output, Nat.le_trans h.size k.size, fun i hi a => (k.block i (Nat.lt_of_lt_of_le hi h.size) a).trans (h.block i hi a)⟩
theorem But.of_below {b : Nat} {X Y : World} (h : Below X.heap.size X Y) : But b X Y := ⟨h.os, h.tape, h.output, h.size, fun i hi _ => h.block i hi⟩
theorem But.below {b base : Nat} {X Y : World} (h : But b X Y) (h1 : base ≤ b) (h4 : base ≤ X.heap.size) : Below base X Y :=
  ⟨h.os, h.tape, h.output, h.size, fun i hi => h.block i (by omega) (by omega)⟩
theorem But.drewN {b : Nat} {X Y : World} (h : But b X Y) (n : Nat) : But b X (Y.drewN n) := ⟨h.os, h.tape, h.output, h.size, h.block⟩
theorem But.set {b : Nat} {X Y : World} (h : But b X Y) (i : Nat) (v : Value) : But b X (Y.setCell ⟨b, i, none⟩ v) :=
  h.trans ⟨rfl, rfl, rfl, by simp, fun j _ hj => heap_setCell_other _ _ _ _ hj⟩
theorem But.alloc {b : Nat} {X Y : World} (h : But b X Y) (o : Obj) : But b X (Y.alloc o) := h.trans (But.of_below ((Below.refl _ _).alloc (Nat.le_refl _) o))
set_option maxHeartbeats 800000 in
set_option maxRecDepth 100000 in
theorem forget_any {W : World} {b : Nat} {e : EndT} (h : EndP 56 W b e) (s : Int) : Calls Try.prog 33 #[.pointer (some ⟨b, 0, none⟩), .int .i64 s] W fun en W' => en = .returned (.tuple #[]) ∧ EndP 56 W' b (fallE e s) ∧ But b W W' := by
  have fz := h.frozen
  obtain ⟨c0, c1, c2, c3, c4, c5⟩ := h.cells
  obtain ⟨c6, c7, c8, c9, c10, c11, c12⟩ := h.cells2
  have H := Lib.hid h
  clear h
  go_enter Try.func33, Try.ntmps33
  go_wp2
  go_end0
  exact ⟨rfl, heap_setCell_same _ b _ _ _ _ (heap_setCell_same _ b _ _ _ _ (heap_setCell_same _ b _ _ _ _ (heap_setCell_same _ b _ _ _ _ (heap_setCell_same _ b _ _ _ _ H.out)))), (((((But.refl b W).set _ _).set _ _).set _ _).set _ _).set _ _⟩
def OtherT.nil (o : OtherT) : Bool := decide (o.node = 0 ∧ o.link = 0 ∧ o.level = 0 ∧ o.nonce = 0)
theorem eq_other (x : OtherT) (W : World) : (Op.equalIn 10000 41 (.agg #[.int .i64 x.node, .int .i64 x.link, .int .i64 x.level, .int .i64 x.nonce]) (.agg #[.int .i64 0, .int .i64 0, .int .i64 0, .int .i64 0])).run Try.prog W = .ok x.nil W := by
  go_simp
  repeat' split
  all_goals simp_all [OtherT.nil]
theorem nil_of {e : EndT} (h : InvE e) : e.o.nil = decide (e.o.node = 0) := by
  unfold OtherT.nil
  rcases h.o with h1 | h1
  · rw [h1]; rfl
  · have : ¬ e.o.node = 0 := by omega
    simp [this]
section
attribute [local go_sem high] eq_other
set_option maxHeartbeats 800000 in
set_option maxRecDepth 100000 in
theorem hears_nil {W : World} {b : Nat} {e : EndT} (h : EndP 56 W b e) : Calls Try.prog 34 #[.pointer (some ⟨b, 0, none⟩)] W fun en W' => en = .returned (.bool (!e.o.nil)) ∧ W' = W := by
  have fz := h.frozen
  obtain ⟨c0, c1, c2, c3, c4, c5⟩ := h.cells
  obtain ⟨c6, c7, c8, c9, c10, c11, c12⟩ := h.cells2
  clear h
  go_enter Try.func34, Try.ntmps34
  go_wp2
  go_ret
  exact ⟨rfl, rfl⟩
end
theorem hears_any {W : World} {b : Nat} {e : EndT} (h : EndP 56 W b e) (hi : InvE e) : Calls Try.prog 34 #[.pointer (some ⟨b, 0, none⟩)] W fun en W' => en = .returned (.bool (decide (e.o.node ≠ 0))) ∧ W' = W := by
  have := hears_nil h
  rw [nil_of hi] at this
  simpa using this
set_option maxHeartbeats 800000 in
set_option maxRecDepth 100000 in
theorem state_any {W : World} {b : Nat} {e : EndT} (h : EndP 56 W b e) : Calls Try.prog 21 #[.pointer (some ⟨b, 0, none⟩)] W fun en W' => en = .returned (.int .i64 e.s) ∧ W' = W := by
  have fz := h.frozen
  obtain ⟨c0, c1, c2, c3, c4, c5⟩ := h.cells
  obtain ⟨c6, c7, c8, c9, c10, c11, c12⟩ := h.cells2
  clear h
  go_enter Try.func21, Try.ntmps21
  go_wp2
  go_ret
  exact ⟨rfl, rfl⟩
/-- A block that holds a lie. -/
def LieP (W : World) (k : Nat) (x : LieT) : Prop := W.heap[k]? = some (.cells #[.int .i64 x.node, .int .i64 x.level, .int .i64 x.pod, .int .i64 x.mtu, .int .i64 x.link, .int .i64 x.nonce, .int .i64 x.seen, .int .i64 x.seenLink, .int .i64 x.seenNonce, .int .i64 x.hold, .bool x.rep, .bool x.noOffer] 25 (0, 0))
theorem LieP.lt {W : World} {k : Nat} {x : LieT} (h : LieP W k x) : k < W.heap.size := (Array.getElem?_eq_some_iff.1 h).1
theorem LieP.new (W : World) (x : LieT) : LieP (W.alloc (.cells #[.int .i64 x.node, .int .i64 x.level, .int .i64 x.pod, .int .i64 x.mtu, .int .i64 x.link, .int .i64 x.nonce, .int .i64 x.seen, .int .i64 x.seenLink, .int .i64 x.seenNonce, .int .i64 x.hold, .bool x.rep, .bool x.noOffer] 25)) W.heap.size x := heap_alloc_new W _
theorem LieP.same {W W' : World} {k : Nat} {x : LieT} (h : LieP W k x) (q : W'.heap[k]? = W.heap[k]?) : LieP W' k x := q.trans h
theorem LieP.below {W W' : World} {k : Nat} {x : LieT} (h : LieP W k x) (q : Below W.heap.size W W') : LieP W' k x := h.same (q.block k h.lt)
theorem LieP.range {W : World} {k : Nat} {x : LieT} (h : LieP W k x) : W.rangeAt k 0 [.int .i64 x.node, .int .i64 x.level, .int .i64 x.pod, .int .i64 x.mtu, .int .i64 x.link, .int .i64 x.nonce, .int .i64 x.seen, .int .i64 x.seenLink, .int .i64 x.seenNonce, .int .i64 x.hold, .bool x.rep, .bool x.noOffer] := by
  intro j v hv
  unfold LieP at h
  rw [cell_of_row W k _ _ _ _ h, Nat.zero_add]
  rw [← Array.getElem?_toList]
  exact hv
theorem LieP.cells {W : World} {k : Nat} {x : LieT} (h : LieP W k x) : W.cell? ⟨k, 0, none⟩ = some (.int .i64 x.node) ∧ W.cell? ⟨k, 1, none⟩ = some (.int .i64 x.level) ∧ W.cell? ⟨k, 4, none⟩ = some (.int .i64 x.link) ∧ W.cell? ⟨k, 5, none⟩ = some (.int .i64 x.nonce) ∧ W.cell? ⟨k, 6, none⟩ = some (.int .i64 x.seen) ∧ W.cell? ⟨k, 7, none⟩ = some (.int .i64 x.seenLink) ∧ W.cell? ⟨k, 8, none⟩ = some (.int .i64 x.seenNonce) ∧ W.cell? ⟨k, 9, none⟩ = some (.int .i64 x.hold) := by
  unfold LieP at h
  simp [World.cell?, h]
/-- The lie's box lies elsewhere than an end. -/
theorem EndP.ne_lie {W : World} {b k : Nat} {e : EndT} {x : LieT} {T : TypeId} (h : EndP T W b e) (hl : LieP W k x) (hT : T ≠ 25) : k ≠ b := by
  rintro rfl
  unfold EndP at h
  unfold LieP at hl
  rw [h] at hl
  injection hl with hl
  injection hl with _ hl _
  exact hT hl
set_option maxHeartbeats 1600000 in
set_option maxRecDepth 100000 in
theorem from_any {W : World} {b : Nat} {e : EndT} (h : EndP 56 W b e) (hi : InvE e) (x : LieT) (hx : 1 ≤ x.node) : Calls Try.prog 32 #[.pointer (some ⟨b, 0, none⟩), .agg #[.int .i64 x.node, .int .i64 x.level, .int .i64 x.pod, .int .i64 x.mtu, .int .i64 x.link, .int .i64 x.nonce, .int .i64 x.seen, .int .i64 x.seenLink, .int .i64 x.seenNonce, .int .i64 x.hold, .bool x.rep, .bool x.noOffer]] W fun en W' => en = .returned (.bool (decide (sameO e.o x))) ∧ Below W.heap.size W W' := by
  obtain ⟨V, hV⟩ : ∃ V, (W.alloc (.cells #[.int .i64 x.node, .int .i64 x.level, .int .i64 x.pod, .int .i64 x.mtu, .int .i64 x.link, .int .i64 x.nonce, .int .i64 x.seen, .int .i64 x.seenLink, .int .i64 x.seenNonce, .int .i64 x.hold, .bool x.rep, .bool x.noOffer] 25)) = V := ⟨_, rfl⟩
  have hl := LieP.new W x
  have HB : RowKit.Hid (∀ n, Below W.heap.size W (V.drewN n)) := fun n => by rw [← hV]; exact bel_drawn ((Below.refl _ W).alloc (Nat.le_refl _) _) n
  rw [hV] at hl
  have hw : ∀ n, EndP 56 (V.drewN n) b e := fun n => h.same (by rw [← hV]; exact heap_alloc_old W _ h.lt)
  have h0 : EndP 56 V b e := hw 0
  have hh := fun n => hears_any (hw n) hi
  have HV := Lib.hid hV
  obtain ⟨d0, d1, d4, d5, d6, d7, d8, d9⟩ := hl.cells
  have hi' := Lib.hid hi
  have c8 := h0.cells2.2.2.1
  have c9 := h0.cells2.2.2.2.1
  clear hV h hi hw h0 hl d1 d5 d6 d7 d8 d9
  by_cases k : e.o.node ≠ 0
  · have hd : decide (e.o.node ≠ 0) = true := decide_eq_true k
    rw [hd] at hh
    by_cases k1 : e.o.node = x.node
    · by_cases k2 : e.o.link = x.link
      · have e1 : decide (sameO e.o x) = true := decide_eq_true ⟨k1, k2⟩
        rw [e1]
        go_enter Try.func32, Try.ntmps32
        go_wp2
        rw [HV.out]
        go_quiet (exact Calls.quiet_of_same (hh _))
        go_wp2
        go_ret
        exact ⟨rfl, HB.out _⟩
      · have e1 : decide (sameO e.o x) = false := decide_eq_false fun h => k2 h.2
        have b2 : (e.o.link == x.link) = false := by simpa using k2
        rw [e1]
        go_enter Try.func32, Try.ntmps32
        go_wp2
        rw [HV.out]
        go_quiet (exact Calls.quiet_of_same (hh _))
        go_wp2
        go_ret
        exact ⟨rfl, HB.out _⟩
    · have e1 : decide (sameO e.o x) = false := decide_eq_false fun h => k1 h.1
      have b1 : (e.o.node == x.node) = false := by simpa using k1
      rw [e1]
      go_enter Try.func32, Try.ntmps32
      go_wp2
      rw [HV.out]
      go_quiet (exact Calls.quiet_of_same (hh _))
      go_wp2
      go_ret
      exact ⟨rfl, HB.out _⟩
  · have hd : decide (e.o.node ≠ 0) = false := decide_eq_false k
    rw [hd] at hh
    have e1 : decide (sameO e.o x) = false := decide_eq_false fun h => by have := h.1; omega
    rw [e1]
    go_enter Try.func32, Try.ntmps32
    go_wp2
    rw [HV.out]
    go_quiet (exact Calls.quiet_of_same (hh _))
    go_wp2
    go_ret
    exact ⟨rfl, HB.out _⟩
end Go.Proofs.Yticbfmbinopjcaa
