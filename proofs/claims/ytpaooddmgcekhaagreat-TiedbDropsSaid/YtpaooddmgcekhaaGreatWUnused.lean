/-
  WHAT A PACKET's KIND DOES NOT USE.
-/
import Derived.Test.YtpaooddmgcekhaaGreatWTie
import Derived.Test.YtpaooddmgcekhaaGreatWMath
namespace Go.Proofs.YtpaooddmgcekhaaGreat
open Go.RowKit Go.Shelf
set_option linter.unusedVariables false

theorem len_beq {α : Type} (l : List α) : ((l.length : Int) == 0) = decide (l = []) := by
  cases l with
  | nil => rfl
  | cons x l =>
    have : ¬ (((x :: l).length : Int) = 0) := by simp; omega
    rw [show (((x :: l).length : Int) == 0) = false from by simpa using this]
    simp
set_option maxRecDepth 100000 in
set_option maxHeartbeats 4000000 in
theorem noTie_any (x : TieT) (ae ar : Option Addr) (ce cr : Nat) (W : World) :
    Calls Tryz.prog 94 #[.agg #[.int .i64 x.head.id.dir, .int .i64 x.head.id.orig, .int .i64 x.head.id.kind, .int .i64 x.head.id.nr, .int .i64 x.head.seq, .int .i64 x.head.life, .int .i64 x.level, .bool x.over, .slice ae x.edges.length ce, .slice ar x.reaches.length cr]] W fun e w' => e = .returned (.bool x.nil) ∧ Below W.heap.size W w' := by
  go_enter Tryz.func94, Tryz.ntmps94
  go_wp2
  all_goals go_ret
  all_goals exact ⟨ret_bool (by simp [TieT.nil, HeadT.nil, IdT.nil, len_beq, *]), (Below.refl _ _).alloc (Nat.le_refl _) _⟩

set_option maxRecDepth 100000 in
set_option maxHeartbeats 8000000 in
theorem unused_any (p : PackT) (ae ar ah : Option Addr) (ce cr ch : Nat) (W : World) :
    Calls Tryz.prog 69 #[.agg #[.int .i64 p.kind, .int .i64 p.lie.node, .int .i64 p.lie.level, .int .i64 p.lie.pod, .int .i64 p.lie.mtu, .int .i64 p.lie.link, .int .i64 p.lie.nonce, .int .i64 p.lie.seen, .int .i64 p.lie.seenLink, .int .i64 p.lie.seenNonce, .int .i64 p.lie.hold, .bool p.lie.rep, .bool p.lie.noOffer, .int .i64 p.tie.head.id.dir, .int .i64 p.tie.head.id.orig, .int .i64 p.tie.head.id.kind, .int .i64 p.tie.head.id.nr, .int .i64 p.tie.head.seq, .int .i64 p.tie.head.life, .int .i64 p.tie.level, .bool p.tie.over, .slice ae p.tie.edges.length ce, .slice ar p.tie.reaches.length cr, .int .i64 p.frm.dir, .int .i64 p.frm.orig, .int .i64 p.frm.kind, .int .i64 p.frm.nr, .int .i64 p.to.dir, .int .i64 p.to.orig, .int .i64 p.to.kind, .int .i64 p.to.nr, .slice ah p.heads.length ch]] W fun e w' => e = .returned (.bool (unusedB p)) ∧ Below W.heap.size W w' := by
  obtain ⟨tn, htn⟩ : ∃ b, p.tie.nil = b := ⟨_, rfl⟩
  have hnt : ∀ W, Calls Tryz.prog 94 #[.agg #[.int .i64 p.tie.head.id.dir, .int .i64 p.tie.head.id.orig, .int .i64 p.tie.head.id.kind, .int .i64 p.tie.head.id.nr, .int .i64 p.tie.head.seq, .int .i64 p.tie.head.life, .int .i64 p.tie.level, .bool p.tie.over, .slice ae p.tie.edges.length ce, .slice ar p.tie.reaches.length cr]] W fun e w' => e = .returned (.bool tn) ∧ Below W.heap.size W w' := fun W => htn ▸ noTie_any p.tie ae ar ce cr W
  have HNT := Lib.hid hnt
  have HTN := Lib.hid htn
  clear hnt htn
  cases tn
  all_goals
   go_enter Tryz.func69, Tryz.ntmps69
   go_wp2_with (first
    | (go_at_call 94; refine (HNT.out _).mono ?_; rintro e w1 ⟨rfl, hb1⟩; have d0 : w1.cell? ⟨W.heap.size, 0, none⟩ = some _ := (hb1.cell (p := ⟨W.heap.size, 0, none⟩) (by simp)).trans (cell_of_row _ _ 0 _ _ _ (World.alloc_heap_new W _)); have d23 : w1.cell? ⟨W.heap.size, 23, none⟩ = some _ := (hb1.cell (p := ⟨W.heap.size, 23, none⟩) (by simp)).trans (cell_of_row _ _ 23 _ _ _ (World.alloc_heap_new W _)); have d24 : w1.cell? ⟨W.heap.size, 24, none⟩ = some _ := (hb1.cell (p := ⟨W.heap.size, 24, none⟩) (by simp)).trans (cell_of_row _ _ 24 _ _ _ (World.alloc_heap_new W _)); have d25 : w1.cell? ⟨W.heap.size, 25, none⟩ = some _ := (hb1.cell (p := ⟨W.heap.size, 25, none⟩) (by simp)).trans (cell_of_row _ _ 25 _ _ _ (World.alloc_heap_new W _)); have d26 : w1.cell? ⟨W.heap.size, 26, none⟩ = some _ := (hb1.cell (p := ⟨W.heap.size, 26, none⟩) (by simp)).trans (cell_of_row _ _ 26 _ _ _ (World.alloc_heap_new W _)); have d27 : w1.cell? ⟨W.heap.size, 27, none⟩ = some _ := (hb1.cell (p := ⟨W.heap.size, 27, none⟩) (by simp)).trans (cell_of_row _ _ 27 _ _ _ (World.alloc_heap_new W _)); have d28 : w1.cell? ⟨W.heap.size, 28, none⟩ = some _ := (hb1.cell (p := ⟨W.heap.size, 28, none⟩) (by simp)).trans (cell_of_row _ _ 28 _ _ _ (World.alloc_heap_new W _)); have d29 : w1.cell? ⟨W.heap.size, 29, none⟩ = some _ := (hb1.cell (p := ⟨W.heap.size, 29, none⟩) (by simp)).trans (cell_of_row _ _ 29 _ _ _ (World.alloc_heap_new W _)); have d30 : w1.cell? ⟨W.heap.size, 30, none⟩ = some _ := (hb1.cell (p := ⟨W.heap.size, 30, none⟩) (by simp)).trans (cell_of_row _ _ 30 _ _ _ (World.alloc_heap_new W _)); have d31 : w1.cell? ⟨W.heap.size, 31, none⟩ = some _ := (hb1.cell (p := ⟨W.heap.size, 31, none⟩) (by simp)).trans (cell_of_row _ _ 31 _ _ _ (World.alloc_heap_new W _)); have H1 := Lib.hid (((Below.refl W.heap.size W).alloc (Nat.le_refl _) _).trans (hb1.mono (by simp))); clear hb1))
  all_goals go_ret
  all_goals have htn := HTN.out
  all_goals first
    | exact ⟨ret_bool (by simp [unusedB, LieT.nil, IdT.nil, len_beq, *]), H1.out⟩
    | exact ⟨ret_bool (by simp [unusedB, LieT.nil, IdT.nil, len_beq, *]), (Below.refl _ _).alloc (Nat.le_refl _) _⟩
    | (trace_state; fail)
end Go.Proofs.YtpaooddmgcekhaaGreat
