/-
  A LAW'S NODE: the program's, made behind a world; the laws' node is awake.
-/
import Derived.Test.YtfdoldefdkijoaaZPTick
import Derived.Test.YtfdoldefdkijoaaZLaw
namespace Go.Proofs.Ytfdoldefdkijoaa
set_option linter.unusedSimpArgs false
set_option linter.unusedVariables false
open Go.ChangeMaps Go.MapKept Go.Maps Go.RowKit
/-- The program's node z, made behind W0. -/
structure LZ (W0 : World) (pb : Nat) (z : ZtT) (W : World) : Prop where
  p : ProgZ W W0.heap.size pb z
  i : InvZ z
  b : Below W0.heap.size W0 W
section
variable {W0 W W' : World} {pb : Nat} {z : ZtT}
theorem LZ.below (h : LZ W0 pb z W) (k : Below W.heap.size W W') : LZ W0 pb z W' := ⟨h.p.below k, h.i, h.b.trans (k.mono h.b.size)⟩
theorem LZ.drewN (h : LZ W0 pb z W) (n : Nat) : LZ W0 pb z (W.drewN n) := by
  obtain ⟨⟨mb, p⟩, i, b⟩ := h
  exact ⟨⟨mb, ⟨p.box, p.map, p.lp, p.lm, p.base, p.held⟩⟩, i, ⟨b.os, b.tape, b.output, b.size, b.block⟩⟩
def PNew (f : Int) (a b : Bool) : Prop := ∀ w : World, Calls Try.prog 10 #[.int .i64 f, .bool a, .bool b] w fun e w' => (kindB f a b → ∃ pb, e = .returned (.tuple #[.pointer (some ⟨pb, 0, none⟩), .int .i64 0]) ∧ LZ w pb (newZ f a b) w') ∧ (¬ kindB f a b → e = .returned (.tuple #[.pointer none, .int .i64 1]) ∧ Below w.heap.size w w')
theorem pnew_law (f : Int) (a b : Bool) : PNew f a b := fun w => (pnew_any f a b w).mono fun e w' ⟨h1, h2, h3⟩ => ⟨fun hk => by obtain ⟨pb, he, hp⟩ := h1 hk; exact ⟨pb, he, hp, newZ_inv hk, h3⟩, fun hk => ⟨h2 hk, h3⟩⟩
theorem pnew_own (w : World) : Calls Try.prog 10 #[.int .i64 (-1), .bool false, .bool false] w fun e w' => ∃ pb, e = .returned (.tuple #[.pointer (some ⟨pb, 0, none⟩), .int .i64 0]) ∧ LZ w pb newN w' := (pnew_law (-1) false false w).mono fun e w' h => h.1 (by decide)
theorem poffer_law (h : LZ W0 pb z W) (link level : Int) (none : Bool) (now : Int) : Calls Try.prog 12 #[.pointer (some ⟨pb, 0, Option.none⟩), .int .i64 link, .int .i64 level, .bool none, .int .i64 now] W fun e w' => e = .returned (.int .i64 (offerZ z link level none now).1) ∧ LZ W0 pb (offerZ z link level none now).2 w' ∧ KeepP W w' :=
  (poffer_any h.p h.i link level none now).mono fun e w' ⟨he, hp, hb, hk⟩ => ⟨he, ⟨hp, offerZ_inv h.i link level none now, h.b.trans hb⟩, hk⟩
theorem ptick_law (h : LZ W0 pb z W) (now : Int) : Calls Try.prog 14 #[.pointer (some ⟨pb, 0, none⟩), .int .i64 now] W fun e w' => e = .returned (.int .i64 (tickZ z now).1) ∧ LZ W0 pb (tickZ z now).2 w' ∧ KeepP W w' :=
  (ptick_any h.p h.i now).mono fun e w' ⟨he, hp, hb, hk⟩ => ⟨he, ⟨hp, tickZ_inv h.i now, h.b.trans hb⟩, hk⟩
theorem plevel_law (h : LZ W0 pb z W) : Calls Try.prog 16 #[.pointer (some ⟨pb, 0, none⟩)] W fun e w' => e = .returned (.int .i64 (levelZ z)) ∧ w' = W := plevel_any h.p h.i
theorem pbest_law (h : LZ W0 pb z W) : Calls Try.prog 18 #[.pointer (some ⟨pb, 0, none⟩)] W fun e w' => e = .returned (.int .i64 (bestL z.L)) ∧ LZ W0 pb z w' ∧ KeepP W w' := (pbest_any h.p h.i.nd).mono fun e w' ⟨he, hb⟩ => ⟨he, h.below hb, KeepP.below hb⟩
theorem pquiet_law (h : LZ W0 pb z W) (link : Int) (hk : InI link) : Calls Try.prog 20 #[.pointer (some ⟨pb, 0, none⟩), .int .i64 link] W fun e w' => e = .returned (.bool (quietZ z link)) ∧ LZ W0 pb z w' ∧ KeepP W w' := (pquiet_any h.p link hk).mono fun e w' ⟨he, hb⟩ => ⟨he, h.below hb, KeepP.below hb⟩
end
/-- A step in a box. -/
def StepBx (W : World) (k : Nat) (s : StepT) : Prop := W.heap[k]? = some (.cells #[.int .i64 s.d, .int .i64 s.link, .int .i64 s.level, .int .i64 s.now, .bool s.none] 33 (0, 0))
theorem StepBx.keep {W W' : World} {k : Nat} {s : StepT} (h : StepBx W k s) (q : KeepP W W') : StepBx W' k s := q.2 _ _ _ _ (by decide) h
theorem StepBx.made (W : World) (s : StepT) : StepBx (W.alloc (.cells #[.int .i64 s.d, .int .i64 s.link, .int .i64 s.level, .int .i64 s.now, .bool s.none] 33)) W.heap.size s := heap_alloc_new _ _
theorem StepBx.cells {W : World} {k : Nat} {s : StepT} (h : StepBx W k s) : W.cell? ⟨k, 0, none⟩ = some (.int .i64 s.d) ∧ W.cell? ⟨k, 1, none⟩ = some (.int .i64 s.link) ∧ W.cell? ⟨k, 2, none⟩ = some (.int .i64 s.level) ∧ W.cell? ⟨k, 3, none⟩ = some (.int .i64 s.now) ∧ W.cell? ⟨k, 4, none⟩ = some (.bool s.none) := by
  unfold StepBx at h
  simp [World.cell?, h]
theorem awake1 : levelZ (offerZ newN 1 24 false 0).2 = -1 := by decide
theorem awake2 : levelZ (tickZ (offerZ newN 1 24 false 0).2 0).2 = 23 := by decide
theorem awake3 : quietZ (tickZ (offerZ newN 1 24 false 0).2 0).2 1 = true := by decide
theorem awake4 : quietZ (tickZ (offerZ newN 1 24 false 0).2 0).2 2 = false := by decide
set_option maxHeartbeats 3200000 in
set_option maxRecDepth 100000 in
theorem awake_any (w : World) : Calls Try.prog 9 #[] w fun e w' => e = .returned (.bool true) ∧ Below w.heap.size w w' := by
  have hnew := pnew_own w
  have T1 : True := trivial
  have T2 : True := trivial
  go_enter Try.func9, Try.ntmps9
  go_wp2_with (first
    | (go_at_call 10; refine hnew.mono ?_; rintro e w1 ⟨pb, rfl, hz⟩; have hof := poffer_law hz 1 24 false 0; clear hz)
    | (go_at_call 12; refine hof.mono ?_; rintro e w2 ⟨rfl, hz, _⟩; have hlv := plevel_law hz; rw [awake1] at hlv; have htk := ptick_law hz 0; clear hz)
    | (have tt := T1; clear T1 tt; go_at_call 16; refine hlv.mono ?_; rintro e w3 ⟨rfl, rfl⟩)
    | (go_at_call 14; refine htk.mono ?_; rintro e w4 ⟨rfl, hz, _⟩; have hl2 := plevel_law hz; rw [awake2] at hl2; have hq1 := pquiet_law hz 1 (by unfold InI; omega); rw [awake3] at hq1; clear hz)
    | (go_at_call 16; refine hl2.mono ?_; rintro e w3 ⟨rfl, rfl⟩)
    | (have tt := T2; clear T2 tt; go_at_call 20; refine hq1.mono ?_; rintro e w5 ⟨rfl, hz, _⟩; have hq2 := pquiet_law hz 2 (by unfold InI; omega); rw [awake4] at hq2; clear hz)
    | (go_at_call 20; refine hq2.mono ?_; rintro e w6 ⟨rfl, hz, _⟩; have HB := Lib.hid hz.b; clear hz))
  go_ret
  exact ⟨rfl, HB.out⟩
end Go.Proofs.Ytfdoldefdkijoaa
