/-
  THE LAWS' TOOLS: awake; is a step too long.
-/
import Derived.Test.YtpaooddmgcekhaaGreatVAge
import Derived.Test.YtpaooddmgcekhaaGreatVArg
namespace Go.Proofs.YtpaooddmgcekhaaGreat.ti
set_option linter.unusedSimpArgs false
set_option linter.unusedVariables false
open Go.RowKit
def pieceV (n : Int) : TiV := ⟨⟨⟨1, 1, 1, 0⟩, n, 50⟩, 0, false, [], []⟩
def s0 : Sl2 := ⟨none, 0, none, 0⟩
theorem rd2_piece (n : Int) (W : World) : Rd2 W (pieceV n) s0 := ⟨RdE.nil _ _, RdE.nil _ _, ⟨by simp [pieceV], by simp [pieceV], by decide⟩, ⟨by simp [pieceV], by simp [pieceV], by decide⟩, fun _ => rfl, fun _ => rfl, fun y hy => by simp [pieceV] at hy⟩
theorem aw1 : putD 5 [] (pieceV 1) 0 = (1, 0, [enD (pieceV 1) 0]) := by rfl
theorem aw2 : putD 5 [enD (pieceV 1) 0] (pieceV 3) 0 = (2, 0, [enD (pieceV 3) 0]) := by rfl
theorem aw3 : putD 5 [enD (pieceV 3) 0] (pieceV 2) 0 = (-1, 0, [enD (pieceV 3) 0]) := by rfl
set_option maxHeartbeats 800000 in
set_option maxRecDepth 100000 in
theorem piece_any (n : Int) (w : World) : Calls Tryz.prog 20 #[.int .i64 n] w fun e w' => e = .returned (.agg #[.int .i64 1, .int .i64 1, .int .i64 1, .int .i64 0, .int .i64 n, .int .i64 50, .int .i64 0, .bool false, .slice none 0 0, .slice none 0 0]) ∧ Below w.heap.size w w' := by
  have HB : Hid (∀ A : Obj, Below w.heap.size w (w.alloc A)) := fun A => (Below.refl _ w).alloc (Nat.le_refl _) _
  have A0 : Hid (Arr (w.alloc (.cells #[.int .i64 1, .int .i64 1, .int .i64 1, .int .i64 0, .int .i64 n, .int .i64 50, .int .i64 0, .bool false, .slice none 0 0, .slice none 0 0] 39)) w.heap.size 39 [.int .i64 1, .int .i64 1, .int .i64 1, .int .i64 0, .int .i64 n, .int .i64 50, .int .i64 0, .bool false, .slice none 0 0, .slice none 0 0]) := Arr.new w _ _
  go_enter Tryz.func20, Tryz.ntmps20
  go_wp2
  refine bodyPost_ret (results_arr rfl rfl A0.out Tryz.underlying39 rfl sizeV rfl) rfl ?_
  exact ⟨rfl, HB.out _⟩
/-- The call leaves the elder blocks alone, but for the base's map. -/
theorem below_map {n mb : Nat} {w W W' : World} (h : Below n w W) (k : W.grownBy W' (some mb)) (hb : n ≤ mb) (hn : n ≤ W.heap.size) : Below n w W' := h.grown k hn fun j e => by cases e; exact hb
set_option maxHeartbeats 1600000 in
set_option maxRecDepth 100000 in
theorem awake_any (w : World) : Calls Tryz.prog 5 #[] w fun e w' => e = .returned (.bool true) ∧ Below w.heap.size w w' := by
  have hn := dnew_any 5 (by omega) w
  have h1 : Hid (∀ W pb mb, ProgD W w.heap.size pb mb 5 [] → Calls Tryz.prog 19 #[.pointer (some ⟨pb, 0, none⟩), .agg #[.int .i64 1, .int .i64 1, .int .i64 1, .int .i64 0, .int .i64 1, .int .i64 50, .int .i64 0, .bool false, .slice none 0 0, .slice none 0 0], .int .i64 0] W fun e w' => e = .returned (.tuple #[.int .i64 1, .int .i64 0]) ∧ ProgD w' w.heap.size pb mb 5 [enD (pieceV 1) 0] ∧ W.grownBy w' (some mb)) := fun W pb mb h => by
    have := dput_any h (rd2_piece 1 W) 0 (by omega)
    unfold PutE at this
    rw [aw1] at this
    exact this
  have h2 : Hid (∀ W pb mb, ProgD W w.heap.size pb mb 5 [enD (pieceV 1) 0] → Calls Tryz.prog 19 #[.pointer (some ⟨pb, 0, none⟩), .agg #[.int .i64 1, .int .i64 1, .int .i64 1, .int .i64 0, .int .i64 3, .int .i64 50, .int .i64 0, .bool false, .slice none 0 0, .slice none 0 0], .int .i64 0] W fun e w' => e = .returned (.tuple #[.int .i64 2, .int .i64 0]) ∧ ProgD w' w.heap.size pb mb 5 [enD (pieceV 3) 0] ∧ W.grownBy w' (some mb)) := fun W pb mb h => by
    have := dput_any h (rd2_piece 3 W) 0 (by omega)
    unfold PutE at this
    rw [aw2] at this
    exact this
  have h3 : Hid (∀ W pb mb, ProgD W w.heap.size pb mb 5 [enD (pieceV 3) 0] → Calls Tryz.prog 19 #[.pointer (some ⟨pb, 0, none⟩), .agg #[.int .i64 1, .int .i64 1, .int .i64 1, .int .i64 0, .int .i64 2, .int .i64 50, .int .i64 0, .bool false, .slice none 0 0, .slice none 0 0], .int .i64 0] W fun e w' => e = .returned (.tuple #[.int .i64 (-1), .int .i64 0]) ∧ ProgD w' w.heap.size pb mb 5 [enD (pieceV 3) 0] ∧ W.grownBy w' (some mb)) := fun W pb mb h => by
    have := dput_any h (rd2_piece 2 W) 0 (by omega)
    unfold PutE at this
    rw [aw3] at this
    exact this
  have hp := piece_any
  have T1 : True := trivial
  have T2 : True := trivial
  have T3 : True := trivial
  go_enter Tryz.func5, Tryz.ntmps5
  go_wp2_with (first
    | (go_at_call 6; refine hn.mono ?_; rintro e w1 ⟨rfl, hp1, hb1⟩; have HP := Lib.hid hp1; have HB := Lib.hid hb1; clear hp1 hb1)
    | (go_at_call 20; refine (hp _ _).mono ?_; rintro e w2 ⟨rfl, hb2⟩; have HP0 := HP; have HB0 := HB; clear HP HB; have HP := Lib.hid (HP0.out.below hb2); have HB := Lib.hid (HB0.out.trans (hb2.mono HB0.out.size)); clear HP0 HB0 hb2)
    | (go_at_call 19; (first | (have tt := T1; clear T1 tt; with_reducible refine (h1.out _ _ _ HP.out).mono ?_) | (have tt := T2; clear T2 tt; with_reducible refine (h2.out _ _ _ HP.out).mono ?_) | (have tt := T3; clear T3 tt; with_reducible refine (h3.out _ _ _ HP.out).mono ?_)); rintro e w3 ⟨rfl, hp3, hg3⟩; have HP0 := HP; have HB0 := HB; clear HP HB; have HP := Lib.hid hp3; have HB := Lib.hid (below_map HB0.out hg3 HP0.out.hm HB0.out.size); clear HP0 HB0 hp3 hg3)
    | (go_at_call 17; refine (dlen_any HP.out _ (fun _ _ => rfl)).mono ?_; rintro e w4 ⟨rfl, hww⟩; have hww := hww.symm; subst hww))
  go_ret
  exact ⟨rfl, HB.out⟩
set_option maxHeartbeats 800000 in
set_option maxRecDepth 100000 in
theorem long_any (d now : Int) (t : TiV) (s : Sl2) (w : World) : Calls Tryz.prog 8 #[.agg #[.int .i64 d, .int .i64 now, .int .i64 t.hd.id.d, .int .i64 t.hd.id.o, .int .i64 t.hd.id.k, .int .i64 t.hd.id.n, .int .i64 t.hd.seq, .int .i64 t.hd.life, .int .i64 t.level, .bool t.over, .slice s.ea t.es.length s.ec, .slice s.ra t.rs.length s.rc]] w fun e w' => e = .returned (.bool (decide (100 < t.es.length ∨ 100 < t.rs.length))) ∧ Below w.heap.size w w' := by
  have HB : Hid (∀ A : Obj, Below w.heap.size w (w.alloc A)) := fun A => (Below.refl _ w).alloc (Nat.le_refl _) _
  obtain ⟨n1, h1⟩ : ∃ n, t.es.length = n := ⟨_, rfl⟩
  obtain ⟨n2, h2⟩ : ∃ n, t.rs.length = n := ⟨_, rfl⟩
  rw [h1, h2]
  clear h1 h2
  by_cases q1 : 100 < n1
  · rw [decide_eq_true (.inl q1 : 100 < n1 ∨ 100 < n2)]
    have d1 : decide (100 < (n1 : Int)) = true := decide_eq_true (by omega)
    clear q1
    go_enter Tryz.func8, Tryz.ntmps8
    go_wp2
    go_ret
    exact ⟨by first | rfl | simp, HB.out _⟩
  · have d1 : decide (100 < (n1 : Int)) = false := decide_eq_false (by omega)
    by_cases q2 : 100 < n2
    · rw [decide_eq_true (.inr q2 : 100 < n1 ∨ 100 < n2)]
      have d2 : decide (100 < (n2 : Int)) = true := decide_eq_true (by omega)
      clear q1 q2
      go_enter Tryz.func8, Tryz.ntmps8
      go_wp2
      go_ret
      exact ⟨by first | rfl | simp, HB.out _⟩
    · rw [decide_eq_false (by omega : ¬ (100 < n1 ∨ 100 < n2))]
      have d2 : decide (100 < (n2 : Int)) = false := decide_eq_false (by omega)
      clear q1 q2
      go_enter Tryz.func8, Tryz.ntmps8
      go_wp2
      go_ret
      exact ⟨by first | rfl | simp, HB.out _⟩
end Go.Proofs.YtpaooddmgcekhaaGreat.ti
