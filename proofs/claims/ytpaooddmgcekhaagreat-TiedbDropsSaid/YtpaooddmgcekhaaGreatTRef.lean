/-
  THE DOCUMENT'S numbers, ids, heads: number, Compare, far, Newer, First, Last, Right, After.
-/
import Derived.Test.YtpaooddmgcekhaaGreatTMath
import Derived.Test.YtpaooddmgcekhaaGreatProg
import Derived.WalkKit
import Derived.Lib.Hide
import Derived.Below
import Derived.BigQuiet
import Derived.BigRegion
import Derived.Deep.QuietTactic
import Derived.IntWalk
import Derived.OwnWalk
import Derived.Deep.MidRow
import Derived.StillTailTactics
namespace Go.Proofs.YtpaooddmgcekhaaGreat.ti
set_option linter.unusedSimpArgs false
set_option linter.unusedVariables false
open Go.RowKit
def cellsI (x : TId) : List Value := [.int .i64 x.d, .int .i64 x.o, .int .i64 x.k, .int .i64 x.n]
def cellsT (x : THd) : List Value := [.int .i64 x.id.d, .int .i64 x.id.o, .int .i64 x.id.k, .int .i64 x.id.n, .int .i64 x.seq, .int .i64 x.life]
set_option maxHeartbeats 800000 in
set_option maxRecDepth 100000 in
theorem rnumber_any (a b : Int) (w : World) : Calls Tryz.prog 58 #[.int .i64 a, .int .i64 b] w fun e w' => e = .returned (.int .i64 (numT a b)) ∧ w' = w := by
  by_cases h1 : a < b
  · rw [show numT a b = -1 from if_pos h1]
    go_enter Tryz.func58, Tryz.ntmps58
    go_wp2
    go_ret
    exact ⟨rfl, rfl⟩
  · by_cases h2 : b < a
    · rw [show numT a b = 1 from by unfold numT; rw [if_neg h1, if_pos h2]]
      go_enter Tryz.func58, Tryz.ntmps58
      go_wp2
      go_ret
      exact ⟨rfl, rfl⟩
    · rw [show numT a b = 0 from by unfold numT; rw [if_neg h1, if_neg h2]]
      go_enter Tryz.func58, Tryz.ntmps58
      go_wp2
      go_ret
      exact ⟨rfl, rfl⟩
set_option maxHeartbeats 1600000 in
set_option maxRecDepth 100000 in
theorem rcompare_any (a b : TId) (w : World) : Calls Tryz.prog 57 #[.agg #[.int .i64 a.d, .int .i64 a.o, .int .i64 a.k, .int .i64 a.n], .agg #[.int .i64 b.d, .int .i64 b.o, .int .i64 b.k, .int .i64 b.n]] w fun e w' => e = .returned (.int .i64 (cmpT a b)) ∧ Below w.heap.size w w' := by
  obtain ⟨c, hc⟩ : ∃ c, cmpT a b = c := ⟨_, rfl⟩
  have hn := rnumber_any
  have HB : RowKit.Hid (∀ A B : Obj, Below w.heap.size w ((w.alloc A).alloc B)) := fun A B => ((Below.refl _ w).alloc (Nat.le_refl _) _).alloc (by simp) _
  rw [hc]
  unfold cmpT at hc
  have HC := Lib.hid hc
  clear hc
  by_cases h1 : a.d = b.d
  · have q1 := h1
    by_cases h2 : a.o = b.o
    · by_cases h3 : a.k = b.k
      · have hs : numT a.n b.n = c := by have := HC.out; rw [if_neg (by simpa using h1), if_neg (by simpa using h2), if_neg (by simpa using h3)] at this; exact this
        have b1 : (a.d == b.d) = true := by simpa using h1
        have b2 : (a.o == b.o) = true := by simpa using h2
        have b3 : (a.k == b.k) = true := by simpa using h3
        have HS := Lib.hid hs
        clear h1 h2 h3 q1 hs
        go_enter Tryz.func57, Tryz.ntmps57
        go_wp2_with (go_at_call 58; refine (hn _ _ _).mono ?_; rintro e w1 ⟨rfl, rfl⟩)
        go_ret
        exact ⟨by rw [HS.out]; rfl, HB.out _ _⟩
      · have hs : numT a.k b.k = c := by have := HC.out; rw [if_neg (by simpa using h1), if_neg (by simpa using h2), if_pos h3] at this; exact this
        have b1 : (a.d == b.d) = true := by simpa using h1
        have b2 : (a.o == b.o) = true := by simpa using h2
        have b3 : (a.k == b.k) = false := by simpa using h3
        have HS := Lib.hid hs
        clear h1 h2 h3 q1 hs
        go_enter Tryz.func57, Tryz.ntmps57
        go_wp2_with (go_at_call 58; refine (hn _ _ _).mono ?_; rintro e w1 ⟨rfl, rfl⟩)
        go_ret
        exact ⟨by rw [HS.out]; rfl, HB.out _ _⟩
    · have hs : numT a.o b.o = c := by have := HC.out; rw [if_neg (by simpa using h1), if_pos h2] at this; exact this
      have b1 : (a.d == b.d) = true := by simpa using h1
      have b2 : (a.o == b.o) = false := by simpa using h2
      have HS := Lib.hid hs
      clear h1 h2 q1 hs
      go_enter Tryz.func57, Tryz.ntmps57
      go_wp2_with (go_at_call 58; refine (hn _ _ _).mono ?_; rintro e w1 ⟨rfl, rfl⟩)
      go_ret
      exact ⟨by rw [HS.out]; rfl, HB.out _ _⟩
  · have hs : numT a.d b.d = c := by have := HC.out; rw [if_pos h1] at this; exact this
    have b1 : (a.d == b.d) = false := by simpa using h1
    have HS := Lib.hid hs
    clear h1 hs
    go_enter Tryz.func57, Tryz.ntmps57
    go_wp2_with (go_at_call 58; refine (hn _ _ _).mono ?_; rintro e w1 ⟨rfl, rfl⟩)
    go_ret
    exact ⟨by rw [HS.out]; rfl, HB.out _ _⟩
/-- An int is one of 64 bits. -/
def In64 (a : Int) : Prop := -9223372036854775808 ≤ a ∧ a ≤ 9223372036854775807
set_option maxHeartbeats 800000 in
set_option maxRecDepth 100000 in
theorem rfar_any (a b : Int) (ha : In64 a) (hb : In64 b) (w : World) : Calls Tryz.prog 59 #[.int .i64 a, .int .i64 b] w fun e w' => e = .returned (.bool (decide (farT a b))) ∧ w' = w := by
  unfold In64 at ha hb
  by_cases h1 : b < a
  · have hd : decide (b < a) = true := decide_eq_true h1
    go_enter Tryz.func59, Tryz.ntmps59
    go_wp2
    go_ret
    refine ⟨?_, rfl⟩
    have hq : IntKind.u64.wrap (IntKind.u64.wrap a - IntKind.u64.wrap b) = a - b := by simp only [IntKind.wrap_u64]; omega
    show Ending.returned (Value.bool (decide (300 < IntKind.u64.wrap (IntKind.u64.wrap a - IntKind.u64.wrap b)))) = _
    rw [hq]
    have hp : (300 < a - b) ↔ farT a b := by unfold farT; omega
    rw [decide_eq_decide.2 hp]
  · have hd : decide (b < a) = false := decide_eq_false h1
    go_enter Tryz.func59, Tryz.ntmps59
    go_wp2
    go_ret
    refine ⟨?_, rfl⟩
    rw [decide_eq_false (show ¬ farT a b by unfold farT; omega)]
    rfl
set_option maxHeartbeats 1600000 in
set_option maxRecDepth 100000 in
theorem rnewer_any (a b : THd) (ha : In64 a.life) (hb : In64 b.life) (w : World) : Calls Tryz.prog 41 #[.agg #[.int .i64 a.id.d, .int .i64 a.id.o, .int .i64 a.id.k, .int .i64 a.id.n, .int .i64 a.seq, .int .i64 a.life], .agg #[.int .i64 b.id.d, .int .i64 b.id.o, .int .i64 b.id.k, .int .i64 b.id.n, .int .i64 b.seq, .int .i64 b.life]] w fun e w' => e = .returned (.int .i64 (newT a b)) ∧ Below w.heap.size w w' := by
  have hn := rnumber_any
  have hf1 := rfar_any a.life b.life ha hb
  have hf2 := rfar_any b.life a.life hb ha
  have HB : RowKit.Hid (∀ A B : Obj, Below w.heap.size w ((w.alloc A).alloc B)) := fun A B => ((Below.refl _ w).alloc (Nat.le_refl _) _).alloc (by simp) _
  clear ha hb
  by_cases h1 : a.seq = b.seq
  · have b1 : (a.seq == b.seq) = true := by simpa using h1
    by_cases f : farT a.life b.life
    · rw [show newT a b = 1 from by rw [new_eq h1, if_pos f]]
      rw [decide_eq_true f] at hf1
      clear h1 f hf2
      have T1 : True := trivial
      go_enter Tryz.func41, Tryz.ntmps41
      go_wp2_with (go_at_call 59; refine (hf1 _).mono ?_; rintro e w1 ⟨rfl, rfl⟩)
      go_ret
      exact ⟨rfl, HB.out _ _⟩
    · by_cases g : farT b.life a.life
      · rw [show newT a b = -1 from by rw [new_eq h1, if_neg f, if_pos g]]
        rw [decide_eq_false f] at hf1
        rw [decide_eq_true g] at hf2
        clear h1 f g
        have T1 : True := trivial
        go_enter Tryz.func41, Tryz.ntmps41
        go_wp2_with (first
          | (go_at_call 59; have _t := T1; clear T1 _t; refine (hf1 _).mono ?_; rintro e w1 ⟨rfl, rfl⟩)
          | (go_at_call 59; refine (hf2 _).mono ?_; rintro e w1 ⟨rfl, rfl⟩))
        go_ret
        exact ⟨rfl, HB.out _ _⟩
      · rw [show newT a b = 0 from by rw [new_eq h1, if_neg f, if_neg g]]
        rw [decide_eq_false f] at hf1
        rw [decide_eq_false g] at hf2
        clear h1 f g
        have T1 : True := trivial
        go_enter Tryz.func41, Tryz.ntmps41
        go_wp2_with (first
          | (go_at_call 59; have _t := T1; clear T1 _t; refine (hf1 _).mono ?_; rintro e w1 ⟨rfl, rfl⟩)
          | (go_at_call 59; refine (hf2 _).mono ?_; rintro e w1 ⟨rfl, rfl⟩))
        go_ret
        exact ⟨rfl, HB.out _ _⟩
  · have b1 : (a.seq == b.seq) = false := by simpa using h1
    rw [new_ne h1]
    clear h1 hf1 hf2
    go_enter Tryz.func41, Tryz.ntmps41
    go_wp2_with (go_at_call 58; refine (hn _ _ _).mono ?_; rintro e w1 ⟨rfl, rfl⟩)
    go_ret
    exact ⟨rfl, HB.out _ _⟩
theorem heap_set_list {W : World} {k j : Nat} {v : Value} {cs : List Value} {T : TypeId} (h : W.heap[k]? = some (.cells cs.toArray T (0, 0))) : (W.setCell ⟨k, j, none⟩ v).heap[k]? = some (.cells (cs.set j v).toArray T (0, 0)) := by
  rw [heap_setCell_same _ _ _ _ _ _ h]
  simp
theorem set_other {W : World} {k b j : Nat} {v : Value} {o : Obj} (hn : k ≠ b) (h : W.heap[k]? = some o) : (W.setCell ⟨b, j, none⟩ v).heap[k]? = some o := by
  rw [heap_setCell_other _ _ _ _ hn]; exact h
theorem range_list {W : World} {k : Nat} {cs : List Value} {T : TypeId} {fr : Nat × Nat} (h : W.heap[k]? = some (.cells cs.toArray T fr)) : W.rangeAt k 0 cs := by
  intro j v hv
  rw [cell_of_row W k _ _ _ _ h, Nat.zero_add]
  simpa using hv
theorem results_row1 {P : Program} {fn : Func} {tmps : Array Value} {w : World} {a t b : Nat} {cs : List Value} {d : TypeDesc} (hf : fn.results = #[.cell a t]) (ha : tmps.getD a undef = .pointer (some ⟨b, 0, none⟩)) (hc : w.rangeAt b 0 cs)
    (hu : P.underlying t = some d) (hd : d.isRow = true) (hi : (P.info? t).map (·.size) = some cs.length) : (results fn tmps).run P w = .ok (.agg cs.toArray) w := by
  unfold results
  rw [hf]
  have h0 := run_loadVar_mid w b 0 t cs d hc hu hd hi
  have ha' : tmps[a]?.getD undef = .pointer (some ⟨b, 0, none⟩) := by simpa using ha
  simp [ha', asAddr, h0, Result.andThen_ok]
theorem results_row2 {P : Program} {fn : Func} {tmps : Array Value} {w : World} {a t s b : Nat} {cs : List Value} {d : TypeDesc} (hf : fn.results = #[.cell a t, .tmp s]) (ha : tmps.getD a undef = .pointer (some ⟨b, 0, none⟩)) (hc : w.rangeAt b 0 cs)
    (hu : P.underlying t = some d) (hd : d.isRow = true) (hi : (P.info? t).map (·.size) = some cs.length) : (results fn tmps).run P w = .ok (.tuple #[.agg cs.toArray, tmps.getD s undef]) w := by
  unfold results
  rw [hf]
  have h0 := run_loadVar_mid w b 0 t cs d hc hu hd hi
  have ha' : tmps[a]?.getD undef = .pointer (some ⟨b, 0, none⟩) := by simpa using ha
  simp [ha', asAddr, h0, Result.andThen_ok]
theorem ret_dec {p : Prop} [Decidable p] {b : Bool} (h : p ↔ b = true) : Ending.returned (.bool b) = Ending.returned (.bool (decide p)) := by
  by_cases q : p
  · rw [decide_eq_true q, h.1 q]
  · rw [decide_eq_false q]
    cases b
    · rfl
    · exact absurd (h.2 rfl) q
end Go.Proofs.YtpaooddmgcekhaaGreat.ti
