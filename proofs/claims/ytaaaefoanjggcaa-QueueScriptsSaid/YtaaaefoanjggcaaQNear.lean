/-
  QueueNearer: the law's walk.
-/
import Derived.Test.YtaaaefoanjggcaaQLaw
namespace Go.Proofs.Ytaaaefoanjggcaa
set_option linter.unusedSimpArgs false
set_option linter.unusedVariables false
open Go.RowKit
theorem near_no (a : Option Addr) (cap : Nat) (l : List Job) (hl : l.length ≤ 9223372036854775807) (hno : 200 < l.length) (x : Job) (w : World) :
    Calls Try.prog 6 #[.slice a l.length cap, .agg #[.int .i64 x.k, .int .i64 x.a]] w fun e w' => e = .returned (.bool true) ∧ Below w.heap.size w w' := by
  have haw := awake_any
  have HB0 : Hid (Below w.heap.size w (w.alloc (.cells #[.int .i64 x.k, .int .i64 x.a] 30))) := (Below.refl _ _).alloc (Nat.le_refl _) _
  generalize l.length = len at *
  go_enter Try.func6, Try.ntmps6
  go_wp2_with (go_at_call 8; refine (haw _).mono ?_; rintro e w1 ⟨rfl, hb1⟩; have HB1 := Lib.hid (HB0.out.trans (hb1.mono HB0.out.size)); clear hb1)
  go_ret
  exact ⟨rfl, HB1.out⟩
theorem getR_app {R : List Job} {x : Job} (h : getR R x.k = none) : getR (R ++ [x]) x.k = some x.a := by
  unfold getR at h ⊢
  rw [List.find?_append]
  cases hf : R.find? (fun y => decide (y.k = x.k)) with
  | none => simp
  | some y => rw [hf] at h; cases h
theorem getR_rep {R : List Job} {x : Job} {a : Int} (h : getR R x.k = some a) : getR (repR R x) x.k = some x.a := by
  induction R with
  | nil => simp [getR] at h
  | cons y R ih =>
    unfold getR repR at *
    rw [List.map_cons, List.find?_cons]
    by_cases e : y.k = x.k
    · rw [if_pos e]; simp
    · rw [List.find?_cons, decide_eq_false e] at h
      rw [if_neg e, decide_eq_false e]
      exact ih h
/-- What the law asks. -/
theorem near_facts {R : List Job} {x : Job} : (getR R x.k = none ∧ newsR R x = true ∧ getR (putR R x) x.k = some x.a ∧ (putR R x).length = R.length + 1) ∨ (∃ a, getR R x.k = some a ∧ newsR R x = decide (x.a < a) ∧ getR (putR R x) x.k = some (min a x.a) ∧ (putR R x).length = R.length) := by
  cases hg : getR R x.k with
  | none =>
    obtain ⟨e1, e2⟩ := putR_none hg
    rw [e1, e2]
    exact .inl ⟨rfl, rfl, getR_app hg, by simp⟩
  | some a =>
    refine .inr ⟨a, rfl, ?_⟩
    by_cases hl : x.a < a
    · obtain ⟨e1, e2⟩ := putR_less hg hl
      rw [e1, e2]
      exact ⟨(decide_eq_true hl).symm, by rw [getR_rep hg]; congr 1; omega, by unfold repR; simp⟩
    · obtain ⟨e1, e2⟩ := putR_stay hg hl
      rw [e1, e2]
      exact ⟨(decide_eq_false hl).symm, by rw [hg]; congr 1; omega, rfl⟩
set_option maxHeartbeats 2000000 in
set_option maxRecDepth 100000 in
theorem near_ok (a : Option Addr) (cap : Nat) (l : List Job) (hl : l.length ≤ 200) (x : Job) (hx : InI x.k) (w : World) (hr : RdJ w.heap.size w a l) :
    Calls Try.prog 6 #[.slice a l.length cap, .agg #[.int .i64 x.k, .int .i64 x.a]] w fun e w' => e = .returned (.bool true) ∧ Below w.heap.size w w' := by
  have haw := awake_any
  have HB0 : Hid (Below w.heap.size w (w.alloc (.cells #[.int .i64 x.k, .int .i64 x.a] 30))) := (Below.refl _ _).alloc (Nat.le_refl _) _
  have HBX := Lib.hid (BxJ.new 30 w x)
  have hnw := fun W (hW : Below w.heap.size w W) => newP a cap l (by omega) W ((hr.below hW (Nat.le_refl _)).mono hW.size)
  have HN := Lib.hid hnw
  have hat0 := fun w0 W (h : Newed w0 l.length (allR l) W) => atP h x.k hx
  have hat1 := fun w0 W (h : Newed w0 (l.length + 1) (putR (allR l) x) W) => atP h x.k hx
  have hln0 := fun w0 W (h : Newed w0 l.length (allR l) W) => lenP h
  have hln1 := fun w0 W (h : Newed w0 (l.length + 1) (putR (allR l) x) W) => lenP h
  have hpt := fun w0 W (h : Newed w0 l.length (allR l) W) => putP h x hx (by omega)
  have hlr : ∀ w0 W, Newed w0 l.length (allR l) W → (allR l).length ≤ 200 := fun w0 W h => by have := h.len; omega
  have hfa := near_facts (R := allR l) (x := x)
  generalize allR l = R at *
  generalize hR' : putR R x = R' at *
  clear hR' hr
  have HLR := Lib.hid hlr
  generalize l.length = len at *
  have T1 : True := trivial
  clear hnw hlr
  rcases hfa with ⟨f1, f2, f3, f4⟩ | ⟨v, f1, f2, f3, f4⟩
  · rw [f1] at hat0
    rw [f2] at hpt
    rw [f3] at hat1
    rw [f4] at hln1
    simp only [Option.getD_none, Option.isSome_none, Option.getD_some, Option.isSome_some] at hat0 hat1
    clear f1 f2 f3 f4
    have H1 := Lib.hid hat0
    have H2 := Lib.hid hat1
    have H3 := Lib.hid hln0
    have H4 := Lib.hid hln1
    have H5 := Lib.hid hpt
    clear hat0 hat1 hln0 hln1 hpt
    go_enter Try.func6, Try.ntmps6
    go_wp2_with (first
      | (go_at_call 8; refine (haw _).mono ?_; rintro e w1 ⟨rfl, hb1⟩; have HB1 := Lib.hid (HB0.out.trans (hb1.mono HB0.out.size)); have bx1 := HBX.out.same (hb1.block _ HBX.out.lt); have BX1 := Lib.hid bx1; clear hb1 bx1)
      | (go_at_call 9; refine (HN.out _ HB1.out).mono ?_; rintro e w2 ⟨rfl, hq⟩; have Q2 := Lib.hid hq; have bx2 := BX1.out.same (hq.bel.block _ BX1.out.lt); have BX2 := Lib.hid bx2; have hlen := HLR.out _ _ hq; obtain ⟨b0, b1, _, _⟩ := bx2.cells; clear hq bx2)
      | (go_at_call 17; have t1 := T1; clear T1 t1; ((with_reducible refine (H1.out _ _ Q2.out).mono ?_); rintro e w3 ⟨rfl, hq, hk⟩); have Q3 := Lib.hid hq; have bx3 := BX2.out.keep (by decide) (by decide) hk; have BX3 := Lib.hid bx3; obtain ⟨c0, c1, _, _⟩ := bx3.cells; have T2 : True := trivial; clear hq hk bx3)
      | (go_at_call 19; have t2 := T2; clear T2 t2; ((with_reducible refine (H3.out _ _ Q3.out).mono ?_); rintro e w4 ⟨rfl, rfl⟩))
      | (go_at_call 11; ((with_reducible refine (H5.out _ _ Q3.out).mono ?_); rintro e w5 ⟨rfl, hq, hk⟩); have Q5 := Lib.hid hq; have bx5 := BX3.out.keep (by decide) (by decide) hk; have BX5 := Lib.hid bx5; obtain ⟨d0, d1, _, _⟩ := bx5.cells; clear hq hk bx5)
      | (go_at_call 17; ((with_reducible refine (H2.out _ _ Q5.out).mono ?_); rintro e w6 ⟨rfl, hq, hk⟩); have Q6 := Lib.hid hq; have bx6 := BX5.out.keep (by decide) (by decide) hk; obtain ⟨k0, k1, _, _⟩ := bx6.cells; clear hq hk bx6)
      | (go_at_call 19; ((with_reducible refine (H4.out _ _ Q6.out).mono ?_); rintro e w7 ⟨rfl, rfl⟩)))
    go_ret
    exact ⟨(by first | rfl | (simp only [Array.getD_eq_getD_getElem?]; simp [hxv, hmin]; omega)), HB1.out.trans (Q6.out.bel.mono HB1.out.size)⟩
  · by_cases hxv : x.a < v
    · rw [show min v x.a = x.a by omega] at f3
      rw [decide_eq_true hxv] at f2
      rw [f1] at hat0
      rw [f2] at hpt
      rw [f3] at hat1
      rw [f4] at hln1
      simp only [Option.getD_none, Option.isSome_none, Option.getD_some, Option.isSome_some] at hat0 hat1
      clear f1 f2 f3 f4
      have H1 := Lib.hid hat0
      have H2 := Lib.hid hat1
      have H3 := Lib.hid hln0
      have H4 := Lib.hid hln1
      have H5 := Lib.hid hpt
      clear hat0 hat1 hln0 hln1 hpt
      have hmin : min v x.a = x.a := by omega
      go_enter Try.func6, Try.ntmps6
      go_wp2_with (first
        | (go_at_call 8; refine (haw _).mono ?_; rintro e w1 ⟨rfl, hb1⟩; have HB1 := Lib.hid (HB0.out.trans (hb1.mono HB0.out.size)); have bx1 := HBX.out.same (hb1.block _ HBX.out.lt); have BX1 := Lib.hid bx1; clear hb1 bx1)
        | (go_at_call 9; refine (HN.out _ HB1.out).mono ?_; rintro e w2 ⟨rfl, hq⟩; have Q2 := Lib.hid hq; have bx2 := BX1.out.same (hq.bel.block _ BX1.out.lt); have BX2 := Lib.hid bx2; have hlen := HLR.out _ _ hq; obtain ⟨b0, b1, _, _⟩ := bx2.cells; clear hq bx2)
        | (go_at_call 17; have t1 := T1; clear T1 t1; ((with_reducible refine (H1.out _ _ Q2.out).mono ?_); rintro e w3 ⟨rfl, hq, hk⟩); have Q3 := Lib.hid hq; have bx3 := BX2.out.keep (by decide) (by decide) hk; have BX3 := Lib.hid bx3; obtain ⟨c0, c1, _, _⟩ := bx3.cells; have T2 : True := trivial; clear hq hk bx3)
        | (go_at_call 19; have t2 := T2; clear T2 t2; ((with_reducible refine (H3.out _ _ Q3.out).mono ?_); rintro e w4 ⟨rfl, rfl⟩))
        | (go_at_call 11; ((with_reducible refine (H5.out _ _ Q3.out).mono ?_); rintro e w5 ⟨rfl, hq, hk⟩); have Q5 := Lib.hid hq; have bx5 := BX3.out.keep (by decide) (by decide) hk; have BX5 := Lib.hid bx5; obtain ⟨d0, d1, _, _⟩ := bx5.cells; clear hq hk bx5)
        | (go_at_call 17; ((with_reducible refine (H2.out _ _ Q5.out).mono ?_); rintro e w6 ⟨rfl, hq, hk⟩); have Q6 := Lib.hid hq; have bx6 := BX5.out.keep (by decide) (by decide) hk; obtain ⟨k0, k1, _, _⟩ := bx6.cells; clear hq hk bx6)
        | (go_at_call 19; ((with_reducible refine (H4.out _ _ Q6.out).mono ?_); rintro e w7 ⟨rfl, rfl⟩)))
      go_ret
      exact ⟨(by first | rfl | (simp only [Array.getD_eq_getD_getElem?]; simp [hxv, hmin]; omega)), HB1.out.trans (Q6.out.bel.mono HB1.out.size)⟩
    · rw [show min v x.a = v by omega] at f3
      rw [decide_eq_false hxv] at f2
      rw [f1] at hat0
      rw [f2] at hpt
      rw [f3] at hat1
      rw [f4] at hln1
      simp only [Option.getD_none, Option.isSome_none, Option.getD_some, Option.isSome_some] at hat0 hat1
      clear f1 f2 f3 f4
      have H1 := Lib.hid hat0
      have H2 := Lib.hid hat1
      have H3 := Lib.hid hln0
      have H4 := Lib.hid hln1
      have H5 := Lib.hid hpt
      clear hat0 hat1 hln0 hln1 hpt
      have hmin : min v x.a = v := by omega
      go_enter Try.func6, Try.ntmps6
      go_wp2_with (first
        | (go_at_call 8; refine (haw _).mono ?_; rintro e w1 ⟨rfl, hb1⟩; have HB1 := Lib.hid (HB0.out.trans (hb1.mono HB0.out.size)); have bx1 := HBX.out.same (hb1.block _ HBX.out.lt); have BX1 := Lib.hid bx1; clear hb1 bx1)
        | (go_at_call 9; refine (HN.out _ HB1.out).mono ?_; rintro e w2 ⟨rfl, hq⟩; have Q2 := Lib.hid hq; have bx2 := BX1.out.same (hq.bel.block _ BX1.out.lt); have BX2 := Lib.hid bx2; have hlen := HLR.out _ _ hq; obtain ⟨b0, b1, _, _⟩ := bx2.cells; clear hq bx2)
        | (go_at_call 17; have t1 := T1; clear T1 t1; ((with_reducible refine (H1.out _ _ Q2.out).mono ?_); rintro e w3 ⟨rfl, hq, hk⟩); have Q3 := Lib.hid hq; have bx3 := BX2.out.keep (by decide) (by decide) hk; have BX3 := Lib.hid bx3; obtain ⟨c0, c1, _, _⟩ := bx3.cells; have T2 : True := trivial; clear hq hk bx3)
        | (go_at_call 19; have t2 := T2; clear T2 t2; ((with_reducible refine (H3.out _ _ Q3.out).mono ?_); rintro e w4 ⟨rfl, rfl⟩))
        | (go_at_call 11; ((with_reducible refine (H5.out _ _ Q3.out).mono ?_); rintro e w5 ⟨rfl, hq, hk⟩); have Q5 := Lib.hid hq; have bx5 := BX3.out.keep (by decide) (by decide) hk; have BX5 := Lib.hid bx5; obtain ⟨d0, d1, _, _⟩ := bx5.cells; clear hq hk bx5)
        | (go_at_call 17; ((with_reducible refine (H2.out _ _ Q5.out).mono ?_); rintro e w6 ⟨rfl, hq, hk⟩); have Q6 := Lib.hid hq; have bx6 := BX5.out.keep (by decide) (by decide) hk; obtain ⟨k0, k1, _, _⟩ := bx6.cells; clear hq hk bx6)
        | (go_at_call 19; ((with_reducible refine (H4.out _ _ Q6.out).mono ?_); rintro e w7 ⟨rfl, rfl⟩)))
      go_ret
      exact ⟨(by first | rfl | (simp only [Array.getD_eq_getD_getElem?]; simp [hxv, hmin]; omega)), HB1.out.trans (Q6.out.bel.mono HB1.out.size)⟩
theorem near_walk (a : Option Addr) (cap : Nat) (l : List Job) (hl : l.length ≤ 9223372036854775807) (x : Job) (hx : InI x.k) (w : World) (hr : RdJ w.heap.size w a l) :
    Calls Try.prog 6 #[.slice a l.length cap, .agg #[.int .i64 x.k, .int .i64 x.a]] w fun e w' => e = .returned (.bool true) ∧ Below w.heap.size w w' := by
  by_cases h : l.length ≤ 200
  · exact near_ok a cap l h x hx w hr
  · exact near_no a cap l hl (by omega) x w
end Go.Proofs.Ytaaaefoanjggcaa
