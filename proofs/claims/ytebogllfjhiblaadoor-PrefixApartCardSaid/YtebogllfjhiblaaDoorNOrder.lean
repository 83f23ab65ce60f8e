/-
  PREFIXES: the law of the order.
-/
import Derived.Test.YtebogllfjhiblaaDoorNHolds
namespace Go.Proofs.YtebogllfjhiblaaDoor
set_option linter.unusedVariables false
open Go.RowKit
theorem cmpI_cases (a b : Int) : (a < b ∧ cmpI a b = -1) ∨ (a = b ∧ cmpI a b = 0) ∨ (b < a ∧ cmpI a b = 1) := by
  rcases Int.lt_trichotomy a b with h | h | h
  · exact .inl ⟨h, cmpI_lt h⟩
  · subst h; exact .inr (.inl ⟨rfl, cmpI_eq _⟩)
  · exact .inr (.inr ⟨h, cmpI_gt h⟩)
theorem cmpP_cases (p q : Nat × Int) : ((p.1 < q.1 ∨ (p.1 = q.1 ∧ p.2 < q.2)) ∧ cmpP p q = -1) ∨ ((p.1 = q.1 ∧ p.2 = q.2) ∧ cmpP p q = 0) ∨ ((q.1 < p.1 ∨ (q.1 = p.1 ∧ q.2 < p.2)) ∧ cmpP p q = 1) := by
  unfold cmpP
  rcases cmpI_cases p.1 q.1 with ⟨h, e⟩ | ⟨h, e⟩ | ⟨h, e⟩
  · rw [e, if_neg (by decide)]
    exact .inl ⟨.inl (by omega), rfl⟩
  · rw [e, if_pos rfl]
    rcases cmpI_cases p.2 q.2 with ⟨h2, e2⟩ | ⟨h2, e2⟩ | ⟨h2, e2⟩
    · exact .inl ⟨.inr ⟨by omega, h2⟩, e2⟩
    · exact .inr (.inl ⟨⟨by omega, h2⟩, e2⟩)
    · exact .inr (.inr ⟨.inr ⟨by omega, h2⟩, e2⟩)
  · rw [e, if_neg (by decide)]
    exact .inr (.inr ⟨.inl (by omega), rfl⟩)
theorem covers_le {p q : Nat × Int} (h : coversP p q = true) : cmpP p q ≤ 0 := by
  unfold coversP at h
  simp only [Bool.and_eq_true, decide_eq_true_eq] at h
  obtain ⟨hq, hb, hi⟩ := h
  unfold inP at hi
  simp only [Bool.and_eq_true, decide_eq_true_eq] at hi
  rcases cmpP_cases p q with ⟨h, e⟩ | ⟨h, e⟩ | ⟨h, e⟩
  · omega
  · omega
  · have := hi.2
    omega
structure Tri (W : World) (k : Nat) (a b c d e f : Value) : Prop where
  b1 : Bx W k a b
  b2 : Bx W (k + 1) c d
  b3 : Bx W (k + 1 + 1) e f
theorem Tri.keep {W W' : World} {k : Nat} {a b c d e f : Value} (h : Tri W k a b c d e f) (hb : Below W.heap.size W W') : Tri W' k a b c d e f :=
  ⟨h.b1.keep hb h.b1.lt, h.b2.keep hb h.b2.lt, h.b3.keep hb h.b3.lt⟩
theorem Tri.new (w : World) (a b c d e f : Value) : Tri (((w.alloc (.cells #[a, b] 24)).alloc (.cells #[c, d] 24)).alloc (.cells #[e, f] 24)) w.heap.size a b c d e f := by
  have h2 := (Bx.new (w.alloc (.cells #[a, b] 24)) c d).alloc (.cells #[e, f] 24)
  have h3 := Bx.new ((w.alloc (.cells #[a, b] 24)).alloc (.cells #[c, d] 24)) e f
  simp only [World.size_alloc] at h2 h3
  exact ⟨((Bx.new w a b).alloc _).alloc _, h2, h3⟩
set_option maxHeartbeats 1000000 in
set_option maxRecDepth 100000 in
theorem order_walk1 (n : Nat) (b : Int) (m : Nat) (c : Int) (o : Nat) (d : Int) (X U V : Int) (hX : (X = -1 ∧ ¬ (n = m ∧ b = c)) ∨ (X = 0 ∧ n = m ∧ b = c) ∨ (X = 1 ∧ ¬ (n = m ∧ b = c))) (hUV : X ≤ 0 → U ≤ 0 → V ≤ 0) (C : Bool) (hC : C = true → X ≤ 0)
    (h1 : ∀ w, Calls Tryd.prog 24 #[.agg #[.int .u32 n, .int .i64 b], .agg #[.int .u32 m, .int .i64 c]] w fun e w' => e = .returned (.int .i64 X) ∧ Below w.heap.size w w')
    (h2 : ∀ w, Calls Tryd.prog 24 #[.agg #[.int .u32 m, .int .i64 c], .agg #[.int .u32 n, .int .i64 b]] w fun e w' => e = .returned (.int .i64 (-X)) ∧ Below w.heap.size w w')
    (h3 : ∀ w, Calls Tryd.prog 24 #[.agg #[.int .u32 m, .int .i64 c], .agg #[.int .u32 o, .int .i64 d]] w fun e w' => e = .returned (.int .i64 U) ∧ Below w.heap.size w w')
    (h4 : ∀ w, Calls Tryd.prog 24 #[.agg #[.int .u32 n, .int .i64 b], .agg #[.int .u32 o, .int .i64 d]] w fun e w' => e = .returned (.int .i64 V) ∧ Below w.heap.size w w')
    (h5 : ∀ w, Calls Tryd.prog 22 #[.agg #[.int .u32 n, .int .i64 b], .agg #[.int .u32 m, .int .i64 c]] w fun e w' => e = .returned (.bool C) ∧ Below w.heap.size w w')
    (w : World) (hT : TabP w.heap.size w) :
    Calls Tryd.prog 10 #[.agg #[.int .u32 n, .int .i64 b], .agg #[.int .u32 m, .int .i64 c], .agg #[.int .u32 o, .int .i64 d]] w fun e w' => e = .returned (.bool true) ∧ Below w.heap.size w w' := by
  have hbl : Below w.heap.size w (((w.alloc (.cells #[.int .u32 n, .int .i64 b] 24)).alloc (.cells #[.int .u32 m, .int .i64 c] 24)).alloc (.cells #[.int .u32 o, .int .i64 d] 24)) := boxes2
  have haw := awake6_any _ ((TabP.on hT hbl).up hbl.size)
  have HB0 := Lib.hid hbl
  have T0 := Lib.hid (Tri.new w (.int .u32 n) (.int .i64 b) (.int .u32 m) (.int .i64 c) (.int .u32 o) (.int .i64 d))
  have TK1 : True := trivial
  have TK2 : True := trivial
  have TK3 : True := trivial
  clear hbl hT
  rcases hX with ⟨rfl, hne⟩ | ⟨rfl, rfl, rfl⟩ | ⟨rfl, hne⟩
  · have huv : U ≤ 0 → V ≤ 0 := hUV (by decide)
    clear hUV hC
    by_cases hu : U ≤ 0
    · have hv : ¬ 0 < V := by have := huv hu; omega
      have du : decide (U ≤ 0) = true := decide_eq_true hu
      have dv : decide (0 < V) = false := decide_eq_false hv
      clear huv
      by_cases hnm : n = m
      · subst hnm
        have hbc : ¬ b = c := fun e => hne ⟨rfl, e⟩
        clear hne
        go_enter Tryd.func10, Tryd.ntmps10
        go_wp2_with (first
          | (go_at_call 11; refine haw.mono ?_; rintro e w1 ⟨rfl, hb1⟩; have T1 := Lib.hid (T0.out.keep hb1); have HB1 := Lib.hid (HB0.out.trans (hb1.mono HB0.out.size)); obtain ⟨x0, x1, _, _⟩ := T1.out.b1.cells; obtain ⟨y0, y1, _, _⟩ := T1.out.b2.cells; clear hb1)
          | (go_at_call 24; have tt := TK1; clear TK1 tt; ((with_reducible refine (h1 _).mono ?_); rintro e w2 ⟨rfl, hb2⟩); have T2 := Lib.hid (T1.out.keep hb2); have HB2 := Lib.hid (HB1.out.trans (hb2.mono HB1.out.size)); obtain ⟨x0, x1, _, _⟩ := T2.out.b1.cells; obtain ⟨y0, y1, _, _⟩ := T2.out.b2.cells; obtain ⟨z0, z1, _, _⟩ := T2.out.b3.cells; clear hb2)
          | (go_at_call 24; have tt := TK2; clear TK2 tt; ((with_reducible refine (h2 _).mono ?_); rintro e w3 ⟨rfl, hb3⟩); have T3 := Lib.hid (T2.out.keep hb3); have HB3 := Lib.hid (HB2.out.trans (hb3.mono HB2.out.size)); obtain ⟨x0, x1, _, _⟩ := T3.out.b1.cells; obtain ⟨y0, y1, _, _⟩ := T3.out.b2.cells; obtain ⟨z0, z1, _, _⟩ := T3.out.b3.cells; clear hb3)
          | (go_at_call 24; have tt := TK3; clear TK3 tt; ((with_reducible refine (h3 _).mono ?_); rintro e w4 ⟨rfl, hb4⟩); have T4 := Lib.hid (T3.out.keep hb4); have HB4 := Lib.hid (HB3.out.trans (hb4.mono HB3.out.size)); obtain ⟨x0, x1, _, _⟩ := T4.out.b1.cells; obtain ⟨y0, y1, _, _⟩ := T4.out.b2.cells; obtain ⟨z0, z1, _, _⟩ := T4.out.b3.cells; clear hb4)
          | (go_at_call 24; ((with_reducible refine (h4 _).mono ?_); rintro e w5 ⟨rfl, hb5⟩); have T5 := Lib.hid (T4.out.keep hb5); have HB5 := Lib.hid (HB4.out.trans (hb5.mono HB4.out.size)); obtain ⟨x0, x1, _, _⟩ := T5.out.b1.cells; obtain ⟨y0, y1, _, _⟩ := T5.out.b2.cells; obtain ⟨z0, z1, _, _⟩ := T5.out.b3.cells; clear hb5)
          | (go_at_call 22; ((with_reducible refine (h5 _).mono ?_); rintro e w6 ⟨rfl, hb6⟩); have T6 := Lib.hid (T5.out.keep hb6); have HB6 := Lib.hid (HB5.out.trans (hb6.mono HB5.out.size)); obtain ⟨x0, x1, _, _⟩ := T6.out.b1.cells; obtain ⟨y0, y1, _, _⟩ := T6.out.b2.cells; obtain ⟨z0, z1, _, _⟩ := T6.out.b3.cells; clear hb6))
        all_goals (go_ret; exact ⟨rfl, HB6.out⟩)
      · have hnm2 : ¬ (n : Int) = m := by omega
        clear hne hnm
        go_enter Tryd.func10, Tryd.ntmps10
        go_wp2_with (first
          | (go_at_call 11; refine haw.mono ?_; rintro e w1 ⟨rfl, hb1⟩; have T1 := Lib.hid (T0.out.keep hb1); have HB1 := Lib.hid (HB0.out.trans (hb1.mono HB0.out.size)); obtain ⟨x0, x1, _, _⟩ := T1.out.b1.cells; obtain ⟨y0, y1, _, _⟩ := T1.out.b2.cells; clear hb1)
          | (go_at_call 24; have tt := TK1; clear TK1 tt; ((with_reducible refine (h1 _).mono ?_); rintro e w2 ⟨rfl, hb2⟩); have T2 := Lib.hid (T1.out.keep hb2); have HB2 := Lib.hid (HB1.out.trans (hb2.mono HB1.out.size)); obtain ⟨x0, x1, _, _⟩ := T2.out.b1.cells; obtain ⟨y0, y1, _, _⟩ := T2.out.b2.cells; obtain ⟨z0, z1, _, _⟩ := T2.out.b3.cells; clear hb2)
          | (go_at_call 24; have tt := TK2; clear TK2 tt; ((with_reducible refine (h2 _).mono ?_); rintro e w3 ⟨rfl, hb3⟩); have T3 := Lib.hid (T2.out.keep hb3); have HB3 := Lib.hid (HB2.out.trans (hb3.mono HB2.out.size)); obtain ⟨x0, x1, _, _⟩ := T3.out.b1.cells; obtain ⟨y0, y1, _, _⟩ := T3.out.b2.cells; obtain ⟨z0, z1, _, _⟩ := T3.out.b3.cells; clear hb3)
          | (go_at_call 24; have tt := TK3; clear TK3 tt; ((with_reducible refine (h3 _).mono ?_); rintro e w4 ⟨rfl, hb4⟩); have T4 := Lib.hid (T3.out.keep hb4); have HB4 := Lib.hid (HB3.out.trans (hb4.mono HB3.out.size)); obtain ⟨x0, x1, _, _⟩ := T4.out.b1.cells; obtain ⟨y0, y1, _, _⟩ := T4.out.b2.cells; obtain ⟨z0, z1, _, _⟩ := T4.out.b3.cells; clear hb4)
          | (go_at_call 24; ((with_reducible refine (h4 _).mono ?_); rintro e w5 ⟨rfl, hb5⟩); have T5 := Lib.hid (T4.out.keep hb5); have HB5 := Lib.hid (HB4.out.trans (hb5.mono HB4.out.size)); obtain ⟨x0, x1, _, _⟩ := T5.out.b1.cells; obtain ⟨y0, y1, _, _⟩ := T5.out.b2.cells; obtain ⟨z0, z1, _, _⟩ := T5.out.b3.cells; clear hb5)
          | (go_at_call 22; ((with_reducible refine (h5 _).mono ?_); rintro e w6 ⟨rfl, hb6⟩); have T6 := Lib.hid (T5.out.keep hb6); have HB6 := Lib.hid (HB5.out.trans (hb6.mono HB5.out.size)); obtain ⟨x0, x1, _, _⟩ := T6.out.b1.cells; obtain ⟨y0, y1, _, _⟩ := T6.out.b2.cells; obtain ⟨z0, z1, _, _⟩ := T6.out.b3.cells; clear hb6))
        all_goals (go_ret; exact ⟨rfl, HB6.out⟩)
    · have du : decide (U ≤ 0) = false := decide_eq_false hu
      clear huv
      by_cases hnm : n = m
      · subst hnm
        have hbc : ¬ b = c := fun e => hne ⟨rfl, e⟩
        clear hne
        go_enter Tryd.func10, Tryd.ntmps10
        go_wp2_with (first
          | (go_at_call 11; refine haw.mono ?_; rintro e w1 ⟨rfl, hb1⟩; have T1 := Lib.hid (T0.out.keep hb1); have HB1 := Lib.hid (HB0.out.trans (hb1.mono HB0.out.size)); obtain ⟨x0, x1, _, _⟩ := T1.out.b1.cells; obtain ⟨y0, y1, _, _⟩ := T1.out.b2.cells; clear hb1)
          | (go_at_call 24; have tt := TK1; clear TK1 tt; ((with_reducible refine (h1 _).mono ?_); rintro e w2 ⟨rfl, hb2⟩); have T2 := Lib.hid (T1.out.keep hb2); have HB2 := Lib.hid (HB1.out.trans (hb2.mono HB1.out.size)); obtain ⟨x0, x1, _, _⟩ := T2.out.b1.cells; obtain ⟨y0, y1, _, _⟩ := T2.out.b2.cells; obtain ⟨z0, z1, _, _⟩ := T2.out.b3.cells; clear hb2)
          | (go_at_call 24; have tt := TK2; clear TK2 tt; ((with_reducible refine (h2 _).mono ?_); rintro e w3 ⟨rfl, hb3⟩); have T3 := Lib.hid (T2.out.keep hb3); have HB3 := Lib.hid (HB2.out.trans (hb3.mono HB2.out.size)); obtain ⟨x0, x1, _, _⟩ := T3.out.b1.cells; obtain ⟨y0, y1, _, _⟩ := T3.out.b2.cells; obtain ⟨z0, z1, _, _⟩ := T3.out.b3.cells; clear hb3)
          | (go_at_call 24; ((with_reducible refine (h3 _).mono ?_); rintro e w4 ⟨rfl, hb4⟩); have T4 := Lib.hid (T3.out.keep hb4); have HB4 := Lib.hid (HB3.out.trans (hb4.mono HB3.out.size)); obtain ⟨x0, x1, _, _⟩ := T4.out.b1.cells; obtain ⟨y0, y1, _, _⟩ := T4.out.b2.cells; obtain ⟨z0, z1, _, _⟩ := T4.out.b3.cells; clear hb4)
          | (go_at_call 22; ((with_reducible refine (h5 _).mono ?_); rintro e w5 ⟨rfl, hb5⟩); have T5 := Lib.hid (T4.out.keep hb5); have HB5 := Lib.hid (HB4.out.trans (hb5.mono HB4.out.size)); obtain ⟨x0, x1, _, _⟩ := T5.out.b1.cells; obtain ⟨y0, y1, _, _⟩ := T5.out.b2.cells; obtain ⟨z0, z1, _, _⟩ := T5.out.b3.cells; clear hb5))
        all_goals (go_ret; exact ⟨rfl, HB5.out⟩)
      · have hnm2 : ¬ (n : Int) = m := by omega
        clear hne hnm
        go_enter Tryd.func10, Tryd.ntmps10
        go_wp2_with (first
          | (go_at_call 11; refine haw.mono ?_; rintro e w1 ⟨rfl, hb1⟩; have T1 := Lib.hid (T0.out.keep hb1); have HB1 := Lib.hid (HB0.out.trans (hb1.mono HB0.out.size)); obtain ⟨x0, x1, _, _⟩ := T1.out.b1.cells; obtain ⟨y0, y1, _, _⟩ := T1.out.b2.cells; clear hb1)
          | (go_at_call 24; have tt := TK1; clear TK1 tt; ((with_reducible refine (h1 _).mono ?_); rintro e w2 ⟨rfl, hb2⟩); have T2 := Lib.hid (T1.out.keep hb2); have HB2 := Lib.hid (HB1.out.trans (hb2.mono HB1.out.size)); obtain ⟨x0, x1, _, _⟩ := T2.out.b1.cells; obtain ⟨y0, y1, _, _⟩ := T2.out.b2.cells; obtain ⟨z0, z1, _, _⟩ := T2.out.b3.cells; clear hb2)
          | (go_at_call 24; have tt := TK2; clear TK2 tt; ((with_reducible refine (h2 _).mono ?_); rintro e w3 ⟨rfl, hb3⟩); have T3 := Lib.hid (T2.out.keep hb3); have HB3 := Lib.hid (HB2.out.trans (hb3.mono HB2.out.size)); obtain ⟨x0, x1, _, _⟩ := T3.out.b1.cells; obtain ⟨y0, y1, _, _⟩ := T3.out.b2.cells; obtain ⟨z0, z1, _, _⟩ := T3.out.b3.cells; clear hb3)
          | (go_at_call 24; ((with_reducible refine (h3 _).mono ?_); rintro e w4 ⟨rfl, hb4⟩); have T4 := Lib.hid (T3.out.keep hb4); have HB4 := Lib.hid (HB3.out.trans (hb4.mono HB3.out.size)); obtain ⟨x0, x1, _, _⟩ := T4.out.b1.cells; obtain ⟨y0, y1, _, _⟩ := T4.out.b2.cells; obtain ⟨z0, z1, _, _⟩ := T4.out.b3.cells; clear hb4)
          | (go_at_call 22; ((with_reducible refine (h5 _).mono ?_); rintro e w5 ⟨rfl, hb5⟩); have T5 := Lib.hid (T4.out.keep hb5); have HB5 := Lib.hid (HB4.out.trans (hb5.mono HB4.out.size)); obtain ⟨x0, x1, _, _⟩ := T5.out.b1.cells; obtain ⟨y0, y1, _, _⟩ := T5.out.b2.cells; obtain ⟨z0, z1, _, _⟩ := T5.out.b3.cells; clear hb5))
        all_goals (go_ret; exact ⟨rfl, HB5.out⟩)
  · have huv : U ≤ 0 → V ≤ 0 := hUV (by decide)
    clear hUV hC
    by_cases hu : U ≤ 0
    · have hv : ¬ 0 < V := by have := huv hu; omega
      have du : decide (U ≤ 0) = true := decide_eq_true hu
      have dv : decide (0 < V) = false := decide_eq_false hv
      clear huv
      go_enter Tryd.func10, Tryd.ntmps10
      go_wp2_with (first
        | (go_at_call 11; refine haw.mono ?_; rintro e w1 ⟨rfl, hb1⟩; have T1 := Lib.hid (T0.out.keep hb1); have HB1 := Lib.hid (HB0.out.trans (hb1.mono HB0.out.size)); obtain ⟨x0, x1, _, _⟩ := T1.out.b1.cells; obtain ⟨y0, y1, _, _⟩ := T1.out.b2.cells; clear hb1)
        | (go_at_call 24; have tt := TK1; clear TK1 tt; ((with_reducible refine (h1 _).mono ?_); rintro e w2 ⟨rfl, hb2⟩); have T2 := Lib.hid (T1.out.keep hb2); have HB2 := Lib.hid (HB1.out.trans (hb2.mono HB1.out.size)); obtain ⟨x0, x1, _, _⟩ := T2.out.b1.cells; obtain ⟨y0, y1, _, _⟩ := T2.out.b2.cells; obtain ⟨z0, z1, _, _⟩ := T2.out.b3.cells; clear hb2)
        | (go_at_call 24; have tt := TK2; clear TK2 tt; ((with_reducible refine (h2 _).mono ?_); rintro e w3 ⟨rfl, hb3⟩); have T3 := Lib.hid (T2.out.keep hb3); have HB3 := Lib.hid (HB2.out.trans (hb3.mono HB2.out.size)); obtain ⟨x0, x1, _, _⟩ := T3.out.b1.cells; obtain ⟨y0, y1, _, _⟩ := T3.out.b2.cells; obtain ⟨z0, z1, _, _⟩ := T3.out.b3.cells; clear hb3)
        | (go_at_call 24; have tt := TK3; clear TK3 tt; ((with_reducible refine (h3 _).mono ?_); rintro e w4 ⟨rfl, hb4⟩); have T4 := Lib.hid (T3.out.keep hb4); have HB4 := Lib.hid (HB3.out.trans (hb4.mono HB3.out.size)); obtain ⟨x0, x1, _, _⟩ := T4.out.b1.cells; obtain ⟨y0, y1, _, _⟩ := T4.out.b2.cells; obtain ⟨z0, z1, _, _⟩ := T4.out.b3.cells; clear hb4)
        | (go_at_call 24; ((with_reducible refine (h4 _).mono ?_); rintro e w5 ⟨rfl, hb5⟩); have T5 := Lib.hid (T4.out.keep hb5); have HB5 := Lib.hid (HB4.out.trans (hb5.mono HB4.out.size)); obtain ⟨x0, x1, _, _⟩ := T5.out.b1.cells; obtain ⟨y0, y1, _, _⟩ := T5.out.b2.cells; obtain ⟨z0, z1, _, _⟩ := T5.out.b3.cells; clear hb5)
        | (go_at_call 22; ((with_reducible refine (h5 _).mono ?_); rintro e w6 ⟨rfl, hb6⟩); have T6 := Lib.hid (T5.out.keep hb6); have HB6 := Lib.hid (HB5.out.trans (hb6.mono HB5.out.size)); obtain ⟨x0, x1, _, _⟩ := T6.out.b1.cells; obtain ⟨y0, y1, _, _⟩ := T6.out.b2.cells; obtain ⟨z0, z1, _, _⟩ := T6.out.b3.cells; clear hb6))
      all_goals (go_ret; exact ⟨rfl, HB6.out⟩)
    · have du : decide (U ≤ 0) = false := decide_eq_false hu
      clear huv
      go_enter Tryd.func10, Tryd.ntmps10
      go_wp2_with (first
        | (go_at_call 11; refine haw.mono ?_; rintro e w1 ⟨rfl, hb1⟩; have T1 := Lib.hid (T0.out.keep hb1); have HB1 := Lib.hid (HB0.out.trans (hb1.mono HB0.out.size)); obtain ⟨x0, x1, _, _⟩ := T1.out.b1.cells; obtain ⟨y0, y1, _, _⟩ := T1.out.b2.cells; clear hb1)
        | (go_at_call 24; have tt := TK1; clear TK1 tt; ((with_reducible refine (h1 _).mono ?_); rintro e w2 ⟨rfl, hb2⟩); have T2 := Lib.hid (T1.out.keep hb2); have HB2 := Lib.hid (HB1.out.trans (hb2.mono HB1.out.size)); obtain ⟨x0, x1, _, _⟩ := T2.out.b1.cells; obtain ⟨y0, y1, _, _⟩ := T2.out.b2.cells; obtain ⟨z0, z1, _, _⟩ := T2.out.b3.cells; clear hb2)
        | (go_at_call 24; have tt := TK2; clear TK2 tt; ((with_reducible refine (h2 _).mono ?_); rintro e w3 ⟨rfl, hb3⟩); have T3 := Lib.hid (T2.out.keep hb3); have HB3 := Lib.hid (HB2.out.trans (hb3.mono HB2.out.size)); obtain ⟨x0, x1, _, _⟩ := T3.out.b1.cells; obtain ⟨y0, y1, _, _⟩ := T3.out.b2.cells; obtain ⟨z0, z1, _, _⟩ := T3.out.b3.cells; clear hb3)
        | (go_at_call 24; ((with_reducible refine (h3 _).mono ?_); rintro e w4 ⟨rfl, hb4⟩); have T4 := Lib.hid (T3.out.keep hb4); have HB4 := Lib.hid (HB3.out.trans (hb4.mono HB3.out.size)); obtain ⟨x0, x1, _, _⟩ := T4.out.b1.cells; obtain ⟨y0, y1, _, _⟩ := T4.out.b2.cells; obtain ⟨z0, z1, _, _⟩ := T4.out.b3.cells; clear hb4)
        | (go_at_call 22; ((with_reducible refine (h5 _).mono ?_); rintro e w5 ⟨rfl, hb5⟩); have T5 := Lib.hid (T4.out.keep hb5); have HB5 := Lib.hid (HB4.out.trans (hb5.mono HB4.out.size)); obtain ⟨x0, x1, _, _⟩ := T5.out.b1.cells; obtain ⟨y0, y1, _, _⟩ := T5.out.b2.cells; obtain ⟨z0, z1, _, _⟩ := T5.out.b3.cells; clear hb5))
      all_goals (go_ret; exact ⟨rfl, HB5.out⟩)
  · obtain rfl : C = false := by
      cases C
      · rfl
      · exact absurd (hC rfl) (by decide)
    clear hUV hC
    by_cases hnm : n = m
    · subst hnm
      have hbc : ¬ b = c := fun e => hne ⟨rfl, e⟩
      clear hne
      go_enter Tryd.func10, Tryd.ntmps10
      go_wp2_with (first
        | (go_at_call 11; refine haw.mono ?_; rintro e w1 ⟨rfl, hb1⟩; have T1 := Lib.hid (T0.out.keep hb1); have HB1 := Lib.hid (HB0.out.trans (hb1.mono HB0.out.size)); obtain ⟨x0, x1, _, _⟩ := T1.out.b1.cells; obtain ⟨y0, y1, _, _⟩ := T1.out.b2.cells; clear hb1)
        | (go_at_call 24; have tt := TK1; clear TK1 tt; ((with_reducible refine (h1 _).mono ?_); rintro e w2 ⟨rfl, hb2⟩); have T2 := Lib.hid (T1.out.keep hb2); have HB2 := Lib.hid (HB1.out.trans (hb2.mono HB1.out.size)); obtain ⟨x0, x1, _, _⟩ := T2.out.b1.cells; obtain ⟨y0, y1, _, _⟩ := T2.out.b2.cells; obtain ⟨z0, z1, _, _⟩ := T2.out.b3.cells; clear hb2)
        | (go_at_call 24; ((with_reducible refine (h2 _).mono ?_); rintro e w3 ⟨rfl, hb3⟩); have T3 := Lib.hid (T2.out.keep hb3); have HB3 := Lib.hid (HB2.out.trans (hb3.mono HB2.out.size)); obtain ⟨x0, x1, _, _⟩ := T3.out.b1.cells; obtain ⟨y0, y1, _, _⟩ := T3.out.b2.cells; obtain ⟨z0, z1, _, _⟩ := T3.out.b3.cells; clear hb3)
        | (go_at_call 22; ((with_reducible refine (h5 _).mono ?_); rintro e w4 ⟨rfl, hb4⟩); have T4 := Lib.hid (T3.out.keep hb4); have HB4 := Lib.hid (HB3.out.trans (hb4.mono HB3.out.size)); obtain ⟨x0, x1, _, _⟩ := T4.out.b1.cells; obtain ⟨y0, y1, _, _⟩ := T4.out.b2.cells; obtain ⟨z0, z1, _, _⟩ := T4.out.b3.cells; clear hb4))
      all_goals (go_ret; exact ⟨rfl, HB4.out⟩)
    · have hnm2 : ¬ (n : Int) = m := by omega
      clear hne hnm
      go_enter Tryd.func10, Tryd.ntmps10
      go_wp2_with (first
        | (go_at_call 11; refine haw.mono ?_; rintro e w1 ⟨rfl, hb1⟩; have T1 := Lib.hid (T0.out.keep hb1); have HB1 := Lib.hid (HB0.out.trans (hb1.mono HB0.out.size)); obtain ⟨x0, x1, _, _⟩ := T1.out.b1.cells; obtain ⟨y0, y1, _, _⟩ := T1.out.b2.cells; clear hb1)
        | (go_at_call 24; have tt := TK1; clear TK1 tt; ((with_reducible refine (h1 _).mono ?_); rintro e w2 ⟨rfl, hb2⟩); have T2 := Lib.hid (T1.out.keep hb2); have HB2 := Lib.hid (HB1.out.trans (hb2.mono HB1.out.size)); obtain ⟨x0, x1, _, _⟩ := T2.out.b1.cells; obtain ⟨y0, y1, _, _⟩ := T2.out.b2.cells; obtain ⟨z0, z1, _, _⟩ := T2.out.b3.cells; clear hb2)
        | (go_at_call 24; ((with_reducible refine (h2 _).mono ?_); rintro e w3 ⟨rfl, hb3⟩); have T3 := Lib.hid (T2.out.keep hb3); have HB3 := Lib.hid (HB2.out.trans (hb3.mono HB2.out.size)); obtain ⟨x0, x1, _, _⟩ := T3.out.b1.cells; obtain ⟨y0, y1, _, _⟩ := T3.out.b2.cells; obtain ⟨z0, z1, _, _⟩ := T3.out.b3.cells; clear hb3)
        | (go_at_call 22; ((with_reducible refine (h5 _).mono ?_); rintro e w4 ⟨rfl, hb4⟩); have T4 := Lib.hid (T3.out.keep hb4); have HB4 := Lib.hid (HB3.out.trans (hb4.mono HB3.out.size)); obtain ⟨x0, x1, _, _⟩ := T4.out.b1.cells; obtain ⟨y0, y1, _, _⟩ := T4.out.b2.cells; obtain ⟨z0, z1, _, _⟩ := T4.out.b3.cells; clear hb4))
      all_goals (go_ret; exact ⟨rfl, HB4.out⟩)
set_option maxRecDepth 100000 in
theorem order_walk (n : Nat) (hn : n < 4294967296) (b : Int) (_ : -9223372036854775808 ≤ b ∧ b ≤ 9223372036854775807) (m : Nat) (hm : m < 4294967296) (c : Int) (_ : -9223372036854775808 ≤ c ∧ c ≤ 9223372036854775807) (o : Nat) (ho : o < 4294967296) (d : Int) (_ : -9223372036854775808 ≤ d ∧ d ≤ 9223372036854775807) (w : World) (hT : TabP w.heap.size w) :
    Calls Tryd.prog 10 #[.agg #[.int .u32 n, .int .i64 b], .agg #[.int .u32 m, .int .i64 c], .agg #[.int .u32 o, .int .i64 d]] w fun e w' => e = .returned (.bool true) ∧ Below w.heap.size w w' := by
  have hq : cmpP (m, c) (n, b) = -cmpP (n, b) (m, c) := by
    rcases cmpP_cases (n, b) (m, c) with ⟨h, e⟩ | ⟨h, e⟩ | ⟨h, e⟩ <;> rcases cmpP_cases (m, c) (n, b) with ⟨h2, e2⟩ | ⟨h2, e2⟩ | ⟨h2, e2⟩ <;> rw [e, e2] <;> first | rfl | (exfalso; simp only at h h2; omega)
  have h2 := compare_any m c n b
  rw [hq] at h2
  refine order_walk1 n b m c o d (cmpP (n, b) (m, c)) (cmpP (m, c) (o, d)) (cmpP (n, b) (o, d)) ?_ ?_ (coversP (n, b) (m, c)) covers_le (compare_any n b m c) h2 (compare_any m c o d) (compare_any n b o d) (covers_any n hn b m hm c) w hT
  · rcases cmpP_cases (n, b) (m, c) with ⟨h, e⟩ | ⟨h, e⟩ | ⟨h, e⟩
    · exact .inl ⟨e, by simp only at h; omega⟩
    · exact .inr (.inl ⟨e, h⟩)
    · exact .inr (.inr ⟨e, by simp only at h; omega⟩)
  · intro hx hu
    rcases cmpP_cases (n, b) (o, d) with ⟨h, e⟩ | ⟨h, e⟩ | ⟨h, e⟩
    · omega
    · omega
    · exfalso
      simp only at h
      rcases cmpP_cases (n, b) (m, c) with ⟨h1, e1⟩ | ⟨h1, e1⟩ | ⟨h1, e1⟩ <;> rcases cmpP_cases (m, c) (o, d) with ⟨h3, e3⟩ | ⟨h3, e3⟩ | ⟨h3, e3⟩ <;> simp only at h1 h3 <;> omega
end Go.Proofs.YtebogllfjhiblaaDoor
