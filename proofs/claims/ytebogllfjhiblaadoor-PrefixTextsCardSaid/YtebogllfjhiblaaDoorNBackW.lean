/-
  PREFIXES: what is parsed of a text is the prefix, and the other way round: the law's walk.
-/
import Derived.Test.YtebogllfjhiblaaDoorNBack
namespace Go.Proofs.YtebogllfjhiblaaDoor
set_option linter.unusedVariables false
open Go.RowKit
theorem strL_of (s : ByteArray) : ∃ l, s = strL l := ⟨s.data.toList, by unfold strL; simp⟩
/-- Two boxes; three. -/
def Two6 (W : World) (k1 k2 : Nat) (a b c d : Value) : Prop := Bx W k1 a b ∧ Bx W k2 c d
def Three6 (W : World) (k1 k2 k3 : Nat) (a b c d e f : Value) : Prop := Bx W k1 a b ∧ Bx W k2 c d ∧ Bx W k3 e f
theorem Two6.keep {W W' : World} {k1 k2 : Nat} {a b c d : Value} (h : Two6 W k1 k2 a b c d) (hb : Below W.heap.size W W') : Two6 W' k1 k2 a b c d := ⟨h.1.keep hb h.1.lt, h.2.keep hb h.2.lt⟩
theorem Three6.keep {W W' : World} {k1 k2 k3 : Nat} {a b c d e f : Value} (h : Three6 W k1 k2 k3 a b c d e f) (hb : Below W.heap.size W W') : Three6 W' k1 k2 k3 a b c d e f := ⟨h.1.keep hb h.1.lt, h.2.1.keep hb h.2.1.lt, h.2.2.keep hb h.2.2.lt⟩
theorem Two6.of {W : World} {k : Nat} {a b : Value} (h : Bx W k a b) (c d : Value) : Two6 (W.alloc (.cells #[c, d] 24)) k W.heap.size a b c d := ⟨h.alloc _, Bx.new W c d⟩
theorem Three6.of {W : World} {k1 k2 : Nat} {a b c d : Value} (h : Two6 W k1 k2 a b c d) (e f : Value) : Three6 (W.alloc (.cells #[e, f] 24)) k1 k2 W.heap.size a b c d e f := ⟨h.1.alloc _, h.2.alloc _, Bx.new W e f⟩
set_option maxHeartbeats 8000000 in
set_option maxRecDepth 100000 in
theorem back_long (n : Nat) (b : Int) (l : List UInt8) (hl : 1000 < l.length) (w : World) (hL : LibP w) :
    Calls Tryd.prog 6 #[.agg #[.int .u32 n, .int .i64 b], .string (strL l)] w fun e w' => e = .returned (.bool true) ∧ Below w.heap.size w w' := by
  have b1 := (Below.refl w.heap.size w).alloc (Nat.le_refl _) (.cells #[.int .u32 n, .int .i64 b] 24)
  have haw := awake6_any _ (hL.below b1).tab
  have hd : decide ((l.length : Int) > 1000) = true := by simp; omega
  have hd2 : decide (1000 < (l.length : Int)) = true := by simp; omega
  have hz := strL_size l
  have B1 := Lib.hid b1
  clear hL b1 hl
  go_enter Tryd.func6, Tryd.ntmps6
  go_wp2_with (go_at_call 11; refine haw.mono ?_; rintro e w1 ⟨rfl, hb1⟩; have HB1 := Lib.hid (B1.out.trans (hb1.mono B1.out.size)); clear hb1)
  go_ret
  exact ⟨rfl, HB1.out⟩
set_option maxHeartbeats 8000000 in
set_option maxRecDepth 100000 in
theorem back_no_no (n : Nat) (b : Int) (l : List UInt8) (hl : l.length ≤ 1000) (w : World) (hL : LibP w) (T : List UInt8) (x : Nat) (y : Int)
    (hT : ∀ W, LibP W → Calls Tryd.prog 14 #[.agg #[.int .u32 n, .int .i64 b]] W fun e w' => e = .returned (.string (strL T)) ∧ Below W.heap.size W w')
    (hP : ∀ W, LibP W → Calls Tryd.prog 12 #[.string (strL T)] W fun e w' => e = .returned (.tuple #[.agg #[.int .u32 x, .int .i64 y], .int .i64 2]) ∧ Below W.heap.size W w')
    (hS : ∀ W, LibP W → Calls Tryd.prog 12 #[.string (strL l)] W fun e w' => e = .returned (.tuple #[.agg #[.int .u32 0, .int .i64 0], .int .i64 2]) ∧ Below W.heap.size W w')
    (hR : ∀ W, Calls Tryd.prog 16 #[.agg #[.int .u32 n, .int .i64 b]] W fun e w' => e = .returned (.bool false) ∧ Below W.heap.size W w') :
    Calls Tryd.prog 6 #[.agg #[.int .u32 n, .int .i64 b], .string (strL l)] w fun e w' => e = .returned (.bool true) ∧ Below w.heap.size w w' := by
  have b1 := (Below.refl w.heap.size w).alloc (Nat.le_refl _) (.cells #[.int .u32 n, .int .i64 b] 24)
  have haw := awake6_any _ (hL.below b1).tab
  have hd : decide ((l.length : Int) > 1000) = false := by simp; omega
  have hd2 : decide (1000 < (l.length : Int)) = false := by simp; omega
  have hz := strL_size l
  have he : (l == l) = true := by simp
  have B1 := Lib.hid b1
  have X1 := Lib.hid (Bx.new w (.int .u32 n) (.int .i64 b))
  have HL := Lib.hid hL
  clear hL b1 hl
  go_enter Tryd.func6, Tryd.ntmps6
  go_wp2_with (first
    | (go_at_call 11; refine haw.mono ?_; rintro e w1 ⟨rfl, hb1⟩; have HB1 := Lib.hid (B1.out.trans (hb1.mono B1.out.size)); have D := Lib.hid (X1.out.keep hb1 X1.out.lt); obtain ⟨c0, c1, _, _⟩ := D.out.cells; clear hb1)
    | (go_at_call 14; ((with_reducible refine (hT _ (HL.out.below HB1.out)).mono ?_); rintro e w2 ⟨rfl, hb2⟩); have HB2 := Lib.hid (HB1.out.trans (hb2.mono HB1.out.size)); have D2 := Lib.hid (D.out.keep hb2 D.out.lt); clear hb2)
    | (go_at_call 12; ((with_reducible refine (hP _ (HL.out.below HB2.out)).mono ?_); rintro e w3 ⟨rfl, hb3⟩); have E := Lib.hid (Two6.of (D2.out.keep hb3 D2.out.lt) (.int .u32 x) (.int .i64 y)); have HB3 := Lib.hid ((HB2.out.trans (hb3.mono HB2.out.size)).alloc (by have := HB2.out.size; have := hb3.size; omega) (.cells #[.int .u32 x, .int .i64 y] 24)); clear hb3)
    | (go_at_call 12; ((with_reducible refine (hS _ (HL.out.below HB3.out)).mono ?_); rintro e w4 ⟨rfl, hb4⟩); have F := Lib.hid (Three6.of (E.out.keep hb4) (.int .u32 0) (.int .i64 0)); have HB4 := Lib.hid ((HB3.out.trans (hb4.mono HB3.out.size)).alloc (by have := HB3.out.size; have := hb4.size; omega) (.cells #[.int .u32 0, .int .i64 0] 24)); obtain ⟨p0, p1, _, _⟩ := F.out.1.cells; obtain ⟨q0, q1, _, _⟩ := F.out.2.1.cells; obtain ⟨r0, r1, _, _⟩ := F.out.2.2.cells; clear hb4)
    | (go_at_call 16; ((with_reducible refine (hR _).mono ?_); rintro e w5 ⟨rfl, hb5⟩); have G := Lib.hid (F.out.keep hb5); have HB5 := Lib.hid (HB4.out.trans (hb5.mono HB4.out.size)); obtain ⟨s0, s1, _, _⟩ := G.out.1.cells; obtain ⟨t0, t1, _, _⟩ := G.out.2.1.cells; obtain ⟨u0, u1, _, _⟩ := G.out.2.2.cells; clear hb5))
  go_ret
  exact ⟨rfl, HB5.out⟩
set_option maxHeartbeats 8000000 in
set_option maxRecDepth 100000 in
theorem back_yes_no (n : Nat) (b : Int) (l : List UInt8) (hl : l.length ≤ 1000) (w : World) (hL : LibP w) (T : List UInt8)
    (hT : ∀ W, LibP W → Calls Tryd.prog 14 #[.agg #[.int .u32 n, .int .i64 b]] W fun e w' => e = .returned (.string (strL T)) ∧ Below W.heap.size W w')
    (hP : ∀ W, LibP W → Calls Tryd.prog 12 #[.string (strL T)] W fun e w' => e = .returned (.tuple #[.agg #[.int .u32 n, .int .i64 b], .int .i64 0]) ∧ Below W.heap.size W w')
    (hS : ∀ W, LibP W → Calls Tryd.prog 12 #[.string (strL l)] W fun e w' => e = .returned (.tuple #[.agg #[.int .u32 0, .int .i64 0], .int .i64 2]) ∧ Below W.heap.size W w')
    (hR : ∀ W, Calls Tryd.prog 16 #[.agg #[.int .u32 n, .int .i64 b]] W fun e w' => e = .returned (.bool true) ∧ Below W.heap.size W w') :
    Calls Tryd.prog 6 #[.agg #[.int .u32 n, .int .i64 b], .string (strL l)] w fun e w' => e = .returned (.bool true) ∧ Below w.heap.size w w' := by
  have b1 := (Below.refl w.heap.size w).alloc (Nat.le_refl _) (.cells #[.int .u32 n, .int .i64 b] 24)
  have haw := awake6_any _ (hL.below b1).tab
  have hd : decide ((l.length : Int) > 1000) = false := by simp; omega
  have hd2 : decide (1000 < (l.length : Int)) = false := by simp; omega
  have hz := strL_size l
  have he : (l == l) = true := by simp
  have B1 := Lib.hid b1
  have X1 := Lib.hid (Bx.new w (.int .u32 n) (.int .i64 b))
  have HL := Lib.hid hL
  clear hL b1 hl
  go_enter Tryd.func6, Tryd.ntmps6
  go_wp2_with (first
    | (go_at_call 11; refine haw.mono ?_; rintro e w1 ⟨rfl, hb1⟩; have HB1 := Lib.hid (B1.out.trans (hb1.mono B1.out.size)); have D := Lib.hid (X1.out.keep hb1 X1.out.lt); obtain ⟨c0, c1, _, _⟩ := D.out.cells; clear hb1)
    | (go_at_call 14; ((with_reducible refine (hT _ (HL.out.below HB1.out)).mono ?_); rintro e w2 ⟨rfl, hb2⟩); have HB2 := Lib.hid (HB1.out.trans (hb2.mono HB1.out.size)); have D2 := Lib.hid (D.out.keep hb2 D.out.lt); clear hb2)
    | (go_at_call 12; ((with_reducible refine (hP _ (HL.out.below HB2.out)).mono ?_); rintro e w3 ⟨rfl, hb3⟩); have E := Lib.hid (Two6.of (D2.out.keep hb3 D2.out.lt) (.int .u32 n) (.int .i64 b)); have HB3 := Lib.hid ((HB2.out.trans (hb3.mono HB2.out.size)).alloc (by have := HB2.out.size; have := hb3.size; omega) (.cells #[.int .u32 n, .int .i64 b] 24)); clear hb3)
    | (go_at_call 12; ((with_reducible refine (hS _ (HL.out.below HB3.out)).mono ?_); rintro e w4 ⟨rfl, hb4⟩); have F := Lib.hid (Three6.of (E.out.keep hb4) (.int .u32 0) (.int .i64 0)); have HB4 := Lib.hid ((HB3.out.trans (hb4.mono HB3.out.size)).alloc (by have := HB3.out.size; have := hb4.size; omega) (.cells #[.int .u32 0, .int .i64 0] 24)); obtain ⟨p0, p1, _, _⟩ := F.out.1.cells; obtain ⟨q0, q1, _, _⟩ := F.out.2.1.cells; obtain ⟨r0, r1, _, _⟩ := F.out.2.2.cells; clear hb4)
    | (go_at_call 16; ((with_reducible refine (hR _).mono ?_); rintro e w5 ⟨rfl, hb5⟩); have G := Lib.hid (F.out.keep hb5); have HB5 := Lib.hid (HB4.out.trans (hb5.mono HB4.out.size)); obtain ⟨s0, s1, _, _⟩ := G.out.1.cells; obtain ⟨t0, t1, _, _⟩ := G.out.2.1.cells; obtain ⟨u0, u1, _, _⟩ := G.out.2.2.cells; clear hb5))
  go_ret
  exact ⟨rfl, HB5.out⟩
set_option maxHeartbeats 8000000 in
set_option maxRecDepth 100000 in
theorem back_no_yes (n : Nat) (b : Int) (l : List UInt8) (hl : l.length ≤ 1000) (w : World) (hL : LibP w) (T : List UInt8) (x : Nat) (y : Int) (u : Nat) (v : Int)
    (hT : ∀ W, LibP W → Calls Tryd.prog 14 #[.agg #[.int .u32 n, .int .i64 b]] W fun e w' => e = .returned (.string (strL T)) ∧ Below W.heap.size W w')
    (hP : ∀ W, LibP W → Calls Tryd.prog 12 #[.string (strL T)] W fun e w' => e = .returned (.tuple #[.agg #[.int .u32 x, .int .i64 y], .int .i64 2]) ∧ Below W.heap.size W w')
    (hS : ∀ W, LibP W → Calls Tryd.prog 12 #[.string (strL l)] W fun e w' => e = .returned (.tuple #[.agg #[.int .u32 u, .int .i64 v], .int .i64 0]) ∧ Below W.heap.size W w')
    (hR : ∀ W, Calls Tryd.prog 16 #[.agg #[.int .u32 n, .int .i64 b]] W fun e w' => e = .returned (.bool false) ∧ Below W.heap.size W w')
    (hT2 : ∀ W, LibP W → Calls Tryd.prog 14 #[.agg #[.int .u32 u, .int .i64 v]] W fun e w' => e = .returned (.string (strL l)) ∧ Below W.heap.size W w')
    (hR2 : ∀ W, Calls Tryd.prog 16 #[.agg #[.int .u32 u, .int .i64 v]] W fun e w' => e = .returned (.bool true) ∧ Below W.heap.size W w') :
    Calls Tryd.prog 6 #[.agg #[.int .u32 n, .int .i64 b], .string (strL l)] w fun e w' => e = .returned (.bool true) ∧ Below w.heap.size w w' := by
  have b1 := (Below.refl w.heap.size w).alloc (Nat.le_refl _) (.cells #[.int .u32 n, .int .i64 b] 24)
  have haw := awake6_any _ (hL.below b1).tab
  have hd : decide ((l.length : Int) > 1000) = false := by simp; omega
  have hd2 : decide (1000 < (l.length : Int)) = false := by simp; omega
  have hz := strL_size l
  have he : (l == l) = true := by simp
  have B1 := Lib.hid b1
  have X1 := Lib.hid (Bx.new w (.int .u32 n) (.int .i64 b))
  have HL := Lib.hid hL
  clear hL b1 hl
  go_enter Tryd.func6, Tryd.ntmps6
  go_wp2_with (first
    | (go_at_call 11; refine haw.mono ?_; rintro e w1 ⟨rfl, hb1⟩; have HB1 := Lib.hid (B1.out.trans (hb1.mono B1.out.size)); have D := Lib.hid (X1.out.keep hb1 X1.out.lt); obtain ⟨c0, c1, _, _⟩ := D.out.cells; clear hb1)
    | (go_at_call 14; ((with_reducible refine (hT _ (HL.out.below HB1.out)).mono ?_); rintro e w2 ⟨rfl, hb2⟩); have HB2 := Lib.hid (HB1.out.trans (hb2.mono HB1.out.size)); have D2 := Lib.hid (D.out.keep hb2 D.out.lt); clear hb2)
    | (go_at_call 12; ((with_reducible refine (hP _ (HL.out.below HB2.out)).mono ?_); rintro e w3 ⟨rfl, hb3⟩); have E := Lib.hid (Two6.of (D2.out.keep hb3 D2.out.lt) (.int .u32 x) (.int .i64 y)); have HB3 := Lib.hid ((HB2.out.trans (hb3.mono HB2.out.size)).alloc (by have := HB2.out.size; have := hb3.size; omega) (.cells #[.int .u32 x, .int .i64 y] 24)); clear hb3)
    | (go_at_call 12; ((with_reducible refine (hS _ (HL.out.below HB3.out)).mono ?_); rintro e w4 ⟨rfl, hb4⟩); have F := Lib.hid (Three6.of (E.out.keep hb4) (.int .u32 u) (.int .i64 v)); have HB4 := Lib.hid ((HB3.out.trans (hb4.mono HB3.out.size)).alloc (by have := HB3.out.size; have := hb4.size; omega) (.cells #[.int .u32 u, .int .i64 v] 24)); obtain ⟨p0, p1, _, _⟩ := F.out.1.cells; obtain ⟨q0, q1, _, _⟩ := F.out.2.1.cells; obtain ⟨r0, r1, _, _⟩ := F.out.2.2.cells; clear hb4)
    | (go_at_call 16; ((with_reducible refine (hR _).mono ?_); rintro e w5 ⟨rfl, hb5⟩); have G := Lib.hid (F.out.keep hb5); have HB5 := Lib.hid (HB4.out.trans (hb5.mono HB4.out.size)); obtain ⟨s0, s1, _, _⟩ := G.out.1.cells; obtain ⟨t0, t1, _, _⟩ := G.out.2.1.cells; obtain ⟨u0, u1, _, _⟩ := G.out.2.2.cells; clear hb5) 
    | (go_at_call 14; ((with_reducible refine (hT2 _ (HL.out.below HB5.out)).mono ?_); rintro e w6 ⟨rfl, hb6⟩); have G6 := Lib.hid (G.out.keep hb6); have HB6 := Lib.hid (HB5.out.trans (hb6.mono HB5.out.size)); obtain ⟨y0, y1, _, _⟩ := G6.out.2.2.cells; clear hb6)
    | (go_at_call 16; ((with_reducible refine (hR2 _).mono ?_); rintro e w7 ⟨rfl, hb7⟩); have HB7 := Lib.hid (HB6.out.trans (hb7.mono HB6.out.size)); clear hb7))
  go_ret
  exact ⟨rfl, HB7.out⟩
set_option maxHeartbeats 8000000 in
set_option maxRecDepth 100000 in
theorem back_yes_yes (n : Nat) (b : Int) (l : List UInt8) (hl : l.length ≤ 1000) (w : World) (hL : LibP w) (T : List UInt8) (u : Nat) (v : Int)
    (hT : ∀ W, LibP W → Calls Tryd.prog 14 #[.agg #[.int .u32 n, .int .i64 b]] W fun e w' => e = .returned (.string (strL T)) ∧ Below W.heap.size W w')
    (hP : ∀ W, LibP W → Calls Tryd.prog 12 #[.string (strL T)] W fun e w' => e = .returned (.tuple #[.agg #[.int .u32 n, .int .i64 b], .int .i64 0]) ∧ Below W.heap.size W w')
    (hS : ∀ W, LibP W → Calls Tryd.prog 12 #[.string (strL l)] W fun e w' => e = .returned (.tuple #[.agg #[.int .u32 u, .int .i64 v], .int .i64 0]) ∧ Below W.heap.size W w')
    (hR : ∀ W, Calls Tryd.prog 16 #[.agg #[.int .u32 n, .int .i64 b]] W fun e w' => e = .returned (.bool true) ∧ Below W.heap.size W w')
    (hT2 : ∀ W, LibP W → Calls Tryd.prog 14 #[.agg #[.int .u32 u, .int .i64 v]] W fun e w' => e = .returned (.string (strL l)) ∧ Below W.heap.size W w')
    (hR2 : ∀ W, Calls Tryd.prog 16 #[.agg #[.int .u32 u, .int .i64 v]] W fun e w' => e = .returned (.bool true) ∧ Below W.heap.size W w') :
    Calls Tryd.prog 6 #[.agg #[.int .u32 n, .int .i64 b], .string (strL l)] w fun e w' => e = .returned (.bool true) ∧ Below w.heap.size w w' := by
  have b1 := (Below.refl w.heap.size w).alloc (Nat.le_refl _) (.cells #[.int .u32 n, .int .i64 b] 24)
  have haw := awake6_any _ (hL.below b1).tab
  have hd : decide ((l.length : Int) > 1000) = false := by simp; omega
  have hd2 : decide (1000 < (l.length : Int)) = false := by simp; omega
  have hz := strL_size l
  have he : (l == l) = true := by simp
  have B1 := Lib.hid b1
  have X1 := Lib.hid (Bx.new w (.int .u32 n) (.int .i64 b))
  have HL := Lib.hid hL
  clear hL b1 hl
  go_enter Tryd.func6, Tryd.ntmps6
  go_wp2_with (first
    | (go_at_call 11; refine haw.mono ?_; rintro e w1 ⟨rfl, hb1⟩; have HB1 := Lib.hid (B1.out.trans (hb1.mono B1.out.size)); have D := Lib.hid (X1.out.keep hb1 X1.out.lt); obtain ⟨c0, c1, _, _⟩ := D.out.cells; clear hb1)
    | (go_at_call 14; ((with_reducible refine (hT _ (HL.out.below HB1.out)).mono ?_); rintro e w2 ⟨rfl, hb2⟩); have HB2 := Lib.hid (HB1.out.trans (hb2.mono HB1.out.size)); have D2 := Lib.hid (D.out.keep hb2 D.out.lt); clear hb2)
    | (go_at_call 12; ((with_reducible refine (hP _ (HL.out.below HB2.out)).mono ?_); rintro e w3 ⟨rfl, hb3⟩); have E := Lib.hid (Two6.of (D2.out.keep hb3 D2.out.lt) (.int .u32 n) (.int .i64 b)); have HB3 := Lib.hid ((HB2.out.trans (hb3.mono HB2.out.size)).alloc (by have := HB2.out.size; have := hb3.size; omega) (.cells #[.int .u32 n, .int .i64 b] 24)); clear hb3)
    | (go_at_call 12; ((with_reducible refine (hS _ (HL.out.below HB3.out)).mono ?_); rintro e w4 ⟨rfl, hb4⟩); have F := Lib.hid (Three6.of (E.out.keep hb4) (.int .u32 u) (.int .i64 v)); have HB4 := Lib.hid ((HB3.out.trans (hb4.mono HB3.out.size)).alloc (by have := HB3.out.size; have := hb4.size; omega) (.cells #[.int .u32 u, .int .i64 v] 24)); obtain ⟨p0, p1, _, _⟩ := F.out.1.cells; obtain ⟨q0, q1, _, _⟩ := F.out.2.1.cells; obtain ⟨r0, r1, _, _⟩ := F.out.2.2.cells; clear hb4)
    | (go_at_call 16; ((with_reducible refine (hR _).mono ?_); rintro e w5 ⟨rfl, hb5⟩); have G := Lib.hid (F.out.keep hb5); have HB5 := Lib.hid (HB4.out.trans (hb5.mono HB4.out.size)); obtain ⟨s0, s1, _, _⟩ := G.out.1.cells; obtain ⟨t0, t1, _, _⟩ := G.out.2.1.cells; obtain ⟨u0, u1, _, _⟩ := G.out.2.2.cells; clear hb5) 
    | (go_at_call 14; ((with_reducible refine (hT2 _ (HL.out.below HB5.out)).mono ?_); rintro e w6 ⟨rfl, hb6⟩); have G6 := Lib.hid (G.out.keep hb6); have HB6 := Lib.hid (HB5.out.trans (hb6.mono HB5.out.size)); obtain ⟨y0, y1, _, _⟩ := G6.out.2.2.cells; clear hb6)
    | (go_at_call 16; ((with_reducible refine (hR2 _).mono ?_); rintro e w7 ⟨rfl, hb7⟩); have HB7 := Lib.hid (HB6.out.trans (hb7.mono HB6.out.size)); clear hb7))
  go_ret
  exact ⟨rfl, HB7.out⟩
theorem textP_len (n : Nat) (b : Int) : (textP (n, b)).length ≤ 100000 := by
  unfold textP
  split
  · rename_i h0
    have h1 := textUp_len n 4
    have h2 := digits_len (x := b.toNat) (by have := right_bits h0; simp only at this; omega)
    simp
    omega
  · simp
theorem back_walk (n : Nat) (hn : n < 4294967296) (b : Int) (_ : -9223372036854775808 ≤ b ∧ b ≤ 9223372036854775807) (s : ByteArray) {P : Prop} (_ : P) (w : World) (hL : LibP w) :
    Calls Tryd.prog 6 #[.agg #[.int .u32 n, .int .i64 b], .string s] w fun e w' => e = .returned (.bool true) ∧ Below w.heap.size w w' := by
  obtain ⟨l, rfl⟩ := strL_of s
  rcases Nat.lt_or_ge 1000 l.length with hl | hl
  · exact back_long n b l hl w hL
  have hT := fun W (h : LibP W) => text_any n hn b W h.tab
  have hR := right_any n hn b
  have hS := fun W (h : LibP W) => parse_any l (by omega) W h
  have hP := fun W (h : LibP W) => parse_any (textP (n, b)) (textP_len n b) W h
  cases hr : rightP (n, b)
  · rw [hr] at hR
    rw [text_nil hr] at hT hP
    rw [parse_nil] at hP
    cases hs : parseS l with
    | none =>
      rw [hs] at hS
      exact back_no_no n b l hl w hL [] 0 0 hT hP hS hR
    | some q =>
      obtain ⟨u, v⟩ := q
      rw [hs] at hS
      obtain ⟨h1, h2, h3⟩ := parse_some hs
      exact back_no_yes n b l hl w hL [] 0 0 u v hT hP hS hR (fun W h => by have := text_any u h3 v W h.tab; rwa [h2] at this) (by have := right_any u h3 v; rwa [h1] at this)
  · rw [hr] at hR
    rw [parse_text hn hr] at hP
    cases hs : parseS l with
    | none =>
      rw [hs] at hS
      exact back_yes_no n b l hl w hL _ hT hP hS hR
    | some q =>
      obtain ⟨u, v⟩ := q
      rw [hs] at hS
      obtain ⟨h1, h2, h3⟩ := parse_some hs
      exact back_yes_yes n b l hl w hL _ u v hT hP hS hR (fun W h => by have := text_any u h3 v W h.tab; rwa [h2] at this) (by have := right_any u h3 v; rwa [h1] at this)
end Go.Proofs.YtebogllfjhiblaaDoor
