/-
  PREFIXES: the law of two nets: apart, or one in the other one.
-/
import Derived.Test.YtebogllfjhiblaaDoorNOrder
namespace Go.Proofs.YtebogllfjhiblaaDoor
set_option linter.unusedVariables false
open Go.RowKit
def Duo (W : World) (k : Nat) (a b c d : Value) : Prop := Bx W k a b ∧ Bx W (k + 1) c d
theorem Duo.keep {W W' : World} {k : Nat} {a b c d : Value} (h : Duo W k a b c d) (hb : Below W.heap.size W W') : Duo W' k a b c d := ⟨h.1.keep hb h.1.lt, h.2.keep hb h.2.lt⟩
theorem Duo.new (w : World) (a b c d : Value) : Duo ((w.alloc (.cells #[a, b] 24)).alloc (.cells #[c, d] 24)) w.heap.size a b c d := by
  have h2 := Bx.new (w.alloc (.cells #[a, b] 24)) c d
  rw [World.size_alloc] at h2
  exact ⟨(Bx.new w a b).alloc _, h2⟩
set_option maxHeartbeats 8000000 in
set_option maxRecDepth 100000 in
theorem apart_walk1 (n : Nat) (b : Int) (m : Nat) (c : Int) (a : Nat) (O T Ip Iq A B : Bool)
    (hw : (O = true ∧ T = true ∧ Ip = true ∧ n = m ∧ b = c) ∨ (O = true ∧ T = false ∧ Ip = true) ∨ (O = false ∧ T = true ∧ (Ip = true ∨ Iq = true)) ∨ (O = false ∧ T = false ∧ Ip = false ∧ Iq = false))
    (hx : O = true → B = true → A = true) (hy : O = false → T = false → A = true → B = false)
    (hrp : ∀ w, Calls Tryd.prog 16 #[.agg #[.int .u32 n, .int .i64 b]] w fun e w' => e = .returned (.bool true) ∧ Below w.heap.size w w')
    (hrq : ∀ w, Calls Tryd.prog 16 #[.agg #[.int .u32 m, .int .i64 c]] w fun e w' => e = .returned (.bool true) ∧ Below w.heap.size w w')
    (hO : ∀ w, Calls Tryd.prog 22 #[.agg #[.int .u32 n, .int .i64 b], .agg #[.int .u32 m, .int .i64 c]] w fun e w' => e = .returned (.bool O) ∧ Below w.heap.size w w')
    (hT : ∀ w, Calls Tryd.prog 22 #[.agg #[.int .u32 m, .int .i64 c], .agg #[.int .u32 n, .int .i64 b]] w fun e w' => e = .returned (.bool T) ∧ Below w.heap.size w w')
    (hIp : ∀ w, Calls Tryd.prog 20 #[.agg #[.int .u32 n, .int .i64 b], .int .u32 m] w fun e w' => e = .returned (.bool Ip) ∧ Below w.heap.size w w')
    (hIq : ∀ w, Calls Tryd.prog 20 #[.agg #[.int .u32 m, .int .i64 c], .int .u32 n] w fun e w' => e = .returned (.bool Iq) ∧ Below w.heap.size w w')
    (hB : ∀ w, Calls Tryd.prog 20 #[.agg #[.int .u32 m, .int .i64 c], .int .u32 a] w fun e w' => e = .returned (.bool B) ∧ Below w.heap.size w w')
    (hA : ∀ w, Calls Tryd.prog 20 #[.agg #[.int .u32 n, .int .i64 b], .int .u32 a] w fun e w' => e = .returned (.bool A) ∧ Below w.heap.size w w')
    (w : World) (ht : TabP w.heap.size w) :
    Calls Tryd.prog 7 #[.agg #[.int .u32 n, .int .i64 b], .agg #[.int .u32 m, .int .i64 c], .int .u32 a] w fun e w' => e = .returned (.bool true) ∧ Below w.heap.size w w' := by
  obtain ⟨W0, hW0⟩ : ∃ W0, (w.alloc (.cells #[.int .u32 n, .int .i64 b] 24)).alloc (.cells #[.int .u32 m, .int .i64 c] 24) = W0 := ⟨_, rfl⟩
  have t0 := Duo.new w (.int .u32 n) (.int .i64 b) (.int .u32 m) (.int .i64 c)
  have hbl : Below w.heap.size w W0 := by rw [← hW0]; exact boxA2
  have haw := awake6_any W0 ((TabP.on ht hbl).up hbl.size)
  rw [hW0] at t0
  rw [← hW0] at haw
  have T0 := Lib.hid t0
  have HB0 := Lib.hid hbl
  have HW0 := Lib.hid hW0
  clear t0 hbl hW0 ht
  rcases hw with ⟨rfl, rfl, rfl, rfl, rfl⟩ | ⟨rfl, rfl, rfl⟩ | ⟨rfl, rfl, h⟩ | ⟨rfl, rfl, rfl, rfl⟩
  · have hx := hx rfl
    clear hy
    cases B
    · clear hx
      go_enter Tryd.func7, Tryd.ntmps7
      go_wp2_with (first
        | (go_at_call 11; refine haw.mono ?_; rintro e w1 ⟨rfl, hb1⟩; rw [HW0.out] at hb1; have D := Lib.hid (T0.out.keep hb1); have HB := Lib.hid (HB0.out.trans (hb1.mono HB0.out.size)); obtain ⟨x0, x1, _, _⟩ := D.out.1.cells; obtain ⟨y0, y1, _, _⟩ := D.out.2.cells; clear hb1)
        | (go_at_call 16; ((with_reducible refine (hrp _).mono ?_); rintro e w2 ⟨rfl, hb2⟩); have D2 := Lib.hid (D.out.keep hb2); have HB2 := Lib.hid (HB.out.trans (hb2.mono HB.out.size)); clear hb2 D HB x0 x1 y0 y1; have D := Lib.hid D2.out; have HB := Lib.hid HB2.out; clear D2 HB2; obtain ⟨x0, x1, _, _⟩ := D.out.1.cells; obtain ⟨y0, y1, _, _⟩ := D.out.2.cells)
        | (go_at_call 16; ((with_reducible refine (hrq _).mono ?_); rintro e w2 ⟨rfl, hb2⟩); have D2 := Lib.hid (D.out.keep hb2); have HB2 := Lib.hid (HB.out.trans (hb2.mono HB.out.size)); clear hb2 D HB x0 x1 y0 y1; have D := Lib.hid D2.out; have HB := Lib.hid HB2.out; clear D2 HB2; obtain ⟨x0, x1, _, _⟩ := D.out.1.cells; obtain ⟨y0, y1, _, _⟩ := D.out.2.cells)
        | (go_at_call 22; ((with_reducible refine (hO _).mono ?_); rintro e w2 ⟨rfl, hb2⟩); have D2 := Lib.hid (D.out.keep hb2); have HB2 := Lib.hid (HB.out.trans (hb2.mono HB.out.size)); clear hb2 D HB x0 x1 y0 y1; have D := Lib.hid D2.out; have HB := Lib.hid HB2.out; clear D2 HB2; obtain ⟨x0, x1, _, _⟩ := D.out.1.cells; obtain ⟨y0, y1, _, _⟩ := D.out.2.cells)
        | (go_at_call 22; ((with_reducible refine (hT _).mono ?_); rintro e w2 ⟨rfl, hb2⟩); have D2 := Lib.hid (D.out.keep hb2); have HB2 := Lib.hid (HB.out.trans (hb2.mono HB.out.size)); clear hb2 D HB x0 x1 y0 y1; have D := Lib.hid D2.out; have HB := Lib.hid HB2.out; clear D2 HB2; obtain ⟨x0, x1, _, _⟩ := D.out.1.cells; obtain ⟨y0, y1, _, _⟩ := D.out.2.cells)
        | (go_at_call 20; ((with_reducible refine (hIp _).mono ?_); rintro e w2 ⟨rfl, hb2⟩); have D2 := Lib.hid (D.out.keep hb2); have HB2 := Lib.hid (HB.out.trans (hb2.mono HB.out.size)); clear hb2 D HB x0 x1 y0 y1; have D := Lib.hid D2.out; have HB := Lib.hid HB2.out; clear D2 HB2; obtain ⟨x0, x1, _, _⟩ := D.out.1.cells; obtain ⟨y0, y1, _, _⟩ := D.out.2.cells)
        | (go_at_call 20; ((with_reducible refine (hIq _).mono ?_); rintro e w2 ⟨rfl, hb2⟩); have D2 := Lib.hid (D.out.keep hb2); have HB2 := Lib.hid (HB.out.trans (hb2.mono HB.out.size)); clear hb2 D HB x0 x1 y0 y1; have D := Lib.hid D2.out; have HB := Lib.hid HB2.out; clear D2 HB2; obtain ⟨x0, x1, _, _⟩ := D.out.1.cells; obtain ⟨y0, y1, _, _⟩ := D.out.2.cells)
        | (go_at_call 20; ((with_reducible refine (hB _).mono ?_); rintro e w2 ⟨rfl, hb2⟩); have D2 := Lib.hid (D.out.keep hb2); have HB2 := Lib.hid (HB.out.trans (hb2.mono HB.out.size)); clear hb2 D HB x0 x1 y0 y1; have D := Lib.hid D2.out; have HB := Lib.hid HB2.out; clear D2 HB2; obtain ⟨x0, x1, _, _⟩ := D.out.1.cells; obtain ⟨y0, y1, _, _⟩ := D.out.2.cells)
        | (go_at_call 20; ((with_reducible refine (hA _).mono ?_); rintro e w2 ⟨rfl, hb2⟩); have D2 := Lib.hid (D.out.keep hb2); have HB2 := Lib.hid (HB.out.trans (hb2.mono HB.out.size)); clear hb2 D HB x0 x1 y0 y1; have D := Lib.hid D2.out; have HB := Lib.hid HB2.out; clear D2 HB2; obtain ⟨x0, x1, _, _⟩ := D.out.1.cells; obtain ⟨y0, y1, _, _⟩ := D.out.2.cells))
      all_goals (go_ret; exact ⟨rfl, HB.out⟩)
    · obtain rfl := hx rfl
      clear hx
      go_enter Tryd.func7, Tryd.ntmps7
      go_wp2_with (first
        | (go_at_call 11; refine haw.mono ?_; rintro e w1 ⟨rfl, hb1⟩; rw [HW0.out] at hb1; have D := Lib.hid (T0.out.keep hb1); have HB := Lib.hid (HB0.out.trans (hb1.mono HB0.out.size)); obtain ⟨x0, x1, _, _⟩ := D.out.1.cells; obtain ⟨y0, y1, _, _⟩ := D.out.2.cells; clear hb1)
        | (go_at_call 16; ((with_reducible refine (hrp _).mono ?_); rintro e w2 ⟨rfl, hb2⟩); have D2 := Lib.hid (D.out.keep hb2); have HB2 := Lib.hid (HB.out.trans (hb2.mono HB.out.size)); clear hb2 D HB x0 x1 y0 y1; have D := Lib.hid D2.out; have HB := Lib.hid HB2.out; clear D2 HB2; obtain ⟨x0, x1, _, _⟩ := D.out.1.cells; obtain ⟨y0, y1, _, _⟩ := D.out.2.cells)
        | (go_at_call 16; ((with_reducible refine (hrq _).mono ?_); rintro e w2 ⟨rfl, hb2⟩); have D2 := Lib.hid (D.out.keep hb2); have HB2 := Lib.hid (HB.out.trans (hb2.mono HB.out.size)); clear hb2 D HB x0 x1 y0 y1; have D := Lib.hid D2.out; have HB := Lib.hid HB2.out; clear D2 HB2; obtain ⟨x0, x1, _, _⟩ := D.out.1.cells; obtain ⟨y0, y1, _, _⟩ := D.out.2.cells)
        | (go_at_call 22; ((with_reducible refine (hO _).mono ?_); rintro e w2 ⟨rfl, hb2⟩); have D2 := Lib.hid (D.out.keep hb2); have HB2 := Lib.hid (HB.out.trans (hb2.mono HB.out.size)); clear hb2 D HB x0 x1 y0 y1; have D := Lib.hid D2.out; have HB := Lib.hid HB2.out; clear D2 HB2; obtain ⟨x0, x1, _, _⟩ := D.out.1.cells; obtain ⟨y0, y1, _, _⟩ := D.out.2.cells)
        | (go_at_call 22; ((with_reducible refine (hT _).mono ?_); rintro e w2 ⟨rfl, hb2⟩); have D2 := Lib.hid (D.out.keep hb2); have HB2 := Lib.hid (HB.out.trans (hb2.mono HB.out.size)); clear hb2 D HB x0 x1 y0 y1; have D := Lib.hid D2.out; have HB := Lib.hid HB2.out; clear D2 HB2; obtain ⟨x0, x1, _, _⟩ := D.out.1.cells; obtain ⟨y0, y1, _, _⟩ := D.out.2.cells)
        | (go_at_call 20; ((with_reducible refine (hIp _).mono ?_); rintro e w2 ⟨rfl, hb2⟩); have D2 := Lib.hid (D.out.keep hb2); have HB2 := Lib.hid (HB.out.trans (hb2.mono HB.out.size)); clear hb2 D HB x0 x1 y0 y1; have D := Lib.hid D2.out; have HB := Lib.hid HB2.out; clear D2 HB2; obtain ⟨x0, x1, _, _⟩ := D.out.1.cells; obtain ⟨y0, y1, _, _⟩ := D.out.2.cells)
        | (go_at_call 20; ((with_reducible refine (hIq _).mono ?_); rintro e w2 ⟨rfl, hb2⟩); have D2 := Lib.hid (D.out.keep hb2); have HB2 := Lib.hid (HB.out.trans (hb2.mono HB.out.size)); clear hb2 D HB x0 x1 y0 y1; have D := Lib.hid D2.out; have HB := Lib.hid HB2.out; clear D2 HB2; obtain ⟨x0, x1, _, _⟩ := D.out.1.cells; obtain ⟨y0, y1, _, _⟩ := D.out.2.cells)
        | (go_at_call 20; ((with_reducible refine (hB _).mono ?_); rintro e w2 ⟨rfl, hb2⟩); have D2 := Lib.hid (D.out.keep hb2); have HB2 := Lib.hid (HB.out.trans (hb2.mono HB.out.size)); clear hb2 D HB x0 x1 y0 y1; have D := Lib.hid D2.out; have HB := Lib.hid HB2.out; clear D2 HB2; obtain ⟨x0, x1, _, _⟩ := D.out.1.cells; obtain ⟨y0, y1, _, _⟩ := D.out.2.cells)
        | (go_at_call 20; ((with_reducible refine (hA _).mono ?_); rintro e w2 ⟨rfl, hb2⟩); have D2 := Lib.hid (D.out.keep hb2); have HB2 := Lib.hid (HB.out.trans (hb2.mono HB.out.size)); clear hb2 D HB x0 x1 y0 y1; have D := Lib.hid D2.out; have HB := Lib.hid HB2.out; clear D2 HB2; obtain ⟨x0, x1, _, _⟩ := D.out.1.cells; obtain ⟨y0, y1, _, _⟩ := D.out.2.cells))
      all_goals (go_ret; exact ⟨rfl, HB.out⟩)
  · have hx := hx rfl
    clear hy
    cases B
    · clear hx
      go_enter Tryd.func7, Tryd.ntmps7
      go_wp2_with (first
        | (go_at_call 11; refine haw.mono ?_; rintro e w1 ⟨rfl, hb1⟩; rw [HW0.out] at hb1; have D := Lib.hid (T0.out.keep hb1); have HB := Lib.hid (HB0.out.trans (hb1.mono HB0.out.size)); obtain ⟨x0, x1, _, _⟩ := D.out.1.cells; obtain ⟨y0, y1, _, _⟩ := D.out.2.cells; clear hb1)
        | (go_at_call 16; ((with_reducible refine (hrp _).mono ?_); rintro e w2 ⟨rfl, hb2⟩); have D2 := Lib.hid (D.out.keep hb2); have HB2 := Lib.hid (HB.out.trans (hb2.mono HB.out.size)); clear hb2 D HB x0 x1 y0 y1; have D := Lib.hid D2.out; have HB := Lib.hid HB2.out; clear D2 HB2; obtain ⟨x0, x1, _, _⟩ := D.out.1.cells; obtain ⟨y0, y1, _, _⟩ := D.out.2.cells)
        | (go_at_call 16; ((with_reducible refine (hrq _).mono ?_); rintro e w2 ⟨rfl, hb2⟩); have D2 := Lib.hid (D.out.keep hb2); have HB2 := Lib.hid (HB.out.trans (hb2.mono HB.out.size)); clear hb2 D HB x0 x1 y0 y1; have D := Lib.hid D2.out; have HB := Lib.hid HB2.out; clear D2 HB2; obtain ⟨x0, x1, _, _⟩ := D.out.1.cells; obtain ⟨y0, y1, _, _⟩ := D.out.2.cells)
        | (go_at_call 22; ((with_reducible refine (hO _).mono ?_); rintro e w2 ⟨rfl, hb2⟩); have D2 := Lib.hid (D.out.keep hb2); have HB2 := Lib.hid (HB.out.trans (hb2.mono HB.out.size)); clear hb2 D HB x0 x1 y0 y1; have D := Lib.hid D2.out; have HB := Lib.hid HB2.out; clear D2 HB2; obtain ⟨x0, x1, _, _⟩ := D.out.1.cells; obtain ⟨y0, y1, _, _⟩ := D.out.2.cells)
        | (go_at_call 22; ((with_reducible refine (hT _).mono ?_); rintro e w2 ⟨rfl, hb2⟩); have D2 := Lib.hid (D.out.keep hb2); have HB2 := Lib.hid (HB.out.trans (hb2.mono HB.out.size)); clear hb2 D HB x0 x1 y0 y1; have D := Lib.hid D2.out; have HB := Lib.hid HB2.out; clear D2 HB2; obtain ⟨x0, x1, _, _⟩ := D.out.1.cells; obtain ⟨y0, y1, _, _⟩ := D.out.2.cells)
        | (go_at_call 20; ((with_reducible refine (hIp _).mono ?_); rintro e w2 ⟨rfl, hb2⟩); have D2 := Lib.hid (D.out.keep hb2); have HB2 := Lib.hid (HB.out.trans (hb2.mono HB.out.size)); clear hb2 D HB x0 x1 y0 y1; have D := Lib.hid D2.out; have HB := Lib.hid HB2.out; clear D2 HB2; obtain ⟨x0, x1, _, _⟩ := D.out.1.cells; obtain ⟨y0, y1, _, _⟩ := D.out.2.cells)
        | (go_at_call 20; ((with_reducible refine (hIq _).mono ?_); rintro e w2 ⟨rfl, hb2⟩); have D2 := Lib.hid (D.out.keep hb2); have HB2 := Lib.hid (HB.out.trans (hb2.mono HB.out.size)); clear hb2 D HB x0 x1 y0 y1; have D := Lib.hid D2.out; have HB := Lib.hid HB2.out; clear D2 HB2; obtain ⟨x0, x1, _, _⟩ := D.out.1.cells; obtain ⟨y0, y1, _, _⟩ := D.out.2.cells)
        | (go_at_call 20; ((with_reducible refine (hB _).mono ?_); rintro e w2 ⟨rfl, hb2⟩); have D2 := Lib.hid (D.out.keep hb2); have HB2 := Lib.hid (HB.out.trans (hb2.mono HB.out.size)); clear hb2 D HB x0 x1 y0 y1; have D := Lib.hid D2.out; have HB := Lib.hid HB2.out; clear D2 HB2; obtain ⟨x0, x1, _, _⟩ := D.out.1.cells; obtain ⟨y0, y1, _, _⟩ := D.out.2.cells)
        | (go_at_call 20; ((with_reducible refine (hA _).mono ?_); rintro e w2 ⟨rfl, hb2⟩); have D2 := Lib.hid (D.out.keep hb2); have HB2 := Lib.hid (HB.out.trans (hb2.mono HB.out.size)); clear hb2 D HB x0 x1 y0 y1; have D := Lib.hid D2.out; have HB := Lib.hid HB2.out; clear D2 HB2; obtain ⟨x0, x1, _, _⟩ := D.out.1.cells; obtain ⟨y0, y1, _, _⟩ := D.out.2.cells))
      all_goals (go_ret; exact ⟨rfl, HB.out⟩)
    · obtain rfl := hx rfl
      clear hx
      go_enter Tryd.func7, Tryd.ntmps7
      go_wp2_with (first
        | (go_at_call 11; refine haw.mono ?_; rintro e w1 ⟨rfl, hb1⟩; rw [HW0.out] at hb1; have D := Lib.hid (T0.out.keep hb1); have HB := Lib.hid (HB0.out.trans (hb1.mono HB0.out.size)); obtain ⟨x0, x1, _, _⟩ := D.out.1.cells; obtain ⟨y0, y1, _, _⟩ := D.out.2.cells; clear hb1)
        | (go_at_call 16; ((with_reducible refine (hrp _).mono ?_); rintro e w2 ⟨rfl, hb2⟩); have D2 := Lib.hid (D.out.keep hb2); have HB2 := Lib.hid (HB.out.trans (hb2.mono HB.out.size)); clear hb2 D HB x0 x1 y0 y1; have D := Lib.hid D2.out; have HB := Lib.hid HB2.out; clear D2 HB2; obtain ⟨x0, x1, _, _⟩ := D.out.1.cells; obtain ⟨y0, y1, _, _⟩ := D.out.2.cells)
        | (go_at_call 16; ((with_reducible refine (hrq _).mono ?_); rintro e w2 ⟨rfl, hb2⟩); have D2 := Lib.hid (D.out.keep hb2); have HB2 := Lib.hid (HB.out.trans (hb2.mono HB.out.size)); clear hb2 D HB x0 x1 y0 y1; have D := Lib.hid D2.out; have HB := Lib.hid HB2.out; clear D2 HB2; obtain ⟨x0, x1, _, _⟩ := D.out.1.cells; obtain ⟨y0, y1, _, _⟩ := D.out.2.cells)
        | (go_at_call 22; ((with_reducible refine (hO _).mono ?_); rintro e w2 ⟨rfl, hb2⟩); have D2 := Lib.hid (D.out.keep hb2); have HB2 := Lib.hid (HB.out.trans (hb2.mono HB.out.size)); clear hb2 D HB x0 x1 y0 y1; have D := Lib.hid D2.out; have HB := Lib.hid HB2.out; clear D2 HB2; obtain ⟨x0, x1, _, _⟩ := D.out.1.cells; obtain ⟨y0, y1, _, _⟩ := D.out.2.cells)
        | (go_at_call 22; ((with_reducible refine (hT _).mono ?_); rintro e w2 ⟨rfl, hb2⟩); have D2 := Lib.hid (D.out.keep hb2); have HB2 := Lib.hid (HB.out.trans (hb2.mono HB.out.size)); clear hb2 D HB x0 x1 y0 y1; have D := Lib.hid D2.out; have HB := Lib.hid HB2.out; clear D2 HB2; obtain ⟨x0, x1, _, _⟩ := D.out.1.cells; obtain ⟨y0, y1, _, _⟩ := D.out.2.cells)
        | (go_at_call 20; ((with_reducible refine (hIp _).mono ?_); rintro e w2 ⟨rfl, hb2⟩); have D2 := Lib.hid (D.out.keep hb2); have HB2 := Lib.hid (HB.out.trans (hb2.mono HB.out.size)); clear hb2 D HB x0 x1 y0 y1; have D := Lib.hid D2.out; have HB := Lib.hid HB2.out; clear D2 HB2; obtain ⟨x0, x1, _, _⟩ := D.out.1.cells; obtain ⟨y0, y1, _, _⟩ := D.out.2.cells)
        | (go_at_call 20; ((with_reducible refine (hIq _).mono ?_); rintro e w2 ⟨rfl, hb2⟩); have D2 := Lib.hid (D.out.keep hb2); have HB2 := Lib.hid (HB.out.trans (hb2.mono HB.out.size)); clear hb2 D HB x0 x1 y0 y1; have D := Lib.hid D2.out; have HB := Lib.hid HB2.out; clear D2 HB2; obtain ⟨x0, x1, _, _⟩ := D.out.1.cells; obtain ⟨y0, y1, _, _⟩ := D.out.2.cells)
        | (go_at_call 20; ((with_reducible refine (hB _).mono ?_); rintro e w2 ⟨rfl, hb2⟩); have D2 := Lib.hid (D.out.keep hb2); have HB2 := Lib.hid (HB.out.trans (hb2.mono HB.out.size)); clear hb2 D HB x0 x1 y0 y1; have D := Lib.hid D2.out; have HB := Lib.hid HB2.out; clear D2 HB2; obtain ⟨x0, x1, _, _⟩ := D.out.1.cells; obtain ⟨y0, y1, _, _⟩ := D.out.2.cells)
        | (go_at_call 20; ((with_reducible refine (hA _).mono ?_); rintro e w2 ⟨rfl, hb2⟩); have D2 := Lib.hid (D.out.keep hb2); have HB2 := Lib.hid (HB.out.trans (hb2.mono HB.out.size)); clear hb2 D HB x0 x1 y0 y1; have D := Lib.hid D2.out; have HB := Lib.hid HB2.out; clear D2 HB2; obtain ⟨x0, x1, _, _⟩ := D.out.1.cells; obtain ⟨y0, y1, _, _⟩ := D.out.2.cells))
      all_goals (go_ret; exact ⟨rfl, HB.out⟩)
  · clear hx hy
    cases Ip
    · obtain rfl : Iq = true := by
        rcases h with h | h
        · cases h
        · exact h
      clear h
      go_enter Tryd.func7, Tryd.ntmps7
      go_wp2_with (first
        | (go_at_call 11; refine haw.mono ?_; rintro e w1 ⟨rfl, hb1⟩; rw [HW0.out] at hb1; have D := Lib.hid (T0.out.keep hb1); have HB := Lib.hid (HB0.out.trans (hb1.mono HB0.out.size)); obtain ⟨x0, x1, _, _⟩ := D.out.1.cells; obtain ⟨y0, y1, _, _⟩ := D.out.2.cells; clear hb1)
        | (go_at_call 16; ((with_reducible refine (hrp _).mono ?_); rintro e w2 ⟨rfl, hb2⟩); have D2 := Lib.hid (D.out.keep hb2); have HB2 := Lib.hid (HB.out.trans (hb2.mono HB.out.size)); clear hb2 D HB x0 x1 y0 y1; have D := Lib.hid D2.out; have HB := Lib.hid HB2.out; clear D2 HB2; obtain ⟨x0, x1, _, _⟩ := D.out.1.cells; obtain ⟨y0, y1, _, _⟩ := D.out.2.cells)
        | (go_at_call 16; ((with_reducible refine (hrq _).mono ?_); rintro e w2 ⟨rfl, hb2⟩); have D2 := Lib.hid (D.out.keep hb2); have HB2 := Lib.hid (HB.out.trans (hb2.mono HB.out.size)); clear hb2 D HB x0 x1 y0 y1; have D := Lib.hid D2.out; have HB := Lib.hid HB2.out; clear D2 HB2; obtain ⟨x0, x1, _, _⟩ := D.out.1.cells; obtain ⟨y0, y1, _, _⟩ := D.out.2.cells)
        | (go_at_call 22; ((with_reducible refine (hO _).mono ?_); rintro e w2 ⟨rfl, hb2⟩); have D2 := Lib.hid (D.out.keep hb2); have HB2 := Lib.hid (HB.out.trans (hb2.mono HB.out.size)); clear hb2 D HB x0 x1 y0 y1; have D := Lib.hid D2.out; have HB := Lib.hid HB2.out; clear D2 HB2; obtain ⟨x0, x1, _, _⟩ := D.out.1.cells; obtain ⟨y0, y1, _, _⟩ := D.out.2.cells)
        | (go_at_call 22; ((with_reducible refine (hT _).mono ?_); rintro e w2 ⟨rfl, hb2⟩); have D2 := Lib.hid (D.out.keep hb2); have HB2 := Lib.hid (HB.out.trans (hb2.mono HB.out.size)); clear hb2 D HB x0 x1 y0 y1; have D := Lib.hid D2.out; have HB := Lib.hid HB2.out; clear D2 HB2; obtain ⟨x0, x1, _, _⟩ := D.out.1.cells; obtain ⟨y0, y1, _, _⟩ := D.out.2.cells)
        | (go_at_call 20; ((with_reducible refine (hIp _).mono ?_); rintro e w2 ⟨rfl, hb2⟩); have D2 := Lib.hid (D.out.keep hb2); have HB2 := Lib.hid (HB.out.trans (hb2.mono HB.out.size)); clear hb2 D HB x0 x1 y0 y1; have D := Lib.hid D2.out; have HB := Lib.hid HB2.out; clear D2 HB2; obtain ⟨x0, x1, _, _⟩ := D.out.1.cells; obtain ⟨y0, y1, _, _⟩ := D.out.2.cells)
        | (go_at_call 20; ((with_reducible refine (hIq _).mono ?_); rintro e w2 ⟨rfl, hb2⟩); have D2 := Lib.hid (D.out.keep hb2); have HB2 := Lib.hid (HB.out.trans (hb2.mono HB.out.size)); clear hb2 D HB x0 x1 y0 y1; have D := Lib.hid D2.out; have HB := Lib.hid HB2.out; clear D2 HB2; obtain ⟨x0, x1, _, _⟩ := D.out.1.cells; obtain ⟨y0, y1, _, _⟩ := D.out.2.cells)
        | (go_at_call 20; ((with_reducible refine (hB _).mono ?_); rintro e w2 ⟨rfl, hb2⟩); have D2 := Lib.hid (D.out.keep hb2); have HB2 := Lib.hid (HB.out.trans (hb2.mono HB.out.size)); clear hb2 D HB x0 x1 y0 y1; have D := Lib.hid D2.out; have HB := Lib.hid HB2.out; clear D2 HB2; obtain ⟨x0, x1, _, _⟩ := D.out.1.cells; obtain ⟨y0, y1, _, _⟩ := D.out.2.cells)
        | (go_at_call 20; ((with_reducible refine (hA _).mono ?_); rintro e w2 ⟨rfl, hb2⟩); have D2 := Lib.hid (D.out.keep hb2); have HB2 := Lib.hid (HB.out.trans (hb2.mono HB.out.size)); clear hb2 D HB x0 x1 y0 y1; have D := Lib.hid D2.out; have HB := Lib.hid HB2.out; clear D2 HB2; obtain ⟨x0, x1, _, _⟩ := D.out.1.cells; obtain ⟨y0, y1, _, _⟩ := D.out.2.cells))
      all_goals (go_ret; exact ⟨rfl, HB.out⟩)
    · clear h
      go_enter Tryd.func7, Tryd.ntmps7
      go_wp2_with (first
        | (go_at_call 11; refine haw.mono ?_; rintro e w1 ⟨rfl, hb1⟩; rw [HW0.out] at hb1; have D := Lib.hid (T0.out.keep hb1); have HB := Lib.hid (HB0.out.trans (hb1.mono HB0.out.size)); obtain ⟨x0, x1, _, _⟩ := D.out.1.cells; obtain ⟨y0, y1, _, _⟩ := D.out.2.cells; clear hb1)
        | (go_at_call 16; ((with_reducible refine (hrp _).mono ?_); rintro e w2 ⟨rfl, hb2⟩); have D2 := Lib.hid (D.out.keep hb2); have HB2 := Lib.hid (HB.out.trans (hb2.mono HB.out.size)); clear hb2 D HB x0 x1 y0 y1; have D := Lib.hid D2.out; have HB := Lib.hid HB2.out; clear D2 HB2; obtain ⟨x0, x1, _, _⟩ := D.out.1.cells; obtain ⟨y0, y1, _, _⟩ := D.out.2.cells)
        | (go_at_call 16; ((with_reducible refine (hrq _).mono ?_); rintro e w2 ⟨rfl, hb2⟩); have D2 := Lib.hid (D.out.keep hb2); have HB2 := Lib.hid (HB.out.trans (hb2.mono HB.out.size)); clear hb2 D HB x0 x1 y0 y1; have D := Lib.hid D2.out; have HB := Lib.hid HB2.out; clear D2 HB2; obtain ⟨x0, x1, _, _⟩ := D.out.1.cells; obtain ⟨y0, y1, _, _⟩ := D.out.2.cells)
        | (go_at_call 22; ((with_reducible refine (hO _).mono ?_); rintro e w2 ⟨rfl, hb2⟩); have D2 := Lib.hid (D.out.keep hb2); have HB2 := Lib.hid (HB.out.trans (hb2.mono HB.out.size)); clear hb2 D HB x0 x1 y0 y1; have D := Lib.hid D2.out; have HB := Lib.hid HB2.out; clear D2 HB2; obtain ⟨x0, x1, _, _⟩ := D.out.1.cells; obtain ⟨y0, y1, _, _⟩ := D.out.2.cells)
        | (go_at_call 22; ((with_reducible refine (hT _).mono ?_); rintro e w2 ⟨rfl, hb2⟩); have D2 := Lib.hid (D.out.keep hb2); have HB2 := Lib.hid (HB.out.trans (hb2.mono HB.out.size)); clear hb2 D HB x0 x1 y0 y1; have D := Lib.hid D2.out; have HB := Lib.hid HB2.out; clear D2 HB2; obtain ⟨x0, x1, _, _⟩ := D.out.1.cells; obtain ⟨y0, y1, _, _⟩ := D.out.2.cells)
        | (go_at_call 20; ((with_reducible refine (hIp _).mono ?_); rintro e w2 ⟨rfl, hb2⟩); have D2 := Lib.hid (D.out.keep hb2); have HB2 := Lib.hid (HB.out.trans (hb2.mono HB.out.size)); clear hb2 D HB x0 x1 y0 y1; have D := Lib.hid D2.out; have HB := Lib.hid HB2.out; clear D2 HB2; obtain ⟨x0, x1, _, _⟩ := D.out.1.cells; obtain ⟨y0, y1, _, _⟩ := D.out.2.cells)
        | (go_at_call 20; ((with_reducible refine (hIq _).mono ?_); rintro e w2 ⟨rfl, hb2⟩); have D2 := Lib.hid (D.out.keep hb2); have HB2 := Lib.hid (HB.out.trans (hb2.mono HB.out.size)); clear hb2 D HB x0 x1 y0 y1; have D := Lib.hid D2.out; have HB := Lib.hid HB2.out; clear D2 HB2; obtain ⟨x0, x1, _, _⟩ := D.out.1.cells; obtain ⟨y0, y1, _, _⟩ := D.out.2.cells)
        | (go_at_call 20; ((with_reducible refine (hB _).mono ?_); rintro e w2 ⟨rfl, hb2⟩); have D2 := Lib.hid (D.out.keep hb2); have HB2 := Lib.hid (HB.out.trans (hb2.mono HB.out.size)); clear hb2 D HB x0 x1 y0 y1; have D := Lib.hid D2.out; have HB := Lib.hid HB2.out; clear D2 HB2; obtain ⟨x0, x1, _, _⟩ := D.out.1.cells; obtain ⟨y0, y1, _, _⟩ := D.out.2.cells)
        | (go_at_call 20; ((with_reducible refine (hA _).mono ?_); rintro e w2 ⟨rfl, hb2⟩); have D2 := Lib.hid (D.out.keep hb2); have HB2 := Lib.hid (HB.out.trans (hb2.mono HB.out.size)); clear hb2 D HB x0 x1 y0 y1; have D := Lib.hid D2.out; have HB := Lib.hid HB2.out; clear D2 HB2; obtain ⟨x0, x1, _, _⟩ := D.out.1.cells; obtain ⟨y0, y1, _, _⟩ := D.out.2.cells))
      all_goals (go_ret; exact ⟨rfl, HB.out⟩)
  · have hy := hy rfl rfl
    clear hx
    cases A
    · clear hy
      go_enter Tryd.func7, Tryd.ntmps7
      go_wp2_with (first
        | (go_at_call 11; refine haw.mono ?_; rintro e w1 ⟨rfl, hb1⟩; rw [HW0.out] at hb1; have D := Lib.hid (T0.out.keep hb1); have HB := Lib.hid (HB0.out.trans (hb1.mono HB0.out.size)); obtain ⟨x0, x1, _, _⟩ := D.out.1.cells; obtain ⟨y0, y1, _, _⟩ := D.out.2.cells; clear hb1)
        | (go_at_call 16; ((with_reducible refine (hrp _).mono ?_); rintro e w2 ⟨rfl, hb2⟩); have D2 := Lib.hid (D.out.keep hb2); have HB2 := Lib.hid (HB.out.trans (hb2.mono HB.out.size)); clear hb2 D HB x0 x1 y0 y1; have D := Lib.hid D2.out; have HB := Lib.hid HB2.out; clear D2 HB2; obtain ⟨x0, x1, _, _⟩ := D.out.1.cells; obtain ⟨y0, y1, _, _⟩ := D.out.2.cells)
        | (go_at_call 16; ((with_reducible refine (hrq _).mono ?_); rintro e w2 ⟨rfl, hb2⟩); have D2 := Lib.hid (D.out.keep hb2); have HB2 := Lib.hid (HB.out.trans (hb2.mono HB.out.size)); clear hb2 D HB x0 x1 y0 y1; have D := Lib.hid D2.out; have HB := Lib.hid HB2.out; clear D2 HB2; obtain ⟨x0, x1, _, _⟩ := D.out.1.cells; obtain ⟨y0, y1, _, _⟩ := D.out.2.cells)
        | (go_at_call 22; ((with_reducible refine (hO _).mono ?_); rintro e w2 ⟨rfl, hb2⟩); have D2 := Lib.hid (D.out.keep hb2); have HB2 := Lib.hid (HB.out.trans (hb2.mono HB.out.size)); clear hb2 D HB x0 x1 y0 y1; have D := Lib.hid D2.out; have HB := Lib.hid HB2.out; clear D2 HB2; obtain ⟨x0, x1, _, _⟩ := D.out.1.cells; obtain ⟨y0, y1, _, _⟩ := D.out.2.cells)
        | (go_at_call 22; ((with_reducible refine (hT _).mono ?_); rintro e w2 ⟨rfl, hb2⟩); have D2 := Lib.hid (D.out.keep hb2); have HB2 := Lib.hid (HB.out.trans (hb2.mono HB.out.size)); clear hb2 D HB x0 x1 y0 y1; have D := Lib.hid D2.out; have HB := Lib.hid HB2.out; clear D2 HB2; obtain ⟨x0, x1, _, _⟩ := D.out.1.cells; obtain ⟨y0, y1, _, _⟩ := D.out.2.cells)
        | (go_at_call 20; ((with_reducible refine (hIp _).mono ?_); rintro e w2 ⟨rfl, hb2⟩); have D2 := Lib.hid (D.out.keep hb2); have HB2 := Lib.hid (HB.out.trans (hb2.mono HB.out.size)); clear hb2 D HB x0 x1 y0 y1; have D := Lib.hid D2.out; have HB := Lib.hid HB2.out; clear D2 HB2; obtain ⟨x0, x1, _, _⟩ := D.out.1.cells; obtain ⟨y0, y1, _, _⟩ := D.out.2.cells)
        | (go_at_call 20; ((with_reducible refine (hIq _).mono ?_); rintro e w2 ⟨rfl, hb2⟩); have D2 := Lib.hid (D.out.keep hb2); have HB2 := Lib.hid (HB.out.trans (hb2.mono HB.out.size)); clear hb2 D HB x0 x1 y0 y1; have D := Lib.hid D2.out; have HB := Lib.hid HB2.out; clear D2 HB2; obtain ⟨x0, x1, _, _⟩ := D.out.1.cells; obtain ⟨y0, y1, _, _⟩ := D.out.2.cells)
        | (go_at_call 20; ((with_reducible refine (hB _).mono ?_); rintro e w2 ⟨rfl, hb2⟩); have D2 := Lib.hid (D.out.keep hb2); have HB2 := Lib.hid (HB.out.trans (hb2.mono HB.out.size)); clear hb2 D HB x0 x1 y0 y1; have D := Lib.hid D2.out; have HB := Lib.hid HB2.out; clear D2 HB2; obtain ⟨x0, x1, _, _⟩ := D.out.1.cells; obtain ⟨y0, y1, _, _⟩ := D.out.2.cells)
        | (go_at_call 20; ((with_reducible refine (hA _).mono ?_); rintro e w2 ⟨rfl, hb2⟩); have D2 := Lib.hid (D.out.keep hb2); have HB2 := Lib.hid (HB.out.trans (hb2.mono HB.out.size)); clear hb2 D HB x0 x1 y0 y1; have D := Lib.hid D2.out; have HB := Lib.hid HB2.out; clear D2 HB2; obtain ⟨x0, x1, _, _⟩ := D.out.1.cells; obtain ⟨y0, y1, _, _⟩ := D.out.2.cells))
      all_goals (go_ret; exact ⟨rfl, HB.out⟩)
    · obtain rfl := hy rfl
      clear hy
      go_enter Tryd.func7, Tryd.ntmps7
      go_wp2_with (first
        | (go_at_call 11; refine haw.mono ?_; rintro e w1 ⟨rfl, hb1⟩; rw [HW0.out] at hb1; have D := Lib.hid (T0.out.keep hb1); have HB := Lib.hid (HB0.out.trans (hb1.mono HB0.out.size)); obtain ⟨x0, x1, _, _⟩ := D.out.1.cells; obtain ⟨y0, y1, _, _⟩ := D.out.2.cells; clear hb1)
        | (go_at_call 16; ((with_reducible refine (hrp _).mono ?_); rintro e w2 ⟨rfl, hb2⟩); have D2 := Lib.hid (D.out.keep hb2); have HB2 := Lib.hid (HB.out.trans (hb2.mono HB.out.size)); clear hb2 D HB x0 x1 y0 y1; have D := Lib.hid D2.out; have HB := Lib.hid HB2.out; clear D2 HB2; obtain ⟨x0, x1, _, _⟩ := D.out.1.cells; obtain ⟨y0, y1, _, _⟩ := D.out.2.cells)
        | (go_at_call 16; ((with_reducible refine (hrq _).mono ?_); rintro e w2 ⟨rfl, hb2⟩); have D2 := Lib.hid (D.out.keep hb2); have HB2 := Lib.hid (HB.out.trans (hb2.mono HB.out.size)); clear hb2 D HB x0 x1 y0 y1; have D := Lib.hid D2.out; have HB := Lib.hid HB2.out; clear D2 HB2; obtain ⟨x0, x1, _, _⟩ := D.out.1.cells; obtain ⟨y0, y1, _, _⟩ := D.out.2.cells)
        | (go_at_call 22; ((with_reducible refine (hO _).mono ?_); rintro e w2 ⟨rfl, hb2⟩); have D2 := Lib.hid (D.out.keep hb2); have HB2 := Lib.hid (HB.out.trans (hb2.mono HB.out.size)); clear hb2 D HB x0 x1 y0 y1; have D := Lib.hid D2.out; have HB := Lib.hid HB2.out; clear D2 HB2; obtain ⟨x0, x1, _, _⟩ := D.out.1.cells; obtain ⟨y0, y1, _, _⟩ := D.out.2.cells)
        | (go_at_call 22; ((with_reducible refine (hT _).mono ?_); rintro e w2 ⟨rfl, hb2⟩); have D2 := Lib.hid (D.out.keep hb2); have HB2 := Lib.hid (HB.out.trans (hb2.mono HB.out.size)); clear hb2 D HB x0 x1 y0 y1; have D := Lib.hid D2.out; have HB := Lib.hid HB2.out; clear D2 HB2; obtain ⟨x0, x1, _, _⟩ := D.out.1.cells; obtain ⟨y0, y1, _, _⟩ := D.out.2.cells)
        | (go_at_call 20; ((with_reducible refine (hIp _).mono ?_); rintro e w2 ⟨rfl, hb2⟩); have D2 := Lib.hid (D.out.keep hb2); have HB2 := Lib.hid (HB.out.trans (hb2.mono HB.out.size)); clear hb2 D HB x0 x1 y0 y1; have D := Lib.hid D2.out; have HB := Lib.hid HB2.out; clear D2 HB2; obtain ⟨x0, x1, _, _⟩ := D.out.1.cells; obtain ⟨y0, y1, _, _⟩ := D.out.2.cells)
        | (go_at_call 20; ((with_reducible refine (hIq _).mono ?_); rintro e w2 ⟨rfl, hb2⟩); have D2 := Lib.hid (D.out.keep hb2); have HB2 := Lib.hid (HB.out.trans (hb2.mono HB.out.size)); clear hb2 D HB x0 x1 y0 y1; have D := Lib.hid D2.out; have HB := Lib.hid HB2.out; clear D2 HB2; obtain ⟨x0, x1, _, _⟩ := D.out.1.cells; obtain ⟨y0, y1, _, _⟩ := D.out.2.cells)
        | (go_at_call 20; ((with_reducible refine (hB _).mono ?_); rintro e w2 ⟨rfl, hb2⟩); have D2 := Lib.hid (D.out.keep hb2); have HB2 := Lib.hid (HB.out.trans (hb2.mono HB.out.size)); clear hb2 D HB x0 x1 y0 y1; have D := Lib.hid D2.out; have HB := Lib.hid HB2.out; clear D2 HB2; obtain ⟨x0, x1, _, _⟩ := D.out.1.cells; obtain ⟨y0, y1, _, _⟩ := D.out.2.cells)
        | (go_at_call 20; ((with_reducible refine (hA _).mono ?_); rintro e w2 ⟨rfl, hb2⟩); have D2 := Lib.hid (D.out.keep hb2); have HB2 := Lib.hid (HB.out.trans (hb2.mono HB.out.size)); clear hb2 D HB x0 x1 y0 y1; have D := Lib.hid D2.out; have HB := Lib.hid HB2.out; clear D2 HB2; obtain ⟨x0, x1, _, _⟩ := D.out.1.cells; obtain ⟨y0, y1, _, _⟩ := D.out.2.cells))
      all_goals (go_ret; exact ⟨rfl, HB.out⟩)
set_option maxHeartbeats 8000000 in
set_option maxRecDepth 100000 in
theorem apart_bad (n : Nat) (b : Int) (m : Nat) (c : Int) (a : Nat) (R : Bool)
    (hrp : ∀ w, Calls Tryd.prog 16 #[.agg #[.int .u32 n, .int .i64 b]] w fun e w' => e = .returned (.bool R) ∧ Below w.heap.size w w')
    (hrq : ∀ w, Calls Tryd.prog 16 #[.agg #[.int .u32 m, .int .i64 c]] w fun e w' => e = .returned (.bool false) ∧ Below w.heap.size w w')
    (hO : ∀ w, Calls Tryd.prog 22 #[.agg #[.int .u32 n, .int .i64 b], .agg #[.int .u32 m, .int .i64 c]] w fun e w' => e = .returned (.bool false) ∧ Below w.heap.size w w')
    (w : World) (ht : TabP w.heap.size w) :
    Calls Tryd.prog 7 #[.agg #[.int .u32 n, .int .i64 b], .agg #[.int .u32 m, .int .i64 c], .int .u32 a] w fun e w' => e = .returned (.bool true) ∧ Below w.heap.size w w' := by
  obtain ⟨W0, hW0⟩ : ∃ W0, (w.alloc (.cells #[.int .u32 n, .int .i64 b] 24)).alloc (.cells #[.int .u32 m, .int .i64 c] 24) = W0 := ⟨_, rfl⟩
  have t0 := Duo.new w (.int .u32 n) (.int .i64 b) (.int .u32 m) (.int .i64 c)
  have hbl : Below w.heap.size w W0 := by rw [← hW0]; exact boxA2
  have haw := awake6_any W0 ((TabP.on ht hbl).up hbl.size)
  rw [hW0] at t0
  rw [← hW0] at haw
  have T0 := Lib.hid t0
  have HB0 := Lib.hid hbl
  have HW0 := Lib.hid hW0
  clear t0 hbl hW0 ht
  cases R
  · go_enter Tryd.func7, Tryd.ntmps7
    go_wp2_with (first
      | (go_at_call 11; refine haw.mono ?_; rintro e w1 ⟨rfl, hb1⟩; rw [HW0.out] at hb1; have D := Lib.hid (T0.out.keep hb1); have HB := Lib.hid (HB0.out.trans (hb1.mono HB0.out.size)); obtain ⟨x0, x1, _, _⟩ := D.out.1.cells; obtain ⟨y0, y1, _, _⟩ := D.out.2.cells; clear hb1)
      | (go_at_call 16; ((with_reducible refine (hrp _).mono ?_); rintro e w2 ⟨rfl, hb2⟩); have D2 := Lib.hid (D.out.keep hb2); have HB2 := Lib.hid (HB.out.trans (hb2.mono HB.out.size)); clear hb2 D HB x0 x1 y0 y1; have D := Lib.hid D2.out; have HB := Lib.hid HB2.out; clear D2 HB2; obtain ⟨x0, x1, _, _⟩ := D.out.1.cells; obtain ⟨y0, y1, _, _⟩ := D.out.2.cells)
      | (go_at_call 22; ((with_reducible refine (hO _).mono ?_); rintro e w2 ⟨rfl, hb2⟩); have D2 := Lib.hid (D.out.keep hb2); have HB2 := Lib.hid (HB.out.trans (hb2.mono HB.out.size)); clear hb2 D HB x0 x1 y0 y1; have D := Lib.hid D2.out; have HB := Lib.hid HB2.out; clear D2 HB2; obtain ⟨x0, x1, _, _⟩ := D.out.1.cells; obtain ⟨y0, y1, _, _⟩ := D.out.2.cells))
    all_goals (go_ret; exact ⟨rfl, HB.out⟩)
  · go_enter Tryd.func7, Tryd.ntmps7
    go_wp2_with (first
      | (go_at_call 11; refine haw.mono ?_; rintro e w1 ⟨rfl, hb1⟩; rw [HW0.out] at hb1; have D := Lib.hid (T0.out.keep hb1); have HB := Lib.hid (HB0.out.trans (hb1.mono HB0.out.size)); obtain ⟨x0, x1, _, _⟩ := D.out.1.cells; obtain ⟨y0, y1, _, _⟩ := D.out.2.cells; clear hb1)
      | (go_at_call 16; ((with_reducible refine (hrp _).mono ?_); rintro e w2 ⟨rfl, hb2⟩); have D2 := Lib.hid (D.out.keep hb2); have HB2 := Lib.hid (HB.out.trans (hb2.mono HB.out.size)); clear hb2 D HB x0 x1 y0 y1; have D := Lib.hid D2.out; have HB := Lib.hid HB2.out; clear D2 HB2; obtain ⟨x0, x1, _, _⟩ := D.out.1.cells; obtain ⟨y0, y1, _, _⟩ := D.out.2.cells)
      | (go_at_call 16; ((with_reducible refine (hrq _).mono ?_); rintro e w2 ⟨rfl, hb2⟩); have D2 := Lib.hid (D.out.keep hb2); have HB2 := Lib.hid (HB.out.trans (hb2.mono HB.out.size)); clear hb2 D HB x0 x1 y0 y1; have D := Lib.hid D2.out; have HB := Lib.hid HB2.out; clear D2 HB2; obtain ⟨x0, x1, _, _⟩ := D.out.1.cells; obtain ⟨y0, y1, _, _⟩ := D.out.2.cells)
      | (go_at_call 22; ((with_reducible refine (hO _).mono ?_); rintro e w2 ⟨rfl, hb2⟩); have D2 := Lib.hid (D.out.keep hb2); have HB2 := Lib.hid (HB.out.trans (hb2.mono HB.out.size)); clear hb2 D HB x0 x1 y0 y1; have D := Lib.hid D2.out; have HB := Lib.hid HB2.out; clear D2 HB2; obtain ⟨x0, x1, _, _⟩ := D.out.1.cells; obtain ⟨y0, y1, _, _⟩ := D.out.2.cells))
    all_goals (go_ret; exact ⟨rfl, HB.out⟩)
set_option maxHeartbeats 8000000 in
set_option maxRecDepth 100000 in
theorem apart_bad0 (n : Nat) (b : Int) (m : Nat) (c : Int) (a : Nat)
    (hrp : ∀ w, Calls Tryd.prog 16 #[.agg #[.int .u32 n, .int .i64 b]] w fun e w' => e = .returned (.bool false) ∧ Below w.heap.size w w')
    (hO : ∀ w, Calls Tryd.prog 22 #[.agg #[.int .u32 n, .int .i64 b], .agg #[.int .u32 m, .int .i64 c]] w fun e w' => e = .returned (.bool false) ∧ Below w.heap.size w w')
    (w : World) (ht : TabP w.heap.size w) :
    Calls Tryd.prog 7 #[.agg #[.int .u32 n, .int .i64 b], .agg #[.int .u32 m, .int .i64 c], .int .u32 a] w fun e w' => e = .returned (.bool true) ∧ Below w.heap.size w w' := by
  obtain ⟨W0, hW0⟩ : ∃ W0, (w.alloc (.cells #[.int .u32 n, .int .i64 b] 24)).alloc (.cells #[.int .u32 m, .int .i64 c] 24) = W0 := ⟨_, rfl⟩
  have t0 := Duo.new w (.int .u32 n) (.int .i64 b) (.int .u32 m) (.int .i64 c)
  have hbl : Below w.heap.size w W0 := by rw [← hW0]; exact boxA2
  have haw := awake6_any W0 ((TabP.on ht hbl).up hbl.size)
  rw [hW0] at t0
  rw [← hW0] at haw
  have T0 := Lib.hid t0
  have HB0 := Lib.hid hbl
  have HW0 := Lib.hid hW0
  clear t0 hbl hW0 ht
  go_enter Tryd.func7, Tryd.ntmps7
  go_wp2_with (first
    | (go_at_call 11; refine haw.mono ?_; rintro e w1 ⟨rfl, hb1⟩; rw [HW0.out] at hb1; have D := Lib.hid (T0.out.keep hb1); have HB := Lib.hid (HB0.out.trans (hb1.mono HB0.out.size)); obtain ⟨x0, x1, _, _⟩ := D.out.1.cells; obtain ⟨y0, y1, _, _⟩ := D.out.2.cells; clear hb1)
    | (go_at_call 16; ((with_reducible refine (hrp _).mono ?_); rintro e w2 ⟨rfl, hb2⟩); have D2 := Lib.hid (D.out.keep hb2); have HB2 := Lib.hid (HB.out.trans (hb2.mono HB.out.size)); clear hb2 D HB x0 x1 y0 y1; have D := Lib.hid D2.out; have HB := Lib.hid HB2.out; clear D2 HB2; obtain ⟨x0, x1, _, _⟩ := D.out.1.cells; obtain ⟨y0, y1, _, _⟩ := D.out.2.cells)
    | (go_at_call 22; ((with_reducible refine (hO _).mono ?_); rintro e w2 ⟨rfl, hb2⟩); have D2 := Lib.hid (D.out.keep hb2); have HB2 := Lib.hid (HB.out.trans (hb2.mono HB.out.size)); clear hb2 D HB x0 x1 y0 y1; have D := Lib.hid D2.out; have HB := Lib.hid HB2.out; clear D2 HB2; obtain ⟨x0, x1, _, _⟩ := D.out.1.cells; obtain ⟨y0, y1, _, _⟩ := D.out.2.cells))
  all_goals (go_ret; exact ⟨rfl, HB.out⟩)
theorem inP_iff {p : Nat × Int} (h : rightP p = true) (a : Nat) : inP p a = true ↔ a - a % sizeP p.2 = p.1 := by
  unfold inP
  rw [h, Bool.true_and, decide_eq_true_eq]
theorem coversP_iff {p q : Nat × Int} (h : rightP q = true) : coversP p q = true ↔ (p.2 ≤ q.2 ∧ inP p q.1 = true) := by
  unfold coversP
  rw [h, Bool.true_and, Bool.and_eq_true, decide_eq_true_eq]
theorem right_mod {p : Nat × Int} (h : rightP p = true) : p.1 % sizeP p.2 = 0 := by
  unfold rightP at h
  simp only [Bool.and_eq_true, decide_eq_true_eq] at h
  exact h.2
theorem both_same {p q : Nat × Int} (hp : rightP p = true) (hq : rightP q = true) (h1 : coversP p q = true) (h2 : coversP q p = true) : p.1 = q.1 ∧ p.2 = q.2 := by
  obtain ⟨a1, a2⟩ := (coversP_iff hq).1 h1
  obtain ⟨b1, _⟩ := (coversP_iff hp).1 h2
  have e : p.2 = q.2 := by omega
  have h3 := (inP_iff hp q.1).1 a2
  rw [e, right_mod hq] at h3
  exact ⟨by omega, e⟩
theorem in_covers {p q : Nat × Int} (hp : rightP p = true) (hq : rightP q = true) (h : inP p q.1 = true) : coversP p q = true ∨ coversP q p = true := by
  by_cases hb : p.2 ≤ q.2
  · exact .inl ((coversP_iff hq).2 ⟨hb, h⟩)
  · have hd := sizeP_dvd (b := q.2) (c := p.2) (by omega)
    have h3 := (inP_iff hp q.1).1 h
    have hm : q.1 % sizeP p.2 = 0 := Nat.mod_eq_zero_of_dvd (Nat.dvd_trans hd (Nat.dvd_of_mod_eq_zero (right_mod hq)))
    rw [hm] at h3
    refine .inr ((coversP_iff hp).2 ⟨by omega, (inP_iff hq p.1).2 ?_⟩)
    rw [← h3, Nat.sub_zero, right_mod hq]
    rfl
theorem in_in {p q : Nat × Int} (hp : rightP p = true) (hq : rightP q = true) (h : coversP p q = true) {a : Nat} (ha : inP q a = true) : inP p a = true := by
  obtain ⟨h1, h2⟩ := (coversP_iff hq).1 h
  have h3 := (inP_iff hp q.1).1 h2
  have h4 := (inP_iff hq a).1 ha
  refine (inP_iff hp a).2 ?_
  have h5 := cut_cut h1 a
  rw [h4, h3] at h5
  exact h5.symm
theorem meet_covers {p q : Nat × Int} (hp : rightP p = true) (hq : rightP q = true) {a : Nat} (h1 : inP p a = true) (h2 : inP q a = true) : coversP p q = true ∨ coversP q p = true := by
  have h3 := (inP_iff hp a).1 h1
  have h4 := (inP_iff hq a).1 h2
  by_cases hb : p.2 ≤ q.2
  · refine .inl ((coversP_iff hq).2 ⟨hb, (inP_iff hp q.1).2 ?_⟩)
    have h5 := cut_cut hb a
    rw [h4, h3] at h5
    exact h5
  · refine .inr ((coversP_iff hp).2 ⟨by omega, (inP_iff hq p.1).2 ?_⟩)
    have h5 := cut_cut (m := q.2) (n := p.2) (by omega) a
    rw [h4, h3] at h5
    exact h5
theorem apart_walk (n : Nat) (hn : n < 4294967296) (b : Int) (_ : -9223372036854775808 ≤ b ∧ b ≤ 9223372036854775807) (m : Nat) (hm : m < 4294967296) (c : Int) (_ : -9223372036854775808 ≤ c ∧ c ≤ 9223372036854775807) (a : Nat) (ha : a < 4294967296) (w : World) (hT : TabP w.heap.size w) :
    Calls Tryd.prog 7 #[.agg #[.int .u32 n, .int .i64 b], .agg #[.int .u32 m, .int .i64 c], .int .u32 a] w fun e w' => e = .returned (.bool true) ∧ Below w.heap.size w w' := by
  have hrp := right_any n hn b
  have hrq := right_any m hm c
  have hO := covers_any n hn b m hm c
  cases hp : rightP (n, b)
  · rw [hp] at hrp
    rw [show coversP (n, b) (m, c) = false by unfold coversP inP; rw [hp]; simp] at hO
    exact apart_bad0 n b m c a hrp hO w hT
  · cases hq : rightP (m, c)
    · rw [hq] at hrq
      rw [show coversP (n, b) (m, c) = false by unfold coversP; rw [hq]; simp] at hO
      exact apart_bad n b m c a _ hrp hrq hO w hT
    · rw [hp] at hrp
      rw [hq] at hrq
      refine apart_walk1 n b m c a (coversP (n, b) (m, c)) (coversP (m, c) (n, b)) (inP (n, b) m) (inP (m, c) n) (inP (n, b) a) (inP (m, c) a) ?_ (fun h1 h2 => in_in hp hq h1 h2) ?_ hrp hrq hO (covers_any m hm c n hn b) (in_any n hn b m hm) (in_any m hm c n hn) (in_any m hm c a ha) (in_any n hn b a ha) w hT
      · cases h1 : coversP (n, b) (m, c) <;> cases h2 : coversP (m, c) (n, b)
        · refine .inr (.inr (.inr ⟨rfl, rfl, ?_, ?_⟩))
          · cases h : inP (n, b) m
            · rfl
            · rcases in_covers hp hq h with e | e
              · rw [h1] at e; cases e
              · rw [h2] at e; cases e
          · cases h : inP (m, c) n
            · rfl
            · rcases in_covers hq hp h with e | e
              · rw [h2] at e; cases e
              · rw [h1] at e; cases e
        · exact .inr (.inr (.inl ⟨rfl, rfl, .inr ((coversP_iff hp).1 h2).2⟩))
        · exact .inr (.inl ⟨rfl, rfl, ((coversP_iff hq).1 h1).2⟩)
        · have e := both_same hp hq h1 h2
          exact .inl ⟨rfl, rfl, ((coversP_iff hq).1 h1).2, e.1, e.2⟩
      · intro h1 h2 h3
        cases h4 : inP (m, c) a
        · rfl
        · rcases meet_covers hp hq h3 h4 with e | e
          · rw [h1] at e; cases e
          · rw [h2] at e; cases e
end Go.Proofs.YtebogllfjhiblaaDoor
