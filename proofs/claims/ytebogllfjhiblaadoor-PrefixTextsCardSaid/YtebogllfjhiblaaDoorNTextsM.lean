/-
  PREFIXES: the text and what is parsed are the document's: the law's walk.
-/
import Derived.Test.YtebogllfjhiblaaDoorNPMath
namespace Go.Proofs.YtebogllfjhiblaaDoor
set_option linter.unusedVariables false
open Go.RowKit
set_option maxHeartbeats 8000000 in
set_option maxRecDepth 100000 in
theorem texts_long (n : Nat) (b : Int) (l : List UInt8) (hl : 1000 < l.length) (w : World) (hL : LibP w) :
    Calls Tryd.prog 3 #[.agg #[.int .u32 n, .int .i64 b], .string (strL l)] w fun e w' => e = .returned (.bool true) ∧ Below w.heap.size w w' := by
  have b1 := (Below.refl w.heap.size w).alloc (Nat.le_refl _) (.cells #[.int .u32 n, .int .i64 b] 24)
  have haw := awake6_any _ (hL.below b1).tab
  have hd : decide ((l.length : Int) > 1000) = true := by simp; omega
  have hd2 : decide (1000 < (l.length : Int)) = true := by simp; omega
  have hz := strL_size l
  have B1 := Lib.hid b1
  clear hL b1 hl
  go_enter Tryd.func3, Tryd.ntmps3
  go_wp2_with (go_at_call 11; refine haw.mono ?_; rintro e w1 ⟨rfl, hb1⟩; have HB1 := Lib.hid (B1.out.trans (hb1.mono B1.out.size)); clear hb1)
  go_ret
  exact ⟨rfl, HB1.out⟩
set_option maxHeartbeats 8000000 in
set_option maxRecDepth 100000 in
theorem texts_main (n : Nat) (b : Int) (l : List UInt8) (hl : l.length ≤ 1000) (w : World) (hL : LibP w) (T : List UInt8) (R : Bool) (u : Nat) (v j : Int)
    (hT : ∀ W, LibP W → Calls Tryd.prog 14 #[.agg #[.int .u32 n, .int .i64 b]] W fun e w' => e = .returned (.string (strL T)) ∧ Below W.heap.size W w')
    (hrT : ∀ W, Calls Tryd.prog 15 #[.agg #[.int .u32 n, .int .i64 b]] W fun e w' => e = .returned (.string (strL T)) ∧ Below W.heap.size W w')
    (hP : ∀ W, LibP W → Calls Tryd.prog 12 #[.string (strL l)] W fun e w' => e = .returned (.tuple #[.agg #[.int .u32 u, .int .i64 v], .int .i64 j]) ∧ Below W.heap.size W w')
    (hrP : ∀ W, Calls Tryd.prog 13 #[.string (strL l)] W fun e w' => e = .returned (.tuple #[.agg #[.int .u32 u, .int .i64 v], .int .i64 j]) ∧ Below W.heap.size W w')
    (hR : ∀ W, Calls Tryd.prog 16 #[.agg #[.int .u32 n, .int .i64 b]] W fun e w' => e = .returned (.bool R) ∧ Below W.heap.size W w')
    (hrR : ∀ W, Calls Tryd.prog 17 #[.agg #[.int .u32 n, .int .i64 b]] W fun e w' => e = .returned (.bool R) ∧ Below W.heap.size W w') :
    Calls Tryd.prog 3 #[.agg #[.int .u32 n, .int .i64 b], .string (strL l)] w fun e w' => e = .returned (.bool true) ∧ Below w.heap.size w w' := by
  have b1 := (Below.refl w.heap.size w).alloc (Nat.le_refl _) (.cells #[.int .u32 n, .int .i64 b] 24)
  have haw := awake6_any _ (hL.below b1).tab
  have hd : decide ((l.length : Int) > 1000) = false := by simp; omega
  have hd2 : decide (1000 < (l.length : Int)) = false := by simp; omega
  have hz := strL_size l
  have he : (T == T) = true := by simp
  have he2 : (R == R) = true := by cases R <;> rfl
  have B1 := Lib.hid b1
  have X1 := Lib.hid (Bx.new w (.int .u32 n) (.int .i64 b))
  have HL := Lib.hid hL
  clear hL b1 hl
  go_enter Tryd.func3, Tryd.ntmps3
  go_wp2_with (first
    | (go_at_call 11; refine haw.mono ?_; rintro e w1 ⟨rfl, hb1⟩; have HB1 := Lib.hid (B1.out.trans (hb1.mono B1.out.size)); have D := Lib.hid (X1.out.keep hb1 X1.out.lt); clear hb1)
    | (go_at_call 12; refine (hP _ (HL.out.below HB1.out)).mono ?_; rintro e w2 ⟨rfl, hb2⟩; have E := Lib.hid (Two6.of (D.out.keep hb2 D.out.lt) (.int .u32 u) (.int .i64 v)); have HB2 := Lib.hid ((HB1.out.trans (hb2.mono HB1.out.size)).alloc (by have := HB1.out.size; have := hb2.size; omega) (.cells #[.int .u32 u, .int .i64 v] 24)); clear hb2)
    | (go_at_call 13; refine (hrP _).mono ?_; rintro e w3 ⟨rfl, hb3⟩; have F : Hid (Three6 ((w3.alloc (.cells #[.int .u32 u, .int .i64 v] 24)).drew) w.heap.size w2.heap.size w3.heap.size (.int .u32 n) (.int .i64 b) (.int .u32 u) (.int .i64 v) (.int .u32 u) (.int .i64 v)) := (Three6.of (E.out.keep hb3) (.int .u32 u) (.int .i64 v)); have HB3 := Lib.hid ((HB2.out.trans (hb3.mono HB2.out.size)).alloc (by have := HB2.out.size; have := hb3.size; omega) (.cells #[.int .u32 u, .int .i64 v] 24)); clear hb3))
  obtain ⟨p0, p1, _, _⟩ := F.out.1.cells
  obtain ⟨q0, q1, _, _⟩ := F.out.2.1.cells
  obtain ⟨r0, r1, _, _⟩ := F.out.2.2.cells
  have HB3 := Lib.hid (bel_drawn HB3.out 1)
  first | (go_region_held (fun W => W.cell? ⟨w.heap.size, 0, none⟩ = some (.int .u32 n) ∧ W.cell? ⟨w.heap.size, 1, none⟩ = some (.int .i64 b) ∧ W.cell? ⟨w2.heap.size, 0, none⟩ = some (.int .u32 u) ∧ W.cell? ⟨w2.heap.size, 1, none⟩ = some (.int .i64 v) ∧ W.cell? ⟨w3.heap.size, 0, none⟩ = some (.int .u32 u) ∧ W.cell? ⟨w3.heap.size, 1, none⟩ = some (.int .i64 v)) (first | exact ⟨p0, p1, q0, q1, r0, r1⟩ | exact ⟨by assumption, by assumption, by assumption, by assumption, by assumption, by assumption⟩)
    (first
      | (go_at_call 14; refine (hT _ (HL.out.below HB3.out)).mono ?_; rintro e w4 ⟨rfl, hb4⟩; have F4 := Lib.hid (F.out.keep hb4); obtain ⟨p4, p4', _, _⟩ := F4.out.1.cells; obtain ⟨q4, q4', _, _⟩ := F4.out.2.1.cells; obtain ⟨r4, r4', _, _⟩ := F4.out.2.2.cells; have HB4 := Lib.hid (HB3.out.trans (hb4.mono HB3.out.size)); clear hb4)
      | (go_at_call 15; refine (hrT _).mono ?_; rintro e w5 ⟨rfl, hb5⟩; have F5 := Lib.hid (F4.out.keep hb5); obtain ⟨p5, p5', _, _⟩ := F5.out.1.cells; obtain ⟨q5, q5', _, _⟩ := F5.out.2.1.cells; obtain ⟨r5, r5', _, _⟩ := F5.out.2.2.cells; have HB5 := Lib.hid (HB4.out.trans (hb5.mono HB4.out.size)); clear hb5)
      | (go_at_call 16; refine (hR _).mono ?_; rintro e w6 ⟨rfl, hb6⟩; have F6 := Lib.hid (F5.out.keep hb6); obtain ⟨p6, p6', _, _⟩ := F6.out.1.cells; obtain ⟨q6, q6', _, _⟩ := F6.out.2.1.cells; obtain ⟨r6, r6', _, _⟩ := F6.out.2.2.cells; have HB6 := Lib.hid (HB5.out.trans (hb6.mono HB5.out.size)); clear hb6)
      | (go_at_call 17; refine (hrR _).mono ?_; rintro e w7 ⟨rfl, hb7⟩; have F7 := Lib.hid (F6.out.keep hb7); obtain ⟨p7, p7', _, _⟩ := F7.out.1.cells; obtain ⟨q7, q7', _, _⟩ := F7.out.2.1.cells; obtain ⟨r7, r7', _, _⟩ := F7.out.2.2.cells; have HB7 := Lib.hid (HB6.out.trans (hb7.mono HB6.out.size)); clear hb7))) | fail
  go_wp2
  go_ret
  exact ⟨rfl, HB7.out⟩
end Go.Proofs.YtebogllfjhiblaaDoor
