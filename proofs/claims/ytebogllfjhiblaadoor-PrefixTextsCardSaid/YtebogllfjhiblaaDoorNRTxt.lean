/-
  PREFIXES: the document's text of a prefix.
-/
import Derived.Test.YtebogllfjhiblaaDoorNFig
namespace Go.Proofs.YtebogllfjhiblaaDoor
set_option linter.unusedVariables false
open Go.RowKit
theorem strL_dot (l : List UInt8) : strL l ++ ({ data := #[46] } : ByteArray) = strL (l ++ [46]) := strL_append l [46]
theorem strL_slash (l : List UInt8) : strL l ++ ({ data := #[47] } : ByteArray) = strL (l ++ [47]) := strL_append l [47]
theorem wrap_mid (z : Int) (h : 0 ≤ z ∧ z ≤ 9223372036854775807) : IntKind.i64.wrap z = z := by
  first
    | (show wrap64 z = z; unfold wrap64; omega)
    | (simp [IntKind.wrap, IntKind.signed, IntKind.bits]; omega)
set_option maxHeartbeats 4000000 in
set_option maxRecDepth 100000 in
theorem rtext_any (n : Nat) (hn : n < 4294967296) (b : Int) (w : World) : Calls Tryd.prog 15 #[.agg #[.int .u32 n, .int .i64 b]] w fun e w' => e = .returned (.string (strL (textP (n, b)))) ∧ Below w.heap.size w w' := by
  have hr := rright_any n hn b
  unfold textP
  by_cases hp : rightP (n, b) = true
  · have h01 := (rightP_bits hp).1
    rw [if_pos hp]
    rw [hp] at hr
    obtain ⟨bb, hbb⟩ : ∃ bb : Nat, b = bb := ⟨b.toNat, by omega⟩
    subst hbb
    have hb2 : bb ≤ 32 := by omega
    rw [show ((n, (bb : Int)) : Nat × Int).2.toNat = bb from rfl]
    have f0 := fig_any (byteP n 0) (Nat.lt_of_lt_of_le (byteP_lt n 0) (by decide))
    have f1 := fig_any (byteP n 1) (Nat.lt_of_lt_of_le (byteP_lt n 1) (by decide))
    have f2 := fig_any (byteP n 2) (Nat.lt_of_lt_of_le (byteP_lt n 2) (by decide))
    have f3 := fig_any (byteP n 3) (Nat.lt_of_lt_of_le (byteP_lt n 3) (by decide))
    have f4 := fig_any bb (by omega)
    have d0 := digits_len (Nat.lt_of_lt_of_le (byteP_lt n 0) (by decide) : byteP n 0 < 1000)
    have d1 := digits_len (Nat.lt_of_lt_of_le (byteP_lt n 1) (by decide) : byteP n 1 < 1000)
    have d2 := digits_len (Nat.lt_of_lt_of_le (byteP_lt n 2) (by decide) : byteP n 2 < 1000)
    have d3 := digits_len (Nat.lt_of_lt_of_le (byteP_lt n 3) (by decide) : byteP n 3 < 1000)
    have d4 := digits_len (x := bb) (by omega)
    have hT : textUp n 4 ++ Lib.decDigits bb = (Lib.decDigits (byteP n 0) ++ [46] ++ Lib.decDigits (byteP n 1) ++ [46] ++ Lib.decDigits (byteP n 2) ++ [46] ++ Lib.decDigits (byteP n 3) ++ [47] ++ Lib.decDigits bb) := by simp [textUp]
    rw [hT]
    have g0 := f0
    rw [show ((byteP n 0 : Nat) : Int) = (n : Int) / 16777216 by unfold byteP; omega] at g0
    rw [show ((byteP n 0 : Nat) : Int) = IntKind.i64.wrap ((n : Int) / 16777216) by rw [wrap_mid _ (by omega)]; unfold byteP; omega] at f0
    have g1 := f1
    rw [show ((byteP n 1 : Nat) : Int) = (n : Int) / 65536 % 256 by unfold byteP; omega] at g1
    rw [show ((byteP n 1 : Nat) : Int) = (IntKind.i64.wrap ((n : Int) / 65536)).tmod 256 by rw [wrap_mid _ (by omega), Int.tmod_eq_emod_of_nonneg (by omega)]; unfold byteP; omega] at f1
    have g2 := f2
    rw [show ((byteP n 2 : Nat) : Int) = (n : Int) / 256 % 256 by unfold byteP; omega] at g2
    rw [show ((byteP n 2 : Nat) : Int) = (IntKind.i64.wrap ((n : Int) / 256)).tmod 256 by rw [wrap_mid _ (by omega), Int.tmod_eq_emod_of_nonneg (by omega)]; unfold byteP; omega] at f2
    have g3 := f3
    rw [show ((byteP n 3 : Nat) : Int) = (n : Int) % 256 by unfold byteP; omega] at g3
    rw [show ((byteP n 3 : Nat) : Int) = (n : Int).tmod 256 by rw [Int.tmod_eq_emod_of_nonneg (by omega)]; unfold byteP; omega] at f3
    generalize Lib.decDigits (byteP n 0) = D0 at *
    generalize Lib.decDigits (byteP n 1) = D1 at *
    generalize Lib.decDigits (byteP n 2) = D2 at *
    generalize Lib.decDigits (byteP n 3) = D3 at *
    generalize Lib.decDigits bb = D4 at *
    have y0 := strL_le (a := D0) (by omega)
    have y1 := strL_le (a := D1) (by omega)
    have y2 := strL_le (a := D2) (by omega)
    have y3 := strL_le (a := D3) (by omega)
    have y4 := strL_le (a := D4) (by omega)
    obtain ⟨A1, q1⟩ : ∃ A, strL (D0 ++ [46]) = A := ⟨_, rfl⟩
    have e1 : strL D0 ++ ({ data := #[46] } : ByteArray) = A1 := by rw [← q1]; exact strL_dot _
    have z1 : (A1.size : Int) ≤ 8388608 := by rw [← q1]; exact strL_le (by simp; omega)
    obtain ⟨A2, q2⟩ : ∃ A, strL (D0 ++ [46] ++ D1) = A := ⟨_, rfl⟩
    have e2 : A1 ++ strL D1 = A2 := by rw [← q1]; rw [← q2]; exact strL_append _ _
    have z2 : (A2.size : Int) ≤ 8388608 := by rw [← q2]; exact strL_le (by simp; omega)
    obtain ⟨A3, q3⟩ : ∃ A, strL (D0 ++ [46] ++ D1 ++ [46]) = A := ⟨_, rfl⟩
    have e3 : A2 ++ ({ data := #[46] } : ByteArray) = A3 := by rw [← q2]; rw [← q3]; exact strL_dot _
    have z3 : (A3.size : Int) ≤ 8388608 := by rw [← q3]; exact strL_le (by simp; omega)
    obtain ⟨A4, q4⟩ : ∃ A, strL (D0 ++ [46] ++ D1 ++ [46] ++ D2) = A := ⟨_, rfl⟩
    have e4 : A3 ++ strL D2 = A4 := by rw [← q3]; rw [← q4]; exact strL_append _ _
    have z4 : (A4.size : Int) ≤ 8388608 := by rw [← q4]; exact strL_le (by simp; omega)
    obtain ⟨A5, q5⟩ : ∃ A, strL (D0 ++ [46] ++ D1 ++ [46] ++ D2 ++ [46]) = A := ⟨_, rfl⟩
    have e5 : A4 ++ ({ data := #[46] } : ByteArray) = A5 := by rw [← q4]; rw [← q5]; exact strL_dot _
    have z5 : (A5.size : Int) ≤ 8388608 := by rw [← q5]; exact strL_le (by simp; omega)
    obtain ⟨A6, q6⟩ : ∃ A, strL (D0 ++ [46] ++ D1 ++ [46] ++ D2 ++ [46] ++ D3) = A := ⟨_, rfl⟩
    have e6 : A5 ++ strL D3 = A6 := by rw [← q5]; rw [← q6]; exact strL_append _ _
    have z6 : (A6.size : Int) ≤ 8388608 := by rw [← q6]; exact strL_le (by simp; omega)
    obtain ⟨A7, q7⟩ : ∃ A, strL (D0 ++ [46] ++ D1 ++ [46] ++ D2 ++ [46] ++ D3 ++ [47]) = A := ⟨_, rfl⟩
    have e7 : A6 ++ ({ data := #[47] } : ByteArray) = A7 := by rw [← q6]; rw [← q7]; exact strL_slash _
    have z7 : (A7.size : Int) ≤ 8388608 := by rw [← q7]; exact strL_le (by simp; omega)
    obtain ⟨A8, q8⟩ : ∃ A, strL (D0 ++ [46] ++ D1 ++ [46] ++ D2 ++ [46] ++ D3 ++ [47] ++ D4) = A := ⟨_, rfl⟩
    have e8 : A7 ++ strL D4 = A8 := by rw [← q7]; rw [← q8]; exact strL_append _ _
    have z8 : (A8.size : Int) ≤ 8388608 := by rw [← q8]; exact strL_le (by simp; omega)
    have HQ := Lib.hid q8
    have k46 : ({ data := #[46] } : ByteArray).size = 1 := rfl
    have k47 : ({ data := #[47] } : ByteArray).size = 1 := rfl
    clear q1 q2 q3 q4 q5 q6 q7 q8
    generalize strL D0 = S0 at *
    generalize strL D1 = S1 at *
    generalize strL D2 = S2 at *
    generalize strL D3 = S3 at *
    generalize strL D4 = S4 at *
    have n1 : ¬ 9223372036854775807 < S0.size + 1 := by omega
    have n2 : ¬ 9223372036854775807 < A1.size + S1.size := by omega
    have n3 : ¬ 9223372036854775807 < A2.size + 1 := by omega
    have n4 : ¬ 9223372036854775807 < A3.size + S2.size := by omega
    have n5 : ¬ 9223372036854775807 < A4.size + 1 := by omega
    have n6 : ¬ 9223372036854775807 < A5.size + S3.size := by omega
    have n7 : ¬ 9223372036854775807 < A6.size + 1 := by omega
    have n8 : ¬ 9223372036854775807 < A7.size + S4.size := by omega
    clear hp h01 d0 d1 d2 d3 d4 hT
    have B0 := Lib.hid ((Below.refl w.heap.size w).alloc (Nat.le_refl _) (.cells #[.int .u32 n, .int .i64 bb] 24))
    have b0 := Bx.new w (.int .u32 n) (.int .i64 bb)
    have BX := Lib.hid b0
    clear b0
    go_enter Tryd.func15, Tryd.ntmps15
    go_wp2_with (go_at_call 17; refine (hr _).mono ?_; rintro e w1 ⟨rfl, hb1⟩; have HB1 := Lib.hid (B0.out.trans (hb1.mono (by simp))); have BX1 := Lib.hid (BX.out.keep hb1 BX.out.lt); obtain ⟨c0, c1, _, _⟩ := BX1.out.cells; clear hb1)
    have HB1 := Lib.hid (bel_drawn HB1.out 1)
    have BX1 : Hid (Bx w1.drew w.heap.size (.int .u32 n) (.int .i64 bb)) := BX1.out
    (go_region_held (fun W => W.cell? ⟨w.heap.size, 1, none⟩ = some (.int .i64 bb)) (first | exact c1 | assumption)
        (first
          | (go_at_call 32; ((first | (with_reducible refine (g0 _).mono ?_) | (with_reducible refine (f0 _).mono ?_)); rintro e v0 ⟨rfl, hb0⟩); have HB2 := Lib.hid (HB1.out.trans (hb0.mono HB1.out.size)); have BX2 := Lib.hid (BX1.out.keep hb0 BX1.out.lt); obtain ⟨p0, q0, _, _⟩ := BX2.out.cells; clear hb0)
          | (go_at_call 32; ((first | (with_reducible refine (g1 _).mono ?_) | (with_reducible refine (f1 _).mono ?_)); rintro e v1 ⟨rfl, hb1⟩); have HB3 := Lib.hid (HB2.out.trans (hb1.mono HB2.out.size)); have BX3 := Lib.hid (BX2.out.keep hb1 BX2.out.lt); obtain ⟨p1, q1, _, _⟩ := BX3.out.cells; clear hb1)
          | (go_at_call 32; ((first | (with_reducible refine (g2 _).mono ?_) | (with_reducible refine (f2 _).mono ?_)); rintro e v2 ⟨rfl, hb2⟩); have HB4 := Lib.hid (HB3.out.trans (hb2.mono HB3.out.size)); have BX4 := Lib.hid (BX3.out.keep hb2 BX3.out.lt); obtain ⟨p2, q2, _, _⟩ := BX4.out.cells; clear hb2)
          | (go_at_call 32; ((first | (with_reducible refine (g3 _).mono ?_) | (with_reducible refine (f3 _).mono ?_)); rintro e v3 ⟨rfl, hb3⟩); have HB5 := Lib.hid (HB4.out.trans (hb3.mono HB4.out.size)); have BX5 := Lib.hid (BX4.out.keep hb3 BX4.out.lt); obtain ⟨p3, q3, _, _⟩ := BX5.out.cells; clear hb3)
          | (go_at_call 32; ((with_reducible refine (f4 _).mono ?_); rintro e v4 ⟨rfl, hb4⟩); have HB6 := Lib.hid (HB5.out.trans (hb4.mono HB5.out.size)); have BX6 := Lib.hid (BX5.out.keep hb4 BX5.out.lt); obtain ⟨p4, q4, _, _⟩ := BX6.out.cells; clear hb4)))
    go_wp2
    go_ret
    exact ⟨by rw [HQ.out]; rfl, HB6.out⟩
  · rw [if_neg hp]
    have hp : rightP (n, b) = false := by simpa using hp
    rw [hp] at hr
    clear hp
    have B0 := Lib.hid ((Below.refl w.heap.size w).alloc (Nat.le_refl _) (.cells #[.int .u32 n, .int .i64 b] 24))
    go_enter Tryd.func15, Tryd.ntmps15
    go_wp2_with (go_at_call 17; refine (hr _).mono ?_; rintro e w1 ⟨rfl, hb1⟩; have HB1 := Lib.hid (B0.out.trans (hb1.mono (by simp))); clear hb1)
    go_ret
    exact ⟨rfl, HB1.out⟩
end Go.Proofs.YtebogllfjhiblaaDoor
