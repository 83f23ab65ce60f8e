/-
  PREFIXES: the law of what is in, covered, cut and less, as the document has it.
-/
import Derived.Test.YtebogllfjhiblaaDoorNCuts
namespace Go.Proofs.YtebogllfjhiblaaDoor
set_option linter.unusedVariables false
open Go.RowKit
theorem boxA2 {w : World} {cs ds : Array Value} {t u : TypeId} : Below w.heap.size w ((w.alloc (.cells cs t)).alloc (.cells ds u)) := ((Below.refl _ _).alloc (Nat.le_refl _) _).alloc (by simp) _
theorem rcompare_any (n : Nat) (b : Int) (m : Nat) (c : Int) (w : World) : Calls Tryd.prog 25 #[.agg #[.int .u32 n, .int .i64 b], .agg #[.int .u32 m, .int .i64 c]] w fun e w' => e = .returned (.int .i64 (cmpP (n, b) (m, c))) ∧ Below w.heap.size w w' := by
  have e0 : cmpP (n, b) (m, c) = if cmpI n m = 0 then cmpI b c else cmpI n m := rfl
  rw [e0]
  rcases Nat.lt_trichotomy n m with h | h | h
  · have h1 : (n : Int) < m := by omega
    have h2 : ¬ (n : Int) = m := by omega
    have hd : ((n : Int) != m) = true := by simpa using h2
    rw [cmpI_lt h1, if_neg (by decide)]
    clear e0 h h2
    go_enter Tryd.func25, Tryd.ntmps25
    go_wp2
    go_ret
    exact ⟨rfl, boxA2⟩
  · subst h
    rw [cmpI_eq, if_pos rfl]
    clear e0
    rcases Int.lt_trichotomy b c with h | rfl | h
    · have h2 : ¬ b = c := by omega
      have hd : (b != c) = true := by simpa using h2
      rw [cmpI_lt h]
      clear h2
      go_enter Tryd.func25, Tryd.ntmps25
      go_wp2
      go_ret
      exact ⟨rfl, boxA2⟩
    · rw [cmpI_eq]
      go_enter Tryd.func25, Tryd.ntmps25
      go_wp2
      go_ret
      exact ⟨rfl, boxA2⟩
    · have h2 : ¬ b = c := by omega
      have h3 : ¬ b < c := by omega
      have hd : (b != c) = true := by simpa using h2
      rw [cmpI_gt h]
      clear h2
      go_enter Tryd.func25, Tryd.ntmps25
      go_wp2
      go_ret
      exact ⟨rfl, boxA2⟩
  · have h1 : (m : Int) < n := by omega
    have h2 : ¬ (n : Int) = m := by omega
    have h3 : ¬ (n : Int) < m := by omega
    have hd : ((n : Int) != m) = true := by simpa using h2
    rw [cmpI_gt h1, if_neg (by decide)]
    clear e0 h h2
    go_enter Tryd.func25, Tryd.ntmps25
    go_wp2
    go_ret
    exact ⟨rfl, boxA2⟩
/-- Four boxes. -/
def Four (W : World) (k1 k2 k3 k4 : Nat) (a b c d e f : Value) : Prop := Bx W k1 a b ∧ Bx W k2 c d ∧ Bx W k3 e f ∧ Bx W k4 e f
theorem Four.keep {W W' : World} {k1 k2 k3 k4 : Nat} {a b c d e f : Value} (h : Four W k1 k2 k3 k4 a b c d e f) (hb : Below W.heap.size W W') : Four W' k1 k2 k3 k4 a b c d e f :=
  ⟨h.1.keep hb h.1.lt, h.2.1.keep hb h.2.1.lt, h.2.2.1.keep hb h.2.2.1.lt, h.2.2.2.keep hb h.2.2.2.lt⟩
set_option maxHeartbeats 8000000 in
set_option maxRecDepth 100000 in
theorem holds_walk (n : Nat) (hn : n < 4294967296) (b : Int) (_ : -9223372036854775808 ≤ b ∧ b ≤ 9223372036854775807) (m : Nat) (hm : m < 4294967296) (c : Int) (_ : -9223372036854775808 ≤ c ∧ c ≤ 9223372036854775807) (a : Nat) (ha : a < 4294967296) (w : World) (hT : TabP w.heap.size w) :
    Calls Tryd.prog 4 #[.agg #[.int .u32 n, .int .i64 b], .agg #[.int .u32 m, .int .i64 c], .int .u32 a] w fun e w' => e = .returned (.bool true) ∧ Below w.heap.size w w' := by
  obtain ⟨W0, hW0⟩ : ∃ W0, (w.alloc (.cells #[.int .u32 n, .int .i64 b] 24)).alloc (.cells #[.int .u32 m, .int .i64 c] 24) = W0 := ⟨_, rfl⟩
  have b1 : Bx W0 w.heap.size (.int .u32 n) (.int .i64 b) := by rw [← hW0]; exact (Bx.new _ _ _).alloc _
  have b2 : Bx W0 (w.heap.size + 1) (.int .u32 m) (.int .i64 c) := by rw [← hW0]; have := Bx.new (w.alloc (.cells #[.int .u32 n, .int .i64 b] 24)) (.int .u32 m) (.int .i64 c); rwa [World.size_alloc] at this
  have hbl : Below w.heap.size w W0 := by rw [← hW0]; exact boxA2
  have haw := awake6_any W0 ((TabP.on hT hbl).up hbl.size)
  obtain ⟨N, nn, er, hc1, hc2⟩ : ∃ (N : Nat) (nn er : Int), (∀ w, Calls Tryd.prog 18 #[.int .u32 a, .int .i64 c] w fun e w' => e = .returned (.tuple #[.agg #[.int .u32 N, .int .i64 nn], .int .i64 er]) ∧ Below w.heap.size w w') ∧ (∀ w, Calls Tryd.prog 19 #[.int .u32 a, .int .i64 c] w fun e w' => e = .returned (.tuple #[.agg #[.int .u32 N, .int .i64 nn], .int .i64 er]) ∧ Below w.heap.size w w') := by
    cases h : rightB c
    · exact ⟨0, 0, 1, cut_no a c h, rcut_no a c h⟩
    · exact ⟨_, c, 0, cut_ok a ha c h, rcut_ok a ha c h⟩
  have hi1 := in_any n hn b a ha
  have hi2 := rin_any n hn b a ha
  have hv1 := covers_any n hn b m hm c
  have hv2 := rcovers_any n hn b m hm c
  have hp1 := compare_any n b m c
  have hp2 := rcompare_any n b m c
  generalize inP (n, b) a = I at *
  generalize coversP (n, b) (m, c) = V at *
  generalize cmpP (n, b) (m, c) = Z at *
  have HB0 := Lib.hid hbl
  have B1 := Lib.hid b1
  have B2 := Lib.hid b2
  have HW0 := Lib.hid hW0
  rw [← hW0] at haw
  clear b1 b2 hbl hW0 hT
  go_enter Tryd.func4, Tryd.ntmps4
  go_wp2_with (first
    | (go_at_call 11; refine haw.mono ?_; rintro e w1 ⟨rfl, hb1⟩; rw [HW0.out] at hb1; have C1 := Lib.hid (B1.out.keep hb1 B1.out.lt); have C2 := Lib.hid (B2.out.keep hb1 B2.out.lt); obtain ⟨x0, x1, _, _⟩ := C2.out.cells; have HB1 := Lib.hid (HB0.out.trans (hb1.mono HB0.out.size)); clear hb1)
    | (go_at_call 18; refine (hc1 _).mono ?_; rintro e w2 ⟨rfl, hb2⟩; have D1 := Lib.hid (C1.out.keep hb2 C1.out.lt); have D2 := Lib.hid (C2.out.keep hb2 C2.out.lt); obtain ⟨y0, y1, _, _⟩ := D2.out.cells; have z2 : w.heap.size + 1 < w2.heap.size := D2.out.lt; have HB2 := Lib.hid (HB1.out.trans (hb2.mono HB1.out.size)); clear hb2)
    | (go_at_call 19; refine (hc2 _).mono ?_; rintro e w3 ⟨rfl, hb3⟩; have E1 := (D1.out.alloc _).keep hb3 (D1.out.alloc _).lt; have E2 := (D2.out.alloc _).keep hb3 (D2.out.alloc _).lt; have E3 := (Bx.new w2 (.int .u32 N) (.int .i64 nn)).keep hb3 (Bx.new w2 (.int .u32 N) (.int .i64 nn)).lt; have E4 := Bx.new w3 (.int .u32 N) (.int .i64 nn); have HB3 := Lib.hid (((HB2.out.alloc HB2.out.size (.cells #[.int .u32 N, .int .i64 nn] 24)).trans (hb3.mono (by have := HB2.out.size; simp; omega))).alloc (by have h2 := HB2.out.size; have h3 := hb3.size; simp at h3; omega) (.cells #[.int .u32 N, .int .i64 nn] 24)); have F3 : Hid (Four ((w3.alloc (.cells #[.int .u32 N, .int .i64 nn] 24)).drew) w.heap.size (w.heap.size + 1) w2.heap.size w3.heap.size (.int .u32 n) (.int .i64 b) (.int .u32 m) (.int .i64 c) (.int .u32 N) (.int .i64 nn)) := ⟨E1.alloc _, E2.alloc _, E3.alloc _, E4⟩; clear hb3 E1 E2 E3 E4))
  obtain ⟨p0, p1, _, _⟩ := F3.out.1.cells
  obtain ⟨q0, q1, _, _⟩ := F3.out.2.1.cells
  obtain ⟨r0, r1, _, _⟩ := F3.out.2.2.1.cells
  obtain ⟨s0, s1, _, _⟩ := F3.out.2.2.2.cells
  have HB3 := Lib.hid (bel_drawn HB3.out 1)
  first | (go_region_held (fun W => W.cell? ⟨w.heap.size, 0, none⟩ = some (.int .u32 n) ∧ W.cell? ⟨w.heap.size, 1, none⟩ = some (.int .i64 b) ∧ W.cell? ⟨w.heap.size + 1, 0, none⟩ = some (.int .u32 m) ∧ W.cell? ⟨w.heap.size + 1, 1, none⟩ = some (.int .i64 c) ∧ W.cell? ⟨w2.heap.size, 0, none⟩ = some (.int .u32 N) ∧ W.cell? ⟨w2.heap.size, 1, none⟩ = some (.int .i64 nn) ∧ W.cell? ⟨w3.heap.size, 0, none⟩ = some (.int .u32 N) ∧ W.cell? ⟨w3.heap.size, 1, none⟩ = some (.int .i64 nn)) (first | exact ⟨p0, p1, q0, q1, r0, r1, s0, s1⟩ | exact ⟨by assumption, by assumption, by assumption, by assumption, by assumption, by assumption, by assumption, by assumption⟩)
    (first
      | (go_at_call 20; refine (hi1 _).mono ?_; rintro e w4 ⟨rfl, hb4⟩; have F4 := Lib.hid (F3.out.keep hb4); obtain ⟨p4, p4', _, _⟩ := F4.out.1.cells; obtain ⟨q4, q4', _, _⟩ := F4.out.2.1.cells; obtain ⟨r4, r4', _, _⟩ := F4.out.2.2.1.cells; obtain ⟨s4, s4', _, _⟩ := F4.out.2.2.2.cells; have HB4 := Lib.hid (HB3.out.trans (hb4.mono HB3.out.size)); clear hb4)
      | (go_at_call 21; refine (hi2 _).mono ?_; rintro e w5 ⟨rfl, hb5⟩; have F5 := Lib.hid (F4.out.keep hb5); obtain ⟨p5, p5', _, _⟩ := F5.out.1.cells; obtain ⟨q5, q5', _, _⟩ := F5.out.2.1.cells; obtain ⟨r5, r5', _, _⟩ := F5.out.2.2.1.cells; obtain ⟨s5, s5', _, _⟩ := F5.out.2.2.2.cells; have HB5 := Lib.hid (HB4.out.trans (hb5.mono HB4.out.size)); clear hb5)
      | (go_at_call 22; refine (hv1 _).mono ?_; rintro e w6 ⟨rfl, hb6⟩; have F6 := Lib.hid (F5.out.keep hb6); obtain ⟨p6, p6', _, _⟩ := F6.out.1.cells; obtain ⟨q6, q6', _, _⟩ := F6.out.2.1.cells; obtain ⟨r6, r6', _, _⟩ := F6.out.2.2.1.cells; obtain ⟨s6, s6', _, _⟩ := F6.out.2.2.2.cells; have HB6 := Lib.hid (HB5.out.trans (hb6.mono HB5.out.size)); clear hb6)
      | (go_at_call 23; refine (hv2 _).mono ?_; rintro e w7 ⟨rfl, hb7⟩; have F7 := Lib.hid (F6.out.keep hb7); obtain ⟨p7, p7', _, _⟩ := F7.out.1.cells; obtain ⟨q7, q7', _, _⟩ := F7.out.2.1.cells; obtain ⟨r7, r7', _, _⟩ := F7.out.2.2.1.cells; obtain ⟨s7, s7', _, _⟩ := F7.out.2.2.2.cells; have HB7 := Lib.hid (HB6.out.trans (hb7.mono HB6.out.size)); clear hb7)
      | (go_at_call 24; refine (hp1 _).mono ?_; rintro e w8 ⟨rfl, hb8⟩; have F8 := Lib.hid (F7.out.keep hb8); obtain ⟨p8, p8', _, _⟩ := F8.out.1.cells; obtain ⟨q8, q8', _, _⟩ := F8.out.2.1.cells; obtain ⟨r8, r8', _, _⟩ := F8.out.2.2.1.cells; obtain ⟨s8, s8', _, _⟩ := F8.out.2.2.2.cells; have HB8 := Lib.hid (HB7.out.trans (hb8.mono HB7.out.size)); clear hb8)
      | (go_at_call 25; refine (hp2 _).mono ?_; rintro e w9 ⟨rfl, hb9⟩; have F9 := Lib.hid (F8.out.keep hb9); obtain ⟨p9, p9', _, _⟩ := F9.out.1.cells; obtain ⟨q9, q9', _, _⟩ := F9.out.2.1.cells; obtain ⟨r9, r9', _, _⟩ := F9.out.2.2.1.cells; obtain ⟨s9, s9', _, _⟩ := F9.out.2.2.2.cells; have HB9 := Lib.hid (HB8.out.trans (hb9.mono HB8.out.size)); clear hb9))) | fail
  go_wp2
  go_ret
  exact ⟨rfl, HB9.out⟩
end Go.Proofs.YtebogllfjhiblaaDoor
