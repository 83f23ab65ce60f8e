/-
  THE DOCUMENT'S Open: what says what may not be; whose key is not there.
-/
import Derived.Test.YtmmocnokgcgmnaaDoorOpA

namespace Go.Proofs.YtmmocnokgcgmnaaDoor
set_option linter.unusedSimpArgs false
set_option linter.unusedVariables false
open Go.RowKit
set_option maxHeartbeats 6400000 in
set_option maxRecDepth 100000 in
theorem ropn_life (kA : Option Addr) (nk kc : Nat) (x2 x3 x4 x5 x6 x7 x8 x9 x10 : Nat) (hx : x2 < 256 ∧ x3 < 256 ∧ x4 < 256 ∧ x5 < 256 ∧ x6 < 256 ∧ x7 < 256 ∧ x8 < 256 ∧ x9 < 256 ∧ x10 < 256) (l r f : Nat) (hl : x3 * 256 + x4 = l) (hr : x5 * 256 + x6 = r) (hf : x7 * 16777216 + x8 * 65536 + x9 * 256 + x10 = f) (g o n c : Nat) (hn : 27 ≤ n) (hn2 : n ≤ 4123) (b : List Nat) (hbl : b.length = n) (hnc : n ≤ c) (hb : b[0]? = some 161 ∧ b[1]? = some 247 ∧ b[2]? = some x2 ∧ b[3]? = some x3 ∧ b[4]? = some x4 ∧ b[5]? = some x5 ∧ b[6]? = some x6 ∧ b[7]? = some x7 ∧ b[8]? = some x8 ∧ b[9]? = some x9 ∧ b[10]? = some x10) (ho : ¬ okO x2 l r f) (w : World) (hrd : RdN w.heap.size w (some ⟨g, o, none⟩) b) :
    Calls Tryd.prog 6 #[.slice kA nk kc, .slice (some ⟨g, o, none⟩) n c] w fun e w' => e = .returned (.tuple #[.agg #[.int .i64 0, .int .i64 0, .int .i64 0, .int .i64 0], .slice none 0 0, .int .i64 2]) ∧ Below w.heap.size w w' := by
  obtain ⟨hb0, hb1, hb2, hb3, hb4, hb5, hb6, hb7, hb8, hb9, hb10⟩ := hb
  obtain ⟨Y, hY⟩ : ∃ Y, w.alloc (.cells #[.int .i64 0, .int .i64 0, .int .i64 0, .int .i64 0] 28) = Y := ⟨_, rfl⟩
  have hBY : Below w.heap.size w Y := by rw [← hY]; exact (Below.refl w.heap.size w).alloc (Nat.le_refl _) _
  have hYs : Y.heap.size = w.heap.size + 1 := by rw [← hY]; simp
  have haz : Arr Y w.heap.size 28 [.int .i64 0, .int .i64 0, .int .i64 0, .int .i64 0] := by rw [← hY]; exact Arr.new w 28 [.int .i64 0, .int .i64 0, .int .i64 0, .int .i64 0]
  have HAZ : Hid (∀ W, Below Y.heap.size Y W → Arr W w.heap.size 28 [.int .i64 0, .int .i64 0, .int .i64 0, .int .i64 0]) := fun W h => haz.below h (by omega)
  have HRD : Hid (∀ W, Below Y.heap.size Y W → RdN W.heap.size W (some ⟨g, o, none⟩) b) := fun W h => ((hrd.below hBY (Nat.le_refl _)).below h (by omega)).mono (by have := h.size; omega)
  have hg : g < Y.heap.size := by
    obtain ⟨g', o', e, hlt, _⟩ := HRD.out Y (Below.refl _ _) (by omega)
    cases e
    exact hlt
  have HBY := Lib.hid hBY
  have HLE : Hid (w.heap.size ≤ Y.heap.size) := by unfold Hid; omega
  have HLT : Hid (w.heap.size < Y.heap.size) := by unfold Hid; omega
  have B0 := Lib.hid (Below.refl Y.heap.size Y)
  have d0 := (HRD.out _ B0.out).atZ hb0
  have d1 := (HRD.out _ B0.out).atO hb1
  have d2 := (HRD.out _ B0.out).atO hb2
  have d3 := (HRD.out _ B0.out).atO hb3
  have d4 := (HRD.out _ B0.out).atO hb4
  have d5 := (HRD.out _ B0.out).atO hb5
  have d6 := (HRD.out _ B0.out).atO hb6
  have d7 := (HRD.out _ B0.out).atO hb7
  have d8 := (HRD.out _ B0.out).atO hb8
  have d9 := (HRD.out _ B0.out).atO hb9
  have d10 := (HRD.out _ B0.out).atO hb10
  have g1 : decide ((n : Int) < 27) = false := decide_eq_false (by omega)
  have g2 : decide ((4123 : Int) < (n : Int)) = false := decide_eq_false (by omega)
  have i0 : (0 : Int) < (n : Int) := by omega
  have i1 : (1 : Int) < (n : Int) := by omega
  have i2 : (2 : Int) < (n : Int) := by omega
  have i3 : (3 : Int) < (n : Int) := by omega
  have i4 : (4 : Int) < (n : Int) := by omega
  have i5 : (5 : Int) < (n : Int) := by omega
  have i6 : (6 : Int) < (n : Int) := by omega
  have i7 : (7 : Int) < (n : Int) := by omega
  have i8 : (8 : Int) < (n : Int) := by omega
  have i9 : (9 : Int) < (n : Int) := by omega
  have i10 : (10 : Int) < (n : Int) := by omega
  obtain ⟨m1, m2, m3, m4, m5, m6, m7, m8, m9, m10, v2, v3, v4, v5, v6, v7, v8, v9, v10⟩ := env_nums x2 x3 x4 x5 x6 x7 x8 x9 x10 hx l r f hl hr hf
  have hO := rokO_any x2 l r f
  have HO1 := Lib.hid ho
  clear hl hr hf hx hb0 hb1 hb2 hb3 hb4 hb5 hb6 hb7 hb8 hb9 hb10 hBY hYs haz hrd hbl ho hn2
  go_enter Tryd.func6, Tryd.ntmps6
  go_wp2
  go_region_held (fun W => W.cell? ⟨g, o + 2, none⟩ = some (.int .u8 x2) ∧ W.cell? ⟨g, o + 3, none⟩ = some (.int .u8 x3) ∧ W.cell? ⟨g, o + 4, none⟩ = some (.int .u8 x4) ∧ W.cell? ⟨g, o + 5, none⟩ = some (.int .u8 x5) ∧ W.cell? ⟨g, o + 6, none⟩ = some (.int .u8 x6)) (first | exact ⟨d2, d3, d4, d5, d6⟩ | exact ⟨by assumption, by assumption, by assumption, by assumption, by assumption⟩ | go_keep) (fail)
  generalize hU : World.drew _ = U
  have BU : Below Y.heap.size Y U := by rw [← hU]; exact ((Below.refl _ Y).alloc (Nat.le_refl _) _).drew
  have A3 := Lib.hid (show Arr U Y.heap.size 28 [.int .i64 x2, .int .i64 l, .int .i64 r, .int .i64 0] from by rw [← hU]; exact Arr.new Y 28 [.int .i64 x2, .int .i64 l, .int .i64 r, .int .i64 0])
  have HU3 := Lib.hid BU
  have hgU : g < U.heap.size := Nat.lt_of_lt_of_le hg BU.size
  have hYU : Y.heap.size < U.heap.size := A3.out.lt
  have hne : g ≠ Y.heap.size := by omega
  have fz : ∀ j, U.frozen? ⟨Y.heap.size, j, none⟩ = false := fun j => A3.out.frozen j
  have t3 := A3.out.cell 3
  simp only [List.getElem?_cons_succ, List.getElem?_cons_zero] at t3
  have e7 := (BU.cell (p := ⟨g, o + 7, none⟩) hg).trans d7
  have e8 := (BU.cell (p := ⟨g, o + 8, none⟩) hg).trans d8
  have e9 := (BU.cell (p := ⟨g, o + 9, none⟩) hg).trans d9
  have e10 := (BU.cell (p := ⟨g, o + 10, none⟩) hg).trans d10
  have k7 := cell_keeps (k := Y.heap.size) (j := 3) e7 hne
  have k8 := cell_keeps (k := Y.heap.size) (j := 3) e8 hne
  have k9 := cell_keeps (k := Y.heap.size) (j := 3) e9 hne
  have k10 := cell_keeps (k := Y.heap.size) (j := 3) e10 hne
  have K7 := Lib.hid (⟨k7, k8, k9, k10⟩ : _ ∧ _ ∧ _ ∧ _)
  clear hU BU k7 k8 k9 k10
  go_wp2
  go_region_held (fun W => W.cell? ⟨g, o + 7, none⟩ = some (.int .u8 x7) ∧ W.cell? ⟨g, o + 8, none⟩ = some (.int .u8 x8) ∧ W.cell? ⟨g, o + 9, none⟩ = some (.int .u8 x9) ∧ W.cell? ⟨g, o + 10, none⟩ = some (.int .u8 x10)) (first | exact ⟨e7, e8, e9, e10⟩ | exact ⟨by assumption, by assumption, by assumption, by assumption⟩ | exact ⟨K7.out.1 _, K7.out.2.1 _, K7.out.2.2.1 _, K7.out.2.2.2 _⟩) (fail)
  generalize hV : World.drew _ = V
  have A4 := Lib.hid (show Arr V Y.heap.size 28 [.int .i64 x2, .int .i64 l, .int .i64 r, .int .i64 f] from by
    have q := (A3.out.set 3 (.int .i64 f))
    simp only [List.set_cons_zero, List.set_cons_succ] at q
    rw [← hV]
    exact q)
  have B4 := Lib.hid (show Below Y.heap.size Y V from by rw [← hV]; exact (HU3.out.setCell (p := ⟨Y.heap.size, 3, none⟩) (Nat.le_refl _) _).drew)
  clear hV e7 e8 e9 e10 t3 fz K7 d0 d1 d2 d3 d4 d5 d6 d7 d8 d9 d10
  go_wp2_with (first
    | (refine wpList_load_arr rfl 28 (.tmp 7) rfl Y.heap.size rfl A4.out Tryd.underlying28 rfl sizeO rfl ?_)
    | (go_at_call 14; refine (hO V).mono ?_; rintro e w5 ⟨⟨x, rfl, hx5⟩, hb5⟩; obtain rfl : x = false := (by cases x; rfl; exact absurd (hx5.1 rfl) HO1.out); have A5 := Lib.hid (A4.out.below hb5 A4.out.lt); have B5 := Lib.hid (B4.out.trans (hb5.mono B4.out.size)); clear hx5 hb5)
    | (refine wpList_store_arr rfl 28 (.tmp 4) (.tmp 85) rfl w.heap.size rfl (vs := [.int .i64 0, .int .i64 0, .int .i64 0, .int .i64 0]) rfl (HAZ.out _ B5.out) sizeO rfl rfl (by simp [Value.oneCell']) ?_; intro W9 A9 B9 hsz9 O9))
  refine bodyPost_ret (results_cell3 rfl rfl A9.out Tryd.underlying28 rfl sizeO) rfl ?_
  exact ⟨rfl, (HBY.out.trans (B5.out.mono HLE.out)).trans B9.out⟩
set_option maxHeartbeats 6400000 in
set_option maxRecDepth 100000 in
theorem ropn_none (kA : Option Addr) (nk kc : Nat) (x2 x3 x4 x5 x6 x7 x8 x9 x10 : Nat) (hx : x2 < 256 ∧ x3 < 256 ∧ x4 < 256 ∧ x5 < 256 ∧ x6 < 256 ∧ x7 < 256 ∧ x8 < 256 ∧ x9 < 256 ∧ x10 < 256) (l r f : Nat) (hl : x3 * 256 + x4 = l) (hr : x5 * 256 + x6 = r) (hf : x7 * 16777216 + x8 * 65536 + x9 * 256 + x10 = f) (g o n c : Nat) (hn : 27 ≤ n) (hn2 : n ≤ 4123) (b : List Nat) (hbl : b.length = n) (hnc : n ≤ c) (hb : b[0]? = some 161 ∧ b[1]? = some 247 ∧ b[2]? = some x2 ∧ b[3]? = some x3 ∧ b[4]? = some x4 ∧ b[5]? = some x5 ∧ b[6]? = some x6 ∧ b[7]? = some x7 ∧ b[8]? = some x8 ∧ b[9]? = some x9 ∧ b[10]? = some x10) (ks : List KeyD) (hnk : ks.length = nk) (hnk2 : nk ≤ 1000000) (ho : okO x2 l r f) (hk0 : x2 ≠ 0) (hno : ∀ kd ∈ ks, ¬ (kd.id = x2 ∧ okK kd.id kd.n)) (w : World) (hrd : RdN w.heap.size w (some ⟨g, o, none⟩) b) (hk : RdK w.heap.size w kA ks) :
    Calls Tryd.prog 6 #[.slice kA nk kc, .slice (some ⟨g, o, none⟩) n c] w fun e w' => e = .returned (.tuple #[.agg #[.int .i64 0, .int .i64 0, .int .i64 0, .int .i64 0], .slice none 0 0, .int .i64 4]) ∧ Below w.heap.size w w' := by
  obtain ⟨hb0, hb1, hb2, hb3, hb4, hb5, hb6, hb7, hb8, hb9, hb10⟩ := hb
  obtain ⟨Y, hY⟩ : ∃ Y, w.alloc (.cells #[.int .i64 0, .int .i64 0, .int .i64 0, .int .i64 0] 28) = Y := ⟨_, rfl⟩
  have hBY : Below w.heap.size w Y := by rw [← hY]; exact (Below.refl w.heap.size w).alloc (Nat.le_refl _) _
  have hYs : Y.heap.size = w.heap.size + 1 := by rw [← hY]; simp
  have haz : Arr Y w.heap.size 28 [.int .i64 0, .int .i64 0, .int .i64 0, .int .i64 0] := by rw [← hY]; exact Arr.new w 28 [.int .i64 0, .int .i64 0, .int .i64 0, .int .i64 0]
  have HAZ : Hid (∀ W, Below Y.heap.size Y W → Arr W w.heap.size 28 [.int .i64 0, .int .i64 0, .int .i64 0, .int .i64 0]) := fun W h => haz.below h (by omega)
  have HRD : Hid (∀ W, Below Y.heap.size Y W → RdN W.heap.size W (some ⟨g, o, none⟩) b) := fun W h => ((hrd.below hBY (Nat.le_refl _)).below h (by omega)).mono (by have := h.size; omega)
  have hg : g < Y.heap.size := by
    obtain ⟨g', o', e, hlt, _⟩ := HRD.out Y (Below.refl _ _) (by omega)
    cases e
    exact hlt
  have HBY := Lib.hid hBY
  have HLE : Hid (w.heap.size ≤ Y.heap.size) := by unfold Hid; omega
  have HLT : Hid (w.heap.size < Y.heap.size) := by unfold Hid; omega
  have B0 := Lib.hid (Below.refl Y.heap.size Y)
  have d0 := (HRD.out _ B0.out).atZ hb0
  have d1 := (HRD.out _ B0.out).atO hb1
  have d2 := (HRD.out _ B0.out).atO hb2
  have d3 := (HRD.out _ B0.out).atO hb3
  have d4 := (HRD.out _ B0.out).atO hb4
  have d5 := (HRD.out _ B0.out).atO hb5
  have d6 := (HRD.out _ B0.out).atO hb6
  have d7 := (HRD.out _ B0.out).atO hb7
  have d8 := (HRD.out _ B0.out).atO hb8
  have d9 := (HRD.out _ B0.out).atO hb9
  have d10 := (HRD.out _ B0.out).atO hb10
  have g1 : decide ((n : Int) < 27) = false := decide_eq_false (by omega)
  have g2 : decide ((4123 : Int) < (n : Int)) = false := decide_eq_false (by omega)
  have i0 : (0 : Int) < (n : Int) := by omega
  have i1 : (1 : Int) < (n : Int) := by omega
  have i2 : (2 : Int) < (n : Int) := by omega
  have i3 : (3 : Int) < (n : Int) := by omega
  have i4 : (4 : Int) < (n : Int) := by omega
  have i5 : (5 : Int) < (n : Int) := by omega
  have i6 : (6 : Int) < (n : Int) := by omega
  have i7 : (7 : Int) < (n : Int) := by omega
  have i8 : (8 : Int) < (n : Int) := by omega
  have i9 : (9 : Int) < (n : Int) := by omega
  have i10 : (10 : Int) < (n : Int) := by omega
  obtain ⟨m1, m2, m3, m4, m5, m6, m7, m8, m9, m10, v2, v3, v4, v5, v6, v7, v8, v9, v10⟩ := env_nums x2 x3 x4 x5 x6 x7 x8 x9 x10 hx l r f hl hr hf
  have hO := rokO_any x2 l r f
  have HO1 := Lib.hid ho
  have HK : Hid (RdK Y.heap.size Y kA ks) := fun j kd hj => by
    obtain ⟨h1, B, off, e, h2, h3, h4⟩ := hk j kd hj
    exact ⟨h1, B, off, e, by omega, (hBY.cell (p := ⟨B, _, none⟩) h2).trans h3, (hBY.cell (p := ⟨B, _, none⟩) h2).trans h4⟩
  have HNO := Lib.hid hno
  have HNK := Lib.hid hnk
  have z0 : ((x2 : Int) == 0) = false := by simp; omega
  clear hl hr hf hx hb0 hb1 hb2 hb3 hb4 hb5 hb6 hb7 hb8 hb9 hb10 hBY hYs haz hrd hbl ho hn2 hno hnk hk hk0
  go_enter Tryd.func6, Tryd.ntmps6
  go_wp2
  go_region_held (fun W => W.cell? ⟨g, o + 2, none⟩ = some (.int .u8 x2) ∧ W.cell? ⟨g, o + 3, none⟩ = some (.int .u8 x3) ∧ W.cell? ⟨g, o + 4, none⟩ = some (.int .u8 x4) ∧ W.cell? ⟨g, o + 5, none⟩ = some (.int .u8 x5) ∧ W.cell? ⟨g, o + 6, none⟩ = some (.int .u8 x6)) (first | exact ⟨d2, d3, d4, d5, d6⟩ | exact ⟨by assumption, by assumption, by assumption, by assumption, by assumption⟩ | go_keep) (fail)
  generalize hU : World.drew _ = U
  have BU : Below Y.heap.size Y U := by rw [← hU]; exact ((Below.refl _ Y).alloc (Nat.le_refl _) _).drew
  have A3 := Lib.hid (show Arr U Y.heap.size 28 [.int .i64 x2, .int .i64 l, .int .i64 r, .int .i64 0] from by rw [← hU]; exact Arr.new Y 28 [.int .i64 x2, .int .i64 l, .int .i64 r, .int .i64 0])
  have HU3 := Lib.hid BU
  have hgU : g < U.heap.size := Nat.lt_of_lt_of_le hg BU.size
  have hYU : Y.heap.size < U.heap.size := A3.out.lt
  have hne : g ≠ Y.heap.size := by omega
  have fz : ∀ j, U.frozen? ⟨Y.heap.size, j, none⟩ = false := fun j => A3.out.frozen j
  have t3 := A3.out.cell 3
  simp only [List.getElem?_cons_succ, List.getElem?_cons_zero] at t3
  have e7 := (BU.cell (p := ⟨g, o + 7, none⟩) hg).trans d7
  have e8 := (BU.cell (p := ⟨g, o + 8, none⟩) hg).trans d8
  have e9 := (BU.cell (p := ⟨g, o + 9, none⟩) hg).trans d9
  have e10 := (BU.cell (p := ⟨g, o + 10, none⟩) hg).trans d10
  have k7 := cell_keeps (k := Y.heap.size) (j := 3) e7 hne
  have k8 := cell_keeps (k := Y.heap.size) (j := 3) e8 hne
  have k9 := cell_keeps (k := Y.heap.size) (j := 3) e9 hne
  have k10 := cell_keeps (k := Y.heap.size) (j := 3) e10 hne
  have K7 := Lib.hid (⟨k7, k8, k9, k10⟩ : _ ∧ _ ∧ _ ∧ _)
  clear hU BU k7 k8 k9 k10
  go_wp2
  go_region_held (fun W => W.cell? ⟨g, o + 7, none⟩ = some (.int .u8 x7) ∧ W.cell? ⟨g, o + 8, none⟩ = some (.int .u8 x8) ∧ W.cell? ⟨g, o + 9, none⟩ = some (.int .u8 x9) ∧ W.cell? ⟨g, o + 10, none⟩ = some (.int .u8 x10)) (first | exact ⟨e7, e8, e9, e10⟩ | exact ⟨by assumption, by assumption, by assumption, by assumption⟩ | exact ⟨K7.out.1 _, K7.out.2.1 _, K7.out.2.2.1 _, K7.out.2.2.2 _⟩) (fail)
  generalize hV : World.drew _ = V
  have A4 := Lib.hid (show Arr V Y.heap.size 28 [.int .i64 x2, .int .i64 l, .int .i64 r, .int .i64 f] from by
    have q := (A3.out.set 3 (.int .i64 f))
    simp only [List.set_cons_zero, List.set_cons_succ] at q
    rw [← hV]
    exact q)
  have B4 := Lib.hid (show Below Y.heap.size Y V from by rw [← hV]; exact (HU3.out.setCell (p := ⟨Y.heap.size, 3, none⟩) (Nat.le_refl _) _).drew)
  clear hV e7 e8 e9 e10 t3 fz K7 d0 d1 d2 d3 d4 d5 d6 d7 d8 d9 d10
  go_wp2_with (first
    | (refine wpList_load_arr rfl 28 (.tmp 7) rfl Y.heap.size rfl A4.out Tryd.underlying28 rfl sizeO rfl ?_)
    | (go_at_call 14; refine (hO V).mono ?_; rintro e w5 ⟨⟨x, rfl, hx5⟩, hb5⟩; obtain rfl : x = true := hx5.2 HO1.out; have A5 := Lib.hid (A4.out.below hb5 A4.out.lt); have B5 := Lib.hid (B4.out.trans (hb5.mono B4.out.size)); clear hx5 hb5)
    | (refine wpList_store_arr rfl 26 (.tmp 9) (.tmp 86) rfl w5.heap.size rfl (vs := [.int .i64 0, .slice none 0 0]) rfl (show Arr _ w5.heap.size 26 [.int .i64 0, .slice none 0 0] from Arr.new w5 26 [.int .i64 0, .slice none 0 0]) sizeK rfl rfl (by simp [Value.oneCell']) ?_; intro W6 A6 B6 hsz6 O6; have BB6 := Lib.hid ((B5.out.alloc B5.out.size _).trans (B6.out.mono B5.out.size)); have K6 := Lib.hid (((Below.refl w5.heap.size w5).alloc (Nat.le_refl _) _).trans B6.out); have A7 := Lib.hid (A5.out.below K6.out A5.out.lt); have co := A7.out.cell 0; simp only [List.getElem?_cons_zero] at co; clear hsz6 O6))
  go_loopw [10, 11] (fun bo i wr => ∃ k : Nat, bo = .bool false ∧ i = .int .i64 k ∧ k ≤ nk ∧ Hid (Below Y.heap.size Y wr) ∧ Hid (Arr wr Y.heap.size 28 [.int .i64 x2, .int .i64 l, .int .i64 r, .int .i64 f])) (fun _ i _ => nk - (intOf i).toNat)
  case atStart => exact ⟨0, rfl, rfl, Nat.zero_le _, BB6.out, A7.out⟩
  case round =>
    obtain ⟨k, rfl, rfl, hk, HB, HA⟩ := hrel
    clear A4 A5 A6 A7 B4 B5 B6 BB6 K6 co A3 HU3
    by_cases hlt : k < nk
    · have gl : decide ((k : Int) < (nk : Int)) = true := decide_eq_true (by omega)
      obtain ⟨kd, hkd⟩ : ∃ kd, ks[k]? = some kd := ⟨_, List.getElem?_eq_getElem (by have := HNK.out; omega)⟩
      obtain ⟨q1, B, off, rfl, q2, q3, q4⟩ := HK.out k kd hkd
      have hnm := HNO.out kd (List.mem_of_getElem? hkd)
      have hB := Nat.lt_of_lt_of_le q2 HB.out.size
      have p0 := (HB.out.cell (p := ⟨B, _, none⟩) q2).trans q3
      have p1 := (HB.out.cell (p := ⟨B, _, none⟩) q2).trans q4
      have p2 := HA.out.cell 0
      simp only [List.getElem?_cons_zero] at p2
      have hyl := HA.out.lt
      have hR := fun W => rokK_any kd.id kd.a kd.n kd.c q1 W
      clear q3 q4 hkd
      by_cases hok : okK kd.id kd.n
      · have hne : ¬ kd.id = x2 := fun e => hnm ⟨e, hok⟩
        have HOK := Lib.hid hok
        clear hnm hok
        go_wp2
        first
          | (go_region_with (first
              | (go_at_call 15; (with_reducible refine (hR _).mono ?_); rintro e w7 ⟨⟨y, rfl, hy⟩, hb7⟩; obtain rfl : y = true := hy.2 HOK.out; have c0 := (hb7.cell (p := ⟨B, _, none⟩) hB).trans p0; have c2 := (hb7.cell (p := ⟨Y.heap.size, 0, none⟩) hyl).trans p2; have HB2 := Lib.hid (HB.out.drew.trans (hb7.mono HB.out.size)); have HA2 := Lib.hid ((show Arr wr.drew Y.heap.size 28 [.int .i64 x2, .int .i64 l, .int .i64 r, .int .i64 f] from HA.out).below hb7 HA.out.lt); clear hy hb7)))
          | fail
        all_goals go_wp2
        all_goals go_roundw
        all_goals first
          | exact ⟨k + 1, rfl, by go_num, by omega, HB2.out, HA2.out⟩
          | (simp [intOf]; omega)
      · have HOK := Lib.hid hok
        clear hnm hok
        go_wp2
        first
          | (go_region_with (first
              | (go_at_call 15; (with_reducible refine (hR _).mono ?_); rintro e w7 ⟨⟨y, rfl, hy⟩, hb7⟩; obtain rfl : y = false := (by cases y; rfl; exact absurd (hy.1 rfl) HOK.out); have HB2 := Lib.hid (HB.out.drew.trans (hb7.mono HB.out.size)); have HA2 := Lib.hid ((show Arr wr.drew Y.heap.size 28 [.int .i64 x2, .int .i64 l, .int .i64 r, .int .i64 f] from HA.out).below hb7 HA.out.lt); clear hy hb7)))
          | fail
        all_goals go_wp2
        all_goals go_roundw
        all_goals first
          | exact ⟨k + 1, rfl, by go_num, by omega, HB2.out, HA2.out⟩
          | (simp [intOf]; omega)
    · obtain rfl : k = nk := by omega
      go_wp2_with (first
        | (refine wpList_store_arr rfl 28 (.tmp 4) (.tmp 121) rfl w.heap.size rfl (vs := [.int .i64 0, .int .i64 0, .int .i64 0, .int .i64 0]) rfl (HAZ.out _ HB.out) sizeO rfl rfl (by simp [Value.oneCell']) ?_; intro W9 A9 B9 hsz9 O9))
      refine bodyPost_ret (results_cell3 rfl rfl A9.out Tryd.underlying28 rfl sizeO) rfl ?_
      exact ⟨rfl, (HBY.out.trans (HB.out.mono HLE.out)).trans B9.out⟩
end Go.Proofs.YtmmocnokgcgmnaaDoor
