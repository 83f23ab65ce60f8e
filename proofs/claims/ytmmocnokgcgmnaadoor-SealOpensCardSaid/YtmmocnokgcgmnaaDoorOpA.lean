/-
  AN ENVELOPE IS NOT OPENED whose fingerprint is wrong: the program's Open.
-/
import Derived.Test.YtmmocnokgcgmnaaDoorSOpK
import Derived.Test.YtmmocnokgcgmnaaDoorSKeys
import Derived.Deep.Slices
import Derived.Test.YtmmocnokgcgmnaaDoorSRPrint
import Derived.Lib.Bytes

/-
  AN ENVELOPE IS NOT OPENED whose key is not there: the program's Open.
-/
namespace Go.Proofs.YtmmocnokgcgmnaaDoor
set_option linter.unusedSimpArgs false
set_option linter.unusedVariables false
open Go.RowKit
set_option maxHeartbeats 3200000 in
set_option maxRecDepth 100000 in
theorem opn_none (kv : Value) (K : Nat) (g o c : Nat) (l r f : Nat) (ho : okO K l r f) (pk : List Nat) (hpl : pk.length ≤ 4096) (FQ : List Nat) (hQl : FQ.length = 16) (w : World) (hc : 27 + pk.length ≤ c) (hr : RdN w.heap.size w (some ⟨g, o, none⟩) (headL K l r f ++ (FQ ++ pk)))
    (hfind : ∀ W, Below w.heap.size w W → Calls Tryd.prog 11 #[kv, .int .i64 K] W fun e w' => e = .returned (.tuple #[.agg #[.int .i64 0, .slice none 0 0], .bool false]) ∧ Below W.heap.size W w') :
    Calls Tryd.prog 5 #[kv, .slice (some ⟨g, o, none⟩) (27 + pk.length) c] w fun e w' => e = .returned (.tuple #[.agg #[.int .i64 0, .int .i64 0, .int .i64 0, .int .i64 0], .slice none 0 0, .int .i64 4]) ∧ Below w.heap.size w w' := by
  have ho2 := ho
  unfold okO okIn at ho2
  have hO := okO_any K l r f
  have hwd := head_words K l r f (by omega) (by omega) (by omega) (by omega)
  have hHl := headL_len K l r f
  have hHb := headL_lt K l r f
  have hp0 : (headL K l r f ++ (FQ ++ pk))[0]? = some 161 := by unfold headL; rfl
  have hp1 : (headL K l r f ++ (FQ ++ pk))[1]? = some 247 := by unfold headL; rfl
  have ht1 : ((headL K l r f ++ (FQ ++ pk)).drop 0).take 11 = headL K l r f := by rw [List.drop_zero]; exact List.take_left' hHl
  have ht2 : ((headL K l r f ++ (FQ ++ pk)).drop 11).take 16 = FQ := by rw [List.drop_left' hHl]; exact List.take_left' hQl
  have ht3 : (headL K l r f ++ (FQ ++ pk)).drop 27 = pk := by
    rw [← List.append_assoc]
    exact List.drop_left' (by rw [List.length_append, hHl, hQl])
  obtain ⟨HD, hHD⟩ : ∃ HD, headL K l r f = HD := ⟨_, rfl⟩
  rw [hHD] at ht1 hwd hHl hHb
  obtain ⟨WL, hWL⟩ : ∃ WL, HD ++ (FQ ++ pk) = WL := ⟨_, rfl⟩
  rw [hHD] at hr hp0 hp1 ht2 ht3
  rw [hWL] at hr hp0 hp1 ht1 ht2 ht3
  obtain ⟨hw0, hw1, hw2, hw3⟩ := hwd
  have hU := fun W h => outerOf_any (some ⟨g, o, none⟩) c HD hHb hHl (by omega) W h
  rw [hw0, hw1, hw2, hw3] at hU
  -- memory
  obtain ⟨Y, hY⟩ : ∃ Y, w.alloc (.cells #[.int .i64 0, .int .i64 0, .int .i64 0, .int .i64 0] 28) = Y := ⟨_, rfl⟩
  have hBY : Below w.heap.size w Y := by rw [← hY]; exact (Below.refl w.heap.size w).alloc (Nat.le_refl _) _
  have hYs : Y.heap.size = w.heap.size + 1 := by rw [← hY]; simp
  have haz : Arr Y w.heap.size 28 [.int .i64 0, .int .i64 0, .int .i64 0, .int .i64 0] := by rw [← hY]; exact Arr.new w 28 [.int .i64 0, .int .i64 0, .int .i64 0, .int .i64 0]
  have HAZ : Hid (∀ W, Below Y.heap.size Y W → Arr W w.heap.size 28 [.int .i64 0, .int .i64 0, .int .i64 0, .int .i64 0]) := fun W h => haz.below h (by omega)
  have HWL : Hid (∀ W, Below Y.heap.size Y W → RdN W.heap.size W (some ⟨g, o, none⟩) WL) := fun W h => ((hr.below hBY (Nat.le_refl _)).below h (by omega)).mono (by have := h.size; omega)
  have HBY := Lib.hid hBY
  have HLE : Hid (w.heap.size ≤ Y.heap.size) := by unfold Hid; omega
  have HLT : Hid (w.heap.size < Y.heap.size) := by unfold Hid; omega
  have B0 := Lib.hid (Below.refl Y.heap.size Y)
  have d0 := (HWL.out _ B0.out).atZ hp0
  have d1 := (HWL.out _ B0.out).atO hp1
  obtain ⟨pA, hpA⟩ : ∃ pA, (if c = 27 then some (⟨g, o, none⟩ : Addr) else some ⟨g, o + 27, none⟩) = pA := ⟨_, rfl⟩
  have HPK : Hid (∀ W, Below Y.heap.size Y W → RdN W.heap.size W pA pk) := fun W h => by
    rw [← hpA]
    split
    · have h0 : pk = [] := List.eq_nil_of_length_eq_zero (by omega)
      rw [h0]
      exact RdN.nil _ _ _
    · have := (HWL.out W h).part 27 pk.length
      rw [ht3, List.take_length] at this
      exact this
  have HHD : Hid (∀ W, Below Y.heap.size Y W → RdN W.heap.size W (some ⟨g, o, none⟩) HD) := fun W h => by
    have := (HWL.out W h).part 0 11
    rw [ht1] at this
    exact this
  have x1 : ¬ c < 11 := by omega
  have x2 : ¬ c < 27 := by omega
  have x3 : ¬ c = 11 := by omega
  have x4 : (11 : Int) ≤ (c : Int) := by omega
  have x5 : (27 : Int) ≤ (c : Int) := by omega
  have x6 : (27 : Int) + (pk.length : Int) ≤ (c : Int) := by omega
  have x7 : ¬ c < 27 + pk.length := by omega
  have HO1 := Lib.hid ho
  clear hHD hWL hHl hHb hQl hp0 hp1 ht1 ht2 ht3 hw0 hw1 hw2 hw3 hBY hYs haz hr ho ho2
  go_enter Tryd.func5, Tryd.ntmps5
  go_wp2
  go_quiet (fail)
  go_wp2_with (first
    | (go_at_call 9; refine (hU _ (HHD.out _ (below_drewN B0.out _))).mono ?_; rintro e w1 ⟨rfl, hb1⟩; have B1 := Lib.hid ((below_drewN B0.out _).trans hb1); clear hb1)
    | (refine wpList_store_arr rfl 28 (.tmp 10) (.tmp 41) rfl w1.heap.size rfl (vs := [.int .i64 K, .int .i64 l, .int .i64 r, .int .i64 f]) rfl (show Arr _ w1.heap.size 28 [.int .i64 0, .int .i64 0, .int .i64 0, .int .i64 0] from Arr.new w1 28 [.int .i64 0, .int .i64 0, .int .i64 0, .int .i64 0]) sizeO rfl rfl (by simp [Value.oneCell']) ?_; intro W2 A2 B2 hsz2 O2; have BB2 := Lib.hid ((B1.out.alloc B1.out.size _).trans (B2.out.mono B1.out.size)); have LW1 := Lib.hid B1.out.size; clear B2 hsz2 O2)
    | (refine wpList_load_arr rfl 28 (.tmp 10) rfl w1.heap.size rfl A2.out Tryd.underlying28 rfl sizeO rfl ?_)
    | (go_at_call 10; refine (hO W2).mono ?_; rintro e w3 ⟨⟨x, rfl, hx⟩, hb3⟩; obtain rfl : x = true := hx.2 HO1.out; have A3 := Lib.hid (A2.out.below hb3 A2.out.lt); have co := A3.out.cell 0; simp only [List.getElem?_cons_zero] at co; have B3 := Lib.hid (BB2.out.trans (hb3.mono BB2.out.size)); clear hx hb3 A2)
    | (go_at_call 11; refine (hfind w3 (HBY.out.trans (B3.out.mono HLE.out))).mono ?_; rintro e w4 ⟨rfl, hb4⟩; have A4 := Lib.hid (A3.out.below hb4 A3.out.lt); have B4 := Lib.hid (B3.out.trans (hb4.mono B3.out.size)); clear hb4 A3 co)
    | (refine wpList_store_arr rfl 26 (.tmp 11) (.tmp 51) rfl w4.heap.size rfl (vs := [.int .i64 0, .slice none 0 0]) rfl (show Arr _ w4.heap.size 26 [.int .i64 0, .slice none 0 0] from Arr.new w4 26 [.int .i64 0, .slice none 0 0]) sizeK rfl rfl (by simp [Value.oneCell']) ?_; intro W5 A5 B5 hsz5 O5; have BB5 := Lib.hid ((B4.out.alloc B4.out.size _).trans (B5.out.mono B4.out.size)); clear B5 hsz5 O5 A4 A5)
    | (refine wpList_store_arr rfl 28 (.tmp 4) (.tmp 55) rfl w.heap.size rfl (vs := [.int .i64 0, .int .i64 0, .int .i64 0, .int .i64 0]) rfl (HAZ.out _ BB5.out) sizeO rfl rfl (by simp [Value.oneCell']) ?_; intro W6 A6 B6 hsz6 O6))
  refine bodyPost_ret (results_cell3 rfl rfl A6.out Tryd.underlying28 rfl sizeO) rfl ?_
  exact ⟨rfl, (HBY.out.trans (BB5.out.mono HLE.out)).trans B6.out⟩
end Go.Proofs.YtmmocnokgcgmnaaDoor

/-
  AN ENVELOPE IS NOT OPENED that says what may not be; nor what is none: the program's Open.
-/
namespace Go.Proofs.YtmmocnokgcgmnaaDoor
set_option linter.unusedSimpArgs false
set_option linter.unusedVariables false
open Go.RowKit
set_option maxHeartbeats 3200000 in
set_option maxRecDepth 100000 in
theorem opn_form1 (kv : Value) (A : Option Addr) (n c : Nat) (hn : n < 27) (w : World) :
    Calls Tryd.prog 5 #[kv, .slice A n c] w fun e w' => e = .returned (.tuple #[.agg #[.int .i64 0, .int .i64 0, .int .i64 0, .int .i64 0], .slice none 0 0, .int .i64 2]) ∧ Below w.heap.size w w' := by
  obtain ⟨Y, hY⟩ : ∃ Y, w.alloc (.cells #[.int .i64 0, .int .i64 0, .int .i64 0, .int .i64 0] 28) = Y := ⟨_, rfl⟩
  have hBY : Below w.heap.size w Y := by rw [← hY]; exact (Below.refl w.heap.size w).alloc (Nat.le_refl _) _
  have haz : Arr Y w.heap.size 28 [.int .i64 0, .int .i64 0, .int .i64 0, .int .i64 0] := by rw [← hY]; exact Arr.new w 28 [.int .i64 0, .int .i64 0, .int .i64 0, .int .i64 0]
  have HAZ := Lib.hid haz
  have HBY := Lib.hid hBY
  have g1 : decide ((n : Int) < 27) = true := decide_eq_true (by omega)
  clear hBY haz hn
  go_enter Tryd.func5, Tryd.ntmps5
  go_wp2_with (first
    | (refine wpList_store_arr rfl 28 (.tmp 4) (.tmp 33) rfl w.heap.size rfl (vs := [.int .i64 0, .int .i64 0, .int .i64 0, .int .i64 0]) rfl HAZ.out sizeO rfl rfl (by simp [Value.oneCell']) ?_; intro W6 A6 B6 hsz6 O6))
  refine bodyPost_ret (results_cell3 rfl rfl A6.out Tryd.underlying28 rfl sizeO) rfl ?_
  exact ⟨rfl, HBY.out.trans B6.out⟩
set_option maxHeartbeats 3200000 in
set_option maxRecDepth 100000 in
theorem opn_form2 (kv : Value) (A : Option Addr) (n c : Nat) (hn : 4123 < n) (w : World) :
    Calls Tryd.prog 5 #[kv, .slice A n c] w fun e w' => e = .returned (.tuple #[.agg #[.int .i64 0, .int .i64 0, .int .i64 0, .int .i64 0], .slice none 0 0, .int .i64 2]) ∧ Below w.heap.size w w' := by
  obtain ⟨Y, hY⟩ : ∃ Y, w.alloc (.cells #[.int .i64 0, .int .i64 0, .int .i64 0, .int .i64 0] 28) = Y := ⟨_, rfl⟩
  have hBY : Below w.heap.size w Y := by rw [← hY]; exact (Below.refl w.heap.size w).alloc (Nat.le_refl _) _
  have haz : Arr Y w.heap.size 28 [.int .i64 0, .int .i64 0, .int .i64 0, .int .i64 0] := by rw [← hY]; exact Arr.new w 28 [.int .i64 0, .int .i64 0, .int .i64 0, .int .i64 0]
  have HAZ := Lib.hid haz
  have HBY := Lib.hid hBY
  have g1 : decide ((n : Int) < 27) = false := decide_eq_false (by omega)
  have g2 : decide ((4123 : Int) < (n : Int)) = true := decide_eq_true (by omega)
  clear hBY haz hn
  go_enter Tryd.func5, Tryd.ntmps5
  go_wp2_with (first
    | (refine wpList_store_arr rfl 28 (.tmp 4) (.tmp 33) rfl w.heap.size rfl (vs := [.int .i64 0, .int .i64 0, .int .i64 0, .int .i64 0]) rfl HAZ.out sizeO rfl rfl (by simp [Value.oneCell']) ?_; intro W6 A6 B6 hsz6 O6))
  refine bodyPost_ret (results_cell3 rfl rfl A6.out Tryd.underlying28 rfl sizeO) rfl ?_
  exact ⟨rfl, HBY.out.trans B6.out⟩
set_option maxHeartbeats 3200000 in
set_option maxRecDepth 100000 in
theorem opn_form3 (kv : Value) (g o n c : Nat) (h1 : 27 ≤ n) (h2 : n ≤ 4123) (x0 : Nat) (hx : x0 ≠ 161) (w : World) (hg : g < w.heap.size) (hc : w.cell? ⟨g, o, none⟩ = some (.int .u8 x0)) :
    Calls Tryd.prog 5 #[kv, .slice (some ⟨g, o, none⟩) n c] w fun e w' => e = .returned (.tuple #[.agg #[.int .i64 0, .int .i64 0, .int .i64 0, .int .i64 0], .slice none 0 0, .int .i64 2]) ∧ Below w.heap.size w w' := by
  obtain ⟨Y, hY⟩ : ∃ Y, w.alloc (.cells #[.int .i64 0, .int .i64 0, .int .i64 0, .int .i64 0] 28) = Y := ⟨_, rfl⟩
  have hBY : Below w.heap.size w Y := by rw [← hY]; exact (Below.refl w.heap.size w).alloc (Nat.le_refl _) _
  have haz : Arr Y w.heap.size 28 [.int .i64 0, .int .i64 0, .int .i64 0, .int .i64 0] := by rw [← hY]; exact Arr.new w 28 [.int .i64 0, .int .i64 0, .int .i64 0, .int .i64 0]
  have HAZ := Lib.hid haz
  have HBY := Lib.hid hBY
  have g1 : decide ((n : Int) < 27) = false := decide_eq_false (by omega)
  have g2 : decide ((4123 : Int) < (n : Int)) = false := decide_eq_false (by omega)
  have i0 : (0 : Int) < (n : Int) := by omega
  have i1 : (1 : Int) < (n : Int) := by omega
  have d0 : Y.cell? ⟨g, o, none⟩ = some (.int .u8 x0) := (hBY.cell (p := ⟨g, o, none⟩) hg).trans hc
  have e0 : ¬ ((x0 : Int) = 161) := by omega
  clear hBY haz hc hx h1 h2
  go_enter Tryd.func5, Tryd.ntmps5
  go_wp2_with (first
    | (refine wpList_store_arr rfl 28 (.tmp 4) (.tmp 33) rfl w.heap.size rfl (vs := [.int .i64 0, .int .i64 0, .int .i64 0, .int .i64 0]) rfl HAZ.out sizeO rfl rfl (by simp [Value.oneCell']) ?_; intro W6 A6 B6 hsz6 O6))
  refine bodyPost_ret (results_cell3 rfl rfl A6.out Tryd.underlying28 rfl sizeO) rfl ?_
  exact ⟨rfl, HBY.out.trans B6.out⟩
set_option maxHeartbeats 3200000 in
set_option maxRecDepth 100000 in
theorem opn_form4 (kv : Value) (g o n c : Nat) (h1 : 27 ≤ n) (h2 : n ≤ 4123) (x1 : Nat) (hx : x1 ≠ 247) (w : World) (hg : g < w.heap.size) (hc : w.cell? ⟨g, o, none⟩ = some (.int .u8 161)) (hc1 : w.cell? ⟨g, o + 1, none⟩ = some (.int .u8 x1)) :
    Calls Tryd.prog 5 #[kv, .slice (some ⟨g, o, none⟩) n c] w fun e w' => e = .returned (.tuple #[.agg #[.int .i64 0, .int .i64 0, .int .i64 0, .int .i64 0], .slice none 0 0, .int .i64 2]) ∧ Below w.heap.size w w' := by
  obtain ⟨Y, hY⟩ : ∃ Y, w.alloc (.cells #[.int .i64 0, .int .i64 0, .int .i64 0, .int .i64 0] 28) = Y := ⟨_, rfl⟩
  have hBY : Below w.heap.size w Y := by rw [← hY]; exact (Below.refl w.heap.size w).alloc (Nat.le_refl _) _
  have haz : Arr Y w.heap.size 28 [.int .i64 0, .int .i64 0, .int .i64 0, .int .i64 0] := by rw [← hY]; exact Arr.new w 28 [.int .i64 0, .int .i64 0, .int .i64 0, .int .i64 0]
  have HAZ := Lib.hid haz
  have HBY := Lib.hid hBY
  have g1 : decide ((n : Int) < 27) = false := decide_eq_false (by omega)
  have g2 : decide ((4123 : Int) < (n : Int)) = false := decide_eq_false (by omega)
  have i0 : (0 : Int) < (n : Int) := by omega
  have i1 : (1 : Int) < (n : Int) := by omega
  have d0 : Y.cell? ⟨g, o, none⟩ = some (.int .u8 161) := (hBY.cell (p := ⟨g, o, none⟩) hg).trans hc
  have d1 : Y.cell? ⟨g, o + 1, none⟩ = some (.int .u8 x1) := (hBY.cell (p := ⟨g, o + 1, none⟩) hg).trans hc1
  have e0 : ¬ ((x1 : Int) = 247) := by omega
  clear hBY haz hc hc1 hx h1 h2
  go_enter Tryd.func5, Tryd.ntmps5
  go_wp2_with (first
    | (refine wpList_store_arr rfl 28 (.tmp 4) (.tmp 33) rfl w.heap.size rfl (vs := [.int .i64 0, .int .i64 0, .int .i64 0, .int .i64 0]) rfl HAZ.out sizeO rfl rfl (by simp [Value.oneCell']) ?_; intro W6 A6 B6 hsz6 O6))
  refine bodyPost_ret (results_cell3 rfl rfl A6.out Tryd.underlying28 rfl sizeO) rfl ?_
  exact ⟨rfl, HBY.out.trans B6.out⟩
set_option maxHeartbeats 3200000 in
set_option maxRecDepth 100000 in
theorem opn_life (kv : Value) (K : Nat) (g o c : Nat) (l r f : Nat) (hk1 : K < 256) (hk2 : l < 65536) (hk3 : r < 65536) (hk4 : f < 4294967296) (ho : ¬ okO K l r f) (pk : List Nat) (hpl : pk.length ≤ 4096) (FQ : List Nat) (hQl : FQ.length = 16) (w : World) (hc : 27 + pk.length ≤ c) (hr : RdN w.heap.size w (some ⟨g, o, none⟩) (headL K l r f ++ (FQ ++ pk))) :
    Calls Tryd.prog 5 #[kv, .slice (some ⟨g, o, none⟩) (27 + pk.length) c] w fun e w' => e = .returned (.tuple #[.agg #[.int .i64 0, .int .i64 0, .int .i64 0, .int .i64 0], .slice none 0 0, .int .i64 2]) ∧ Below w.heap.size w w' := by
  have hO := okO_any K l r f
  have hwd := head_words K l r f (by omega) (by omega) (by omega) (by omega)
  have hHl := headL_len K l r f
  have hHb := headL_lt K l r f
  have hp0 : (headL K l r f ++ (FQ ++ pk))[0]? = some 161 := by unfold headL; rfl
  have hp1 : (headL K l r f ++ (FQ ++ pk))[1]? = some 247 := by unfold headL; rfl
  have ht1 : ((headL K l r f ++ (FQ ++ pk)).drop 0).take 11 = headL K l r f := by rw [List.drop_zero]; exact List.take_left' hHl
  have ht2 : ((headL K l r f ++ (FQ ++ pk)).drop 11).take 16 = FQ := by rw [List.drop_left' hHl]; exact List.take_left' hQl
  have ht3 : (headL K l r f ++ (FQ ++ pk)).drop 27 = pk := by
    rw [← List.append_assoc]
    exact List.drop_left' (by rw [List.length_append, hHl, hQl])
  obtain ⟨HD, hHD⟩ : ∃ HD, headL K l r f = HD := ⟨_, rfl⟩
  rw [hHD] at ht1 hwd hHl hHb
  obtain ⟨WL, hWL⟩ : ∃ WL, HD ++ (FQ ++ pk) = WL := ⟨_, rfl⟩
  rw [hHD] at hr hp0 hp1 ht2 ht3
  rw [hWL] at hr hp0 hp1 ht1 ht2 ht3
  obtain ⟨hw0, hw1, hw2, hw3⟩ := hwd
  have hU := fun W h => outerOf_any (some ⟨g, o, none⟩) c HD hHb hHl (by omega) W h
  rw [hw0, hw1, hw2, hw3] at hU
  -- memory
  obtain ⟨Y, hY⟩ : ∃ Y, w.alloc (.cells #[.int .i64 0, .int .i64 0, .int .i64 0, .int .i64 0] 28) = Y := ⟨_, rfl⟩
  have hBY : Below w.heap.size w Y := by rw [← hY]; exact (Below.refl w.heap.size w).alloc (Nat.le_refl _) _
  have hYs : Y.heap.size = w.heap.size + 1 := by rw [← hY]; simp
  have haz : Arr Y w.heap.size 28 [.int .i64 0, .int .i64 0, .int .i64 0, .int .i64 0] := by rw [← hY]; exact Arr.new w 28 [.int .i64 0, .int .i64 0, .int .i64 0, .int .i64 0]
  have HAZ : Hid (∀ W, Below Y.heap.size Y W → Arr W w.heap.size 28 [.int .i64 0, .int .i64 0, .int .i64 0, .int .i64 0]) := fun W h => haz.below h (by omega)
  have HWL : Hid (∀ W, Below Y.heap.size Y W → RdN W.heap.size W (some ⟨g, o, none⟩) WL) := fun W h => ((hr.below hBY (Nat.le_refl _)).below h (by omega)).mono (by have := h.size; omega)
  have HBY := Lib.hid hBY
  have HLE : Hid (w.heap.size ≤ Y.heap.size) := by unfold Hid; omega
  have HLT : Hid (w.heap.size < Y.heap.size) := by unfold Hid; omega
  have B0 := Lib.hid (Below.refl Y.heap.size Y)
  have d0 := (HWL.out _ B0.out).atZ hp0
  have d1 := (HWL.out _ B0.out).atO hp1
  obtain ⟨pA, hpA⟩ : ∃ pA, (if c = 27 then some (⟨g, o, none⟩ : Addr) else some ⟨g, o + 27, none⟩) = pA := ⟨_, rfl⟩
  have HPK : Hid (∀ W, Below Y.heap.size Y W → RdN W.heap.size W pA pk) := fun W h => by
    rw [← hpA]
    split
    · have h0 : pk = [] := List.eq_nil_of_length_eq_zero (by omega)
      rw [h0]
      exact RdN.nil _ _ _
    · have := (HWL.out W h).part 27 pk.length
      rw [ht3, List.take_length] at this
      exact this
  have HHD : Hid (∀ W, Below Y.heap.size Y W → RdN W.heap.size W (some ⟨g, o, none⟩) HD) := fun W h => by
    have := (HWL.out W h).part 0 11
    rw [ht1] at this
    exact this
  have x1 : ¬ c < 11 := by omega
  have x2 : ¬ c < 27 := by omega
  have x3 : ¬ c = 11 := by omega
  have x4 : (11 : Int) ≤ (c : Int) := by omega
  have x5 : (27 : Int) ≤ (c : Int) := by omega
  have x6 : (27 : Int) + (pk.length : Int) ≤ (c : Int) := by omega
  have x7 : ¬ c < 27 + pk.length := by omega
  have HO1 := Lib.hid ho
  clear hHD hWL hHl hHb hQl hp0 hp1 ht1 ht2 ht3 hw0 hw1 hw2 hw3 hBY hYs haz hr ho
  go_enter Tryd.func5, Tryd.ntmps5
  go_wp2
  go_quiet (fail)
  go_wp2_with (first
    | (go_at_call 9; refine (hU _ (HHD.out _ (below_drewN B0.out _))).mono ?_; rintro e w1 ⟨rfl, hb1⟩; have B1 := Lib.hid ((below_drewN B0.out _).trans hb1); clear hb1)
    | (refine wpList_store_arr rfl 28 (.tmp 10) (.tmp 41) rfl w1.heap.size rfl (vs := [.int .i64 K, .int .i64 l, .int .i64 r, .int .i64 f]) rfl (show Arr _ w1.heap.size 28 [.int .i64 0, .int .i64 0, .int .i64 0, .int .i64 0] from Arr.new w1 28 [.int .i64 0, .int .i64 0, .int .i64 0, .int .i64 0]) sizeO rfl rfl (by simp [Value.oneCell']) ?_; intro W2 A2 B2 hsz2 O2; have BB2 := Lib.hid ((B1.out.alloc B1.out.size _).trans (B2.out.mono B1.out.size)); have LW1 := Lib.hid B1.out.size; clear B2 hsz2 O2)
    | (refine wpList_load_arr rfl 28 (.tmp 10) rfl w1.heap.size rfl A2.out Tryd.underlying28 rfl sizeO rfl ?_)
    | (go_at_call 10; refine (hO W2).mono ?_; rintro e w3 ⟨⟨x, rfl, hx⟩, hb3⟩; obtain rfl : x = false := (by cases x; rfl; exact absurd (hx.1 rfl) HO1.out); have B3 := Lib.hid (BB2.out.trans (hb3.mono BB2.out.size)); clear hx hb3 A2)
    | (refine wpList_store_arr rfl 28 (.tmp 4) (.tmp 45) rfl w.heap.size rfl (vs := [.int .i64 0, .int .i64 0, .int .i64 0, .int .i64 0]) rfl (HAZ.out _ B3.out) sizeO rfl rfl (by simp [Value.oneCell']) ?_; intro W6 A6 B6 hsz6 O6))
  refine bodyPost_ret (results_cell3 rfl rfl A6.out Tryd.underlying28 rfl sizeO) rfl ?_
  exact ⟨rfl, (HBY.out.trans (B3.out.mono HLE.out)).trans B6.out⟩
end Go.Proofs.YtmmocnokgcgmnaaDoor

/-
  AN ENVELOPE'S PARTS: the head's bytes, the fingerprint, the packet.
-/
namespace Go.Proofs.YtmmocnokgcgmnaaDoor
set_option linter.unusedSimpArgs false
set_option linter.unusedVariables false
open Go.RowKit
theorem cons_of {α : Type} {l : List α} {n : Nat} (h : n + 1 ≤ l.length) : ∃ a t, l = a :: t ∧ n ≤ t.length := by
  cases l with
  | nil => simp at h
  | cons a t => exact ⟨a, t, rfl, by simpa using h⟩
theorem cut_env {b : List Nat} (hb : ∀ x ∈ b, x < 256) (hl : 27 ≤ b.length) (h0 : b[0]? = some 161) (h1 : b[1]? = some 247) :
    ∃ x2 x3 x4 x5 x6 x7 x8 x9 x10 : Nat, ∃ FQ pk : List Nat, b = headL x2 (x3 * 256 + x4) (x5 * 256 + x6) (x7 * 16777216 + x8 * 65536 + x9 * 256 + x10) ++ (FQ ++ pk) ∧ FQ.length = 16 ∧ 27 + pk.length = b.length ∧ (∀ x ∈ FQ, x < 256) ∧ (∀ x ∈ pk, x < 256) ∧
      (x2 < 256 ∧ x3 < 256 ∧ x4 < 256 ∧ x5 < 256 ∧ x6 < 256 ∧ x7 < 256 ∧ x8 < 256 ∧ x9 < 256 ∧ x10 < 256) ∧
      (b[2]? = some x2 ∧ b[3]? = some x3 ∧ b[4]? = some x4 ∧ b[5]? = some x5 ∧ b[6]? = some x6 ∧ b[7]? = some x7 ∧ b[8]? = some x8 ∧ b[9]? = some x9 ∧ b[10]? = some x10) := by
  obtain ⟨a0, t0, rfl, hl⟩ := cons_of (n := 26) (by omega)
  obtain ⟨a1, t1, rfl, hl⟩ := cons_of (n := 25) (by omega)
  obtain ⟨x2, t2, rfl, hl⟩ := cons_of (n := 24) (by omega)
  obtain ⟨x3, t3, rfl, hl⟩ := cons_of (n := 23) (by omega)
  obtain ⟨x4, t4, rfl, hl⟩ := cons_of (n := 22) (by omega)
  obtain ⟨x5, t5, rfl, hl⟩ := cons_of (n := 21) (by omega)
  obtain ⟨x6, t6, rfl, hl⟩ := cons_of (n := 20) (by omega)
  obtain ⟨x7, t7, rfl, hl⟩ := cons_of (n := 19) (by omega)
  obtain ⟨x8, t8, rfl, hl⟩ := cons_of (n := 18) (by omega)
  obtain ⟨x9, t9, rfl, hl⟩ := cons_of (n := 17) (by omega)
  obtain ⟨x10, t, rfl, hl⟩ := cons_of (n := 16) (by omega)
  simp at h0 h1
  subst h0 h1
  have b2 := hb x2 (by simp)
  have b3 := hb x3 (by simp)
  have b4 := hb x4 (by simp)
  have b5 := hb x5 (by simp)
  have b6 := hb x6 (by simp)
  have b7 := hb x7 (by simp)
  have b8 := hb x8 (by simp)
  have b9 := hb x9 (by simp)
  have b10 := hb x10 (by simp)
  have ht : ∀ x ∈ t, x < 256 := fun x hx => hb x (by simp [hx])
  refine ⟨x2, x3, x4, x5, x6, x7, x8, x9, x10, t.take 16, t.drop 16, ?_, by simp; omega, by simp; omega, fun x hx => ht x (List.mem_of_mem_take hx), fun x hx => ht x (List.mem_of_mem_drop hx), ⟨b2, b3, b4, b5, b6, b7, b8, b9, b10⟩, ⟨rfl, rfl, rfl, rfl, rfl, rfl, rfl, rfl, rfl⟩⟩
  rw [List.take_append_drop]
  simp [headL, beN, List.range_succ]
  omega
end Go.Proofs.YtmmocnokgcgmnaaDoor

/-
  KEYS THAT CAME IN AS AN ARGUMENT, with their secrets.
-/
namespace Go.Proofs.YtmmocnokgcgmnaaDoor
set_option linter.unusedSimpArgs false
open Go.RowKit Go.ChangeShapes Go.WideShapes
set_option linter.unusedVariables false
/-- A key's secret may be read. -/
def SecK (W : World) (kd : KeyD) : Prop := ∃ sec : List Nat, sec.length = kd.n ∧ InB W kd.a sec.length kd.c sec
set_option maxRecDepth 100000 in
theorem keys_of2 {H : Type} {enc : TypeId × Value → H} {W : World} {held : Bool} {a : Option Addr} {len cap : Nat} {d : DataW H} {ps : List MemPlace} (h : DataW.Trod enc Tryd.prog W 0 (fun _ => true) held 22 (.slice a len cap) d ps) :
    ∃ ks : List KeyD, ks.length = len ∧ ks.length ≤ 9223372036854775807 ∧ RdK W.heap.size W a ks ∧ ∀ kd ∈ ks, SecK W kd := by
  obtain ⟨fuel, hf⟩ := h
  have hf' : DataW.trod enc Tryd.prog W 0 (fun _ => true) held fuel 22 [.slice a len cap] = some (d, ps) := hf
  rcases Go.Deep.open_slice Tryd.underlying22 hf' with ⟨hcs, _⟩ | ⟨A, l, c, m, n, D, Pl, hcs, _, hl, hm, hmm, _, hall⟩
  · simp at hcs
    obtain ⟨rfl, rfl, rfl⟩ := hcs
    exact ⟨[], rfl, Nat.zero_le _, fun j kd hj => by simp at hj, by simp⟩
  · simp at hcs
    obtain ⟨rfl, rfl, rfl⟩ := hcs
    simp only [if_true] at hmm
    subst hmm
    rw [show Tryd.prog.cellsOf 26 = 2 from by kernel_rfl] at hall
    have hall2 : ∀ i', i' < m → ∃ q : KeyD, W.cells? 0 (A.add (i' * 2)) 2 = some [.int .i64 q.id, .slice q.a q.n q.c] ∧ q.n ≤ 9223372036854775807 ∧ SecK W q := by
      intro i' hi'
      obtain ⟨cs, hcs, htr⟩ := hall i' hi'
      obtain ⟨id, sA, sc, sec, e1, _, hb⟩ := rdq_key ⟨_, _, htr⟩
      subst e1
      have hbm := hb.2.1
      have hbc := hb.2.2.1
      exact ⟨⟨id, sA, sec.length, sc⟩, hcs, by show sec.length ≤ _; unfold maxLen at hbc; omega, sec, rfl, hb⟩
    obtain ⟨f, hf2⟩ := Go.Deep.choose_lt hall2
    refine ⟨(List.range len).map f, by simp, by simp; unfold maxLen at hm; omega, fun j kd hj => ?_, fun kd hkd => ?_⟩
    rotate_left
    · obtain ⟨i, hi, rfl⟩ := List.mem_map.1 hkd
      exact (hf2 i (by have := List.mem_range.1 hi; omega)).2.2
    have hjl : j < len := by
      rcases Nat.lt_or_ge j len with h1 | h1
      · exact h1
      · rw [List.getElem?_eq_none (by simpa using h1)] at hj; cases hj
    obtain rfl : f j = kd := by simpa [hjl] using hj
    have cell : ∀ k, k < 2 → W.cell? (A.add (j * 2 + k)) = [Value.int .i64 (f j).id, .slice (f j).a (f j).n (f j).c][k]? := fun k hk => by
      have := (World.cells?_some (hf2 j (by omega)).1).2.2 k hk
      rwa [Go.Deep.add_add] at this
    obtain ⟨b, off, spot⟩ := A
    have h0 := cell 0 (by decide)
    have h1 := cell 1 (by decide)
    have h00 : W.cell? ((⟨b, off, spot⟩ : Addr).add (0 * 2 + 0)) = some (Value.int .i64 (f 0).id) := by
      have := (World.cells?_some (hf2 0 (by omega)).1).2.2 0 (by decide)
      rwa [Go.Deep.add_add] at this
    have hspot : spot = none := by simpa [Addr.add] using World.cell?_spot h00
    subst hspot
    have plain : ∀ k, (⟨b, off, none⟩ : Addr).add k = ⟨b, off + k, none⟩ := fun k => by unfold Addr.add; split <;> simp_all
    rw [plain] at h0 h1
    exact ⟨(hf2 j (by omega)).2.1, b, off, rfl, World.block_lt_of_cell? W _ (h0.trans rfl), by simpa using h0, by simpa [Nat.add_assoc] using h1⟩
end Go.Proofs.YtmmocnokgcgmnaaDoor

/-
  THE DOCUMENT'S Open: what is no envelope; what may not be; a key that is not there; another fingerprint; opened.
-/
namespace Go.Proofs.YtmmocnokgcgmnaaDoor
set_option linter.unusedSimpArgs false
set_option linter.unusedVariables false
open Go.RowKit
theorem wrN {z : Int} (h1 : 0 ≤ z) (h2 : z < 4611686018427387904) : IntKind.i64.wrap z = z := by simp only [IntKind.wrap_i64]; omega
theorem env_nums (x2 x3 x4 x5 x6 x7 x8 x9 x10 : Nat) (hx : x2 < 256 ∧ x3 < 256 ∧ x4 < 256 ∧ x5 < 256 ∧ x6 < 256 ∧ x7 < 256 ∧ x8 < 256 ∧ x9 < 256 ∧ x10 < 256) (l r f : Nat) (hl : x3 * 256 + x4 = l) (hr : x5 * 256 + x6 = r) (hf : x7 * 16777216 + x8 * 65536 + x9 * 256 + x10 = f) :
    IntKind.i64.wrap ((x3 : Int) * 256) = (x3 : Int) * 256 ∧ IntKind.i64.wrap ((x3 : Int) * 256 + (x4 : Int)) = (l : Int) ∧ IntKind.i64.wrap ((x5 : Int) * 256) = (x5 : Int) * 256 ∧ IntKind.i64.wrap ((x5 : Int) * 256 + (x6 : Int)) = (r : Int) ∧ IntKind.i64.wrap ((x7 : Int) * 16777216) = (x7 : Int) * 16777216 ∧ IntKind.i64.wrap ((x8 : Int) * 65536) = (x8 : Int) * 65536 ∧ IntKind.i64.wrap ((x7 : Int) * 16777216 + (x8 : Int) * 65536) = (x7 : Int) * 16777216 + (x8 : Int) * 65536 ∧ IntKind.i64.wrap ((x9 : Int) * 256) = (x9 : Int) * 256 ∧ IntKind.i64.wrap ((x7 : Int) * 16777216 + (x8 : Int) * 65536 + (x9 : Int) * 256) = (x7 : Int) * 16777216 + (x8 : Int) * 65536 + (x9 : Int) * 256 ∧ IntKind.i64.wrap ((x7 : Int) * 16777216 + (x8 : Int) * 65536 + (x9 : Int) * 256 + (x10 : Int)) = (f : Int) ∧
    IntKind.i64.wrap (x2 : Int) = x2 ∧ IntKind.i64.wrap (x3 : Int) = x3 ∧ IntKind.i64.wrap (x4 : Int) = x4 ∧ IntKind.i64.wrap (x5 : Int) = x5 ∧ IntKind.i64.wrap (x6 : Int) = x6 ∧ IntKind.i64.wrap (x7 : Int) = x7 ∧ IntKind.i64.wrap (x8 : Int) = x8 ∧ IntKind.i64.wrap (x9 : Int) = x9 ∧ IntKind.i64.wrap (x10 : Int) = x10 := by
  refine ⟨wrN (by omega) (by omega), ?_, wrN (by omega) (by omega), ?_, wrN (by omega) (by omega), wrN (by omega) (by omega), wrN (by omega) (by omega), wrN (by omega) (by omega), wrN (by omega) (by omega), ?_, wrN (by omega) (by omega), wrN (by omega) (by omega), wrN (by omega) (by omega), wrN (by omega) (by omega), wrN (by omega) (by omega), wrN (by omega) (by omega), wrN (by omega) (by omega), wrN (by omega) (by omega), wrN (by omega) (by omega)⟩
  · rw [wrN (by omega) (by omega)]; omega
  · rw [wrN (by omega) (by omega)]; omega
  · rw [wrN (by omega) (by omega)]; omega
theorem cell_keeps {W : World} {a : Addr} {v : Value} {k j : Nat} (h : W.cell? a = some v) (hn : a.block ≠ k) (u : Value) : (W.setCell ⟨k, j, none⟩ u).drew.cell? a = some v := by
  show (W.setCell ⟨k, j, none⟩ u).cell? a = some v
  exact (World.cell?_of_block (w := W) (Below.heap_setCell W ⟨k, j, none⟩ u a.block hn)).trans h
end Go.Proofs.YtmmocnokgcgmnaaDoor

/-
  UNLIKE BYTES ARE UNLIKE STRINGS.
-/
namespace Go.Proofs.YtmmocnokgcgmnaaDoor
set_option linter.unusedSimpArgs false
set_option linter.unusedVariables false
open Go.RowKit
theorem map_back {l : List Nat} (h : ∀ x ∈ l, x < 256) : ((l.map fun n : Nat => (n : Int)).map fun n => UInt8.ofNat n.toNat).map UInt8.toNat = l := by
  induction l with
  | nil => rfl
  | cons x l ih =>
    have hx := h x (by simp)
    have e : (UInt8.ofNat x).toNat = x := by simp [UInt8.ofNat, UInt8.toNat]; omega
    simp only [List.map_cons, Int.toNat_natCast, e]
    rw [ih fun y hy => h y (by simp [hy])]
theorem strB_inj {l l2 : List Nat} (h1 : ∀ x ∈ l, x < 256) (h2 : ∀ x ∈ l2, x < 256) (e : strB l = strB l2) : l = l2 := by
  unfold strB at e
  have e2 := congrArg (fun s : ByteArray => s.data.toList.map UInt8.toNat) e
  simp only [strOfNums_data] at e2
  rwa [map_back h1, map_back h2] at e2
theorem strOfNums_data_bytes (xs : List Int) : (strOfNums xs).data.toList = Lib.bytesOf xs := rfl
theorem strB_inj2 {l l2 : List Nat} (h1 : ∀ x ∈ l, x < 256) (h2 : ∀ x ∈ l2, x < 256) (e : (strB l).toList = (strB l2).toList) : l = l2 := by
  unfold strB at e
  rw [Lib.strOfNums_toList, Lib.strOfNums_toList, ← strOfNums_data_bytes, ← strOfNums_data_bytes] at e
  have e2 := congrArg (List.map UInt8.toNat) e
  simp only [strOfNums_data] at e2
  rwa [map_back h1, map_back h2] at e2
end Go.Proofs.YtmmocnokgcgmnaaDoor

/-
  THE DOCUMENT'S Open: another fingerprint; opened.
-/
namespace Go.Proofs.YtmmocnokgcgmnaaDoor
set_option linter.unusedSimpArgs false
set_option linter.unusedVariables false
open Go.RowKit
theorem okO_bounds {k l r f : Nat} (h : okO k l r f) : k < 256 ∧ l < 65536 ∧ r < 65536 ∧ f < 4294967296 := by unfold okO okIn at h; omega
theorem set1 (W : World) (k j : Nat) (u : Value) (b : Nat) (hn : b ≠ k) : (W.setCell ⟨k, j, none⟩ u).heap[b]? = W.heap[b]? := Below.heap_setCell W ⟨k, j, none⟩ u b hn
theorem set4 (W : World) (k b : Nat) (u0 u1 u2 u3 : Value) (hn : b ≠ k) : ((((W.setCell ⟨k, 0, none⟩ u0).setCell ⟨k, 1, none⟩ u1).setCell ⟨k, 2, none⟩ u2).setCell ⟨k, 3, none⟩ u3).heap[b]? = W.heap[b]? := by
  rw [set1 _ k 3 u3 b hn, set1 _ k 2 u2 b hn, set1 _ k 1 u1 b hn, set1 _ k 0 u0 b hn]
theorem four_keeps {W V : World} {b : Nat} {v0 v1 v2 v3 : Value} (hh : V.heap[b]? = W.heap[b]?) (h : W.cell? ⟨b, 0, none⟩ = some v0 ∧ W.cell? ⟨b, 1, none⟩ = some v1 ∧ W.cell? ⟨b, 2, none⟩ = some v2 ∧ W.cell? ⟨b, 3, none⟩ = some v3) :
    V.cell? ⟨b, 0, none⟩ = some v0 ∧ V.cell? ⟨b, 1, none⟩ = some v1 ∧ V.cell? ⟨b, 2, none⟩ = some v2 ∧ V.cell? ⟨b, 3, none⟩ = some v3 :=
  have hc : ∀ j, V.cell? ⟨b, j, none⟩ = W.cell? ⟨b, j, none⟩ := fun j => World.cell?_of_block (w := W) (a := ⟨b, j, none⟩) hh
  ⟨(hc 0).trans h.1, (hc 1).trans h.2.1, (hc 2).trans h.2.2.1, (hc 3).trans h.2.2.2⟩
theorem step_run {P : Program} {ops : Array Oper} {o : Oper} {a : Act} {w : World} {K : Act → World → Prop} {Q : Exit → Act → World → Prop} {E : Prop} (hgd : o.guard = none) (s x : Operand) (t : TypeId)
    (ho : o.op = .call { callee := .builtin .append, args := #[s, x], argTypes := #[t, t] }) (v1 v2 : Value) (hs : a.eval s = v1) (hx : a.eval x = v2) (v' : Value) (w' : World) (hrun : (Builtin.append_ #[t, t] o.type #[v1, v2]).run P w = .ok v' w')
    (h : K (a.put o.dst v') w') : if Region.wanted o (yielded ops a.tmps) = true then Oper.wp P o a w K Q else E := by
  have hw : Region.wanted o (yielded ops a.tmps) = true := by simp [Region.wanted, hgd]
  rw [if_pos hw]
  unfold Oper.wp
  simp [execOp, ho, resolve, invoke, builtin, hs, hx, hrun, Result.andThen]
  exact h
theorem heap_alloc_old' (W : World) (o : Obj) {k : Nat} (h : k < W.heap.size) : (W.alloc o).heap[k]? = W.heap[k]? := Below.heap_alloc _ _ _ h
theorem run_app (W : World) (n : Nat) (hn : W.heap.size = n) (pA : Option Addr) (hpA : ∃ ad, pA = some ad) (m c : Nat) (pk : List Nat) (hm : pk.length = m) (hml : m ≤ 100000) (hr : RdN W.heap.size W pA pk) :
    ∃ v' w', (Builtin.append_ #[23, 23] 23 #[.slice (some ⟨n, 0, none⟩) 0 0, .slice pA m c]).run Tryd.prog (W.alloc (.cells #[] 5)) = .ok v' w' ∧ w'.ownsRow n 5 1 v' m (u8s pk) ∧ Below W.heap.size W w' := by
  obtain ⟨i0, hi, hz0, hz1, hz2⟩ := info_parts Tryd.info5
  obtain ⟨ad, rfl⟩ := hpA
  subst hn
  have hown : (W.alloc (.cells #[] 5)).ownsRow W.heap.size 5 1 (.slice (some ⟨W.heap.size, 0, none⟩) 0 0) 0 [] := ⟨rfl, .inr ⟨_, 0, #[], rfl, Nat.le_refl _, heap_alloc_new _ _, Nat.le_refl _, by unfold maxLen; omega, rfl, rfl⟩⟩
  obtain ⟨v', w', h1, h2, h3, _⟩ := run_append_own (P := Tryd.prog) (W.alloc (.cells #[] 5)) W.heap.size 23 23 5 i0 (.int .u8 0) 1 1 Tryd.underlying23 hi hz0 hz1 hz2 rfl (by decide) _ 0 [] hown ad m c (u8s pk) (by rw [u8s_len, hm, Nat.mul_one]) (fun j u hu => by
    have hp : 0 < pk.length := by
      rcases Nat.eq_zero_or_pos pk.length with h0 | h0
      · rw [List.eq_nil_of_length_eq_zero h0] at hu; simp [u8s] at hu
      · exact h0
    obtain ⟨b, off, e, hb, hc⟩ := hr hp
    cases e
    obtain ⟨x, hx, rfl⟩ : ∃ x, pk[j]? = some x ∧ u = .int .u8 x := by
      unfold u8s at hu
      rw [List.getElem?_map] at hu
      cases hx : pk[j]? with
      | none => rw [hx] at hu; cases hu
      | some x => rw [hx] at hu; exact ⟨x, rfl, by simpa using hu.symm⟩
    have q := hc j x hx
    have hadd : (⟨b, off, none⟩ : Addr).add j = ⟨b, off + j, none⟩ := by unfold Addr.add; split <;> simp_all
    rw [hadd]
    exact (World.cell?_of_block (w := W) (a := ⟨b, off + j, none⟩) (heap_alloc_old' W _ hb)).trans q) u8s_mem (by unfold maxLen; omega) (by omega) (by simp)
  exact ⟨v', w', h1, by simpa using h2, ((Below.refl _ W).alloc (Nat.le_refl _) _).grown h3 (by simp) (fun k e => by cases e; exact Nat.le_refl _)⟩
/-- How an envelope is opened whose key is there: if the fingerprint is the one. -/
def OpnE (K l r f : Nat) (FQ FP pk : List Nat) (w : World) (e : Ending) (w' : World) : Prop := ((FQ = FP ∧ ∃ v', e = .returned (.tuple #[.agg #[.int .i64 K, .int .i64 l, .int .i64 r, .int .i64 f], v', .int .i64 0]) ∧ Hid (w'.ownsRow w.heap.size 5 1 v' pk.length (u8s pk))) ∨ (FQ ≠ FP ∧ e = .returned (.tuple #[.agg #[.int .i64 0, .int .i64 0, .int .i64 0, .int .i64 0], .slice none 0 0, .int .i64 7]))) ∧ Below w.heap.size w w'
end Go.Proofs.YtmmocnokgcgmnaaDoor

namespace Go.Proofs.YtmmocnokgcgmnaaDoor
set_option linter.unusedSimpArgs false
set_option linter.unusedVariables false
open Go.RowKit
set_option maxHeartbeats 3200000 in
set_option maxRecDepth 100000 in
theorem opn_bad (kv : Value) (K : Nat) (sA : Option Addr) (sc : Nat) (sec : List Nat) (hsb : ∀ x ∈ sec, x < 256) (hsc : sec.length ≤ sc) (hsl : sec.length ≤ 1000000) (g o c : Nat) (l r f : Nat) (ho : okO K l r f) (pk : List Nat) (hpb : ∀ x ∈ pk, x < 256) (hpl : pk.length ≤ 4096) (FQ : List Nat) (hQl : FQ.length = 16) (hQb : ∀ x ∈ FQ, x < 256) (hQn : FQ ≠ printL K sec (headL K l r f) pk) (w : World) (hc : 27 + pk.length ≤ c) (hcm : c ≤ 9223372036854775807) (hr : RdN w.heap.size w (some ⟨g, o, none⟩) (headL K l r f ++ (FQ ++ pk))) (hrs : RdN w.heap.size w sA sec) (hT : Tabs w)
    (hfind : ∀ W, Below w.heap.size w W → Calls Tryd.prog 11 #[kv, .int .i64 K] W fun e w' => e = .returned (.tuple #[.agg #[.int .i64 K, .slice sA sec.length sc], .bool true]) ∧ Below W.heap.size W w') :
    Calls Tryd.prog 5 #[kv, .slice (some ⟨g, o, none⟩) (27 + pk.length) c] w fun e w' => e = .returned (.tuple #[.agg #[.int .i64 0, .int .i64 0, .int .i64 0, .int .i64 0], .slice none 0 0, .int .i64 7]) ∧ Below w.heap.size w w' := by
  have ho2 := ho
  unfold okO okIn at ho2
  have hO := okO_any K l r f
  have hwd := head_words K l r f (by omega) (by omega) (by omega) (by omega)
  have hHl := headL_len K l r f
  have hHb := headL_lt K l r f
  have hp0 : (headL K l r f ++ (FQ ++ pk))[0]? = some 161 := by unfold headL; rfl
  have hp1 : (headL K l r f ++ (FQ ++ pk))[1]? = some 247 := by unfold headL; rfl
  have ht1 : ((headL K l r f ++ (FQ ++ pk)).drop 0).take 11 = headL K l r f := by rw [List.drop_zero]; exact List.take_left' hHl
  have ht2 : ((headL K l r f ++ (FQ ++ pk)).drop 11).take 16 = FQ := by rw [List.drop_left' hHl]; exact List.take_left' hQl
  have ht3 : (headL K l r f ++ (FQ ++ pk)).drop 27 = pk := by
    rw [← List.append_assoc]
    exact List.drop_left' (by rw [List.length_append, hHl, hQl])
  obtain ⟨HD, hHD⟩ : ∃ HD, headL K l r f = HD := ⟨_, rfl⟩
  have hF := fun pA pc W (hm : c ≤ 9223372036854775807) hs hh hp ht => fprint_any K sA sc sec hsb hsc hsl g o c HD (by rw [← hHD]; exact hHb) (by rw [← hHD]; exact hHl) (by omega) hm pA pc pk hpb (by omega) W hs hh hp ht
  obtain ⟨FP, hFP⟩ : ∃ FP, printL K sec HD pk = FP := ⟨_, rfl⟩
  have hFl : FP.length = 16 := by rw [← hFP]; exact printL_len _ _ _ _
  rw [hHD] at ht1 hQn hwd hHl hHb
  rw [hFP] at hF
  rw [hFP] at hQn
  have hFb : ∀ x ∈ FP, x < 256 := by
    rw [← hFP]
    unfold printL
    split
    · intro x hx; rw [(List.mem_replicate.1 hx).2]; decide
    · exact fun x hx => outV_lt _ x (List.mem_of_mem_take hx)
  obtain ⟨WL, hWL⟩ : ∃ WL, HD ++ (FQ ++ pk) = WL := ⟨_, rfl⟩
  rw [hHD] at hr hp0 hp1 ht2 ht3
  rw [hWL] at hr hp0 hp1 ht1 ht2 ht3
  obtain ⟨hw0, hw1, hw2, hw3⟩ := hwd
  have hU := fun W h => outerOf_any (some ⟨g, o, none⟩) c HD hHb hHl (by omega) W h
  rw [hw0, hw1, hw2, hw3] at hU
  have hne : ((strB FQ).toList == (strB FP).toList) = false := by
    rw [beq_eq_false_iff_ne]
    exact fun e => hQn (strB_inj2 hQb hFb e)
  have hE := fun (W : World) a1 c1 a2 c2 (h1 : RdN W.heap.size W a1 FQ) (h2 : RdN W.heap.size W a2 FP) => (equal_any a1 c1 FQ 16 hQl a2 c2 FP 16 hFl W h1 h2).mono fun e w' (h : e = .returned (.bool ((strB FQ).toList == (strB FP).toList)) ∧ w' = W) => (show e = .returned (.bool false) ∧ w' = W from ⟨by rw [h.1, hne], h.2⟩)
  -- memory
  obtain ⟨Y, hY⟩ : ∃ Y, w.alloc (.cells #[.int .i64 0, .int .i64 0, .int .i64 0, .int .i64 0] 28) = Y := ⟨_, rfl⟩
  have hBY : Below w.heap.size w Y := by rw [← hY]; exact (Below.refl w.heap.size w).alloc (Nat.le_refl _) _
  have hYs : Y.heap.size = w.heap.size + 1 := by rw [← hY]; simp
  have haz : Arr Y w.heap.size 28 [.int .i64 0, .int .i64 0, .int .i64 0, .int .i64 0] := by rw [← hY]; exact Arr.new w 28 [.int .i64 0, .int .i64 0, .int .i64 0, .int .i64 0]
  have HAZ : Hid (∀ W, Below Y.heap.size Y W → Arr W w.heap.size 28 [.int .i64 0, .int .i64 0, .int .i64 0, .int .i64 0]) := fun W h => haz.below h (by omega)
  have HWL : Hid (∀ W, Below Y.heap.size Y W → RdN W.heap.size W (some ⟨g, o, none⟩) WL) := fun W h => ((hr.below hBY (Nat.le_refl _)).below h (by omega)).mono (by have := h.size; omega)
  have HTY := Lib.hid (hT.below hBY hT.pos)
  have HRS : Hid (∀ W, Below Y.heap.size Y W → RdN W.heap.size W sA sec) := fun W h => ((hrs.below hBY (Nat.le_refl _)).below h (by omega)).mono (by have := h.size; omega)
  have HPO : Hid (1 < Y.heap.size) := by have := hT.pos; unfold Hid; omega
  have HBY := Lib.hid hBY
  have HLE : Hid (w.heap.size ≤ Y.heap.size) := by unfold Hid; omega
  have HLT : Hid (w.heap.size < Y.heap.size) := by unfold Hid; omega
  have B0 := Lib.hid (Below.refl Y.heap.size Y)
  have d0 := (HWL.out _ B0.out).atZ hp0
  have d1 := (HWL.out _ B0.out).atO hp1
  obtain ⟨pA, hpA⟩ : ∃ pA, (if c = 27 then some (⟨g, o, none⟩ : Addr) else some ⟨g, o + 27, none⟩) = pA := ⟨_, rfl⟩
  have HPK : Hid (∀ W, Below Y.heap.size Y W → RdN W.heap.size W pA pk) := fun W h => by
    rw [← hpA]
    split
    · have h0 : pk = [] := List.eq_nil_of_length_eq_zero (by omega)
      rw [h0]
      exact RdN.nil _ _ _
    · have := (HWL.out W h).part 27 pk.length
      rw [ht3, List.take_length] at this
      exact this
  have HHD : Hid (∀ W, Below Y.heap.size Y W → RdN W.heap.size W (some ⟨g, o, none⟩) HD) := fun W h => by
    have := (HWL.out W h).part 0 11
    rw [ht1] at this
    exact this
  have HFD : Hid (∀ W, Below Y.heap.size Y W → RdN W.heap.size W (some ⟨g, o + 11, none⟩) FQ) := fun W h => by
    have := (HWL.out W h).part 11 16
    rw [ht2] at this
    exact this
  have x1 : ¬ c < 11 := by omega
  have x2 : ¬ c < 27 := by omega
  have x3 : ¬ c = 11 := by omega
  have x4 : (11 : Int) ≤ (c : Int) := by omega
  have x5 : (27 : Int) ≤ (c : Int) := by omega
  have x6 : (27 : Int) + (pk.length : Int) ≤ (c : Int) := by omega
  have x7 : ¬ c < 27 + pk.length := by omega
  have HO1 := Lib.hid ho
  clear hHD hFP hWL hHl hHb hp0 hp1 ht1 ht2 ht3 hw0 hw1 hw2 hw3 hBY hYs haz hr ho ho2 hT hrs hne hQn hQb hFb hFl hQl
  go_enter Tryd.func5, Tryd.ntmps5
  go_wp2
  go_quiet (fail)
  go_wp2_with (first
    | (go_at_call 9; refine (hU _ (HHD.out _ (below_drewN B0.out _))).mono ?_; rintro e w1 ⟨rfl, hb1⟩; have B1 := Lib.hid ((below_drewN B0.out _).trans hb1); clear hb1)
    | (refine wpList_store_arr rfl 28 (.tmp 10) (.tmp 41) rfl w1.heap.size rfl (vs := [.int .i64 K, .int .i64 l, .int .i64 r, .int .i64 f]) rfl (show Arr _ w1.heap.size 28 [.int .i64 0, .int .i64 0, .int .i64 0, .int .i64 0] from Arr.new w1 28 [.int .i64 0, .int .i64 0, .int .i64 0, .int .i64 0]) sizeO rfl rfl (by simp [Value.oneCell']) ?_; intro W2 A2 B2 hsz2 O2; have BB2 := Lib.hid ((B1.out.alloc B1.out.size _).trans (B2.out.mono B1.out.size)); have LW1 := Lib.hid B1.out.size; clear B2 hsz2 O2)
    | (refine wpList_load_arr rfl 28 (.tmp 10) rfl w1.heap.size rfl A2.out Tryd.underlying28 rfl sizeO rfl ?_)
    | (go_at_call 10; refine (hO W2).mono ?_; rintro e w3 ⟨⟨x, rfl, hx⟩, hb3⟩; obtain rfl : x = true := hx.2 HO1.out; have A3 := Lib.hid (A2.out.below hb3 A2.out.lt); have co := A3.out.cell 0; simp only [List.getElem?_cons_zero] at co; have B3 := Lib.hid (BB2.out.trans (hb3.mono BB2.out.size)); clear hx hb3 A2)
    | (go_at_call 11; refine (hfind w3 (HBY.out.trans (B3.out.mono HLE.out))).mono ?_; rintro e w4 ⟨rfl, hb4⟩; have A4 := Lib.hid (A3.out.below hb4 A3.out.lt); have B4 := Lib.hid (B3.out.trans (hb4.mono B3.out.size)); clear hb4 A3 co)
    | (refine wpList_store_arr rfl 26 (.tmp 11) (.tmp 51) rfl w4.heap.size rfl (vs := [.int .i64 K, .slice sA sec.length sc]) rfl (show Arr _ w4.heap.size 26 [.int .i64 0, .slice none 0 0] from Arr.new w4 26 [.int .i64 0, .slice none 0 0]) sizeK rfl rfl (by simp [Value.oneCell']) ?_; intro W5 A5 B5 hsz5 O5; have A45 := Lib.hid (A4.out.below (((Below.refl w4.heap.size w4).alloc (Nat.le_refl _) _).trans B5.out) A4.out.lt); have BB5 := Lib.hid ((B4.out.alloc B4.out.size _).trans (B5.out.mono B4.out.size)); clear B5 hsz5 O5 A4)
    | (refine wpList_load_arr rfl 26 (.tmp 11) rfl w4.heap.size rfl A5.out Tryd.underlying26 rfl sizeK rfl ?_)
    | (go_at_call 13; refine (hF pA (c - 27) W5 hcm (HRS.out _ BB5.out) (HHD.out _ BB5.out) (HPK.out _ BB5.out) (HTY.out.below BB5.out HPO.out)).mono ?_; rintro e w6 ⟨⟨g6, c6, rfl, hc6, hr6⟩, hb6⟩; have HR6 := Lib.hid hr6; have A6 := Lib.hid (A45.out.below hb6 A45.out.lt); have B6 := Lib.hid (BB5.out.trans (hb6.mono BB5.out.size)); clear hr6 hb6 hc6 A45 A5)
    | (go_at_call 12; refine (hE w6 _ _ _ _ (HFD.out _ B6.out) HR6.out).mono ?_; rintro e w7 ⟨rfl, rfl⟩)
    | (refine wpList_store_arr rfl 28 (.tmp 4) (.tmp 63) rfl w.heap.size rfl (vs := [.int .i64 0, .int .i64 0, .int .i64 0, .int .i64 0]) rfl (HAZ.out _ B6.out) sizeO rfl rfl (by simp [Value.oneCell']) ?_; intro W8 A8 B8 hsz8 O8))
  refine bodyPost_ret (results_cell3 rfl rfl A8.out Tryd.underlying28 rfl sizeO) rfl ?_
  exact ⟨rfl, (HBY.out.trans (B6.out.mono HLE.out)).trans B8.out⟩
end Go.Proofs.YtmmocnokgcgmnaaDoor
