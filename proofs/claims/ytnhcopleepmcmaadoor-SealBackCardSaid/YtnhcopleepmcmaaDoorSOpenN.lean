/-
  AN ENVELOPE IS NOT OPENED whose key is not there: the program's Open.
-/
import Derived.Test.YtnhcopleepmcmaaDoorSOpenK
namespace Go.Proofs.YtnhcopleepmcmaaDoor
open Go.RowKit
set_option maxHeartbeats 3200000 in
set_option maxRecDepth 100000 in
theorem open_none (kv : Value) (K : Nat) (sec : List Nat) (g c : Nat) (l r f : Nat) (ho : okO K l r f) (pk : List Nat) (hpl : pk.length ≤ 4096) (w : World) (hc : 27 + pk.length ≤ c) (hr : RdN w.heap.size w (some ⟨g, 0, none⟩) (wrapL K l r f sec pk))
    (hfind : ∀ W, Below w.heap.size w W → Calls Tryd.prog 49 #[kv, .int .i64 K] W fun e w' => e = .returned (.tuple #[.agg #[.int .i64 0, .slice none 0 0], .bool false]) ∧ Below W.heap.size W w') :
    Calls Tryd.prog 22 #[kv, .slice (some ⟨g, 0, none⟩) (27 + pk.length) c] w fun e w' => e = .returned (.tuple #[.agg #[.int .i64 0, .int .i64 0, .int .i64 0, .int .i64 0], .slice none 0 0, .int .i64 4]) ∧ Below w.heap.size w w' := by
  have ho2 := ho
  unfold okO okIn at ho2
  have hO := okO_any K l r f
  have hwd := head_words K l r f (by omega) (by omega) (by omega) (by omega)
  have hHl := headL_len K l r f
  have hHb := headL_lt K l r f
  have hWn := wrapL_len K l r f sec pk
  have hp0 : (wrapL K l r f sec pk)[0]? = some 161 := by unfold wrapL headL; rfl
  have hp1 : (wrapL K l r f sec pk)[1]? = some 247 := by unfold wrapL headL; rfl
  have ht1 : ((wrapL K l r f sec pk).drop 0).take 11 = headL K l r f := by rw [List.drop_zero]; unfold wrapL; exact List.take_left' hHl
  have ht2 : ((wrapL K l r f sec pk).drop 11).take 16 = printL K sec (headL K l r f) pk := by unfold wrapL; rw [List.drop_left' hHl]; exact List.take_left' (printL_len _ _ _ _)
  have ht3 : (wrapL K l r f sec pk).drop 27 = pk := by
    unfold wrapL
    rw [← List.append_assoc]
    exact List.drop_left' (by rw [List.length_append, headL_len, printL_len])
  obtain ⟨HD, hHD⟩ : ∃ HD, headL K l r f = HD := ⟨_, rfl⟩
  obtain ⟨FP, hFP⟩ : ∃ FP, printL K sec HD pk = FP := ⟨_, rfl⟩
  have hFl : FP.length = 16 := by rw [← hFP]; exact printL_len _ _ _ _
  rw [hHD] at ht1 ht2 hwd hHl hHb
  rw [hFP] at ht2
  obtain ⟨WL, hWL⟩ : ∃ WL, wrapL K l r f sec pk = WL := ⟨_, rfl⟩
  rw [hWL] at hr hWn hp0 hp1 ht1 ht2 ht3
  obtain ⟨hw0, hw1, hw2, hw3⟩ := hwd
  have hU := fun W h => outerOf_any (some ⟨g, 0, none⟩) c HD hHb hHl (by omega) W h
  rw [hw0, hw1, hw2, hw3] at hU
  -- memory
  obtain ⟨Y, hY⟩ : ∃ Y, w.alloc (.cells #[.int .i64 0, .int .i64 0, .int .i64 0, .int .i64 0] 32) = Y := ⟨_, rfl⟩
  have hBY : Below w.heap.size w Y := by rw [← hY]; exact (Below.refl w.heap.size w).alloc (Nat.le_refl _) _
  have hYs : Y.heap.size = w.heap.size + 1 := by rw [← hY]; simp
  have haz : Arr Y w.heap.size 32 [.int .i64 0, .int .i64 0, .int .i64 0, .int .i64 0] := by rw [← hY]; exact Arr.new w 32 [.int .i64 0, .int .i64 0, .int .i64 0, .int .i64 0]
  have HAZ : Hid (∀ W, Below Y.heap.size Y W → Arr W w.heap.size 32 [.int .i64 0, .int .i64 0, .int .i64 0, .int .i64 0]) := fun W h => haz.below h (by omega)
  have HWL : Hid (∀ W, Below Y.heap.size Y W → RdN W.heap.size W (some ⟨g, 0, none⟩) WL) := fun W h => ((hr.below hBY (Nat.le_refl _)).below h (by omega)).mono (by have := h.size; omega)
  have HBY := Lib.hid hBY
  have HLE : Hid (w.heap.size ≤ Y.heap.size) := by unfold Hid; omega
  have HLT : Hid (w.heap.size < Y.heap.size) := by unfold Hid; omega
  have B0 := Lib.hid (Below.refl Y.heap.size Y)
  have d0 := (HWL.out _ B0.out).at0 hp0
  have d1 := (HWL.out _ B0.out).at0 hp1
  obtain ⟨pA, hpA⟩ : ∃ pA, (if c = 27 then some (⟨g, 0, none⟩ : Addr) else some ⟨g, 27, none⟩) = pA := ⟨_, rfl⟩
  have HPK : Hid (∀ W, Below Y.heap.size Y W → RdN W.heap.size W pA pk) := fun W h => by
    rw [← hpA]
    split
    · have h0 : pk = [] := List.eq_nil_of_length_eq_zero (by omega)
      rw [h0]
      exact RdN.nil _ _ _
    · have := (HWL.out W h).part 27 pk.length
      rw [ht3, List.take_length, Nat.zero_add] at this
      exact this
  have HHD : Hid (∀ W, Below Y.heap.size Y W → RdN W.heap.size W (some ⟨g, 0, none⟩) HD) := fun W h => by
    have := (HWL.out W h).part 0 11
    rw [ht1] at this
    exact this
  have HFD : Hid (∀ W, Below Y.heap.size Y W → RdN W.heap.size W (some ⟨g, 11, none⟩) FP) := fun W h => by
    have := (HWL.out W h).part 11 16
    rw [ht2, Nat.zero_add] at this
    exact this
  have x1 : ¬ c < 11 := by omega
  have x2 : ¬ c < 27 := by omega
  have x3 : ¬ c = 11 := by omega
  have x4 : (11 : Int) ≤ (c : Int) := by omega
  have x5 : (27 : Int) ≤ (c : Int) := by omega
  have x6 : (27 : Int) + (pk.length : Int) ≤ (c : Int) := by omega
  have x7 : ¬ c < 27 + pk.length := by omega
  have HO1 := Lib.hid ho
  clear hHD hFP hWL hHl hHb hWn hp0 hp1 ht1 ht2 ht3 hw0 hw1 hw2 hw3 hBY hYs haz hr ho ho2
  go_enter Tryd.func22, Tryd.ntmps22
  go_wp2
  go_quiet (fail)
  go_wp2_with (first
    | (go_at_call 48; refine (hU _ (HHD.out _ (below_drewN B0.out _))).mono ?_; rintro e w1 ⟨rfl, hb1⟩; have B1 := Lib.hid ((below_drewN B0.out _).trans hb1); clear hb1)
    | (refine wpList_store_arr rfl 32 (.tmp 10) (.tmp 41) rfl w1.heap.size rfl (vs := [.int .i64 K, .int .i64 l, .int .i64 r, .int .i64 f]) rfl (show Arr _ w1.heap.size 32 [.int .i64 0, .int .i64 0, .int .i64 0, .int .i64 0] from Arr.new w1 32 [.int .i64 0, .int .i64 0, .int .i64 0, .int .i64 0]) sizeO rfl rfl (by simp [Value.oneCell']) ?_; intro W2 A2 B2 hsz2 O2; have BB2 := Lib.hid ((B1.out.alloc B1.out.size _).trans (B2.out.mono B1.out.size)); have LW1 := Lib.hid B1.out.size; clear B2 hsz2 O2)
    | (refine wpList_load_arr rfl 32 (.tmp 10) rfl w1.heap.size rfl A2.out Tryd.underlying32 rfl sizeO rfl ?_)
    | (go_at_call 39; refine (hO W2).mono ?_; rintro e w3 ⟨⟨x, rfl, hx⟩, hb3⟩; obtain rfl : x = true := hx.2 HO1.out; have A3 := Lib.hid (A2.out.below hb3 A2.out.lt); have co := A3.out.cell 0; simp only [List.getElem?_cons_zero] at co; have B3 := Lib.hid (BB2.out.trans (hb3.mono BB2.out.size)); clear hx hb3 A2)
    | (go_at_call 49; refine (hfind w3 (HBY.out.trans (B3.out.mono HLE.out))).mono ?_; rintro e w4 ⟨rfl, hb4⟩; have A4 := Lib.hid (A3.out.below hb4 A3.out.lt); have B4 := Lib.hid (B3.out.trans (hb4.mono B3.out.size)); clear hb4 A3 co)
    | (refine wpList_store_arr rfl 30 (.tmp 11) (.tmp 51) rfl w4.heap.size rfl (vs := [.int .i64 0, .slice none 0 0]) rfl (show Arr _ w4.heap.size 30 [.int .i64 0, .slice none 0 0] from Arr.new w4 30 [.int .i64 0, .slice none 0 0]) sizeK rfl rfl (by simp [Value.oneCell']) ?_; intro W5 A5 B5 hsz5 O5; have BB5 := Lib.hid ((B4.out.alloc B4.out.size _).trans (B5.out.mono B4.out.size)); clear B5 hsz5 O5 A4 A5)
    | (refine wpList_store_arr rfl 32 (.tmp 4) (.tmp 55) rfl w.heap.size rfl (vs := [.int .i64 0, .int .i64 0, .int .i64 0, .int .i64 0]) rfl (HAZ.out _ BB5.out) sizeO rfl rfl (by simp [Value.oneCell']) ?_; intro W6 A6 B6 hsz6 O6))
  refine bodyPost_ret (results_cell3 rfl rfl A6.out Tryd.underlying32 rfl sizeO) rfl ?_
  exact ⟨rfl, (HBY.out.trans (BB5.out.mono HLE.out)).trans B6.out⟩
end Go.Proofs.YtnhcopleepmcmaaDoor
