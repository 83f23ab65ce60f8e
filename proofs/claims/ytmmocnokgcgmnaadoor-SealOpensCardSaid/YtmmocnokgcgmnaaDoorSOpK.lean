/-
  AN ENVELOPE IS OPENED whose key is found: the program's Open.
-/
import Derived.Test.YtmmocnokgcgmnaaDoorSFind
namespace Go.Proofs.YtmmocnokgcgmnaaDoor
set_option linter.unusedSimpArgs false
set_option linter.unusedVariables false
open Go.RowKit
theorem RdN.atO {n₀ g o : Nat} {W : World} {l : List Nat} (h : RdN n₀ W (some ⟨g, o, none⟩) l) {j x : Nat} (hx : l[j]? = some x) : W.cell? ⟨g, o + j, none⟩ = some (.int .u8 x) := by
  obtain ⟨b, o', e, _, hc⟩ := h (by have := (List.getElem?_eq_some_iff.1 hx).1; omega)
  simp only [Option.some.injEq, Addr.mk.injEq] at e
  obtain ⟨rfl, rfl, _⟩ := e
  exact hc j x hx
theorem RdN.atZ {n₀ g o : Nat} {W : World} {l : List Nat} (h : RdN n₀ W (some ⟨g, o, none⟩) l) {x : Nat} (hx : l[0]? = some x) : W.cell? ⟨g, o, none⟩ = some (.int .u8 x) := h.atO hx
set_option maxHeartbeats 3200000 in
set_option maxRecDepth 100000 in
theorem opn_gen (kv : Value) (K : Nat) (sA : Option Addr) (sc : Nat) (sec : List Nat) (hsb : ∀ x ∈ sec, x < 256) (hsc : sec.length ≤ sc) (hsl : sec.length ≤ 1000000) (g o c : Nat) (l r f : Nat) (ho : okO K l r f) (pk : List Nat) (hpb : ∀ x ∈ pk, x < 256) (hpl : pk.length ≤ 4096) (w : World) (hc : 27 + pk.length ≤ c) (hcm : c ≤ 9223372036854775807) (hr : RdN w.heap.size w (some ⟨g, o, none⟩) (wrapL K l r f sec pk)) (hrs : RdN w.heap.size w sA sec) (hT : Tabs w)
    (hfind : ∀ W, Below w.heap.size w W → Calls Tryd.prog 11 #[kv, .int .i64 K] W fun e w' => e = .returned (.tuple #[.agg #[.int .i64 K, .slice sA sec.length sc], .bool true]) ∧ Below W.heap.size W w') :
    Calls Tryd.prog 5 #[kv, .slice (some ⟨g, o, none⟩) (27 + pk.length) c] w fun e w' => (∃ v', e = .returned (.tuple #[.agg #[.int .i64 K, .int .i64 l, .int .i64 r, .int .i64 f], v', .int .i64 0]) ∧ Hid (w'.ownsRow w.heap.size 5 1 v' pk.length (u8s pk))) ∧ Below w.heap.size w w' := by
  obtain ⟨i0, hi, hz0, hz1, hz2⟩ := info_parts Tryd.info5
  have ho2 := ho
  unfold okO okIn at ho2
  have hO := okO_any K l r f
  have hwd := head_words K l r f (by omega) (by omega) (by omega) (by omega)
  have hHl := headL_len K l r f
  have hHb := headL_lt K l r f
  have hWn := wrapL_len K l r f sec pk
  have hp0 : (wrapL K l r f sec pk)[0]? = some 161 := by unfold wrapL headL; rfl
  have hp1 : (wrapL K l r f sec pk)[1]? = some 247 := by unfold wrapL headL; rfl
  have ht1 : ((wrapL K l r f sec pk).drop 0).take 11 = headL K l r f := by rw [List.drop_zero]; unfold wrapL; exact List.take_left' hHl
  have ht2 : ((wrapL K l r f sec pk).drop 11).take 16 = printL K sec (headL K l r f) pk := by unfold wrapL; rw [List.drop_left' hHl]; exact List.take_left' (printL_len _ _ _ _)
  have ht3 : (wrapL K l r f sec pk).drop 27 = pk := by
    unfold wrapL
    rw [← List.append_assoc]
    exact List.drop_left' (by rw [List.length_append, headL_len, printL_len])
  obtain ⟨HD, hHD⟩ : ∃ HD, headL K l r f = HD := ⟨_, rfl⟩
  have hF := fun pA pc W (hm : c ≤ 9223372036854775807) hs hh hp ht => fprint_any K sA sc sec hsb hsc hsl g o c HD (by rw [← hHD]; exact hHb) (by rw [← hHD]; exact hHl) (by omega) hm pA pc pk hpb (by omega) W hs hh hp ht
  obtain ⟨FP, hFP⟩ : ∃ FP, printL K sec HD pk = FP := ⟨_, rfl⟩
  have hFl : FP.length = 16 := by rw [← hFP]; exact printL_len _ _ _ _
  rw [hHD] at ht1 ht2 hwd hHl hHb
  rw [hFP] at hF
  rw [hFP] at ht2
  obtain ⟨WL, hWL⟩ : ∃ WL, wrapL K l r f sec pk = WL := ⟨_, rfl⟩
  rw [hWL] at hr hWn hp0 hp1 ht1 ht2 ht3
  obtain ⟨hw0, hw1, hw2, hw3⟩ := hwd
  have hU := fun W h => outerOf_any (some ⟨g, o, none⟩) c HD hHb hHl (by omega) W h
  rw [hw0, hw1, hw2, hw3] at hU
  have hE := fun (W : World) a1 c1 a2 c2 (h1 : RdN W.heap.size W a1 FP) (h2 : RdN W.heap.size W a2 FP) => (equal_any a1 c1 FP 16 hFl a2 c2 FP 16 hFl W h1 h2).mono fun e w' (h : e = .returned (.bool ((strB FP).toList == (strB FP).toList)) ∧ w' = W) => (show e = .returned (.bool true) ∧ w' = W from ⟨by rw [h.1, beq_self_eq_true], h.2⟩)
  -- memory
  obtain ⟨Y, hY⟩ : ∃ Y, w.alloc (.cells #[.int .i64 0, .int .i64 0, .int .i64 0, .int .i64 0] 28) = Y := ⟨_, rfl⟩
  have hBY : Below w.heap.size w Y := by rw [← hY]; exact (Below.refl w.heap.size w).alloc (Nat.le_refl _) _
  have hYs : Y.heap.size = w.heap.size + 1 := by rw [← hY]; simp
  have haz : Arr Y w.heap.size 28 [.int .i64 0, .int .i64 0, .int .i64 0, .int .i64 0] := by rw [← hY]; exact Arr.new w 28 [.int .i64 0, .int .i64 0, .int .i64 0, .int .i64 0]
  have HAZ : Hid (∀ W, Below Y.heap.size Y W → Arr W w.heap.size 28 [.int .i64 0, .int .i64 0, .int .i64 0, .int .i64 0]) := fun W h => haz.below h (by omega)
  have HWL : Hid (∀ W, Below Y.heap.size Y W → RdN W.heap.size W (some ⟨g, o, none⟩) WL) := fun W h => ((hr.below hBY (Nat.le_refl _)).below h (by omega)).mono (by have := h.size; omega)
  have HTY := Lib.hid (hT.below hBY hT.pos)
  have HRS : Hid (∀ W, Below Y.heap.size Y W → RdN W.heap.size W sA sec) := fun W h => ((hrs.below hBY (Nat.le_refl _)).below h (by omega)).mono (by have := h.size; omega)
  have HPO : Hid (1 < Y.heap.size) := by have := hT.pos; unfold Hid; omega
  have HBY := Lib.hid hBY
  have HLE : Hid (w.heap.size ≤ Y.heap.size) := by unfold Hid; omega
  have HLT : Hid (w.heap.size < Y.heap.size) := by unfold Hid; omega
  have B0 := Lib.hid (Below.refl Y.heap.size Y)
  have d0 := (HWL.out _ B0.out).atZ hp0
  have d1 := (HWL.out _ B0.out).atO hp1
  obtain ⟨pA, hpA⟩ : ∃ pA, (if c = 27 then some (⟨g, o, none⟩ : Addr) else some ⟨g, o + 27, none⟩) = pA := ⟨_, rfl⟩
  have HPK : Hid (∀ W, Below Y.heap.size Y W → RdN W.heap.size W pA pk) := fun W h => by
    rw [← hpA]
    split
    · have h0 : pk = [] := List.eq_nil_of_length_eq_zero (by omega)
      rw [h0]
      exact RdN.nil _ _ _
    · have := (HWL.out W h).part 27 pk.length
      rw [ht3, List.take_length] at this
      exact this
  have HHD : Hid (∀ W, Below Y.heap.size Y W → RdN W.heap.size W (some ⟨g, o, none⟩) HD) := fun W h => by
    have := (HWL.out W h).part 0 11
    rw [ht1] at this
    exact this
  have HFD : Hid (∀ W, Below Y.heap.size Y W → RdN W.heap.size W (some ⟨g, o + 11, none⟩) FP) := fun W h => by
    have := (HWL.out W h).part 11 16
    rw [ht2] at this
    exact this
  have x1 : ¬ c < 11 := by omega
  have x2 : ¬ c < 27 := by omega
  have x3 : ¬ c = 11 := by omega
  have x4 : (11 : Int) ≤ (c : Int) := by omega
  have x5 : (27 : Int) ≤ (c : Int) := by omega
  have x6 : (27 : Int) + (pk.length : Int) ≤ (c : Int) := by omega
  have x7 : ¬ c < 27 + pk.length := by omega
  have HO1 := Lib.hid ho
  clear hHD hFP hWL hHl hHb hWn hp0 hp1 ht1 ht2 ht3 hw0 hw1 hw2 hw3 hBY hYs haz hr ho ho2 hT hrs
  go_enter Tryd.func5, Tryd.ntmps5
  go_wp2
  go_quiet (fail)
  go_wp2_with (first
    | (go_at_call 9; refine (hU _ (HHD.out _ (below_drewN B0.out _))).mono ?_; rintro e w1 ⟨rfl, hb1⟩; have B1 := Lib.hid ((below_drewN B0.out _).trans hb1); clear hb1)
    | (refine wpList_store_arr rfl 28 (.tmp 10) (.tmp 41) rfl w1.heap.size rfl (vs := [.int .i64 K, .int .i64 l, .int .i64 r, .int .i64 f]) rfl (show Arr _ w1.heap.size 28 [.int .i64 0, .int .i64 0, .int .i64 0, .int .i64 0] from Arr.new w1 28 [.int .i64 0, .int .i64 0, .int .i64 0, .int .i64 0]) sizeO rfl rfl (by simp [Value.oneCell']) ?_; intro W2 A2 B2 hsz2 O2; have BB2 := Lib.hid ((B1.out.alloc B1.out.size _).trans (B2.out.mono B1.out.size)); have LW1 := Lib.hid B1.out.size; clear B2 hsz2 O2)
    | (refine wpList_load_arr rfl 28 (.tmp 10) rfl w1.heap.size rfl A2.out Tryd.underlying28 rfl sizeO rfl ?_)
    | (go_at_call 10; refine (hO W2).mono ?_; rintro e w3 ⟨⟨x, rfl, hx⟩, hb3⟩; obtain rfl : x = true := hx.2 HO1.out; have A3 := Lib.hid (A2.out.below hb3 A2.out.lt); have co := A3.out.cell 0; simp only [List.getElem?_cons_zero] at co; have B3 := Lib.hid (BB2.out.trans (hb3.mono BB2.out.size)); clear hx hb3 A2)
    | (go_at_call 11; refine (hfind w3 (HBY.out.trans (B3.out.mono HLE.out))).mono ?_; rintro e w4 ⟨rfl, hb4⟩; have A4 := Lib.hid (A3.out.below hb4 A3.out.lt); have B4 := Lib.hid (B3.out.trans (hb4.mono B3.out.size)); clear hb4 A3 co)
    | (refine wpList_store_arr rfl 26 (.tmp 11) (.tmp 51) rfl w4.heap.size rfl (vs := [.int .i64 K, .slice sA sec.length sc]) rfl (show Arr _ w4.heap.size 26 [.int .i64 0, .slice none 0 0] from Arr.new w4 26 [.int .i64 0, .slice none 0 0]) sizeK rfl rfl (by simp [Value.oneCell']) ?_; intro W5 A5 B5 hsz5 O5; have A45 := Lib.hid (A4.out.below (((Below.refl w4.heap.size w4).alloc (Nat.le_refl _) _).trans B5.out) A4.out.lt); have BB5 := Lib.hid ((B4.out.alloc B4.out.size _).trans (B5.out.mono B4.out.size)); clear B5 hsz5 O5 A4)
    | (refine wpList_load_arr rfl 26 (.tmp 11) rfl w4.heap.size rfl A5.out Tryd.underlying26 rfl sizeK rfl ?_)
    | (go_at_call 13; refine (hF pA (c - 27) W5 hcm (HRS.out _ BB5.out) (HHD.out _ BB5.out) (HPK.out _ BB5.out) (HTY.out.below BB5.out HPO.out)).mono ?_; rintro e w6 ⟨⟨g6, c6, rfl, hc6, hr6⟩, hb6⟩; have HR6 := Lib.hid hr6; have A6 := Lib.hid (A45.out.below hb6 A45.out.lt); have B6 := Lib.hid (BB5.out.trans (hb6.mono BB5.out.size)); clear hr6 hb6 hc6 A45 A5)
    | (go_at_call 12; refine (hE w6 _ _ _ _ (HFD.out _ B6.out) HR6.out).mono ?_; rintro e w7 ⟨rfl, rfl⟩))
  refine wp_region_any (by kernel_rfl) ?_
  change wpAny _ _ _ _ _ _ _ (World.drew _)
  refine wpAny_ready (rs := [0, 1]) (by kernel_rfl) (by simp) ?_
  refine AllReady.cons rfl (fun KC hKC => ?_) (AllReady.cons rfl (fun KC hKC => ?_) AllReady.nil)
  · refine step_of rfl (wp_load_mid 28 (.tmp 10) rfl w1.heap.size 0 rfl [.int .i64 K, .int .i64 l, .int .i64 r, .int .i64 f] _ (show Arr (World.drew w7) w1.heap.size 28 _ from A6.out).range Tryd.underlying28 rfl sizeO ?_)
    refine hKC _ _ ?_
    clear hKC KC
    refine wpAny_ready (rs := [1]) (by kernel_rfl) (by simp) ?_
    refine AllReady.cons rfl (fun KC hKC => ?_) AllReady.nil
    go_simp
    refine hKC _ _ ?_
    clear hKC KC
    refine wpAny_ready (rs := [2]) (by kernel_rfl) (by simp) ?_
    refine AllReady.cons rfl (fun KC hKC => ?_) AllReady.nil
    refine step_append_nil hi hz0 hz1 hz2 rfl _ _ rfl rfl rfl rfl (show RdN (World.heap (World.drew w7)).size (World.drew w7) pA pk from HPK.out _ B6.out.drew) (by omega) ?_
    intro v8 w8 HO8 HB8
    have B8 := Lib.hid (B6.out.drew.trans (HB8.out.mono B6.out.size))
    refine hKC _ _ ?_
    clear hKC KC
    refine wpAny_ready (rs := [3]) (by kernel_rfl) (by simp) ?_
    refine AllReady.cons rfl (fun KC hKC => ?_) AllReady.nil
    refine step_of rfl (wp_store_row 28 (.tmp 4) (.tmp 64) rfl w.heap.size #[.int .i64 K, .int .i64 l, .int .i64 r, .int .i64 f] rfl rfl 28 #[.int .i64 0, .int .i64 0, .int .i64 0, .int .i64 0] (HAZ.out _ B8.out) sizeO rfl (by simp [Value.oneCell']) ?_)
    refine hKC _ _ ?_
    clear hKC KC
    refine wpAny_ready (rs := [4]) (by kernel_rfl) (by simp) ?_
    refine AllReady.cons rfl (fun KC hKC => ?_) AllReady.nil
    go_simp
    refine hKC _ _ ?_
    clear hKC KC
    refine wpAny_ready (rs := [5]) (by kernel_rfl) (by simp) ?_
    refine AllReady.cons rfl (fun KC hKC => ?_) AllReady.nil
    go_simp
    refine hKC _ _ ?_
    clear hKC KC
    refine wpAny_done (by kernel_rfl) ?_ _
    go_wp2
    have A9 := Arr.row (HAZ.out _ B8.out) [.int .i64 K, .int .i64 l, .int .i64 r, .int .i64 f]
    refine bodyPost_ret (results_cell3 rfl rfl A9 Tryd.underlying28 rfl sizeO) rfl ?_
    exact ⟨⟨_, rfl, own_base (own_row_other HO8.out (Nat.lt_of_lt_of_le HLT.out B6.out.size)) (Nat.le_trans HLE.out B6.out.size)⟩, (HBY.out.trans (B8.out.mono HLE.out)).trans (below_setRow (Below.refl _ _) (Nat.le_refl _) _)⟩
  · go_simp
    refine hKC _ _ ?_
    clear hKC KC
    refine wpAny_ready (rs := [0, 2]) (by kernel_rfl) (by simp) ?_
    refine AllReady.cons rfl (fun KC hKC => ?_) (AllReady.cons rfl (fun KC hKC => ?_) AllReady.nil)
    · refine step_of rfl (wp_load_mid 28 (.tmp 10) rfl w1.heap.size 0 rfl [.int .i64 K, .int .i64 l, .int .i64 r, .int .i64 f] _ (show Arr (World.drew w7) w1.heap.size 28 _ from A6.out).range Tryd.underlying28 rfl sizeO ?_)
      refine hKC _ _ ?_
      clear hKC KC
      refine wpAny_ready (rs := [2]) (by kernel_rfl) (by simp) ?_
      refine AllReady.cons rfl (fun KC hKC => ?_) AllReady.nil
      refine step_append_nil hi hz0 hz1 hz2 rfl _ _ rfl rfl rfl rfl (show RdN (World.heap (World.drew w7)).size (World.drew w7) pA pk from HPK.out _ B6.out.drew) (by omega) ?_
      intro v8 w8 HO8 HB8
      have B8 := Lib.hid (B6.out.drew.trans (HB8.out.mono B6.out.size))
      refine hKC _ _ ?_
      clear hKC KC
      refine wpAny_ready (rs := [3]) (by kernel_rfl) (by simp) ?_
      refine AllReady.cons rfl (fun KC hKC => ?_) AllReady.nil
      refine step_of rfl (wp_store_row 28 (.tmp 4) (.tmp 64) rfl w.heap.size #[.int .i64 K, .int .i64 l, .int .i64 r, .int .i64 f] rfl rfl 28 #[.int .i64 0, .int .i64 0, .int .i64 0, .int .i64 0] (HAZ.out _ B8.out) sizeO rfl (by simp [Value.oneCell']) ?_)
      refine hKC _ _ ?_
      clear hKC KC
      refine wpAny_ready (rs := [4]) (by kernel_rfl) (by simp) ?_
      refine AllReady.cons rfl (fun KC hKC => ?_) AllReady.nil
      go_simp
      refine hKC _ _ ?_
      clear hKC KC
      refine wpAny_ready (rs := [5]) (by kernel_rfl) (by simp) ?_
      refine AllReady.cons rfl (fun KC hKC => ?_) AllReady.nil
      go_simp
      refine hKC _ _ ?_
      clear hKC KC
      refine wpAny_done (by kernel_rfl) ?_ _
      go_wp2
      have A9 := Arr.row (HAZ.out _ B8.out) [.int .i64 K, .int .i64 l, .int .i64 r, .int .i64 f]
      refine bodyPost_ret (results_cell3 rfl rfl A9 Tryd.underlying28 rfl sizeO) rfl ?_
      exact ⟨⟨_, rfl, own_base (own_row_other HO8.out (Nat.lt_of_lt_of_le HLT.out B6.out.size)) (Nat.le_trans HLE.out B6.out.size)⟩, (HBY.out.trans (B8.out.mono HLE.out)).trans (below_setRow (Below.refl _ _) (Nat.le_refl _) _)⟩
    · refine step_append_nil hi hz0 hz1 hz2 rfl _ _ rfl rfl rfl rfl (show RdN (World.heap (World.drew w7)).size (World.drew w7) pA pk from HPK.out _ B6.out.drew) (by omega) ?_
      intro v8 w8 HO8 HB8
      have B8 := Lib.hid (B6.out.drew.trans (HB8.out.mono B6.out.size))
      refine hKC _ _ ?_
      clear hKC KC
      refine wpAny_ready (rs := [0]) (by kernel_rfl) (by simp) ?_
      refine AllReady.cons rfl (fun KC hKC => ?_) AllReady.nil
      refine step_of rfl (wp_load_mid 28 (.tmp 10) rfl w1.heap.size 0 rfl [.int .i64 K, .int .i64 l, .int .i64 r, .int .i64 f] _ (show Arr w8 w1.heap.size 28 _ from (show Arr (World.drew w7) w1.heap.size _ _ from A6.out).below HB8.out A6.out.lt).range Tryd.underlying28 rfl sizeO ?_)
      refine hKC _ _ ?_
      clear hKC KC
      refine wpAny_ready (rs := [3]) (by kernel_rfl) (by simp) ?_
      refine AllReady.cons rfl (fun KC hKC => ?_) AllReady.nil
      refine step_of rfl (wp_store_row 28 (.tmp 4) (.tmp 64) rfl w.heap.size #[.int .i64 K, .int .i64 l, .int .i64 r, .int .i64 f] rfl rfl 28 #[.int .i64 0, .int .i64 0, .int .i64 0, .int .i64 0] (HAZ.out _ B8.out) sizeO rfl (by simp [Value.oneCell']) ?_)
      refine hKC _ _ ?_
      clear hKC KC
      refine wpAny_ready (rs := [4]) (by kernel_rfl) (by simp) ?_
      refine AllReady.cons rfl (fun KC hKC => ?_) AllReady.nil
      go_simp
      refine hKC _ _ ?_
      clear hKC KC
      refine wpAny_ready (rs := [5]) (by kernel_rfl) (by simp) ?_
      refine AllReady.cons rfl (fun KC hKC => ?_) AllReady.nil
      go_simp
      refine hKC _ _ ?_
      clear hKC KC
      refine wpAny_done (by kernel_rfl) ?_ _
      go_wp2
      have A9 := Arr.row (HAZ.out _ B8.out) [.int .i64 K, .int .i64 l, .int .i64 r, .int .i64 f]
      refine bodyPost_ret (results_cell3 rfl rfl A9 Tryd.underlying28 rfl sizeO) rfl ?_
      exact ⟨⟨_, rfl, own_base (own_row_other HO8.out (Nat.lt_of_lt_of_le HLT.out B6.out.size)) (Nat.le_trans HLE.out B6.out.size)⟩, (HBY.out.trans (B8.out.mono HLE.out)).trans (below_setRow (Below.refl _ _) (Nat.le_refl _) _)⟩
  end Go.Proofs.YtmmocnokgcgmnaaDoor
