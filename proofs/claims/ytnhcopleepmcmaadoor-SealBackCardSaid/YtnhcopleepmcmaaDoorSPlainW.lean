/-
  SealPlain: the walk of the law.
-/
import Derived.Test.YtnhcopleepmcmaaDoorSOpen0
namespace Go.Proofs.YtnhcopleepmcmaaDoor
open Go.RowKit
theorem cutG {A G : Prop} (h : G → A) (g : G) : A := h g
/-- A key in a row of keys. -/
structure KeyD where
  id : Int
  a : Option Addr
  n : Nat
  c : Nat
/-- A row of keys, read. -/
def RdK (n₀ : Nat) (W : World) (kA : Option Addr) (ks : List KeyD) : Prop := ∀ (j : Nat) (kd : KeyD), ks[j]? = some kd → kd.n ≤ 9223372036854775807 ∧ ∃ B off, kA = some ⟨B, off, none⟩ ∧ B < n₀ ∧ W.cell? ⟨B, off + j * 2, none⟩ = some (.int .i64 kd.id) ∧ W.cell? ⟨B, off + j * 2 + 1, none⟩ = some (.slice kd.a kd.n kd.c)
set_option maxHeartbeats 3200000 in
set_option maxRecDepth 100000 in
theorem plain_walk (k l r f : Int) (pA : Option Addr) (pc : Nat) (b : List Nat) (kA : Option Addr) (kc : Nat) (ks : List KeyD) (w : World) (hb : InB w pA b.length pc b) (hkl : ks.length ≤ 9223372036854775807) (hk : RdK w.heap.size w kA ks) (hT : Tabs w) :
    Calls Tryd.prog 12 #[.agg #[.int .i64 k, .int .i64 l, .int .i64 r, .int .i64 f], .slice pA b.length pc, .slice kA ks.length kc] w fun e w' => e = .returned (.bool true) ∧ Below w.heap.size w w' := by
  obtain ⟨_, hpc, hpm, hpb, hpr⟩ := hb
  have hbl : b.length ≤ 9223372036854775807 := by unfold maxLen at hpm; omega
  obtain ⟨Y, hY⟩ : ∃ Y, w.alloc (.cells #[.int .i64 k, .int .i64 l, .int .i64 r, .int .i64 f] 32) = Y := ⟨_, rfl⟩
  have hBY : Below w.heap.size w Y := by rw [← hY]; exact (Below.refl w.heap.size w).alloc (Nat.le_refl _) _
  have hYs : Y.heap.size = w.heap.size + 1 := by rw [← hY]; simp
  have hao : Arr Y w.heap.size 32 [.int .i64 k, .int .i64 l, .int .i64 r, .int .i64 f] := by rw [← hY]; exact Arr.new w 32 [.int .i64 k, .int .i64 l, .int .i64 r, .int .i64 f]
  have HAO : Hid (∀ W, Below Y.heap.size Y W → Arr W w.heap.size 32 [.int .i64 k, .int .i64 l, .int .i64 r, .int .i64 f]) := fun W h => hao.below h (by omega)
  have hTY := hT.below hBY hT.pos
  have HPO : Hid (1 < w.heap.size) := hT.pos
  have HTW := Lib.hid hT
  have HPR := Lib.hid hpr
  have HKR := Lib.hid hk
  have HBY := Lib.hid hBY
  have HLE : Hid (w.heap.size ≤ Y.heap.size) := by unfold Hid; omega
  have HLT : Hid (w.heap.size < Y.heap.size) := by unfold Hid; omega
  have haw := awake5_any Y hTY
  clear hBY hYs hao hpr hTY hT hk
  by_cases c1 : 4096 < b.length
  · go_enter Tryd.func12, Tryd.ntmps12
    go_wp2_with (go_at_call 19; refine haw.mono ?_; rintro e w1 ⟨rfl, hb1⟩; have B1 := Lib.hid hb1; clear hb1)
    go_ret
    exact ⟨rfl, HBY.out.trans (B1.out.mono HLE.out)⟩
  by_cases c2 : 20 < ks.length
  · go_enter Tryd.func12, Tryd.ntmps12
    go_wp2_with (go_at_call 19; refine haw.mono ?_; rintro e w1 ⟨rfl, hb1⟩; have B1 := Lib.hid hb1; clear hb1)
    go_ret
    exact ⟨rfl, HBY.out.trans (B1.out.mono HLE.out)⟩
  go_enter Tryd.func12, Tryd.ntmps12
  go_wp2_with (go_at_call 19; refine haw.mono ?_; rintro e w1 ⟨rfl, hb1⟩; have B1 := Lib.hid hb1; clear hb1)
  obtain ⟨m, hm⟩ : ∃ m, ks.length = m := ⟨_, rfl⟩
  have HM := Lib.hid hm
  rw [hm] at c2 hkl ⊢
  clear hm
  go_loopw [8] (fun iv wr => ∃ i : Nat, i ≤ m ∧ iv = .int .i64 i ∧ wr = w1) (fun iv _ => m - (intOf iv).toNat)
  case atStart => exact ⟨0, by omega, rfl, rfl⟩
  case round =>
    obtain ⟨i, him, rfl, rfl⟩ := hrel
    by_cases hlt : i < m
    · obtain ⟨kd, hkd⟩ : ∃ kd, ks[i]? = some kd := ⟨_, List.getElem?_eq_getElem (by have := HM.out; omega)⟩
      obtain ⟨hn, B, off, rfl, hB, hc0, hc1⟩ := HKR.out i kd hkd
      have hc2 := ((HBY.out.trans (B1.out.mono HLE.out)).cell (p := ⟨B, off + i * 2 + 1, none⟩) hB).trans hc1
      clear hc0 hc1 hkd
      by_cases hbig : 200 < kd.n
      · go_wp2
        go_ret
        exact ⟨rfl, HBY.out.trans (B1.out.mono HLE.out)⟩
      · go_wp2
        go_roundw
        case rel => exact ⟨i + 1, by omega, by go_num, by first | rfl | trivial⟩
        case measure => simp [intOf]; omega
    · obtain rfl : i = m := by omega
      obtain ⟨W1, rfl⟩ : ∃ W1, W1 = wr := ⟨_, rfl⟩
      have AO1 := HAO.out _ B1.out
      have co1 := AO1.cell 0
      have fo1 := AO1.frozen 0
      simp only [List.getElem?_cons_zero] at co1
      have AV0 := AO1.set 0 (.int .i64 0)
      have BV0 : Below w.heap.size w (W1.setCell ⟨w.heap.size, 0, none⟩ (.int .i64 0)) := (HBY.out.trans (B1.out.mono HLE.out)).setCell (p := ⟨w.heap.size, 0, none⟩) (by simp) _
      have hsv : w.heap.size < (W1.setCell ⟨w.heap.size, 0, none⟩ (.int .i64 0)).heap.size := AV0.lt
      obtain ⟨V, hV⟩ : ∃ V, W1.setCell ⟨w.heap.size, 0, none⟩ (.int .i64 0) = V := ⟨_, rfl⟩
      rw [hV] at AV0 BV0 hsv
      have AV := Lib.hid (show Arr V w.heap.size 32 [.int .i64 0, .int .i64 l, .int .i64 r, .int .i64 f] from AV0)
      have BV := Lib.hid BV0
      have HSV := Lib.hid hsv
      have hmk : ∀ W, (Instr.makeSlice 22 (.int .i64 4097) (.int .i64 4097)).run Tryd.prog W = .ok (.slice (some ⟨W.heap.size, 0, none⟩) 4097 4097) (W.alloc (.cells (u8s (List.replicate 4097 0)).toArray 5)) := fun W => by
        obtain ⟨i0, hi, hz0, hz1, hz2⟩ := info_parts Tryd.info5
        exact run_make_u8 (P := Tryd.prog) Tryd.underlying22 hi hz0 hz1 hz2 (Nat.le_refl 4097) (by omega) W
      clear AO1 AV0 BV0 hsv
      by_cases hok : okO 0 l r f
      · obtain ⟨L, rfl⟩ : ∃ L : Nat, l = L := ⟨l.toNat, by unfold okO okIn at hok; omega⟩
        obtain ⟨R, rfl⟩ : ∃ R : Nat, r = R := ⟨r.toNat, by unfold okO okIn at hok; omega⟩
        obtain ⟨F, rfl⟩ : ∃ F : Nat, f = F := ⟨f.toNat, by unfold okO okIn at hok; omega⟩
        have hw1 := fun W h1 h2 h3 => wrap_ok 0 none 0 [] (by simp) (Nat.le_refl _) (by decide) 0 L R F hok (.inl rfl) pA pc b hpb (by omega) W h1 h2 h3
        have hbg := fun a W => wrap_big 0 none 0 0 (by decide) 0 L R F hok (.inl rfl) a 4097 4097 (by decide) (by decide) W
        have hWn := wrapL_len 0 L R F [] b
        have hop := fun ks g c W h1 h2 h3 h4 => open_plain ks g c L R F hok [] b hpb (by omega) W h1 h2 h3 h4
        have hzz : ∀ i : Nat, 11 ≤ i → i < 27 → (wrapL 0 L R F [] b)[i]? = some 0 := fun i h1 h2 => by
          unfold wrapL printL
          rw [if_pos (show ((0 : Nat) : Int) = 0 from rfl), List.getElem?_append_right (by rw [headL_len]; exact h1), headL_len, List.getElem?_append_left (by simp; omega), List.getElem?_replicate, if_pos (by omega)]
        obtain ⟨WL, hWL⟩ : ∃ WL, wrapL 0 L R F [] b = WL := ⟨_, rfl⟩
        rw [hWL] at hw1 hWn hop hzz
        rw [hWn] at hw1
        rw [show ((0 : Nat) : Int) = 0 from rfl] at hw1
        have HWN := Lib.hid hWn
        have HZZ := Lib.hid hzz
        clear hWL hWn hzz
        go_wp2_with (first
          | (refine wpList_load_arr rfl 32 (.tmp 3) rfl w.heap.size rfl AV.out Tryd.underlying32 rfl sizeO rfl ?_)
          | (go_at_call 20; refine (hw1 V (RdN.nil _ _ _) ((HPR.out.below BV.out (Nat.le_refl _)).mono BV.out.size) (HTW.out.below BV.out HPO.out)).mono ?_; rintro e w2 ⟨⟨v2, rfl, HO2⟩, hb2⟩; have A2 := Lib.hid (AV.out.below hb2 HSV.out); have B2 := Lib.hid (BV.out.trans (hb2.mono (Nat.le_of_lt HSV.out))); have ho2 : World.ownsRow w2 V.heap.size 5 1 v2 WL.length (u8s WL) := (by rw [HWN.out]; exact HO2.out); obtain ⟨g, c, rfl, hc, hcm, hvg, hr2⟩ := own_rd ho2 (by rw [HWN.out]; omega); rw [HWN.out] at hc ⊢; have HR2 := Lib.hid hr2; have HCM : Hid (c ≤ 9223372036854775807) := (by unfold Hid; unfold maxLen at hcm; omega); clear hb2 HO2 ho2 hr2 hcm))
        refine wp_region_any (by kernel_rfl) ?_
        change wpAny _ _ _ _ _ _ _ (World.drew _)
        apply cutG
        · intro hcut
          refine wpAny_ready (rs := [0, 1, 2]) (by kernel_rfl) (by simp) ?_
          refine AllReady.cons rfl (fun K hK => ?_) (AllReady.cons rfl (fun K hK => ?_) (AllReady.cons rfl (fun K hK => ?_) AllReady.nil))
          · go_simp
            refine hK _ _ ?_
            clear hK K
            refine wpAny_ready (rs := [1, 2]) (by kernel_rfl) (by simp) ?_
            refine AllReady.cons rfl (fun K hK => ?_) (AllReady.cons rfl (fun K hK => ?_) AllReady.nil)
            · refine step_of rfl (wp_load_mid 32 (.tmp 3) rfl w.heap.size 0 rfl [.int .i64 0, .int .i64 (L : Int), .int .i64 (R : Int), .int .i64 (F : Int)] _ ((show Arr (World.drew w2) w.heap.size 32 _ from A2.out)).range Tryd.underlying32 rfl sizeO ?_)
              refine hK _ _ ?_
              clear hK K
              refine wpAny_ready (rs := [2]) (by kernel_rfl) (by simp) ?_
              refine AllReady.cons rfl (fun K hK => ?_) AllReady.nil
              go_simp
              refine hK _ _ ?_
              clear hK K
              exact hcut
            · go_simp
              refine hK _ _ ?_
              clear hK K
              refine wpAny_ready (rs := [1]) (by kernel_rfl) (by simp) ?_
              refine AllReady.cons rfl (fun K hK => ?_) AllReady.nil
              refine step_of rfl (wp_load_mid 32 (.tmp 3) rfl w.heap.size 0 rfl [.int .i64 0, .int .i64 (L : Int), .int .i64 (R : Int), .int .i64 (F : Int)] _ (((show Arr (World.drew w2) w.heap.size 32 _ from A2.out).alloc _)).range Tryd.underlying32 rfl sizeO ?_)
              refine hK _ _ ?_
              clear hK K
              exact hcut
          · refine step_of rfl (wp_load_mid 32 (.tmp 3) rfl w.heap.size 0 rfl [.int .i64 0, .int .i64 (L : Int), .int .i64 (R : Int), .int .i64 (F : Int)] _ ((show Arr (World.drew w2) w.heap.size 32 _ from A2.out)).range Tryd.underlying32 rfl sizeO ?_)
            refine hK _ _ ?_
            clear hK K
            refine wpAny_ready (rs := [0, 2]) (by kernel_rfl) (by simp) ?_
            refine AllReady.cons rfl (fun K hK => ?_) (AllReady.cons rfl (fun K hK => ?_) AllReady.nil)
            · go_simp
              refine hK _ _ ?_
              clear hK K
              refine wpAny_ready (rs := [2]) (by kernel_rfl) (by simp) ?_
              refine AllReady.cons rfl (fun K hK => ?_) AllReady.nil
              go_simp
              refine hK _ _ ?_
              clear hK K
              exact hcut
            · go_simp
              refine hK _ _ ?_
              clear hK K
              refine wpAny_ready (rs := [0]) (by kernel_rfl) (by simp) ?_
              refine AllReady.cons rfl (fun K hK => ?_) AllReady.nil
              go_simp
              refine hK _ _ ?_
              clear hK K
              exact hcut
          · go_simp
            refine hK _ _ ?_
            clear hK K
            refine wpAny_ready (rs := [0, 1]) (by kernel_rfl) (by simp) ?_
            refine AllReady.cons rfl (fun K hK => ?_) (AllReady.cons rfl (fun K hK => ?_) AllReady.nil)
            · go_simp
              refine hK _ _ ?_
              clear hK K
              refine wpAny_ready (rs := [1]) (by kernel_rfl) (by simp) ?_
              refine AllReady.cons rfl (fun K hK => ?_) AllReady.nil
              refine step_of rfl (wp_load_mid 32 (.tmp 3) rfl w.heap.size 0 rfl [.int .i64 0, .int .i64 (L : Int), .int .i64 (R : Int), .int .i64 (F : Int)] _ (((show Arr (World.drew w2) w.heap.size 32 _ from A2.out).alloc _)).range Tryd.underlying32 rfl sizeO ?_)
              refine hK _ _ ?_
              clear hK K
              exact hcut
            · refine step_of rfl (wp_load_mid 32 (.tmp 3) rfl w.heap.size 0 rfl [.int .i64 0, .int .i64 (L : Int), .int .i64 (R : Int), .int .i64 (F : Int)] _ (((show Arr (World.drew w2) w.heap.size 32 _ from A2.out).alloc _)).range Tryd.underlying32 rfl sizeO ?_)
              refine hK _ _ ?_
              clear hK K
              refine wpAny_ready (rs := [0]) (by kernel_rfl) (by simp) ?_
              refine AllReady.cons rfl (fun K hK => ?_) AllReady.nil
              go_simp
              refine hK _ _ ?_
              clear hK K
              exact hcut
        refine wpAny_ready (rs := [3]) (by kernel_rfl) (by simp) ?_
        refine AllReady.cons rfl (fun K hK => ?_) AllReady.nil
        go_simp
        refine (hbg _ _).mono ?_
        rintro e w3 ⟨rfl, hb3⟩
        refine hK _ _ ?_
        clear hK K
        have B3 := Lib.hid ((B2.out.drew.alloc B2.out.size _).trans (hb3.mono (by have := B2.out.size; simp; omega)))
        have K3 := Lib.hid (((Below.refl w2.heap.size w2).drew.alloc (Nat.le_refl _) _).trans (hb3.mono (by simp)))
        clear hb3 hmk
        refine wpAny_ready (rs := [4]) (by kernel_rfl) (by simp) ?_
        refine AllReady.cons rfl (fun K hK => ?_) AllReady.nil
        go_simp
        refine hK _ _ ?_
        clear hK K
        apply cutG
        · intro hcut2
          refine wpAny_ready (rs := [5, 6]) (by kernel_rfl) (by simp) ?_
          refine AllReady.cons rfl (fun K hK => ?_) (AllReady.cons rfl (fun K hK => ?_) AllReady.nil)
          · go_simp
            refine hK _ _ ?_
            clear hK K
            refine wpAny_ready (rs := [6, 7]) (by kernel_rfl) (by simp) ?_
            refine AllReady.cons rfl (fun K hK => ?_) (AllReady.cons rfl (fun K hK => ?_) AllReady.nil)
            · go_simp
              refine hK _ _ ?_
              clear hK K
              refine wpAny_ready (rs := [7]) (by kernel_rfl) (by simp) ?_
              refine AllReady.cons rfl (fun K hK => ?_) AllReady.nil
              go_simp
              refine hK _ _ ?_
              clear hK K
              refine wpAny_ready (rs := [8]) (by kernel_rfl) (by simp) ?_
              refine AllReady.cons rfl (fun K hK => ?_) AllReady.nil
              go_simp
              refine hK _ _ ?_
              clear hK K
              exact hcut2
            · go_simp
              refine hK _ _ ?_
              clear hK K
              refine wpAny_ready (rs := [6]) (by kernel_rfl) (by simp) ?_
              refine AllReady.cons rfl (fun K hK => ?_) AllReady.nil
              go_simp
              refine hK _ _ ?_
              clear hK K
              refine wpAny_ready (rs := [8]) (by kernel_rfl) (by simp) ?_
              refine AllReady.cons rfl (fun K hK => ?_) AllReady.nil
              go_simp
              refine hK _ _ ?_
              clear hK K
              exact hcut2
          · go_simp
            refine hK _ _ ?_
            clear hK K
            refine wpAny_ready (rs := [5]) (by kernel_rfl) (by simp) ?_
            refine AllReady.cons rfl (fun K hK => ?_) AllReady.nil
            go_simp
            refine hK _ _ ?_
            clear hK K
            refine wpAny_ready (rs := [7]) (by kernel_rfl) (by simp) ?_
            refine AllReady.cons rfl (fun K hK => ?_) AllReady.nil
            go_simp
            refine hK _ _ ?_
            clear hK K
            refine wpAny_ready (rs := [8]) (by kernel_rfl) (by simp) ?_
            refine AllReady.cons rfl (fun K hK => ?_) AllReady.nil
            go_simp
            refine hK _ _ ?_
            clear hK K
            exact hcut2
        refine wpAny_done (by kernel_rfl) ?_ _
        have HRC : Hid (∀ W, Below w3.heap.size w3 W → RdN W.heap.size W (some ⟨g, 0, none⟩) WL) := fun W h => (((HR2.out.below K3.out (Nat.le_refl _)).mono K3.out.size).below h (Nat.le_refl _)).mono h.size
        have HTB : Hid (∀ W, Below w3.heap.size w3 W → Tabs W) := fun W h => (HTW.out.below B3.out HPO.out).below h (Nat.lt_of_lt_of_le HPO.out B3.out.size)
        have A3 := Lib.hid (A2.out.below K3.out A2.out.lt)
        have HPB : Hid (∀ W, Below w3.heap.size w3 W → RdN W.heap.size W pA b) := fun W h => ((HPR.out.below B3.out (Nat.le_refl _)).below h B3.out.size).mono (Nat.le_trans B3.out.size h.size)
        have R3 := Lib.hid (Below.refl w3.heap.size w3)
        have T1 : True := trivial
        clear A2 HR2 K3 AV BV HAO
        go_wp2_with (first
          | (go_at_call 22; have tt := T1; clear T1 tt; refine (hop _ g c w3 hc HCM.out (HRC.out _ R3.out) (HTB.out _ R3.out)).mono ?_; rintro e w4 ⟨⟨v4, rfl, HO4⟩, hb4⟩; obtain ⟨ad4, c4, rfl, hc4, hr4⟩ := own_rd0 HO4.out rfl; have B4 := Lib.hid hb4; have HR4 := Lib.hid hr4; clear hb4 HO4 hr4)
          | (refine wpList_store_arr rfl 32 (.tmp 13) (.tmp 75) rfl w4.heap.size rfl (vs := [.int .i64 0, .int .i64 L, .int .i64 R, .int .i64 F]) rfl (show Arr _ w4.heap.size 32 [.int .i64 0, .int .i64 0, .int .i64 0, .int .i64 0] from Arr.new w4 32 [.int .i64 0, .int .i64 0, .int .i64 0, .int .i64 0]) sizeO rfl rfl (by simp [Value.oneCell']) ?_; intro W5 A5 B5 hsz5 O5; have K5 := Lib.hid (((Below.refl w4.heap.size w4).alloc (Nat.le_refl _) _).trans B5.out); have R5 := Lib.hid (B4.out.trans (K5.out.mono B4.out.size)); have HR5 := Lib.hid ((HR4.out.below K5.out (Nat.le_refl _)).mono K5.out.size); clear B5 hsz5 O5 HR4)
          | (go_at_call 22; refine (hop _ g c W5 hc HCM.out (HRC.out _ R5.out) (HTB.out _ R5.out)).mono ?_; rintro e w6 ⟨⟨v6, rfl, HO6⟩, hb6⟩; obtain ⟨ad6, c6, rfl, hc6, hr6⟩ := own_rd0 HO6.out rfl; have R6 := Lib.hid (R5.out.trans (hb6.mono R5.out.size)); have A6 := Lib.hid (A5.out.below hb6 A5.out.lt); have HR46 := Lib.hid ((HR5.out.below hb6 (Nat.le_refl _)).mono hb6.size); have HR6 := Lib.hid hr6; clear hb6 HO6 hr6 A5 HR5)
          | (refine wpList_store_arr rfl 32 (.tmp 16) (.tmp 81) rfl w6.heap.size rfl (vs := [.int .i64 0, .int .i64 L, .int .i64 R, .int .i64 F]) rfl (show Arr _ w6.heap.size 32 [.int .i64 0, .int .i64 0, .int .i64 0, .int .i64 0] from Arr.new w6 32 [.int .i64 0, .int .i64 0, .int .i64 0, .int .i64 0]) sizeO rfl rfl (by simp [Value.oneCell']) ?_; intro W7 A7 B7 hsz7 O7; have K7 := Lib.hid (((Below.refl w6.heap.size w6).alloc (Nat.le_refl _) _).trans B7.out); have R7 := Lib.hid (R6.out.trans (K7.out.mono R6.out.size)); have HR47 := Lib.hid ((HR46.out.below K7.out (Nat.le_refl _)).mono K7.out.size); have HR67 := Lib.hid ((HR6.out.below K7.out (Nat.le_refl _)).mono K7.out.size); have A67 := Lib.hid (A6.out.below K7.out A6.out.lt); have A37 := Lib.hid (A3.out.below R7.out A3.out.lt); clear B7 hsz7 O7 HR6 HR46 A6 K7))
        go_loopw [19, 20] (fun nv iv wr => ∃ i : Nat, 11 ≤ i ∧ i ≤ 27 ∧ nv = .bool true ∧ iv = .int .i64 i ∧ wr = W7) (fun _ iv _ => 27 - (intOf iv).toNat)
        case atStart => exact ⟨11, by omega, by omega, rfl, rfl, rfl⟩
        case round =>
          obtain ⟨j, hj1, hj2, rfl, rfl, rfl⟩ := hrel
          by_cases hlt : j < 27
          · have hco := (HRC.out _ R7.out).at0 (HZZ.out j hj1 hlt)
            have hjx : j < 27 + b.length := by omega
            go_wp2
            go_roundw
            case rel => exact ⟨j + 1, by omega, by omega, rfl, by go_num, by first | rfl | trivial⟩
            case measure => simp [intOf]; omega
          · obtain rfl : j = 27 := by omega
            rw [show ((27 : Nat) : Int) = 27 from rfl]
            have v1 := conv_rdE HR47.out rfl c4
            have v2 := conv_rdE (HPB.out _ R7.out) rfl pc
            have v3 := conv_rdE HR67.out rfl c6
            obtain ⟨S, hS⟩ : ∃ S, strB b = S := ⟨_, rfl⟩
            rw [hS] at v1 v2 v3
            have p0 := A67.out.cell 0
            have p1 := A67.out.cell 1
            have p2 := A67.out.cell 2
            have p3 := A67.out.cell 3
            have q0 := A7.out.cell 0
            have q1 := A7.out.cell 1
            have q2 := A7.out.cell 2
            have q3 := A7.out.cell 3
            have t0 := A37.out.cell 0
            have t1 := A37.out.cell 1
            have t2 := A37.out.cell 2
            have t3 := A37.out.cell 3
            simp only [List.getElem?_cons_zero, List.getElem?_cons_succ] at p0 p1 p2 p3 q0 q1 q2 q3 t0 t1 t2 t3
            have BF := Lib.hid (B3.out.trans (R7.out.mono B3.out.size))
            clear hS
            go_wp2
            all_goals go_ret
            all_goals exact ⟨rfl, BF.out⟩
      · have hbad : ¬ (okO 0 l r f ∧ okW 0 0 0) := fun h => hok h.1
        have hw1 := fun v W => wrap_bad 0 none 0 0 (by decide) 0 l r f hbad v W
        go_wp2_with (first
          | (refine wpList_load_arr rfl 32 (.tmp 3) rfl w.heap.size rfl AV.out Tryd.underlying32 rfl sizeO rfl ?_)
          | (go_at_call 20; refine (hw1 _ V).mono ?_; rintro e w2 ⟨rfl, hb2⟩; have A2 := Lib.hid (AV.out.below hb2 HSV.out); have B2 := Lib.hid (BV.out.trans (hb2.mono (Nat.le_of_lt HSV.out))); clear hb2))
        refine wp_region_any (by kernel_rfl) ?_
        change wpAny _ _ _ _ _ _ _ (World.drew _)
        apply cutG
        · intro hcut
          refine wpAny_ready (rs := [0, 1, 2]) (by kernel_rfl) (by simp) ?_
          refine AllReady.cons rfl (fun K hK => ?_) (AllReady.cons rfl (fun K hK => ?_) (AllReady.cons rfl (fun K hK => ?_) AllReady.nil))
          · go_simp
            refine hK _ _ ?_
            clear hK K
            refine wpAny_ready (rs := [1, 2]) (by kernel_rfl) (by simp) ?_
            refine AllReady.cons rfl (fun K hK => ?_) (AllReady.cons rfl (fun K hK => ?_) AllReady.nil)
            · refine step_of rfl (wp_load_mid 32 (.tmp 3) rfl w.heap.size 0 rfl [.int .i64 0, .int .i64 l, .int .i64 r, .int .i64 f] _ ((show Arr (World.drew w2) w.heap.size 32 _ from A2.out)).range Tryd.underlying32 rfl sizeO ?_)
              refine hK _ _ ?_
              clear hK K
              refine wpAny_ready (rs := [2]) (by kernel_rfl) (by simp) ?_
              refine AllReady.cons rfl (fun K hK => ?_) AllReady.nil
              go_simp
              refine hK _ _ ?_
              clear hK K
              exact hcut
            · go_simp
              refine hK _ _ ?_
              clear hK K
              refine wpAny_ready (rs := [1]) (by kernel_rfl) (by simp) ?_
              refine AllReady.cons rfl (fun K hK => ?_) AllReady.nil
              refine step_of rfl (wp_load_mid 32 (.tmp 3) rfl w.heap.size 0 rfl [.int .i64 0, .int .i64 l, .int .i64 r, .int .i64 f] _ (((show Arr (World.drew w2) w.heap.size 32 _ from A2.out).alloc _)).range Tryd.underlying32 rfl sizeO ?_)
              refine hK _ _ ?_
              clear hK K
              exact hcut
          · refine step_of rfl (wp_load_mid 32 (.tmp 3) rfl w.heap.size 0 rfl [.int .i64 0, .int .i64 l, .int .i64 r, .int .i64 f] _ ((show Arr (World.drew w2) w.heap.size 32 _ from A2.out)).range Tryd.underlying32 rfl sizeO ?_)
            refine hK _ _ ?_
            clear hK K
            refine wpAny_ready (rs := [0, 2]) (by kernel_rfl) (by simp) ?_
            refine AllReady.cons rfl (fun K hK => ?_) (AllReady.cons rfl (fun K hK => ?_) AllReady.nil)
            · go_simp
              refine hK _ _ ?_
              clear hK K
              refine wpAny_ready (rs := [2]) (by kernel_rfl) (by simp) ?_
              refine AllReady.cons rfl (fun K hK => ?_) AllReady.nil
              go_simp
              refine hK _ _ ?_
              clear hK K
              exact hcut
            · go_simp
              refine hK _ _ ?_
              clear hK K
              refine wpAny_ready (rs := [0]) (by kernel_rfl) (by simp) ?_
              refine AllReady.cons rfl (fun K hK => ?_) AllReady.nil
              go_simp
              refine hK _ _ ?_
              clear hK K
              exact hcut
          · go_simp
            refine hK _ _ ?_
            clear hK K
            refine wpAny_ready (rs := [0, 1]) (by kernel_rfl) (by simp) ?_
            refine AllReady.cons rfl (fun K hK => ?_) (AllReady.cons rfl (fun K hK => ?_) AllReady.nil)
            · go_simp
              refine hK _ _ ?_
              clear hK K
              refine wpAny_ready (rs := [1]) (by kernel_rfl) (by simp) ?_
              refine AllReady.cons rfl (fun K hK => ?_) AllReady.nil
              refine step_of rfl (wp_load_mid 32 (.tmp 3) rfl w.heap.size 0 rfl [.int .i64 0, .int .i64 l, .int .i64 r, .int .i64 f] _ (((show Arr (World.drew w2) w.heap.size 32 _ from A2.out).alloc _)).range Tryd.underlying32 rfl sizeO ?_)
              refine hK _ _ ?_
              clear hK K
              exact hcut
            · refine step_of rfl (wp_load_mid 32 (.tmp 3) rfl w.heap.size 0 rfl [.int .i64 0, .int .i64 l, .int .i64 r, .int .i64 f] _ (((show Arr (World.drew w2) w.heap.size 32 _ from A2.out).alloc _)).range Tryd.underlying32 rfl sizeO ?_)
              refine hK _ _ ?_
              clear hK K
              refine wpAny_ready (rs := [0]) (by kernel_rfl) (by simp) ?_
              refine AllReady.cons rfl (fun K hK => ?_) AllReady.nil
              go_simp
              refine hK _ _ ?_
              clear hK K
              exact hcut
        refine wpAny_ready (rs := [3]) (by kernel_rfl) (by simp) ?_
        refine AllReady.cons rfl (fun K hK => ?_) AllReady.nil
        go_simp
        refine (hw1 _ _).mono ?_
        rintro e w3 ⟨rfl, hb3⟩
        refine hK _ _ ?_
        clear hK K
        have B3 := Lib.hid ((B2.out.drew.alloc B2.out.size _).trans (hb3.mono (by have := B2.out.size; simp; omega)))
        have K3 := Lib.hid (((Below.refl w2.heap.size w2).drew.alloc (Nat.le_refl _) _).trans (hb3.mono (by simp)))
        clear hb3 hmk
        refine wpAny_ready (rs := [4]) (by kernel_rfl) (by simp) ?_
        refine AllReady.cons rfl (fun K hK => ?_) AllReady.nil
        go_simp
        refine hK _ _ ?_
        clear hK K
        apply cutG
        · intro hcut2
          refine wpAny_ready (rs := [5, 6]) (by kernel_rfl) (by simp) ?_
          refine AllReady.cons rfl (fun K hK => ?_) (AllReady.cons rfl (fun K hK => ?_) AllReady.nil)
          · go_simp
            refine hK _ _ ?_
            clear hK K
            refine wpAny_ready (rs := [6, 7]) (by kernel_rfl) (by simp) ?_
            refine AllReady.cons rfl (fun K hK => ?_) (AllReady.cons rfl (fun K hK => ?_) AllReady.nil)
            · go_simp
              refine hK _ _ ?_
              clear hK K
              refine wpAny_ready (rs := [7]) (by kernel_rfl) (by simp) ?_
              refine AllReady.cons rfl (fun K hK => ?_) AllReady.nil
              go_simp
              refine hK _ _ ?_
              clear hK K
              refine wpAny_ready (rs := [8]) (by kernel_rfl) (by simp) ?_
              refine AllReady.cons rfl (fun K hK => ?_) AllReady.nil
              go_simp
              refine hK _ _ ?_
              clear hK K
              exact hcut2
            · go_simp
              refine hK _ _ ?_
              clear hK K
              refine wpAny_ready (rs := [6]) (by kernel_rfl) (by simp) ?_
              refine AllReady.cons rfl (fun K hK => ?_) AllReady.nil
              go_simp
              refine hK _ _ ?_
              clear hK K
              refine wpAny_ready (rs := [8]) (by kernel_rfl) (by simp) ?_
              refine AllReady.cons rfl (fun K hK => ?_) AllReady.nil
              go_simp
              refine hK _ _ ?_
              clear hK K
              exact hcut2
          · go_simp
            refine hK _ _ ?_
            clear hK K
            refine wpAny_ready (rs := [5]) (by kernel_rfl) (by simp) ?_
            refine AllReady.cons rfl (fun K hK => ?_) AllReady.nil
            go_simp
            refine hK _ _ ?_
            clear hK K
            refine wpAny_ready (rs := [7]) (by kernel_rfl) (by simp) ?_
            refine AllReady.cons rfl (fun K hK => ?_) AllReady.nil
            go_simp
            refine hK _ _ ?_
            clear hK K
            refine wpAny_ready (rs := [8]) (by kernel_rfl) (by simp) ?_
            refine AllReady.cons rfl (fun K hK => ?_) AllReady.nil
            go_simp
            refine hK _ _ ?_
            clear hK K
            exact hcut2
        refine wpAny_done (by kernel_rfl) ?_ _
        go_wp2
        go_ret
        exact ⟨rfl, B3.out⟩
end Go.Proofs.YtnhcopleepmcmaaDoor
