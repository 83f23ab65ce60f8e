/-
  AN ENVELOPE IS MADE: the program's Wrap.
-/
import Derived.Test.YtmmocnokgcgmnaaDoorSPrint
namespace Go.Proofs.YtmmocnokgcgmnaaDoor
open Go.RowKit
theorem sizeO : (Tryd.prog.info? 28).map (·.size) = some 4 := by kernel_rfl
theorem sizeK : (Tryd.prog.info? 26).map (·.size) = some 2 := by kernel_rfl
def wrapL (k l r f : Nat) (sec b : List Nat) : List Nat := headL k l r f ++ (printL k sec (headL k l r f) b ++ b)
theorem wrapL_len (k l r f : Nat) (sec b : List Nat) : (wrapL k l r f sec b).length = 27 + b.length := by
  unfold wrapL; rw [List.length_append, List.length_append, headL_len, printL_len]; omega
/-- What makes an envelope with this key: without one any; else it is right, and its own. -/
def okW (id : Int) (n : Nat) (k : Int) : Prop := k = 0 ∨ (okK id n ∧ id = k)
set_option maxHeartbeats 1600000 in
set_option maxRecDepth 100000 in
theorem wrap_bad (id : Int) (sA : Option Addr) (n sc : Nat) (hn : n ≤ 1000000) (k l r f : Int) (hbad : ¬ (okO k l r f ∧ okW id n k)) (b : Value) (w : World) :
    Calls Tryd.prog 7 #[.agg #[.int .i64 id, .slice sA n sc], .agg #[.int .i64 k, .int .i64 l, .int .i64 r, .int .i64 f], b] w fun e w' => e = .returned (.tuple #[.slice none 0 0, .int .i64 1]) ∧ Below w.heap.size w w' := by
  have hO := okO_any k l r f
  have hK := fun W => okK_any id sA n sc (by omega) W
  obtain ⟨Y, hY⟩ : ∃ Y, (w.alloc (.cells #[.int .i64 id, .slice sA n sc] 26)).alloc (.cells #[.int .i64 k, .int .i64 l, .int .i64 r, .int .i64 f] 28) = Y := ⟨_, rfl⟩
  have hBY : Below w.heap.size w Y := by rw [← hY]; exact ((Below.refl w.heap.size w).alloc (Nat.le_refl _) _).alloc (by simp) _
  have hYs : Y.heap.size = w.heap.size + 2 := by rw [← hY]; simp
  have hak : Arr Y w.heap.size 26 [.int .i64 id, .slice sA n sc] := by rw [← hY]; exact (Arr.new w 26 [.int .i64 id, .slice sA n sc]).alloc _
  have hao : Arr Y (w.heap.size + 1) 28 [.int .i64 k, .int .i64 l, .int .i64 r, .int .i64 f] := by rw [← hY]; exact Arr.new2 w (.cells #[.int .i64 id, .slice sA n sc] 26) 28 [.int .i64 k, .int .i64 l, .int .i64 r, .int .i64 f]
  have HAK : Hid (∀ W, Below Y.heap.size Y W → Arr W w.heap.size 26 [.int .i64 id, .slice sA n sc]) := fun W h => hak.below h (by omega)
  have HAO : Hid (∀ W, Below Y.heap.size Y W → Arr W (w.heap.size + 1) 28 [.int .i64 k, .int .i64 l, .int .i64 r, .int .i64 f]) := fun W h => hao.below h (by omega)
  have HBY := Lib.hid hBY
  have HLE : Hid (w.heap.size ≤ Y.heap.size) := by unfold Hid; omega
  have B0 := Lib.hid (Below.refl Y.heap.size Y)
  clear hBY hYs hak hao
  by_cases h1 : okO k l r f
  · have h2 : ¬ (k = 0 ∨ (okK id n ∧ id = k)) := fun h => hbad ⟨h1, h⟩
    have hk0 : ¬ k = 0 := fun h => h2 (.inl h)
    have H1 := Lib.hid h1
    have H2 := Lib.hid h2
    clear h1 h2 hbad
    by_cases h3 : id = k
    · have H3 : Hid (¬ okK id n) := fun h => H2.out (.inr ⟨h, h3⟩)
      have h3' : (id == k) = true := by simpa using h3
      subst h3
      go_enter Tryd.func7, Tryd.ntmps7
      go_wp2_with (first
        | (refine wpList_load_arr rfl 28 (.tmp 4) rfl (w.heap.size + 1) rfl (HAO.out _ B0.out) Tryd.underlying28 rfl sizeO rfl ?_)
        | (go_at_call 10; refine (hO Y).mono ?_; rintro e w1 ⟨⟨x, rfl, hx⟩, hb1⟩; obtain rfl : x = true := hx.2 H1.out; have B1 := Lib.hid (B0.out.trans hb1); have co1 := (HAO.out _ B1.out).cell 0; simp only [List.getElem?_cons_zero] at co1; clear hx hb1)
        | (refine wpList_load_arr rfl 26 (.tmp 3) rfl w.heap.size rfl (HAK.out _ B1.out) Tryd.underlying26 rfl sizeK rfl ?_)
        | (go_at_call 17; refine (hK w1).mono ?_; rintro e w2 ⟨⟨x, rfl, hx⟩, hb2⟩; obtain rfl : x = false := (by cases x; rfl; exact absurd (hx.1 rfl) H3.out); have B2 := Lib.hid (B1.out.trans (hb2.mono B1.out.size)); have co2 := (HAO.out _ B2.out).cell 0; have ck2 := (HAK.out _ B2.out).cell 0; simp only [List.getElem?_cons_zero] at co2 ck2; clear hx hb2 co1))
      go_ret2
      exact ⟨rfl, HBY.out.trans (B2.out.mono HLE.out)⟩
    · go_enter Tryd.func7, Tryd.ntmps7
      go_wp2_with (first
        | (refine wpList_load_arr rfl 28 (.tmp 4) rfl (w.heap.size + 1) rfl (HAO.out _ B0.out) Tryd.underlying28 rfl sizeO rfl ?_)
        | (go_at_call 10; refine (hO Y).mono ?_; rintro e w1 ⟨⟨x, rfl, hx⟩, hb1⟩; obtain rfl : x = true := hx.2 H1.out; have B1 := Lib.hid (B0.out.trans hb1); have co1 := (HAO.out _ B1.out).cell 0; simp only [List.getElem?_cons_zero] at co1; clear hx hb1)
        | (refine wpList_load_arr rfl 26 (.tmp 3) rfl w.heap.size rfl (HAK.out _ B1.out) Tryd.underlying26 rfl sizeK rfl ?_)
        | (go_at_call 17; refine (hK w1).mono ?_; rintro e w2 ⟨⟨x, rfl, hx⟩, hb2⟩;  have B2 := Lib.hid (B1.out.trans (hb2.mono B1.out.size)); have co2 := (HAO.out _ B2.out).cell 0; have ck2 := (HAK.out _ B2.out).cell 0; simp only [List.getElem?_cons_zero] at co2 ck2; clear hx hb2 co1))
      all_goals go_ret2
      all_goals exact ⟨rfl, HBY.out.trans (B2.out.mono HLE.out)⟩
  · have H1 := Lib.hid h1
    clear h1 hbad
    go_enter Tryd.func7, Tryd.ntmps7
    go_wp2_with (first
      | (refine wpList_load_arr rfl 28 (.tmp 4) rfl (w.heap.size + 1) rfl (HAO.out _ B0.out) Tryd.underlying28 rfl sizeO rfl ?_)
      | (go_at_call 10; refine (hO Y).mono ?_; rintro e w1 ⟨⟨x, rfl, hx⟩, hb1⟩; obtain rfl : x = false := (by cases x; rfl; exact absurd (hx.1 rfl) H1.out); have B1 := Lib.hid (B0.out.trans hb1); have co1 := (HAO.out _ B1.out).cell 0; simp only [List.getElem?_cons_zero] at co1; clear hx hb1))
    go_ret2
    exact ⟨rfl, HBY.out.trans (B1.out.mono HLE.out)⟩
/-- The envelope in three rows. -/
theorem wrap_concat (k l r f : Nat) (sec b : List Nat) (pA : Option Addr) (pc : Nat) (hlen : b.length ≤ 90000) (g3 c3 g4 c4 : Nat) (w4 : World) (h3 : RdN w4.heap.size w4 (some ⟨g3, 0, none⟩) (headL k l r f)) (h4 : RdN w4.heap.size w4 (some ⟨g4, 0, none⟩) (printL k sec (headL k l r f) b)) (h5 : RdN w4.heap.size w4 pA b) :
    Calls Tryd.prog 19 #[.slice (some ⟨w4.heap.size, 0, none⟩) 3 3] (w4.alloc (.cells #[.slice (some ⟨g3, 0, none⟩) 11 c3, .slice (some ⟨g4, 0, none⟩) 16 c4, .slice pA b.length pc] 23)) fun e w' => (∃ v', e = .returned v' ∧ Hid (w'.ownsRow w4.heap.size 5 1 v' (wrapL k l r f sec b).length (u8s (wrapL k l r f sec b)))) ∧ Below w4.heap.size w4 w' := by
  have hcat : catL [⟨some ⟨g3, 0, none⟩, c3, headL k l r f⟩, ⟨some ⟨g4, 0, none⟩, c4, printL k sec (headL k l r f) b⟩, ⟨pA, pc, b⟩] = wrapL k l r f sec b := by simp [catL, wrapL]
  obtain ⟨V, hV⟩ : ∃ V, w4.alloc (.cells #[.slice (some ⟨g3, 0, none⟩) 11 c3, .slice (some ⟨g4, 0, none⟩) 16 c4, .slice pA b.length pc] 23) = V := ⟨_, rfl⟩
  have hB : Below w4.heap.size w4 V := by rw [← hV]; exact (Below.refl _ w4).alloc (Nat.le_refl _) _
  have hA : Arr V w4.heap.size 23 [.slice (some ⟨g3, 0, none⟩) 11 c3, .slice (some ⟨g4, 0, none⟩) 16 c4, .slice pA b.length pc] := by rw [← hV]; exact Arr.new w4 _ _
  have h := concat_any [⟨some ⟨g3, 0, none⟩, c3, headL k l r f⟩, ⟨some ⟨g4, 0, none⟩, c4, printL k sec (headL k l r f) b⟩, ⟨pA, pc, b⟩] w4.heap.size V hA.lt (fun i p hp => by
    match i, hp with
    | 0, hp => cases hp; exact ⟨by rw [hA.cell, headL_len]; rfl, (h3.below hB (Nat.le_refl _)).mono hB.size⟩
    | 1, hp => cases hp; exact ⟨by rw [hA.cell, printL_len]; rfl, (h4.below hB (Nat.le_refl _)).mono hB.size⟩
    | 2, hp => cases hp; exact ⟨by rw [hA.cell]; rfl, (h5.below hB (Nat.le_refl _)).mono hB.size⟩) (by simp) (by rw [hcat, wrapL_len]; omega) (by rw [hcat, wrapL_len]; omega)
  rw [hcat] at h
  rw [hV]
  exact h.mono fun e w' ⟨⟨v', he, ho⟩, hb⟩ => ⟨⟨v', he, own_base ho hB.size⟩, hB.trans (hb.mono hB.size)⟩
set_option maxHeartbeats 3200000 in
set_option maxRecDepth 100000 in
theorem wrap_ok (id : Int) (sA : Option Addr) (sc : Nat) (sec : List Nat) (hsb : ∀ x ∈ sec, x < 256) (hsc : sec.length ≤ sc) (hsl : sec.length ≤ 1000000) (k l r f : Nat) (ho : okO k l r f) (hw : okW id sec.length k) (pA : Option Addr) (pc : Nat) (b : List Nat) (hpb : ∀ x ∈ b, x < 256) (hpl : b.length ≤ 4096) (w : World)
    (hrs : RdN w.heap.size w sA sec) (hrp : RdN w.heap.size w pA b) (hT : Tabs w) :
    Calls Tryd.prog 7 #[.agg #[.int .i64 id, .slice sA sec.length sc], .agg #[.int .i64 k, .int .i64 l, .int .i64 r, .int .i64 f], .slice pA b.length pc] w fun e w' => (∃ v', e = .returned (.tuple #[v', .int .i64 0]) ∧ Hid (w'.ownsRow w.heap.size 5 1 v' (wrapL k l r f sec b).length (u8s (wrapL k l r f sec b)))) ∧ Below w.heap.size w w' := by
  have hO := okO_any k l r f
  have hK := fun W => okK_any id sA sec.length sc (by omega) W
  have hH := fun W => headOf_any k l r f (by unfold okO okIn at ho; omega) (by unfold okO okIn at ho; omega) (by unfold okO okIn at ho; omega) W
  have hHDl := headL_len k l r f
  have hHDb := headL_lt k l r f
  have hC := wrap_concat k l r f sec b pA pc (by omega)
  obtain ⟨Y, hY⟩ : ∃ Y, (w.alloc (.cells #[.int .i64 id, .slice sA sec.length sc] 26)).alloc (.cells #[.int .i64 k, .int .i64 l, .int .i64 r, .int .i64 f] 28) = Y := ⟨_, rfl⟩
  have hBY : Below w.heap.size w Y := by rw [← hY]; exact ((Below.refl w.heap.size w).alloc (Nat.le_refl _) _).alloc (by simp) _
  have hYs : Y.heap.size = w.heap.size + 2 := by rw [← hY]; simp
  have hak : Arr Y w.heap.size 26 [.int .i64 id, .slice sA sec.length sc] := by rw [← hY]; exact (Arr.new w 26 [.int .i64 id, .slice sA sec.length sc]).alloc _
  have hao : Arr Y (w.heap.size + 1) 28 [.int .i64 k, .int .i64 l, .int .i64 r, .int .i64 f] := by rw [← hY]; exact Arr.new2 w (.cells #[.int .i64 id, .slice sA sec.length sc] 26) 28 [.int .i64 k, .int .i64 l, .int .i64 r, .int .i64 f]
  have HAO : Hid (∀ W, Below Y.heap.size Y W → Arr W (w.heap.size + 1) 28 [.int .i64 k, .int .i64 l, .int .i64 r, .int .i64 f]) := fun W h => hao.below h (by omega)
  have HRS : Hid (∀ W, Below Y.heap.size Y W → RdN W.heap.size W sA sec) := fun W h => ((hrs.below hBY (Nat.le_refl _)).below h (by omega)).mono (by have := h.size; omega)
  have HRP : Hid (∀ W, Below Y.heap.size Y W → RdN W.heap.size W pA b) := fun W h => ((hrp.below hBY (Nat.le_refl _)).below h (by omega)).mono (by have := h.size; omega)
  have HTY := Lib.hid (hT.below hBY hT.pos)
  have HPO : Hid (1 < Y.heap.size) := by have := hT.pos; unfold Hid; omega
  have HBY := Lib.hid hBY
  have HLE : Hid (w.heap.size ≤ Y.heap.size) := by unfold Hid; omega
  have B0 := Lib.hid (Below.refl Y.heap.size Y)
  have H1 := Lib.hid ho
  by_cases hk0 : k = 0
  · subst hk0
    have hF := fun g c (hc : 11 ≤ c) (hm : c ≤ 9223372036854775807) W hs hh hp ht => fprint_any 0 none 0 [] (by simp) (Nat.le_refl _) (by decide) g 0 c (headL 0 l r f) hHDb hHDl hc hm pA pc b hpb (by omega) W hs hh hp ht
    rw [show printL 0 [] (headL 0 l r f) b = printL ((0 : Nat) : Int) sec (headL 0 l r f) b by unfold printL; rw [if_pos rfl, if_pos (show ((0 : Nat) : Int) = 0 from rfl)]] at hF
    obtain ⟨HD, hHD⟩ : ∃ HD, headL 0 l r f = HD := ⟨_, rfl⟩
    obtain ⟨FP, hFP⟩ : ∃ FP, printL ((0 : Nat) : Int) sec HD b = FP := ⟨_, rfl⟩
    obtain ⟨WL, hWL⟩ : ∃ WL, wrapL 0 l r f sec b = WL := ⟨_, rfl⟩
    rw [hWL] at hC ⊢
    rw [hHD] at hH hHDl hHDb hC hF
    rw [hFP] at hC hF
    have z0 : ((0 : Nat) : Int) = 0 := rfl
    rw [z0] at hO hH hY H1 HAO ⊢
    clear hHD hFP hWL ho hw hK hHDb z0
    obtain ⟨LY, hLY⟩ : ∃ LY, Y.heap.size = LY := ⟨_, rfl⟩
    clear hBY hYs hao hLY LY
    have HAKY := Lib.hid hak
    have HLT : Hid (w.heap.size < Y.heap.size) := hak.lt
    clear hak
    go_enter Tryd.func7, Tryd.ntmps7
    go_wp2_with (first
      | (refine wpList_load_arr rfl 28 (.tmp 4) rfl (w.heap.size + 1) rfl (HAO.out _ B0.out) Tryd.underlying28 rfl sizeO rfl ?_)
      | (go_at_call 10; refine (hO Y).mono ?_; rintro e w1 ⟨⟨x, rfl, hx⟩, hb1⟩; obtain rfl : x = true := hx.2 H1.out; have B1 := Lib.hid (B0.out.trans hb1); have co1 := (HAO.out _ B1.out).cell 0; simp only [List.getElem?_cons_zero] at co1; clear hx hb1)
      | (refine wpList_store_arr rfl 26 (.tmp 3) (.tmp 15) rfl w.heap.size rfl (vs := [.int .i64 0, .slice none 0 0]) rfl (HAKY.out.below B1.out HLT.out) sizeK rfl rfl (by simp [Value.oneCell']) ?_; intro W2 A2 B2 hsz2 O2; have HW2 := Lib.hid ((HBY.out.trans (B1.out.mono HLE.out)).trans B2.out); have hz2 : w.heap.size < W2.heap.size := (by have := A2.out.lt; omega); have HAO2 := Lib.hid (show ∀ W, Below W2.heap.size W2 W → Arr W (w.heap.size + 1) 28 _ from fun W h => ((HAO.out _ B1.out).same O2.out (by omega)).below h (((HAO.out _ B1.out).same O2.out (by omega)).lt)); have HAK := Lib.hid (show ∀ W, Below W2.heap.size W2 W → Arr W w.heap.size 26 _ from fun W h => A2.out.below h A2.out.lt); have HRS := Lib.hid (show ∀ W, Below W2.heap.size W2 W → RdN W.heap.size W none [] from fun W h => RdN.nil _ _ _); have HRP2 := Lib.hid (show ∀ W, Below W2.heap.size W2 W → RdN W.heap.size W pA b from fun W h => ((hrp.below HW2.out (Nat.le_refl _)).below h (by omega)).mono (by have := h.size; omega)); have HT2 := Lib.hid (hT.below HW2.out hT.pos); have BX := Lib.hid (Below.refl W2.heap.size W2); clear HAO HRP HTY HPO HAKY A2 B2 O2 hsz2 B1 co1; have HAO := HAO2; have HRP := HRP2; have HTY := HT2; have HPO : Hid (1 < W2.heap.size) := (by have := hT.pos; unfold Hid; omega); clear HAO2 HRP2 HT2)
      | (refine wpList_load_arr rfl 28 (.tmp 4) rfl (w.heap.size + 1) rfl (HAO.out _ BX.out) Tryd.underlying28 rfl sizeO rfl ?_)
      | (go_at_call 18; refine (hH W2).mono ?_; rintro e w3 ⟨⟨v3, rfl, HO3⟩, hb3⟩; have HO4 := (show World.ownsRow w3 W2.heap.size 5 1 v3 HD.length (u8s HD) from HO3.out); obtain ⟨g3, c3, rfl, hc3, hm3, hg3, hr3⟩ := own_rd HO4 (by rw [hHDl]; decide); rw [hHDl] at hc3; have B3 := Lib.hid (BX.out.trans (hb3.mono BX.out.size)); have HR3 := Lib.hid hr3; rw [hHDl]; clear HO3 HO4 hb3 hr3)
      | (refine wpList_load_arr rfl 26 (.tmp 3) rfl w.heap.size rfl (HAK.out _ B3.out) Tryd.underlying26 rfl sizeK rfl ?_)
      | (go_at_call 13; refine (hF g3 c3 hc3 (by unfold maxLen at hm3; omega) w3 (HRS.out _ B3.out) HR3.out (HRP.out _ B3.out) (HTY.out.below B3.out HPO.out)).mono ?_; rintro e w4 ⟨⟨g4, c4, rfl, hc4, hr4⟩, hb4⟩; have B4 := Lib.hid (B3.out.trans (hb4.mono B3.out.size)); have HR4 := Lib.hid hr4; have HR34 := Lib.hid ((HR3.out.below hb4 (Nat.le_refl _)).mono hb4.size); clear hb4 hr4 HR3)
      | (go_at_call 19; refine (hC g3 c3 g4 c4 w4 HR34.out HR4.out (HRP.out _ B4.out)).mono ?_; rintro e w5 ⟨⟨v5, rfl, HO5⟩, hb5⟩; have B5 := Lib.hid (B4.out.trans (hb5.mono B4.out.size)); have HO6 := (show Hid (w5.ownsRow w4.heap.size 5 1 v5 WL.length (u8s WL)) from HO5); have S4 := Lib.hid B4.out.size; clear hb5 HO5))
    go_ret2
    exact ⟨⟨_, rfl, own_base HO6.out (Nat.le_trans HW2.out.size S4.out)⟩, HW2.out.trans (B5.out.mono HW2.out.size)⟩
  · have hwk : okK id sec.length ∧ id = (k : Int) := (by rcases hw with h | h; exact absurd h (by omega); exact h)
    obtain ⟨hw1, rfl⟩ := hwk
    have hF := fun g c (hc : 11 ≤ c) (hm : c ≤ 9223372036854775807) W hs hh hp ht => fprint_any k sA sc sec hsb hsc (by omega) g 0 c (headL k l r f) hHDb hHDl hc hm pA pc b hpb (by omega) W hs hh hp ht
    obtain ⟨HD, hHD⟩ : ∃ HD, headL k l r f = HD := ⟨_, rfl⟩
    obtain ⟨FP, hFP⟩ : ∃ FP, printL (k : Int) sec HD b = FP := ⟨_, rfl⟩
    obtain ⟨WL, hWL⟩ : ∃ WL, wrapL k l r f sec b = WL := ⟨_, rfl⟩
    rw [hWL] at hC ⊢
    rw [hHD] at hH hHDl hHDb hC hF
    rw [hFP] at hC hF
    have H3 := Lib.hid hw1
    have HAK : Hid (∀ W, Below Y.heap.size Y W → Arr W w.heap.size 26 [.int .i64 k, .slice sA sec.length sc]) := fun W h => hak.below h (by omega)
    have hk0i : ¬ (k : Int) = 0 := by omega
    clear hHD hFP hWL ho hw hw1 hHDb hBY hYs hao hak
    go_enter Tryd.func7, Tryd.ntmps7
    go_wp2_with (first
      | (refine wpList_load_arr rfl 28 (.tmp 4) rfl (w.heap.size + 1) rfl (HAO.out _ B0.out) Tryd.underlying28 rfl sizeO rfl ?_)
      | (go_at_call 10; refine (hO Y).mono ?_; rintro e w1 ⟨⟨x, rfl, hx⟩, hb1⟩; obtain rfl : x = true := hx.2 H1.out; have B1 := Lib.hid (B0.out.trans hb1); have co1 := (HAO.out _ B1.out).cell 0; simp only [List.getElem?_cons_zero] at co1; clear hx hb1)
      | (refine wpList_load_arr rfl 26 (.tmp 3) rfl w.heap.size rfl (HAK.out _ B1.out) Tryd.underlying26 rfl sizeK rfl ?_)
      | (go_at_call 17; refine (hK w1).mono ?_; rintro e w2 ⟨⟨x, rfl, hx⟩, hb2⟩; obtain rfl : x = true := hx.2 H3.out; have BX := Lib.hid (B1.out.trans (hb2.mono B1.out.size)); have co2 := (HAO.out _ BX.out).cell 0; have ck2 := (HAK.out _ BX.out).cell 0; simp only [List.getElem?_cons_zero] at co2 ck2; clear hx hb2 co1)
      | (refine wpList_load_arr rfl 28 (.tmp 4) rfl (w.heap.size + 1) rfl (HAO.out _ BX.out) Tryd.underlying28 rfl sizeO rfl ?_)
      | (go_at_call 18; refine (hH w2).mono ?_; rintro e w3 ⟨⟨v3, rfl, HO3⟩, hb3⟩; have HO4 := (show World.ownsRow w3 w2.heap.size 5 1 v3 HD.length (u8s HD) from HO3.out); obtain ⟨g3, c3, rfl, hc3, hm3, hg3, hr3⟩ := own_rd HO4 (by rw [hHDl]; decide); rw [hHDl] at hc3; have B3 := Lib.hid (BX.out.trans (hb3.mono BX.out.size)); have HR3 := Lib.hid hr3; rw [hHDl]; clear HO3 HO4 hb3 hr3)
      | (refine wpList_load_arr rfl 26 (.tmp 3) rfl w.heap.size rfl (HAK.out _ B3.out) Tryd.underlying26 rfl sizeK rfl ?_)
      | (go_at_call 13; refine (hF g3 c3 hc3 (by unfold maxLen at hm3; omega) w3 (HRS.out _ B3.out) HR3.out (HRP.out _ B3.out) (HTY.out.below B3.out HPO.out)).mono ?_; rintro e w4 ⟨⟨g4, c4, rfl, hc4, hr4⟩, hb4⟩; have B4 := Lib.hid (B3.out.trans (hb4.mono B3.out.size)); have HR4 := Lib.hid hr4; have HR34 := Lib.hid ((HR3.out.below hb4 (Nat.le_refl _)).mono hb4.size); clear hb4 hr4 HR3)
      | (go_at_call 19; refine (hC g3 c3 g4 c4 w4 HR34.out HR4.out (HRP.out _ B4.out)).mono ?_; rintro e w5 ⟨⟨v5, rfl, HO5⟩, hb5⟩; have B5 := Lib.hid (B4.out.trans (hb5.mono B4.out.size)); have HO6 := (show Hid (w5.ownsRow w4.heap.size 5 1 v5 WL.length (u8s WL)) from HO5); have S4 := Lib.hid B4.out.size; clear hb5 HO5))
    go_ret2
    exact ⟨⟨_, rfl, own_base HO6.out (Nat.le_trans HLE.out S4.out)⟩, HBY.out.trans (B5.out.mono HLE.out)⟩
end Go.Proofs.YtmmocnokgcgmnaaDoor
