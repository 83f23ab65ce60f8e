/-
  SealWraps: the walk of the law.
-/
import Derived.Test.YtnmaelojgabheaaDoorSBig
import Derived.Test.YtnmaelojgabheaaDoorSRWrap
namespace Go.Proofs.YtnmaelojgabheaaDoor
set_option linter.unusedVariables false
set_option linter.unusedSimpArgs false
open Go.RowKit
set_option maxHeartbeats 3200000 in
set_option maxRecDepth 100000 in
theorem wraps_walk (id : Int) (_ : -9223372036854775808 ≤ id ∧ id ≤ 9223372036854775807) (sA : Option Addr) (sc : Nat) (sec : List Nat) (k l r f : Int) (pA : Option Addr) (pc : Nat) (b : List Nat) (w : World) (hs : InB w sA sec.length sc sec) (hb : InB w pA b.length pc b) (hT : Tabs w) :
    Calls Tryd.prog 3 #[.agg #[.int .i64 id, .slice sA sec.length sc], .agg #[.int .i64 k, .int .i64 l, .int .i64 r, .int .i64 f], .slice pA b.length pc] w fun e w' => e = .returned (.bool true) ∧ Below w.heap.size w w' := by
  obtain ⟨_, hsc, hsm, hsb, hsr⟩ := hs
  obtain ⟨_, hpc, hpm, hpb, hpr⟩ := hb
  have hsl : sec.length ≤ 9223372036854775807 := by unfold maxLen at hsm; omega
  have hbl : b.length ≤ 9223372036854775807 := by unfold maxLen at hpm; omega
  obtain ⟨Y, hY⟩ : ∃ Y, (w.alloc (.cells #[.int .i64 id, .slice sA sec.length sc] 24)).alloc (.cells #[.int .i64 k, .int .i64 l, .int .i64 r, .int .i64 f] 26) = Y := ⟨_, rfl⟩
  have hBY : Below w.heap.size w Y := by rw [← hY]; exact ((Below.refl w.heap.size w).alloc (Nat.le_refl _) _).alloc (by simp) _
  have hYs : Y.heap.size = w.heap.size + 2 := by rw [← hY]; simp
  have hak : Arr Y w.heap.size 24 [.int .i64 id, .slice sA sec.length sc] := by rw [← hY]; exact (Arr.new w 24 [.int .i64 id, .slice sA sec.length sc]).alloc _
  have hao : Arr Y (w.heap.size + 1) 26 [.int .i64 k, .int .i64 l, .int .i64 r, .int .i64 f] := by rw [← hY]; exact Arr.new2 w (.cells #[.int .i64 id, .slice sA sec.length sc] 24) 26 [.int .i64 k, .int .i64 l, .int .i64 r, .int .i64 f]
  have HAK : Hid (∀ W, Below Y.heap.size Y W → Arr W w.heap.size 24 [.int .i64 id, .slice sA sec.length sc]) := fun W h => hak.below h (by omega)
  have HAO : Hid (∀ W, Below Y.heap.size Y W → Arr W (w.heap.size + 1) 26 [.int .i64 k, .int .i64 l, .int .i64 r, .int .i64 f]) := fun W h => hao.below h (by omega)
  have HRS : Hid (∀ W, Below Y.heap.size Y W → RdN W.heap.size W sA sec) := fun W h => ((hsr.below hBY (Nat.le_refl _)).below h (by omega)).mono (by have := h.size; omega)
  have HRP : Hid (∀ W, Below Y.heap.size Y W → RdN W.heap.size W pA b) := fun W h => ((hpr.below hBY (Nat.le_refl _)).below h (by omega)).mono (by have := h.size; omega)
  have hTY := hT.below hBY hT.pos
  have HTY := Lib.hid hTY
  have HPO : Hid (1 < Y.heap.size) := by have := hT.pos; unfold Hid; omega
  have HBY := Lib.hid hBY
  have HLE : Hid (w.heap.size ≤ Y.heap.size) := by unfold Hid; omega
  have haw := awake5_any Y hTY
  clear hBY hYs hak hao hsr hpr hTY hT
  by_cases c1 : 200 < sec.length
  · go_enter Tryd.func3, Tryd.ntmps3
    go_wp2_with (go_at_call 4; refine haw.mono ?_; rintro e w1 ⟨rfl, hb1⟩; have B1 := Lib.hid hb1; have ck1 := (HAK.out _ B1.out).cell 1; simp only [List.getElem?_cons_zero, List.getElem?_cons_succ] at ck1; clear hb1)
    go_ret
    exact ⟨rfl, HBY.out.trans (B1.out.mono HLE.out)⟩
  by_cases c2 : 5000 < b.length
  · go_enter Tryd.func3, Tryd.ntmps3
    go_wp2_with (go_at_call 4; refine haw.mono ?_; rintro e w1 ⟨rfl, hb1⟩; have B1 := Lib.hid hb1; have ck1 := (HAK.out _ B1.out).cell 1; simp only [List.getElem?_cons_zero, List.getElem?_cons_succ] at ck1; clear hb1)
    go_ret
    exact ⟨rfl, HBY.out.trans (B1.out.mono HLE.out)⟩
  by_cases hok : okO k l r f ∧ okW id sec.length k
  · by_cases hbg : 4096 < b.length
    · have hw := fun W => wrap_big id sA sec.length sc (by omega) k l r f hok.1 hok.2 pA b.length pc hbg (by omega) W
      have hrw := fun W => rwrap_big id sA sec.length sc (by omega) k l r f hok.1 hok.2 pA b.length pc hbg (by omega) W
      go_enter Tryd.func3, Tryd.ntmps3
      go_wp2_with (first
        | (go_at_call 4; refine haw.mono ?_; rintro e w1 ⟨rfl, hb1⟩; have B1 := Lib.hid hb1; have ck1 := (HAK.out _ B1.out).cell 1; simp only [List.getElem?_cons_zero, List.getElem?_cons_succ] at ck1; clear hb1)
        | (refine wpList_load_arr rfl 24 (.tmp 3) rfl w.heap.size rfl (HAK.out _ B2.out) Tryd.underlying24 rfl sizeK rfl ?_)
        | (refine wpList_load_arr rfl 26 (.tmp 4) rfl (w.heap.size + 1) rfl (HAO.out _ B2.out) Tryd.underlying26 rfl sizeO rfl ?_)
        | (refine wpList_load_arr rfl 24 (.tmp 3) rfl w.heap.size rfl (HAK.out _ B1.out) Tryd.underlying24 rfl sizeK rfl ?_)
        | (refine wpList_load_arr rfl 26 (.tmp 4) rfl (w.heap.size + 1) rfl (HAO.out _ B1.out) Tryd.underlying26 rfl sizeO rfl ?_)
        | (go_at_call 5; refine (hw w1).mono ?_; rintro e w2 ⟨rfl, hb2⟩; have B2 := Lib.hid (B1.out.trans (hb2.mono B1.out.size)); clear hb2)
        | (go_at_call 6; refine (hrw w2).mono ?_; rintro e w3 ⟨rfl, hb3⟩; have B3 := Lib.hid (B2.out.trans (hb3.mono B2.out.size)); have v1 := conv_rdE (RdN.nil w3.heap.size w3 none) rfl 0; rw [show ([] : List Nat).length = 0 from rfl] at v1; clear hb3))
      go_ret
      exact ⟨rfl, HBY.out.trans (B3.out.mono HLE.out)⟩
    · obtain ⟨ho, hw0⟩ := hok
      obtain ⟨K, rfl⟩ : ∃ K : Nat, k = K := ⟨k.toNat, by unfold okO okIn at ho; omega⟩
      obtain ⟨L, rfl⟩ : ∃ L : Nat, l = L := ⟨l.toNat, by unfold okO okIn at ho; omega⟩
      obtain ⟨R, rfl⟩ : ∃ R : Nat, r = R := ⟨r.toNat, by unfold okO okIn at ho; omega⟩
      obtain ⟨F, rfl⟩ : ∃ F : Nat, f = F := ⟨f.toNat, by unfold okO okIn at ho; omega⟩
      have hw := fun W h1 h2 h3 => wrap_ok id sA sc sec hsb hsc (by omega) K L R F ho hw0 pA pc b hpb (by omega) W h1 h2 h3
      have hrw := fun W h1 h2 => rwrap_ok id sA sc sec hsb (by omega) K L R F ho hw0 pA pc b hpb (by omega) W h1 h2
      rw [wrapL_len] at hw
      obtain ⟨WL, hWL⟩ : ∃ WL, wrapL K L R F sec b = WL := ⟨_, rfl⟩
      have HWN : Hid (WL.length = 27 + b.length) := by rw [← hWL]; exact wrapL_len _ _ _ _ _ _
      rw [hWL] at hw hrw
      clear hWL ho hw0
      go_enter Tryd.func3, Tryd.ntmps3
      go_wp2_with (first
        | (go_at_call 4; refine haw.mono ?_; rintro e w1 ⟨rfl, hb1⟩; have B1 := Lib.hid hb1; have ck1 := (HAK.out _ B1.out).cell 1; simp only [List.getElem?_cons_zero, List.getElem?_cons_succ] at ck1; clear hb1)
        | (refine wpList_load_arr rfl 24 (.tmp 3) rfl w.heap.size rfl (HAK.out _ B2.out) Tryd.underlying24 rfl sizeK rfl ?_)
        | (refine wpList_load_arr rfl 26 (.tmp 4) rfl (w.heap.size + 1) rfl (HAO.out _ B2.out) Tryd.underlying26 rfl sizeO rfl ?_)
        | (refine wpList_load_arr rfl 24 (.tmp 3) rfl w.heap.size rfl (HAK.out _ B1.out) Tryd.underlying24 rfl sizeK rfl ?_)
        | (refine wpList_load_arr rfl 26 (.tmp 4) rfl (w.heap.size + 1) rfl (HAO.out _ B1.out) Tryd.underlying26 rfl sizeO rfl ?_)
        | (go_at_call 5; refine (hw w1 (HRS.out _ B1.out) (HRP.out _ B1.out) (HTY.out.below B1.out HPO.out)).mono ?_; rintro e w2 ⟨⟨v2, rfl, HO2⟩, hb2⟩; have B2 := Lib.hid (B1.out.trans (hb2.mono B1.out.size)); have ho2 : World.ownsRow w2 w1.heap.size 5 1 v2 WL.length (u8s WL) := (by rw [HWN.out]; exact HO2.out); obtain ⟨g, c, rfl, hc, _, _, hr⟩ := own_rd ho2 (by rw [HWN.out]; omega); have HR2 := Lib.hid hr; clear hb2 HO2 ho2 hr)
        | (go_at_call 6; refine (hrw w2 (HRS.out _ B2.out) (HRP.out _ B2.out)).mono ?_; rintro e w3 ⟨⟨v3, rfl, HO3⟩, hb3⟩; have B3 := Lib.hid (B2.out.trans (hb3.mono B2.out.size)); obtain ⟨g3, c3, rfl, hc3, _, _, hr3⟩ := own_rd HO3.out (by rw [HWN.out]; omega); have u1 := conv_rdE (HR2.out.below hb3 (Nat.le_refl _)) rfl c; have u2 := conv_rdE hr3 rfl c3; clear hb3 HO3 hr3))
      go_ret
      exact ⟨rfl, HBY.out.trans (B3.out.mono HLE.out)⟩
  · have hw := fun W => wrap_bad id sA sec.length sc (by omega) k l r f hok (.slice pA b.length pc) W
    have hrw := fun W => rwrap_bad id sA sec.length sc (by omega) k l r f hok (.slice pA b.length pc) W
    go_enter Tryd.func3, Tryd.ntmps3
    go_wp2_with (first
      | (go_at_call 4; refine haw.mono ?_; rintro e w1 ⟨rfl, hb1⟩; have B1 := Lib.hid hb1; have ck1 := (HAK.out _ B1.out).cell 1; simp only [List.getElem?_cons_zero, List.getElem?_cons_succ] at ck1; clear hb1)
      | (refine wpList_load_arr rfl 24 (.tmp 3) rfl w.heap.size rfl (HAK.out _ B2.out) Tryd.underlying24 rfl sizeK rfl ?_)
      | (refine wpList_load_arr rfl 26 (.tmp 4) rfl (w.heap.size + 1) rfl (HAO.out _ B2.out) Tryd.underlying26 rfl sizeO rfl ?_)
      | (refine wpList_load_arr rfl 24 (.tmp 3) rfl w.heap.size rfl (HAK.out _ B1.out) Tryd.underlying24 rfl sizeK rfl ?_)
      | (refine wpList_load_arr rfl 26 (.tmp 4) rfl (w.heap.size + 1) rfl (HAO.out _ B1.out) Tryd.underlying26 rfl sizeO rfl ?_)
      | (go_at_call 5; refine (hw w1).mono ?_; rintro e w2 ⟨rfl, hb2⟩; have B2 := Lib.hid (B1.out.trans (hb2.mono B1.out.size)); clear hb2)
      | (go_at_call 6; refine (hrw w2).mono ?_; rintro e w3 ⟨rfl, hb3⟩; have B3 := Lib.hid (B2.out.trans (hb3.mono B2.out.size)); have v1 := conv_rdE (RdN.nil w3.heap.size w3 none) rfl 0; rw [show ([] : List Nat).length = 0 from rfl] at v1; clear hb3))
    go_ret
    exact ⟨rfl, HBY.out.trans (B3.out.mono HLE.out)⟩
end Go.Proofs.YtnmaelojgabheaaDoor
