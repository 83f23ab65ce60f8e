/-
  SealHead: the walk of the law.
-/
import Derived.Test.YtnhcopleepmcmaaDoorSBig
namespace Go.Proofs.YtnhcopleepmcmaaDoor
open Go.RowKit
theorem headL_lit (k l r f : Nat) : headL k l r f = [161, 247, k % 256, l / 256 % 256, l % 256, r / 256 % 256, r % 256, f / 16777216 % 256, f / 65536 % 256, f / 256 % 256, f % 256] := by simp [headL, beN, List.range_succ]
theorem wrapL_head (k l r f : Nat) (sec b : List Nat) {j x : Nat} (h : (headL k l r f)[j]? = some x) : (wrapL k l r f sec b)[j]? = some x := by
  unfold wrapL
  rw [List.getElem?_append_left (List.getElem?_eq_some_iff.1 h).1, h]
theorem wrapL_tail (k l r f : Nat) (sec b : List Nat) : (wrapL k l r f sec b).drop 27 = b := by
  unfold wrapL
  rw [← List.append_assoc]
  exact List.drop_left' (by rw [List.length_append, headL_len, printL_len])
set_option maxHeartbeats 3200000 in
set_option maxRecDepth 100000 in
theorem head_walk (id : Int) (_ : -9223372036854775808 ≤ id ∧ id ≤ 9223372036854775807) (sA : Option Addr) (sc : Nat) (sec : List Nat) (k l r f : Int) (pA : Option Addr) (pc : Nat) (b : List Nat) (w : World) (hs : InB w sA sec.length sc sec) (hb : InB w pA b.length pc b) (hT : Tabs w) :
    Calls Tryd.prog 11 #[.agg #[.int .i64 id, .slice sA sec.length sc], .agg #[.int .i64 k, .int .i64 l, .int .i64 r, .int .i64 f], .slice pA b.length pc] w fun e w' => e = .returned (.bool true) ∧ Below w.heap.size w w' := by
  obtain ⟨_, hsc, hsm, hsb, hsr⟩ := hs
  obtain ⟨_, hpc, hpm, hpb, hpr⟩ := hb
  have hsl : sec.length ≤ 9223372036854775807 := by unfold maxLen at hsm; omega
  have hbl : b.length ≤ 9223372036854775807 := by unfold maxLen at hpm; omega
  obtain ⟨Y, hY⟩ : ∃ Y, (w.alloc (.cells #[.int .i64 id, .slice sA sec.length sc] 30)).alloc (.cells #[.int .i64 k, .int .i64 l, .int .i64 r, .int .i64 f] 32) = Y := ⟨_, rfl⟩
  have hBY : Below w.heap.size w Y := by rw [← hY]; exact ((Below.refl w.heap.size w).alloc (Nat.le_refl _) _).alloc (by simp) _
  have hYs : Y.heap.size = w.heap.size + 2 := by rw [← hY]; simp
  have hak : Arr Y w.heap.size 30 [.int .i64 id, .slice sA sec.length sc] := by rw [← hY]; exact (Arr.new w 30 [.int .i64 id, .slice sA sec.length sc]).alloc _
  have hao : Arr Y (w.heap.size + 1) 32 [.int .i64 k, .int .i64 l, .int .i64 r, .int .i64 f] := by rw [← hY]; exact Arr.new2 w (.cells #[.int .i64 id, .slice sA sec.length sc] 30) 32 [.int .i64 k, .int .i64 l, .int .i64 r, .int .i64 f]
  have HAK : Hid (∀ W, Below Y.heap.size Y W → Arr W w.heap.size 30 [.int .i64 id, .slice sA sec.length sc]) := fun W h => hak.below h (by omega)
  have HAO : Hid (∀ W, Below Y.heap.size Y W → Arr W (w.heap.size + 1) 32 [.int .i64 k, .int .i64 l, .int .i64 r, .int .i64 f]) := fun W h => hao.below h (by omega)
  have HRS : Hid (∀ W, Below Y.heap.size Y W → RdN W.heap.size W sA sec) := fun W h => ((hsr.below hBY (Nat.le_refl _)).below h (by omega)).mono (by have := h.size; omega)
  have HRP : Hid (∀ W, Below Y.heap.size Y W → RdN W.heap.size W pA b) := fun W h => ((hpr.below hBY (Nat.le_refl _)).below h (by omega)).mono (by have := h.size; omega)
  have hTY := hT.below hBY hT.pos
  have HTY := Lib.hid hTY
  have HPO : Hid (1 < Y.heap.size) := by have := hT.pos; unfold Hid; omega
  have HBY := Lib.hid hBY
  have HLE : Hid (w.heap.size ≤ Y.heap.size) := by unfold Hid; omega
  have haw := awake5_any Y hTY
  clear hBY hYs hak hao hsr hpr hTY hT
  by_cases c1 : 200 < sec.length
  · go_enter Tryd.func11, Tryd.ntmps11
    go_wp2_with (go_at_call 19; refine haw.mono ?_; rintro e w1 ⟨rfl, hb1⟩; have B1 := Lib.hid hb1; have ck1 := (HAK.out _ B1.out).cell 1; simp only [List.getElem?_cons_zero, List.getElem?_cons_succ] at ck1; clear hb1)
    go_ret
    exact ⟨rfl, HBY.out.trans (B1.out.mono HLE.out)⟩
  by_cases c2 : 4100 < b.length
  · go_enter Tryd.func11, Tryd.ntmps11
    go_wp2_with (go_at_call 19; refine haw.mono ?_; rintro e w1 ⟨rfl, hb1⟩; have B1 := Lib.hid hb1; have ck1 := (HAK.out _ B1.out).cell 1; simp only [List.getElem?_cons_zero, List.getElem?_cons_succ] at ck1; clear hb1)
    go_ret
    exact ⟨rfl, HBY.out.trans (B1.out.mono HLE.out)⟩
  by_cases hok : okO k l r f ∧ okW id sec.length k
  · by_cases hbg : 4096 < b.length
    · have hw := fun W => wrap_big id sA sec.length sc (by omega) k l r f hok.1 hok.2 pA b.length pc hbg (by omega) W
      go_enter Tryd.func11, Tryd.ntmps11
      go_wp2_with (first
        | (go_at_call 19; refine haw.mono ?_; rintro e w1 ⟨rfl, hb1⟩; have B1 := Lib.hid hb1; have ck1 := (HAK.out _ B1.out).cell 1; simp only [List.getElem?_cons_zero, List.getElem?_cons_succ] at ck1; clear hb1)
        | (refine wpList_load_arr rfl 30 (.tmp 3) rfl w.heap.size rfl (HAK.out _ B1.out) Tryd.underlying30 rfl sizeK rfl ?_)
        | (refine wpList_load_arr rfl 32 (.tmp 4) rfl (w.heap.size + 1) rfl (HAO.out _ B1.out) Tryd.underlying32 rfl sizeO rfl ?_)
        | (go_at_call 20; refine (hw w1).mono ?_; rintro e w2 ⟨rfl, hb2⟩; have B2 := Lib.hid (B1.out.trans (hb2.mono B1.out.size)); clear hb2))
      go_ret
      exact ⟨rfl, HBY.out.trans (B2.out.mono HLE.out)⟩
    · obtain ⟨ho, hw0⟩ := hok
      obtain ⟨K, rfl⟩ : ∃ K : Nat, k = K := ⟨k.toNat, by unfold okO okIn at ho; omega⟩
      obtain ⟨L, rfl⟩ : ∃ L : Nat, l = L := ⟨l.toNat, by unfold okO okIn at ho; omega⟩
      obtain ⟨R, rfl⟩ : ∃ R : Nat, r = R := ⟨r.toNat, by unfold okO okIn at ho; omega⟩
      obtain ⟨F, rfl⟩ : ∃ F : Nat, f = F := ⟨f.toNat, by unfold okO okIn at ho; omega⟩
      have hw := fun W h1 h2 h3 => wrap_ok id sA sc sec hsb hsc (by omega) K L R F ho hw0 pA pc b hpb (by omega) W h1 h2 h3
      rw [wrapL_len] at hw
      unfold okO okIn at ho
      obtain ⟨A, hA⟩ : ∃ A, L / 256 % 256 = A := ⟨_, rfl⟩
      obtain ⟨B, hB⟩ : ∃ B, L % 256 = B := ⟨_, rfl⟩
      obtain ⟨C, hC⟩ : ∃ C, R / 256 % 256 = C := ⟨_, rfl⟩
      obtain ⟨D, hD⟩ : ∃ D, R % 256 = D := ⟨_, rfl⟩
      obtain ⟨E, hE⟩ : ∃ E, F / 16777216 % 256 = E := ⟨_, rfl⟩
      obtain ⟨G, hG⟩ : ∃ G, F / 65536 % 256 = G := ⟨_, rfl⟩
      obtain ⟨M, hM⟩ : ∃ M, F / 256 % 256 = M := ⟨_, rfl⟩
      obtain ⟨N, hN⟩ : ∃ N, F % 256 = N := ⟨_, rfl⟩
      have hd : headL K L R F = [161, 247, K, A, B, C, D, E, G, M, N] := by rw [headL_lit, hA, hB, hC, hD, hE, hG, hM, hN, show K % 256 = K by omega]
      have e1 : (A : Int) * 256 + (B : Int) = (L : Int) := by omega
      have e2 : (C : Int) * 256 + (D : Int) = (R : Int) := by omega
      have e3 : (E : Int) * 16777216 + (G : Int) * 65536 + (M : Int) * 256 + (N : Int) = (F : Int) := by omega
      have b1 : A ≤ 255 ∧ B ≤ 255 ∧ C ≤ 255 ∧ D ≤ 255 ∧ E ≤ 255 ∧ G ≤ 255 ∧ M ≤ 255 ∧ N ≤ 255 := by omega
      have kb1 : K ≤ 255 := by omega
      have kb2 : L ≤ 65535 := by omega
      have kb3 : R ≤ 65535 := by omega
      have kb4 : F ≤ 604800 := by omega
      obtain ⟨bA, bB, bC, bD, bE, bG, bM, bN⟩ := b1
      have HD := Lib.hid (fun (j x : Nat) (h : [161, 247, K, A, B, C, D, E, G, M, N][j]? = some x) => wrapL_head K L R F sec b (hd ▸ h))
      have HTL := Lib.hid (wrapL_tail K L R F sec b)
      obtain ⟨WL, hWL⟩ : ∃ WL, wrapL K L R F sec b = WL := ⟨_, rfl⟩
      have HWN : Hid (WL.length = 27 + b.length) := by rw [← hWL]; exact wrapL_len _ _ _ _ _ _
      rw [hWL] at hw HD HTL
      clear hA hB hC hD hE hG hM hN hd hWL ho hw0
      go_enter Tryd.func11, Tryd.ntmps11
      go_wp2_with (first
        | (go_at_call 19; refine haw.mono ?_; rintro e w1 ⟨rfl, hb1⟩; have B1 := Lib.hid hb1; have ck1 := (HAK.out _ B1.out).cell 1; simp only [List.getElem?_cons_zero, List.getElem?_cons_succ] at ck1; clear hb1)
        | (refine wpList_load_arr rfl 30 (.tmp 3) rfl w.heap.size rfl (HAK.out _ B1.out) Tryd.underlying30 rfl sizeK rfl ?_)
        | (refine wpList_load_arr rfl 32 (.tmp 4) rfl (w.heap.size + 1) rfl (HAO.out _ B1.out) Tryd.underlying32 rfl sizeO rfl ?_)
        | (go_at_call 20; refine (hw w1 (HRS.out _ B1.out) (HRP.out _ B1.out) (HTY.out.below B1.out HPO.out)).mono ?_; rintro e w2 ⟨⟨v2, rfl, HO2⟩, hb2⟩; have B2 := Lib.hid (B1.out.trans (hb2.mono B1.out.size)); have ho2 : World.ownsRow w2 w1.heap.size 5 1 v2 WL.length (u8s WL) := (by rw [HWN.out]; exact HO2.out); obtain ⟨g, c, rfl, hc, _, _, hr⟩ := own_rd ho2 (by rw [HWN.out]; omega); have d2 := hr.at0 (HD.out 2 _ rfl); have d3 := hr.at0 (HD.out 3 _ rfl); have d4 := hr.at0 (HD.out 4 _ rfl); have d5 := hr.at0 (HD.out 5 _ rfl); have d6 := hr.at0 (HD.out 6 _ rfl); have d7 := hr.at0 (HD.out 7 _ rfl); have d8 := hr.at0 (HD.out 8 _ rfl); have d9 := hr.at0 (HD.out 9 _ rfl); have d10 := hr.at0 (HD.out 10 _ rfl); have ht := hr.part 27 b.length; rw [HTL.out, List.take_length, Nat.zero_add] at ht; have HT2 := Lib.hid ht; have HP2 := Lib.hid (HRP.out _ B2.out); rw [HWN.out] at hc ⊢; have co2 := (HAO.out _ B2.out); have p0 := co2.cell 0; have p1 := co2.cell 1; have p2 := co2.cell 2; have p3 := co2.cell 3; simp only [List.getElem?_cons_zero, List.getElem?_cons_succ] at p0 p1 p2 p3; clear hb2 HO2 ho2 hr ht co2))
      go_quiet (fail)
      all_goals go_wp2
      all_goals go_quiet (fail)
      all_goals go_wp2
      all_goals go_quiet (fail)
      all_goals go_wp2
      generalize hw3 : World.drewN (World.drewN (World.drewN w2 _) _) _ = w3
      have z1 : RdN w2.heap.size w3 (some ⟨g, 27, none⟩) b := by rw [← hw3]; exact HT2.out
      have z2 : RdN w2.heap.size w3 pA b := by rw [← hw3]; exact HP2.out
      have z3 : RdN w2.heap.size w3.drew (if c = 27 then some (⟨g, 0, none⟩ : Addr) else some ⟨g, 27, none⟩) b := by
        split
        · have h0 : b = [] := List.eq_nil_of_length_eq_zero (by omega)
          rw [h0]
          exact RdN.nil _ _ _
        · exact z1
      have v1 := conv_rdE z3 rfl (c - 27)
      have v2 := conv_rdE (show RdN w2.heap.size w3.drew pA b from z2) rfl pc
      have B3 := Lib.hid (show Below Y.heap.size Y w3 by rw [← hw3]; exact below_drewN (below_drewN (below_drewN B2.out _) _) _)
      have t0 : w3.cell? ⟨w.heap.size + 1, 0, none⟩ = some (.int .i64 (K : Int)) := by rw [← hw3]; exact p0
      have t1 : w3.cell? ⟨w.heap.size + 1, 1, none⟩ = some (.int .i64 (L : Int)) := by rw [← hw3]; exact p1
      have t2 : w3.cell? ⟨w.heap.size + 1, 2, none⟩ = some (.int .i64 (R : Int)) := by rw [← hw3]; exact p2
      have t3 : w3.cell? ⟨w.heap.size + 1, 3, none⟩ = some (.int .i64 (F : Int)) := by rw [← hw3]; exact p3
      have t4 : w3.cell? ⟨g, 2, none⟩ = some (.int .u8 (K : Int)) := by rw [← hw3]; exact d2
      clear hw3 z1 z2 z3 d2 d3 d4 d5 d6 d7 d8 d9 d10 p0 p1 p2 p3
      go_region
      all_goals go_wp2
      all_goals go_ret
      all_goals exact ⟨rfl, HBY.out.trans ((below_drewN B3.out _).mono HLE.out)⟩
  · have hw := fun W => wrap_bad id sA sec.length sc (by omega) k l r f hok (.slice pA b.length pc) W
    go_enter Tryd.func11, Tryd.ntmps11
    go_wp2_with (first
      | (go_at_call 19; refine haw.mono ?_; rintro e w1 ⟨rfl, hb1⟩; have B1 := Lib.hid hb1; have ck1 := (HAK.out _ B1.out).cell 1; simp only [List.getElem?_cons_zero, List.getElem?_cons_succ] at ck1; clear hb1)
      | (refine wpList_load_arr rfl 30 (.tmp 3) rfl w.heap.size rfl (HAK.out _ B1.out) Tryd.underlying30 rfl sizeK rfl ?_)
      | (refine wpList_load_arr rfl 32 (.tmp 4) rfl (w.heap.size + 1) rfl (HAO.out _ B1.out) Tryd.underlying32 rfl sizeO rfl ?_)
      | (go_at_call 20; refine (hw w1).mono ?_; rintro e w2 ⟨rfl, hb2⟩; have B2 := Lib.hid (B1.out.trans (hb2.mono B1.out.size)); clear hb2))
    go_ret
    exact ⟨rfl, HBY.out.trans (B2.out.mono HLE.out)⟩
end Go.Proofs.YtnhcopleepmcmaaDoor
