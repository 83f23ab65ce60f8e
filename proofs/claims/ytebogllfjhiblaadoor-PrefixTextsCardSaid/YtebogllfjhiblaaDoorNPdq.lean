/-
  PREFIXES: the library's sort.Slice at no more than twelve prefixes.
-/
import Derived.Test.YtebogllfjhiblaaDoorNIns
namespace Go.Proofs.YtebogllfjhiblaaDoor
set_option linter.unusedVariables false
open Go.RowKit Go.Sort
set_option maxHeartbeats 4000000 in
set_option maxRecDepth 100000 in
theorem pdq_small (base g c n Bs : Nat) (lim : Int) (d : Array (Nat × Int)) (w0 w : World) (hS : Srt w0 base g c n Bs d w) (hgw : g < w.heap.size) (hn : n ≤ 12) :
    Calls Tryd.prog 59 #[.agg #[lessF Bs, swapF g c n], .int .i64 0, .int .i64 n, .int .i64 lim] w fun e w' =>
      e = .returned (.tuple #[]) ∧ Srt w0 base g c n Bs (Sort.insertionSort ltP d 0 n) w' ∧ w.grownBy w' (some g) := by
  have hS1 : Srt w0 base g c n Bs d (w.alloc (.cells #[lessF Bs, swapF g c n] 83)) := hS.step ((Go.RowKit.Below.refl _ _).alloc (Nat.le_refl _) _)
  have hG1 : w.grownBy (w.alloc (.cells #[lessF Bs, swapF g c n] 83)) (some g) := ⟨rfl, rfl, rfl, by simp, fun k hk _ => heap_alloc_old w _ hk⟩
  have hi := ins_any base g c n Bs 0 n d w0 _ hS1 (by simp; omega) (by omega) (Nat.zero_le _) (Nat.le_refl _)
  have hn2 : (n : Int) ≤ 12 := by omega
  have HG1 := Lib.hid hG1
  clear hS hS1 hG1
  go_enter Tryd.func59, Tryd.ntmps59
  go_wp2
  refine wp_loop_rounds 1 ?_
  rw [rounds_succ]
  go_wp2_with (go_at_call 82; refine hi.mono ?_; rintro e w1 ⟨rfl, hs1, hg1⟩; have HS := Lib.hid hs1; have HG := Lib.hid (grownBy_trans HG1.out hg1); clear hs1 hg1)
  (try simp only [Exit.inBlock, Exit.then])
  refine bodyPost_ret (results_none rfl _ _ _) rfl ?_
  exact ⟨rfl, HS.out, HG.out⟩
theorem cmpP_lt (x y : Nat × Int) : cmpP x y < 0 ↔ (x.1 < y.1 ∨ (x.1 = y.1 ∧ x.2 < y.2)) := by
  unfold cmpP
  have h1 : cmpI x.1 y.1 < 0 ↔ (x.1 : Int) < y.1 := by
    unfold cmpI
    split
    · omega
    · split <;> omega
  have h2 : cmpI x.1 y.1 = 0 ↔ (x.1 : Int) = y.1 := by
    unfold cmpI
    split
    · omega
    · split <;> omega
  have h3 : cmpI x.2 y.2 < 0 ↔ x.2 < y.2 := by
    unfold cmpI
    split
    · omega
    · split <;> omega
  split
  · rename_i h; rw [h3]; have := h2.1 h; omega
  · rename_i h; rw [h1]; have := (not_congr h2).1 h; omega
theorem ltP_true (x y : Nat × Int) : ltP x y = true ↔ (x.1 < y.1 ∨ (x.1 = y.1 ∧ x.2 < y.2)) := by
  unfold ltP
  rw [decide_eq_true_eq]
  exact cmpP_lt x y
theorem ltP_false (x y : Nat × Int) : ltP x y = false ↔ ¬ (x.1 < y.1 ∨ (x.1 = y.1 ∧ x.2 < y.2)) := by
  rw [← ltP_true]
  cases ltP x y <;> simp
theorem swo_ltP : SWO ltP := by
  refine ⟨fun x => ?_, fun x y z h1 h2 => ?_, fun x y z h1 h2 => ?_⟩
  · rw [ltP_false]; omega
  · rw [ltP_true] at h1 h2 ⊢; omega
  · rw [ltP_false] at h1 h2 ⊢; omega
theorem anti_ltP (x y : Nat × Int) (h1 : ltP x y = false) (h2 : ltP y x = false) : x = y := by
  rw [ltP_false] at h1 h2
  exact Prod.ext (by omega) (by omega)
theorem ins_sorts (d : Array (Nat × Int)) : (Sort.insertionSort ltP d 0 d.size).toList = sortP d.toList := by
  have h := insertionSort_holds swo_ltP d 0 d.size (Nat.zero_le _) (Nat.le_refl _)
  exact sorted_unique_holds swo_ltP anti_ltP d _ h.1 h.2
/-- The library's sort at a row of two to twelve prefixes. -/
theorem sort_few (L : List (Nat × Int)) (h12 : L.length ≤ 12) : SortOk L := by
  intro base Bs v W ho hb hBs hbase
  obtain ⟨a, c, rfl⟩ := ho.shape rfl
  by_cases h2 : 2 ≤ L.length
  · obtain ⟨g, rfl, hg, hgw⟩ : ∃ g, a = some ⟨g, 0, none⟩ ∧ base ≤ g ∧ g < W.heap.size := by
      rcases ho.form with ⟨_, e⟩ | ⟨g, c, e, hg, hgw, _⟩
      · rw [e] at h2; simp at h2
      · injection e with e1 _ _; exact ⟨g, e1, hg, hgw⟩
    obtain ⟨n, hn⟩ : ∃ n, L.length = n := ⟨_, rfl⟩
    rw [hn] at ho hb h2 h12 ⊢
    have hS : Srt W base g c n Bs L.toArray W := ⟨by simpa using hn, ho, hb, by omega, ⟨rfl, rfl, rfl, Nat.le_refl _, fun _ _ _ => rfl⟩⟩
    have hw : Go.RowKit.Below W.heap.size W (sliceWorld Tryd.prog Tryd.laysGg6_ren 37 (some ⟨g, 0, none⟩) n c W) := by
      unfold sliceWorld
      exact ((Go.RowKit.Below.refl _ _).alloc (Nat.le_refl _) _).alloc (by simp) _
    have hS2 := hS.step hw
    refine Any.sort_Slice_of_pdq (ρ := Tryd.laysGg6_ren) Tryd.laysGg6 37 24 infoS infoE (by kernel_rfl) (by kernel_rfl) (by kernel_rfl) (by kernel_rfl) 25 (fun _ => by kernel_rfl) (some ⟨g, 0, none⟩) n c (by omega) 79 (by rw [swapperE n h2]; kernel_rfl)
      (.func 48) #[] #[.pointer (some ⟨Bs, 0, none⟩)] W _ ?_
    have hB : sliceBound Tryd.prog 24 infoE 25 (some ⟨g, 0, none⟩) n c = #[.slice (some ⟨g, 0, none⟩) n c, typeHandle Tryd.prog 24] := by
      unfold sliceBound; rw [if_neg (swapperK_gt _ _ _ h2)]
    rw [hB]
    refine (pdq_small base g c n Bs _ L.toArray W _ hS2 (Nat.lt_of_lt_of_le hgw hw.size) h12).mono ?_
    rintro e w' ⟨rfl, hs, _⟩
    refine ⟨rfl, ?_, hs.grow⟩
    have e := ins_sorts L.toArray
    rw [show L.toArray.size = n by simpa using hn] at e
    have := hs.own
    rw [e] at this
    exact this
  · obtain ⟨n, hn⟩ : ∃ n, L.length = n := ⟨_, rfl⟩
    have e1 : sortP L = L := by
      unfold sortP
      match L, h2 with
      | [], _ => simp
      | [x], _ => simp
      | _ :: _ :: _, h => simp at h
    rw [e1, hn]
    rw [hn] at h2 ho
    have hk : ∃ f, Tryd.prog.funcs.findIdx? (·.name == "internal/reflectlite" ++ ".Swapper$" ++ toString (Lib.swapperK n infoE 25)) = some f := by
      have h01 : n = 0 ∨ n = 1 := by omega
      rcases h01 with rfl | rfl
      · exact ⟨71, by kernel_rfl⟩
      · exact ⟨72, by kernel_rfl⟩
    obtain ⟨f, hf⟩ := hk
    refine (Any.sort_Slice_tiny (ρ := Tryd.laysGg6_ren) Tryd.laysGg6 37 24 infoS infoE (by kernel_rfl) (by kernel_rfl) (by kernel_rfl) (by kernel_rfl) 25 (fun _ => by kernel_rfl) a n c (by omega) f hf (.func 48) #[] #[.pointer (some ⟨Bs, 0, none⟩)] W).mono ?_
    rintro e w' ⟨rfl, os, rfl⟩
    have hb2 : Go.RowKit.Below W.heap.size W (grow W os) := ⟨rfl, rfl, rfl, by simp [grow], fun k hk => heap_grow_old W os hk⟩
    exact ⟨rfl, ho.below hb2 (Nat.le_refl _), ⟨rfl, rfl, rfl, by simp [grow], fun k hk _ => heap_grow_old W os hk⟩⟩
end Go.Proofs.YtebogllfjhiblaaDoor
