/-
  THE PROGRAM: the sum of bytes.
-/
import Derived.Test.YtmmocnokgcgmnaaDoorHStep
import Derived.Test.YtmmocnokgcgmnaaDoorHIter
namespace Go.Proofs.YtmmocnokgcgmnaaDoor
open Go.RowKit Go.Shelf
attribute [local go_sem] Oper.semAt_some
theorem Tryd.size50 : (Tryd.prog.info? 50).map (·.size) = some 32 := by kernel_rfl
theorem blocks_any (a : Option Addr) (len cap : Nat) (w : World) :
    Calls Tryd.prog 33 #[.slice a len cap] w fun e w' => e = .returned (.func (.func 39) #[] #[.pointer (some ⟨w.heap.size, 0, none⟩)]) ∧ w.alloc (.cells #[.slice a len cap] 23) = w' := by
  go_enter Tryd.func33, Tryd.ntmps33
  go_wp2
  go_ret
  exact ⟨rfl, rfl⟩
theorem ownFrom_arr {β : Type} (B g : Nat) (t : TypeId) (f : β → List Value) : OwnFrom B (fun s W => Arr W g t (f s)) := fun s W W' row h hg hr => by
  refine (hg.block g h.lt ?_).trans h
  rintro rfl
  obtain ⟨_, o, ho, hc⟩ := hr g rfl
  rw [show W.heap[g]? = _ from h] at ho
  cases ho
  simp [Obj.isCells] at hc
theorem runV_snoc (h : V8) (l : List (List Nat)) (b : List Nat) : runV h (l ++ [b]) = blockV (runV h l) b := by simp [runV]
theorem runV_ok {h : V8} (hh : h.ok) (l : List (List Nat)) : (runV h l).ok := by
  induction l generalizing h with
  | nil => exact hh
  | cons b l ih =>
    have e : runV h (b :: l) = runV (blockV h b) l := by rw [runV, List.foldl_cons, ← runV]
    rw [e]
    exact ih (h := blockV h b) (by rw [blockV, mixV]; exact addV_ok _ _)
theorem outV_get {V : V8} {k y : Nat} (h : V.list[k]? = some y) : (outV V)[4 * k]? = some (y / 2 ^ 24 % 256) ∧ (outV V)[4 * k + 1]? = some (y / 2 ^ 16 % 256) ∧ (outV V)[4 * k + 2]? = some (y / 2 ^ 8 % 256) ∧ (outV V)[4 * k + 3]? = some (y % 256) := by
  match k, h with
  | 0, h => cases h; exact ⟨rfl, rfl, rfl, rfl⟩
  | 1, h => cases h; exact ⟨rfl, rfl, rfl, rfl⟩
  | 2, h => cases h; exact ⟨rfl, rfl, rfl, rfl⟩
  | 3, h => cases h; exact ⟨rfl, rfl, rfl, rfl⟩
  | 4, h => cases h; exact ⟨rfl, rfl, rfl, rfl⟩
  | 5, h => cases h; exact ⟨rfl, rfl, rfl, rfl⟩
  | 6, h => cases h; exact ⟨rfl, rfl, rfl, rfl⟩
  | 7, h => cases h; exact ⟨rfl, rfl, rfl, rfl⟩
theorem V_lt {V : V8} (hV : V.ok) {k y : Nat} (h : V.list[k]? = some y) : y < 4294967296 := by
  obtain ⟨h0, h1, h2, h3, h4, h5, h6, h7⟩ := hV
  match k, h with
  | 0, h => cases h; exact h0
  | 1, h => cases h; exact h1
  | 2, h => cases h; exact h2
  | 3, h => cases h; exact h3
  | 4, h => cases h; exact h4
  | 5, h => cases h; exact h5
  | 6, h => cases h; exact h6
  | 7, h => cases h; exact h7
set_option maxHeartbeats 1600000 in
set_option maxRecDepth 100000 in
theorem psum_any (a : Option Addr) (cap : Nat) (b : List Nat) (hb : ∀ x ∈ b, x < 256) (hcap : b.length ≤ cap) (hlen : b.length ≤ 140737488355328) (w : World) (hr : RdN w.heap.size w a b) (hT : Tabs w) :
    Calls Tryd.prog 30 #[.slice a b.length cap] w fun e w' => e = .returned (.agg (u8s (sumL b)).toArray) ∧ Below w.heap.size w w' := by
  refine (callsIn_wide (n := 3)).1 ?_
  have h1 : 1 ≤ 3 := by decide
  obtain ⟨R, hR⟩ : ∃ R, sumL b = R := ⟨_, rfl⟩
  rw [hR]
  have HR : Hid (Unit → sumL b = R) := fun _ => hR
  clear hR
  refine callsIn_of_wp_marks Tryd.func30 rfl trivial ?_ rfl
  simp only [Tryd.ntmps30, List.size_toArray, List.length_cons, List.length_nil, Nat.reduceAdd, Nat.reduceSub, Array.replicate_succ, Array.replicate_zero, List.push_toArray, List.append_toArray, List.nil_append, List.cons_append]
  have TW : ∀ o : Obj, Tabs (w.alloc o) := fun o => hT.below ((Below.refl _ w).alloc (Nat.le_refl _) o) hT.pos
  have A1 : ∀ (o : Obj) (vs : List Value), Arr ((w.alloc o).alloc (.cells vs.toArray 60)) (w.heap.size + 1) 60 vs := fun o vs => Arr.new2 w o 60 vs
  gi_wp2_with (first
    | (refine wpListIn_plain rfl fun K hK => opIn_load_mid 60 (.global 0) rfl 0 0 rfl (TW _).1 Tryd.underlying60 rfl Tryd.size60 rfl (hK _ _ ?_); clear hK K)
    | (refine wpListIn_plain rfl fun K hK => opIn_store_arr 60 (.tmp 3) (.tmp 8) rfl _ rfl rfl (A1 _ [.int .u32 0, .int .u32 0, .int .u32 0, .int .u32 0, .int .u32 0, .int .u32 0, .int .u32 0, .int .u32 0]) Tryd.size60 rfl rfl (u32s_one _) ?_; intro W1 AV HB1 HO1; refine hK _ _ ?_; clear hK K)
    | (refine ⟨trivial, ?_⟩; gi_at_call 33; refine (callsIn_wide.2 (blocks_any _ _ _ _)).mono ?_; rintro e w' ⟨rfl, hw'⟩))
  obtain ⟨s, hs⟩ : ∃ s, w.heap.size = s := ⟨_, rfl⟩
  have hsz1 : W1.heap.size = s + 2 := by rw [HO1.out.1]; simp; omega
  have AZ1 : Arr W1 w.heap.size 50 (u8s (List.replicate 32 0)) := (((Arr.new w 50 (u8s (List.replicate 32 0))).alloc _)).same HO1.out.2 (by omega)
  have BZ1 : Below w.heap.size w W1 := (((Below.refl _ w).alloc (Nat.le_refl _) _).alloc (by simp) _).trans (HB1.out.mono (by omega))
  have hsz0 : w'.heap.size = s + 3 := by rw [← hw']; simp; omega
  have AV0 : Arr w' (s + 1) 60 (u32s beginH.list) := by rw [← hw', ← hs]; exact AV.out.alloc _
  have AZ0 : Arr w' s 50 (u8s (List.replicate 32 0)) := by rw [← hw', ← hs]; exact AZ1.alloc _
  have BZ0 : Below s w w' := by rw [← hw', ← hs]; exact BZ1.alloc (by omega) _
  have BX0 : Boxed w' (s + 2) 23 (.slice a b.length cap) := by rw [← hw', ← hsz1]; exact Boxed.new W1 23 _
  rw [hsz1]
  rw [hs] at hr
  have hTw := hT
  clear AZ1 BZ1 AV HB1 HO1 hw' A1 TW hsz1
  obtain ⟨bb, off, hr0⟩ : ∃ bb off, 0 < b.length → a = some ⟨bb, off, none⟩ ∧ bb < w'.heap.size ∧ bb ≠ s + 1 ∧ ∀ (j x : Nat), b[j]? = some x → w'.cell? ⟨bb, off + j, none⟩ = some (.int .u8 x) := by
    by_cases h0 : 0 < b.length
    · obtain ⟨bb, off, e, hbb, hc⟩ := hr h0
      exact ⟨bb, off, fun _ => ⟨e, by omega, by omega, fun j x hx => (BZ0.cell (p := ⟨bb, off + j, none⟩) hbb).trans (hc j x hx)⟩⟩
    · exact ⟨0, 0, fun h => absurd h h0⟩
  have HH := blocks1_hands (s + 2) (s + 1) bb off cap a b hb hcap hlen w' BX0 (by omega) hr0 (by omega)
  rw [hs]
  refine wpIn_range_hands rfl h1 (gf := 39) (lb := #[.pointer (some ⟨s + 2, 0, none⟩)]) rfl trivial (enters_of Tryd.func39 (by kernel_rfl) rfl) HH rfl
    (fun pre W => (Arr W (s + 1) 60 (u32s (runV beginH (pre.map Blk.bytes)).list) ∧ Arr W s 50 (u8s (List.replicate 32 0))) ∧ Below s w W)
    (OwnFrom.and (OwnFrom.and (ownFrom_arr _ _ _ _) (ownFrom_arr _ _ _ _)) (ownFrom_below (by omega) (by omega))) ⟨⟨AV0, AZ0⟩, BZ0⟩
    (fun x => { tmps := #[.slice a b.length cap, undef, .pointer (some ⟨s, 0, none⟩), .pointer (some ⟨s + 1, 0, none⟩), .slice (some ⟨x.b, x.off, none⟩) 64 x.cap, undef, undef, undef, .agg (u32s beginH.list).toArray, .slice a b.length cap, .func (.func 39) #[] #[.pointer (some ⟨s + 2, 0, none⟩)], .slice (some ⟨x.b, x.off, none⟩) 64 x.cap, undef, undef, undef, undef, undef, undef, undef, undef, undef, undef, undef, undef, undef, undef, undef, undef, undef, undef, undef, undef, undef, undef, undef, undef, undef, undef, undef, undef, undef, undef, undef, undef, undef, undef, undef, undef, undef], defers := [] }) ?assign ?body ?done
  case assign =>
    intro l x W K hK
    simp only [Blk.enc]
    gi_wp2
    exact hK
  case body =>
    rintro l pre x W ⟨⟨hA, hZ⟩, hB⟩ hx
    have hpos := hTw.pos
    have hTW : Tabs W := hTw.below hB (by omega)
    have hWp := hTW.pos
    obtain ⟨H, hH⟩ : ∃ H, runV beginH (pre.map Blk.bytes) = H := ⟨_, rfl⟩
    have hok : H.ok := hH ▸ runV_ok beginH_ok _
    have hrun : runV beginH ((pre ++ [x]).map Blk.bytes) = mixV H tabK (schedL x.bytes) := by rw [List.map_append, List.map_singleton, runV_snoc, hH]; rfl
    rw [hH] at hA
    have hsch := schedule_any (some ⟨x.b, x.off, none⟩) x.cap x.bytes x.len x.lt
    have hmix := mixed_any H hok (schedL x.bytes) (schedL_len _) (schedL_lt x.lt)
    obtain ⟨V, hV⟩ : ∃ V, mixV H tabK (schedL x.bytes) = V := ⟨_, rfl⟩
    rw [hV] at hmix hrun
    have hAl := hA.lt
    have hAr : ∀ w2, Below W.heap.size W w2 → Arr w2 (s + 1) 60 (u32s H.list) := fun w2 h => hA.below h hAl
    have hbWd : Below W.heap.size W W.drew := (Below.refl _ W).drew
    have hfin : ∀ (w2 w3 : World), Below W.heap.size W w2 → Arr w3 (s + 1) 60 (u32s V.list) → Below (s + 1) w2 w3 → (w3.heap.size = w2.heap.size ∧ ∀ k, k ≠ s + 1 → w3.heap[k]? = w2.heap[k]?) →
        KeepsFrom w'.heap.size W w3 ∧ KeepB (s + 1) W w3 ∧ ((Arr w3 (s + 1) 60 (u32s (runV beginH ((pre ++ [x]).map Blk.bytes)).list) ∧ Arr w3 s 50 (u8s (List.replicate 32 0))) ∧ Below s w w3) := by
      intro w2 w3 h2 h3 h4 h5
      have hs3 : W.heap.size ≤ w3.heap.size := by have := h2.size; omega
      have hsame : ∀ k, k < W.heap.size → k ≠ s + 1 → w3.heap[k]? = W.heap[k]? := fun k hk hne => (h5.2 k hne).trans (h2.block k hk)
      refine ⟨⟨hs3, fun k o _ hk ho => ?_⟩, ⟨hs3, fun k cs t fr hne hk => (hsame k (Array.getElem?_eq_some_iff.1 hk).1 hne).trans hk⟩, ⟨by rw [hrun]; exact h3, ?_⟩, (hB.trans (h2.mono (by omega))).trans (h4.mono (by omega))⟩
      · refine (hsame k (Array.getElem?_eq_some_iff.1 hk).1 ?_).trans hk
        rintro rfl
        rw [show W.heap[s + 1]? = _ from hA] at hk
        cases hk
        simp [Obj.isCells] at ho
      · exact (hsame s (by omega) (by omega)).trans hZ
    clear hA hZ hH hV
    gi_wp2
    refine wpIn_region_any (by kernel_rfl) ?_
    change wpAnyIn _ _ _ _ _ _ _ _ _ (World.drew _)
    refine wpAnyIn_ready (rs := [0, 1]) (by kernel_rfl) (by simp) ?_
    refine AllReadyIn.cons rfl (fun K hK => ?_) (AllReadyIn.cons rfl (fun K hK => ?_) AllReadyIn.nil)
    · refine stepIn_of rfl (opIn_load_arr 60 (.tmp 3) rfl (s + 1) rfl (hAr W.drew hbWd) Tryd.underlying60 rfl Tryd.size60 rfl ?_)
      refine hK _ _ ?_
      clear hK K
      refine wpAnyIn_ready (rs := [1]) (by kernel_rfl) (by simp) ?_
      refine AllReadyIn.cons rfl (fun K hK => ?_) AllReadyIn.nil
      go_simp
      refine hK _ _ ?_
      clear hK K
      refine wpAnyIn_ready (rs := [2]) (by kernel_rfl) (by simp) ?_
      refine AllReadyIn.cons rfl (fun K hK => ?_) AllReadyIn.nil
      go_simp
      refine ⟨trivial, ?_⟩
      refine (CallsIn.inRound l (callsIn_wide.2 (hsch W.drew (show RdN W.drew.heap.size W.drew _ _ from hx.rd)))).mono ?_
      rintro e w1 ⟨rfl, hbl1⟩
      have hbw1 : Below W.heap.size W w1 := (Below.refl _ W).drew.trans hbl1
      refine hK _ _ ?_
      clear hK K
      refine wpAnyIn_ready (rs := [3]) (by kernel_rfl) (by simp) ?_
      refine AllReadyIn.cons rfl (fun K hK => ?_) AllReadyIn.nil
      go_simp
      refine ⟨trivial, ?_⟩
      refine (CallsIn.inRound l (callsIn_wide.2 (hmix w1 (hTW.below hbw1 (by omega))))).mono ?_
      rintro e w2 ⟨rfl, hbl2⟩
      have hbw2 : Below W.heap.size W w2 := hbw1.trans (hbl2.mono hbw1.size)
      refine hK _ _ ?_
      clear hK K
      refine wpAnyIn_ready (rs := [4]) (by kernel_rfl) (by simp) ?_
      refine AllReadyIn.cons rfl (fun K hK => ?_) AllReadyIn.nil
      refine stepIn_of rfl (opIn_store_arr 60 (.tmp 3) (.tmp 15) rfl (s + 1) rfl rfl (hAr w2 hbw2) Tryd.size60 rfl rfl (u32s_one _) ?_)
      intro w3 A3 B3 O3
      refine hK _ _ ?_
      clear hK K
      refine wpAnyIn_done (by kernel_rfl) ?_ _
      exact hfin w2 w3 hbw2 A3.out B3.out O3.out
    · go_simp
      refine hK _ _ ?_
      clear hK K
      refine wpAnyIn_ready (rs := [0, 2]) (by kernel_rfl) (by simp) ?_
      refine AllReadyIn.cons rfl (fun K hK => ?_) (AllReadyIn.cons rfl (fun K hK => ?_) AllReadyIn.nil)
      · refine stepIn_of rfl (opIn_load_arr 60 (.tmp 3) rfl (s + 1) rfl (hAr W.drew hbWd) Tryd.underlying60 rfl Tryd.size60 rfl ?_)
        refine hK _ _ ?_
        clear hK K
        refine wpAnyIn_ready (rs := [2]) (by kernel_rfl) (by simp) ?_
        refine AllReadyIn.cons rfl (fun K hK => ?_) AllReadyIn.nil
        go_simp
        refine ⟨trivial, ?_⟩
        refine (CallsIn.inRound l (callsIn_wide.2 (hsch W.drew (show RdN W.drew.heap.size W.drew _ _ from hx.rd)))).mono ?_
        rintro e w1 ⟨rfl, hbl1⟩
        have hbw1 : Below W.heap.size W w1 := (Below.refl _ W).drew.trans hbl1
        refine hK _ _ ?_
        clear hK K
        refine wpAnyIn_ready (rs := [3]) (by kernel_rfl) (by simp) ?_
        refine AllReadyIn.cons rfl (fun K hK => ?_) AllReadyIn.nil
        go_simp
        refine ⟨trivial, ?_⟩
        refine (CallsIn.inRound l (callsIn_wide.2 (hmix w1 (hTW.below hbw1 (by omega))))).mono ?_
        rintro e w2 ⟨rfl, hbl2⟩
        have hbw2 : Below W.heap.size W w2 := hbw1.trans (hbl2.mono hbw1.size)
        refine hK _ _ ?_
        clear hK K
        refine wpAnyIn_ready (rs := [4]) (by kernel_rfl) (by simp) ?_
        refine AllReadyIn.cons rfl (fun K hK => ?_) AllReadyIn.nil
        refine stepIn_of rfl (opIn_store_arr 60 (.tmp 3) (.tmp 15) rfl (s + 1) rfl rfl (hAr w2 hbw2) Tryd.size60 rfl rfl (u32s_one _) ?_)
        intro w3 A3 B3 O3
        refine hK _ _ ?_
        clear hK K
        refine wpAnyIn_done (by kernel_rfl) ?_ _
        exact hfin w2 w3 hbw2 A3.out B3.out O3.out
      · go_simp
        refine ⟨trivial, ?_⟩
        refine (CallsIn.inRound l (callsIn_wide.2 (hsch W.drew (show RdN W.drew.heap.size W.drew _ _ from hx.rd)))).mono ?_
        rintro e w1 ⟨rfl, hbl1⟩
        have hbw1 : Below W.heap.size W w1 := (Below.refl _ W).drew.trans hbl1
        refine hK _ _ ?_
        clear hK K
        refine wpAnyIn_ready (rs := [0]) (by kernel_rfl) (by simp) ?_
        refine AllReadyIn.cons rfl (fun K hK => ?_) AllReadyIn.nil
        refine stepIn_of rfl (opIn_load_arr 60 (.tmp 3) rfl (s + 1) rfl (hAr w1 hbw1) Tryd.underlying60 rfl Tryd.size60 rfl ?_)
        refine hK _ _ ?_
        clear hK K
        refine wpAnyIn_ready (rs := [3]) (by kernel_rfl) (by simp) ?_
        refine AllReadyIn.cons rfl (fun K hK => ?_) AllReadyIn.nil
        go_simp
        refine ⟨trivial, ?_⟩
        refine (CallsIn.inRound l (callsIn_wide.2 (hmix w1 (hTW.below hbw1 (by omega))))).mono ?_
        rintro e w2 ⟨rfl, hbl2⟩
        have hbw2 : Below W.heap.size W w2 := hbw1.trans (hbl2.mono hbw1.size)
        refine hK _ _ ?_
        clear hK K
        refine wpAnyIn_ready (rs := [4]) (by kernel_rfl) (by simp) ?_
        refine AllReadyIn.cons rfl (fun K hK => ?_) AllReadyIn.nil
        refine stepIn_of rfl (opIn_store_arr 60 (.tmp 3) (.tmp 15) rfl (s + 1) rfl rfl (hAr w2 hbw2) Tryd.size60 rfl rfl (u32s_one _) ?_)
        intro w3 A3 B3 O3
        refine hK _ _ ?_
        clear hK K
        refine wpAnyIn_done (by kernel_rfl) ?_ _
        exact hfin w2 w3 hbw2 A3.out B3.out O3.out
  case done =>
    rintro D ys W hD hS ⟨⟨hA, hZ⟩, hB⟩ hK
    obtain ⟨V, hV⟩ : ∃ V, runV beginH (ys.map Blk.bytes) = V := ⟨_, rfl⟩
    have hVok : V.ok := hV ▸ runV_ok beginH_ok _
    have HRV : Hid (Unit → outV V = R) := fun _ => by rw [← HR.out (), sumL, ← hS, hV]
    rw [hV] at hA
    clear hV hS HH
    have hAl := hA.lt
    have hDl : D < W.heap.size := (Array.getElem?_eq_some_iff.1 hK).1
    have AN : Arr (W.alloc (.cells (u8s (List.replicate 32 0)).toArray 50)) W.heap.size 50 (u8s ((outV V).take (4 * 0) ++ (List.replicate 32 0).drop (4 * 0))) := Arr.new W 50 (u8s (List.replicate 32 0))
    have AM := hA.alloc (.cells (u8s (List.replicate 32 0)).toArray 50)
    have AZ := hZ.alloc (.cells (u8s (List.replicate 32 0)).toArray 50)
    have BM := hB.alloc (show s ≤ W.heap.size by omega) (.cells (u8s (List.replicate 32 0)).toArray 50)
    have KM : (W.alloc (.cells (u8s (List.replicate 32 0)).toArray 50)).heap[D]? = some (.deferred (some [])) := (Below.heap_alloc _ _ _ hDl).trans hK
    obtain ⟨g, hg⟩ : ∃ g, W.heap.size = g := ⟨_, rfl⟩
    have HA := Lib.hid hA
    gi_wp2_with (first
      | (refine wpListIn_plain rfl fun K hK => opIn_load_arr 60 (.tmp 3) rfl (s + 1) rfl (HA.out.alloc _) Tryd.underlying60 rfl Tryd.size60 rfl (hK _ _ ?_); clear hK K))
    obtain ⟨WN, hWN⟩ : ∃ WN, W.alloc (.cells (u8s (List.replicate 32 0)).toArray 50) = WN := ⟨_, rfl⟩
    rw [hWN] at AN AM AZ BM KM
    have hWN2 : W.alloc (.cells #[.int .u8 0, .int .u8 0, .int .u8 0, .int .u8 0, .int .u8 0, .int .u8 0, .int .u8 0, .int .u8 0, .int .u8 0, .int .u8 0, .int .u8 0, .int .u8 0, .int .u8 0, .int .u8 0, .int .u8 0, .int .u8 0, .int .u8 0, .int .u8 0, .int .u8 0, .int .u8 0, .int .u8 0, .int .u8 0, .int .u8 0, .int .u8 0, .int .u8 0, .int .u8 0, .int .u8 0, .int .u8 0, .int .u8 0, .int .u8 0, .int .u8 0, .int .u8 0] 50) = WN := hWN
    rw [hWN2]
    clear hWN hWN2 AZ0 hZ hB hA
    rw [hg] at AN hDl
    have hVl : ∀ k, k < 8 → ∃ y, V.list[k]? = some y := fun k hk => ⟨_, List.getElem?_eq_getElem hk⟩
    try rw [hg]
    gi_loopw [17] (fun iv wr => ∃ k : Nat, k ≤ 8 ∧ iv = .int .i64 k ∧ Hid (Arr wr g 50 (u8s ((outV V).take (4 * k) ++ (List.replicate 32 0).drop (4 * k)))) ∧ Hid (Arr wr s 50 (u8s (List.replicate 32 0))) ∧ Hid (Below s w wr) ∧ Hid (wr.heap[D]? = some (.deferred (some [])))) (fun iv _ => 8 - (intOf iv).toNat)
    case atStart => exact ⟨0, by omega, rfl, AN, AZ, BM, KM⟩
    case round =>
      obtain ⟨k, hk, rfl, AK, AS, BK, KK⟩ := hrel
      clear AN AZ BM KM AM
      by_cases hlt : k < 8
      · obtain ⟨y, hy⟩ := hVl k hlt
        have hix : (u32s V.list).toArray[k]? = some (.int .u32 y) := by simpa using u32s_get hy
        have hrun := fun W => run_index_arr (P := Tryd.prog) Tryd.underlying60 Tryd.underlying59 Tryd.size59 hlt hix W
        obtain ⟨o0, o1, o2, o3⟩ := outV_get hy
        have hyl := V_lt hVok hy
        obtain ⟨j, hj⟩ : ∃ j, 4 * k = j := ⟨_, rfl⟩
        rw [hj] at o0 o1 o2 o3 AK
        have hc : ∀ i, i < 32 → ∃ z, ((outV V).take j ++ (List.replicate 32 0).drop j)[i]? = some z := fun i hi => ⟨_, List.getElem?_eq_getElem (by simp [outV_len]; omega)⟩
        obtain ⟨z0, hz0⟩ := hc j (by omega)
        obtain ⟨z1, hz1⟩ := hc (j + 1) (by omega)
        obtain ⟨z2, hz2⟩ := hc (j + 2) (by omega)
        obtain ⟨z3, hz3⟩ := hc (j + 3) (by omega)
        have c0 : wr.cell? ⟨g, j, none⟩ = some (.int .u8 z0) := by rw [AK.out.cell]; exact u8s_get hz0
        have c1 : wr.cell? ⟨g, j + 1, none⟩ = some (.int .u8 z1) := by rw [AK.out.cell]; exact u8s_get hz1
        have c2 : wr.cell? ⟨g, j + 2, none⟩ = some (.int .u8 z2) := by rw [AK.out.cell]; exact u8s_get hz2
        have c3 : wr.cell? ⟨g, j + 3, none⟩ = some (.int .u8 z3) := by rw [AK.out.cell]; exact u8s_get hz3
        have f0 := AK.out.frozen j
        have f1 := AK.out.frozen (j + 1)
        have f2 := AK.out.frozen (j + 2)
        have f3 := AK.out.frozen (j + 3)
        have hji : (4 : Int) * (k : Int) = (j : Int) := by omega
        clear hc hz0 hz1 hz2 hz3 hy hix
        gi_wp2
        have hl : (outV V).length = (List.replicate 32 0 : List Nat).length := by rw [outV_len, List.length_replicate]
        have e0 := set_step hl o0
        have e1 := set_step hl o1
        have e2 := set_step hl o2
        have e3 := set_step hl o3
        have hb4 : Below g wr ((((wr.setCell ⟨g, j, none⟩ (.int .u8 ((y : Int) / 16777216))).setCell ⟨g, j + 1, none⟩ (.int .u8 ((y : Int) / 65536 % 256))).setCell ⟨g, j + 2, none⟩ (.int .u8 ((y : Int) / 256 % 256))).setCell ⟨g, j + 3, none⟩ (.int .u8 ((y : Int) % 256))) :=
          ((((Below.refl g wr).setCell (p := ⟨g, j, none⟩) (Nat.le_refl _) _).setCell (p := ⟨g, j + 1, none⟩) (Nat.le_refl _) _).setCell (p := ⟨g, j + 2, none⟩) (Nat.le_refl _) _).setCell (p := ⟨g, j + 3, none⟩) (Nat.le_refl _) _
        refine ⟨⟨k + 1, by omega, by go_num, ?_, AS.out.below hb4 (by omega), BK.out.trans (hb4.mono (by omega)), (hb4.block D (by omega)).trans KK.out⟩, by simp [intOf]; omega⟩
        have v0 : ((y / 2 ^ 24 % 256 : Nat) : Int) = (y : Int) / 16777216 := by omega
        have v1 : ((y / 2 ^ 16 % 256 : Nat) : Int) = (y : Int) / 65536 % 256 := by omega
        have v2 : ((y / 2 ^ 8 % 256 : Nat) : Int) = (y : Int) / 256 % 256 := by omega
        have v3 : ((y % 256 : Nat) : Int) = (y : Int) % 256 := by omega
        have h := (((AK.out.set j (.int .u8 ((y : Int) / 16777216))).set (j + 1) (.int .u8 ((y : Int) / 65536 % 256))).set (j + 2) (.int .u8 ((y : Int) / 256 % 256))).set (j + 3) (.int .u8 ((y : Int) % 256))
        rw [← v0, ← v1, ← v2, ← v3, ← u8s_set, ← u8s_set, ← u8s_set, ← u8s_set, e0, e1, e2, e3] at h
        rw [← v0, ← v1, ← v2, ← v3, show 4 * (k + 1) = j + 3 + 1 by omega]
        exact h
      · obtain rfl : k = 8 := by omega
        have e32 : (outV V).take (4 * 8) ++ (List.replicate 32 0).drop (4 * 8) = R := by rw [HRV.out (), List.take_of_length_le (by rw [← HRV.out (), outV_len]; decide), List.drop_of_length_le (by simp), List.append_nil]
        have hRl : R.length = 32 := by rw [← HRV.out (), outV_len]
        rw [e32] at AK
        rw [show ((8 : Nat) : Int) = 8 from rfl]
        gi_wp2_with (first
          | (refine wpListIn_plain rfl fun K hK => opIn_load_arr 50 (.tmp 5) rfl g rfl AK.out Tryd.underlying50 rfl Tryd.size50 (by rw [u8s_len, hRl]) (hK _ _ ?_); clear hK K)
          | (refine wpListIn_plain rfl fun K hK => opIn_store_arr 50 (.tmp 2) (.tmp 48) rfl _ rfl rfl AS.out Tryd.size50 (by rw [u8s_len, hRl]) (by rw [u8s_len, List.length_replicate]) (u8s_one _) ?_; intro W5 A5 B5 O5; refine hK _ _ ?_; clear hK K))
        have K5 : W5.heap[D]? = some (.deferred (some [])) := (O5.out.2 D (by omega)).trans KK.out
        have P5 := KeepB.putObj 0 (.deferred none) K5 rfl
        refine ⟨by simp, .inl ⟨_, _, rfl, run_takeDeferred K5, ?_⟩⟩
        refine ⟨.agg (u8s R).toArray, ?_, rfl, by rw [hs]; exact (BK.out.trans B5.out).trans (belowK_b (n₀ := s) (w := w') (by omega) W5 D _ _ hD K5 rfl rfl)⟩
        exact results_arr rfl rfl (A5.out.keepB P5 (by have := hTw.pos; omega)) Tryd.underlying50 rfl Tryd.size50 (by rw [u8s_len, hRl])
end Go.Proofs.YtmmocnokgcgmnaaDoor
