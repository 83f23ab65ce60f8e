/-
  THE DOCUMENT's tables are H and K.
-/
import Derived.Test.YtmmocnokgcgmnaaDoorHRoots
import Derived.Test.YtmmocnokgcgmnaaDoorHRSum
namespace Go.Proofs.YtmmocnokgcgmnaaDoor
open Go.RowKit Go.Shelf
attribute [local go_sem] Oper.semAt_some
theorem results_two {fn : Func} {tmps : Array Value} {w : World} {g0 g1 : Nat} {t0 t1 : TypeId} {v0 v1 : List Value} (h : fn.results = #[.cell 0 60, .cell 1 64]) (h0 : tmps.getD 0 undef = .pointer (some ⟨g0, 0, none⟩)) (h1 : tmps.getD 1 undef = .pointer (some ⟨g1, 0, none⟩)) (a0 : Arr w g0 t0 v0) (a1 : Arr w g1 t1 v1) (l0 : v0.length = 8) (l1 : v1.length = 64) :
    (results fn tmps).run Tryd.prog w = .ok (.tuple #[.agg v0.toArray, .agg v1.toArray]) w := by
  have r0 := run_loadVar_row (P := Tryd.prog) w g0 t0 60 v0.toArray (0, 0) _ a0 Tryd.underlying60 rfl (by rw [Tryd.size60, ← l0]; rfl)
  have r1 := run_loadVar_row (P := Tryd.prog) w g1 t1 64 v1.toArray (0, 0) _ a1 Tryd.underlying64 rfl (by rw [Tryd.size64, ← l1]; rfl)
  have h0' : tmps[0]?.getD undef = .pointer (some ⟨g0, 0, none⟩) := by simpa using h0
  have h1' : tmps[1]?.getD undef = .pointer (some ⟨g1, 0, none⟩) := by simpa using h1
  simp [results, h, h0', h1', asAddr, r0, r1]
set_option maxHeartbeats 1600000 in
set_option maxRecDepth 100000 in
theorem begin_ok : BeginOk := by
  intro w
  refine (callsIn_wide (n := 3)).1 ?_
  refine callsIn_of_wp Tryd.func36 rfl trivial ?_ rfl
  simp only [Tryd.ntmps36, List.size_toArray, List.length_nil, Nat.reduceSub, Array.replicate_succ, Array.replicate_zero, List.push_toArray, List.append_toArray, List.nil_append, List.cons_append]
  gi_wp2
  obtain ⟨W0, hW0⟩ : ∃ W0, (((w.alloc (.cells (u32s (List.replicate 8 0)).toArray 60)).alloc (.cells (u32s (List.replicate 64 0)).toArray 64)).alloc (.cells (u32s (List.replicate 8 0)).toArray 60)).alloc (.cells (u32s (List.replicate 64 0)).toArray 64) = W0 := ⟨_, rfl⟩
  have B0 : Below w.heap.size w W0 := by rw [← hW0]; exact ((((Below.refl _ w).alloc (Nat.le_refl _) _).alloc (by simp) _).alloc (by simp; omega) _).alloc (by simp; omega) _
  have AX : Hid (Arr W0 w.heap.size 60 (u32s (List.replicate 8 0))) := by rw [← hW0]; exact (((Arr.new w 60 (u32s (List.replicate 8 0))).alloc _).alloc _).alloc _
  have AY : Hid (Arr W0 (w.heap.size + 1) 64 (u32s (List.replicate 64 0))) := by rw [← hW0]; exact ((Arr.new2 w _ 64 (u32s (List.replicate 64 0))).alloc _).alloc _
  have AH : Hid (Arr W0 (w.heap.size + 1 + 1) 60 (u32s (beginH.list.take (min 0 8) ++ (List.replicate 8 0).drop (min 0 8)))) := by
    rw [← hW0]
    have h := (Arr.new2 (w.alloc (.cells (u32s (List.replicate 8 0)).toArray 60)) (.cells (u32s (List.replicate 64 0)).toArray 64) 60 (u32s (List.replicate 8 0))).alloc (.cells (u32s (List.replicate 64 0)).toArray 64)
    rw [World.size_alloc] at h
    exact h
  have AK : Hid (Arr W0 (w.heap.size + 1 + 1 + 1) 64 (u32s (tabK.take 0 ++ (List.replicate 64 0).drop 0))) := by
    rw [← hW0]
    have h := Arr.new2 ((w.alloc (.cells (u32s (List.replicate 8 0)).toArray 60)).alloc (.cells (u32s (List.replicate 64 0)).toArray 64)) (.cells (u32s (List.replicate 8 0)).toArray 60) 64 (u32s (List.replicate 64 0))
    rw [World.size_alloc, World.size_alloc] at h
    exact h
  have hsz : W0.heap.size = w.heap.size + 4 := by rw [← hW0]; simp
  have BW := Lib.hid B0
  have hW2 : (((w.alloc (.cells #[.int .u32 0, .int .u32 0, .int .u32 0, .int .u32 0, .int .u32 0, .int .u32 0, .int .u32 0, .int .u32 0] 60)).alloc (.cells #[.int .u32 0, .int .u32 0, .int .u32 0, .int .u32 0, .int .u32 0, .int .u32 0, .int .u32 0, .int .u32 0, .int .u32 0, .int .u32 0, .int .u32 0, .int .u32 0, .int .u32 0, .int .u32 0, .int .u32 0, .int .u32 0, .int .u32 0, .int .u32 0, .int .u32 0, .int .u32 0, .int .u32 0, .int .u32 0, .int .u32 0, .int .u32 0, .int .u32 0, .int .u32 0, .int .u32 0, .int .u32 0, .int .u32 0, .int .u32 0, .int .u32 0, .int .u32 0, .int .u32 0, .int .u32 0, .int .u32 0, .int .u32 0, .int .u32 0, .int .u32 0, .int .u32 0, .int .u32 0, .int .u32 0, .int .u32 0, .int .u32 0, .int .u32 0, .int .u32 0, .int .u32 0, .int .u32 0, .int .u32 0, .int .u32 0, .int .u32 0, .int .u32 0, .int .u32 0, .int .u32 0, .int .u32 0, .int .u32 0, .int .u32 0, .int .u32 0, .int .u32 0, .int .u32 0, .int .u32 0, .int .u32 0, .int .u32 0, .int .u32 0, .int .u32 0] 64)).alloc (.cells #[.int .u32 0, .int .u32 0, .int .u32 0, .int .u32 0, .int .u32 0, .int .u32 0, .int .u32 0, .int .u32 0] 60)).alloc (.cells #[.int .u32 0, .int .u32 0, .int .u32 0, .int .u32 0, .int .u32 0, .int .u32 0, .int .u32 0, .int .u32 0, .int .u32 0, .int .u32 0, .int .u32 0, .int .u32 0, .int .u32 0, .int .u32 0, .int .u32 0, .int .u32 0, .int .u32 0, .int .u32 0, .int .u32 0, .int .u32 0, .int .u32 0, .int .u32 0, .int .u32 0, .int .u32 0, .int .u32 0, .int .u32 0, .int .u32 0, .int .u32 0, .int .u32 0, .int .u32 0, .int .u32 0, .int .u32 0, .int .u32 0, .int .u32 0, .int .u32 0, .int .u32 0, .int .u32 0, .int .u32 0, .int .u32 0, .int .u32 0, .int .u32 0, .int .u32 0, .int .u32 0, .int .u32 0, .int .u32 0, .int .u32 0, .int .u32 0, .int .u32 0, .int .u32 0, .int .u32 0, .int .u32 0, .int .u32 0, .int .u32 0, .int .u32 0, .int .u32 0, .int .u32 0, .int .u32 0, .int .u32 0, .int .u32 0, .int .u32 0, .int .u32 0, .int .u32 0, .int .u32 0, .int .u32 0] 64) = W0 := hW0
  rw [hW2]
  clear hW0 hW2 B0
  gi_loopw [4] (fun iv wr => ∃ i : Nat, i ≤ 64 ∧ iv = .int .i64 i ∧ Hid (Arr wr w.heap.size 60 (u32s (List.replicate 8 0))) ∧ Hid (Arr wr (w.heap.size + 1) 64 (u32s (List.replicate 64 0))) ∧ Hid (Arr wr (w.heap.size + 1 + 1) 60 (u32s (beginH.list.take (min i 8) ++ (List.replicate 8 0).drop (min i 8)))) ∧ Hid (Arr wr (w.heap.size + 1 + 1 + 1) 64 (u32s (tabK.take i ++ (List.replicate 64 0).drop i))) ∧ Hid (Below w.heap.size w wr)) (fun iv _ => 64 - (intOf iv).toNat)
  case atStart => exact ⟨0, by omega, rfl, AX, AY, AH, AK, BW⟩
  case round =>
    obtain ⟨i, hi, rfl, HX, HY, HH, HK, HB⟩ := hrel
    clear AX AY AH AK BW
    by_cases hlt : i < 64
    · obtain ⟨q, hq⟩ : ∃ q, primes[i]? = some q := ⟨_, List.getElem?_eq_getElem (show i < primes.length from hlt)⟩
      obtain ⟨kk, hkk⟩ : ∃ k, tabK[i]? = some k := ⟨_, List.getElem?_eq_getElem (show i < tabK.length from hlt)⟩
      have hq3 : q ≤ 311 := (show ∀ x ∈ primes, x ≤ 311 by decide) q (List.mem_of_getElem? hq)
      have hpr := prime_any i hlt q hq
      have hr3 := fun W => root_any q 3 hq3 (.inr rfl) W
      have hr2 := fun W => root_any q 2 hq3 (.inl rfl) W
      have HR3 := Lib.hid (fun x => root_k (x := x) hlt hq hkk)
      have HQ := Lib.hid hq
      have hek := Lib.hid (set_step (A := tabK) (B := List.replicate 64 0) (by rw [tabK_len, List.length_replicate]) hkk)
      obtain ⟨zk, hzk⟩ : ∃ z, (tabK.take i ++ (List.replicate 64 0).drop i)[i]? = some z := ⟨_, List.getElem?_eq_getElem (by simp [tabK_len]; omega)⟩
      have HZK := Lib.hid hzk
      clear hq hkk hzk
      have T1 : True := trivial
      by_cases h8 : i < 8
      · obtain ⟨hh, hhk⟩ : ∃ h, beginH.list[i]? = some h := ⟨_, List.getElem?_eq_getElem (show i < 8 from h8)⟩
        have hhl := V_lt beginH_ok hhk
        have HR2 := Lib.hid (fun x => root_h (x := x) h8 HQ.out hhk hhl)
        rw [show min i 8 = i by omega] at HH
        have heh := Lib.hid (set_step (A := beginH.list) (B := List.replicate 8 0) rfl hhk)
        obtain ⟨zh, hzh⟩ : ∃ z, (beginH.list.take i ++ (List.replicate 8 0).drop i)[i]? = some z := ⟨_, List.getElem?_eq_getElem (by simp; have : beginH.list.length = 8 := rfl; omega)⟩
        have HZH := Lib.hid hzh
        clear hhk hzh
        gi_wp2_with (first
          | (refine ⟨trivial, ?_⟩; gi_at_call 42; refine (callsIn_wide.2 (hpr _)).mono ?_; rintro e w' ⟨rfl, rfl⟩)
          | (refine ⟨trivial, ?_⟩; gi_at_call 43; have tt := T1; clear T1 tt; refine (callsIn_wide.2 (hr3 _)).mono ?_; rintro e w3 ⟨⟨x, hx, rfl⟩, hb3⟩; have ex := HR3.out x hx; rw [ex]; have ck : w3.cell? ⟨w.heap.size + 1 + 1 + 1, i, none⟩ = some (.int .u32 zk) := (by rw [(HK.out.below hb3 HK.out.lt).cell]; exact u32s_get HZK.out); have fk := (HK.out.below hb3 HK.out.lt).frozen i; have HB3 := Lib.hid hb3; clear hb3 hx ex)
          | (refine ⟨trivial, ?_⟩; gi_at_call 43; refine (callsIn_wide.2 (hr2 _)).mono ?_; rintro e w5 ⟨⟨x, hx, rfl⟩, hb5⟩; have ex := HR2.out x hx; rw [ex]; have ch : w5.cell? ⟨w.heap.size + 1 + 1, i, none⟩ = some (.int .u32 zh) := (by rw [(((HH.out.below HB3.out HH.out.lt).other (by omega) i (.int .u32 kk)).below hb5 (by have := (HH.out.below HB3.out HH.out.lt).lt; simp [World.setCell]; omega)).cell]; exact u32s_get HZH.out); have fh := (((HH.out.below HB3.out HH.out.lt).other (by omega : w.heap.size + 1 + 1 ≠ w.heap.size + 1 + 1 + 1) i (.int .u32 kk)).below hb5 (by have := (HH.out.below HB3.out HH.out.lt).lt; simp [World.setCell]; omega)).frozen i; have HB5 := Lib.hid hb5; clear hb5 hx ex))
        have X3 := (HX.out.below HB3.out HX.out.lt).other (show w.heap.size ≠ w.heap.size + 1 + 1 + 1 by omega) i (.int .u32 kk)
        have Y3 := (HY.out.below HB3.out HY.out.lt).other (show w.heap.size + 1 ≠ w.heap.size + 1 + 1 + 1 by omega) i (.int .u32 kk)
        have H3 := (HH.out.below HB3.out HH.out.lt).other (show w.heap.size + 1 + 1 ≠ w.heap.size + 1 + 1 + 1 by omega) i (.int .u32 kk)
        have K3 := (HK.out.below HB3.out HK.out.lt).set i (.int .u32 kk)
        have B3 := (HB.out.trans (HB3.out.mono HB.out.size)).setCell (p := ⟨w.heap.size + 1 + 1 + 1, i, none⟩) (by simp; omega) (.int .u32 kk)
        refine ⟨⟨i + 1, by omega, by go_num, (X3.below HB5.out X3.lt).other (by omega) _ _, (Y3.below HB5.out Y3.lt).other (by omega) _ _, ?_, ?_, (B3.trans (HB5.out.mono B3.size)).setCell (p := ⟨w.heap.size + 1 + 1, i, none⟩) (by simp; omega) _⟩, by simp [intOf]; omega⟩
        · rw [show min (i + 1) 8 = i + 1 by omega]
          unfold Hid
          rw [← heh.out, u32s_set]
          exact (H3.below HB5.out H3.lt).set i _
        · unfold Hid
          rw [← hek.out, u32s_set]
          exact (K3.below HB5.out K3.lt).other (by omega) _ _
      · gi_wp2_with (first
          | (refine ⟨trivial, ?_⟩; gi_at_call 42; refine (callsIn_wide.2 (hpr _)).mono ?_; rintro e w' ⟨rfl, rfl⟩)
          | (refine ⟨trivial, ?_⟩; gi_at_call 43; have tt := T1; clear T1 tt; refine (callsIn_wide.2 (hr3 _)).mono ?_; rintro e w3 ⟨⟨x, hx, rfl⟩, hb3⟩; have ex := HR3.out x hx; rw [ex]; have ck : w3.cell? ⟨w.heap.size + 1 + 1 + 1, i, none⟩ = some (.int .u32 zk) := (by rw [(HK.out.below hb3 HK.out.lt).cell]; exact u32s_get HZK.out); have fk := (HK.out.below hb3 HK.out.lt).frozen i; have HB3 := Lib.hid hb3; clear hb3 hx ex))
        refine ⟨⟨i + 1, by omega, by go_num, (HX.out.below HB3.out HX.out.lt).other (by omega) _ _, (HY.out.below HB3.out HY.out.lt).other (by omega) _ _, ?_, ?_, (HB.out.trans (HB3.out.mono HB.out.size)).setCell (p := ⟨w.heap.size + 1 + 1 + 1, i, none⟩) (by simp; omega) _⟩, by simp [intOf]; omega⟩
        · rw [show min (i + 1) 8 = min i 8 by omega]
          exact (HH.out.below HB3.out HH.out.lt).other (by omega) _ _
        · unfold Hid
          rw [← hek.out, u32s_set]
          exact (HK.out.below HB3.out HK.out.lt).set i _
    · obtain rfl : i = 64 := by omega
      have e8 : beginH.list.take (min 64 8) ++ (List.replicate 8 0).drop (min 64 8) = beginH.list := rfl
      have e64 : tabK.take 64 ++ (List.replicate 64 0).drop 64 = tabK := by decide
      rw [e8] at HH
      rw [e64] at HK
      rw [show ((64 : Nat) : Int) = 64 from rfl]
      gi_wp2
      refine wpIn_region_any (by kernel_rfl) ?_
      change wpAnyIn _ _ _ _ _ _ _ _ _ (World.drew _)
      refine wpAnyIn_ready (rs := [0, 1]) (by kernel_rfl) (by simp) ?_
      refine AllReadyIn.cons rfl (fun K hK => ?_) (AllReadyIn.cons rfl (fun K hK => ?_) AllReadyIn.nil)
      · refine stepIn_of rfl (opIn_load_arr 60 (.tmp 2) rfl (w.heap.size + 1 + 1) rfl (show Arr (World.drew wr) _ _ _ from HH.out) Tryd.underlying60 rfl Tryd.size60 rfl ?_)
        refine hK _ _ ?_
        clear hK K
        refine wpAnyIn_ready (rs := [1, 2]) (by kernel_rfl) (by simp) ?_
        refine AllReadyIn.cons rfl (fun K hK => ?_) (AllReadyIn.cons rfl (fun K hK => ?_) AllReadyIn.nil)
        · refine stepIn_of rfl (opIn_load_arr 64 (.tmp 3) rfl (w.heap.size + 1 + 1 + 1) rfl (show Arr (World.drew wr) _ _ _ from HK.out) Tryd.underlying64 rfl Tryd.size64 (by rw [u32s_len, tabK_len]) ?_)
          refine hK _ _ ?_
          clear hK K
          refine wpAnyIn_ready (rs := [2]) (by kernel_rfl) (by simp) ?_
          refine AllReadyIn.cons rfl (fun K hK => ?_) AllReadyIn.nil
          refine stepIn_of rfl (opIn_store_arr 60 (.tmp 0) (.tmp 22) rfl w.heap.size rfl rfl (show Arr (World.drew wr) _ _ _ from HX.out) Tryd.size60 rfl (by rw [u32s_len, List.length_replicate]) (u32s_one _) ?_)
          intro W2 A2 B2 O2
          refine hK _ _ ?_
          clear hK K
          refine wpAnyIn_ready (rs := [3]) (by kernel_rfl) (by simp) ?_
          refine AllReadyIn.cons rfl (fun K hK => ?_) AllReadyIn.nil
          refine stepIn_of rfl (opIn_store_arr 64 (.tmp 1) (.tmp 23) rfl (w.heap.size + 1) rfl rfl ((show Arr (World.drew wr) _ _ _ from HY.out).same O2.out.2 (by omega)) Tryd.size64 (by rw [u32s_len, tabK_len]) (by rw [u32s_len, List.length_replicate]) (u32s_one _) ?_)
          intro W3 A3 B3 O3
          refine hK _ _ ?_
          clear hK K
          refine wpAnyIn_done (by kernel_rfl) ?_ _
          gi_wp2
          refine bodyPost_ret (results_two rfl rfl rfl (A2.out.same O3.out.2 (by omega)) A3.out rfl (by rw [u32s_len, tabK_len])) rfl ?_
          exact ⟨rfl, (HB.out.drew.trans B2.out).trans (B3.out.mono (by omega))⟩
        · refine stepIn_of rfl (opIn_store_arr 60 (.tmp 0) (.tmp 22) rfl w.heap.size rfl rfl (show Arr (World.drew wr) _ _ _ from HX.out) Tryd.size60 rfl (by rw [u32s_len, List.length_replicate]) (u32s_one _) ?_)
          intro W2 A2 B2 O2
          refine hK _ _ ?_
          clear hK K
          refine wpAnyIn_ready (rs := [1]) (by kernel_rfl) (by simp) ?_
          refine AllReadyIn.cons rfl (fun K hK => ?_) AllReadyIn.nil
          refine stepIn_of rfl (opIn_load_arr 64 (.tmp 3) rfl (w.heap.size + 1 + 1 + 1) rfl ((show Arr (World.drew wr) _ _ _ from HK.out).same O2.out.2 (by omega)) Tryd.underlying64 rfl Tryd.size64 (by rw [u32s_len, tabK_len]) ?_)
          refine hK _ _ ?_
          clear hK K
          refine wpAnyIn_ready (rs := [3]) (by kernel_rfl) (by simp) ?_
          refine AllReadyIn.cons rfl (fun K hK => ?_) AllReadyIn.nil
          refine stepIn_of rfl (opIn_store_arr 64 (.tmp 1) (.tmp 23) rfl (w.heap.size + 1) rfl rfl ((show Arr (World.drew wr) _ _ _ from HY.out).same O2.out.2 (by omega)) Tryd.size64 (by rw [u32s_len, tabK_len]) (by rw [u32s_len, List.length_replicate]) (u32s_one _) ?_)
          intro W3 A3 B3 O3
          refine hK _ _ ?_
          clear hK K
          refine wpAnyIn_done (by kernel_rfl) ?_ _
          gi_wp2
          refine bodyPost_ret (results_two rfl rfl rfl (A2.out.same O3.out.2 (by omega)) A3.out rfl (by rw [u32s_len, tabK_len])) rfl ?_
          exact ⟨rfl, (HB.out.drew.trans B2.out).trans (B3.out.mono (by omega))⟩
      · refine stepIn_of rfl (opIn_load_arr 64 (.tmp 3) rfl (w.heap.size + 1 + 1 + 1) rfl (show Arr (World.drew wr) _ _ _ from HK.out) Tryd.underlying64 rfl Tryd.size64 (by rw [u32s_len, tabK_len]) ?_)
        refine hK _ _ ?_
        clear hK K
        refine wpAnyIn_ready (rs := [0]) (by kernel_rfl) (by simp) ?_
        refine AllReadyIn.cons rfl (fun K hK => ?_) AllReadyIn.nil
        refine stepIn_of rfl (opIn_load_arr 60 (.tmp 2) rfl (w.heap.size + 1 + 1) rfl (show Arr (World.drew wr) _ _ _ from HH.out) Tryd.underlying60 rfl Tryd.size60 rfl ?_)
        refine hK _ _ ?_
        clear hK K
        refine wpAnyIn_ready (rs := [2]) (by kernel_rfl) (by simp) ?_
        refine AllReadyIn.cons rfl (fun K hK => ?_) AllReadyIn.nil
        refine stepIn_of rfl (opIn_store_arr 60 (.tmp 0) (.tmp 22) rfl w.heap.size rfl rfl (show Arr (World.drew wr) _ _ _ from HX.out) Tryd.size60 rfl (by rw [u32s_len, List.length_replicate]) (u32s_one _) ?_)
        intro W2 A2 B2 O2
        refine hK _ _ ?_
        clear hK K
        refine wpAnyIn_ready (rs := [3]) (by kernel_rfl) (by simp) ?_
        refine AllReadyIn.cons rfl (fun K hK => ?_) AllReadyIn.nil
        refine stepIn_of rfl (opIn_store_arr 64 (.tmp 1) (.tmp 23) rfl (w.heap.size + 1) rfl rfl ((show Arr (World.drew wr) _ _ _ from HY.out).same O2.out.2 (by omega)) Tryd.size64 (by rw [u32s_len, tabK_len]) (by rw [u32s_len, List.length_replicate]) (u32s_one _) ?_)
        intro W3 A3 B3 O3
        refine hK _ _ ?_
        clear hK K
        refine wpAnyIn_done (by kernel_rfl) ?_ _
        gi_wp2
        refine bodyPost_ret (results_two rfl rfl rfl (A2.out.same O3.out.2 (by omega)) A3.out rfl (by rw [u32s_len, tabK_len])) rfl ?_
        exact ⟨rfl, (HB.out.drew.trans B2.out).trans (B3.out.mono (by omega))⟩
end Go.Proofs.YtmmocnokgcgmnaaDoor
