/-
  THE PROGRAM: the sum by a key.
-/
import Derived.Test.YtmmocnokgcgmnaaDoorHBehind
namespace Go.Proofs.YtmmocnokgcgmnaaDoor
open Go.RowKit
theorem outV_lt (V : V8) : ∀ x ∈ outV V, x < 256 := by
  intro x hx
  obtain ⟨y, _, hy⟩ := List.mem_flatMap.1 hx
  simp only [out4, List.mem_cons, List.not_mem_nil, or_false] at hy
  omega
theorem full_len (key : List Nat) : (full key).length = 64 := by
  have : (keyL key).length ≤ 64 := by
    unfold keyL
    split
    · have h : (sumL key).length = 32 := outV_len _
      omega
    · omega
  simp [full]
  omega
theorem full_lt {key : List Nat} (h : ∀ x ∈ key, x < 256) : ∀ x ∈ full key, x < 256 := by
  intro x hx
  rcases List.mem_append.1 hx with hx | hx
  · unfold keyL at hx
    split at hx
    · exact outV_lt _ x hx
    · exact h x hx
  · rw [(List.mem_replicate.1 hx).2]; decide
theorem maskL_lt {l : List Nat} (h : ∀ x ∈ l, x < 256) {m : Nat} (hm : m < 256) : ∀ x ∈ maskL l m, x < 256 := by
  intro x hx
  obtain ⟨y, hy, rfl⟩ := List.mem_map.1 hx
  exact Nat.xor_lt_two_pow (n := 8) (h y hy) hm
set_option maxHeartbeats 1600000 in
set_option maxRecDepth 100000 in
theorem pmac_any (kA : Option Addr) (kc : Nat) (key : List Nat) (hkb : ∀ x ∈ key, x < 256) (hkc : key.length ≤ kc) (hkl : key.length ≤ 1000000) (a : Option Addr) (cap : Nat) (b : List Nat) (hb : ∀ x ∈ b, x < 256) (hlen : b.length ≤ 1000000) (w : World) (hkr : RdN w.heap.size w kA key) (hr : RdN w.heap.size w a b) (hT : Tabs w) :
    Calls Tryd.prog 25 #[.slice kA key.length kc, .slice a b.length cap] w fun e w' => e = .returned (.agg (u8s (macL key b)).toArray) ∧ Below w.heap.size w w' := by
  refine (callsIn_wide (n := 3)).1 ?_
  by_cases hlong : 64 < key.length
  · refine callsIn_of_wp Tryd.func25 rfl trivial ?_ rfl
    simp only [Tryd.ntmps25, List.size_toArray, List.length_cons, List.length_nil, Nat.reduceAdd, Nat.reduceSub, Array.replicate_succ, Array.replicate_zero, List.push_toArray, List.append_toArray, List.nil_append, List.cons_append]
    have hKe : full key = sumL key ++ (List.replicate 64 0).drop (sumL key).length := by rw [full, keyL, if_pos hlong, List.drop_replicate]
    have hS1 := psum_any kA kc key hkb hkc (by omega)
    obtain ⟨SK, hSK⟩ : ∃ SK, sumL key = SK := ⟨_, rfl⟩
    have hSl : SK.length = 32 := by rw [← hSK]; rfl
    have hSb : ∀ x ∈ SK, x < 256 := by rw [← hSK]; exact outV_lt _
    rw [hSK] at hS1 hKe
    clear hSK
    gi_wp2_with (first
      | (refine ⟨trivial, ?_⟩; gi_at_call 30; refine (callsIn_wide.2 (hS1 _ (hkr.below ((Below.refl w.heap.size w).alloc (Nat.le_refl _) _) (Nat.le_refl _) |>.mono (by simp)) (hT.below ((Below.refl w.heap.size w).alloc (Nat.le_refl _) _) hT.pos))).mono ?_; rintro e w1 ⟨rfl, hb1⟩; have HB1 := Lib.hid hb1; clear hb1)
      | (refine wpListIn_plain rfl fun K hK => opIn_store_arr 50 (.tmp 5) (.tmp 12) rfl w1.heap.size rfl rfl (show Arr _ w1.heap.size 50 (u8s (List.replicate 32 0)) from Arr.new w1 50 (u8s (List.replicate 32 0))) Tryd.size50 (by rw [u8s_len, hSl]) rfl (u8s_one _) ?_; intro W0 AS0 HBS HOS; refine hK _ _ ?_; clear hK K)
      | (refine wpListIn_plain rfl fun K hK => opIn_copy_bytes (.tmp 14) (.tmp 15) rfl (bs := SK) (n₀ := W0.heap.size) rfl rfl hSl (Arr.new W0 57 (u8s (List.replicate 64 0))) ?c1 ?c2 ?c3 ?c4))
    case c1 => exact (RdN.arr (n₀ := W0.heap.size) AS0.out AS0.out.lt).below ((Below.refl W0.heap.size W0).alloc (Nat.le_refl _) _) (Nat.le_refl _)
    case c2 => rw [hSl, List.length_replicate]; decide
    case c3 => rw [hSl]; decide
    intro W6 A6 B6 S6
    refine hK _ _ ?_
    clear hK K
    have BW1 := Lib.hid (((Below.refl w.heap.size w).alloc (Nat.le_refl _) (.cells (u8s (List.replicate 32 0)).toArray 50)).trans (HB1.out.mono (by simp)))
    have hs1 : w.heap.size + 1 ≤ w1.heap.size := by have := HB1.out.size; simpa using this
    have BW0 : Below w.heap.size w W0 := (BW1.out.alloc (by omega) _).trans (HBS.out.mono (by omega))
    have AZ1 : Arr w1 w.heap.size 50 (u8s (List.replicate 32 0)) := (Arr.new w 50 (u8s (List.replicate 32 0))).below HB1.out (by simp)
    have AZ0 : Arr W0 w.heap.size 50 (u8s (List.replicate 32 0)) := (AZ1.alloc _).same HOS.out.2 (by omega)
    have hs0 : w.heap.size < W0.heap.size := AZ0.lt
    have AZ6 : Arr W6 w.heap.size 50 (u8s (List.replicate 32 0)) := (AZ0.alloc _).below B6.out hs0
    have BW6 : Below w.heap.size w W6 := (BW0.alloc (by omega) _).trans (B6.out.mono (by omega))
    obtain ⟨gF, hgF⟩ : ∃ gF, W0.heap.size = gF := ⟨_, rfl⟩
    have hs6 : W6.heap.size = gF + 1 := by rw [S6.out]; simp; omega
    have hsF : w.heap.size < gF := by omega
    have AF6 : Arr W6 gF 57 (u8s (full key)) := by rw [hKe, hSl, ← hgF]; exact A6.out
    try rw [hgF]
    clear A6 B6 S6 BW1 hs1 BW0 AZ1 AZ0 hs0 hgF HB1 AS0 HBS HOS hS1 hSl hSb hKe
    have hfl := full_len key
    have hfb := full_lt hkb
    have hpos := hT.pos
    have TW6 : Tabs W6 := hT.below BW6 hpos
    have hL1l : (maskL (full key) 54 ++ b).length = 64 + b.length := by simp [maskL, hfl]
    have hL1b : ∀ x ∈ maskL (full key) 54 ++ b, x < 256 := fun x hx => (List.mem_append.1 hx).elim (maskL_lt hfb (by decide) x) (hb x)
    have hb54 := behind_any (full key) hfl hfb 54 (by decide) a cap b (by omega) W6 ((hr.below BW6 (Nat.le_refl _)).mono (by omega))
    have hps := fun g c (hc : 64 + b.length ≤ c) => psum_any (some ⟨g, 0, none⟩) c (maskL (full key) 54 ++ b) hL1b (by rw [hL1l]; exact hc) (by rw [hL1l]; omega)
    have hmac : sumL (maskL (full key) 92 ++ sumL (maskL (full key) 54 ++ b)) = macL key b := rfl
    obtain ⟨T1, hT1⟩ : ∃ T1, sumL (maskL (full key) 54 ++ b) = T1 := ⟨_, rfl⟩
    have hT1l : T1.length = 32 := by rw [← hT1]; rfl
    have hT1b : ∀ x ∈ T1, x < 256 := by rw [← hT1]; exact outV_lt _
    rw [hL1l, hT1] at hps
    rw [hT1] at hmac
    obtain ⟨R, hR⟩ : ∃ R, macL key b = R := ⟨_, rfl⟩
    have hRl : R.length = 32 := by rw [← hR]; rfl
    have HRe : Hid (Unit → macL key b = R) := fun _ => hR
    rw [hR] at hmac
    have hL2l : (maskL (full key) 92 ++ T1).length = 64 + 32 := by simp [maskL, hfl, hT1l]
    have hL2b : ∀ x ∈ maskL (full key) 92 ++ T1, x < 256 := fun x hx => (List.mem_append.1 hx).elim (maskL_lt hfb (by decide) x) (hT1b x)
    have HT1 := Lib.hid hT1
    clear hT1 hR
    gi_wp2_with (first
      | (refine wpListIn_plain rfl fun K hK => opIn_load_arr 57 (.tmp 6) rfl gF rfl AF6 Tryd.underlying57 rfl Tryd.size57 (by rw [u8s_len, full_len]) (hK _ _ ?_); clear hK K)
      | (refine ⟨trivial, ?_⟩; gi_at_call 31; refine (callsIn_wide.2 hb54).mono ?_; rintro e w7 ⟨⟨g7, c7, rfl, hc7, hr7⟩, hb7⟩)
      | (refine ⟨trivial, ?_⟩; gi_at_call 30; refine (callsIn_wide.2 (hps g7 c7 hc7 w7 hr7 (TW6.below hb7 (by omega)))).mono ?_; rintro e w8 ⟨rfl, hb8⟩)
      | (refine wpListIn_plain rfl fun K hK => opIn_store_arr 50 (.tmp 7) (.tmp 20) rfl w8.heap.size rfl rfl (show Arr _ w8.heap.size 50 (u8s (List.replicate 32 0)) from Arr.new w8 50 (u8s (List.replicate 32 0))) Tryd.size50 (by rw [u8s_len, hT1l]) rfl (u8s_one _) ?_; intro W9 A9 B9 O9; refine hK _ _ ?_; clear hK K))
    have hb78 : Below W6.heap.size W6 w8 := hb7.trans (hb8.mono hb7.size)
    have hs8 : W6.heap.size ≤ w8.heap.size := hb78.size
    have BS9 : Below W6.heap.size W6 W9 := (hb78.alloc hs8 _).trans (B9.out.mono hs8)
    have AF9 : Arr W9 gF 57 (u8s (full key)) := AF6.below BS9 (by omega)
    have AZ9 : Arr W9 w.heap.size 50 (u8s (List.replicate 32 0)) := AZ6.below BS9 (by omega)
    have BW9 : Below w.heap.size w W9 := BW6.trans (BS9.mono (by omega))
    have TW9 : Tabs W9 := hT.below BW9 hpos
    have hs9 := A9.out.lt
    have hsw : w.heap.size < W9.heap.size := AZ9.lt
    have hRT : RdN W9.heap.size W9 (some ⟨w8.heap.size, 0, none⟩) T1 := RdN.arr A9.out hs9
    have hbh := behind_any (full key) hfl hfb 92 (by decide) (some ⟨w8.heap.size, 0, none⟩) 32 T1 (by omega) W9.drew (show RdN W9.drew.heap.size W9.drew _ _ from hRT)
    rw [hT1l] at hbh
    clear hb7 hb8 hb78 hs8 BS9 AF6 AZ6 BW6 TW6 hps hb54 hr7 O9 B9
    refine wpIn_region_any (by kernel_rfl) ?_
    change wpAnyIn _ _ _ _ _ _ _ _ _ (World.drew _)
    refine wpAnyIn_ready (rs := [0, 1]) (by kernel_rfl) (by simp) ?_
    refine AllReadyIn.cons rfl (fun K hK => ?_) (AllReadyIn.cons rfl (fun K hK => ?_) AllReadyIn.nil)
    · refine stepIn_of rfl (opIn_load_arr 57 (.tmp 6) rfl gF rfl (show Arr W9.drew _ _ _ from AF9) Tryd.underlying57 rfl Tryd.size57 (by rw [u8s_len, full_len]) ?_)
      refine hK _ _ ?_
      clear hK K
      refine wpAnyIn_ready (rs := [1]) (by kernel_rfl) (by simp) ?_
      refine AllReadyIn.cons rfl (fun K hK => ?_) AllReadyIn.nil
      go_simp
      refine hK _ _ ?_
      clear hK K
      refine wpAnyIn_ready (rs := [2]) (by kernel_rfl) (by simp) ?_
      refine AllReadyIn.cons rfl (fun K hK => ?_) AllReadyIn.nil
      go_simp
      refine ⟨trivial, ?_⟩
      refine (callsIn_wide.2 hbh).mono ?_
      rintro e w10 ⟨⟨g10, c10, rfl, hc10, hr10⟩, hb10⟩
      refine hK _ _ ?_
      clear hK K
      have hbw10 : Below W9.heap.size W9 w10 := (Below.refl _ W9).drew.trans hb10
      have hs10 := psum_any (some ⟨g10, 0, none⟩) c10 (maskL (full key) 92 ++ T1) hL2b (by rw [hL2l]; exact hc10) (by rw [hL2l]; decide) w10 hr10 (TW9.below hbw10 (by omega))
      rw [hL2l, hmac] at hs10
      refine wpAnyIn_ready (rs := [3]) (by kernel_rfl) (by simp) ?_
      refine AllReadyIn.cons rfl (fun K hK => ?_) AllReadyIn.nil
      go_simp
      refine ⟨trivial, ?_⟩
      refine (callsIn_wide.2 hs10).mono ?_
      rintro e w11 ⟨rfl, hb11⟩
      refine hK _ _ ?_
      clear hK K
      have hbw11 : Below W9.heap.size W9 w11 := hbw10.trans (hb11.mono hbw10.size)
      refine wpAnyIn_ready (rs := [4]) (by kernel_rfl) (by simp) ?_
      refine AllReadyIn.cons rfl (fun K hK => ?_) AllReadyIn.nil
      refine stepIn_of rfl (opIn_store_arr 50 (.tmp 4) (.tmp 24) rfl w.heap.size rfl rfl (AZ9.below hbw11 (by omega)) Tryd.size50 (by rw [u8s_len, hRl]) (by rw [u8s_len, List.length_replicate]) (u8s_one _) ?_)
      intro W12 A12 B12 O12
      refine hK _ _ ?_
      clear hK K
      refine wpAnyIn_done (by kernel_rfl) ?_ _
      gi_wp2
      refine bodyPost_ret (results_arr rfl rfl A12.out Tryd.underlying50 rfl Tryd.size50 (by rw [u8s_len, hRl])) rfl ?_
      exact ⟨by rw [HRe.out ()], (BW9.trans (hbw11.mono (by omega))).trans B12.out⟩
    · go_simp
      refine hK _ _ ?_
      clear hK K
      refine wpAnyIn_ready (rs := [0]) (by kernel_rfl) (by simp) ?_
      refine AllReadyIn.cons rfl (fun K hK => ?_) AllReadyIn.nil
      refine stepIn_of rfl (opIn_load_arr 57 (.tmp 6) rfl gF rfl (show Arr W9.drew _ _ _ from AF9) Tryd.underlying57 rfl Tryd.size57 (by rw [u8s_len, full_len]) ?_)
      refine hK _ _ ?_
      clear hK K
      refine wpAnyIn_ready (rs := [2]) (by kernel_rfl) (by simp) ?_
      refine AllReadyIn.cons rfl (fun K hK => ?_) AllReadyIn.nil
      go_simp
      refine ⟨trivial, ?_⟩
      refine (callsIn_wide.2 hbh).mono ?_
      rintro e w10 ⟨⟨g10, c10, rfl, hc10, hr10⟩, hb10⟩
      refine hK _ _ ?_
      clear hK K
      have hbw10 : Below W9.heap.size W9 w10 := (Below.refl _ W9).drew.trans hb10
      have hs10 := psum_any (some ⟨g10, 0, none⟩) c10 (maskL (full key) 92 ++ T1) hL2b (by rw [hL2l]; exact hc10) (by rw [hL2l]; decide) w10 hr10 (TW9.below hbw10 (by omega))
      rw [hL2l, hmac] at hs10
      refine wpAnyIn_ready (rs := [3]) (by kernel_rfl) (by simp) ?_
      refine AllReadyIn.cons rfl (fun K hK => ?_) AllReadyIn.nil
      go_simp
      refine ⟨trivial, ?_⟩
      refine (callsIn_wide.2 hs10).mono ?_
      rintro e w11 ⟨rfl, hb11⟩
      refine hK _ _ ?_
      clear hK K
      have hbw11 : Below W9.heap.size W9 w11 := hbw10.trans (hb11.mono hbw10.size)
      refine wpAnyIn_ready (rs := [4]) (by kernel_rfl) (by simp) ?_
      refine AllReadyIn.cons rfl (fun K hK => ?_) AllReadyIn.nil
      refine stepIn_of rfl (opIn_store_arr 50 (.tmp 4) (.tmp 24) rfl w.heap.size rfl rfl (AZ9.below hbw11 (by omega)) Tryd.size50 (by rw [u8s_len, hRl]) (by rw [u8s_len, List.length_replicate]) (u8s_one _) ?_)
      intro W12 A12 B12 O12
      refine hK _ _ ?_
      clear hK K
      refine wpAnyIn_done (by kernel_rfl) ?_ _
      gi_wp2
      refine bodyPost_ret (results_arr rfl rfl A12.out Tryd.underlying50 rfl Tryd.size50 (by rw [u8s_len, hRl])) rfl ?_
      exact ⟨by rw [HRe.out ()], (BW9.trans (hbw11.mono (by omega))).trans B12.out⟩
  · refine callsIn_of_wp Tryd.func25 rfl trivial ?_ rfl
    simp only [Tryd.ntmps25, List.size_toArray, List.length_cons, List.length_nil, Nat.reduceAdd, Nat.reduceSub, Array.replicate_succ, Array.replicate_zero, List.push_toArray, List.append_toArray, List.nil_append, List.cons_append]
    have hKe : full key = key ++ (List.replicate 64 0).drop key.length := by rw [full, keyL, if_neg hlong, List.drop_replicate]
    obtain ⟨W6, hcopy, A6, B6, S6⟩ := run_copy_u8 (P := Tryd.prog) (dCap := 64) (sCap := kc) (dLen := 64) Tryd.underlying23 Tryd.size5 3 (Arr.new2 w (.cells (u8s (List.replicate 32 0)).toArray 50) 57 (u8s (List.replicate 64 0))) (hkr.below (((Below.refl w.heap.size w).alloc (Nat.le_refl _) (.cells (u8s (List.replicate 32 0)).toArray 50)).alloc (by simp) (.cells (u8s (List.replicate 64 0)).toArray 57)) (Nat.le_refl _)) (by rw [List.length_replicate]; omega) (by omega)
    have hcopy2 : (Builtin.copy_ #[23, 23] 3 #[.slice (some ⟨w.heap.size + 1, 0, none⟩) 64 64, .slice kA key.length kc]).run Tryd.prog ((w.alloc (.cells #[.int .u8 0, .int .u8 0, .int .u8 0, .int .u8 0, .int .u8 0, .int .u8 0, .int .u8 0, .int .u8 0, .int .u8 0, .int .u8 0, .int .u8 0, .int .u8 0, .int .u8 0, .int .u8 0, .int .u8 0, .int .u8 0, .int .u8 0, .int .u8 0, .int .u8 0, .int .u8 0, .int .u8 0, .int .u8 0, .int .u8 0, .int .u8 0, .int .u8 0, .int .u8 0, .int .u8 0, .int .u8 0, .int .u8 0, .int .u8 0, .int .u8 0, .int .u8 0] 50)).alloc (.cells #[.int .u8 0, .int .u8 0, .int .u8 0, .int .u8 0, .int .u8 0, .int .u8 0, .int .u8 0, .int .u8 0, .int .u8 0, .int .u8 0, .int .u8 0, .int .u8 0, .int .u8 0, .int .u8 0, .int .u8 0, .int .u8 0, .int .u8 0, .int .u8 0, .int .u8 0, .int .u8 0, .int .u8 0, .int .u8 0, .int .u8 0, .int .u8 0, .int .u8 0, .int .u8 0, .int .u8 0, .int .u8 0, .int .u8 0, .int .u8 0, .int .u8 0, .int .u8 0, .int .u8 0, .int .u8 0, .int .u8 0, .int .u8 0, .int .u8 0, .int .u8 0, .int .u8 0, .int .u8 0, .int .u8 0, .int .u8 0, .int .u8 0, .int .u8 0, .int .u8 0, .int .u8 0, .int .u8 0, .int .u8 0, .int .u8 0, .int .u8 0, .int .u8 0, .int .u8 0, .int .u8 0, .int .u8 0, .int .u8 0, .int .u8 0, .int .u8 0, .int .u8 0, .int .u8 0, .int .u8 0, .int .u8 0, .int .u8 0, .int .u8 0, .int .u8 0] 57)) = .ok (goInt key.length) W6 := hcopy
    clear hcopy
    have AZ6 : Arr W6 w.heap.size 50 (u8s (List.replicate 32 0)) := ((Arr.new w 50 (u8s (List.replicate 32 0))).alloc _).below B6 (by omega)
    have BW6 : Below w.heap.size w W6 := (((Below.refl w.heap.size w).alloc (Nat.le_refl _) _).alloc (by simp) _).trans (B6.mono (by omega))
    have hs6 : W6.heap.size = (w.heap.size + 1) + 1 := by rw [S6]; simp
    have hsF : w.heap.size < w.heap.size + 1 := by omega
    have AF6 : Arr W6 (w.heap.size + 1) 57 (u8s (full key)) := by rw [hKe]; exact A6
    clear A6 B6 S6 hKe
    have hfl := full_len key
    have hfb := full_lt hkb
    have hpos := hT.pos
    have TW6 : Tabs W6 := hT.below BW6 hpos
    have hL1l : (maskL (full key) 54 ++ b).length = 64 + b.length := by simp [maskL, hfl]
    have hL1b : ∀ x ∈ maskL (full key) 54 ++ b, x < 256 := fun x hx => (List.mem_append.1 hx).elim (maskL_lt hfb (by decide) x) (hb x)
    have hb54 := behind_any (full key) hfl hfb 54 (by decide) a cap b (by omega) W6 ((hr.below BW6 (Nat.le_refl _)).mono (by omega))
    have hps := fun g c (hc : 64 + b.length ≤ c) => psum_any (some ⟨g, 0, none⟩) c (maskL (full key) 54 ++ b) hL1b (by rw [hL1l]; exact hc) (by rw [hL1l]; omega)
    have hmac : sumL (maskL (full key) 92 ++ sumL (maskL (full key) 54 ++ b)) = macL key b := rfl
    obtain ⟨T1, hT1⟩ : ∃ T1, sumL (maskL (full key) 54 ++ b) = T1 := ⟨_, rfl⟩
    have hT1l : T1.length = 32 := by rw [← hT1]; rfl
    have hT1b : ∀ x ∈ T1, x < 256 := by rw [← hT1]; exact outV_lt _
    rw [hL1l, hT1] at hps
    rw [hT1] at hmac
    obtain ⟨R, hR⟩ : ∃ R, macL key b = R := ⟨_, rfl⟩
    have hRl : R.length = 32 := by rw [← hR]; rfl
    have HRe : Hid (Unit → macL key b = R) := fun _ => hR
    rw [hR] at hmac
    have hL2l : (maskL (full key) 92 ++ T1).length = 64 + 32 := by simp [maskL, hfl, hT1l]
    have hL2b : ∀ x ∈ maskL (full key) 92 ++ T1, x < 256 := fun x hx => (List.mem_append.1 hx).elim (maskL_lt hfb (by decide) x) (hT1b x)
    have HT1 := Lib.hid hT1
    clear hT1 hR
    gi_wp2_with (first
      | (refine wpListIn_plain rfl fun K hK => opIn_load_arr 57 (.tmp 6) rfl (w.heap.size + 1) rfl AF6 Tryd.underlying57 rfl Tryd.size57 (by rw [u8s_len, full_len]) (hK _ _ ?_); clear hK K)
      | (refine ⟨trivial, ?_⟩; gi_at_call 31; refine (callsIn_wide.2 hb54).mono ?_; rintro e w7 ⟨⟨g7, c7, rfl, hc7, hr7⟩, hb7⟩)
      | (refine ⟨trivial, ?_⟩; gi_at_call 30; refine (callsIn_wide.2 (hps g7 c7 hc7 w7 hr7 (TW6.below hb7 (by omega)))).mono ?_; rintro e w8 ⟨rfl, hb8⟩)
      | (refine wpListIn_plain rfl fun K hK => opIn_store_arr 50 (.tmp 7) (.tmp 20) rfl w8.heap.size rfl rfl (show Arr _ w8.heap.size 50 (u8s (List.replicate 32 0)) from Arr.new w8 50 (u8s (List.replicate 32 0))) Tryd.size50 (by rw [u8s_len, hT1l]) rfl (u8s_one _) ?_; intro W9 A9 B9 O9; refine hK _ _ ?_; clear hK K))
    have hb78 : Below W6.heap.size W6 w8 := hb7.trans (hb8.mono hb7.size)
    have hs8 : W6.heap.size ≤ w8.heap.size := hb78.size
    have BS9 : Below W6.heap.size W6 W9 := (hb78.alloc hs8 _).trans (B9.out.mono hs8)
    have AF9 : Arr W9 (w.heap.size + 1) 57 (u8s (full key)) := AF6.below BS9 (by omega)
    have AZ9 : Arr W9 w.heap.size 50 (u8s (List.replicate 32 0)) := AZ6.below BS9 (by omega)
    have BW9 : Below w.heap.size w W9 := BW6.trans (BS9.mono (by omega))
    have TW9 : Tabs W9 := hT.below BW9 hpos
    have hs9 := A9.out.lt
    have hsw : w.heap.size < W9.heap.size := AZ9.lt
    have hRT : RdN W9.heap.size W9 (some ⟨w8.heap.size, 0, none⟩) T1 := RdN.arr A9.out hs9
    have hbh := behind_any (full key) hfl hfb 92 (by decide) (some ⟨w8.heap.size, 0, none⟩) 32 T1 (by omega) W9.drew (show RdN W9.drew.heap.size W9.drew _ _ from hRT)
    rw [hT1l] at hbh
    clear hb7 hb8 hb78 hs8 BS9 AF6 AZ6 BW6 TW6 hps hb54 hr7 O9 B9
    refine wpIn_region_any (by kernel_rfl) ?_
    change wpAnyIn _ _ _ _ _ _ _ _ _ (World.drew _)
    refine wpAnyIn_ready (rs := [0, 1]) (by kernel_rfl) (by simp) ?_
    refine AllReadyIn.cons rfl (fun K hK => ?_) (AllReadyIn.cons rfl (fun K hK => ?_) AllReadyIn.nil)
    · refine stepIn_of rfl (opIn_load_arr 57 (.tmp 6) rfl (w.heap.size + 1) rfl (show Arr W9.drew _ _ _ from AF9) Tryd.underlying57 rfl Tryd.size57 (by rw [u8s_len, full_len]) ?_)
      refine hK _ _ ?_
      clear hK K
      refine wpAnyIn_ready (rs := [1]) (by kernel_rfl) (by simp) ?_
      refine AllReadyIn.cons rfl (fun K hK => ?_) AllReadyIn.nil
      go_simp
      refine hK _ _ ?_
      clear hK K
      refine wpAnyIn_ready (rs := [2]) (by kernel_rfl) (by simp) ?_
      refine AllReadyIn.cons rfl (fun K hK => ?_) AllReadyIn.nil
      go_simp
      refine ⟨trivial, ?_⟩
      refine (callsIn_wide.2 hbh).mono ?_
      rintro e w10 ⟨⟨g10, c10, rfl, hc10, hr10⟩, hb10⟩
      refine hK _ _ ?_
      clear hK K
      have hbw10 : Below W9.heap.size W9 w10 := (Below.refl _ W9).drew.trans hb10
      have hs10 := psum_any (some ⟨g10, 0, none⟩) c10 (maskL (full key) 92 ++ T1) hL2b (by rw [hL2l]; exact hc10) (by rw [hL2l]; decide) w10 hr10 (TW9.below hbw10 (by omega))
      rw [hL2l, hmac] at hs10
      refine wpAnyIn_ready (rs := [3]) (by kernel_rfl) (by simp) ?_
      refine AllReadyIn.cons rfl (fun K hK => ?_) AllReadyIn.nil
      go_simp
      refine ⟨trivial, ?_⟩
      refine (callsIn_wide.2 hs10).mono ?_
      rintro e w11 ⟨rfl, hb11⟩
      refine hK _ _ ?_
      clear hK K
      have hbw11 : Below W9.heap.size W9 w11 := hbw10.trans (hb11.mono hbw10.size)
      refine wpAnyIn_ready (rs := [4]) (by kernel_rfl) (by simp) ?_
      refine AllReadyIn.cons rfl (fun K hK => ?_) AllReadyIn.nil
      refine stepIn_of rfl (opIn_store_arr 50 (.tmp 4) (.tmp 24) rfl w.heap.size rfl rfl (AZ9.below hbw11 (by omega)) Tryd.size50 (by rw [u8s_len, hRl]) (by rw [u8s_len, List.length_replicate]) (u8s_one _) ?_)
      intro W12 A12 B12 O12
      refine hK _ _ ?_
      clear hK K
      refine wpAnyIn_done (by kernel_rfl) ?_ _
      gi_wp2
      refine bodyPost_ret (results_arr rfl rfl A12.out Tryd.underlying50 rfl Tryd.size50 (by rw [u8s_len, hRl])) rfl ?_
      exact ⟨by rw [HRe.out ()], (BW9.trans (hbw11.mono (by omega))).trans B12.out⟩
    · go_simp
      refine hK _ _ ?_
      clear hK K
      refine wpAnyIn_ready (rs := [0]) (by kernel_rfl) (by simp) ?_
      refine AllReadyIn.cons rfl (fun K hK => ?_) AllReadyIn.nil
      refine stepIn_of rfl (opIn_load_arr 57 (.tmp 6) rfl (w.heap.size + 1) rfl (show Arr W9.drew _ _ _ from AF9) Tryd.underlying57 rfl Tryd.size57 (by rw [u8s_len, full_len]) ?_)
      refine hK _ _ ?_
      clear hK K
      refine wpAnyIn_ready (rs := [2]) (by kernel_rfl) (by simp) ?_
      refine AllReadyIn.cons rfl (fun K hK => ?_) AllReadyIn.nil
      go_simp
      refine ⟨trivial, ?_⟩
      refine (callsIn_wide.2 hbh).mono ?_
      rintro e w10 ⟨⟨g10, c10, rfl, hc10, hr10⟩, hb10⟩
      refine hK _ _ ?_
      clear hK K
      have hbw10 : Below W9.heap.size W9 w10 := (Below.refl _ W9).drew.trans hb10
      have hs10 := psum_any (some ⟨g10, 0, none⟩) c10 (maskL (full key) 92 ++ T1) hL2b (by rw [hL2l]; exact hc10) (by rw [hL2l]; decide) w10 hr10 (TW9.below hbw10 (by omega))
      rw [hL2l, hmac] at hs10
      refine wpAnyIn_ready (rs := [3]) (by kernel_rfl) (by simp) ?_
      refine AllReadyIn.cons rfl (fun K hK => ?_) AllReadyIn.nil
      go_simp
      refine ⟨trivial, ?_⟩
      refine (callsIn_wide.2 hs10).mono ?_
      rintro e w11 ⟨rfl, hb11⟩
      refine hK _ _ ?_
      clear hK K
      have hbw11 : Below W9.heap.size W9 w11 := hbw10.trans (hb11.mono hbw10.size)
      refine wpAnyIn_ready (rs := [4]) (by kernel_rfl) (by simp) ?_
      refine AllReadyIn.cons rfl (fun K hK => ?_) AllReadyIn.nil
      refine stepIn_of rfl (opIn_store_arr 50 (.tmp 4) (.tmp 24) rfl w.heap.size rfl rfl (AZ9.below hbw11 (by omega)) Tryd.size50 (by rw [u8s_len, hRl]) (by rw [u8s_len, List.length_replicate]) (u8s_one _) ?_)
      intro W12 A12 B12 O12
      refine hK _ _ ?_
      clear hK K
      refine wpAnyIn_done (by kernel_rfl) ?_ _
      gi_wp2
      refine bodyPost_ret (results_arr rfl rfl A12.out Tryd.underlying50 rfl Tryd.size50 (by rw [u8s_len, hRl])) rfl ?_
      exact ⟨by rw [HRe.out ()], (BW9.trans (hbw11.mono (by omega))).trans B12.out⟩
end Go.Proofs.YtmmocnokgcgmnaaDoor
