/-
  THE DOCUMENT's sum, where its tables are what they are.
-/
import Derived.Test.YtmmocnokgcgmnaaDoorHRPad
import Derived.Test.YtmmocnokgcgmnaaDoorHBlk
namespace Go.Proofs.YtmmocnokgcgmnaaDoor
open Go.RowKit Go.Shelf
attribute [local go_sem] Oper.semAt_some
theorem outV_at {V : V8} {i y : Nat} (h : V.list[i / 4]? = some y) (_ : i < 32) : (outV V)[i]? = some (y / 2 ^ (24 - 8 * (i % 4)) % 256) := by
  obtain ⟨o0, o1, o2, o3⟩ := outV_get h
  have hc : i % 4 = 0 ∨ i % 4 = 1 ∨ i % 4 = 2 ∨ i % 4 = 3 := by omega
  rcases hc with e | e | e | e
  · rw [e]; rw [show 4 * (i / 4) = i by omega] at o0; exact o0
  · rw [e]; rw [show 4 * (i / 4) + 1 = i by omega] at o1; exact o1
  · rw [e]; rw [show 4 * (i / 4) + 2 = i by omega] at o2; exact o2
  · rw [e]; rw [show 4 * (i / 4) + 3 = i by omega] at o3; rw [o3]; simp
/-- The document's tables are H and K. -/
def BeginOk : Prop := ∀ w : World, Calls Tryd.prog 36 #[] w fun e w' => e = .returned (.tuple #[.agg (u32s beginH.list).toArray, .agg (u32s tabK).toArray]) ∧ Below w.heap.size w w'
theorem padL_mod (b : List Nat) (n : Nat) : (padL b n).length % 64 = 0 := by
  have hb : (be (8 * n)).length = 8 := rfl
  simp only [padL, List.length_append, List.length_cons, List.length_replicate, hb]
  omega
set_option maxHeartbeats 1600000 in
set_option maxRecDepth 100000 in
theorem rsum_any (hbeg : BeginOk) (a : Option Addr) (cap : Nat) (b : List Nat) (hb : ∀ x ∈ b, x < 256) (hlen : b.length ≤ 1000000) (w : World) (hr : RdN w.heap.size w a b) :
    Calls Tryd.prog 32 #[.slice a b.length cap] w fun e w' => e = .returned (.agg (u8s (sumL b)).toArray) ∧ Below w.heap.size w w' := by
  refine (callsIn_wide (n := 3)).1 ?_
  obtain ⟨R, hR⟩ : ∃ R, sumL b = R := ⟨_, rfl⟩
  rw [hR]
  have HR : Hid (Unit → sumL b = R) := fun _ => hR
  clear hR
  have hPb := padL_lt hb b.length
  have hPm := padL_mod b b.length
  have hpd := fun W (h : RdN W.heap.size W a b) => rpadded_any a cap b hlen W h
  have hPl : (padL b b.length).length ≤ 1000128 := by
    have hbe : (be (8 * b.length)).length = 8 := rfl
    simp only [padL, List.length_append, List.length_cons, List.length_replicate, hbe]
    omega
  have HS : Hid (Unit → outV (runV beginH (cut64 ((padL b b.length).length / 64) (padL b b.length))) = R) := fun _ => by rw [← HR.out ()]; rfl
  obtain ⟨P, hP⟩ : ∃ P, padL b b.length = P := ⟨_, rfl⟩
  rw [hP] at hPb hPm hpd hPl HS
  clear hP HR
  refine callsIn_of_wp Tryd.func32 rfl trivial ?_ rfl
  simp only [Tryd.ntmps32, List.size_toArray, List.length_cons, List.length_nil, Nat.reduceAdd, Nat.reduceSub, Array.replicate_succ, Array.replicate_zero, List.push_toArray, List.append_toArray, List.nil_append, List.cons_append]
  gi_wp2_with (first
    | (refine ⟨trivial, ?_⟩; gi_at_call 36; refine (callsIn_wide.2 (hbeg _)).mono ?_; rintro e w1 ⟨rfl, hb1⟩)
    | (refine wpListIn_plain rfl fun K hK => opIn_store_arr 60 (.tmp 3) (.tmp 11) rfl w1.heap.size rfl rfl ((Arr.new w1 60 (u32s (List.replicate 8 0))).alloc _) Tryd.size60 rfl rfl (u32s_one _) ?_; intro W2 A2 B2 O2; refine hK _ _ ?_; clear hK K)
    | (refine wpListIn_plain rfl fun K hK => opIn_store_arr 64 (.tmp 4) (.tmp 12) rfl (w1.heap.size + 1) rfl rfl ((Arr.new2 w1 _ 64 (u32s (List.replicate 64 0))).same O2.out.2 (by omega)) Tryd.size64 (by rw [u32s_len, tabK_len]) rfl (u32s_one _) ?_; intro W3 A3 B3 O3; refine hK _ _ ?_; clear hK K))
  obtain ⟨g3, hg3⟩ : ∃ g3, w1.heap.size = g3 := ⟨_, rfl⟩
  have hsw1 : w.heap.size < w1.heap.size := by have := hb1.size; simp at this; omega
  have AZ1 : Arr w1 w.heap.size 50 (u8s (List.replicate 32 0)) := (Arr.new w 50 (u8s (List.replicate 32 0))).below hb1 (by simp)
  have AZ3 : Arr W3 w.heap.size 50 (u8s (List.replicate 32 0)) := (((AZ1.alloc _).alloc _).same O2.out.2 (by omega)).same O3.out.2 (by omega)
  have B1 : Below w.heap.size w w1 := ((Below.refl w.heap.size w).alloc (Nat.le_refl _) _).trans (hb1.mono (by simp))
  have B3' : Below w.heap.size w W3 := (((B1.alloc (by omega) _).alloc (by simp; omega) _).trans (B2.out.mono (by omega))).trans (B3.out.mono (by omega))
  have AV3 : Arr W3 g3 60 (u32s beginH.list) := by rw [← hg3]; exact A2.out.same O3.out.2 (by omega)
  have AK3 : Arr W3 (g3 + 1) 64 (u32s tabK) := by rw [← hg3]; exact A3.out
  have hlt3 := AK3.lt
  rw [hg3] at hsw1
  try rw [hg3]
  refine ⟨trivial, ?_⟩
  refine (callsIn_wide.2 (hpd W3 ((hr.below B3' (Nat.le_refl _)).mono B3'.size))).mono ?_
  rintro e w4 ⟨⟨gp, c, rfl, hcP, hgp, hrP⟩, hb4⟩
  have hB4 := Lib.hid (B3'.trans (hb4.mono B3'.size))
  have AV4 := Lib.hid (AV3.below hb4 (by omega))
  have AK4 := Lib.hid (AK3.below hb4 hlt3)
  have AZ4 := Lib.hid (AZ3.below hb4 AZ3.lt)
  have hsz4 : W3.heap.size ≤ w4.heap.size := hb4.size
  have hCP : ∀ (j x : Nat), P[j]? = some x → w4.cell? ⟨gp, j, none⟩ = some (.int .u8 x) := fun j x hx => by
    have hp : 0 < P.length := by have := (List.getElem?_eq_some_iff.1 hx).1; omega
    obtain ⟨b', o', e, _, hc⟩ := hrP hp
    injection e with e; injection e with e1 e2; subst e1 e2
    have := hc j x hx
    rwa [Nat.zero_add] at this
  have HCP := Lib.hid hCP
  have hgp2 : P.length ≠ 0 → gp < w4.heap.size := fun h => by
    obtain ⟨b', o', e, hb', _⟩ := hrP (by omega)
    injection e with e; injection e with e1 e2; subst e1; exact hb'
  obtain ⟨q, hq⟩ : ∃ q, P.length / 64 = q := ⟨_, rfl⟩
  have hq64 : P.length = 64 * q := by omega
  rw [hq] at HS
  clear hb1 A2 B2 O2 A3 B3 O3 AZ1 AZ3 B1 B3' AV3 AK3 hg3 hpd hb4 hrP hCP hr hbeg
  gi_wp2
  gi_loopw [6] (fun iv wr => ∃ k : Nat, k ≤ q ∧ iv = .int .i64 (64 * k : Nat) ∧ Hid (Arr wr g3 60 (u32s (runV beginH (cut64 k P)).list)) ∧ Hid (KeepB g3 w4 wr) ∧ Hid (Below w.heap.size w wr)) (fun iv _ => 64 * q - (intOf iv).toNat)
  case atStart => exact ⟨0, by omega, rfl, AV4, KeepB.refl _ _, hB4⟩
  case round =>
    obtain ⟨k, hk, rfl, HV, HK, HB⟩ := hrel
    clear AV4 hB4
    obtain ⟨t, ht⟩ : ∃ t, 64 * k = t := ⟨_, rfl⟩
    rw [ht]
    by_cases hlt : k < q
    · have AV : Arr wr g3 60 (u32s (runV beginH (cut64 k P)).list) := HV.out
      have AK : Arr wr (g3 + 1) 64 (u32s tabK) := AK4.out.keepB HK.out (by omega)
      have hgpw : gp < wr.heap.size := Nat.lt_of_lt_of_le (hgp2 (by omega)) HK.out.1
      have hsg : w.heap.size ≤ g3 := by omega
      have hszr : w.heap.size ≤ wr.heap.size := HB.out.size
      have hrd : RdN wr.heap.size wr (some ⟨gp, t, none⟩) ((P.drop t).take 64) := fun _ => ⟨gp, t, rfl, hgpw, fun j x hx => by
        rw [List.getElem?_take] at hx
        split at hx
        · rw [List.getElem?_drop] at hx
          exact cell_keepB HK.out (HCP.out (t + j) x hx) (by omega)
        · cases hx⟩
      have hbl : ((P.drop t).take 64).length = 64 := by rw [List.length_take, List.length_drop]; omega
      have hok := runV_ok beginH_ok (cut64 k P)
      have hnx : runV beginH (cut64 (k + 1) P) = mixV (runV beginH (cut64 k P)) tabK (schedL ((P.drop t).take 64)) := by
        rw [cut64_snoc, runV_snoc, ht]; rfl
      obtain ⟨V, hV⟩ : ∃ V, runV beginH (cut64 k P) = V := ⟨_, rfl⟩
      rw [hV] at AV hnx hok
      have hblk := fun W => rblock_any V hok tabK tabK_len (some ⟨gp, t, none⟩) (c - t) ((P.drop t).take 64) hbl (take_lt hPb _ _) W
      have HN := Lib.hid hnx
      have w64 : IntKind.i64.wrap ((t : Int) + 64) = (t : Int) + 64 := by rw [IntKind.wrap_i64]; omega
      have hsl : ∀ W : World, (Instr.slice 23 (.slice (some ⟨gp, 0, none⟩) P.length c) (some (.int .i64 (t : Nat))) (some (.int .i64 ((t : Int) + 64))) none).run Tryd.prog W = .ok (.slice (some ⟨gp, t, none⟩) 64 (c - t)) W := by
        intro W
        have h1 : t + 64 ≤ c := by omega
        have h2 : ¬ c = t := by omega
        go_simp
        rw [if_pos ⟨by omega, by omega⟩, if_pos (by omega), show ((t : Int) + 64).toNat - t = 64 by omega]
      clear hV hnx
      gi_wp2
      refine wpIn_region_any (by kernel_rfl) ?_
      change wpAnyIn _ _ _ _ _ _ _ _ _ (World.drew _)
      refine wpAnyIn_take (i := 2) (v := ?_) rfl rfl (by kernel_rfl) (by kernel_rfl) (by kernel_rfl) (fun _ _ _ h => h) ⟨Or.inl ⟨by rfl, ?_⟩, fun _ => rfl⟩ ?_
      rotate_left
      · intro wq
        go_simp
        try with_reducible rfl
      refine wpAnyIn_take (i := 3) (v := ?_) rfl rfl (by kernel_rfl) (by kernel_rfl) (by kernel_rfl) (fun _ _ _ h => h) ⟨Or.inl ⟨by rfl, ?_⟩, fun _ => rfl⟩ ?_
      rotate_left
      · intro wq
        go_simp
        try with_reducible rfl
      refine wpAnyIn_take (i := 4) (v := ?_) rfl rfl (by kernel_rfl) (by kernel_rfl) (by kernel_rfl) (fun _ _ _ h => h) ⟨Or.inl ⟨by rfl, ?_⟩, fun _ => rfl⟩ ?_
      rotate_left
      · intro wq
        go_simp
        try with_reducible rfl
      refine wpAnyIn_take (i := 5) (v := ?_) rfl rfl (by kernel_rfl) (by kernel_rfl) (by kernel_rfl) (fun _ _ _ h => h) ⟨Or.inl ⟨by rfl, ?_⟩, fun _ => rfl⟩ ?_
      rotate_left
      · intro wq
        go_simp
        try with_reducible rfl
      refine wpAnyIn_take (i := 6) (v := .slice (some ⟨gp, t, none⟩) 64 (c - t)) rfl rfl (by kernel_rfl) (by kernel_rfl) (by kernel_rfl) (fun _ _ _ h => h) ⟨Or.inl ⟨by rfl, ?_⟩, fun _ => rfl⟩ ?_
      · intro wq
        go_simp
        rw [if_pos ⟨by omega, by omega⟩, if_pos (by omega), if_neg (by omega), show ((t : Int) + 64).toNat - t = 64 by omega]
      refine wpAnyIn_ready (rs := [0, 1]) (by kernel_rfl) (by simp) ?_
      refine AllReadyIn.cons rfl (fun K hK => ?_) (AllReadyIn.cons rfl (fun K hK => ?_) AllReadyIn.nil)
      · refine stepIn_of rfl (opIn_load_arr 60 (.tmp 3) rfl g3 rfl (show Arr (World.drew wr) _ _ _ from AV) Tryd.underlying60 rfl Tryd.size60 rfl ?_)
        refine hK _ _ ?_
        clear hK K
        refine wpAnyIn_ready (rs := [1]) (by kernel_rfl) (by simp) ?_
        refine AllReadyIn.cons rfl (fun K hK => ?_) AllReadyIn.nil
        refine stepIn_of rfl (opIn_load_arr 64 (.tmp 4) rfl (g3 + 1) rfl (show Arr (World.drew wr) _ _ _ from AK) Tryd.underlying64 rfl Tryd.size64 (by rw [u32s_len, tabK_len]) ?_)
        refine hK _ _ ?_
        clear hK K
        refine wpAnyIn_ready (rs := [7]) (by kernel_rfl) (by simp) ?_
        refine AllReadyIn.cons rfl (fun K hK => ?_) AllReadyIn.nil
        go_simp
        refine ⟨trivial, ?_⟩
        refine (callsIn_wide.2 (hblk wr.drew (show RdN wr.drew.heap.size wr.drew _ _ from hrd))).mono ?_
        rintro e w5 ⟨rfl, hb5⟩
        refine hK _ _ ?_
        clear hK K
        have hbw5 : Below wr.heap.size wr w5 := (Below.refl _ wr).drew.trans hb5
        refine wpAnyIn_ready (rs := [8]) (by kernel_rfl) (by simp) ?_
        refine AllReadyIn.cons rfl (fun K hK => ?_) AllReadyIn.nil
        refine stepIn_of rfl (opIn_store_arr 60 (.tmp 3) (.tmp 28) rfl g3 rfl rfl (AV.below hbw5 AV.lt) Tryd.size60 rfl rfl (u32s_one _) ?_)
        intro W6 A6 B6 O6
        refine hK _ _ ?_
        clear hK K
        refine wpAnyIn_done (by kernel_rfl) ?_ _
        go_simp
        gi_wp2
        go_roundw
        case rel =>
          refine ⟨k + 1, by omega, by congr 1; omega, ?_, ?_, ?_⟩
          · rw [HN.out]; exact A6
          · exact (HK.out.trans (KeepB.below hbw5)).trans ⟨Nat.le_of_eq O6.out.1.symm, fun i cs t fr hne hc => (O6.out.2 i hne).trans hc⟩
          · exact (HB.out.trans (hbw5.mono hszr)).trans (B6.out.mono hsg)
        case measure => simp [intOf]; omega
      · refine stepIn_of rfl (opIn_load_arr 64 (.tmp 4) rfl (g3 + 1) rfl (show Arr (World.drew wr) _ _ _ from AK) Tryd.underlying64 rfl Tryd.size64 (by rw [u32s_len, tabK_len]) ?_)
        refine hK _ _ ?_
        clear hK K
        refine wpAnyIn_ready (rs := [0]) (by kernel_rfl) (by simp) ?_
        refine AllReadyIn.cons rfl (fun K hK => ?_) AllReadyIn.nil
        refine stepIn_of rfl (opIn_load_arr 60 (.tmp 3) rfl g3 rfl (show Arr (World.drew wr) _ _ _ from AV) Tryd.underlying60 rfl Tryd.size60 rfl ?_)
        refine hK _ _ ?_
        clear hK K
        refine wpAnyIn_ready (rs := [7]) (by kernel_rfl) (by simp) ?_
        refine AllReadyIn.cons rfl (fun K hK => ?_) AllReadyIn.nil
        go_simp
        refine ⟨trivial, ?_⟩
        refine (callsIn_wide.2 (hblk wr.drew (show RdN wr.drew.heap.size wr.drew _ _ from hrd))).mono ?_
        rintro e w5 ⟨rfl, hb5⟩
        refine hK _ _ ?_
        clear hK K
        have hbw5 : Below wr.heap.size wr w5 := (Below.refl _ wr).drew.trans hb5
        refine wpAnyIn_ready (rs := [8]) (by kernel_rfl) (by simp) ?_
        refine AllReadyIn.cons rfl (fun K hK => ?_) AllReadyIn.nil
        refine stepIn_of rfl (opIn_store_arr 60 (.tmp 3) (.tmp 28) rfl g3 rfl rfl (AV.below hbw5 AV.lt) Tryd.size60 rfl rfl (u32s_one _) ?_)
        intro W6 A6 B6 O6
        refine hK _ _ ?_
        clear hK K
        refine wpAnyIn_done (by kernel_rfl) ?_ _
        go_simp
        gi_wp2
        go_roundw
        case rel =>
          refine ⟨k + 1, by omega, by congr 1; omega, ?_, ?_, ?_⟩
          · rw [HN.out]; exact A6
          · exact (HK.out.trans (KeepB.below hbw5)).trans ⟨Nat.le_of_eq O6.out.1.symm, fun i cs t fr hne hc => (O6.out.2 i hne).trans hc⟩
          · exact (HB.out.trans (hbw5.mono hszr)).trans (B6.out.mono hsg)
        case measure => simp [intOf]; omega
    · obtain rfl : k = q := by omega
      obtain rfl : t = 64 * k := ht.symm
      have AV : Arr wr g3 60 (u32s (runV beginH (cut64 k P)).list) := HV.out
      have AZ : Arr wr w.heap.size 50 (u8s (List.replicate 32 0)) := AZ4.out.keepB HK.out (by omega)
      have hVok := runV_ok beginH_ok (cut64 k P)
      obtain ⟨V, hV⟩ : ∃ V, runV beginH (cut64 k P) = V := ⟨_, rfl⟩
      rw [hV] at AV HS hVok
      have hlq : ¬ (64 * k < P.length) := by omega
      have hszr : w.heap.size ≤ wr.heap.size := HB.out.size
      have hg3l := AV.lt
      have A0 := Lib.hid (Arr.new wr 50 (u8s (List.replicate 32 0)))
      have HV2 := Lib.hid (AV.alloc (.cells (u8s (List.replicate 32 0)).toArray 50))
      have HZ2 := Lib.hid (AZ.alloc (.cells (u8s (List.replicate 32 0)).toArray 50))
      have HB2 := Lib.hid (HB.out.alloc hszr (.cells (u8s (List.replicate 32 0)).toArray 50))
      obtain ⟨G, hG⟩ : ∃ G, wr.heap.size = G := ⟨_, rfl⟩
      obtain ⟨WN, hWN⟩ : ∃ WN, wr.alloc (.cells (u8s (List.replicate 32 0)).toArray 50) = WN := ⟨_, rfl⟩
      have hWN2 : wr.alloc (.cells #[.int .u8 0, .int .u8 0, .int .u8 0, .int .u8 0, .int .u8 0, .int .u8 0, .int .u8 0, .int .u8 0, .int .u8 0, .int .u8 0, .int .u8 0, .int .u8 0, .int .u8 0, .int .u8 0, .int .u8 0, .int .u8 0, .int .u8 0, .int .u8 0, .int .u8 0, .int .u8 0, .int .u8 0, .int .u8 0, .int .u8 0, .int .u8 0, .int .u8 0, .int .u8 0, .int .u8 0, .int .u8 0, .int .u8 0, .int .u8 0, .int .u8 0, .int .u8 0] 50) = WN := hWN
      rw [hWN] at A0 HV2 HZ2 HB2
      rw [hG] at A0 hg3l hszr
      clear hV hWN AZ AV HV HK HB AK4 AZ4 HCP hgp2 hPb hcP
      gi_wp2
      try rw [hWN2]
      try rw [hG]
      gi_loopw [8] (fun iv wr => ∃ i : Nat, i ≤ 32 ∧ iv = .int .i64 i ∧ Hid (Arr wr G 50 (u8s ((outV V).take i ++ (List.replicate 32 0).drop i))) ∧ Hid (Arr wr g3 60 (u32s V.list)) ∧ Hid (Arr wr w.heap.size 50 (u8s (List.replicate 32 0))) ∧ Hid (Below w.heap.size w wr)) (fun iv _ => 32 - (intOf iv).toNat)
      case atStart => exact ⟨0, by omega, rfl, A0, HV2, HZ2, HB2⟩
      case round =>
        obtain ⟨i, hi, rfl, HA, HH, HZ, HB⟩ := hrel
        clear A0 HV2 HZ2 HB2
        by_cases hlt : i < 32
        · obtain ⟨y, hy⟩ : ∃ y, V.list[i / 4]? = some y := ⟨_, List.getElem?_eq_getElem (show i / 4 < 8 by omega)⟩
          have hyl := V_lt hVok hy
          have ch : wr.cell? ⟨g3, i / 4, none⟩ = some (.int .u32 y) := by rw [HH.out.cell]; exact u32s_get hy
          obtain ⟨z, hz⟩ : ∃ z, ((outV V).take i ++ (List.replicate 32 0).drop i)[i]? = some z := ⟨_, List.getElem?_eq_getElem (by simp [outV_len]; omega)⟩
          have co : wr.cell? ⟨G, i, none⟩ = some (.int .u8 z) := by rw [HA.out.cell]; exact u8s_get hz
          have fo := HA.out.frozen i
          obtain ⟨m, hm⟩ : ∃ m : Nat, 24 - 8 * (i % 4) = m := ⟨_, rfl⟩
          clear hz
          gi_wp2
          have hat := outV_at hy hlt
          rw [hm] at hat
          have e := set_step (A := outV V) (B := List.replicate 32 0) (by rw [outV_len, List.length_replicate]) hat
          have ev : ((y / 2 ^ m % 256 : Nat) : Int) = (y : Int) / 2 ^ m % 256 := by rw [Int.natCast_emod, Int.natCast_ediv, Int.natCast_pow]; rfl
          refine ⟨⟨i + 1, by omega, by go_num, ?_, HH.out.other (by omega) _ _, HZ.out.other (by omega) _ _, HB.out.setCell (p := ⟨G, i, none⟩) (by simp; omega) _⟩, by simp [intOf]; omega⟩
          unfold Hid
          rw [← e, u8s_set, ev]
          exact HA.out.set i _
        · obtain rfl : i = 32 := by omega
          have e32 : (outV V).take 32 ++ (List.replicate 32 0).drop 32 = R := by rw [HS.out (), List.take_of_length_le (by rw [← HS.out (), outV_len]; decide), List.drop_of_length_le (by simp), List.append_nil]
          have hRl : R.length = 32 := by rw [← HS.out (), outV_len]
          rw [e32] at HA
          rw [show ((32 : Nat) : Int) = 32 from rfl]
          gi_wp2_with (first
            | (refine wpListIn_plain rfl fun K hK => opIn_load_arr 50 (.tmp 7) rfl G rfl HA.out Tryd.underlying50 rfl Tryd.size50 (by rw [u8s_len, hRl]) (hK _ _ ?_); clear hK K)
            | (refine wpListIn_plain rfl fun K hK => opIn_store_arr 50 (.tmp 2) (.tmp 45) rfl _ rfl rfl HZ.out Tryd.size50 (by rw [u8s_len, hRl]) (by rw [u8s_len, List.length_replicate]) (u8s_one _) ?_; intro W7 A7 B7 O7; refine hK _ _ ?_; clear hK K))
          refine bodyPost_ret (results_arr rfl rfl A7.out Tryd.underlying50 rfl Tryd.size50 (by rw [u8s_len, hRl])) rfl ?_
          exact ⟨rfl, HB.out.trans B7.out⟩
end Go.Proofs.YtmmocnokgcgmnaaDoor
