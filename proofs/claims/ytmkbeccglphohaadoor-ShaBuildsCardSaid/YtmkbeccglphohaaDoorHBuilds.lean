/-
  ShaBuilds: the walk of the law.
-/
import Derived.Test.YtmkbeccglphohaaDoorHGrow
import Derived.Deep.RegionHeld
namespace Go.Proofs.YtmkbeccglphohaaDoor
set_option linter.unusedSimpArgs false
set_option linter.unusedVariables false
open Go.RowKit
theorem takeG {P : Program} {ops : Array Oper} {Q : Exit → Act → World → Prop} {md : Region.Mode} {S : World → Prop} {i d : Nat} {oi : Oper} {v : Value} {fuel : Nat} {listed : Array Bool} {ts : Array Value} {df : List Deferred} {w : World} (hi : ops[i]? = some oi) (hd : oi.dst = some d)
    (hs : Region.noSelect ops = true) (hf : Region.free md ops listed i = true) (hr : (Region.ready md ops listed).contains i = true)
    (hQ : ∀ c a w, Q (.panic c) (a.put oi.dst v) w → Q (.panic c) a w) (hg : Region.wanted oi (yielded ops ts) = true) (hy : ∀ w, S w → (execOp (Act.eval { tmps := ts, defers := df }) oi).run P w = .ok (.value v) w) (hS : S w)
    (h : wpAnyH P md ops Q S fuel (listed.setIfInBounds i true) { tmps := ts.setIfInBounds d v, defers := df } w) : wpAnyH P md ops Q S (fuel + 1) listed { tmps := ts, defers := df } w := by
  refine wpAnyH_take hi hs hf hr hQ (.inl ⟨hg, hy⟩) hS ?_
  unfold Act.put
  rw [hd]
  exact h
/-- Sums are alike, or they are not, whatever the world. -/
theorem eq24_any {l m : List Nat} (hl : l.length = 32) (hb : ∀ x ∈ l, x < 256) (hm : m.length = 32) (hc : ∀ x ∈ m, x < 256) : ∃ B : Bool, ∀ W, (Op.equalIn 10000 24 (.agg (u8s l).toArray) (.agg (u8s m).toArray)).run Tryd.prog W = .ok B W := by
  obtain ⟨la, hk⟩ := keys24 hl hb
  obtain ⟨lb, hk2⟩ := keys24 hm hc
  have c24 : Tryd.prog.cellsOf 24 = 32 := by kernel_rfl
  have hf : (Value.agg (u8s l).toArray).formed Tryd.prog 24 = true := by
    simp [Value.formed, Tryd.underlying24, c24, u8s_len, hl]
  have hf2 : (Value.agg (u8s m).toArray).formed Tryd.prog 24 = true := by
    simp [Value.formed, Tryd.underlying24, c24, u8s_len, hm]
  classical
  refine ⟨decide (la = lb), fun W => ?_⟩
  obtain ⟨r, h1, h2⟩ := run_equalIn_deep (P := Tryd.prog) 9998 2 24 (by kernel_rfl) W 2 2 (.agg (u8s l).toArray) (.agg (u8s m).toArray) _ _ hf hf2 hk hk2
  rw [h1]
  congr 1
  by_cases e : la = lb
  · rw [decide_eq_true e, h2.2 e]
  · rw [decide_eq_false e]
    cases r with
    | false => rfl
    | true => exact absurd (h2.1 rfl) e
/-- A sum is a key of its own. -/
theorem mac_long {key : List Nat} (h : 64 < key.length) (b : List Nat) : macL (sumL key) b = macL key b := by
  have e : full (sumL key) = full key := by
    have h1 : keyL (sumL key) = sumL key := by unfold keyL; rw [if_neg (by rw [show (sumL key).length = 32 from rfl]; decide)]
    have h2 : keyL key = sumL key := by unfold keyL; rw [if_pos h]
    unfold full
    rw [h1, h2]
  unfold macL
  rw [e]
theorem full_short {key : List Nat} {m : Nat} (h : key.length + m = 64) : full key = key ++ List.replicate m 0 := by
  unfold full keyL
  rw [if_neg (by omega), show 64 - key.length = m by omega]
theorem builds_no (kA : Option Addr) (kc kl : Nat) (a : Option Addr) (cap bl : Nat) (hk : kl ≤ 9223372036854775807) (hb : bl ≤ 9223372036854775807) (w : World) (hT : Tabs w) (h : 500 < kl ∨ 1000 < bl) :
    Calls Tryd.prog 3 #[.slice kA kl kc, .slice a bl cap] w fun e w' => e = .returned (.bool true) ∧ Below w.heap.size w w' := by
  have haw := awake_any w hT
  by_cases c1 : 500 < kl
  · go_enter Tryd.func3, Tryd.ntmps3
    go_wp2_with (go_at_call 4; refine haw.mono ?_; rintro e w1 ⟨rfl, hb1⟩)
    go_ret
    exact ⟨rfl, hb1⟩
  · have c2 : 1000 < bl := by omega
    go_enter Tryd.func3, Tryd.ntmps3
    go_wp2_with (go_at_call 4; refine haw.mono ?_; rintro e w1 ⟨rfl, hb1⟩)
    go_ret
    exact ⟨rfl, hb1⟩
set_option maxHeartbeats 3200000 in
set_option maxRecDepth 100000 in
theorem builds_long (kA : Option Addr) (kc : Nat) (key : List Nat) (a : Option Addr) (cap : Nat) (b : List Nat) (w : World) (hk : InB w kA key.length kc key) (hb : InB w a b.length cap b) (hT : Tabs w) (c1 : ¬ 500 < key.length) (c2 : ¬ 1000 < b.length) (c3 : 64 < key.length) :
    Calls Tryd.prog 3 #[.slice kA key.length kc, .slice a b.length cap] w fun e w' => e = .returned (.bool true) ∧ Below w.heap.size w w' := by
  obtain ⟨_, hkc, hkm, hkb, hkr⟩ := hk
  obtain ⟨_, hbc, hbm, hbb, hbr⟩ := hb
  have haw := awake_any w hT
  have hpos := hT.pos
  obtain ⟨i0, hi, hz0, hz1, hz2⟩ := info_parts Tryd.info5
  have hm1 := fun W (h1 : RdN W.heap.size W kA key) (h2 : RdN W.heap.size W a b) (h3 : Tabs W) => pmac_any kA kc key hkb hkc (by omega) a cap b hbb (by omega) W h1 h2 h3
  have hsk := fun W (h1 : RdN W.heap.size W kA key) (h3 : Tabs W) => psum_any kA kc key hkb hkc (by omega) W h1 h3
  obtain ⟨R, hR⟩ : ∃ R, macL key b = R := ⟨_, rfl⟩
  have hRl : R.length = 32 := by rw [← hR]; rfl
  have hRb : ∀ x ∈ R, x < 256 := by rw [← hR]; exact outV_lt _
  have hml := mac_long c3 b
  rw [hR] at hml
  obtain ⟨SK, hSK⟩ : ∃ SK, sumL key = SK := ⟨_, rfl⟩
  have hSl : SK.length = 32 := by rw [← hSK]; rfl
  have hSb : ∀ x ∈ SK, x < 256 := by rw [← hSK]; exact outV_lt _
  have hm2 := fun g W (h1 : RdN (World.heap W).size W (some ⟨g, 0, none⟩) SK) (h2 : RdN W.heap.size W a b) (h3 : Tabs W) => pmac_any (some ⟨g, 0, none⟩) 32 SK hSb (by omega) (by omega) a cap b hbb (by omega) W h1 h2 h3
  rw [hSl] at hm2
  rw [hSK] at hml
  rw [hml] at hm2
  have heq := fun W => eq24 hRl hRb W
  rw [hR] at hm1
  rw [hSK] at hsk
  have HM1 := Lib.hid hm1
  have HM2 := Lib.hid hm2
  have HSK := Lib.hid hsk
  have hS32 : (u8s SK).length = 32 := by rw [u8s_len, hSl]
  have HKR := Lib.hid hkr
  have HBR := Lib.hid hbr
  have HTT := Lib.hid hT
  clear hml
  clear hR hRl hRb hSK hSb hm1 hm2 hsk hSl hkr hbr hT
  go_enter Tryd.func3, Tryd.ntmps3
  go_wp2_with (first
    | (go_at_call 4; refine haw.mono ?_; rintro e w1 ⟨rfl, hb1⟩; have HB1 := Lib.hid hb1; clear hb1)
    | (go_at_call 5; ((with_reducible refine (HSK.out _ ((HKR.out.below HB1.out (Nat.le_refl _)).mono HB1.out.size) (HTT.out.below HB1.out hpos)).mono ?_); rintro e w2 ⟨rfl, hb2⟩); have HB2 := Lib.hid (HB1.out.trans (hb2.mono HB1.out.size)); clear hb2)
    | (refine wpList_store_arr rfl 24 (.tmp 6) (.tmp 28) rfl w2.heap.size rfl rfl (show Arr _ w2.heap.size 24 (u8s (List.replicate 32 0)) from Arr.new w2 24 (u8s (List.replicate 32 0))) Tryd.size24 hS32 rfl (u8s_one _) ?_; intro W3 A3 B3 hsz3 O3; have HB3 := Lib.hid ((HB2.out.alloc HB2.out.size (.cells (u8s (List.replicate 32 0)).toArray 24)).trans (B3.out.mono HB2.out.size)); have HA3 := Lib.hid A3.out; clear B3 O3 hsz3 A3))
  have hB4 := HB3.out.drew
  have hA4 : Arr W3.drew w2.heap.size 24 (u8s SK) := HA3.out
  have hC4 := HM1.out W3.drew ((HKR.out.below hB4 (Nat.le_refl _)).mono hB4.size) ((HBR.out.below hB4 (Nat.le_refl _)).mono hB4.size) (HTT.out.below hB4 hpos)
  have HB4 := Lib.hid hB4
  have HA4 := Lib.hid hA4
  clear hB4 hA4
  refine wp_region_held_drew (S := fun _ => True) (by kernel_rfl) trivial (fun hS0 => ?_)
  refine takeG (i := 0) (d := 29) (v := ?vr0) rfl rfl (by kernel_rfl) (by kernel_rfl) (by kernel_rfl) (fun _ _ _ h => h) (by kernel_rfl) ?hr0 (by assumption) ?rr0
  case hr0 =>
    intro w hSw
    go_simp
    try with_reducible rfl
  simp only [List.setIfInBounds_toArray, List.set_cons_zero, List.set_cons_succ]
  refine takeG (i := 1) (d := 30) (v := ?vr1) rfl rfl (by kernel_rfl) (by kernel_rfl) (by kernel_rfl) (fun _ _ _ h => h) (by kernel_rfl) ?hr1 (by assumption) ?rr1
  case hr1 =>
    intro w hSw
    go_simp
    try with_reducible rfl
  simp only [List.setIfInBounds_toArray, List.set_cons_zero, List.set_cons_succ]
  refine takeG (i := 3) (d := 32) (v := ?vr3) rfl rfl (by kernel_rfl) (by kernel_rfl) (by kernel_rfl) (fun _ _ _ h => h) (by kernel_rfl) ?hr3 (by assumption) ?rr3
  case hr3 =>
    intro w hSw
    go_simp
    try with_reducible rfl
  simp only [List.setIfInBounds_toArray, List.set_cons_zero, List.set_cons_succ]
  refine takeG (i := 4) (d := 33) (v := ?vr4) rfl rfl (by kernel_rfl) (by kernel_rfl) (by kernel_rfl) (fun _ _ _ h => h) (by kernel_rfl) ?hr4 (by assumption) ?rr4
  case hr4 =>
    intro w hSw
    go_simp
    try with_reducible rfl
  simp only [List.setIfInBounds_toArray, List.set_cons_zero, List.set_cons_succ]
  refine wpAnyH_ready (rs := [2]) (by kernel_rfl) (by simp) ?_
  refine AllReadyH.cons rfl (fun K hK => ?_) AllReadyH.nil
  go_simp
  go_at_call 6
  with_reducible refine hC4.mono ?_
  rintro e w4 ⟨rfl, hb4⟩
  have HB5 := Lib.hid (HB4.out.trans (hb4.mono HB4.out.size))
  have HA5 := Lib.hid (HA4.out.below hb4 HA4.out.lt)
  clear hb4 hC4
  go_simp
  refine hK.out _ _ trivial (fun hS1 => ?_)
  clear hK K
  refine wpAnyH_ready (rs := [5]) (by kernel_rfl) (by simp) ?_
  refine AllReadyH.cons rfl (fun K hK => ?_) AllReadyH.nil
  go_simp
  go_at_call 6
  with_reducible refine (HM2.out _ w4 (RdN.arr HA5.out HA5.out.lt) ((HBR.out.below HB5.out (Nat.le_refl _)).mono HB5.out.size) (HTT.out.below HB5.out hpos)).mono ?_
  rintro e w5 ⟨rfl, hb5⟩
  have HB6 := Lib.hid (HB5.out.trans (hb5.mono HB5.out.size))
  clear hb5
  go_simp
  refine hK.out _ _ trivial (fun hS2 => ?_)
  clear hK K
  refine takeG (i := 6) (d := 35) (v := ?vr6) rfl rfl (by kernel_rfl) (by kernel_rfl) (by kernel_rfl) (fun _ _ _ h => h) (by kernel_rfl) ?hr6 (by assumption) ?rr6
  case hr6 =>
    intro w hSw
    go_simp
    try with_reducible rfl
  simp only [List.setIfInBounds_toArray, List.set_cons_zero, List.set_cons_succ]
  refine takeG (i := 7) (d := 7) (v := ?vr7) rfl rfl (by kernel_rfl) (by kernel_rfl) (by kernel_rfl) (fun _ _ _ h => h) (by kernel_rfl) ?hr7 (by assumption) ?rr7
  case hr7 =>
    intro w hSw
    go_simp
    try with_reducible rfl
  simp only [List.setIfInBounds_toArray, List.set_cons_zero, List.set_cons_succ]
  refine wpAnyH_done (by kernel_rfl) ?_ _
  clear hS0 hS1 hS2
  go_wp2
  go_ret
  exact ⟨rfl, HB6.out⟩
set_option maxHeartbeats 3200000 in
set_option maxRecDepth 100000 in
theorem builds_short (kA : Option Addr) (kc : Nat) (key : List Nat) (a : Option Addr) (cap : Nat) (b : List Nat) (w : World) (hk : InB w kA key.length kc key) (hb : InB w a b.length cap b) (hT : Tabs w) (c1 : ¬ 500 < key.length) (c2 : ¬ 1000 < b.length) (c3 : ¬ 64 < key.length) :
    Calls Tryd.prog 3 #[.slice kA key.length kc, .slice a b.length cap] w fun e w' => e = .returned (.bool true) ∧ Below w.heap.size w w' := by
  obtain ⟨_, hkc, hkm, hkb, hkr⟩ := hk
  obtain ⟨_, hbc, hbm, hbb, hbr⟩ := hb
  have haw := awake_any w hT
  have hpos := hT.pos
  obtain ⟨i0, hi, hz0, hz1, hz2⟩ := info_parts Tryd.info5
  have hm1 := fun W (h1 : RdN W.heap.size W kA key) (h2 : RdN W.heap.size W a b) (h3 : Tabs W) => pmac_any kA kc key hkb hkc (by omega) a cap b hbb (by omega) W h1 h2 h3
  have hsk := fun W (h1 : RdN W.heap.size W kA key) (h3 : Tabs W) => psum_any kA kc key hkb hkc (by omega) W h1 h3
  obtain ⟨R, hR⟩ : ∃ R, macL key b = R := ⟨_, rfl⟩
  have hRl : R.length = 32 := by rw [← hR]; rfl
  have hRb : ∀ x ∈ R, x < 256 := by rw [← hR]; exact outV_lt _
  obtain ⟨SK, hSK⟩ : ∃ SK, sumL key = SK := ⟨_, rfl⟩
  have hSl : SK.length = 32 := by rw [← hSK]; rfl
  have hSb : ∀ x ∈ SK, x < 256 := by rw [← hSK]; exact outV_lt _
  have hm2 := fun g W (h1 : RdN (World.heap W).size W (some ⟨g, 0, none⟩) SK) (h2 : RdN W.heap.size W a b) (h3 : Tabs W) => pmac_any (some ⟨g, 0, none⟩) 32 SK hSb (by omega) (by omega) a cap b hbb (by omega) W h1 h2 h3
  rw [hSl] at hm2
  obtain ⟨R2, hR2⟩ : ∃ R2, macL SK b = R2 := ⟨_, rfl⟩
  have hR2l : R2.length = 32 := by rw [← hR2]; rfl
  have hR2b : ∀ x ∈ R2, x < 256 := by rw [← hR2]; exact outV_lt _
  rw [hR2] at hm2
  obtain ⟨BB, hq⟩ := eq24_any hRl hRb hR2l hR2b
  have heq := fun W => eq24 hRl hRb W
  obtain ⟨m, hm⟩ : ∃ m, key.length + m = 64 := ⟨64 - key.length, by omega⟩
  have hF0' := full_short hm
  obtain ⟨F, hF⟩ : ∃ F, full key = F := ⟨_, rfl⟩
  have hfl : F.length = 64 := by rw [← hF]; exact full_len key
  have hfb : ∀ x ∈ F, x < 256 := by rw [← hF]; exact full_lt hkb
  have hmF : macL F b = R := by rw [← hR, ← hF, hF0']; exact mac_zeros (by omega) b
  rw [hF] at hF0'
  have hmac : sumL (maskL F 92 ++ sumL (maskL F 54 ++ b)) = R := by rw [← hR, ← hF]; rfl
  obtain ⟨T, hT2⟩ : ∃ T, sumL (maskL F 54 ++ b) = T := ⟨_, rfl⟩
  have hTl : T.length = 32 := by rw [← hT2]; rfl
  have hTb : ∀ x ∈ T, x < 256 := by rw [← hT2]; exact outV_lt _
  rw [hT2] at hmac
  have hm54 : (maskL F 54).length = 64 := by rw [maskL, List.length_map, hfl]
  have hm92 : (maskL F 92).length = 64 := by rw [maskL, List.length_map, hfl]
  have hSum1 := fun g c (hc : 64 + b.length ≤ c) W (h : RdN (World.heap W).size W (some ⟨g, 0, none⟩) (maskL F 54 ++ b)) (t : Tabs W) => psum_any (some ⟨g, 0, none⟩) c (maskL F 54 ++ b) (fun x hx => (List.mem_append.1 hx).elim (maskL_lt hfb (by decide) x) (hbb x)) (by rw [List.length_append, hm54]; exact hc) (by rw [List.length_append, hm54]; omega) W h t
  have hSum2 := fun g c (hc : 96 ≤ c) W (h : RdN (World.heap W).size W (some ⟨g, 0, none⟩) (maskL F 92 ++ T)) (t : Tabs W) => psum_any (some ⟨g, 0, none⟩) c (maskL F 92 ++ T) (fun x hx => (List.mem_append.1 hx).elim (maskL_lt hfb (by decide) x) (hTb x)) (by rw [List.length_append, hm92, hTl]; exact hc) (by rw [List.length_append, hm92, hTl]; decide) W h t
  rw [List.length_append, hm54, hT2] at hSum1
  rw [List.length_append, hm92, hTl, hmac, show 64 + 32 = 96 from rfl] at hSum2
  have hm3 := fun g c (hc : 64 ≤ c) W (h1 : RdN (World.heap W).size W (some ⟨g, 0, none⟩) F) (h2 : RdN W.heap.size W a b) (h3 : Tabs W) => pmac_any (some ⟨g, 0, none⟩) c F hfb (by omega) (by omega) a cap b hbb (by omega) W h1 h2 h3
  rw [hmF, hfl] at hm3
  have hfx : ∀ k, k < 64 → ∃ x, F[k]? = some x ∧ x < 256 := fun k hk => ⟨_, List.getElem?_eq_getElem (by omega), hfb _ (List.getElem_mem _)⟩
  obtain ⟨x0, hF0, _⟩ := hfx 0 (by decide)
  have hnk : -9223372036854775808 ≤ (64 : Int) - key.length ∧ (64 : Int) - key.length ≤ 9223372036854775807 := by omega
  have hme : (64 : Int) - key.length = m := by omega
  rw [hR] at hm1
  rw [hSK] at hsk
  have HM1 := Lib.hid hm1
  have HM2 := Lib.hid hm2
  have HSK := Lib.hid hsk
  have hS32 : (u8s SK).length = 32 := by rw [u8s_len, hSl]
  have HKR := Lib.hid hkr
  have HBR := Lib.hid hbr
  have HTT := Lib.hid hT
  have HSUM1 := Lib.hid hSum1
  have HSUM2 := Lib.hid hSum2
  have HM3 := Lib.hid hm3
  have HF0' := Lib.hid hF0'
  have HFX := Lib.hid hfx
  have HFL := Lib.hid hfl
  have HX0 := Lib.hid hF0
  have HMM := Lib.hid hm
  have HL54 := Lib.hid hm54
  have HL92 := Lib.hid hm92
  have HTL := Lib.hid hTl
  have hkl : key.length ≤ 64 := by omega
  have hbl : b.length ≤ 1000 := by omega
  have hT32 : (u8s T).length = 32 := by rw [u8s_len, hTl]
  clear hSum1 hSum2 hm3 hF0' hfx hF0 hm hm54 hm92 hT2 hmac hmF hF hfb hTb hTl hR2 hR2l hR2b hfl
  clear hR hRl hRb hSK hSb hm1 hm2 hsk hSl hkr hbr hT
  go_enter Tryd.func3, Tryd.ntmps3
  go_wp2_with (first
    | (go_at_call 4; refine haw.mono ?_; rintro e w1 ⟨rfl, hb1⟩; have HB1 := Lib.hid hb1; clear hb1)
    | (go_at_call 5; ((with_reducible refine (HSK.out _ ((HKR.out.below HB1.out (Nat.le_refl _)).mono HB1.out.size) (HTT.out.below HB1.out hpos)).mono ?_); rintro e w2 ⟨rfl, hb2⟩); have HB2 := Lib.hid (HB1.out.trans (hb2.mono HB1.out.size)); clear hb2)
    | (refine wpList_store_arr rfl 24 (.tmp 6) (.tmp 28) rfl w2.heap.size rfl rfl (show Arr _ w2.heap.size 24 (u8s (List.replicate 32 0)) from Arr.new w2 24 (u8s (List.replicate 32 0))) Tryd.size24 hS32 rfl (u8s_one _) ?_; intro W3 A3 B3 hsz3 O3; have HB3 := Lib.hid ((HB2.out.alloc HB2.out.size (.cells (u8s (List.replicate 32 0)).toArray 24)).trans (B3.out.mono HB2.out.size)); have HA3 := Lib.hid A3.out; clear B3 O3 hsz3 A3))
  have hB4 := HB3.out.drew
  have hA4 : Arr W3.drew w2.heap.size 24 (u8s SK) := HA3.out
  have hC4 := HM1.out W3.drew ((HKR.out.below hB4 (Nat.le_refl _)).mono hB4.size) ((HBR.out.below hB4 (Nat.le_refl _)).mono hB4.size) (HTT.out.below hB4 hpos)
  have HB4 := Lib.hid hB4
  have HA4 := Lib.hid hA4
  clear hB4 hA4
  refine wp_region_held_drew (S := fun _ => True) (by kernel_rfl) trivial (fun hS0 => ?_)
  refine takeG (i := 0) (d := 29) (v := ?vr0) rfl rfl (by kernel_rfl) (by kernel_rfl) (by kernel_rfl) (fun _ _ _ h => h) (by kernel_rfl) ?hr0 (by assumption) ?rr0
  case hr0 =>
    intro w hSw
    go_simp
    try with_reducible rfl
  simp only [List.setIfInBounds_toArray, List.set_cons_zero, List.set_cons_succ]
  refine takeG (i := 1) (d := 30) (v := ?vr1) rfl rfl (by kernel_rfl) (by kernel_rfl) (by kernel_rfl) (fun _ _ _ h => h) (by kernel_rfl) ?hr1 (by assumption) ?rr1
  case hr1 =>
    intro w hSw
    go_simp
    try with_reducible rfl
  simp only [List.setIfInBounds_toArray, List.set_cons_zero, List.set_cons_succ]
  refine takeG (i := 3) (d := 32) (v := ?vr3) rfl rfl (by kernel_rfl) (by kernel_rfl) (by kernel_rfl) (fun _ _ _ h => h) (by kernel_rfl) ?hr3 (by assumption) ?rr3
  case hr3 =>
    intro w hSw
    go_simp
    try with_reducible rfl
  simp only [List.setIfInBounds_toArray, List.set_cons_zero, List.set_cons_succ]
  refine takeG (i := 4) (d := 33) (v := ?vr4) rfl rfl (by kernel_rfl) (by kernel_rfl) (by kernel_rfl) (fun _ _ _ h => h) (by kernel_rfl) ?hr4 (by assumption) ?rr4
  case hr4 =>
    intro w hSw
    go_simp
    try with_reducible rfl
  simp only [List.setIfInBounds_toArray, List.set_cons_zero, List.set_cons_succ]
  refine wpAnyH_ready (rs := [2]) (by kernel_rfl) (by simp) ?_
  refine AllReadyH.cons rfl (fun K hK => ?_) AllReadyH.nil
  go_simp
  go_at_call 6
  with_reducible refine hC4.mono ?_
  rintro e w4 ⟨rfl, hb4⟩
  have HB5 := Lib.hid (HB4.out.trans (hb4.mono HB4.out.size))
  have HA5 := Lib.hid (HA4.out.below hb4 HA4.out.lt)
  clear hb4 hC4
  go_simp
  refine hK.out _ _ trivial (fun hS1 => ?_)
  clear hK K
  refine wpAnyH_ready (rs := [5]) (by kernel_rfl) (by simp) ?_
  refine AllReadyH.cons rfl (fun K hK => ?_) AllReadyH.nil
  go_simp
  go_at_call 6
  with_reducible refine (HM2.out _ w4 (RdN.arr HA5.out HA5.out.lt) ((HBR.out.below HB5.out (Nat.le_refl _)).mono HB5.out.size) (HTT.out.below HB5.out hpos)).mono ?_
  rintro e w5 ⟨rfl, hb5⟩
  have HB6 := Lib.hid (HB5.out.trans (hb5.mono HB5.out.size))
  clear hb5
  go_simp
  refine hK.out _ _ trivial (fun hS2 => ?_)
  clear hK K
  refine takeG (i := 6) (d := 35) (v := ?vr6) rfl rfl (by kernel_rfl) (by kernel_rfl) (by kernel_rfl) (fun _ _ _ h => h) (by kernel_rfl) ?hr6 (by assumption) ?rr6
  case hr6 =>
    intro w hSw
    go_simp
    try with_reducible rfl
  simp only [List.setIfInBounds_toArray, List.set_cons_zero, List.set_cons_succ]
  refine takeG (i := 7) (d := 7) (v := ?vr7) rfl rfl (by kernel_rfl) (by kernel_rfl) (by kernel_rfl) (fun _ _ _ h => h) (by kernel_rfl) ?hr7 (by assumption) ?rr7
  case hr7 =>
    intro w hSw
    go_simp
    try with_reducible rfl
  simp only [List.setIfInBounds_toArray, List.set_cons_zero, List.set_cons_succ]
  refine wpAnyH_done (by kernel_rfl) ?_ _
  clear hS0 hS1 hS2
  go_wp2_with (at_builtin; refine wpList_append_bytes (bs := key) (n₀ := w.heap.size) hi hz0 hz1 hz2 rfl _ _ rfl w.heap.size _ [] rfl (own_empty w5 w.heap.size HB6.out.size) rfl rfl (HKR.out.below (HB6.out.alloc HB6.out.size _) (Nat.le_refl _)) ?c1 ?c2 ?c3)
  case c1 => simp; omega
  case c2 => have := HB6.out.size; simp; omega
  intro v' w6 HO6 HB60
  have ho6 : w6.ownsRow w.heap.size 5 1 v' key.length (u8s key) := by simpa using HO6.out
  have B6 : Below w.heap.size w w6 := (HB6.out.alloc HB6.out.size _).trans HB60.out
  go_wp2_with (at_builtin; refine wpList_append_zeros hi hz0 hz1 hz2 rfl _ _ rfl w.heap.size _ key rfl ho6 (m := m) rfl ?c1 B6.size ?_)
  case c1 => omega
  intro v3 w7 HO7 HB70
  have ho7 := HO7.out
  rw [← HF0'.out] at ho7
  have B7 : Below w.heap.size w w7 := B6.trans HB70.out
  rw [HMM.out, ← HFL.out] at ho7
  obtain ⟨g, c, rfl, hc, _, _, hrd⟩ := own_rd ho7 (by rw [HFL.out]; decide)
  rw [HFL.out] at hc
  simp only [HFL.out]
  have HB7 := Lib.hid B7
  have HRD := Lib.hid hrd
  clear HO6 HB60 ho6 B6 HO7 HB70 ho7 B7 hrd
  obtain ⟨n, hn⟩ : ∃ n, w7.heap.size = n := ⟨_, rfl⟩
  rw [hn] at HRD
  go_wp2
  go_loopw [9, 10, 11] (fun vi vo iv wr => ∃ (vi' vo' : Value) (k : Nat), vi' = vi ∧ vo' = vo ∧ k ≤ 64 ∧ iv = .int .i64 k ∧ Hid (wr.ownsRow n 5 1 vi (maskL (F.take k) 54).length (u8s (maskL (F.take k) 54))) ∧ Hid (wr.ownsRow n 5 1 vo (maskL (F.take k) 92).length (u8s (maskL (F.take k) 92))) ∧ Hid (Below n w7 wr) ∧ Hid (k = 0 → vi.ownBlock = none ∧ vo.ownBlock = none)) (fun _ _ iv _ => 64 - (intOf iv).toNat)
  case atStart => exact ⟨_, _, 0, rfl, rfl, by omega, rfl, World.ownsRow_nil _ _ _ _, World.ownsRow_nil _ _ _ _, by rw [← hn]; exact Below.refl _ _, fun _ => ⟨rfl, rfl⟩⟩
  case round =>
    obtain ⟨vi, vo, k, rfl, rfl, hk, rfl, HI, HO, HB, H0⟩ := hrel
    have hsn : n ≤ wr.heap.size := by rw [← hn]; exact HB.out.size
    have HSZ := Lib.hid hsn
    by_cases hlt : k < 64
    · obtain ⟨x, hx, hx8⟩ := HFX.out k hlt
      have hx54 : bits .xor .u8 (x : Int) 54 = ((x ^^^ 54 : Nat) : Int) := u8_xor_nat x 54 hx8 (by decide)
      have hx92 : bits .xor .u8 (x : Int) 92 = ((x ^^^ 92 : Nat) : Int) := u8_xor_nat x 92 hx8 (by decide)
      have N54 := Lib.hid (mask_take hx 54)
      have N92 := Lib.hid (mask_take hx 92)
      have hli : (maskL (F.take k) 54).length ≤ 64 := by simp [maskL]; omega
      have hlo : (maskL (F.take k) 92).length ≤ 64 := by simp [maskL]; omega
      have AP1 : Hid (vo.ownBlock = none ∨ vo.ownBlock ≠ vi.ownBlock) := by
        by_cases h0 : k = 0
        · exact .inl (H0.out h0).2
        · exact .inr (own_apart HO.out HI.out (mask_head HX0.out 92 (by omega)) (mask_head HX0.out 54 (by omega)) (Ne.symm (xor_apart _)))
      have AP2 : Hid (∀ (W2 : World) (v : Value), W2.ownsRow n 5 1 v (maskL (F.take k) 54 ++ [x ^^^ 54]).length (u8s (maskL (F.take k) 54 ++ [x ^^^ 54])) → W2.ownsRow n 5 1 vo (maskL (F.take k) 92).length (u8s (maskL (F.take k) 92)) → v.ownBlock = none ∨ v.ownBlock ≠ vo.ownBlock) := by
        intro W2 v h1 h2
        by_cases h0 : k = 0
        · rw [(H0.out h0).2]
          right
          rw [← N54.out] at h1
          obtain ⟨g, c, rfl, _⟩ := own_rd h1 (by rw [N54.out]; simp)
          simp [Value.ownBlock]
        · rw [← N54.out] at h1
          exact .inr (own_apart h1 h2 (mask_head HX0.out 54 (by omega)) (mask_head HX0.out 92 (by omega)) (xor_apart _))
      obtain ⟨LI, hLI⟩ : ∃ LI, maskL (F.take k) 54 = LI := ⟨_, rfl⟩
      obtain ⟨LO, hLO⟩ : ∃ LO, maskL (F.take k) 92 = LO := ⟨_, rfl⟩
      rw [hLI] at HI N54 AP2 hli
      rw [hLO] at HO N92 AP2 hlo
      clear hLI hLO H0
      have hcc : ∀ W, Below n w7 W → g < n ∧ W.cell? ⟨g, k, none⟩ = some (.int .u8 x) := fun W hW => by
        obtain ⟨bb, off, hbe, hbb, hcc⟩ := HRD.out (by rw [HFL.out]; decide)
        injection hbe with hbe
        injection hbe with e1 e2
        subst e1 e2
        refine ⟨hbb, ?_⟩
        have := (hW.cell (p := ⟨g, 0 + k, none⟩) hbb).trans (hcc k x hx)
        simpa using this
      have HCC := Lib.hid hcc
      obtain ⟨hgn, hco⟩ := hcc wr HB.out
      clear hcc hx
      go_wp2_with (at_builtin; refine wpList_append_grow (bs := [x ^^^ 54]) (n₀ := wr.heap.size + 1) hi hz0 hz1 hz2 rfl _ _ rfl n _ LI rfl (HI.out.alloc _) rfl rfl ?a1 ?a2 ?a3 ?_)
      case a1 => exact RdN.arr (Arr.new wr 5 (u8s [x ^^^ 54])) (by omega)
      case a2 => simp only [List.length_singleton]; omega
      case a3 => simp; omega
      intro v1 w1 HI1 HG1
      replace HI1 : Hid (w1.ownsRow n 5 1 v1 (LI ++ [x ^^^ 54]).length (u8s (LI ++ [x ^^^ 54]))) := by simpa using HI1
      have HO1 : Hid (w1.ownsRow n 5 1 vo LO.length (u8s LO)) := (HO.out.alloc _).kept HG1.out AP1.out
      have hn1 : n ≤ w1.heap.size := by have := HG1.out.size; simp at this; omega
      have HB1' := Lib.hid ((HB.out.alloc hsn (.cells (u8s [x ^^^ 54]).toArray 5)).grown HG1.out (by simp; omega) (fun g hg => (HI.out.lt g hg).1))
      have AP3 : Hid (v1.ownBlock = none ∨ v1.ownBlock ≠ vo.ownBlock) := AP2.out w1 v1 HI1.out HO1.out
      obtain ⟨_, hco⟩ := HCC.out w1 HB1'.out
      clear HI HO HG1 AP1 AP2 HB
      go_wp2_with (at_builtin; refine wpList_append_grow (bs := [x ^^^ 92]) (n₀ := w1.heap.size + 1) hi hz0 hz1 hz2 rfl _ _ rfl n _ LO rfl (HO1.out.alloc _) rfl rfl ?b1 ?b2 ?b3 ?_)
      case b1 => exact RdN.arr (Arr.new w1 5 (u8s [x ^^^ 92])) (by omega)
      case b2 => simp only [List.length_singleton]; omega
      case b3 => simp; omega
      intro v2 w2 HO2 HG2
      replace HO2 : Hid (w2.ownsRow n 5 1 v2 (LO ++ [x ^^^ 92]).length (u8s (LO ++ [x ^^^ 92]))) := by simpa using HO2
      have HI2 : Hid (w2.ownsRow n 5 1 v1 (LI ++ [x ^^^ 54]).length (u8s (LI ++ [x ^^^ 54]))) := (HI1.out.alloc _).kept HG2.out AP3.out
      have HB2' := Lib.hid ((HB1'.out.alloc hn1 (.cells (u8s [x ^^^ 92]).toArray 5)).grown HG2.out (by simp; omega) (fun g hg => (HO1.out.lt g hg).1))
      clear HI1 HO1 HG2 AP3 HB1'
      go_wp2
      go_roundw
      case rel => exact ⟨_, _, k + 1, rfl, rfl, by omega, by go_num, by rw [N54.out]; exact HI2, by rw [N92.out]; exact HO2, HB2', fun h => absurd h (by omega)⟩
      case measure => simp [intOf]; omega
    · obtain rfl : k = 64 := by omega
      have hft : F.take 64 = F := List.take_of_length_le (by rw [HFL.out]; omega)
      rw [hft] at HI HO
      have AP1 : Hid (vo.ownBlock = none ∨ vo.ownBlock ≠ vi.ownBlock) := .inr (own_apart HO.out HI.out (by rw [← hft]; exact mask_head HX0.out 92 (by omega)) (by rw [← hft]; exact mask_head HX0.out 54 (by omega)) (Ne.symm (xor_apart _)))
      have hbw : Below w.heap.size w wr := HB7.out.trans (HB.out.mono (by rw [← hn]; exact HB7.out.size))
      have hrb := HBR.out.below hbw (Nat.le_refl _)
      go_wp2_with (at_builtin; refine wpList_append_grow (bs := b) (n₀ := w.heap.size) hi hz0 hz1 hz2 rfl _ _ rfl n _ (maskL F 54) rfl HI.out rfl rfl hrb ?c2 hsn ?_)
      case c2 => rw [HL54.out]; omega
      intro v1 w8 HO1 HG1
      have B1 := Lib.hid ((HB.out).grown HG1.out hsn (fun g hg => (HI.out.lt g hg).1))
      have HO2 := Lib.hid (HO.out.kept HG1.out AP1.out)
      have hll : (maskL F 54 ++ b).length = 64 + b.length := by rw [List.length_append, HL54.out]
      replace HO1 : Hid (w8.ownsRow n 5 1 v1 (maskL F 54 ++ b).length (u8s (maskL F 54 ++ b))) := by rw [List.length_append]; exact HO1
      obtain ⟨g1, cc1, rfl, hc1, _, _, hr1⟩ := own_rd HO1.out (by rw [hll]; omega)
      rw [hll] at hc1 ⊢
      have hsz1 : n ≤ w8.heap.size := by have := HG1.out.size; omega
      have HW8 := Lib.hid (HB7.out.trans (B1.out.mono (by rw [← hn]; exact HB7.out.size)))
      have hs1 := HSUM1.out g1 cc1 hc1 w8 hr1 (HTT.out.below HW8.out hpos)
      clear HI HO HO1 HG1 AP1 hrb hr1 hbw HB
      go_wp2_with (first
        | (go_at_call 5; ((with_reducible refine hs1.mono ?_); rintro e w9 ⟨rfl, hb9⟩); have HB9 := Lib.hid hb9; clear hb9)
        | (refine wpList_store_arr rfl 24 (.tmp 12) (.tmp 70) rfl w9.heap.size rfl rfl (show Arr _ w9.heap.size 24 (u8s (List.replicate 32 0)) from Arr.new w9 24 (u8s (List.replicate 32 0))) Tryd.size24 hT32 rfl (u8s_one _) ?_; intro W10 A10 B10 hsz10 O10; have HA10 := Lib.hid A10.out; have h10 : Below w8.heap.size w8 W10 := (HB9.out.alloc HB9.out.size (.cells (u8s (List.replicate 32 0)).toArray 24)).trans (B10.out.mono HB9.out.size); have HO10 := Lib.hid (own_below HO2.out h10 (fun g hg => (HO2.out.lt g hg).2)); have HN10 := Lib.hid (B1.out.trans (h10.mono hsz1)); clear h10 B10 O10 hsz10 A10 HB9 B1 HO2 hs1))
      have hn10 : n ≤ W10.heap.size := by rw [← hn]; exact HN10.out.size
      have hN11 := HN10.out.drew
      have HN11 := Lib.hid hN11
      have HO11 : Hid (W10.drew.ownsRow n 5 1 vo (maskL F 92).length (u8s (maskL F 92))) := own_below HO10.out (Below.refl _ _).drew (fun g hg => (HO10.out.lt g hg).2)
      have HA11 : Hid (Arr W10.drew w9.heap.size 24 (u8s T)) := HA10.out
      have HUP : Hid (∀ W, Below n w7 W → Below w.heap.size w W ∧ RdN W.heap.size W kA key ∧ RdN W.heap.size W a b ∧ RdN W.heap.size W (some ⟨g, 0, none⟩) F ∧ Tabs W) := fun W hW => by
        have hu : Below w.heap.size w W := HB7.out.trans (hW.mono (by rw [← hn]; exact HB7.out.size))
        have hnW : n ≤ W.heap.size := by rw [← hn]; exact hW.size
        exact ⟨hu, (HKR.out.below hu (Nat.le_refl _)).mono hu.size, (HBR.out.below hu (Nat.le_refl _)).mono hu.size, (HRD.out.below hW (Nat.le_refl _)).mono hnW, HTT.out.below hu hpos⟩
      obtain ⟨_, u1, u2, u3, u4⟩ := HUP.out _ hN11
      have hC11 := HM1.out W10.drew u1 u2 u4
      clear HN10 HO10 HA10 hN11 u1 u2 u3 u4
      refine wp_region_held_drew (S := fun _ => True) (by kernel_rfl) trivial (fun hS0 => ?_)
      refine takeG (i := 0) (d := 71) (v := ?vq0) rfl rfl (by kernel_rfl) (by kernel_rfl) (by kernel_rfl) (fun _ _ _ h => h) (by kernel_rfl) ?hq0 (by assumption) ?rq0
      case hq0 =>
        intro w hSw
        go_simp
        try with_reducible rfl
      simp only [List.setIfInBounds_toArray, List.set_cons_zero, List.set_cons_succ]
      refine takeG (i := 1) (d := 72) (v := ?vq1) rfl rfl (by kernel_rfl) (by kernel_rfl) (by kernel_rfl) (fun _ _ _ h => h) (by kernel_rfl) ?hq1 (by assumption) ?rq1
      case hq1 =>
        intro w hSw
        go_simp
        try with_reducible rfl
      simp only [List.setIfInBounds_toArray, List.set_cons_zero, List.set_cons_succ]
      refine takeG (i := 3) (d := 74) (v := ?vq3) rfl rfl (by kernel_rfl) (by kernel_rfl) (by kernel_rfl) (fun _ _ _ h => h) (by kernel_rfl) ?hq3 (by assumption) ?rq3
      case hq3 =>
        intro w hSw
        go_simp
        try with_reducible rfl
      simp only [List.setIfInBounds_toArray, List.set_cons_zero, List.set_cons_succ]
      refine takeG (i := 4) (d := 75) (v := ?vq4) rfl rfl (by kernel_rfl) (by kernel_rfl) (by kernel_rfl) (fun _ _ _ h => h) (by kernel_rfl) ?hq4 (by assumption) ?rq4
      case hq4 =>
        intro w hSw
        go_simp
        try with_reducible rfl
      simp only [List.setIfInBounds_toArray, List.set_cons_zero, List.set_cons_succ]
      refine wpAnyH_ready (rs := [2]) (by kernel_rfl) (by simp) ?_
      refine AllReadyH.cons rfl (fun K hK => ?_) AllReadyH.nil
      go_simp
      go_at_call 6
      with_reducible refine (hC11).mono ?_
      rintro e w12 ⟨rfl, hb⟩
      have HN12 := Lib.hid (HN11.out.trans (hb.mono (by rw [← hn]; exact HN11.out.size)))
      have HA12 := Lib.hid (HA11.out.below hb HA11.out.lt)
      have HO12 := Lib.hid (own_below HO11.out hb (fun g hg => (HO11.out.lt g hg).2))
      obtain ⟨_, u1, u2, u3, u4⟩ := HUP.out _ HN12.out
      have hC12 := HM3.out g c hc w12 u3 u2 u4
      clear hb hC11 u1 u2 u3 u4 HN11 HA11 HO11
      go_simp
      refine hK.out _ _ trivial (fun hS1 => ?_)
      clear hK K
      refine wpAnyH_ready (rs := [5]) (by kernel_rfl) (by simp) ?_
      refine AllReadyH.cons rfl (fun K hK => ?_) AllReadyH.nil
      go_simp
      go_at_call 6
      with_reducible refine (hC12).mono ?_
      rintro e w13 ⟨rfl, hb⟩
      have HN13 := Lib.hid (HN12.out.trans (hb.mono (by rw [← hn]; exact HN12.out.size)))
      have HA13 := Lib.hid (HA12.out.below hb HA12.out.lt)
      have HO13 := Lib.hid (own_below HO12.out hb (fun g hg => (HO12.out.lt g hg).2))
      obtain ⟨_, u1, u2, u3, u4⟩ := HUP.out _ HN13.out
      have hC13 := HM1.out w13 u1 u2 u4
      clear hb hC12 u1 u2 u3 u4 HN12 HA12 HO12
      go_simp
      refine hK.out _ _ trivial (fun hS2 => ?_)
      clear hK K
      refine takeG (i := 6) (d := 77) (v := ?vq6) rfl rfl (by kernel_rfl) (by kernel_rfl) (by kernel_rfl) (fun _ _ _ h => h) (by kernel_rfl) ?hq6 (by assumption) ?rq6
      case hq6 =>
        intro w hSw
        go_simp
        try with_reducible rfl
      simp only [List.setIfInBounds_toArray, List.set_cons_zero, List.set_cons_succ]
      refine takeG (i := 7) (d := 78) (v := ?vq7) rfl rfl (by kernel_rfl) (by kernel_rfl) (by kernel_rfl) (fun _ _ _ h => h) (by kernel_rfl) ?hq7 (by assumption) ?rq7
      case hq7 =>
        intro w hSw
        go_simp
        try with_reducible rfl
      simp only [List.setIfInBounds_toArray, List.set_cons_zero, List.set_cons_succ]
      refine takeG (i := 8) (d := 79) (v := ?vq8) rfl rfl (by kernel_rfl) (by kernel_rfl) (by kernel_rfl) (fun _ _ _ h => h) (by kernel_rfl) ?hq8 (by assumption) ?rq8
      case hq8 =>
        intro w hSw
        go_simp
        try with_reducible rfl
      simp only [List.setIfInBounds_toArray, List.set_cons_zero, List.set_cons_succ]
      refine takeG (i := 9) (d := 80) (v := ?vq9) rfl rfl (by kernel_rfl) (by kernel_rfl) (by kernel_rfl) (fun _ _ _ h => h) (by kernel_rfl) ?hq9 (by assumption) ?rq9
      case hq9 =>
        intro w hSw
        go_simp
        try with_reducible rfl
      simp only [List.setIfInBounds_toArray, List.set_cons_zero, List.set_cons_succ]
      refine takeG (i := 11) (d := 82) (v := ?vq11) rfl rfl (by kernel_rfl) (by kernel_rfl) (by kernel_rfl) (fun _ _ _ h => h) (by kernel_rfl) ?hq11 (by assumption) ?rq11
      case hq11 =>
        intro w hSw
        go_simp
        try with_reducible rfl
      simp only [List.setIfInBounds_toArray, List.set_cons_zero, List.set_cons_succ]
      refine takeG (i := 12) (d := 83) (v := ?vq12) rfl rfl (by kernel_rfl) (by kernel_rfl) (by kernel_rfl) (fun _ _ _ h => h) (by kernel_rfl) ?hq12 (by assumption) ?rq12
      case hq12 =>
        intro w hSw
        go_simp
        try with_reducible rfl
      simp only [List.setIfInBounds_toArray, List.set_cons_zero, List.set_cons_succ]
      refine wpAnyH_ready (rs := [10]) (by kernel_rfl) (by simp) ?_
      refine AllReadyH.cons rfl (fun K hK => ?_) AllReadyH.nil
      go_simp
      go_at_call 6
      with_reducible refine (hC13).mono ?_
      rintro e w14 ⟨rfl, hb⟩
      have HN14 := Lib.hid (HN13.out.trans (hb.mono (by rw [← hn]; exact HN13.out.size)))
      have HA14 := Lib.hid (HA13.out.below hb HA13.out.lt)
      have HO14 := Lib.hid (own_below HO13.out hb (fun g hg => (HO13.out.lt g hg).2))
      clear hb hC13 HN13 HA13 HO13
      go_simp
      refine hK.out _ _ trivial (fun hS3 => ?_)
      clear hK K
      refine wpAnyH_ready (rs := [13]) (by kernel_rfl) (by simp) ?_
      refine AllReadyH.cons rfl (fun K hK => ?_) AllReadyH.nil
      rw [if_pos (by kernel_rfl)]
      have hn14 : n ≤ w14.heap.size := by rw [← hn]; exact HN14.out.size
      refine wp_append_own w14 (.tmp 82) (.tmp 83) 22 rfl n 5 i0 (.int .u8 0) 1 1 Tryd.underlying22 hi hz0 hz1 hz2 rfl (by decide) _ _ _ rfl HO14.out ⟨w9.heap.size, 0, none⟩ 32 32 (u8s T) rfl (by rw [hT32]) ?z1 u8s_mem (by rw [HL92.out]; unfold maxLen; decide) (by rw [HL92.out]; decide) hn14 ?z2
      case z1 =>
        intro j u hu
        rw [show (⟨w9.heap.size, 0, none⟩ : Addr).add j = ⟨w9.heap.size, j, none⟩ by unfold Addr.add; split <;> simp_all, HA14.out.cell]
        exact hu
      case z2 =>
      intro v4 w15 ho4 hg4 _
      have HO15 : Hid (w15.ownsRow n 5 1 v4 (maskL F 92 ++ T).length (u8s (maskL F 92 ++ T))) := by
        unfold Hid
        rw [u8s_append, List.length_append, HTL.out]
        exact ho4
      have hll2 : (maskL F 92 ++ T).length = 96 := by rw [List.length_append, HL92.out, HTL.out]
      obtain ⟨g4, c4, rfl, hc4, _, _, hr4⟩ := own_rd HO15.out (by rw [hll2]; decide)
      rw [hll2] at hc4 ⊢
      have HN15 := Lib.hid (HN14.out.grown hg4 hn14 (fun g hg => (HO14.out.lt g hg).1))
      obtain ⟨_, u1, u2, u3, u4⟩ := HUP.out _ HN15.out
      have hC15 := HSUM2.out g4 c4 hc4 w15 hr4 u4
      clear ho4 hg4 HO14 HO15 HA14 HN14 u1 u2 u3 u4 hr4
      refine hK.out _ _ trivial (fun hS4 => ?_)
      clear hK K
      simp only [Act.put, List.setIfInBounds_toArray, List.set_cons_zero, List.set_cons_succ]
      refine wpAnyH_ready (rs := [14]) (by kernel_rfl) (by simp) ?_
      refine AllReadyH.cons rfl (fun K hK => ?_) AllReadyH.nil
      go_simp
      go_at_call 5
      with_reducible refine (hC15).mono ?_
      rintro e w16 ⟨rfl, hb⟩
      have HN16 := Lib.hid (HN15.out.trans (hb.mono (by rw [← hn]; exact HN15.out.size)))
      clear hb hC15 HN15
      go_simp
      refine hK.out _ _ trivial (fun hS5 => ?_)
      clear hK K
      refine takeG (i := 15) (d := 86) (v := ?vq15) rfl rfl (by kernel_rfl) (by kernel_rfl) (by kernel_rfl) (fun _ _ _ h => h) (by kernel_rfl) ?hq15 (by assumption) ?rq15
      case hq15 =>
        intro w hSw
        go_simp
        try with_reducible rfl
      simp only [List.setIfInBounds_toArray, List.set_cons_zero, List.set_cons_succ]
      refine takeG (i := 16) (d := 87) (v := ?vq16) rfl rfl (by kernel_rfl) (by kernel_rfl) (by kernel_rfl) (fun _ _ _ h => h) (by kernel_rfl) ?hq16 (by assumption) ?rq16
      case hq16 =>
        intro w hSw
        go_simp
        try with_reducible rfl
      simp only [List.setIfInBounds_toArray, List.set_cons_zero, List.set_cons_succ]
      refine takeG (i := 17) (d := 4) (v := ?vq17) rfl rfl (by kernel_rfl) (by kernel_rfl) (by kernel_rfl) (fun _ _ _ h => h) (by kernel_rfl) ?hq17 (by assumption) ?rq17
      case hq17 =>
        intro w hSw
        go_simp
        try with_reducible rfl
      simp only [List.setIfInBounds_toArray, List.set_cons_zero, List.set_cons_succ]
      refine wpAnyH_done (by kernel_rfl) ?_ _
      clear hS0 hS1 hS2 hS3 hS4 hS5
      go_wp2
      go_ret
      exact ⟨rfl, (HUP.out _ HN16.out).1⟩
theorem builds_walk (kA : Option Addr) (kc : Nat) (key : List Nat) (a : Option Addr) (cap : Nat) (b : List Nat) (w : World) (hk : InB w kA key.length kc key) (hb : InB w a b.length cap b) (hT : Tabs w) :
    Calls Tryd.prog 3 #[.slice kA key.length kc, .slice a b.length cap] w fun e w' => e = .returned (.bool true) ∧ Below w.heap.size w w' := by
  by_cases c : 500 < key.length ∨ 1000 < b.length
  · have h1 : key.length ≤ 9223372036854775807 := by obtain ⟨_, _, hkm, _⟩ := hk; unfold maxLen at hkm; omega
    have h2 : b.length ≤ 9223372036854775807 := by obtain ⟨_, _, hkm, _⟩ := hb; unfold maxLen at hkm; omega
    exact builds_no kA kc key.length a cap b.length h1 h2 w hT c
  · by_cases c3 : 64 < key.length
    · exact builds_long kA kc key a cap b w hk hb hT (fun h => c (.inl h)) (fun h => c (.inr h)) c3
    · exact builds_short kA kc key a cap b w hk hb hT (fun h => c (.inl h)) (fun h => c (.inr h)) c3
end Go.Proofs.YtmkbeccglphohaaDoor
