/-
  THE DOCUMENT'S Open: the envelope's key is there.
-/
import Derived.Test.YtmmocnokgcgmnaaDoorOpA

namespace Go.Proofs.YtmmocnokgcgmnaaDoor
set_option linter.unusedSimpArgs false
set_option linter.unusedVariables false
open Go.RowKit
set_option maxHeartbeats 6400000 in
set_option maxRecDepth 100000 in
theorem ropn_some (kA : Option Addr) (nk kc : Nat) (x2 x3 x4 x5 x6 x7 x8 x9 x10 : Nat) (hx : x2 < 256 ∧ x3 < 256 ∧ x4 < 256 ∧ x5 < 256 ∧ x6 < 256 ∧ x7 < 256 ∧ x8 < 256 ∧ x9 < 256 ∧ x10 < 256) (l r f : Nat) (hl : x3 * 256 + x4 = l) (hr : x5 * 256 + x6 = r) (hf : x7 * 16777216 + x8 * 65536 + x9 * 256 + x10 = f) (g o m c : Nat) (hm : m ≤ 4096) (b : List Nat) (hbl : b.length = 27 + m) (hnc : 27 + m ≤ c) (hcm : c ≤ 9223372036854775807) (hb : b[0]? = some 161 ∧ b[1]? = some 247 ∧ b[2]? = some x2 ∧ b[3]? = some x3 ∧ b[4]? = some x4 ∧ b[5]? = some x5 ∧ b[6]? = some x6 ∧ b[7]? = some x7 ∧ b[8]? = some x8 ∧ b[9]? = some x9 ∧ b[10]? = some x10) (ho : okO x2 l r f) (FQ pk : List Nat) (hQl : FQ.length = 16) (hQb : ∀ x ∈ FQ, x < 256) (hpb : ∀ x ∈ pk, x < 256) (hpl : pk.length = m) (hbe : b = headL x2 l r f ++ (FQ ++ pk)) (sA : Option Addr) (sc : Nat) (sec : List Nat) (hsb : ∀ x ∈ sec, x < 256) (hsl : sec.length ≤ 1000000) (ks : List KeyD) (hnk : ks.length = nk) (hnk2 : nk ≤ 1000000) (hk0 : x2 ≠ 0) (j : Nat) (kd0 : KeyD) (hj : ks[j]? = some kd0) (hkid : kd0.id = x2) (hkok : okK kd0.id kd0.n) (hkE : kd0.a = sA ∧ kd0.n = sec.length ∧ kd0.c = sc) (hno : ∀ i, i < j → ∀ kd, ks[i]? = some kd → ¬ (kd.id = x2 ∧ okK kd.id kd.n)) (w : World) (hrd : RdN w.heap.size w (some ⟨g, o, none⟩) b) (hrs : RdN w.heap.size w sA sec) (hk : RdK w.heap.size w kA ks) :
    Calls Tryd.prog 6 #[.slice kA nk kc, .slice (some ⟨g, o, none⟩) (27 + m) c] w fun e w' => OpnE x2 l r f FQ (printL x2 sec (headL x2 l r f) pk) pk w e w' := by
  obtain ⟨hb0, hb1, hb2, hb3, hb4, hb5, hb6, hb7, hb8, hb9, hb10⟩ := hb
  obtain ⟨Y, hY⟩ : ∃ Y, w.alloc (.cells #[.int .i64 0, .int .i64 0, .int .i64 0, .int .i64 0] 28) = Y := ⟨_, rfl⟩
  have hBY : Below w.heap.size w Y := by rw [← hY]; exact (Below.refl w.heap.size w).alloc (Nat.le_refl _) _
  have hYs : Y.heap.size = w.heap.size + 1 := by rw [← hY]; simp
  have haz : Arr Y w.heap.size 28 [.int .i64 0, .int .i64 0, .int .i64 0, .int .i64 0] := by rw [← hY]; exact Arr.new w 28 [.int .i64 0, .int .i64 0, .int .i64 0, .int .i64 0]
  have HAZ : Hid (∀ W, Below Y.heap.size Y W → Arr W w.heap.size 28 [.int .i64 0, .int .i64 0, .int .i64 0, .int .i64 0]) := fun W h => haz.below h (by omega)
  have HRD : Hid (∀ W, Below Y.heap.size Y W → RdN W.heap.size W (some ⟨g, o, none⟩) b) := fun W h => ((hrd.below hBY (Nat.le_refl _)).below h (by omega)).mono (by have := h.size; omega)
  have hg : g < Y.heap.size := by
    obtain ⟨g', o', e, hlt, _⟩ := HRD.out Y (Below.refl _ _) (by omega)
    cases e
    exact hlt
  have HBY := Lib.hid hBY
  have HLE : Hid (w.heap.size ≤ Y.heap.size) := by unfold Hid; omega
  have HLT : Hid (w.heap.size < Y.heap.size) := by unfold Hid; omega
  have B0 := Lib.hid (Below.refl Y.heap.size Y)
  have d0 := (HRD.out _ B0.out).atZ hb0
  have d1 := (HRD.out _ B0.out).atO hb1
  have d2 := (HRD.out _ B0.out).atO hb2
  have d3 := (HRD.out _ B0.out).atO hb3
  have d4 := (HRD.out _ B0.out).atO hb4
  have d5 := (HRD.out _ B0.out).atO hb5
  have d6 := (HRD.out _ B0.out).atO hb6
  have d7 := (HRD.out _ B0.out).atO hb7
  have d8 := (HRD.out _ B0.out).atO hb8
  have d9 := (HRD.out _ B0.out).atO hb9
  have d10 := (HRD.out _ B0.out).atO hb10
  have g1 : decide ((27 + (m : Int)) < 27) = false := decide_eq_false (by omega)
  have g2 : decide ((4123 : Int) < (27 + (m : Int))) = false := decide_eq_false (by omega)
  have i0 : (0 : Int) < (27 + (m : Int)) := by omega
  have i1 : (1 : Int) < (27 + (m : Int)) := by omega
  have i2 : (2 : Int) < (27 + (m : Int)) := by omega
  have i3 : (3 : Int) < (27 + (m : Int)) := by omega
  have i4 : (4 : Int) < (27 + (m : Int)) := by omega
  have i5 : (5 : Int) < (27 + (m : Int)) := by omega
  have i6 : (6 : Int) < (27 + (m : Int)) := by omega
  have i7 : (7 : Int) < (27 + (m : Int)) := by omega
  have i8 : (8 : Int) < (27 + (m : Int)) := by omega
  have i9 : (9 : Int) < (27 + (m : Int)) := by omega
  have i10 : (10 : Int) < (27 + (m : Int)) := by omega
  obtain ⟨m1, m2, m3, m4, m5, m6, m7, m8, m9, m10, v2, v3, v4, v5, v6, v7, v8, v9, v10⟩ := env_nums x2 x3 x4 x5 x6 x7 x8 x9 x10 hx l r f hl hr hf
  obtain ⟨i0, hi, hz0, hz1, hz2⟩ := info_parts Tryd.info5
  have hO := rokO_any x2 l r f
  have HO1 := Lib.hid ho
  obtain ⟨o1, o2, o3, o4⟩ := okO_bounds ho
  clear hl hr hf hx
  have hHl := headL_len x2 l r f
  have ht2 : (b.drop 11).take 16 = FQ := by rw [hbe, List.drop_left' hHl]; exact List.take_left' hQl
  have ht3 : b.drop 27 = pk := by
    rw [hbe, ← List.append_assoc]
    exact List.drop_left' (by rw [List.length_append, hHl, hQl])
  have HRS : Hid (∀ W, Below Y.heap.size Y W → RdN W.heap.size W sA sec) := fun W h => ((hrs.below hBY (Nat.le_refl _)).below h (by omega)).mono (by have := h.size; omega)
  obtain ⟨pA, hpA⟩ : ∃ pA, (if c = 27 then some (⟨g, o, none⟩ : Addr) else some ⟨g, o + 27, none⟩) = pA := ⟨_, rfl⟩
  have HPS : Hid (∃ ad, pA = some ad) := by rw [← hpA]; split <;> exact ⟨_, rfl⟩
  have HML : Hid (m ≤ 100000) := by unfold Hid; omega
  have HPK : Hid (∀ W, Below Y.heap.size Y W → RdN W.heap.size W pA pk) := fun W h => by
    rw [← hpA]
    split
    · have h0 : pk = [] := List.eq_nil_of_length_eq_zero (by omega)
      rw [h0]
      exact RdN.nil _ _ _
    · have := (HRD.out W h).part 27 pk.length
      rw [ht3, List.take_length] at this
      exact this
  have HFD : Hid (∀ W, Below Y.heap.size Y W → RdN W.heap.size W (some ⟨g, o + 11, none⟩) FQ) := fun W h => by
    have := (HRD.out W h).part 11 16
    rw [ht2] at this
    exact this
  have y1 : ¬ c < 11 := by omega
  have y2 : ¬ c < 27 := by omega
  have y3 : ¬ c = 11 := by omega
  have y4 : (11 : Int) ≤ (c : Int) := by omega
  have y5 : (27 : Int) ≤ (c : Int) := by omega
  have y6 : (27 : Int) + (m : Int) ≤ (c : Int) := by omega
  have y7 : ¬ c < 27 + m := by omega
  have y8 : (27 : Int) ≤ 27 + (m : Int) := by omega
  have y9 : ¬ ((27 : Int) + (m : Int) < 27) := by omega
  have hPR := fun W h1 h2 => rprint_any x2 sA sc sec hsb hsl x2 l r f o1 o2 o3 o4 pA (c - 27) pk hpb (by omega) W h1 h2
  obtain ⟨FP, hFP⟩ : ∃ FP, printL x2 sec (headL x2 l r f) pk = FP := ⟨_, rfl⟩
  have hFl : FP.length = 16 := by rw [← hFP]; exact printL_len _ _ _ _
  have hFb : ∀ x ∈ FP, x < 256 := by
    rw [← hFP]
    unfold printL
    split
    · intro x hx; rw [(List.mem_replicate.1 hx).2]; decide
    · exact fun x hx => outV_lt _ x (List.mem_of_mem_take hx)
  rw [hFP] at hPR ⊢
  have HINJ : Hid (¬ FQ = FP → ((strB FP).toList == (strB FQ).toList) = false) := fun h => beq_false_of_ne (fun e => h (strB_inj2 hQb hFb e.symm))
  have NE : Hid (Y.heap.size ≠ w.heap.size) := by unfold Hid; omega
  rw [hpl] at hPR
  have HPL := Lib.hid hpl
  have HQL := Lib.hid hQl
  have HFL := Lib.hid hFl
  have hjn : j < nk := by
    rcases Nat.lt_or_ge j nk with h | h
    · exact h
    · rw [List.getElem?_eq_none (by omega)] at hj; cases hj
  have HK : Hid (RdK Y.heap.size Y kA ks) := fun j kd hj => by
    obtain ⟨h1, B, off, e, h2, h3, h4⟩ := hk j kd hj
    exact ⟨h1, B, off, e, by omega, (hBY.cell (p := ⟨B, _, none⟩) h2).trans h3, (hBY.cell (p := ⟨B, _, none⟩) h2).trans h4⟩
  have HNO := Lib.hid hno
  have HNK := Lib.hid hnk
  have HJ := Lib.hid hj
  have HKI := Lib.hid hkid
  have HKO := Lib.hid hkok
  have HKE := Lib.hid hkE
  have z0 : ((x2 : Int) == 0) = false := by simp; omega
  clear hno hnk hj hkid hkok hkE hk hk0
  clear hb0 hb1 hb2 hb3 hb4 hb5 hb6 hb7 hb8 hb9 hb10 hBY hYs haz hrd hbl o1 o2 o3 o4 ho hHl ht2 ht3 hbe hpb hQb hFb hFP hpl hQl hFl hrs
  go_enter Tryd.func6, Tryd.ntmps6
  go_wp2
  go_region_held (fun W => W.cell? ⟨g, o + 2, none⟩ = some (.int .u8 x2) ∧ W.cell? ⟨g, o + 3, none⟩ = some (.int .u8 x3) ∧ W.cell? ⟨g, o + 4, none⟩ = some (.int .u8 x4) ∧ W.cell? ⟨g, o + 5, none⟩ = some (.int .u8 x5) ∧ W.cell? ⟨g, o + 6, none⟩ = some (.int .u8 x6)) (first | exact ⟨d2, d3, d4, d5, d6⟩ | exact ⟨by assumption, by assumption, by assumption, by assumption, by assumption⟩ | go_keep) (fail)
  generalize hU : World.drew _ = U
  have BU : Below Y.heap.size Y U := by rw [← hU]; exact ((Below.refl _ Y).alloc (Nat.le_refl _) _).drew
  have A3 := Lib.hid (show Arr U Y.heap.size 28 [.int .i64 x2, .int .i64 l, .int .i64 r, .int .i64 0] from by rw [← hU]; exact Arr.new Y 28 [.int .i64 x2, .int .i64 l, .int .i64 r, .int .i64 0])
  have HU3 := Lib.hid BU
  have hgU : g < U.heap.size := Nat.lt_of_lt_of_le hg BU.size
  have hYU : Y.heap.size < U.heap.size := A3.out.lt
  have hne : g ≠ Y.heap.size := by omega
  have fz : ∀ j, U.frozen? ⟨Y.heap.size, j, none⟩ = false := fun j => A3.out.frozen j
  have t3 := A3.out.cell 3
  simp only [List.getElem?_cons_succ, List.getElem?_cons_zero] at t3
  have e7 := (BU.cell (p := ⟨g, o + 7, none⟩) hg).trans d7
  have e8 := (BU.cell (p := ⟨g, o + 8, none⟩) hg).trans d8
  have e9 := (BU.cell (p := ⟨g, o + 9, none⟩) hg).trans d9
  have e10 := (BU.cell (p := ⟨g, o + 10, none⟩) hg).trans d10
  have k7 := cell_keeps (k := Y.heap.size) (j := 3) e7 hne
  have k8 := cell_keeps (k := Y.heap.size) (j := 3) e8 hne
  have k9 := cell_keeps (k := Y.heap.size) (j := 3) e9 hne
  have k10 := cell_keeps (k := Y.heap.size) (j := 3) e10 hne
  have K7 := Lib.hid (⟨k7, k8, k9, k10⟩ : _ ∧ _ ∧ _ ∧ _)
  clear hU BU k7 k8 k9 k10
  go_wp2
  go_region_held (fun W => W.cell? ⟨g, o + 7, none⟩ = some (.int .u8 x7) ∧ W.cell? ⟨g, o + 8, none⟩ = some (.int .u8 x8) ∧ W.cell? ⟨g, o + 9, none⟩ = some (.int .u8 x9) ∧ W.cell? ⟨g, o + 10, none⟩ = some (.int .u8 x10)) (first | exact ⟨e7, e8, e9, e10⟩ | exact ⟨by assumption, by assumption, by assumption, by assumption⟩ | exact ⟨K7.out.1 _, K7.out.2.1 _, K7.out.2.2.1 _, K7.out.2.2.2 _⟩) (fail)
  generalize hV : World.drew _ = V
  have A4 := Lib.hid (show Arr V Y.heap.size 28 [.int .i64 x2, .int .i64 l, .int .i64 r, .int .i64 f] from by
    have q := (A3.out.set 3 (.int .i64 f))
    simp only [List.set_cons_zero, List.set_cons_succ] at q
    rw [← hV]
    exact q)
  have B4 := Lib.hid (show Below Y.heap.size Y V from by rw [← hV]; exact (HU3.out.setCell (p := ⟨Y.heap.size, 3, none⟩) (Nat.le_refl _) _).drew)
  clear hV e7 e8 e9 e10 t3 fz K7 d0 d1 d2 d3 d4 d5 d6 d7 d8 d9 d10
  go_wp2_with (first
    | (refine wpList_load_arr rfl 28 (.tmp 7) rfl Y.heap.size rfl A4.out Tryd.underlying28 rfl sizeO rfl ?_)
    | (go_at_call 14; refine (hO V).mono ?_; rintro e w5 ⟨⟨x, rfl, hx5⟩, hb5⟩; obtain rfl : x = true := hx5.2 HO1.out; have A5 := Lib.hid (A4.out.below hb5 A4.out.lt); have B5 := Lib.hid (B4.out.trans (hb5.mono B4.out.size)); clear hx5 hb5)
    | (refine wpList_store_arr rfl 26 (.tmp 9) (.tmp 86) rfl w5.heap.size rfl (vs := [.int .i64 0, .slice none 0 0]) rfl (show Arr _ w5.heap.size 26 [.int .i64 0, .slice none 0 0] from Arr.new w5 26 [.int .i64 0, .slice none 0 0]) sizeK rfl rfl (by simp [Value.oneCell']) ?_; intro W6 A6 B6 hsz6 O6; have BB6 := Lib.hid ((B5.out.alloc B5.out.size _).trans (B6.out.mono B5.out.size)); have K6 := Lib.hid (((Below.refl w5.heap.size w5).alloc (Nat.le_refl _) _).trans B6.out); have A7 := Lib.hid (A5.out.below K6.out A5.out.lt); have co := A7.out.cell 0; simp only [List.getElem?_cons_zero] at co; clear hsz6 O6))
  go_loopw [10, 11] (fun bo i wr => ∃ k : Nat, i = .int .i64 k ∧ k ≤ nk ∧ ((bo = .bool false ∧ k ≤ j ∧ Hid (Arr wr w5.heap.size 26 [.int .i64 0, .slice none 0 0])) ∨ (bo = .bool true ∧ Hid (Arr wr w5.heap.size 26 [.int .i64 x2, .slice sA sec.length sc]))) ∧ Hid (Below Y.heap.size Y wr) ∧ Hid (Below w5.heap.size w5 wr) ∧ Hid (Arr wr Y.heap.size 28 [.int .i64 x2, .int .i64 l, .int .i64 r, .int .i64 f])) (fun _ i _ => nk - (intOf i).toNat)
  case atStart => exact ⟨0, rfl, Nat.zero_le _, .inl ⟨rfl, Nat.zero_le _, A6.out⟩, BB6.out, K6.out, A7.out⟩
  case round =>
    obtain ⟨k, rfl, hk, hst, HB, HB5, HA⟩ := hrel
    have HL5 : Hid (Y.heap.size < w5.heap.size) := A5.out.lt
    clear A4 A5 A6 A7 B4 B5 B6 BB6 K6 co A3 HU3
    rcases hst with ⟨rfl, hkj, HK9⟩ | ⟨rfl, HK9⟩
    · have hlt : k < nk := by omega
      have gl : decide ((k : Int) < (nk : Int)) = true := decide_eq_true (by omega)
      obtain ⟨kd, hkd⟩ : ∃ kd, ks[k]? = some kd := ⟨_, List.getElem?_eq_getElem (by have := HNK.out; omega)⟩
      obtain ⟨q1, B, off, rfl, q2, q3, q4⟩ := HK.out k kd hkd
      have hB := Nat.lt_of_lt_of_le q2 HB.out.size
      have p0 := (HB.out.cell (p := ⟨B, _, none⟩) q2).trans q3
      have p1 := (HB.out.cell (p := ⟨B, _, none⟩) q2).trans q4
      have p2 := HA.out.cell 0
      simp only [List.getElem?_cons_zero] at p2
      have hyl := HA.out.lt
      have hR := fun W => rokK_any kd.id kd.a kd.n kd.c q1 W
      have Hq2 := Lib.hid q2
      clear q3 q4 q2
      rcases Nat.lt_or_ge k j with hkl | hkl
      · have hnm := HNO.out k hkl kd hkd
        clear hkd
        by_cases hok : okK kd.id kd.n
        · have hne : ¬ kd.id = x2 := fun e => hnm ⟨e, hok⟩
          have HOK := Lib.hid hok
          clear hnm hok
          go_wp2
          first
            | (go_region_with (first
                | (go_at_call 15; (with_reducible refine (hR _).mono ?_); rintro e w7 ⟨⟨y, rfl, hy⟩, hb7⟩; obtain rfl : y = true := hy.2 HOK.out; have c0 := (hb7.cell (p := ⟨B, _, none⟩) hB).trans p0; have c2 := (hb7.cell (p := ⟨Y.heap.size, 0, none⟩) hyl).trans p2; have HB2 := Lib.hid (HB.out.drew.trans (hb7.mono HB.out.size)); have HB52 := Lib.hid (HB5.out.drew.trans (hb7.mono HB5.out.size)); have HA2 := Lib.hid ((show Arr wr.drew Y.heap.size 28 [.int .i64 x2, .int .i64 l, .int .i64 r, .int .i64 f] from HA.out).below hb7 HA.out.lt); have HK2 := Lib.hid ((show Arr wr.drew w5.heap.size 26 [.int .i64 0, .slice none 0 0] from HK9.out).below hb7 HK9.out.lt); clear hy hb7)))
            | fail
          all_goals go_wp2
          all_goals go_roundw
          all_goals first
            | exact ⟨k + 1, by go_num, by omega, .inl ⟨rfl, by omega, HK2.out⟩, HB2.out, HB52.out, HA2.out⟩
            | (simp [intOf]; omega)
        · have HOK := Lib.hid hok
          clear hnm hok
          go_wp2
          first
            | (go_region_with (first
                | (go_at_call 15; (with_reducible refine (hR _).mono ?_); rintro e w7 ⟨⟨y, rfl, hy⟩, hb7⟩; obtain rfl : y = false := (by cases y; rfl; exact absurd (hy.1 rfl) HOK.out); have HB2 := Lib.hid (HB.out.drew.trans (hb7.mono HB.out.size)); have HB52 := Lib.hid (HB5.out.drew.trans (hb7.mono HB5.out.size)); have HA2 := Lib.hid ((show Arr wr.drew Y.heap.size 28 [.int .i64 x2, .int .i64 l, .int .i64 r, .int .i64 f] from HA.out).below hb7 HA.out.lt); have HK2 := Lib.hid ((show Arr wr.drew w5.heap.size 26 [.int .i64 0, .slice none 0 0] from HK9.out).below hb7 HK9.out.lt); clear hy hb7)))
            | fail
          all_goals go_wp2
          all_goals go_roundw
          all_goals first
            | exact ⟨k + 1, by go_num, by omega, .inl ⟨rfl, by omega, HK2.out⟩, HB2.out, HB52.out, HA2.out⟩
            | (simp [intOf]; omega)
      · obtain rfl : k = j := by omega
        have e0 : kd0 = kd := Option.some.inj (HJ.out.symm.trans hkd)
        subst e0
        clear hkd HJ
        obtain ⟨id, ka, kn, kc2⟩ := kd0
        obtain rfl : (x2 : Int) = id := HKI.out.symm
        obtain rfl : sA = ka := HKE.out.1.symm
        obtain rfl : sec.length = kn := HKE.out.2.1.symm
        obtain rfl : sc = kc2 := HKE.out.2.2.symm
        have HOK : Hid (okK (x2 : Int) sec.length) := HKO.out
        dsimp only at p0 p1 hR q1
        clear HKO HKE HKI
        go_wp2
        first
          | (go_region_with (first
              | (go_at_call 15; (with_reducible refine (hR _).mono ?_); rintro e w7 ⟨⟨y, rfl, hy⟩, hb7⟩; obtain rfl : y = true := hy.2 HOK.out; have c0 := (hb7.cell (p := ⟨B, _, none⟩) hB).trans p0; have c1 := (hb7.cell (p := ⟨B, _, none⟩) hB).trans p1; have c2 := (hb7.cell (p := ⟨Y.heap.size, 0, none⟩) hyl).trans p2; have HB2 := Lib.hid (HB.out.drew.trans (hb7.mono HB.out.size)); have HB52 := Lib.hid (HB5.out.drew.trans (hb7.mono HB5.out.size)); have HA2 := Lib.hid ((show Arr wr.drew Y.heap.size 28 [.int .i64 x2, .int .i64 l, .int .i64 r, .int .i64 f] from HA.out).below hb7 HA.out.lt); have HK2 := Lib.hid ((show Arr wr.drew w5.heap.size 26 [.int .i64 0, .slice none 0 0] from HK9.out).below hb7 HK9.out.lt); clear hy hb7)))
          | fail
        all_goals go_wp2_with (first
          | (refine wpList_store_arr rfl 26 (.tmp 9) (.tmp 118) rfl w5.heap.size rfl (vs := [.int .i64 x2, .slice sA sec.length sc]) rfl HK2.out sizeK rfl rfl (by simp [Value.oneCell']) ?_; intro W9 A9 B9 hsz9 O9))
        all_goals go_roundw
        all_goals first
          | (refine ⟨k + 1, by go_num, by omega, .inr ⟨rfl, ?_⟩, ?_, ?_, ?_⟩
             · exact A9
             · exact HB2.out.trans (B9.mono (Nat.le_of_lt HL5.out))
             · exact HB52.out.trans B9
             · exact (HA2.out.below B9 HL5.out))
          | (simp [intOf]; omega)
    · -- found
      clear HJ HKI HKO HKE HNO HK
      by_cases hq : FQ = FP
      · have he : ((strB FP).toList == (strB FQ).toList) = true := by rw [hq]; exact beq_self_eq_true _
        have HQ := Lib.hid hq
        clear hq
        -- the fingerprint
        have p0 := HA.out.cell 0
        have p1 := HA.out.cell 1
        have p2 := HA.out.cell 2
        have p3 := HA.out.cell 3
        have r0 := HK9.out.cell 0
        have r1 := HK9.out.cell 1
        simp only [List.getElem?_cons_zero, List.getElem?_cons_succ] at p0 p1 p2 p3 r0 r1
        have hyl := HA.out.lt
        have hkl := HK9.out.lt
        have cvA : ∀ cap, (convert 23 9 (.slice (some ⟨g, o + 11, none⟩) 16 cap)).run Tryd.prog wr.drew = .ok (.string (strB FQ)) wr.drew := fun cap => conv_rdE (HFD.out _ HB.out.drew) HQL.out cap
        go_wp2
        all_goals first
          | (go_region_held (fun W => (W.cell? ⟨Y.heap.size, 0, none⟩ = some (.int .i64 x2) ∧ W.cell? ⟨Y.heap.size, 1, none⟩ = some (.int .i64 l) ∧ W.cell? ⟨Y.heap.size, 2, none⟩ = some (.int .i64 r) ∧ W.cell? ⟨Y.heap.size, 3, none⟩ = some (.int .i64 f)) ∧ W.cell? ⟨w5.heap.size, 0, none⟩ = some (.int .i64 x2) ∧ W.cell? ⟨w5.heap.size, 1, none⟩ = some (.slice sA sec.length sc)) (first | exact ⟨⟨p0, p1, p2, p3⟩, r0, r1⟩ | exact ⟨⟨by assumption, by assumption, by assumption, by assumption⟩, by assumption, by assumption⟩)
              (first
                | (go_at_call 16; (with_reducible refine (hPR _ (HRS.out _ HB.out.drew) (HPK.out _ HB.out.drew)).mono ?_); rintro e w8 ⟨⟨g8, c8, rfl, hr8⟩, hb8⟩; have HB8 := Lib.hid (HB.out.drew.trans (hb8.mono HB.out.size)); have HA8 := Lib.hid ((show Arr wr.drew Y.heap.size 28 [.int .i64 x2, .int .i64 l, .int .i64 r, .int .i64 f] from HA.out).below hb8 hyl); have q0 := (hb8.cell (p := ⟨Y.heap.size, 0, none⟩) hyl).trans p0; have q1 := (hb8.cell (p := ⟨Y.heap.size, 1, none⟩) hyl).trans p1; have q2 := (hb8.cell (p := ⟨Y.heap.size, 2, none⟩) hyl).trans p2; have q3 := (hb8.cell (p := ⟨Y.heap.size, 3, none⟩) hyl).trans p3; have q4 := (hb8.cell (p := ⟨w5.heap.size, 0, none⟩) hkl).trans r0; have q5 := (hb8.cell (p := ⟨w5.heap.size, 1, none⟩) hkl).trans r1; have cvB : ∀ cap, (convert 23 9 (.slice (some ⟨g, o + 11, none⟩) 16 cap)).run Tryd.prog w8 = .ok (.string (strB FQ)) w8 := (fun cap => conv_rdE (HFD.out _ HB8.out) HQL.out cap); have cvC : (convert 23 9 (.slice (some ⟨g8, 0, none⟩) 16 c8)).run Tryd.prog w8 = .ok (.string (strB FP)) w8 := conv_rdE hr8 HFL.out c8; obtain ⟨v9, w9, hrun, ho9, hg9⟩ := run_app w8.drew w8.heap.size rfl pA HPS.out m (c - 27) pk HPL.out HML.out (HPK.out _ HB8.out.drew); have hrun2 : (Builtin.append_ #[23, 23] 23 #[.slice (some ⟨w8.heap.size, 0, none⟩) 0 0, .slice pA m (c - 27)]).run Tryd.prog (w8.alloc (.cells #[] 5)).drew = .ok v9 w9 := hrun; have HB9 := Lib.hid (HB8.out.drew.trans (hg9.mono HB8.out.size)); have hA9 := HAZ.out _ HB9.out; have z0 := hA9.cell 0; have z1 := hA9.cell 1; have z2 := hA9.cell 2; have z3 := hA9.cell 3; simp only [List.getElem?_cons_zero, List.getElem?_cons_succ] at z0 z1 z2 z3; have fz : ∀ j, w9.frozen? ⟨w.heap.size, j, none⟩ = false := (fun j => hA9.frozen j); have HA9 := Lib.hid hA9; have QD : Hid (w8.drew.cell? ⟨Y.heap.size, 0, none⟩ = some (.int .i64 x2) ∧ w8.drew.cell? ⟨Y.heap.size, 1, none⟩ = some (.int .i64 l) ∧ w8.drew.cell? ⟨Y.heap.size, 2, none⟩ = some (.int .i64 r) ∧ w8.drew.cell? ⟨Y.heap.size, 3, none⟩ = some (.int .i64 f)) := ⟨q0, q1, q2, q3⟩; have QA : Hid ((w8.alloc (.cells #[] 5)).drew.cell? ⟨Y.heap.size, 0, none⟩ = some (.int .i64 x2) ∧ (w8.alloc (.cells #[] 5)).drew.cell? ⟨Y.heap.size, 1, none⟩ = some (.int .i64 l) ∧ (w8.alloc (.cells #[] 5)).drew.cell? ⟨Y.heap.size, 2, none⟩ = some (.int .i64 r) ∧ (w8.alloc (.cells #[] 5)).drew.cell? ⟨Y.heap.size, 3, none⟩ = some (.int .i64 f)) := four_keeps (W := w8) (V := (w8.alloc (.cells #[] 5)).drew) (heap_alloc_old' w8 (.cells #[] 5) HA8.out.lt) ⟨q0, q1, q2, q3⟩; have QB : Hid ((w8.drew.alloc (.cells #[] 5)).cell? ⟨Y.heap.size, 0, none⟩ = some (.int .i64 x2) ∧ (w8.drew.alloc (.cells #[] 5)).cell? ⟨Y.heap.size, 1, none⟩ = some (.int .i64 l) ∧ (w8.drew.alloc (.cells #[] 5)).cell? ⟨Y.heap.size, 2, none⟩ = some (.int .i64 r) ∧ (w8.drew.alloc (.cells #[] 5)).cell? ⟨Y.heap.size, 3, none⟩ = some (.int .i64 f)) := QA.out; have HQ9 := Lib.hid (four_keeps (W := w8) (V := w9) (b := Y.heap.size) (hg9.block Y.heap.size HA8.out.lt) ⟨q0, q1, q2, q3⟩); have HO9 := Lib.hid ho9; have LW := Lib.hid (Nat.lt_of_lt_of_le HLT.out HB8.out.size); have hbk := HB9.out; have j0 := q0; clear hr8 hb8 hg9 ho9 hrun hA9 hbk j0)))
          | fail
        all_goals go_wp2
        all_goals obtain ⟨qa0, qa1, qa2, qa3⟩ := QA.out
        all_goals obtain ⟨qb0, qb1, qb2, qb3⟩ := QB.out
        all_goals obtain ⟨qd0, qd1, qd2, qd3⟩ := QD.out
        all_goals obtain ⟨q90, q91, q92, q93⟩ := HQ9.out
        all_goals (go_region_law (refine step_run rfl (.tmp 134) (.tmp 136) 23 rfl _ _ rfl rfl v9 w9 hrun2 ?_))
        all_goals clear qa0 qa1 qa2 qa3 qb0 qb1 qb2 qb3 qd0 qd1 qd2 qd3 q90 q91 q92 q93
        all_goals
          have A9 := Lib.hid (show Arr ((((w9.setCell ⟨w.heap.size, 0, none⟩ (.int .i64 x2)).setCell ⟨w.heap.size, 1, none⟩ (.int .i64 l)).setCell ⟨w.heap.size, 2, none⟩ (.int .i64 r)).setCell ⟨w.heap.size, 3, none⟩ (.int .i64 f)) w.heap.size 28 [.int .i64 x2, .int .i64 l, .int .i64 r, .int .i64 f] from by
            have q := (((HA9.out.set 0 (.int .i64 x2)).set 1 (.int .i64 l)).set 2 (.int .i64 r)).set 3 (.int .i64 f)
            simp only [List.set_cons_zero, List.set_cons_succ] at q
            exact q)
          have O9 := Lib.hid (ownsRow_setCell_below (ownsRow_setCell_below (ownsRow_setCell_below (ownsRow_setCell_below HO9.out (a := ⟨w.heap.size, 0, none⟩) LW.out (.int .i64 x2)) (a := ⟨w.heap.size, 1, none⟩) LW.out (.int .i64 l)) (a := ⟨w.heap.size, 2, none⟩) LW.out (.int .i64 r)) (a := ⟨w.heap.size, 3, none⟩) LW.out (.int .i64 f))
          have E9 := Lib.hid (((((HBY.out.trans (HB9.out.mono HLE.out)).setCell (p := ⟨w.heap.size, 0, none⟩) (Nat.le_refl _) (.int .i64 x2)).setCell (p := ⟨w.heap.size, 1, none⟩) (Nat.le_refl _) (.int .i64 l)).setCell (p := ⟨w.heap.size, 2, none⟩) (Nat.le_refl _) (.int .i64 r)).setCell (p := ⟨w.heap.size, 3, none⟩) (Nat.le_refl _) (.int .i64 f))
          generalize hW9 : World.setCell (World.setCell (World.setCell (World.setCell w9 ⟨w.heap.size, 0, none⟩ (.int .i64 x2)) ⟨w.heap.size, 1, none⟩ (.int .i64 l)) ⟨w.heap.size, 2, none⟩ (.int .i64 r)) ⟨w.heap.size, 3, none⟩ (.int .i64 f) = W9 at A9 O9 E9 ⊢
          clear hW9
          go_wp2
          refine bodyPost_ret (results_cell3 rfl rfl A9.out Tryd.underlying28 rfl sizeO) rfl ?_
          exact ⟨.inl ⟨HQ.out, _, rfl, by rw [HPL.out]; exact (own_base O9.out (Nat.le_of_lt LW.out))⟩, E9.out⟩
      · have he : ((strB FP).toList == (strB FQ).toList) = false := HINJ.out hq
        have HQ := Lib.hid hq
        clear hq
        -- the fingerprint
        have p0 := HA.out.cell 0
        have p1 := HA.out.cell 1
        have p2 := HA.out.cell 2
        have p3 := HA.out.cell 3
        have r0 := HK9.out.cell 0
        have r1 := HK9.out.cell 1
        simp only [List.getElem?_cons_zero, List.getElem?_cons_succ] at p0 p1 p2 p3 r0 r1
        have hyl := HA.out.lt
        have hkl := HK9.out.lt
        have cvA : ∀ cap, (convert 23 9 (.slice (some ⟨g, o + 11, none⟩) 16 cap)).run Tryd.prog wr.drew = .ok (.string (strB FQ)) wr.drew := fun cap => conv_rdE (HFD.out _ HB.out.drew) HQL.out cap
        go_wp2
        all_goals first
          | (go_region_held (fun W => (W.cell? ⟨Y.heap.size, 0, none⟩ = some (.int .i64 x2) ∧ W.cell? ⟨Y.heap.size, 1, none⟩ = some (.int .i64 l) ∧ W.cell? ⟨Y.heap.size, 2, none⟩ = some (.int .i64 r) ∧ W.cell? ⟨Y.heap.size, 3, none⟩ = some (.int .i64 f)) ∧ W.cell? ⟨w5.heap.size, 0, none⟩ = some (.int .i64 x2) ∧ W.cell? ⟨w5.heap.size, 1, none⟩ = some (.slice sA sec.length sc)) (first | exact ⟨⟨p0, p1, p2, p3⟩, r0, r1⟩ | exact ⟨⟨by assumption, by assumption, by assumption, by assumption⟩, by assumption, by assumption⟩)
              (first
                | (go_at_call 16; (with_reducible refine (hPR _ (HRS.out _ HB.out.drew) (HPK.out _ HB.out.drew)).mono ?_); rintro e w8 ⟨⟨g8, c8, rfl, hr8⟩, hb8⟩; have HB8 := Lib.hid (HB.out.drew.trans (hb8.mono HB.out.size)); have HA8 := Lib.hid ((show Arr wr.drew Y.heap.size 28 [.int .i64 x2, .int .i64 l, .int .i64 r, .int .i64 f] from HA.out).below hb8 hyl); have q0 := (hb8.cell (p := ⟨Y.heap.size, 0, none⟩) hyl).trans p0; have q1 := (hb8.cell (p := ⟨Y.heap.size, 1, none⟩) hyl).trans p1; have q2 := (hb8.cell (p := ⟨Y.heap.size, 2, none⟩) hyl).trans p2; have q3 := (hb8.cell (p := ⟨Y.heap.size, 3, none⟩) hyl).trans p3; have q4 := (hb8.cell (p := ⟨w5.heap.size, 0, none⟩) hkl).trans r0; have q5 := (hb8.cell (p := ⟨w5.heap.size, 1, none⟩) hkl).trans r1; have cvB : ∀ cap, (convert 23 9 (.slice (some ⟨g, o + 11, none⟩) 16 cap)).run Tryd.prog w8 = .ok (.string (strB FQ)) w8 := (fun cap => conv_rdE (HFD.out _ HB8.out) HQL.out cap); have cvC : (convert 23 9 (.slice (some ⟨g8, 0, none⟩) 16 c8)).run Tryd.prog w8 = .ok (.string (strB FP)) w8 := conv_rdE hr8 HFL.out c8; obtain ⟨v9, w9, hrun, ho9, hg9⟩ := run_app w8.drew w8.heap.size rfl pA HPS.out m (c - 27) pk HPL.out HML.out (HPK.out _ HB8.out.drew); have hrun2 : (Builtin.append_ #[23, 23] 23 #[.slice (some ⟨w8.heap.size, 0, none⟩) 0 0, .slice pA m (c - 27)]).run Tryd.prog (w8.alloc (.cells #[] 5)).drew = .ok v9 w9 := hrun; have HB9 := Lib.hid (HB8.out.drew.trans (hg9.mono HB8.out.size)); have hA9 := HAZ.out _ HB9.out; have z0 := hA9.cell 0; have z1 := hA9.cell 1; have z2 := hA9.cell 2; have z3 := hA9.cell 3; simp only [List.getElem?_cons_zero, List.getElem?_cons_succ] at z0 z1 z2 z3; have fz : ∀ j, w9.frozen? ⟨w.heap.size, j, none⟩ = false := (fun j => hA9.frozen j); have HA9 := Lib.hid hA9; have QD : Hid (w8.drew.cell? ⟨Y.heap.size, 0, none⟩ = some (.int .i64 x2) ∧ w8.drew.cell? ⟨Y.heap.size, 1, none⟩ = some (.int .i64 l) ∧ w8.drew.cell? ⟨Y.heap.size, 2, none⟩ = some (.int .i64 r) ∧ w8.drew.cell? ⟨Y.heap.size, 3, none⟩ = some (.int .i64 f)) := ⟨q0, q1, q2, q3⟩; have QA : Hid ((w8.alloc (.cells #[] 5)).drew.cell? ⟨Y.heap.size, 0, none⟩ = some (.int .i64 x2) ∧ (w8.alloc (.cells #[] 5)).drew.cell? ⟨Y.heap.size, 1, none⟩ = some (.int .i64 l) ∧ (w8.alloc (.cells #[] 5)).drew.cell? ⟨Y.heap.size, 2, none⟩ = some (.int .i64 r) ∧ (w8.alloc (.cells #[] 5)).drew.cell? ⟨Y.heap.size, 3, none⟩ = some (.int .i64 f)) := four_keeps (W := w8) (V := (w8.alloc (.cells #[] 5)).drew) (heap_alloc_old' w8 (.cells #[] 5) HA8.out.lt) ⟨q0, q1, q2, q3⟩; have QB : Hid ((w8.drew.alloc (.cells #[] 5)).cell? ⟨Y.heap.size, 0, none⟩ = some (.int .i64 x2) ∧ (w8.drew.alloc (.cells #[] 5)).cell? ⟨Y.heap.size, 1, none⟩ = some (.int .i64 l) ∧ (w8.drew.alloc (.cells #[] 5)).cell? ⟨Y.heap.size, 2, none⟩ = some (.int .i64 r) ∧ (w8.drew.alloc (.cells #[] 5)).cell? ⟨Y.heap.size, 3, none⟩ = some (.int .i64 f)) := QA.out; have HQ9 := Lib.hid (four_keeps (W := w8) (V := w9) (b := Y.heap.size) (hg9.block Y.heap.size HA8.out.lt) ⟨q0, q1, q2, q3⟩); have HO9 := Lib.hid ho9; have LW := Lib.hid (Nat.lt_of_lt_of_le HLT.out HB8.out.size); have hbk := HB9.out; have j0 := q0; clear hr8 hb8 hg9 ho9 hrun hA9 hbk j0)))
          | fail
        all_goals go_wp2_with (first
          | (refine wpList_store_arr rfl 28 (.tmp 4) (.tmp 132) rfl w.heap.size rfl (vs := [.int .i64 0, .int .i64 0, .int .i64 0, .int .i64 0]) rfl (HAZ.out _ HB8.out) sizeO rfl rfl (by simp [Value.oneCell']) ?_; intro W9 A9 B9 hsz9 O9))
        all_goals refine bodyPost_ret (results_cell3 rfl rfl A9.out Tryd.underlying28 rfl sizeO) rfl ?_
        all_goals exact ⟨.inr ⟨HQ.out, rfl⟩, (HBY.out.trans (HB8.out.mono HLE.out)).trans B9.out⟩

end Go.Proofs.YtmmocnokgcgmnaaDoor
