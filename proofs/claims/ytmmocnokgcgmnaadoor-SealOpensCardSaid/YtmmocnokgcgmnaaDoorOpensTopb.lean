/-
  SealOpens: for every keys and bytes the law answers true: what is opened is the document's. The package's tables 'start' and 'k' start as the program's text lays them (the card's tie). No other condition.
-/
import Derived.Test.YtmmocnokgcgmnaaDoorOpA
import Derived.Test.YtmmocnokgcgmnaaDoorOpRs
import Derived.Test.YtmmocnokgcgmnaaDoorOpRn
import Derived.Test.YtmmocnokgcgmnaaDoorSOpK
import Derived.Test.YtmmocnokgcgmnaaDoorSFind
import Derived.Test.YtmmocnokgcgmnaaDoorSLaw
import Derived.Test.YtmmocnokgcgmnaaDoorSArg
import Derived.Test.YtmmocnokgcgmnaaDoorCards
import Derived.WalkKit
import Derived.ProofKit
import Derived.OpenShut
import Derived.ShutString
import Derived.ChangeOld
import Derived.Below
import Derived.Stop.Joined
import Derived.SevenTiedAt

/-
  THE DOCUMENT'S Open: an envelope of Key 0.
-/

namespace Go.Proofs.YtmmocnokgcgmnaaDoor
set_option linter.unusedSimpArgs false
set_option linter.unusedVariables false
open Go.RowKit
set_option maxHeartbeats 6400000 in
set_option maxRecDepth 100000 in
theorem ropn_zero (kA : Option Addr) (nk kc : Nat) (x2 x3 x4 x5 x6 x7 x8 x9 x10 : Nat) (hx : x2 < 256 ∧ x3 < 256 ∧ x4 < 256 ∧ x5 < 256 ∧ x6 < 256 ∧ x7 < 256 ∧ x8 < 256 ∧ x9 < 256 ∧ x10 < 256) (l r f : Nat) (hl : x3 * 256 + x4 = l) (hr : x5 * 256 + x6 = r) (hf : x7 * 16777216 + x8 * 65536 + x9 * 256 + x10 = f) (g o m c : Nat) (hm : m ≤ 4096) (b : List Nat) (hbl : b.length = 27 + m) (hnc : 27 + m ≤ c) (hcm : c ≤ 9223372036854775807) (hb : b[0]? = some 161 ∧ b[1]? = some 247 ∧ b[2]? = some x2 ∧ b[3]? = some x3 ∧ b[4]? = some x4 ∧ b[5]? = some x5 ∧ b[6]? = some x6 ∧ b[7]? = some x7 ∧ b[8]? = some x8 ∧ b[9]? = some x9 ∧ b[10]? = some x10) (ho : okO x2 l r f) (FQ pk : List Nat) (hQl : FQ.length = 16) (hQb : ∀ x ∈ FQ, x < 256) (hpb : ∀ x ∈ pk, x < 256) (hpl : pk.length = m) (hbe : b = headL x2 l r f ++ (FQ ++ pk)) (sA : Option Addr) (sc : Nat) (sec : List Nat) (hsb : ∀ x ∈ sec, x < 256) (hsl : sec.length ≤ 1000000) (hk0 : x2 = 0) (hs0 : sA = none ∧ sec = [] ∧ sc = 0) (w : World) (hrd : RdN w.heap.size w (some ⟨g, o, none⟩) b) (hrs : RdN w.heap.size w sA sec) :
    Calls Tryd.prog 6 #[.slice kA nk kc, .slice (some ⟨g, o, none⟩) (27 + m) c] w fun e w' => OpnE x2 l r f FQ (printL x2 sec (headL x2 l r f) pk) pk w e w' := by
  obtain ⟨hb0, hb1, hb2, hb3, hb4, hb5, hb6, hb7, hb8, hb9, hb10⟩ := hb
  obtain ⟨Y, hY⟩ : ∃ Y, w.alloc (.cells #[.int .i64 0, .int .i64 0, .int .i64 0, .int .i64 0] 28) = Y := ⟨_, rfl⟩
  have hBY : Below w.heap.size w Y := by rw [← hY]; exact (Below.refl w.heap.size w).alloc (Nat.le_refl _) _
  have hYs : Y.heap.size = w.heap.size + 1 := by rw [← hY]; simp
  have haz : Arr Y w.heap.size 28 [.int .i64 0, .int .i64 0, .int .i64 0, .int .i64 0] := by rw [← hY]; exact Arr.new w 28 [.int .i64 0, .int .i64 0, .int .i64 0, .int .i64 0]
  have HAZ : Hid (∀ W, Below Y.heap.size Y W → Arr W w.heap.size 28 [.int .i64 0, .int .i64 0, .int .i64 0, .int .i64 0]) := fun W h => haz.below h (by omega)
  have HRD : Hid (∀ W, Below Y.heap.size Y W → RdN W.heap.size W (some ⟨g, o, none⟩) b) := fun W h => ((hrd.below hBY (Nat.le_refl _)).below h (by omega)).mono (by have := h.size; omega)
  have hg : g < Y.heap.size := by
    obtain ⟨g', o', e, hlt, _⟩ := HRD.out Y (Below.refl _ _) (by omega)
    cases e
    exact hlt
  have HBY := Lib.hid hBY
  have HLE : Hid (w.heap.size ≤ Y.heap.size) := by unfold Hid; omega
  have HLT : Hid (w.heap.size < Y.heap.size) := by unfold Hid; omega
  have B0 := Lib.hid (Below.refl Y.heap.size Y)
  have d0 := (HRD.out _ B0.out).atZ hb0
  have d1 := (HRD.out _ B0.out).atO hb1
  have d2 := (HRD.out _ B0.out).atO hb2
  have d3 := (HRD.out _ B0.out).atO hb3
  have d4 := (HRD.out _ B0.out).atO hb4
  have d5 := (HRD.out _ B0.out).atO hb5
  have d6 := (HRD.out _ B0.out).atO hb6
  have d7 := (HRD.out _ B0.out).atO hb7
  have d8 := (HRD.out _ B0.out).atO hb8
  have d9 := (HRD.out _ B0.out).atO hb9
  have d10 := (HRD.out _ B0.out).atO hb10
  have g1 : decide ((27 + (m : Int)) < 27) = false := decide_eq_false (by omega)
  have g2 : decide ((4123 : Int) < (27 + (m : Int))) = false := decide_eq_false (by omega)
  have i0 : (0 : Int) < (27 + (m : Int)) := by omega
  have i1 : (1 : Int) < (27 + (m : Int)) := by omega
  have i2 : (2 : Int) < (27 + (m : Int)) := by omega
  have i3 : (3 : Int) < (27 + (m : Int)) := by omega
  have i4 : (4 : Int) < (27 + (m : Int)) := by omega
  have i5 : (5 : Int) < (27 + (m : Int)) := by omega
  have i6 : (6 : Int) < (27 + (m : Int)) := by omega
  have i7 : (7 : Int) < (27 + (m : Int)) := by omega
  have i8 : (8 : Int) < (27 + (m : Int)) := by omega
  have i9 : (9 : Int) < (27 + (m : Int)) := by omega
  have i10 : (10 : Int) < (27 + (m : Int)) := by omega
  obtain ⟨m1, m2, m3, m4, m5, m6, m7, m8, m9, m10, v2, v3, v4, v5, v6, v7, v8, v9, v10⟩ := env_nums x2 x3 x4 x5 x6 x7 x8 x9 x10 hx l r f hl hr hf
  obtain ⟨i0, hi, hz0, hz1, hz2⟩ := info_parts Tryd.info5
  have hO := rokO_any x2 l r f
  have HO1 := Lib.hid ho
  obtain ⟨o1, o2, o3, o4⟩ := okO_bounds ho
  clear hl hr hf hx
  have hHl := headL_len x2 l r f
  have ht2 : (b.drop 11).take 16 = FQ := by rw [hbe, List.drop_left' hHl]; exact List.take_left' hQl
  have ht3 : b.drop 27 = pk := by
    rw [hbe, ← List.append_assoc]
    exact List.drop_left' (by rw [List.length_append, hHl, hQl])
  have HRS : Hid (∀ W, Below Y.heap.size Y W → RdN W.heap.size W sA sec) := fun W h => ((hrs.below hBY (Nat.le_refl _)).below h (by omega)).mono (by have := h.size; omega)
  obtain ⟨pA, hpA⟩ : ∃ pA, (if c = 27 then some (⟨g, o, none⟩ : Addr) else some ⟨g, o + 27, none⟩) = pA := ⟨_, rfl⟩
  have HPS : Hid (∃ ad, pA = some ad) := by rw [← hpA]; split <;> exact ⟨_, rfl⟩
  have HML : Hid (m ≤ 100000) := by unfold Hid; omega
  have HPK : Hid (∀ W, Below Y.heap.size Y W → RdN W.heap.size W pA pk) := fun W h => by
    rw [← hpA]
    split
    · have h0 : pk = [] := List.eq_nil_of_length_eq_zero (by omega)
      rw [h0]
      exact RdN.nil _ _ _
    · have := (HRD.out W h).part 27 pk.length
      rw [ht3, List.take_length] at this
      exact this
  have HFD : Hid (∀ W, Below Y.heap.size Y W → RdN W.heap.size W (some ⟨g, o + 11, none⟩) FQ) := fun W h => by
    have := (HRD.out W h).part 11 16
    rw [ht2] at this
    exact this
  have y1 : ¬ c < 11 := by omega
  have y2 : ¬ c < 27 := by omega
  have y3 : ¬ c = 11 := by omega
  have y4 : (11 : Int) ≤ (c : Int) := by omega
  have y5 : (27 : Int) ≤ (c : Int) := by omega
  have y6 : (27 : Int) + (m : Int) ≤ (c : Int) := by omega
  have y7 : ¬ c < 27 + m := by omega
  have y8 : (27 : Int) ≤ 27 + (m : Int) := by omega
  have y9 : ¬ ((27 : Int) + (m : Int) < 27) := by omega
  have hPR := fun W h1 h2 => rprint_any x2 sA sc sec hsb hsl x2 l r f o1 o2 o3 o4 pA (c - 27) pk hpb (by omega) W h1 h2
  obtain ⟨FP, hFP⟩ : ∃ FP, printL x2 sec (headL x2 l r f) pk = FP := ⟨_, rfl⟩
  have hFl : FP.length = 16 := by rw [← hFP]; exact printL_len _ _ _ _
  have hFb : ∀ x ∈ FP, x < 256 := by
    rw [← hFP]
    unfold printL
    split
    · intro x hx; rw [(List.mem_replicate.1 hx).2]; decide
    · exact fun x hx => outV_lt _ x (List.mem_of_mem_take hx)
  rw [hFP] at hPR ⊢
  have HINJ : Hid (¬ FQ = FP → ((strB FP).toList == (strB FQ).toList) = false) := fun h => beq_false_of_ne (fun e => h (strB_inj2 hQb hFb e.symm))
  have NE : Hid (Y.heap.size ≠ w.heap.size) := by unfold Hid; omega
  rw [hpl] at hPR
  have HPL := Lib.hid hpl
  have HQL := Lib.hid hQl
  have HFL := Lib.hid hFl
  obtain ⟨hs1, hs2, hs3⟩ := hs0
  have z0 : ((x2 : Int) == 0) = true := by simp; omega
  have E0 : Hid ([Value.int .i64 0, .slice none 0 0] = [Value.int .i64 x2, .slice sA sec.length sc]) := by rw [hs1, hs2, hs3, hk0]; rfl
  clear hk0 hs1 hs2 hs3
  clear hb0 hb1 hb2 hb3 hb4 hb5 hb6 hb7 hb8 hb9 hb10 hBY hYs haz hrd hbl o1 o2 o3 o4 ho hHl ht2 ht3 hbe hpb hQb hFb hFP hpl hQl hFl hrs
  go_enter Tryd.func6, Tryd.ntmps6
  go_wp2
  go_region_held (fun W => W.cell? ⟨g, o + 2, none⟩ = some (.int .u8 x2) ∧ W.cell? ⟨g, o + 3, none⟩ = some (.int .u8 x3) ∧ W.cell? ⟨g, o + 4, none⟩ = some (.int .u8 x4) ∧ W.cell? ⟨g, o + 5, none⟩ = some (.int .u8 x5) ∧ W.cell? ⟨g, o + 6, none⟩ = some (.int .u8 x6)) (first | exact ⟨d2, d3, d4, d5, d6⟩ | exact ⟨by assumption, by assumption, by assumption, by assumption, by assumption⟩ | go_keep) (fail)
  generalize hU : World.drew _ = U
  have BU : Below Y.heap.size Y U := by rw [← hU]; exact ((Below.refl _ Y).alloc (Nat.le_refl _) _).drew
  have A3 := Lib.hid (show Arr U Y.heap.size 28 [.int .i64 x2, .int .i64 l, .int .i64 r, .int .i64 0] from by rw [← hU]; exact Arr.new Y 28 [.int .i64 x2, .int .i64 l, .int .i64 r, .int .i64 0])
  have HU3 := Lib.hid BU
  have hgU : g < U.heap.size := Nat.lt_of_lt_of_le hg BU.size
  have hYU : Y.heap.size < U.heap.size := A3.out.lt
  have hne : g ≠ Y.heap.size := by omega
  have fz : ∀ j, U.frozen? ⟨Y.heap.size, j, none⟩ = false := fun j => A3.out.frozen j
  have t3 := A3.out.cell 3
  simp only [List.getElem?_cons_succ, List.getElem?_cons_zero] at t3
  have e7 := (BU.cell (p := ⟨g, o + 7, none⟩) hg).trans d7
  have e8 := (BU.cell (p := ⟨g, o + 8, none⟩) hg).trans d8
  have e9 := (BU.cell (p := ⟨g, o + 9, none⟩) hg).trans d9
  have e10 := (BU.cell (p := ⟨g, o + 10, none⟩) hg).trans d10
  have k7 := cell_keeps (k := Y.heap.size) (j := 3) e7 hne
  have k8 := cell_keeps (k := Y.heap.size) (j := 3) e8 hne
  have k9 := cell_keeps (k := Y.heap.size) (j := 3) e9 hne
  have k10 := cell_keeps (k := Y.heap.size) (j := 3) e10 hne
  have K7 := Lib.hid (⟨k7, k8, k9, k10⟩ : _ ∧ _ ∧ _ ∧ _)
  clear hU BU k7 k8 k9 k10
  go_wp2
  go_region_held (fun W => W.cell? ⟨g, o + 7, none⟩ = some (.int .u8 x7) ∧ W.cell? ⟨g, o + 8, none⟩ = some (.int .u8 x8) ∧ W.cell? ⟨g, o + 9, none⟩ = some (.int .u8 x9) ∧ W.cell? ⟨g, o + 10, none⟩ = some (.int .u8 x10)) (first | exact ⟨e7, e8, e9, e10⟩ | exact ⟨by assumption, by assumption, by assumption, by assumption⟩ | exact ⟨K7.out.1 _, K7.out.2.1 _, K7.out.2.2.1 _, K7.out.2.2.2 _⟩) (fail)
  generalize hV : World.drew _ = V
  have A4 := Lib.hid (show Arr V Y.heap.size 28 [.int .i64 x2, .int .i64 l, .int .i64 r, .int .i64 f] from by
    have q := (A3.out.set 3 (.int .i64 f))
    simp only [List.set_cons_zero, List.set_cons_succ] at q
    rw [← hV]
    exact q)
  have B4 := Lib.hid (show Below Y.heap.size Y V from by rw [← hV]; exact (HU3.out.setCell (p := ⟨Y.heap.size, 3, none⟩) (Nat.le_refl _) _).drew)
  clear hV e7 e8 e9 e10 t3 fz K7 d0 d1 d2 d3 d4 d5 d6 d7 d8 d9 d10
  go_wp2_with (first
    | (refine wpList_load_arr rfl 28 (.tmp 7) rfl Y.heap.size rfl A4.out Tryd.underlying28 rfl sizeO rfl ?_)
    | (go_at_call 14; refine (hO V).mono ?_; rintro e w5 ⟨⟨x, rfl, hx5⟩, hb5⟩; obtain rfl : x = true := hx5.2 HO1.out; have A5 := Lib.hid (A4.out.below hb5 A4.out.lt); have B5 := Lib.hid (B4.out.trans (hb5.mono B4.out.size)); clear hx5 hb5)
    | (refine wpList_store_arr rfl 26 (.tmp 9) (.tmp 86) rfl w5.heap.size rfl (vs := [.int .i64 0, .slice none 0 0]) rfl (show Arr _ w5.heap.size 26 [.int .i64 0, .slice none 0 0] from Arr.new w5 26 [.int .i64 0, .slice none 0 0]) sizeK rfl rfl (by simp [Value.oneCell']) ?_; intro W6 A6 B6 hsz6 O6; have BB6 := Lib.hid ((B5.out.alloc B5.out.size _).trans (B6.out.mono B5.out.size)); have K6 := Lib.hid (((Below.refl w5.heap.size w5).alloc (Nat.le_refl _) _).trans B6.out); have A7 := Lib.hid (A5.out.below K6.out A5.out.lt); have co := A7.out.cell 0; simp only [List.getElem?_cons_zero] at co; clear hsz6 O6))
  go_loopw [10, 11] (fun bo i wr => bo = .bool true ∧ i = .int .i64 0 ∧ Hid (Below Y.heap.size Y wr) ∧ Hid (Arr wr Y.heap.size 28 [.int .i64 x2, .int .i64 l, .int .i64 r, .int .i64 f]) ∧ Hid (Arr wr w5.heap.size 26 [.int .i64 x2, .slice sA sec.length sc])) (fun _ _ _ => 0)
  case atStart => exact ⟨rfl, rfl, BB6.out, A7.out, by rw [← E0.out]; exact A6.out⟩
  case round =>
    obtain ⟨rfl, rfl, HB, HA, HK9⟩ := hrel
    clear A4 A5 A6 A7 B4 B5 B6 BB6 K6 co A3 HU3
    by_cases hq : FQ = FP
    · have he : ((strB FP).toList == (strB FQ).toList) = true := by rw [hq]; exact beq_self_eq_true _
      have HQ := Lib.hid hq
      clear hq
      -- the fingerprint
      have p0 := HA.out.cell 0
      have p1 := HA.out.cell 1
      have p2 := HA.out.cell 2
      have p3 := HA.out.cell 3
      have r0 := HK9.out.cell 0
      have r1 := HK9.out.cell 1
      simp only [List.getElem?_cons_zero, List.getElem?_cons_succ] at p0 p1 p2 p3 r0 r1
      have hyl := HA.out.lt
      have hkl := HK9.out.lt
      have cvA : ∀ cap, (convert 23 9 (.slice (some ⟨g, o + 11, none⟩) 16 cap)).run Tryd.prog wr.drew = .ok (.string (strB FQ)) wr.drew := fun cap => conv_rdE (HFD.out _ HB.out.drew) HQL.out cap
      go_wp2
      all_goals first
        | (go_region_held (fun W => (W.cell? ⟨Y.heap.size, 0, none⟩ = some (.int .i64 x2) ∧ W.cell? ⟨Y.heap.size, 1, none⟩ = some (.int .i64 l) ∧ W.cell? ⟨Y.heap.size, 2, none⟩ = some (.int .i64 r) ∧ W.cell? ⟨Y.heap.size, 3, none⟩ = some (.int .i64 f)) ∧ W.cell? ⟨w5.heap.size, 0, none⟩ = some (.int .i64 x2) ∧ W.cell? ⟨w5.heap.size, 1, none⟩ = some (.slice sA sec.length sc)) (first | exact ⟨⟨p0, p1, p2, p3⟩, r0, r1⟩ | exact ⟨⟨by assumption, by assumption, by assumption, by assumption⟩, by assumption, by assumption⟩)
            (first
              | (go_at_call 16; (with_reducible refine (hPR _ (HRS.out _ HB.out.drew) (HPK.out _ HB.out.drew)).mono ?_); rintro e w8 ⟨⟨g8, c8, rfl, hr8⟩, hb8⟩; have HB8 := Lib.hid (HB.out.drew.trans (hb8.mono HB.out.size)); have HA8 := Lib.hid ((show Arr wr.drew Y.heap.size 28 [.int .i64 x2, .int .i64 l, .int .i64 r, .int .i64 f] from HA.out).below hb8 hyl); have q0 := (hb8.cell (p := ⟨Y.heap.size, 0, none⟩) hyl).trans p0; have q1 := (hb8.cell (p := ⟨Y.heap.size, 1, none⟩) hyl).trans p1; have q2 := (hb8.cell (p := ⟨Y.heap.size, 2, none⟩) hyl).trans p2; have q3 := (hb8.cell (p := ⟨Y.heap.size, 3, none⟩) hyl).trans p3; have q4 := (hb8.cell (p := ⟨w5.heap.size, 0, none⟩) hkl).trans r0; have q5 := (hb8.cell (p := ⟨w5.heap.size, 1, none⟩) hkl).trans r1; have cvB : ∀ cap, (convert 23 9 (.slice (some ⟨g, o + 11, none⟩) 16 cap)).run Tryd.prog w8 = .ok (.string (strB FQ)) w8 := (fun cap => conv_rdE (HFD.out _ HB8.out) HQL.out cap); have cvC : (convert 23 9 (.slice (some ⟨g8, 0, none⟩) 16 c8)).run Tryd.prog w8 = .ok (.string (strB FP)) w8 := conv_rdE hr8 HFL.out c8; obtain ⟨v9, w9, hrun, ho9, hg9⟩ := run_app w8.drew w8.heap.size rfl pA HPS.out m (c - 27) pk HPL.out HML.out (HPK.out _ HB8.out.drew); have hrun2 : (Builtin.append_ #[23, 23] 23 #[.slice (some ⟨w8.heap.size, 0, none⟩) 0 0, .slice pA m (c - 27)]).run Tryd.prog (w8.alloc (.cells #[] 5)).drew = .ok v9 w9 := hrun; have HB9 := Lib.hid (HB8.out.drew.trans (hg9.mono HB8.out.size)); have hA9 := HAZ.out _ HB9.out; have z0 := hA9.cell 0; have z1 := hA9.cell 1; have z2 := hA9.cell 2; have z3 := hA9.cell 3; simp only [List.getElem?_cons_zero, List.getElem?_cons_succ] at z0 z1 z2 z3; have fz : ∀ j, w9.frozen? ⟨w.heap.size, j, none⟩ = false := (fun j => hA9.frozen j); have HA9 := Lib.hid hA9; have QD : Hid (w8.drew.cell? ⟨Y.heap.size, 0, none⟩ = some (.int .i64 x2) ∧ w8.drew.cell? ⟨Y.heap.size, 1, none⟩ = some (.int .i64 l) ∧ w8.drew.cell? ⟨Y.heap.size, 2, none⟩ = some (.int .i64 r) ∧ w8.drew.cell? ⟨Y.heap.size, 3, none⟩ = some (.int .i64 f)) := ⟨q0, q1, q2, q3⟩; have QA : Hid ((w8.alloc (.cells #[] 5)).drew.cell? ⟨Y.heap.size, 0, none⟩ = some (.int .i64 x2) ∧ (w8.alloc (.cells #[] 5)).drew.cell? ⟨Y.heap.size, 1, none⟩ = some (.int .i64 l) ∧ (w8.alloc (.cells #[] 5)).drew.cell? ⟨Y.heap.size, 2, none⟩ = some (.int .i64 r) ∧ (w8.alloc (.cells #[] 5)).drew.cell? ⟨Y.heap.size, 3, none⟩ = some (.int .i64 f)) := four_keeps (W := w8) (V := (w8.alloc (.cells #[] 5)).drew) (heap_alloc_old' w8 (.cells #[] 5) HA8.out.lt) ⟨q0, q1, q2, q3⟩; have QB : Hid ((w8.drew.alloc (.cells #[] 5)).cell? ⟨Y.heap.size, 0, none⟩ = some (.int .i64 x2) ∧ (w8.drew.alloc (.cells #[] 5)).cell? ⟨Y.heap.size, 1, none⟩ = some (.int .i64 l) ∧ (w8.drew.alloc (.cells #[] 5)).cell? ⟨Y.heap.size, 2, none⟩ = some (.int .i64 r) ∧ (w8.drew.alloc (.cells #[] 5)).cell? ⟨Y.heap.size, 3, none⟩ = some (.int .i64 f)) := QA.out; have HQ9 := Lib.hid (four_keeps (W := w8) (V := w9) (b := Y.heap.size) (hg9.block Y.heap.size HA8.out.lt) ⟨q0, q1, q2, q3⟩); have HO9 := Lib.hid ho9; have LW := Lib.hid (Nat.lt_of_lt_of_le HLT.out HB8.out.size); have hbk := HB9.out; have j0 := q0; clear hr8 hb8 hg9 ho9 hrun hA9 hbk j0)))
        | fail
      all_goals go_wp2
      all_goals obtain ⟨qa0, qa1, qa2, qa3⟩ := QA.out
      all_goals obtain ⟨qb0, qb1, qb2, qb3⟩ := QB.out
      all_goals obtain ⟨qd0, qd1, qd2, qd3⟩ := QD.out
      all_goals obtain ⟨q90, q91, q92, q93⟩ := HQ9.out
      all_goals (go_region_law (refine step_run rfl (.tmp 134) (.tmp 136) 23 rfl _ _ rfl rfl v9 w9 hrun2 ?_))
      all_goals clear qa0 qa1 qa2 qa3 qb0 qb1 qb2 qb3 qd0 qd1 qd2 qd3 q90 q91 q92 q93
      all_goals
        have A9 := Lib.hid (show Arr ((((w9.setCell ⟨w.heap.size, 0, none⟩ (.int .i64 x2)).setCell ⟨w.heap.size, 1, none⟩ (.int .i64 l)).setCell ⟨w.heap.size, 2, none⟩ (.int .i64 r)).setCell ⟨w.heap.size, 3, none⟩ (.int .i64 f)) w.heap.size 28 [.int .i64 x2, .int .i64 l, .int .i64 r, .int .i64 f] from by
          have q := (((HA9.out.set 0 (.int .i64 x2)).set 1 (.int .i64 l)).set 2 (.int .i64 r)).set 3 (.int .i64 f)
          simp only [List.set_cons_zero, List.set_cons_succ] at q
          exact q)
        have O9 := Lib.hid (ownsRow_setCell_below (ownsRow_setCell_below (ownsRow_setCell_below (ownsRow_setCell_below HO9.out (a := ⟨w.heap.size, 0, none⟩) LW.out (.int .i64 x2)) (a := ⟨w.heap.size, 1, none⟩) LW.out (.int .i64 l)) (a := ⟨w.heap.size, 2, none⟩) LW.out (.int .i64 r)) (a := ⟨w.heap.size, 3, none⟩) LW.out (.int .i64 f))
        have E9 := Lib.hid (((((HBY.out.trans (HB9.out.mono HLE.out)).setCell (p := ⟨w.heap.size, 0, none⟩) (Nat.le_refl _) (.int .i64 x2)).setCell (p := ⟨w.heap.size, 1, none⟩) (Nat.le_refl _) (.int .i64 l)).setCell (p := ⟨w.heap.size, 2, none⟩) (Nat.le_refl _) (.int .i64 r)).setCell (p := ⟨w.heap.size, 3, none⟩) (Nat.le_refl _) (.int .i64 f))
        generalize hW9 : World.setCell (World.setCell (World.setCell (World.setCell w9 ⟨w.heap.size, 0, none⟩ (.int .i64 x2)) ⟨w.heap.size, 1, none⟩ (.int .i64 l)) ⟨w.heap.size, 2, none⟩ (.int .i64 r)) ⟨w.heap.size, 3, none⟩ (.int .i64 f) = W9 at A9 O9 E9 ⊢
        clear hW9
        go_wp2
        refine bodyPost_ret (results_cell3 rfl rfl A9.out Tryd.underlying28 rfl sizeO) rfl ?_
        exact ⟨.inl ⟨HQ.out, _, rfl, by rw [HPL.out]; exact (own_base O9.out (Nat.le_of_lt LW.out))⟩, E9.out⟩
    · have he : ((strB FP).toList == (strB FQ).toList) = false := HINJ.out hq
      have HQ := Lib.hid hq
      clear hq
      -- the fingerprint
      have p0 := HA.out.cell 0
      have p1 := HA.out.cell 1
      have p2 := HA.out.cell 2
      have p3 := HA.out.cell 3
      have r0 := HK9.out.cell 0
      have r1 := HK9.out.cell 1
      simp only [List.getElem?_cons_zero, List.getElem?_cons_succ] at p0 p1 p2 p3 r0 r1
      have hyl := HA.out.lt
      have hkl := HK9.out.lt
      have cvA : ∀ cap, (convert 23 9 (.slice (some ⟨g, o + 11, none⟩) 16 cap)).run Tryd.prog wr.drew = .ok (.string (strB FQ)) wr.drew := fun cap => conv_rdE (HFD.out _ HB.out.drew) HQL.out cap
      go_wp2
      all_goals first
        | (go_region_held (fun W => (W.cell? ⟨Y.heap.size, 0, none⟩ = some (.int .i64 x2) ∧ W.cell? ⟨Y.heap.size, 1, none⟩ = some (.int .i64 l) ∧ W.cell? ⟨Y.heap.size, 2, none⟩ = some (.int .i64 r) ∧ W.cell? ⟨Y.heap.size, 3, none⟩ = some (.int .i64 f)) ∧ W.cell? ⟨w5.heap.size, 0, none⟩ = some (.int .i64 x2) ∧ W.cell? ⟨w5.heap.size, 1, none⟩ = some (.slice sA sec.length sc)) (first | exact ⟨⟨p0, p1, p2, p3⟩, r0, r1⟩ | exact ⟨⟨by assumption, by assumption, by assumption, by assumption⟩, by assumption, by assumption⟩)
            (first
              | (go_at_call 16; (with_reducible refine (hPR _ (HRS.out _ HB.out.drew) (HPK.out _ HB.out.drew)).mono ?_); rintro e w8 ⟨⟨g8, c8, rfl, hr8⟩, hb8⟩; have HB8 := Lib.hid (HB.out.drew.trans (hb8.mono HB.out.size)); have HA8 := Lib.hid ((show Arr wr.drew Y.heap.size 28 [.int .i64 x2, .int .i64 l, .int .i64 r, .int .i64 f] from HA.out).below hb8 hyl); have q0 := (hb8.cell (p := ⟨Y.heap.size, 0, none⟩) hyl).trans p0; have q1 := (hb8.cell (p := ⟨Y.heap.size, 1, none⟩) hyl).trans p1; have q2 := (hb8.cell (p := ⟨Y.heap.size, 2, none⟩) hyl).trans p2; have q3 := (hb8.cell (p := ⟨Y.heap.size, 3, none⟩) hyl).trans p3; have q4 := (hb8.cell (p := ⟨w5.heap.size, 0, none⟩) hkl).trans r0; have q5 := (hb8.cell (p := ⟨w5.heap.size, 1, none⟩) hkl).trans r1; have cvB : ∀ cap, (convert 23 9 (.slice (some ⟨g, o + 11, none⟩) 16 cap)).run Tryd.prog w8 = .ok (.string (strB FQ)) w8 := (fun cap => conv_rdE (HFD.out _ HB8.out) HQL.out cap); have cvC : (convert 23 9 (.slice (some ⟨g8, 0, none⟩) 16 c8)).run Tryd.prog w8 = .ok (.string (strB FP)) w8 := conv_rdE hr8 HFL.out c8; obtain ⟨v9, w9, hrun, ho9, hg9⟩ := run_app w8.drew w8.heap.size rfl pA HPS.out m (c - 27) pk HPL.out HML.out (HPK.out _ HB8.out.drew); have hrun2 : (Builtin.append_ #[23, 23] 23 #[.slice (some ⟨w8.heap.size, 0, none⟩) 0 0, .slice pA m (c - 27)]).run Tryd.prog (w8.alloc (.cells #[] 5)).drew = .ok v9 w9 := hrun; have HB9 := Lib.hid (HB8.out.drew.trans (hg9.mono HB8.out.size)); have hA9 := HAZ.out _ HB9.out; have z0 := hA9.cell 0; have z1 := hA9.cell 1; have z2 := hA9.cell 2; have z3 := hA9.cell 3; simp only [List.getElem?_cons_zero, List.getElem?_cons_succ] at z0 z1 z2 z3; have fz : ∀ j, w9.frozen? ⟨w.heap.size, j, none⟩ = false := (fun j => hA9.frozen j); have HA9 := Lib.hid hA9; have QD : Hid (w8.drew.cell? ⟨Y.heap.size, 0, none⟩ = some (.int .i64 x2) ∧ w8.drew.cell? ⟨Y.heap.size, 1, none⟩ = some (.int .i64 l) ∧ w8.drew.cell? ⟨Y.heap.size, 2, none⟩ = some (.int .i64 r) ∧ w8.drew.cell? ⟨Y.heap.size, 3, none⟩ = some (.int .i64 f)) := ⟨q0, q1, q2, q3⟩; have QA : Hid ((w8.alloc (.cells #[] 5)).drew.cell? ⟨Y.heap.size, 0, none⟩ = some (.int .i64 x2) ∧ (w8.alloc (.cells #[] 5)).drew.cell? ⟨Y.heap.size, 1, none⟩ = some (.int .i64 l) ∧ (w8.alloc (.cells #[] 5)).drew.cell? ⟨Y.heap.size, 2, none⟩ = some (.int .i64 r) ∧ (w8.alloc (.cells #[] 5)).drew.cell? ⟨Y.heap.size, 3, none⟩ = some (.int .i64 f)) := four_keeps (W := w8) (V := (w8.alloc (.cells #[] 5)).drew) (heap_alloc_old' w8 (.cells #[] 5) HA8.out.lt) ⟨q0, q1, q2, q3⟩; have QB : Hid ((w8.drew.alloc (.cells #[] 5)).cell? ⟨Y.heap.size, 0, none⟩ = some (.int .i64 x2) ∧ (w8.drew.alloc (.cells #[] 5)).cell? ⟨Y.heap.size, 1, none⟩ = some (.int .i64 l) ∧ (w8.drew.alloc (.cells #[] 5)).cell? ⟨Y.heap.size, 2, none⟩ = some (.int .i64 r) ∧ (w8.drew.alloc (.cells #[] 5)).cell? ⟨Y.heap.size, 3, none⟩ = some (.int .i64 f)) := QA.out; have HQ9 := Lib.hid (four_keeps (W := w8) (V := w9) (b := Y.heap.size) (hg9.block Y.heap.size HA8.out.lt) ⟨q0, q1, q2, q3⟩); have HO9 := Lib.hid ho9; have LW := Lib.hid (Nat.lt_of_lt_of_le HLT.out HB8.out.size); have hbk := HB9.out; have j0 := q0; clear hr8 hb8 hg9 ho9 hrun hA9 hbk j0)))
        | fail
      all_goals go_wp2_with (first
        | (refine wpList_store_arr rfl 28 (.tmp 4) (.tmp 132) rfl w.heap.size rfl (vs := [.int .i64 0, .int .i64 0, .int .i64 0, .int .i64 0]) rfl (HAZ.out _ HB8.out) sizeO rfl rfl (by simp [Value.oneCell']) ?_; intro W9 A9 B9 hsz9 O9))
      all_goals refine bodyPost_ret (results_cell3 rfl rfl A9.out Tryd.underlying28 rfl sizeO) rfl ?_
      all_goals exact ⟨.inr ⟨HQ.out, rfl⟩, (HBY.out.trans (HB8.out.mono HLE.out)).trans B9.out⟩

end Go.Proofs.YtmmocnokgcgmnaaDoor

/-
  WHAT IS NO ENVELOPE IS NOT OPENED: the document's Open.
-/
namespace Go.Proofs.YtmmocnokgcgmnaaDoor
set_option linter.unusedSimpArgs false
set_option linter.unusedVariables false
open Go.RowKit
set_option maxHeartbeats 3200000 in
set_option maxRecDepth 100000 in
theorem ropn_form1 (kv : Value) (A : Option Addr) (n c : Nat) (hn : n < 27) (w : World) :
    Calls Tryd.prog 6 #[kv, .slice A n c] w fun e w' => e = .returned (.tuple #[.agg #[.int .i64 0, .int .i64 0, .int .i64 0, .int .i64 0], .slice none 0 0, .int .i64 2]) ∧ Below w.heap.size w w' := by
  obtain ⟨Y, hY⟩ : ∃ Y, w.alloc (.cells #[.int .i64 0, .int .i64 0, .int .i64 0, .int .i64 0] 28) = Y := ⟨_, rfl⟩
  have hBY : Below w.heap.size w Y := by rw [← hY]; exact (Below.refl w.heap.size w).alloc (Nat.le_refl _) _
  have haz : Arr Y w.heap.size 28 [.int .i64 0, .int .i64 0, .int .i64 0, .int .i64 0] := by rw [← hY]; exact Arr.new w 28 [.int .i64 0, .int .i64 0, .int .i64 0, .int .i64 0]
  have HAZ := Lib.hid haz
  have HBY := Lib.hid hBY
  have g1 : decide ((n : Int) < 27) = true := decide_eq_true (by omega)
  clear hBY haz hn
  go_enter Tryd.func6, Tryd.ntmps6
  go_wp2_with (first
    | (refine wpList_store_arr rfl 28 (.tmp 4) (.tmp 32) rfl w.heap.size rfl (vs := [.int .i64 0, .int .i64 0, .int .i64 0, .int .i64 0]) rfl HAZ.out sizeO rfl rfl (by simp [Value.oneCell']) ?_; intro W6 A6 B6 hsz6 O6))
  refine bodyPost_ret (results_cell3 rfl rfl A6.out Tryd.underlying28 rfl sizeO) rfl ?_
  exact ⟨rfl, HBY.out.trans B6.out⟩
set_option maxHeartbeats 3200000 in
set_option maxRecDepth 100000 in
theorem ropn_form2 (kv : Value) (A : Option Addr) (n c : Nat) (hn : 4123 < n) (w : World) :
    Calls Tryd.prog 6 #[kv, .slice A n c] w fun e w' => e = .returned (.tuple #[.agg #[.int .i64 0, .int .i64 0, .int .i64 0, .int .i64 0], .slice none 0 0, .int .i64 2]) ∧ Below w.heap.size w w' := by
  obtain ⟨Y, hY⟩ : ∃ Y, w.alloc (.cells #[.int .i64 0, .int .i64 0, .int .i64 0, .int .i64 0] 28) = Y := ⟨_, rfl⟩
  have hBY : Below w.heap.size w Y := by rw [← hY]; exact (Below.refl w.heap.size w).alloc (Nat.le_refl _) _
  have haz : Arr Y w.heap.size 28 [.int .i64 0, .int .i64 0, .int .i64 0, .int .i64 0] := by rw [← hY]; exact Arr.new w 28 [.int .i64 0, .int .i64 0, .int .i64 0, .int .i64 0]
  have HAZ := Lib.hid haz
  have HBY := Lib.hid hBY
  have g1 : decide ((n : Int) < 27) = false := decide_eq_false (by omega)
  have g2 : decide ((4123 : Int) < (n : Int)) = true := decide_eq_true (by omega)
  clear hBY haz hn
  go_enter Tryd.func6, Tryd.ntmps6
  go_wp2_with (first
    | (refine wpList_store_arr rfl 28 (.tmp 4) (.tmp 32) rfl w.heap.size rfl (vs := [.int .i64 0, .int .i64 0, .int .i64 0, .int .i64 0]) rfl HAZ.out sizeO rfl rfl (by simp [Value.oneCell']) ?_; intro W6 A6 B6 hsz6 O6))
  refine bodyPost_ret (results_cell3 rfl rfl A6.out Tryd.underlying28 rfl sizeO) rfl ?_
  exact ⟨rfl, HBY.out.trans B6.out⟩
set_option maxHeartbeats 3200000 in
set_option maxRecDepth 100000 in
theorem ropn_form3 (kv : Value) (g o n c : Nat) (h1 : 27 ≤ n) (h2 : n ≤ 4123) (x0 : Nat) (hx : x0 ≠ 161) (w : World) (hg : g < w.heap.size) (hc : w.cell? ⟨g, o, none⟩ = some (.int .u8 x0)) :
    Calls Tryd.prog 6 #[kv, .slice (some ⟨g, o, none⟩) n c] w fun e w' => e = .returned (.tuple #[.agg #[.int .i64 0, .int .i64 0, .int .i64 0, .int .i64 0], .slice none 0 0, .int .i64 2]) ∧ Below w.heap.size w w' := by
  obtain ⟨Y, hY⟩ : ∃ Y, w.alloc (.cells #[.int .i64 0, .int .i64 0, .int .i64 0, .int .i64 0] 28) = Y := ⟨_, rfl⟩
  have hBY : Below w.heap.size w Y := by rw [← hY]; exact (Below.refl w.heap.size w).alloc (Nat.le_refl _) _
  have haz : Arr Y w.heap.size 28 [.int .i64 0, .int .i64 0, .int .i64 0, .int .i64 0] := by rw [← hY]; exact Arr.new w 28 [.int .i64 0, .int .i64 0, .int .i64 0, .int .i64 0]
  have HAZ := Lib.hid haz
  have HBY := Lib.hid hBY
  have g1 : decide ((n : Int) < 27) = false := decide_eq_false (by omega)
  have g2 : decide ((4123 : Int) < (n : Int)) = false := decide_eq_false (by omega)
  have i0 : (0 : Int) < (n : Int) := by omega
  have i1 : (1 : Int) < (n : Int) := by omega
  have d0 : Y.cell? ⟨g, o, none⟩ = some (.int .u8 x0) := (hBY.cell (p := ⟨g, o, none⟩) hg).trans hc
  have e0 : ¬ ((x0 : Int) = 161) := by omega
  clear hBY haz hc hx h1 h2
  go_enter Tryd.func6, Tryd.ntmps6
  go_wp2_with (first
    | (refine wpList_store_arr rfl 28 (.tmp 4) (.tmp 32) rfl w.heap.size rfl (vs := [.int .i64 0, .int .i64 0, .int .i64 0, .int .i64 0]) rfl HAZ.out sizeO rfl rfl (by simp [Value.oneCell']) ?_; intro W6 A6 B6 hsz6 O6))
  refine bodyPost_ret (results_cell3 rfl rfl A6.out Tryd.underlying28 rfl sizeO) rfl ?_
  exact ⟨rfl, HBY.out.trans B6.out⟩
set_option maxHeartbeats 3200000 in
set_option maxRecDepth 100000 in
theorem ropn_form4 (kv : Value) (g o n c : Nat) (h1 : 27 ≤ n) (h2 : n ≤ 4123) (x1 : Nat) (hx : x1 ≠ 247) (w : World) (hg : g < w.heap.size) (hc : w.cell? ⟨g, o, none⟩ = some (.int .u8 161)) (hc1 : w.cell? ⟨g, o + 1, none⟩ = some (.int .u8 x1)) :
    Calls Tryd.prog 6 #[kv, .slice (some ⟨g, o, none⟩) n c] w fun e w' => e = .returned (.tuple #[.agg #[.int .i64 0, .int .i64 0, .int .i64 0, .int .i64 0], .slice none 0 0, .int .i64 2]) ∧ Below w.heap.size w w' := by
  obtain ⟨Y, hY⟩ : ∃ Y, w.alloc (.cells #[.int .i64 0, .int .i64 0, .int .i64 0, .int .i64 0] 28) = Y := ⟨_, rfl⟩
  have hBY : Below w.heap.size w Y := by rw [← hY]; exact (Below.refl w.heap.size w).alloc (Nat.le_refl _) _
  have haz : Arr Y w.heap.size 28 [.int .i64 0, .int .i64 0, .int .i64 0, .int .i64 0] := by rw [← hY]; exact Arr.new w 28 [.int .i64 0, .int .i64 0, .int .i64 0, .int .i64 0]
  have HAZ := Lib.hid haz
  have HBY := Lib.hid hBY
  have g1 : decide ((n : Int) < 27) = false := decide_eq_false (by omega)
  have g2 : decide ((4123 : Int) < (n : Int)) = false := decide_eq_false (by omega)
  have i0 : (0 : Int) < (n : Int) := by omega
  have i1 : (1 : Int) < (n : Int) := by omega
  have d0 : Y.cell? ⟨g, o, none⟩ = some (.int .u8 161) := (hBY.cell (p := ⟨g, o, none⟩) hg).trans hc
  have d1 : Y.cell? ⟨g, o + 1, none⟩ = some (.int .u8 x1) := (hBY.cell (p := ⟨g, o + 1, none⟩) hg).trans hc1
  have e0 : ¬ ((x1 : Int) = 247) := by omega
  clear hBY haz hc hc1 hx h1 h2
  go_enter Tryd.func6, Tryd.ntmps6
  go_wp2_with (first
    | (refine wpList_store_arr rfl 28 (.tmp 4) (.tmp 32) rfl w.heap.size rfl (vs := [.int .i64 0, .int .i64 0, .int .i64 0, .int .i64 0]) rfl HAZ.out sizeO rfl rfl (by simp [Value.oneCell']) ?_; intro W6 A6 B6 hsz6 O6))
  refine bodyPost_ret (results_cell3 rfl rfl A6.out Tryd.underlying28 rfl sizeO) rfl ?_
  exact ⟨rfl, HBY.out.trans B6.out⟩
end Go.Proofs.YtmmocnokgcgmnaaDoor

/-
  BOTH OPEN ALIKE: any bytes, by any keys.
-/
namespace Go.Proofs.YtmmocnokgcgmnaaDoor
set_option linter.unusedSimpArgs false
set_option linter.unusedVariables false
open Go.RowKit
/-- How an Open ends: these numbers, these bytes, this error. -/
def OpnR (K l r f : Nat) (pk : List Nat) (x : Int) (w : World) (e : Ending) (w' : World) : Prop := (∃ v', e = .returned (.tuple #[.agg #[.int .i64 K, .int .i64 l, .int .i64 r, .int .i64 f], v', .int .i64 x]) ∧ Hid (w'.ownsRow w.heap.size 5 1 v' pk.length (u8s pk))) ∧ Below w.heap.size w w'
theorem opnR_nil {x : Int} {w : World} {e : Ending} {w' : World} (h : e = .returned (.tuple #[.agg #[.int .i64 0, .int .i64 0, .int .i64 0, .int .i64 0], .slice none 0 0, .int .i64 x]) ∧ Below w.heap.size w w') : OpnR 0 0 0 0 [] x w e w' :=
  ⟨⟨_, h.1, World.ownsRow_nil _ _ _ _⟩, h.2⟩
/-- Both answer so, wherever they are called behind here. -/
def BothR (W0 : World) (ks bs : Value) (K l r f : Nat) (pk : List Nat) (x : Int) : Prop :=
  (∀ y ∈ pk, y < 256) ∧ pk.length ≤ 4096 ∧
  (∀ W, Below W0.heap.size W0 W → Calls Tryd.prog 5 #[ks, bs] W fun e w' => OpnR K l r f pk x W e w') ∧
  (∀ W, Below W0.heap.size W0 W → Calls Tryd.prog 6 #[ks, bs] W fun e w' => OpnR K l r f pk x W e w')
theorem both_nil {W0 : World} {ks bs : Value} {x : Int}
    (h1 : ∀ W, Below W0.heap.size W0 W → Calls Tryd.prog 5 #[ks, bs] W fun e w' => e = .returned (.tuple #[.agg #[.int .i64 0, .int .i64 0, .int .i64 0, .int .i64 0], .slice none 0 0, .int .i64 x]) ∧ Below W.heap.size W w')
    (h2 : ∀ W, Below W0.heap.size W0 W → Calls Tryd.prog 6 #[ks, bs] W fun e w' => e = .returned (.tuple #[.agg #[.int .i64 0, .int .i64 0, .int .i64 0, .int .i64 0], .slice none 0 0, .int .i64 x]) ∧ Below W.heap.size W w') : BothR W0 ks bs 0 0 0 0 [] x :=
  ⟨by simp, by simp, fun W hW => (h1 W hW).mono fun e w' h => opnR_nil h, fun W hW => (h2 W hW).mono fun e w' h => opnR_nil h⟩
theorem first_key (M : KeyD → Prop) (ks : List KeyD) : (∀ kd ∈ ks, ¬ M kd) ∨ ∃ j kd, ks[j]? = some kd ∧ M kd ∧ ∀ (j' : Nat) (kd' : KeyD), j' < j → ks[j']? = some kd' → ¬ M kd' := by
  induction ks with
  | nil => exact .inl (by simp)
  | cons a t ih =>
    by_cases h : M a
    · exact .inr ⟨0, a, rfl, h, fun j' kd' hlt => absurd hlt (by omega)⟩
    · rcases ih with ih | ⟨j, kd, hj, hm, hf⟩
      · refine .inl fun kd hk => ?_
        rcases List.mem_cons.1 hk with rfl | hk
        · exact h
        · exact ih kd hk
      · refine .inr ⟨j + 1, kd, hj, hm, fun j' kd' hlt e => ?_⟩
        cases j' with
        | zero =>
          have e2 : a = kd' := by simpa using e
          exact e2 ▸ h
        | succ i => exact hf i kd' (by omega) (by simpa using e)
theorem rdK_below {W0 W : World} {kA : Option Addr} {ks : List KeyD} (hk : RdK W0.heap.size W0 kA ks) (h : Below W0.heap.size W0 W) : RdK W.heap.size W kA ks := fun j kd hj => by
  obtain ⟨h1, B, off, e, h2, h3, h4⟩ := hk j kd hj
  exact ⟨h1, B, off, e, Nat.lt_of_lt_of_le h2 h.size, (h.cell (p := ⟨B, _, none⟩) h2).trans h3, (h.cell (p := ⟨B, _, none⟩) h2).trans h4⟩
theorem both_open (W0 : World) (ks : List KeyD) (kA : Option Addr) (kc : Nat) (hk : RdK W0.heap.size W0 kA ks) (hs : ∀ kd ∈ ks, SecK W0 kd) (hs2 : ∀ kd ∈ ks, kd.n ≤ 200) (hkl : ks.length ≤ 20) (bA : Option Addr) (n c : Nat) (b : List Nat) (hb : InB W0 bA n c b) (hT : Tabs W0) :
    ∃ (K l r f : Nat) (pk : List Nat) (x : Int), BothR W0 (.slice kA ks.length kc) (.slice bA n c) K l r f pk x := by
  obtain ⟨hbl, hnc, hcm, hbb, hrd⟩ := hb
  have hcm2 : c ≤ 9223372036854775807 := by unfold maxLen at hcm; omega
  have RD : ∀ W, Below W0.heap.size W0 W → RdN W.heap.size W bA b := fun W h => (hrd.below h (Nat.le_refl _)).mono h.size
  have RK : ∀ W, Below W0.heap.size W0 W → RdK W.heap.size W kA ks := fun W h => rdK_below hk h
  have TB : ∀ W, Below W0.heap.size W0 W → Tabs W := fun W h => hT.below h hT.pos
  rcases Nat.lt_or_ge n 27 with h1 | h1
  · exact ⟨0, 0, 0, 0, [], _, both_nil (fun W hW => opn_form1 _ bA n c h1 W) (fun W hW => ropn_form1 _ bA n c h1 W)⟩
  rcases Nat.lt_or_ge 4123 n with h2 | h2
  · exact ⟨0, 0, 0, 0, [], _, both_nil (fun W hW => opn_form2 _ bA n c h2 W) (fun W hW => ropn_form2 _ bA n c h2 W)⟩
  obtain ⟨g, o, rfl, hg, hcell⟩ := hrd (by omega)
  have hgW : ∀ W, Below W0.heap.size W0 W → g < W.heap.size := fun W h => Nat.lt_of_lt_of_le hg h.size
  obtain ⟨y0, hy0⟩ : ∃ y, b[0]? = some y := ⟨_, List.getElem?_eq_getElem (by omega)⟩
  obtain ⟨y1, hy1⟩ : ∃ y, b[1]? = some y := ⟨_, List.getElem?_eq_getElem (by omega)⟩
  by_cases e0 : y0 = 161
  case neg => exact ⟨0, 0, 0, 0, [], _, both_nil (fun W hW => opn_form3 _ g o n c h1 h2 y0 e0 W (hgW W hW) ((RD W hW).atZ hy0)) (fun W hW => ropn_form3 _ g o n c h1 h2 y0 e0 W (hgW W hW) ((RD W hW).atZ hy0))⟩
  subst e0
  by_cases e1 : y1 = 247
  case neg => exact ⟨0, 0, 0, 0, [], _, both_nil (fun W hW => opn_form4 _ g o n c h1 h2 y1 e1 W (hgW W hW) ((RD W hW).atZ hy0) ((RD W hW).atO hy1)) (fun W hW => ropn_form4 _ g o n c h1 h2 y1 e1 W (hgW W hW) ((RD W hW).atZ hy0) ((RD W hW).atO hy1))⟩
  subst e1
  obtain ⟨x2, x3, x4, x5, x6, x7, x8, x9, x10, FQ, pk, hbe, hQl, hpl, hQb, hpb, hx, hnx⟩ := cut_env hbb (by omega) hy0 hy1
  obtain ⟨l, hl⟩ : ∃ l, x3 * 256 + x4 = l := ⟨_, rfl⟩
  obtain ⟨r, hr⟩ : ∃ r, x5 * 256 + x6 = r := ⟨_, rfl⟩
  obtain ⟨f, hf⟩ : ∃ f, x7 * 16777216 + x8 * 65536 + x9 * 256 + x10 = f := ⟨_, rfl⟩
  rw [hl, hr, hf] at hbe
  have hln : n = 27 + pk.length := by omega
  have hpl2 : pk.length ≤ 4096 := by omega
  have hlb : l < 65536 := by omega
  have hrb : r < 65536 := by omega
  have hfb : f < 4294967296 := by omega
  subst hln
  have RE : ∀ W, Below W0.heap.size W0 W → RdN W.heap.size W (some ⟨g, o, none⟩) (headL x2 l r f ++ (FQ ++ pk)) := fun W h => hbe ▸ RD W h
  by_cases ho : okO x2 l r f
  case neg => exact ⟨0, 0, 0, 0, [], _, both_nil (fun W hW => opn_life _ x2 g o c l r f hx.1 hlb hrb hfb ho pk hpl2 FQ hQl W hnc (RE W hW)) (fun W hW => ropn_life kA ks.length kc x2 x3 x4 x5 x6 x7 x8 x9 x10 hx l r f hl hr hf g o (27 + pk.length) c h1 h2 b hbl hnc ⟨hy0, hy1, hnx⟩ ho W (RD W hW))⟩
  -- whose key is there: by its fingerprint
  have key : ∀ (sA : Option Addr) (sc : Nat) (sec : List Nat), (∀ x ∈ sec, x < 256) → sec.length ≤ sc → sec.length ≤ 1000000 → (∀ W, Below W0.heap.size W0 W → RdN W.heap.size W sA sec) →
      (∀ W, Below W0.heap.size W0 W → Calls Tryd.prog 11 #[.slice kA ks.length kc, .int .i64 x2] W fun e w' => e = .returned (.tuple #[.agg #[.int .i64 x2, .slice sA sec.length sc], .bool true]) ∧ Below W.heap.size W w') →
      (∀ W, Below W0.heap.size W0 W → Calls Tryd.prog 6 #[.slice kA ks.length kc, .slice (some ⟨g, o, none⟩) (27 + pk.length) c] W fun e w' => OpnE x2 l r f FQ (printL x2 sec (headL x2 l r f) pk) pk W e w') →
      ∃ (K l r f : Nat) (pk' : List Nat) (x : Int), BothR W0 (.slice kA ks.length kc) (.slice (some ⟨g, o, none⟩) (27 + pk.length) c) K l r f pk' x := by
    intro sA sc sec hsb hsc hsl hrs hfd hro
    by_cases hq : FQ = printL x2 sec (headL x2 l r f) pk
    · refine ⟨x2, l, r, f, pk, 0, hpb, hpl2, fun W hW => ?_, fun W hW => ?_⟩
      · exact opn_gen _ x2 sA sc sec hsb hsc hsl g o c l r f ho pk hpb hpl2 W hnc hcm2 (by have := RE W hW; rw [hq] at this; exact this) (hrs W hW) (TB W hW) (fun V hV => hfd V (hW.trans (hV.mono hW.size)))
      · refine (hro W hW).mono fun e w' h => ?_
        rcases h with ⟨⟨_, v, rfl, hv⟩ | ⟨hne, _⟩, hB⟩
        · exact ⟨⟨v, rfl, hv⟩, hB⟩
        · exact absurd hq hne
    · refine ⟨0, 0, 0, 0, [], 7, both_nil (fun W hW => ?_) (fun W hW => ?_)⟩
      · exact opn_bad _ x2 sA sc sec hsb hsc hsl g o c l r f ho pk hpb hpl2 FQ hQl hQb hq W hnc hcm2 (RE W hW) (hrs W hW) (TB W hW) (fun V hV => hfd V (hW.trans (hV.mono hW.size)))
      · refine (hro W hW).mono fun e w' h => ?_
        rcases h with ⟨⟨he, _⟩ | ⟨_, he⟩, hB⟩
        · exact absurd he hq
        · exact ⟨he, hB⟩
  by_cases hz : x2 = 0
  · refine key none 0 [] (by simp) (Nat.le_refl _) (by simp) (fun W hW => RdN.nil _ _ _) (fun W hW => ?_) (fun W hW => ?_)
    · rw [hz]
      exact find_zero _ W
    · exact ropn_zero kA ks.length kc x2 x3 x4 x5 x6 x7 x8 x9 x10 hx l r f hl hr hf g o pk.length c hpl2 b hbl hnc hcm2 ⟨hy0, hy1, hnx⟩ ho FQ pk hQl hQb hpb rfl hbe none 0 [] (by simp) (by simp) hz ⟨rfl, rfl, rfl⟩ W (RD W hW) (RdN.nil _ _ _)
  have hz2 : ¬ ((x2 : Int) = 0) := by omega
  rcases first_key (fun kd => kd.id = x2 ∧ okK kd.id kd.n) ks with hno | ⟨j, kd, hj, hm, hfst⟩
  · exact ⟨0, 0, 0, 0, [], _, both_nil (fun W hW => opn_none _ x2 g o c l r f ho pk hpl2 FQ hQl W hnc (RE W hW) (fun V hV => find_none x2 hz2 kA kc ks (by omega) hno V (RK V (hW.trans (hV.mono hW.size))))) (fun W hW => ropn_none kA ks.length kc x2 x3 x4 x5 x6 x7 x8 x9 x10 hx l r f hl hr hf g o (27 + pk.length) c h1 h2 b hbl hnc ⟨hy0, hy1, hnx⟩ ks rfl (by omega) ho hz hno W (RD W hW) (RK W hW))⟩
  · have hmem := List.mem_of_getElem? hj
    obtain ⟨sec, hsl, hsi⟩ := hs kd hmem
    have hn200 := hs2 kd hmem
    obtain ⟨_, hsc, _, hsb, hsr⟩ := hsi
    have hSR : ∀ W, Below W0.heap.size W0 W → RdN W.heap.size W kd.a sec := fun W h => (hsr.below h (Nat.le_refl _)).mono h.size
    refine key kd.a kd.c sec hsb hsc (by omega) hSR (fun W hW => ?_) (fun W hW => ?_)
    · have := find_some x2 hz2 kA kc ks (by omega) j kd hj hm hfst W (RK W hW)
      rw [hm.1, ← hsl] at this
      exact this
    · exact ropn_some kA ks.length kc x2 x3 x4 x5 x6 x7 x8 x9 x10 hx l r f hl hr hf g o pk.length c hpl2 b hbl hnc hcm2 ⟨hy0, hy1, hnx⟩ ho FQ pk hQl hQb hpb rfl hbe kd.a kd.c sec hsb (by omega) ks rfl (by omega) hz j kd hj hm.1 hm.2 ⟨rfl, hsl.symm, rfl⟩ (fun i hi kd' h' => hfst i kd' hi h') W (RD W hW) (hSR W hW) (RK W hW)
end Go.Proofs.YtmmocnokgcgmnaaDoor

/-
  SealOpens: the walk of the law.
-/
namespace Go.Proofs.YtmmocnokgcgmnaaDoor
set_option linter.unusedSimpArgs false
set_option linter.unusedVariables false
open Go.RowKit
theorem own_any {w : World} {base : Nat} {v : Value} {l : List Nat} (h : w.ownsRow base 5 1 v l.length (u8s l)) : ∃ A c, v = .slice A l.length c ∧ RdN w.heap.size w A l := by
  by_cases h0 : 0 < l.length
  · obtain ⟨g, c, rfl, hc, _, _, hr⟩ := own_rd h h0
    exact ⟨_, c, rfl, hr⟩
  · obtain rfl : l = [] := List.eq_nil_of_length_eq_zero (by omega)
    obtain ⟨_, ⟨rfl, _⟩ | ⟨g, cap, cur, rfl, _⟩⟩ := h
    · exact ⟨none, 0, rfl, RdN.nil _ _ _⟩
    · exact ⟨_, cap, rfl, RdN.nil _ _ _⟩
set_option maxHeartbeats 3200000 in
set_option maxRecDepth 100000 in
theorem opens_walk (kA : Option Addr) (kc : Nat) (ks : List KeyD) (pA : Option Addr) (pc : Nat) (b : List Nat) (w : World) (hkl : ks.length ≤ 9223372036854775807) (hk : RdK w.heap.size w kA ks ∧ ∀ kd ∈ ks, SecK w kd) (hb : InB w pA b.length pc b) (hT : Tabs w) :
    Calls Tryd.prog 3 #[.slice kA ks.length kc, .slice pA b.length pc] w fun e w' => e = .returned (.bool true) ∧ Below w.heap.size w w' := by
  have HB := Lib.hid hb
  have HK := Lib.hid hk
  have HT := Lib.hid hT
  have hbl : b.length ≤ 9223372036854775807 := by obtain ⟨_, h2, h3, _⟩ := hb; unfold maxLen at h3; omega
  have haw := awake5_any w hT
  obtain ⟨nk, hnk⟩ : ∃ nk, ks.length = nk := ⟨_, rfl⟩
  obtain ⟨nb, hnb⟩ : ∃ nb, b.length = nb := ⟨_, rfl⟩
  have HBO : Hid (nk ≤ 20 → (∀ kd ∈ ks, kd.n ≤ 200) → ∃ (K l r f : Nat) (pk : List Nat) (x : Int), BothR w (.slice kA nk kc) (.slice pA nb pc) K l r f pk x) := fun h1 h2 => by
    have := both_open w ks kA kc hk.1 hk.2 h2 (by omega) pA b.length pc b hb hT
    rw [hnk, hnb] at this
    exact this
  rw [hnk, hnb]
  have HNK := Lib.hid hnk
  rw [hnk] at hkl
  rw [hnb] at hbl
  clear hb hk hT hnk hnb
  by_cases c1 : 20 < nk
  · have g1 : decide ((20 : Int) < (nk : Int)) = true := decide_eq_true (by omega)
    go_enter Tryd.func3, Tryd.ntmps3
    go_wp2_with (go_at_call 4; refine haw.mono ?_; rintro e w1 ⟨rfl, hb1⟩; have B1 := Lib.hid hb1; clear hb1)
    go_ret
    exact ⟨rfl, B1.out⟩
  have g1 : decide ((20 : Int) < (nk : Int)) = false := decide_eq_false (by omega)
  by_cases c2 : 5000 < nb
  · have g2 : decide ((5000 : Int) < (nb : Int)) = true := decide_eq_true (by omega)
    go_enter Tryd.func3, Tryd.ntmps3
    go_wp2_with (go_at_call 4; refine haw.mono ?_; rintro e w1 ⟨rfl, hb1⟩; have B1 := Lib.hid hb1; clear hb1)
    go_ret
    exact ⟨rfl, B1.out⟩
  have g2 : decide ((5000 : Int) < (nb : Int)) = false := decide_eq_false (by omega)
  go_enter Tryd.func3, Tryd.ntmps3
  go_wp2_with (go_at_call 4; refine haw.mono ?_; rintro e w1 ⟨rfl, hb1⟩; have B1 := Lib.hid hb1; clear hb1)
  go_loopw [6] (fun i wr => ∃ k : Nat, i = .int .i64 k ∧ k ≤ nk ∧ Hid (Below w.heap.size w wr) ∧ Hid (∀ (j : Nat) (kd : KeyD), j < k → ks[j]? = some kd → kd.n ≤ 200)) (fun i _ => nk - (intOf i).toNat)
  case atStart => exact ⟨0, rfl, Nat.zero_le _, B1.out, fun j kd h => absurd h (Nat.not_lt_zero _)⟩
  case round =>
    obtain ⟨k, rfl, hkn, HW, HF⟩ := hrel
    clear B1 haw
    by_cases hlt : k < nk
    · have gl : decide ((k : Int) < (nk : Int)) = true := decide_eq_true (by omega)
      obtain ⟨kd, hkd⟩ : ∃ kd, ks[k]? = some kd := ⟨_, List.getElem?_eq_getElem (by have := HNK.out; omega)⟩
      obtain ⟨q1, B, off, rfl, q2, q3, q4⟩ := HK.out.1 k kd hkd
      have p1 := (HW.out.cell (p := ⟨B, _, none⟩) q2).trans q4
      have HKD := Lib.hid hkd
      clear q3 q4 q2 hkd
      by_cases hn : 200 < kd.n
      · have gn : decide ((200 : Int) < (kd.n : Int)) = true := decide_eq_true (by omega)
        go_wp2
        go_ret
        exact ⟨rfl, HW.out⟩
      · have gn : decide ((200 : Int) < (kd.n : Int)) = false := decide_eq_false (by omega)
        have HN : Hid (kd.n ≤ 200) := by unfold Hid; omega
        go_wp2
        all_goals go_roundw
        all_goals first
          | (refine ⟨k + 1, by go_num, by omega, HW.out, fun j kd' hj e => ?_⟩
             rcases Nat.lt_or_ge j k with h | h
             · exact HF.out j kd' h e
             · obtain rfl : j = k := by omega
               have := Option.some.inj (HKD.out.symm.trans e)
               exact this ▸ HN.out)
          | (simp [intOf]; omega)
    · have gl : decide ((k : Int) < (nk : Int)) = false := decide_eq_false (by omega)
      obtain ⟨K, l, r, f, pk, x, hpb, hpl, h1, h2⟩ := HBO.out (by omega) (fun kd hm => by
        obtain ⟨j, hj⟩ := List.getElem?_of_mem hm
        exact HF.out j kd (by have := (List.getElem?_eq_some_iff.1 hj).1; have := HNK.out; omega) hj)
      have z0 : (x == x) = true := by simp
      clear hpb hpl
      go_wp2_with (first
        | (go_at_call 5; (with_reducible refine (h1 wr HW.out).mono ?_); rintro e w2 ⟨⟨v2, rfl, ho2⟩, hb2⟩; obtain ⟨A2, n2, rfl, hr2⟩ := own_any ho2.out; have B2 := Lib.hid (HW.out.trans (hb2.mono HW.out.size)); have R2 := Lib.hid hr2; clear ho2 hb2 hr2)
        | (refine wpList_store_arr rfl 28 (.tmp 7) (.tmp 44) rfl w2.heap.size rfl (vs := [.int .i64 K, .int .i64 l, .int .i64 r, .int .i64 f]) rfl (show Arr _ w2.heap.size 28 [.int .i64 0, .int .i64 0, .int .i64 0, .int .i64 0] from Arr.new w2 28 [.int .i64 0, .int .i64 0, .int .i64 0, .int .i64 0]) sizeO rfl rfl (by simp [Value.oneCell']) ?_; intro W3 A3 C3 hsz3 O3; have D3 := Lib.hid (((Below.refl w2.heap.size w2).alloc (Nat.le_refl _) _).trans C3); have B3 := Lib.hid (B2.out.trans (D3.out.mono B2.out.size)); have R3 := Lib.hid ((R2.out.below D3.out (Nat.le_refl _)).mono D3.out.size); have Q3 := Lib.hid A3; clear hsz3 O3 A3 C3)
        | (go_at_call 6; (with_reducible refine (h2 W3 B3.out).mono ?_); rintro e w4 ⟨⟨v4, rfl, ho4⟩, hb4⟩; obtain ⟨A4, n4, rfl, hr4⟩ := own_any ho4.out; have B4 := Lib.hid (B3.out.trans (hb4.mono B3.out.size)); have R4 := Lib.hid hr4; have S4 := Lib.hid ((R3.out.below hb4 (Nat.le_refl _)).mono hb4.size); have Q4 := Lib.hid (Q3.out.below hb4 Q3.out.lt); clear ho4 hb4 hr4)
        | (refine wpList_store_arr rfl 28 (.tmp 10) (.tmp 51) rfl w4.heap.size rfl (vs := [.int .i64 K, .int .i64 l, .int .i64 r, .int .i64 f]) rfl (show Arr _ w4.heap.size 28 [.int .i64 0, .int .i64 0, .int .i64 0, .int .i64 0] from Arr.new w4 28 [.int .i64 0, .int .i64 0, .int .i64 0, .int .i64 0]) sizeO rfl rfl (by simp [Value.oneCell']) ?_; intro W5 A5 C5 hsz5 O5; have D5 := Lib.hid (((Below.refl w4.heap.size w4).alloc (Nat.le_refl _) _).trans C5); have B5 := Lib.hid (B4.out.trans (D5.out.mono B4.out.size)); have u1 := conv_rdE ((S4.out.below D5.out (Nat.le_refl _)).mono D5.out.size) rfl n2; have u2 := conv_rdE ((R4.out.below D5.out (Nat.le_refl _)).mono D5.out.size) rfl n4; have Q5 := Lib.hid (Q4.out.below D5.out Q4.out.lt); have Q6 := Lib.hid A5; clear hsz5 O5 A5 C5)
        | (refine wpList_load_arr rfl 28 (.tmp 7) rfl w2.heap.size rfl Q5.out Tryd.underlying28 rfl sizeO rfl ?_)
        | (refine wpList_load_arr rfl 28 (.tmp 10) rfl w4.heap.size rfl Q6.out Tryd.underlying28 rfl sizeO rfl ?_))
      go_ret
      exact ⟨rfl, B5.out⟩
end Go.Proofs.YtmmocnokgcgmnaaDoor

namespace Go.Proofs.YtmmocnokgcgmnaaDoor.sealOpens
open Go.ChangeShapes Go.WideShapes Go.ChangeAt Go.RowKit
set_option linter.unusedVariables false

theorem own : ownKnob Tryd.prog.godebug = none := by kernel_rfl
theorem laidOut : laidOutB Tryd.prog = true := by kernel_rfl

set_option maxRecDepth 100000 in
theorem lifted (os : Os) (started : os.Started) (H : Type) (enc : TypeId × Value → H) :
    ReturnsInHanded {} Tryd.checked os 3 .any (fun w args => (Rows.sealOpensSpec.pre enc Tryd.prog Tryd.f3 [] false w args ∧ laidMetH Tryd.prog [("selvage/sha.start", Rows.laid_selvage_sha_start), ("selvage/sha.k", Rows.laid_selvage_sha_k)] w) ∧ sizedMet enc Tryd.prog Tryd.f3 (OpenSpec.ofChange Rows.sealOpensSpec) false w args)
      (Rows.sealOpensSpec.post enc Tryd.prog Tryd.f3 false true false false) := by
  refine returnsInHanded_of_change_and (C := Tryd.checked) (X := fun w _ => laidMetH Tryd.prog [("selvage/sha.start", Rows.laid_selvage_sha_start), ("selvage/sha.k", Rows.laid_selvage_sha_k)] w) (fun _ _ _ hh h => h.of_heap hh) own started (by kernel_rfl) Tryd.func3
    (ChangeSpec.witness_shaped (enc := enc) (C := Tryd.checked) (os := os) (X := fun w _ => laidMetH Tryd.prog [("selvage/sha.start", Rows.laid_selvage_sha_start), ("selvage/sha.k", Rows.laid_selvage_sha_k)] w) false (World.doorLaid Tryd.prog 400 os) #[.slice none 0 0, .slice none 0 0] 8 rfl (World.shaped_of_RefB (by kernel_rfl) (by kernel_rfl)) (by kernel_rfl) (by kernel_rfl) (by kernel_rfl) (door_met os _)) ?_
  intro W base args ds gs before hval0 hW _ hsz0 hL _
  have hval : ∀ (j : Nat) t v, Tryd.f3.params[j]? = some t → args[j]? = some v → Value.okWide Tryd.prog W .any base t v := hval0
  have hW' := hW
  obtain ⟨p, q, hA0, hV, rfl, hfz, hnd⟩ := hW
  have hA : DataW.TrodAll enc Tryd.prog W 0 (fun _ => true) true Tryd.f3.params.toList args.toList ds p := hA0
  rw [Tryd.params3] at hA hval
  obtain ⟨v0, vs0, d0, ds0, p0, q0, hargs, rfl, rfl, h0, r0⟩ := trodAll_cons hA
  obtain ⟨v1, vs1, d1, ds1, p1, q1, rfl, rfl, rfl, h1, r1⟩ := trodAll_cons r0
  obtain ⟨rfl, rfl, rfl⟩ := trodAll_nil r1
  obtain rfl : args = #[v0, v1] := by cases args; simp_all
  obtain ⟨rfl, rfl⟩ := trodVars_none hV
  obtain ⟨a0, len0, cap0, rfl⟩ := okWide_slice Tryd.underlying22 (hval 0 22 v0 rfl rfl)
  have k0 := h0
  have lt0 : ∀ x ∈ p0, x.block < W.heap.size := by obtain ⟨m, hm⟩ := k0; exact DataW.trod_lt m _ _ _ hm
  obtain ⟨z0, zl0, zm0, w0⟩ := keys_of2 h0
  obtain rfl := zl0
  obtain ⟨a1, len1, cap1, rfl⟩ := okWide_slice Tryd.underlying23 (hval 1 23 v1 rfl rfl)
  have k1 := h1
  have lt1 : ∀ x ∈ p1, x.block < W.heap.size := by obtain ⟨m, hm⟩ := k1; exact DataW.trod_lt m _ _ _ hm
  obtain ⟨z1, w1⟩ : ∃ b, InB W a1 len1 cap1 b := by obtain ⟨fuel, hf⟩ := h1; exact inB_of hf
  obtain rfl : z1.length = len1 := w1.1
  clear hA0 hval0
  refine (opens_walk a0 cap0 z0 a1 cap1 z1 W zm0 w0 w1 (tabs_of hL)).mono fun e W' ⟨he, bel⟩ => ?_
  subst he
  exact ⟨_, rfl, _, _, _, [], _, [], hW', trodAll_mk1 (shut_bool Tryd.underlying4 _), (trodAll_cons_mk (Below.trod laidOut (by kernel_rfl) (of_decide_eq_true (by kernel_rfl)) k0 bel lt0) (trodAll_cons_mk (Below.trod laidOut (by kernel_rfl) (of_decide_eq_true (by kernel_rfl)) k1 bel lt1) trodAll_mk0)), rfl, bel.frame _, fun h => by cases h⟩

theorem over : Rows.sealOpensRow.holds Tryd.pinned (OpenSpec.ofChange Rows.sealOpensSpec) :=
  OpenClaim.holds_of_wide 3 Tryd.f3 rfl rfl rfl rfl rfl rfl rfl ⟨rfl, rfl, rfl, rfl, rfl⟩ rfl rfl rfl rfl rfl (by kernel_rfl) Tryd.func3 (by kernel_rfl)
    (of_decide_eq_true (by kernel_rfl)) (by unfold Func.isWrapper; first | (rw [if_pos (by decide +kernel)]; kernel_rfl) | (rw [if_neg (by decide +kernel)]; exact ⟨rfl, rfl⟩))
    (fun os started H enc _ => lifted os started H enc)

theorem proved : Rows.SealOpensCardSaid :=
  Claim7.holds_tied_plain_at .later [] [.data, .data] true _ false
    over (fun _ h => by cases h) (by kernel_rfl) (fun _ h => by cases h) sealOpens_row_tie rfl ⟨rfl, rfl⟩ (by kernel_rfl) rfl
    (fun f fn hf hfn => by
      obtain rfl : f = 3 := Option.some.inj ((show Tryd.prog.funcNamed "selvage/selvagelaw05.SealOpens" = some 3 by kernel_rfl).symm.trans hf) |>.symm
      obtain rfl : fn = Tryd.f3 := (Option.some.inj (Tryd.func3.symm.trans hfn)).symm
      exact ⟨by kernel_rfl, fun j t ht => by
        rw [Tryd.params3] at ht
        have hm : t ∈ [22, 23] := by simpa using Array.mem_of_getElem? ht
        have hall : ([22, 23].all fun u => !Tryd.prog.wantsStandIn u) = true := by kernel_rfl
        exact (show Tryd.prog.wantsStandIn t = false by simpa using List.all_eq_true.1 hall t hm)⟩)
    (by kernel_rfl)
#print axioms proved
end Go.Proofs.YtmmocnokgcgmnaaDoor.sealOpens
