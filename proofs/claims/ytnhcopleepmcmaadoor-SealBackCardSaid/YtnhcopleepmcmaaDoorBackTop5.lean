/-
  SealBack: for every key, Outer and bytes the law answers true: what was wrapped is opened as it was. The package's tables 'start' and 'k' start as the program's text lays them (the card's tie). No other condition.
-/
import Derived.Test.YtnhcopleepmcmaaDoorSStr
import Derived.Test.YtnhcopleepmcmaaDoorSBig
import Derived.Test.YtnhcopleepmcmaaDoorCards
import Derived.WalkKit
import Derived.ProofKit
import Derived.OpenShut
import Derived.ShutString
import Derived.ChangeOld
import Derived.Below
import Derived.Stop.Joined
import Derived.SevenTiedAt

/-
  AN ENVELOPE IS NOT OPENED whose fingerprint is wrong: the program's Open.
-/
namespace Go.Proofs.YtnhcopleepmcmaaDoor
open Go.RowKit
set_option maxHeartbeats 3200000 in
set_option maxRecDepth 100000 in
theorem open_bad (kv : Value) (K : Nat) (sA : Option Addr) (sc : Nat) (sec : List Nat) (hsb : ∀ x ∈ sec, x < 256) (hsc : sec.length ≤ sc) (hsl : sec.length ≤ 1000000) (g c : Nat) (l r f : Nat) (ho : okO K l r f) (pk : List Nat) (hpb : ∀ x ∈ pk, x < 256) (hpl : pk.length ≤ 4096) (FQ : List Nat) (hQl : FQ.length = 16) (hQb : ∀ x ∈ FQ, x < 256) (hQn : FQ ≠ printL K sec (headL K l r f) pk) (w : World) (hc : 27 + pk.length ≤ c) (hcm : c ≤ 9223372036854775807) (hr : RdN w.heap.size w (some ⟨g, 0, none⟩) (headL K l r f ++ (FQ ++ pk))) (hrs : RdN w.heap.size w sA sec) (hT : Tabs w)
    (hfind : ∀ W, Below w.heap.size w W → Calls Tryd.prog 49 #[kv, .int .i64 K] W fun e w' => e = .returned (.tuple #[.agg #[.int .i64 K, .slice sA sec.length sc], .bool true]) ∧ Below W.heap.size W w') :
    Calls Tryd.prog 22 #[kv, .slice (some ⟨g, 0, none⟩) (27 + pk.length) c] w fun e w' => e = .returned (.tuple #[.agg #[.int .i64 0, .int .i64 0, .int .i64 0, .int .i64 0], .slice none 0 0, .int .i64 7]) ∧ Below w.heap.size w w' := by
  have ho2 := ho
  unfold okO okIn at ho2
  have hO := okO_any K l r f
  have hwd := head_words K l r f (by omega) (by omega) (by omega) (by omega)
  have hHl := headL_len K l r f
  have hHb := headL_lt K l r f
  have hp0 : (headL K l r f ++ (FQ ++ pk))[0]? = some 161 := by unfold headL; rfl
  have hp1 : (headL K l r f ++ (FQ ++ pk))[1]? = some 247 := by unfold headL; rfl
  have ht1 : ((headL K l r f ++ (FQ ++ pk)).drop 0).take 11 = headL K l r f := by rw [List.drop_zero]; exact List.take_left' hHl
  have ht2 : ((headL K l r f ++ (FQ ++ pk)).drop 11).take 16 = FQ := by rw [List.drop_left' hHl]; exact List.take_left' hQl
  have ht3 : (headL K l r f ++ (FQ ++ pk)).drop 27 = pk := by
    rw [← List.append_assoc]
    exact List.drop_left' (by rw [List.length_append, hHl, hQl])
  obtain ⟨HD, hHD⟩ : ∃ HD, headL K l r f = HD := ⟨_, rfl⟩
  have hF := fun pA pc W (hm : c ≤ 9223372036854775807) hs hh hp ht => fprint_any K sA sc sec hsb hsc hsl g 0 c HD (by rw [← hHD]; exact hHb) (by rw [← hHD]; exact hHl) (by omega) hm pA pc pk hpb (by omega) W hs hh hp ht
  obtain ⟨FP, hFP⟩ : ∃ FP, printL K sec HD pk = FP := ⟨_, rfl⟩
  have hFl : FP.length = 16 := by rw [← hFP]; exact printL_len _ _ _ _
  rw [hHD] at ht1 hQn hwd hHl hHb
  rw [hFP] at hF
  rw [hFP] at hQn
  have hFb : ∀ x ∈ FP, x < 256 := by
    rw [← hFP]
    unfold printL
    split
    · intro x hx; rw [(List.mem_replicate.1 hx).2]; decide
    · exact fun x hx => outV_lt _ x (List.mem_of_mem_take hx)
  obtain ⟨WL, hWL⟩ : ∃ WL, HD ++ (FQ ++ pk) = WL := ⟨_, rfl⟩
  rw [hHD] at hr hp0 hp1 ht2 ht3
  rw [hWL] at hr hp0 hp1 ht1 ht2 ht3
  obtain ⟨hw0, hw1, hw2, hw3⟩ := hwd
  have hU := fun W h => outerOf_any (some ⟨g, 0, none⟩) c HD hHb hHl (by omega) W h
  rw [hw0, hw1, hw2, hw3] at hU
  have hne : ((strB FQ).toList == (strB FP).toList) = false := by
    rw [beq_eq_false_iff_ne]
    exact fun e => hQn (strB_inj2 hQb hFb e)
  have hE := fun (W : World) a1 c1 a2 c2 (h1 : RdN W.heap.size W a1 FQ) (h2 : RdN W.heap.size W a2 FP) => (equal_any a1 c1 FQ 16 hQl a2 c2 FP 16 hFl W h1 h2).mono fun e w' (h : e = .returned (.bool ((strB FQ).toList == (strB FP).toList)) ∧ w' = W) => (show e = .returned (.bool false) ∧ w' = W from ⟨by rw [h.1, hne], h.2⟩)
  -- memory
  obtain ⟨Y, hY⟩ : ∃ Y, w.alloc (.cells #[.int .i64 0, .int .i64 0, .int .i64 0, .int .i64 0] 32) = Y := ⟨_, rfl⟩
  have hBY : Below w.heap.size w Y := by rw [← hY]; exact (Below.refl w.heap.size w).alloc (Nat.le_refl _) _
  have hYs : Y.heap.size = w.heap.size + 1 := by rw [← hY]; simp
  have haz : Arr Y w.heap.size 32 [.int .i64 0, .int .i64 0, .int .i64 0, .int .i64 0] := by rw [← hY]; exact Arr.new w 32 [.int .i64 0, .int .i64 0, .int .i64 0, .int .i64 0]
  have HAZ : Hid (∀ W, Below Y.heap.size Y W → Arr W w.heap.size 32 [.int .i64 0, .int .i64 0, .int .i64 0, .int .i64 0]) := fun W h => haz.below h (by omega)
  have HWL : Hid (∀ W, Below Y.heap.size Y W → RdN W.heap.size W (some ⟨g, 0, none⟩) WL) := fun W h => ((hr.below hBY (Nat.le_refl _)).below h (by omega)).mono (by have := h.size; omega)
  have HTY := Lib.hid (hT.below hBY hT.pos)
  have HRS : Hid (∀ W, Below Y.heap.size Y W → RdN W.heap.size W sA sec) := fun W h => ((hrs.below hBY (Nat.le_refl _)).below h (by omega)).mono (by have := h.size; omega)
  have HPO : Hid (1 < Y.heap.size) := by have := hT.pos; unfold Hid; omega
  have HBY := Lib.hid hBY
  have HLE : Hid (w.heap.size ≤ Y.heap.size) := by unfold Hid; omega
  have HLT : Hid (w.heap.size < Y.heap.size) := by unfold Hid; omega
  have B0 := Lib.hid (Below.refl Y.heap.size Y)
  have d0 := (HWL.out _ B0.out).at0 hp0
  have d1 := (HWL.out _ B0.out).at0 hp1
  obtain ⟨pA, hpA⟩ : ∃ pA, (if c = 27 then some (⟨g, 0, none⟩ : Addr) else some ⟨g, 27, none⟩) = pA := ⟨_, rfl⟩
  have HPK : Hid (∀ W, Below Y.heap.size Y W → RdN W.heap.size W pA pk) := fun W h => by
    rw [← hpA]
    split
    · have h0 : pk = [] := List.eq_nil_of_length_eq_zero (by omega)
      rw [h0]
      exact RdN.nil _ _ _
    · have := (HWL.out W h).part 27 pk.length
      rw [ht3, List.take_length, Nat.zero_add] at this
      exact this
  have HHD : Hid (∀ W, Below Y.heap.size Y W → RdN W.heap.size W (some ⟨g, 0, none⟩) HD) := fun W h => by
    have := (HWL.out W h).part 0 11
    rw [ht1] at this
    exact this
  have HFD : Hid (∀ W, Below Y.heap.size Y W → RdN W.heap.size W (some ⟨g, 11, none⟩) FQ) := fun W h => by
    have := (HWL.out W h).part 11 16
    rw [ht2, Nat.zero_add] at this
    exact this
  have x1 : ¬ c < 11 := by omega
  have x2 : ¬ c < 27 := by omega
  have x3 : ¬ c = 11 := by omega
  have x4 : (11 : Int) ≤ (c : Int) := by omega
  have x5 : (27 : Int) ≤ (c : Int) := by omega
  have x6 : (27 : Int) + (pk.length : Int) ≤ (c : Int) := by omega
  have x7 : ¬ c < 27 + pk.length := by omega
  have HO1 := Lib.hid ho
  clear hHD hFP hWL hHl hHb hp0 hp1 ht1 ht2 ht3 hw0 hw1 hw2 hw3 hBY hYs haz hr ho ho2 hT hrs hne hQn hQb hFb hFl hQl
  go_enter Tryd.func22, Tryd.ntmps22
  go_wp2
  go_quiet (fail)
  go_wp2_with (first
    | (go_at_call 48; refine (hU _ (HHD.out _ (below_drewN B0.out _))).mono ?_; rintro e w1 ⟨rfl, hb1⟩; have B1 := Lib.hid ((below_drewN B0.out _).trans hb1); clear hb1)
    | (refine wpList_store_arr rfl 32 (.tmp 10) (.tmp 41) rfl w1.heap.size rfl (vs := [.int .i64 K, .int .i64 l, .int .i64 r, .int .i64 f]) rfl (show Arr _ w1.heap.size 32 [.int .i64 0, .int .i64 0, .int .i64 0, .int .i64 0] from Arr.new w1 32 [.int .i64 0, .int .i64 0, .int .i64 0, .int .i64 0]) sizeO rfl rfl (by simp [Value.oneCell']) ?_; intro W2 A2 B2 hsz2 O2; have BB2 := Lib.hid ((B1.out.alloc B1.out.size _).trans (B2.out.mono B1.out.size)); have LW1 := Lib.hid B1.out.size; clear B2 hsz2 O2)
    | (refine wpList_load_arr rfl 32 (.tmp 10) rfl w1.heap.size rfl A2.out Tryd.underlying32 rfl sizeO rfl ?_)
    | (go_at_call 39; refine (hO W2).mono ?_; rintro e w3 ⟨⟨x, rfl, hx⟩, hb3⟩; obtain rfl : x = true := hx.2 HO1.out; have A3 := Lib.hid (A2.out.below hb3 A2.out.lt); have co := A3.out.cell 0; simp only [List.getElem?_cons_zero] at co; have B3 := Lib.hid (BB2.out.trans (hb3.mono BB2.out.size)); clear hx hb3 A2)
    | (go_at_call 49; refine (hfind w3 (HBY.out.trans (B3.out.mono HLE.out))).mono ?_; rintro e w4 ⟨rfl, hb4⟩; have A4 := Lib.hid (A3.out.below hb4 A3.out.lt); have B4 := Lib.hid (B3.out.trans (hb4.mono B3.out.size)); clear hb4 A3 co)
    | (refine wpList_store_arr rfl 30 (.tmp 11) (.tmp 51) rfl w4.heap.size rfl (vs := [.int .i64 K, .slice sA sec.length sc]) rfl (show Arr _ w4.heap.size 30 [.int .i64 0, .slice none 0 0] from Arr.new w4 30 [.int .i64 0, .slice none 0 0]) sizeK rfl rfl (by simp [Value.oneCell']) ?_; intro W5 A5 B5 hsz5 O5; have A45 := Lib.hid (A4.out.below (((Below.refl w4.heap.size w4).alloc (Nat.le_refl _) _).trans B5.out) A4.out.lt); have BB5 := Lib.hid ((B4.out.alloc B4.out.size _).trans (B5.out.mono B4.out.size)); clear B5 hsz5 O5 A4)
    | (refine wpList_load_arr rfl 30 (.tmp 11) rfl w4.heap.size rfl A5.out Tryd.underlying30 rfl sizeK rfl ?_)
    | (go_at_call 43; refine (hF pA (c - 27) W5 hcm (HRS.out _ BB5.out) (HHD.out _ BB5.out) (HPK.out _ BB5.out) (HTY.out.below BB5.out HPO.out)).mono ?_; rintro e w6 ⟨⟨g6, c6, rfl, hc6, hr6⟩, hb6⟩; have HR6 := Lib.hid hr6; have A6 := Lib.hid (A45.out.below hb6 A45.out.lt); have B6 := Lib.hid (BB5.out.trans (hb6.mono BB5.out.size)); clear hr6 hb6 hc6 A45 A5)
    | (go_at_call 50; refine (hE w6 _ _ _ _ (HFD.out _ B6.out) HR6.out).mono ?_; rintro e w7 ⟨rfl, rfl⟩)
    | (refine wpList_store_arr rfl 32 (.tmp 4) (.tmp 63) rfl w.heap.size rfl (vs := [.int .i64 0, .int .i64 0, .int .i64 0, .int .i64 0]) rfl (HAZ.out _ B6.out) sizeO rfl rfl (by simp [Value.oneCell']) ?_; intro W8 A8 B8 hsz8 O8))
  refine bodyPost_ret (results_cell3 rfl rfl A8.out Tryd.underlying32 rfl sizeO) rfl ?_
  exact ⟨rfl, (HBY.out.trans (B6.out.mono HLE.out)).trans B8.out⟩
end Go.Proofs.YtnhcopleepmcmaaDoor

/-
  OPEN BY ONE KEY, OR BY NONE.
-/
namespace Go.Proofs.YtnhcopleepmcmaaDoor
open Go.RowKit
theorem wrapL_zero (l r f : Nat) (s1 s2 b : List Nat) : wrapL 0 l r f s1 b = wrapL 0 l r f s2 b := by
  unfold wrapL printL
  rw [if_pos (show ((0 : Nat) : Int) = 0 from rfl), if_pos (show ((0 : Nat) : Int) = 0 from rfl)]
theorem RdK.one {n₀ : Nat} {W : World} {G : Nat} {id : Int} {a : Option Addr} {n c : Nat} (h : Arr W G 30 [.int .i64 id, .slice a n c]) (hn : n ≤ 9223372036854775807) (hG : G < n₀) : RdK n₀ W (some ⟨G, 0, none⟩) [⟨id, a, n, c⟩] := fun j kd hj => by
  have hj0 : j = 0 := by have := (List.getElem?_eq_some_iff.1 hj).1; simp at this; omega
  subst hj0
  simp only [List.getElem?_cons_zero, Option.some.injEq] at hj
  subst hj
  exact ⟨hn, G, 0, rfl, hG, h.cell 0, h.cell 1⟩
theorem RdK.below {n₀ : Nat} {W W' : World} {kA : Option Addr} {ks : List KeyD} (h : RdK n₀ W kA ks) (hb : Below n₀ W W') : RdK n₀ W' kA ks := fun j kd hj => by
  obtain ⟨h1, B, off, e, h2, h3, h4⟩ := h j kd hj
  exact ⟨h1, B, off, e, h2, (hb.cell (p := ⟨B, _, none⟩) h2).trans h3, (hb.cell (p := ⟨B, _, none⟩) h2).trans h4⟩
theorem RdK.mono {n₀ n₁ : Nat} {W : World} {kA : Option Addr} {ks : List KeyD} (h : RdK n₀ W kA ks) (hn : n₀ ≤ n₁) : RdK n₁ W kA ks := fun j kd hj => by
  obtain ⟨h1, B, off, e, h2, h3⟩ := h j kd hj
  exact ⟨h1, B, off, e, by omega, h3⟩
theorem find_one (K : Nat) (hK : ¬ (K : Int) = 0) (sA : Option Addr) (n sc : Nat) (hk : okK K n) (kA : Option Addr) (kc : Nat) (w : World) (hr : RdK w.heap.size w kA [⟨K, sA, n, sc⟩]) :
    ∀ W, Below w.heap.size w W → Calls Tryd.prog 49 #[.slice kA 1 kc, .int .i64 K] W fun e w' => e = .returned (.tuple #[.agg #[.int .i64 K, .slice sA n sc], .bool true]) ∧ Below W.heap.size W w' := fun W hW =>
  find_some K hK kA kc [⟨K, sA, n, sc⟩] (by simp) 0 ⟨K, sA, n, sc⟩ rfl ⟨rfl, hk⟩ (fun j' _ h => absurd h (by omega)) W ((hr.below hW).mono hW.size)
theorem find_nil (K : Nat) (hK : ¬ (K : Int) = 0) : ∀ W : World, Calls Tryd.prog 49 #[.slice none 0 0, .int .i64 K] W fun e w' => e = .returned (.tuple #[.agg #[.int .i64 0, .slice none 0 0], .bool false]) ∧ Below W.heap.size W w' := fun W =>
  find_none K hK none 0 [] (by decide) (fun kd h => by cases h) W (fun j kd hj => by simp at hj)
end Go.Proofs.YtnhcopleepmcmaaDoor

/-
  SealBack: the walk of the law.
-/
namespace Go.Proofs.YtnhcopleepmcmaaDoor
open Go.RowKit
theorem row_of_own {w : World} {base g n c : Nat} {l : List Nat} (h : w.ownsRow base 5 1 (.slice (some ⟨g, 0, none⟩) n c) l.length (u8s l)) (hl : 0 < l.length) : ∃ cs : List Value, Arr w g 5 cs ∧ ∀ (j x : Nat), l[j]? = some x → cs[j]? = some (.int .u8 x) := by
  rcases h.2 with ⟨_, h0⟩ | ⟨g', cap, cur, hv, _, hg, _, _, _, ht⟩
  · omega
  · simp only [Value.slice.injEq, Option.some.injEq, Addr.mk.injEq] at hv
    obtain ⟨⟨rfl, _⟩, _⟩ := hv
    refine ⟨cur.toList, by simpa [Arr] using hg, fun j x hx => ?_⟩
    have hj : j < l.length := (List.getElem?_eq_some_iff.1 hx).1
    have h1 : (cur.toList.take (l.length * 1))[j]? = some (.int .u8 x) := by rw [ht]; exact u8s_get hx
    rw [List.getElem?_take, if_pos (by omega)] at h1
    exact h1
theorem set_rd {W : World} {g A x : Nat} {cs : List Value} {l : List Nat} (h : Arr W g 5 cs) (hc : ∀ (j y : Nat), l[j]? = some y → cs[j]? = some (.int .u8 y)) (hA : A < l.length) : RdN (W.setCell ⟨g, A, none⟩ (.int .u8 x)).heap.size (W.setCell ⟨g, A, none⟩ (.int .u8 x)) (some ⟨g, 0, none⟩) (l.set A x) := fun _ => by
  have ha := h.set A (.int .u8 x)
  refine ⟨g, 0, rfl, ha.lt, fun j y hy => ?_⟩
  rw [Nat.zero_add, ha.cell, List.getElem?_set]
  rw [List.getElem?_set] at hy
  by_cases e : A = j
  · subst e
    rw [if_pos rfl, if_pos hA] at hy
    have := (List.getElem?_eq_some_iff.1 (hc A _ (List.getElem?_eq_getElem hA))).1
    rw [if_pos rfl, if_pos this]
    simp at hy; rw [hy]
  · rw [if_neg e] at hy ⊢
    exact hc j y hy
theorem turned {K L R F : Nat} {sec b : List Nat} {m : Nat} (hm : m < 16) : ∃ x FQ, (wrapL K L R F sec b)[11 + m]? = some x ∧ x < 256 ∧ FQ.length = 16 ∧ (∀ y ∈ FQ, y < 256) ∧ FQ ≠ printL K sec (headL K L R F) b ∧ (wrapL K L R F sec b).set (11 + m) (x ^^^ 1) = headL K L R F ++ (FQ ++ b) := by
  obtain ⟨FP, hFP⟩ : ∃ FP, printL K sec (headL K L R F) b = FP := ⟨_, rfl⟩
  have hl : FP.length = 16 := by rw [← hFP]; exact printL_len _ _ _ _
  have hb : ∀ x ∈ FP, x < 256 := by
    rw [← hFP]
    unfold printL
    split
    · intro x hx; rw [(List.mem_replicate.1 hx).2]; decide
    · exact fun x hx => outV_lt _ x (List.mem_of_mem_take hx)
  have hx : FP[m]? = some FP[m] := List.getElem?_eq_getElem (by omega)
  have hx8 : FP[m] < 256 := hb _ (List.getElem_mem _)
  have hv : FP[m] ^^^ 1 < 256 := Nat.xor_lt_two_pow (n := 8) hx8 (by decide)
  refine ⟨FP[m], FP.set m (FP[m] ^^^ 1), ?_, hx8, by rw [List.length_set, hl], fun y hy => ?_, fun e => ?_, ?_⟩
  · unfold wrapL
    rw [hFP, List.getElem?_append_right (by rw [headL_len]; omega), headL_len, show 11 + m - 11 = m by omega, List.getElem?_append_left (by omega), hx]
  · rcases List.mem_or_eq_of_mem_set hy with h | h
    · exact hb y h
    · rw [h]; exact hv
  · rw [hFP] at e
    have h1 : (FP.set m (FP[m] ^^^ 1))[m]? = FP[m]? := by rw [e]
    rw [List.getElem?_set, if_pos rfl, if_pos (by omega), hx] at h1
    have h2 : FP[m] ^^^ 1 = FP[m] := Option.some.inj h1
    have h3 : FP[m] ^^^ (FP[m] ^^^ 1) = FP[m] ^^^ FP[m] := by rw [h2]
    rw [← Nat.xor_assoc, Nat.xor_self, Nat.zero_xor] at h3
    omega
  · unfold wrapL
    rw [hFP, List.set_append_right _ _ (by rw [headL_len]; omega), headL_len, show 11 + m - 11 = m by omega, List.set_append_left _ _ (by omega)]
set_option maxHeartbeats 3200000 in
set_option maxRecDepth 100000 in
theorem back_walk (id : Int) (_ : -9223372036854775808 ≤ id ∧ id ≤ 9223372036854775807) (sA : Option Addr) (sc : Nat) (sec : List Nat) (k l r f : Int) (pA : Option Addr) (pc : Nat) (b : List Nat) (w : World) (hs : InB w sA sec.length sc sec) (hb : InB w pA b.length pc b) (hT : Tabs w) :
    Calls Tryd.prog 9 #[.agg #[.int .i64 id, .slice sA sec.length sc], .agg #[.int .i64 k, .int .i64 l, .int .i64 r, .int .i64 f], .slice pA b.length pc] w fun e w' => e = .returned (.bool true) ∧ Below w.heap.size w w' := by
  obtain ⟨_, hsc, hsm, hsb, hsr⟩ := hs
  obtain ⟨_, hpc, hpm, hpb, hpr⟩ := hb
  have hsl : sec.length ≤ 9223372036854775807 := by unfold maxLen at hsm; omega
  have hbl : b.length ≤ 9223372036854775807 := by unfold maxLen at hpm; omega
  obtain ⟨Y, hY⟩ : ∃ Y, (w.alloc (.cells #[.int .i64 id, .slice sA sec.length sc] 30)).alloc (.cells #[.int .i64 k, .int .i64 l, .int .i64 r, .int .i64 f] 32) = Y := ⟨_, rfl⟩
  have hBY : Below w.heap.size w Y := by rw [← hY]; exact ((Below.refl w.heap.size w).alloc (Nat.le_refl _) _).alloc (by simp) _
  have hYs : Y.heap.size = w.heap.size + 2 := by rw [← hY]; simp
  have hak : Arr Y w.heap.size 30 [.int .i64 id, .slice sA sec.length sc] := by rw [← hY]; exact (Arr.new w 30 [.int .i64 id, .slice sA sec.length sc]).alloc _
  have hao : Arr Y (w.heap.size + 1) 32 [.int .i64 k, .int .i64 l, .int .i64 r, .int .i64 f] := by rw [← hY]; exact Arr.new2 w (.cells #[.int .i64 id, .slice sA sec.length sc] 30) 32 [.int .i64 k, .int .i64 l, .int .i64 r, .int .i64 f]
  have HAK : Hid (∀ W, Below Y.heap.size Y W → Arr W w.heap.size 30 [.int .i64 id, .slice sA sec.length sc]) := fun W h => hak.below h (by omega)
  have HAO : Hid (∀ W, Below Y.heap.size Y W → Arr W (w.heap.size + 1) 32 [.int .i64 k, .int .i64 l, .int .i64 r, .int .i64 f]) := fun W h => hao.below h (by omega)
  have HRS : Hid (∀ W, Below Y.heap.size Y W → RdN W.heap.size W sA sec) := fun W h => ((hsr.below hBY (Nat.le_refl _)).below h (by omega)).mono (by have := h.size; omega)
  have HRP : Hid (∀ W, Below Y.heap.size Y W → RdN W.heap.size W pA b) := fun W h => ((hpr.below hBY (Nat.le_refl _)).below h (by omega)).mono (by have := h.size; omega)
  have hTY := hT.below hBY hT.pos
  have HTY := Lib.hid hTY
  have HPO : Hid (1 < Y.heap.size) := by have := hT.pos; unfold Hid; omega
  have HBY := Lib.hid hBY
  have HLE : Hid (w.heap.size ≤ Y.heap.size) := by unfold Hid; omega
  have haw := awake5_any Y hTY
  clear hBY hYs hak hao hsr hpr hTY hT
  by_cases c1 : 200 < sec.length
  · go_enter Tryd.func9, Tryd.ntmps9
    go_wp2_with (go_at_call 19; refine haw.mono ?_; rintro e w1 ⟨rfl, hb1⟩; have B1 := Lib.hid hb1; have ck1 := (HAK.out _ B1.out).cell 1; simp only [List.getElem?_cons_zero, List.getElem?_cons_succ] at ck1; clear hb1)
    go_ret
    exact ⟨rfl, HBY.out.trans (B1.out.mono HLE.out)⟩
  by_cases c2 : 4100 < b.length
  · go_enter Tryd.func9, Tryd.ntmps9
    go_wp2_with (go_at_call 19; refine haw.mono ?_; rintro e w1 ⟨rfl, hb1⟩; have B1 := Lib.hid hb1; have ck1 := (HAK.out _ B1.out).cell 1; simp only [List.getElem?_cons_zero, List.getElem?_cons_succ] at ck1; clear hb1)
    go_ret
    exact ⟨rfl, HBY.out.trans (B1.out.mono HLE.out)⟩
  by_cases hok : okO k l r f ∧ okW id sec.length k
  · by_cases hbg : 4096 < b.length
    · have hw := fun W => wrap_big id sA sec.length sc (by omega) k l r f hok.1 hok.2 pA b.length pc hbg (by omega) W
      go_enter Tryd.func9, Tryd.ntmps9
      go_wp2_with (first
        | (go_at_call 19; refine haw.mono ?_; rintro e w1 ⟨rfl, hb1⟩; have B1 := Lib.hid hb1; have ck1 := (HAK.out _ B1.out).cell 1; simp only [List.getElem?_cons_zero, List.getElem?_cons_succ] at ck1; clear hb1)
        | (refine wpList_load_arr rfl 30 (.tmp 3) rfl w.heap.size rfl (HAK.out _ B1.out) Tryd.underlying30 rfl sizeK rfl ?_)
        | (refine wpList_load_arr rfl 32 (.tmp 4) rfl (w.heap.size + 1) rfl (HAO.out _ B1.out) Tryd.underlying32 rfl sizeO rfl ?_)
        | (go_at_call 20; refine (hw w1).mono ?_; rintro e w2 ⟨rfl, hb2⟩; have B2 := Lib.hid (B1.out.trans (hb2.mono B1.out.size)); clear hb2))
      go_ret
      exact ⟨rfl, HBY.out.trans (B2.out.mono HLE.out)⟩
    · obtain ⟨ho, hw0⟩ := hok
      obtain ⟨K, rfl⟩ : ∃ K : Nat, k = K := ⟨k.toNat, by unfold okO okIn at ho; omega⟩
      obtain ⟨L, rfl⟩ : ∃ L : Nat, l = L := ⟨l.toNat, by unfold okO okIn at ho; omega⟩
      obtain ⟨R, rfl⟩ : ∃ R : Nat, r = R := ⟨r.toNat, by unfold okO okIn at ho; omega⟩
      obtain ⟨F, rfl⟩ : ∃ F : Nat, f = F := ⟨f.toNat, by unfold okO okIn at ho; omega⟩
      have hw := fun W h1 h2 h3 => wrap_ok id sA sc sec hsb hsc (by omega) K L R F ho hw0 pA pc b hpb (by omega) W h1 h2 h3
      have hWn := wrapL_len K L R F sec b
      obtain ⟨sA', sc', sec', hsb', hsc', hsl', hWe, HRS', hfnd⟩ : ∃ (sA' : Option Addr) (sc' : Nat) (sec' : List Nat), (∀ x ∈ sec', x < 256) ∧ sec'.length ≤ sc' ∧ sec'.length ≤ 1000000 ∧ wrapL K L R F sec b = wrapL K L R F sec' b ∧ Hid (∀ W, Below Y.heap.size Y W → RdN W.heap.size W sA' sec') ∧
          (∀ (kA : Option Addr) (kc : Nat) (W0 : World), RdK W0.heap.size W0 kA [⟨id, sA, sec.length, sc⟩] → ∀ W, Below W0.heap.size W0 W → Calls Tryd.prog 49 #[.slice kA 1 kc, .int .i64 K] W fun e w' => e = .returned (.tuple #[.agg #[.int .i64 K, .slice sA' sec'.length sc'], .bool true]) ∧ Below W.heap.size W w') := by
        by_cases hK : K = 0
        · subst hK
          exact ⟨none, 0, [], by simp, by simp, by simp, wrapL_zero _ _ _ _ _ _, fun W _ => RdN.nil _ _ _, fun kA kc W0 _ W _ => find_zero _ W⟩
        · have hwk : okK id sec.length ∧ id = (K : Int) := (by rcases hw0 with h | h; exact absurd h (by omega); exact h)
          obtain ⟨hk1, rfl⟩ := hwk
          exact ⟨sA, sc, sec, hsb, hsc, by omega, rfl, HRS, fun kA kc W0 hr W hW => find_one K (by omega) sA sec.length sc hk1 kA kc W0 hr W hW⟩
      have hop1 := fun kv W g c h1 h2 h3 h4 h5 h6 => open_gen kv K sA' sc' sec' hsb' hsc' hsl' g c L R F ho b hpb (by omega) W h1 h2 h3 h4 h5 h6
      have hop3 := fun kv FQ hQl hQb hQn W g c h1 h2 h3 h4 h5 h6 => open_bad kv K sA' sc' sec' hsb' hsc' hsl' g c L R F ho b hpb (by omega) FQ hQl hQb hQn W h1 h2 h3 h4 h5 h6
      rw [hWe] at hw hWn
      obtain ⟨r16, hr16⟩ : ∃ r16, b.length % 16 = r16 := ⟨_, rfl⟩
      have hr16l : r16 < 16 := by omega
      obtain ⟨x, FQ, hx, hx8, hQl, hQb, hQn, hset⟩ := turned (K := K) (L := L) (R := R) (F := F) (sec := sec') (b := b) hr16l
      have hop3' := fun kv => hop3 kv FQ hQl hQb hQn
      obtain ⟨WL, hWL⟩ : ∃ WL, wrapL K L R F sec' b = WL := ⟨_, rfl⟩
      rw [hWL] at hw hWn hop1 hx hset
      rw [← hset] at hop3'
      clear hop3
      rw [hWn] at hw
      have HWN := Lib.hid hWn
      have HFN := Lib.hid hfnd
      clear hWe hWn hfnd
      obtain ⟨A, hA⟩ : ∃ A, 11 + r16 = A := ⟨_, rfl⟩
      have HAA := Lib.hid hA
      rw [hA] at hx hset hop3'
      have i1 : (b.length : Int) % 16 = (r16 : Int) := by omega
      have i2 : (b.length : Int).tmod 16 = (r16 : Int) := by rw [Int.tmod_eq_emod_of_nonneg (by omega)]; omega
      have i3 : (11 : Int) + (r16 : Int) = (A : Int) := by omega
      have i4 : A < 27 + b.length := by omega
      have hxor : bits .xor .u8 (x : Int) 1 = ((x ^^^ 1 : Nat) : Int) := u8_xor_nat x 1 hx8 (by decide)
      have HX := Lib.hid hx
      clear hr16 hr16l hx hx8 hQl hQb hQn hset hA
      by_cases hK : K = 0
      · have hkb : ((K : Int) == 0) = true := by rw [hK]; rfl
        have hop2 := fun W g c h1 h2 h3 h5 => open_gen (.slice none 0 0) K none 0 [] (by simp) (by simp) (by simp) g c L R F ho b hpb (by omega) W h1 h2 h3 (RdN.nil _ _ _) h5 (fun W _ => by subst hK; exact find_zero _ W)
        rw [show wrapL K L R F [] b = WL by rw [← hWL]; subst hK; exact wrapL_zero _ _ _ _ _ _] at hop2
        have HKK := Lib.hid hK
        clear hK hWL
        have T1 : True := trivial
        have T2 : True := trivial
        go_enter Tryd.func9, Tryd.ntmps9
        go_wp2_with (first
          | (go_at_call 19; refine haw.mono ?_; rintro e w1 ⟨rfl, hb1⟩; have B1 := Lib.hid hb1; have ck1 := (HAK.out _ B1.out).cell 1; simp only [List.getElem?_cons_zero, List.getElem?_cons_succ] at ck1; clear hb1)
          | (refine wpList_load_arr rfl 30 (.tmp 3) rfl w.heap.size rfl (HAK.out _ B1.out) Tryd.underlying30 rfl sizeK rfl ?_)
          | (refine wpList_load_arr rfl 32 (.tmp 4) rfl (w.heap.size + 1) rfl (HAO.out _ B1.out) Tryd.underlying32 rfl sizeO rfl ?_)
          | (go_at_call 20; refine (hw w1 (HRS.out _ B1.out) (HRP.out _ B1.out) (HTY.out.below B1.out HPO.out)).mono ?_; rintro e w2 ⟨⟨v2, rfl, HO2⟩, hb2⟩; have B2 := Lib.hid (B1.out.trans (hb2.mono B1.out.size)); have ho2 : World.ownsRow w2 w1.heap.size 5 1 v2 WL.length (u8s WL) := (by rw [HWN.out]; exact HO2.out); obtain ⟨g, c, rfl, hc, hcm, hvg, hr2⟩ := own_rd ho2 (by rw [HWN.out]; omega); obtain ⟨cs, hcs, hcl⟩ := row_of_own ho2 (by rw [HWN.out]; omega); have HCS := Lib.hid hcs; have HCL := Lib.hid hcl; have HVG : Hid (Y.heap.size ≤ g) := Nat.le_trans B1.out.size hvg; rw [HWN.out] at hc ⊢; have HCM : Hid (c ≤ 9223372036854775807) := (by unfold Hid; unfold maxLen at hcm; omega); have HRC := Lib.hid (show ∀ W, Below w2.heap.size w2 W → RdN W.heap.size W (some ⟨g, 0, none⟩) WL from fun W h => (hr2.below h (Nat.le_refl _)).mono h.size); have HTB := Lib.hid (show ∀ W, Below w2.heap.size w2 W → Tabs W from fun W h => HTY.out.below (B2.out.trans (h.mono B2.out.size)) HPO.out); have R3 := Lib.hid ((Below.refl w2.heap.size w2).alloc (Nat.le_refl _) (.cells #[.int .i64 id, .slice sA sec.length sc] 30)); have hK3 := Lib.hid (RdK.one (n₀ := (w2.alloc (.cells #[.int .i64 id, .slice sA sec.length sc] 30)).heap.size) (Arr.new w2 30 [.int .i64 id, .slice sA sec.length sc]) (by omega) (by simp)); clear hb2 HO2 ho2 hr2 hcm hcs hcl hvg ck1)
          | (refine wpList_load_arr rfl 30 (.tmp 3) rfl w.heap.size rfl (HAK.out _ B2.out) Tryd.underlying30 rfl sizeK rfl ?_)
          | (go_at_call 22; have tt := T1; clear T1 tt; refine (hop1 (.slice (some ⟨w2.heap.size, 0, none⟩) 1 1) (w2.alloc (.cells #[.int .i64 id, .slice sA sec.length sc] 30)) g c hc HCM.out (HRC.out _ R3.out) (HRS'.out _ (B2.out.trans (R3.out.mono B2.out.size))) (HTB.out _ R3.out) (HFN.out _ 1 _ hK3.out)).mono ?_; rintro e w4 ⟨⟨v4, rfl, HO4⟩, hb4⟩; obtain ⟨ad4, c4, rfl, hc4, hr4⟩ := own_rd0 HO4.out rfl; have R4 := Lib.hid (R3.out.trans (hb4.mono (by simp))); have HR4 := Lib.hid hr4; clear hb4 HO4 hr4 hK3 R3)
          | (refine wpList_store_arr rfl 32 (.tmp 10) (.tmp 52) rfl w4.heap.size rfl (vs := [.int .i64 K, .int .i64 L, .int .i64 R, .int .i64 F]) rfl (show Arr _ w4.heap.size 32 [.int .i64 0, .int .i64 0, .int .i64 0, .int .i64 0] from Arr.new w4 32 [.int .i64 0, .int .i64 0, .int .i64 0, .int .i64 0]) sizeO rfl rfl (by simp [Value.oneCell']) ?_; intro W5 A5 B5 hsz5 O5; have K5 := Lib.hid (((Below.refl w4.heap.size w4).alloc (Nat.le_refl _) _).trans B5.out); have R5 := Lib.hid (R4.out.trans (K5.out.mono R4.out.size)); have HR45 := Lib.hid ((HR4.out.below K5.out (Nat.le_refl _)).mono K5.out.size); clear B5 hsz5 O5 HR4 K5)
          | (go_at_call 22; have tt := T2; clear T2 tt; refine (hop2 W5 g c hc HCM.out (HRC.out _ R5.out) (HTB.out _ R5.out)).mono ?_; rintro e w6 ⟨⟨v6, rfl, HO6⟩, hb6⟩; obtain ⟨ad6, c6, rfl, _, _⟩ := own_rd0 HO6.out rfl; have R6 := Lib.hid (R5.out.trans (hb6.mono R5.out.size)); have A6 := Lib.hid (A5.out.below hb6 A5.out.lt); have HR46 := Lib.hid ((HR45.out.below hb6 (Nat.le_refl _)).mono hb6.size); clear hb6 HO6 A5 HR45)
          | (refine wpList_store_arr rfl 32 (.tmp 13) (.tmp 58) rfl w6.heap.size rfl (vs := [.int .i64 K, .int .i64 L, .int .i64 R, .int .i64 F]) rfl (show Arr _ w6.heap.size 32 [.int .i64 0, .int .i64 0, .int .i64 0, .int .i64 0] from Arr.new w6 32 [.int .i64 0, .int .i64 0, .int .i64 0, .int .i64 0]) sizeO rfl rfl (by simp [Value.oneCell']) ?_; intro W7 A7 B7 hsz7 O7; have K7 := Lib.hid (((Below.refl w6.heap.size w6).alloc (Nat.le_refl _) _).trans B7.out); have R7 := Lib.hid (R6.out.trans (K7.out.mono R6.out.size)); have A67 := A6.out.below K7.out A6.out.lt; have p0 := A67.cell 0; have p1 := A67.cell 1; have p2 := A67.cell 2; have p3 := A67.cell 3; have AO7 := HAO.out _ (B2.out.trans (R7.out.mono B2.out.size)); have t0 := AO7.cell 0; have t1 := AO7.cell 1; have t2 := AO7.cell 2; have t3 := AO7.cell 3; simp only [List.getElem?_cons_zero, List.getElem?_cons_succ] at p0 p1 p2 p3 t0 t1 t2 t3; have v1 := conv_rdE ((HR46.out.below K7.out (Nat.le_refl _)).mono K7.out.size) rfl c4; have v2 := conv_rdE (HRP.out _ (B2.out.trans (R7.out.mono B2.out.size))) rfl pc; have AC7 := HCS.out.below R7.out HCS.out.lt; have hcx := (AC7.cell A).trans (HCL.out A x HX.out); have hfz := AC7.frozen A; have HRV := Lib.hid (set_rd (x := x ^^^ 1) AC7 HCL.out (by rw [HWN.out]; exact i4)); have BV := Lib.hid ((B2.out.trans (R7.out.mono B2.out.size)).setCell (p := ⟨g, A, none⟩) HVG.out (.int .u8 ((x ^^^ 1 : Nat) : Int))); clear B7 hsz7 O7 HR46 A6 K7 A67 AO7 A7 AC7)
          | (refine wpList_load_arr rfl 30 (.tmp 3) rfl w.heap.size rfl (HAK.out _ BV.out) Tryd.underlying30 rfl sizeK rfl ?_)
          | (go_at_call 22; have hz : (W7.setCell ⟨g, A, none⟩ (.int .u8 ((x ^^^ 1 : Nat) : Int))).heap.size = W7.heap.size := (by simp); have hK8 := RdK.one (n₀ := ((W7.setCell ⟨g, A, none⟩ (.int .u8 ((x ^^^ 1 : Nat) : Int))).alloc (.cells #[.int .i64 id, .slice sA sec.length sc] 30)).heap.size) (Arr.new (W7.setCell ⟨g, A, none⟩ (.int .u8 ((x ^^^ 1 : Nat) : Int))) 30 [.int .i64 id, .slice sA sec.length sc]) (by omega) (by simp); rw [hz] at hK8; have R8 := Lib.hid ((Below.refl (W7.setCell ⟨g, A, none⟩ (.int .u8 ((x ^^^ 1 : Nat) : Int))).heap.size (W7.setCell ⟨g, A, none⟩ (.int .u8 ((x ^^^ 1 : Nat) : Int)))).alloc (Nat.le_refl _) (.cells #[.int .i64 id, .slice sA sec.length sc] 30)); have hB8 := BV.out.trans (R8.out.mono BV.out.size); refine (hop3' (.slice (some ⟨W7.heap.size, 0, none⟩) 1 1) ((W7.setCell ⟨g, A, none⟩ (.int .u8 ((x ^^^ 1 : Nat) : Int))).alloc (.cells #[.int .i64 id, .slice sA sec.length sc] 30)) g c hc HCM.out ((HRV.out.below R8.out (Nat.le_refl _)).mono R8.out.size) (HRS'.out _ hB8) (HTY.out.below hB8 HPO.out) (HFN.out _ 1 _ hK8)).mono ?_; rintro e w8 ⟨rfl, hb8⟩; have B8 := Lib.hid (hB8.trans (hb8.mono hB8.size)); clear hb8 hB8 hK8 hz R8)
          | (refine wpList_store_arr rfl 32 (.tmp 17) (.tmp 98) rfl w8.heap.size rfl (vs := [.int .i64 0, .int .i64 0, .int .i64 0, .int .i64 0]) rfl (show Arr _ w8.heap.size 32 [.int .i64 0, .int .i64 0, .int .i64 0, .int .i64 0] from Arr.new w8 32 [.int .i64 0, .int .i64 0, .int .i64 0, .int .i64 0]) sizeO rfl rfl (by simp [Value.oneCell']) ?_; intro W9 A9 B9 hsz9 O9; have BF := Lib.hid ((B8.out.alloc B8.out.size _).trans (B9.out.mono B8.out.size)); clear A9 B9 hsz9 O9))
        go_ret
        exact ⟨rfl, HBY.out.trans (BF.out.mono HLE.out)⟩
      · have hkb : ((K : Int) == 0) = false := by simpa using hK
        have hop2 := fun W g c h1 h3 => open_none (.slice none 0 0) K sec' g c L R F ho b (by omega) W h1 h3 (fun W _ => find_nil K (by omega) W)
        rw [hWL] at hop2
        clear hWL
        have T1 : True := trivial
        have T2 : True := trivial
        go_enter Tryd.func9, Tryd.ntmps9
        go_wp2_with (first
          | (go_at_call 19; refine haw.mono ?_; rintro e w1 ⟨rfl, hb1⟩; have B1 := Lib.hid hb1; have ck1 := (HAK.out _ B1.out).cell 1; simp only [List.getElem?_cons_zero, List.getElem?_cons_succ] at ck1; clear hb1)
          | (refine wpList_load_arr rfl 30 (.tmp 3) rfl w.heap.size rfl (HAK.out _ B1.out) Tryd.underlying30 rfl sizeK rfl ?_)
          | (refine wpList_load_arr rfl 32 (.tmp 4) rfl (w.heap.size + 1) rfl (HAO.out _ B1.out) Tryd.underlying32 rfl sizeO rfl ?_)
          | (go_at_call 20; refine (hw w1 (HRS.out _ B1.out) (HRP.out _ B1.out) (HTY.out.below B1.out HPO.out)).mono ?_; rintro e w2 ⟨⟨v2, rfl, HO2⟩, hb2⟩; have B2 := Lib.hid (B1.out.trans (hb2.mono B1.out.size)); have ho2 : World.ownsRow w2 w1.heap.size 5 1 v2 WL.length (u8s WL) := (by rw [HWN.out]; exact HO2.out); obtain ⟨g, c, rfl, hc, hcm, hvg, hr2⟩ := own_rd ho2 (by rw [HWN.out]; omega); obtain ⟨cs, hcs, hcl⟩ := row_of_own ho2 (by rw [HWN.out]; omega); have HCS := Lib.hid hcs; have HCL := Lib.hid hcl; have HVG : Hid (Y.heap.size ≤ g) := Nat.le_trans B1.out.size hvg; rw [HWN.out] at hc ⊢; have HCM : Hid (c ≤ 9223372036854775807) := (by unfold Hid; unfold maxLen at hcm; omega); have HRC := Lib.hid (show ∀ W, Below w2.heap.size w2 W → RdN W.heap.size W (some ⟨g, 0, none⟩) WL from fun W h => (hr2.below h (Nat.le_refl _)).mono h.size); have HTB := Lib.hid (show ∀ W, Below w2.heap.size w2 W → Tabs W from fun W h => HTY.out.below (B2.out.trans (h.mono B2.out.size)) HPO.out); have R3 := Lib.hid ((Below.refl w2.heap.size w2).alloc (Nat.le_refl _) (.cells #[.int .i64 id, .slice sA sec.length sc] 30)); have hK3 := Lib.hid (RdK.one (n₀ := (w2.alloc (.cells #[.int .i64 id, .slice sA sec.length sc] 30)).heap.size) (Arr.new w2 30 [.int .i64 id, .slice sA sec.length sc]) (by omega) (by simp)); clear hb2 HO2 ho2 hr2 hcm hcs hcl hvg ck1)
          | (refine wpList_load_arr rfl 30 (.tmp 3) rfl w.heap.size rfl (HAK.out _ B2.out) Tryd.underlying30 rfl sizeK rfl ?_)
          | (go_at_call 22; have tt := T1; clear T1 tt; refine (hop1 (.slice (some ⟨w2.heap.size, 0, none⟩) 1 1) (w2.alloc (.cells #[.int .i64 id, .slice sA sec.length sc] 30)) g c hc HCM.out (HRC.out _ R3.out) (HRS'.out _ (B2.out.trans (R3.out.mono B2.out.size))) (HTB.out _ R3.out) (HFN.out _ 1 _ hK3.out)).mono ?_; rintro e w4 ⟨⟨v4, rfl, HO4⟩, hb4⟩; obtain ⟨ad4, c4, rfl, hc4, hr4⟩ := own_rd0 HO4.out rfl; have R4 := Lib.hid (R3.out.trans (hb4.mono (by simp))); have HR4 := Lib.hid hr4; clear hb4 HO4 hr4 hK3 R3)
          | (refine wpList_store_arr rfl 32 (.tmp 10) (.tmp 52) rfl w4.heap.size rfl (vs := [.int .i64 K, .int .i64 L, .int .i64 R, .int .i64 F]) rfl (show Arr _ w4.heap.size 32 [.int .i64 0, .int .i64 0, .int .i64 0, .int .i64 0] from Arr.new w4 32 [.int .i64 0, .int .i64 0, .int .i64 0, .int .i64 0]) sizeO rfl rfl (by simp [Value.oneCell']) ?_; intro W5 A5 B5 hsz5 O5; have K5 := Lib.hid (((Below.refl w4.heap.size w4).alloc (Nat.le_refl _) _).trans B5.out); have R5 := Lib.hid (R4.out.trans (K5.out.mono R4.out.size)); have HR45 := Lib.hid ((HR4.out.below K5.out (Nat.le_refl _)).mono K5.out.size); clear B5 hsz5 O5 HR4 K5)
          | (go_at_call 22; have tt := T2; clear T2 tt; refine (hop2 W5 g c hc (HRC.out _ R5.out)).mono ?_; rintro e w6 ⟨rfl, hb6⟩; have R6 := Lib.hid (R5.out.trans (hb6.mono R5.out.size)); have A6 := Lib.hid (A5.out.below hb6 A5.out.lt); have HR46 := Lib.hid ((HR45.out.below hb6 (Nat.le_refl _)).mono hb6.size); clear hb6 A5 HR45)
          | (refine wpList_store_arr rfl 32 (.tmp 13) (.tmp 58) rfl w6.heap.size rfl (vs := [.int .i64 0, .int .i64 0, .int .i64 0, .int .i64 0]) rfl (show Arr _ w6.heap.size 32 [.int .i64 0, .int .i64 0, .int .i64 0, .int .i64 0] from Arr.new w6 32 [.int .i64 0, .int .i64 0, .int .i64 0, .int .i64 0]) sizeO rfl rfl (by simp [Value.oneCell']) ?_; intro W7 A7 B7 hsz7 O7; have K7 := Lib.hid (((Below.refl w6.heap.size w6).alloc (Nat.le_refl _) _).trans B7.out); have R7 := Lib.hid (R6.out.trans (K7.out.mono R6.out.size)); have A67 := A6.out.below K7.out A6.out.lt; have p0 := A67.cell 0; have p1 := A67.cell 1; have p2 := A67.cell 2; have p3 := A67.cell 3; have AO7 := HAO.out _ (B2.out.trans (R7.out.mono B2.out.size)); have t0 := AO7.cell 0; have t1 := AO7.cell 1; have t2 := AO7.cell 2; have t3 := AO7.cell 3; simp only [List.getElem?_cons_zero, List.getElem?_cons_succ] at p0 p1 p2 p3 t0 t1 t2 t3; have v1 := conv_rdE ((HR46.out.below K7.out (Nat.le_refl _)).mono K7.out.size) rfl c4; have v2 := conv_rdE (HRP.out _ (B2.out.trans (R7.out.mono B2.out.size))) rfl pc; have AC7 := HCS.out.below R7.out HCS.out.lt; have hcx := (AC7.cell A).trans (HCL.out A x HX.out); have hfz := AC7.frozen A; have HRV := Lib.hid (set_rd (x := x ^^^ 1) AC7 HCL.out (by rw [HWN.out]; exact i4)); have BV := Lib.hid ((B2.out.trans (R7.out.mono B2.out.size)).setCell (p := ⟨g, A, none⟩) HVG.out (.int .u8 ((x ^^^ 1 : Nat) : Int))); clear B7 hsz7 O7 HR46 A6 K7 A67 AO7 A7 AC7)
          | (refine wpList_load_arr rfl 30 (.tmp 3) rfl w.heap.size rfl (HAK.out _ BV.out) Tryd.underlying30 rfl sizeK rfl ?_)
          | (go_at_call 22; have hz : (W7.setCell ⟨g, A, none⟩ (.int .u8 ((x ^^^ 1 : Nat) : Int))).heap.size = W7.heap.size := (by simp); have hK8 := RdK.one (n₀ := ((W7.setCell ⟨g, A, none⟩ (.int .u8 ((x ^^^ 1 : Nat) : Int))).alloc (.cells #[.int .i64 id, .slice sA sec.length sc] 30)).heap.size) (Arr.new (W7.setCell ⟨g, A, none⟩ (.int .u8 ((x ^^^ 1 : Nat) : Int))) 30 [.int .i64 id, .slice sA sec.length sc]) (by omega) (by simp); rw [hz] at hK8; have R8 := Lib.hid ((Below.refl (W7.setCell ⟨g, A, none⟩ (.int .u8 ((x ^^^ 1 : Nat) : Int))).heap.size (W7.setCell ⟨g, A, none⟩ (.int .u8 ((x ^^^ 1 : Nat) : Int)))).alloc (Nat.le_refl _) (.cells #[.int .i64 id, .slice sA sec.length sc] 30)); have hB8 := BV.out.trans (R8.out.mono BV.out.size); refine (hop3' (.slice (some ⟨W7.heap.size, 0, none⟩) 1 1) ((W7.setCell ⟨g, A, none⟩ (.int .u8 ((x ^^^ 1 : Nat) : Int))).alloc (.cells #[.int .i64 id, .slice sA sec.length sc] 30)) g c hc HCM.out ((HRV.out.below R8.out (Nat.le_refl _)).mono R8.out.size) (HRS'.out _ hB8) (HTY.out.below hB8 HPO.out) (HFN.out _ 1 _ hK8)).mono ?_; rintro e w8 ⟨rfl, hb8⟩; have B8 := Lib.hid (hB8.trans (hb8.mono hB8.size)); clear hb8 hB8 hK8 hz R8)
          | (refine wpList_store_arr rfl 32 (.tmp 17) (.tmp 98) rfl w8.heap.size rfl (vs := [.int .i64 0, .int .i64 0, .int .i64 0, .int .i64 0]) rfl (show Arr _ w8.heap.size 32 [.int .i64 0, .int .i64 0, .int .i64 0, .int .i64 0] from Arr.new w8 32 [.int .i64 0, .int .i64 0, .int .i64 0, .int .i64 0]) sizeO rfl rfl (by simp [Value.oneCell']) ?_; intro W9 A9 B9 hsz9 O9; have BF := Lib.hid ((B8.out.alloc B8.out.size _).trans (B9.out.mono B8.out.size)); clear A9 B9 hsz9 O9))
        go_ret
        exact ⟨rfl, HBY.out.trans (BF.out.mono HLE.out)⟩
  · have hw := fun W => wrap_bad id sA sec.length sc (by omega) k l r f hok (.slice pA b.length pc) W
    go_enter Tryd.func9, Tryd.ntmps9
    go_wp2_with (first
      | (go_at_call 19; refine haw.mono ?_; rintro e w1 ⟨rfl, hb1⟩; have B1 := Lib.hid hb1; have ck1 := (HAK.out _ B1.out).cell 1; simp only [List.getElem?_cons_zero, List.getElem?_cons_succ] at ck1; clear hb1)
      | (refine wpList_load_arr rfl 30 (.tmp 3) rfl w.heap.size rfl (HAK.out _ B1.out) Tryd.underlying30 rfl sizeK rfl ?_)
      | (refine wpList_load_arr rfl 32 (.tmp 4) rfl (w.heap.size + 1) rfl (HAO.out _ B1.out) Tryd.underlying32 rfl sizeO rfl ?_)
      | (go_at_call 20; refine (hw w1).mono ?_; rintro e w2 ⟨rfl, hb2⟩; have B2 := Lib.hid (B1.out.trans (hb2.mono B1.out.size)); clear hb2))
    go_ret
    exact ⟨rfl, HBY.out.trans (B2.out.mono HLE.out)⟩
end Go.Proofs.YtnhcopleepmcmaaDoor

namespace Go.Proofs.YtnhcopleepmcmaaDoor.sealBack
open Go.ChangeShapes Go.WideShapes Go.ChangeAt Go.RowKit
set_option linter.unusedVariables false

theorem own : ownKnob Tryd.prog.godebug = none := by kernel_rfl
theorem laidOut : laidOutB Tryd.prog = true := by kernel_rfl

set_option maxRecDepth 100000 in
theorem lifted (os : Os) (started : os.Started) (H : Type) (enc : TypeId × Value → H) :
    ReturnsInHanded {} Tryd.checked os 9 .any (fun w args => (Rows.sealBackSpec.pre enc Tryd.prog Tryd.f9 [] false w args ∧ laidMetH Tryd.prog [("selvage/sha.start", Rows.laid_selvage_sha_start), ("selvage/sha.k", Rows.laid_selvage_sha_k)] w) ∧ sizedMet enc Tryd.prog Tryd.f9 (OpenSpec.ofChange Rows.sealBackSpec) false w args)
      (Rows.sealBackSpec.post enc Tryd.prog Tryd.f9 false true false false) := by
  refine returnsInHanded_of_change_and (C := Tryd.checked) (X := fun w _ => laidMetH Tryd.prog [("selvage/sha.start", Rows.laid_selvage_sha_start), ("selvage/sha.k", Rows.laid_selvage_sha_k)] w) (fun _ _ _ hh h => h.of_heap hh) own started (by kernel_rfl) Tryd.func9
    (ChangeSpec.witness_shaped (enc := enc) (C := Tryd.checked) (os := os) (X := fun w _ => laidMetH Tryd.prog [("selvage/sha.start", Rows.laid_selvage_sha_start), ("selvage/sha.k", Rows.laid_selvage_sha_k)] w) false (World.doorLaid Tryd.prog 400 os) #[.agg #[.int .i64 0, .slice none 0 0], .agg #[.int .i64 0, .int .i64 0, .int .i64 0, .int .i64 0], .slice none 0 0] 8 rfl (World.shaped_of_RefB (by kernel_rfl) (by kernel_rfl)) (by kernel_rfl) (by kernel_rfl) (by kernel_rfl) (door_met os _)) ?_
  intro W base args ds gs before hval0 hW _ hsz0 hL _
  have hval : ∀ (j : Nat) t v, Tryd.f9.params[j]? = some t → args[j]? = some v → Value.okWide Tryd.prog W .any base t v := hval0
  have hW' := hW
  obtain ⟨p, q, hA0, hV, rfl, hfz, hnd⟩ := hW
  have hA : DataW.TrodAll enc Tryd.prog W 0 (fun _ => true) true Tryd.f9.params.toList args.toList ds p := hA0
  rw [Tryd.params9] at hA hval
  obtain ⟨v0, vs0, d0, ds0, p0, q0, hargs, rfl, rfl, h0, r0⟩ := trodAll_cons hA
  obtain ⟨v1, vs1, d1, ds1, p1, q1, rfl, rfl, rfl, h1, r1⟩ := trodAll_cons r0
  obtain ⟨v2, vs2, d2, ds2, p2, q2, rfl, rfl, rfl, h2, r2⟩ := trodAll_cons r1
  obtain ⟨rfl, rfl, rfl⟩ := trodAll_nil r2
  obtain rfl : args = #[v0, v1, v2] := by cases args; simp_all
  obtain ⟨rfl, rfl⟩ := trodVars_none hV
  obtain ⟨cs0, rfl, _⟩ := okWide_struct Tryd.underlying30 (hval 0 30 v0 rfl rfl)
  have k0 := h0
  have lt0 : ∀ x ∈ p0, x.block < W.heap.size := by obtain ⟨m, hm⟩ := k0; exact DataW.trod_lt m _ _ _ hm
  obtain ⟨id0, sA0, sc0, sec0, rfl, bd0, w0⟩ := key_of h0
  obtain ⟨cs1, rfl, _⟩ := okWide_struct Tryd.underlying32 (hval 1 32 v1 rfl rfl)
  have k1 := h1
  have lt1 : ∀ x ∈ p1, x.block < W.heap.size := by obtain ⟨m, hm⟩ := k1; exact DataW.trod_lt m _ _ _ hm
  obtain ⟨k1k, k1l, k1r, k1f, rfl⟩ := outer_of h1
  obtain ⟨a2, len2, cap2, rfl⟩ := okWide_slice Tryd.underlying22 (hval 2 22 v2 rfl rfl)
  have k2 := h2
  have lt2 : ∀ x ∈ p2, x.block < W.heap.size := by obtain ⟨m, hm⟩ := k2; exact DataW.trod_lt m _ _ _ hm
  obtain ⟨z2, w2⟩ : ∃ b, InB W a2 len2 cap2 b := by obtain ⟨fuel, hf⟩ := h2; exact inB_of hf
  obtain rfl : z2.length = len2 := w2.1
  clear hA0 hval0
  refine (back_walk id0 bd0 sA0 sc0 sec0 k1k k1l k1r k1f a2 cap2 z2 W w0 w2 (tabs_of hL)).mono fun e W' ⟨he, bel⟩ => ?_
  subst he
  exact ⟨_, rfl, _, _, _, [], _, [], hW', trodAll_mk1 (shut_bool Tryd.underlying4 _), (trodAll_cons_mk (Below.trod laidOut (by kernel_rfl) (of_decide_eq_true (by kernel_rfl)) k0 bel lt0) (trodAll_cons_mk (Below.trod laidOut (by kernel_rfl) (of_decide_eq_true (by kernel_rfl)) k1 bel lt1) (trodAll_cons_mk (Below.trod laidOut (by kernel_rfl) (of_decide_eq_true (by kernel_rfl)) k2 bel lt2) trodAll_mk0))), rfl, bel.frame _, fun h => by cases h⟩

theorem over : Rows.sealBackRow.holds Tryd.pinned (OpenSpec.ofChange Rows.sealBackSpec) :=
  OpenClaim.holds_of_wide 9 Tryd.f9 rfl rfl rfl rfl rfl rfl rfl ⟨rfl, rfl, rfl, rfl, rfl⟩ rfl rfl rfl rfl rfl (by kernel_rfl) Tryd.func9 (by kernel_rfl)
    (of_decide_eq_true (by kernel_rfl)) (by unfold Func.isWrapper; first | (rw [if_pos (by decide +kernel)]; kernel_rfl) | (rw [if_neg (by decide +kernel)]; exact ⟨rfl, rfl⟩))
    (fun os started H enc _ => lifted os started H enc)

theorem proved : Rows.SealBackCardSaid :=
  Claim7.holds_tied_plain_at .later [] [.data, .data] true _ false
    over (fun _ h => by cases h) (by kernel_rfl) (fun _ h => by cases h) sealBack_row_tie rfl ⟨rfl, rfl⟩ (by kernel_rfl) rfl
    (fun f fn hf hfn => by
      obtain rfl : f = 9 := Option.some.inj ((show Tryd.prog.funcNamed "selvage/selvagelaw05.SealBack" = some 9 by kernel_rfl).symm.trans hf) |>.symm
      obtain rfl : fn = Tryd.f9 := (Option.some.inj (Tryd.func9.symm.trans hfn)).symm
      exact ⟨by kernel_rfl, fun j t ht => by
        rw [Tryd.params9] at ht
        have hm : t ∈ [30, 32, 22] := by simpa using Array.mem_of_getElem? ht
        have hall : ([30, 32, 22].all fun u => !Tryd.prog.wantsStandIn u) = true := by kernel_rfl
        exact (show Tryd.prog.wantsStandIn t = false by simpa using List.all_eq_true.1 hall t hm)⟩)
    (by kernel_rfl)
#print axioms proved
end Go.Proofs.YtnhcopleepmcmaaDoor.sealBack
