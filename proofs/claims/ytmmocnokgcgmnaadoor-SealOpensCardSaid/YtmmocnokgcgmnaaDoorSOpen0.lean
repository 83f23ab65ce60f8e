/-
  AN ENVELOPE WITHOUT A KEY IS OPENED: the program's Open.
-/
import Derived.Test.YtmmocnokgcgmnaaDoorSNum
import Derived.Deep.AppendLies
namespace Go.Proofs.YtmmocnokgcgmnaaDoor
open Go.RowKit
theorem results_cell2 {P : Program} {fn : Func} {tmps : Array Value} {w : World} {a t s g : Nat} {vs : List Value} {d : TypeDesc} {T : TypeId} (hf : fn.results = #[.cell a t, .tmp s]) (ha : tmps.getD a undef = .pointer (some ⟨g, 0, none⟩)) (hc : Arr w g T vs)
    (hu : P.underlying t = some d) (hd : d.isRow = true) (hi : (P.info? t).map (·.size) = some vs.length) : (results fn tmps).run P w = .ok (.tuple #[.agg vs.toArray, tmps.getD s undef]) w := by
  unfold results
  rw [hf]
  have h0 := run_loadVar_mid w g 0 t vs d hc.range hu hd hi
  have ha' : tmps[a]?.getD undef = .pointer (some ⟨g, 0, none⟩) := by simpa using ha
  simp [ha', asAddr, h0, Result.andThen_ok]
theorem results_cell3 {P : Program} {fn : Func} {tmps : Array Value} {w : World} {a t s u g : Nat} {vs : List Value} {d : TypeDesc} {T : TypeId} (hf : fn.results = #[.cell a t, .tmp s, .tmp u]) (ha : tmps.getD a undef = .pointer (some ⟨g, 0, none⟩)) (hc : Arr w g T vs)
    (hu : P.underlying t = some d) (hd : d.isRow = true) (hi : (P.info? t).map (·.size) = some vs.length) : (results fn tmps).run P w = .ok (.tuple #[.agg vs.toArray, tmps.getD s undef, tmps.getD u undef]) w := by
  unfold results
  rw [hf]
  have h0 := run_loadVar_mid w g 0 t vs d hc.range hu hd hi
  have ha' : tmps[a]?.getD undef = .pointer (some ⟨g, 0, none⟩) := by simpa using ha
  simp [ha', asAddr, h0, Result.andThen_ok]
theorem step_of {P : Program} {w : World} {ops : Array Oper} {o : Oper} {a : Act} {K : Act → World → Prop} {Q : Exit → Act → World → Prop} {E : Prop} (hgd : o.guard = none) (h : Oper.wp P o a w K Q) : if Region.wanted o (yielded ops a.tmps) = true then Oper.wp P o a w K Q else E := by
  rw [if_pos (by simp [Region.wanted, hgd])]; exact h
theorem own_row_other {w : World} {g base n : Nat} {v : Value} {xs : List Value} {cells : Array Value} (h : w.ownsRow base 5 1 v n xs) (hg : g < base) : (w.setRow g cells).ownsRow base 5 1 v n xs :=
  h.kept (row := some g) ⟨rfl, rfl, rfl, by simp [World.setRow], fun k _ hne => setRow_other w g k _ (fun e => hne (by rw [e]))⟩ (by
    cases hb : v.ownBlock with
    | none => exact .inl rfl
    | some k =>
      right
      intro e
      have := (h.lt k hb).1
      cases e
      omega)
/-- Bytes put behind nothing, at a step of a region that draws. -/
theorem step_append_nil {w : World} {ops : Array Oper} {o : Oper} {a : Act} {K : Act → World → Prop} {Q : Exit → Act → World → Prop} {E : Prop} {i0 : TypeInfo} (hi : Tryd.prog.info? 5 = some i0) (hz0 : i0.zero = some (.int .u8 0)) (hz1 : i0.size = 1) (hz2 : i0.bytes = 1) (hgd : o.guard = none) (s x : Operand)
    (ho : o.op = .call { callee := .builtin .append, args := #[s, x], argTypes := #[23, 23] }) (hs : a.eval s = .slice none 0 0)
    {m c : Nat} {ad : Option Addr} {bs : List Nat} (hx : a.eval x = .slice ad m c) (hm : bs.length = m) (hr : RdN w.heap.size w ad bs) (hlen : bs.length ≤ 100000)
    (h : ∀ v' w', Hid (w'.ownsRow w.heap.size 5 1 v' bs.length (u8s bs)) → Hid (Below w.heap.size w w') → K (a.put o.dst v') w') : if Region.wanted o (yielded ops a.tmps) = true then Oper.wp Tryd.prog o a w K Q else E := by
  have hw : Region.wanted o (yielded ops a.tmps) = true := by simp [Region.wanted, hgd]
  rw [if_pos hw]
  have own0 : w.ownsRow w.heap.size 5 1 (.slice none 0 0) 0 (u8s []) := World.ownsRow_nil _ _ _ _
  subst hm
  by_cases h0 : bs = []
  · subst h0
    unfold Oper.wp
    cases ad with
    | none =>
      have hrun := run_append_nil0 (P := Tryd.prog) (w := w) w.heap.size 23 o.type 5 i0 1 Tryd.underlying23 hi own0 c
      simp only [List.length_nil] at hx
      simp [execOp, ho, resolve, invoke, builtin, hs, hx, hrun, Result.andThen]
      exact h _ w own0 (Below.refl _ _)
    | some ad' =>
      have hrun : (Builtin.append_ #[23, 23] o.type #[.slice none 0 0, .slice (some ad') ([] : List Nat).length c]).run Tryd.prog w = .ok (.slice none 0 0) w := by simp [Builtin.append_, run_underlying Tryd.underlying23, sizeOf, typeInfo, hi, Builtin.lenOf, Builtin.firstCells, loadCells, loadCellsFrom]
      simp only [List.length_nil] at hx hrun
      simp [execOp, ho, resolve, invoke, builtin, hs, hx, hrun, Result.andThen]
      exact h _ w own0 (Below.refl _ _)
  · have hp := List.length_pos_iff.2 h0
    obtain ⟨bb, oo, rfl, _, hcc⟩ := hr hp
    refine wp_append_lies w s x 23 ho w.heap.size 5 i0 (.int .u8 0) 1 1 Tryd.underlying23 hi hz0 hz1 hz2 rfl (by decide) (.slice none 0 0) 0 [] hs own0 ⟨bb, oo, none⟩ bs.length c (u8s bs) hx (by rw [u8s_len, Nat.mul_one]) (fun j u hu => ?_) u8s_mem hp (by unfold maxLen; omega) (by omega) (Nat.le_refl _) _ rfl ?_
    · have hj' : (bs[j]?).map (fun n : Nat => Value.int .u8 (n : Int)) = some u := by rw [← hu]; simp [u8s]
      cases hx2 : bs[j]? with
      | none => rw [hx2] at hj'; cases hj'
      | some y =>
        rw [hx2] at hj'
        cases hj'
        rw [show (⟨bb, oo, none⟩ : Addr).add j = ⟨bb, oo + j, none⟩ by unfold Addr.add; split <;> simp_all]
        exact hcc j y hx2
    · intro g cap w' h2 h3 _ _
      refine h _ w' ?_ ((Below.refl w.heap.size w).grown h3 (Nat.le_refl _) (fun k hk => by cases hk))
      simpa [Hid] using h2
set_option maxHeartbeats 1600000 in
set_option maxRecDepth 100000 in
theorem find_zero (ks : Value) (w : World) : Calls Tryd.prog 11 #[ks, .int .i64 0] w fun e w' => e = .returned (.tuple #[.agg #[.int .i64 0, .slice none 0 0], .bool true]) ∧ Below w.heap.size w w' := by
  obtain ⟨Y, hY⟩ : ∃ Y, (w.alloc (.cells #[.int .i64 0] 3)).alloc (.cells #[.int .i64 0, .slice none 0 0] 26) = Y := ⟨_, rfl⟩
  have AK : Hid (Arr Y (w.heap.size + 1) 26 [.int .i64 0, .slice none 0 0]) := by rw [← hY]; exact Arr.new2 w (.cells #[.int .i64 0] 3) 26 [.int .i64 0, .slice none 0 0]
  have ci : Y.cell? ⟨w.heap.size, 0, none⟩ = some (.int .i64 0) := by rw [← hY]; exact ((Arr.new w 3 [.int .i64 0]).alloc _).cell 0
  have HB : Hid (Below w.heap.size w Y) := by rw [← hY]; exact ((Below.refl w.heap.size w).alloc (Nat.le_refl _) _).alloc (by simp) _
  go_enter Tryd.func11, Tryd.ntmps11
  go_wp2_with (refine wpList_store_arr rfl 26 (.tmp 4) (.tmp 9) rfl (w.heap.size + 1) rfl (vs := [.int .i64 0, .slice none 0 0]) rfl AK.out sizeK rfl rfl (by simp [Value.oneCell']) ?_; intro W2 A2 B2 hsz2 O2)
  refine bodyPost_ret (results_cell2 rfl rfl A2.out Tryd.underlying26 rfl sizeK) rfl ?_
  exact ⟨rfl, HB.out.trans (B2.out.mono (by omega))⟩
theorem head_words (k l r f : Nat) (h1 : k < 256) (h2 : l < 65536) (h3 : r < 65536) (h4 : f < 4294967296) : word (((headL k l r f).drop 2).take 1) = k ∧ word (((headL k l r f).drop 3).take 2) = l ∧ word (((headL k l r f).drop 5).take 2) = r ∧ word (((headL k l r f).drop 7).take 4) = f := by
  have hd : headL k l r f = [161, 247, k % 256, l / 256 % 256, l % 256, r / 256 % 256, r % 256, f / 16777216 % 256, f / 65536 % 256, f / 256 % 256, f % 256] := by simp [headL, beN, List.range_succ]
  rw [hd]
  refine ⟨?_, ?_, ?_, ?_⟩ <;> simp [word] <;> omega
set_option maxHeartbeats 3200000 in
set_option maxRecDepth 100000 in
theorem open_plain (ks : Value) (g c : Nat) (l r f : Nat) (ho : okO (0 : Nat) l r f) (sec pk : List Nat) (hpb : ∀ x ∈ pk, x < 256) (hpl : pk.length ≤ 4096) (w : World) (hc : 27 + pk.length ≤ c) (hcm : c ≤ 9223372036854775807) (hr : RdN w.heap.size w (some ⟨g, 0, none⟩) (wrapL 0 l r f sec pk)) (hT : Tabs w) :
    Calls Tryd.prog 5 #[ks, .slice (some ⟨g, 0, none⟩) (27 + pk.length) c] w fun e w' => (∃ v', e = .returned (.tuple #[.agg #[.int .i64 0, .int .i64 l, .int .i64 r, .int .i64 f], v', .int .i64 0]) ∧ Hid (w'.ownsRow w.heap.size 5 1 v' pk.length (u8s pk))) ∧ Below w.heap.size w w' := by
  obtain ⟨i0, hi, hz0, hz1, hz2⟩ := info_parts Tryd.info5
  have ho2 := ho
  unfold okO okIn at ho2
  have hO := okO_any (0 : Nat) l r f
  have hwd := head_words 0 l r f (by omega) (by omega) (by omega) (by omega)
  have hHl := headL_len 0 l r f
  have hHb := headL_lt 0 l r f
  have hWn := wrapL_len 0 l r f sec pk
  have hp0 : (wrapL 0 l r f sec pk)[0]? = some 161 := by unfold wrapL headL; rfl
  have hp1 : (wrapL 0 l r f sec pk)[1]? = some 247 := by unfold wrapL headL; rfl
  have ht1 : ((wrapL 0 l r f sec pk).drop 0).take 11 = headL 0 l r f := by rw [List.drop_zero]; unfold wrapL; exact List.take_left' hHl
  have ht2 : ((wrapL 0 l r f sec pk).drop 11).take 16 = printL (0 : Nat) sec (headL 0 l r f) pk := by unfold wrapL; rw [List.drop_left' hHl]; exact List.take_left' (printL_len _ _ _ _)
  have ht3 : (wrapL 0 l r f sec pk).drop 27 = pk := by
    unfold wrapL
    rw [← List.append_assoc]
    exact List.drop_left' (by rw [List.length_append, headL_len, printL_len])
  obtain ⟨HD, hHD⟩ : ∃ HD, headL 0 l r f = HD := ⟨_, rfl⟩
  have hF := fun pA pc W (hm : c ≤ 9223372036854775807) hs hh hp ht => fprint_any 0 none 0 [] (by simp) (Nat.le_refl _) (by decide) g 0 c HD (by rw [← hHD]; exact hHb) (by rw [← hHD]; exact hHl) (by omega) hm pA pc pk hpb (by omega) W hs hh hp ht
  obtain ⟨FP, hFP⟩ : ∃ FP, printL 0 [] HD pk = FP := ⟨_, rfl⟩
  have hFP2 : printL (0 : Nat) sec HD pk = FP := by rw [← hFP]; unfold printL; rw [if_pos (show ((0 : Nat) : Int) = 0 from rfl), if_pos rfl]
  have hFl : FP.length = 16 := by rw [← hFP]; exact printL_len _ _ _ _
  rw [hHD] at ht1 ht2 hwd hHl hHb
  rw [hFP] at hF
  rw [hFP2] at ht2
  obtain ⟨WL, hWL⟩ : ∃ WL, wrapL 0 l r f sec pk = WL := ⟨_, rfl⟩
  rw [hWL] at hr hWn hp0 hp1 ht1 ht2 ht3
  have z0 : ((0 : Nat) : Int) = 0 := rfl
  rw [z0] at hO ho
  obtain ⟨hw0, hw1, hw2, hw3⟩ := hwd
  have hU := fun W h => outerOf_any (some ⟨g, 0, none⟩) c HD hHb hHl (by omega) W h
  rw [hw0, hw1, hw2, hw3, z0] at hU
  have hE := fun (W : World) a1 c1 a2 c2 (h1 : RdN W.heap.size W a1 FP) (h2 : RdN W.heap.size W a2 FP) => (equal_any a1 c1 FP 16 hFl a2 c2 FP 16 hFl W h1 h2).mono fun e w' (h : e = .returned (.bool ((strB FP).toList == (strB FP).toList)) ∧ w' = W) => (show e = .returned (.bool true) ∧ w' = W from ⟨by rw [h.1, beq_self_eq_true], h.2⟩)
  -- memory
  obtain ⟨Y, hY⟩ : ∃ Y, w.alloc (.cells #[.int .i64 0, .int .i64 0, .int .i64 0, .int .i64 0] 28) = Y := ⟨_, rfl⟩
  have hBY : Below w.heap.size w Y := by rw [← hY]; exact (Below.refl w.heap.size w).alloc (Nat.le_refl _) _
  have hYs : Y.heap.size = w.heap.size + 1 := by rw [← hY]; simp
  have haz : Arr Y w.heap.size 28 [.int .i64 0, .int .i64 0, .int .i64 0, .int .i64 0] := by rw [← hY]; exact Arr.new w 28 [.int .i64 0, .int .i64 0, .int .i64 0, .int .i64 0]
  have HAZ : Hid (∀ W, Below Y.heap.size Y W → Arr W w.heap.size 28 [.int .i64 0, .int .i64 0, .int .i64 0, .int .i64 0]) := fun W h => haz.below h (by omega)
  have HWL : Hid (∀ W, Below Y.heap.size Y W → RdN W.heap.size W (some ⟨g, 0, none⟩) WL) := fun W h => ((hr.below hBY (Nat.le_refl _)).below h (by omega)).mono (by have := h.size; omega)
  have HTY := Lib.hid (hT.below hBY hT.pos)
  have HPO : Hid (1 < Y.heap.size) := by have := hT.pos; unfold Hid; omega
  have HBY := Lib.hid hBY
  have HLE : Hid (w.heap.size ≤ Y.heap.size) := by unfold Hid; omega
  have HLT : Hid (w.heap.size < Y.heap.size) := by unfold Hid; omega
  have B0 := Lib.hid (Below.refl Y.heap.size Y)
  have d0 := (HWL.out _ B0.out).at0 hp0
  have d1 := (HWL.out _ B0.out).at0 hp1
  obtain ⟨pA, hpA⟩ : ∃ pA, (if c = 27 then some (⟨g, 0, none⟩ : Addr) else some ⟨g, 27, none⟩) = pA := ⟨_, rfl⟩
  have HPK : Hid (∀ W, Below Y.heap.size Y W → RdN W.heap.size W pA pk) := fun W h => by
    rw [← hpA]
    split
    · have h0 : pk = [] := List.eq_nil_of_length_eq_zero (by omega)
      rw [h0]
      exact RdN.nil _ _ _
    · have := (HWL.out W h).part 27 pk.length
      rw [ht3, List.take_length, Nat.zero_add] at this
      exact this
  have HHD : Hid (∀ W, Below Y.heap.size Y W → RdN W.heap.size W (some ⟨g, 0, none⟩) HD) := fun W h => by
    have := (HWL.out W h).part 0 11
    rw [ht1] at this
    exact this
  have HFD : Hid (∀ W, Below Y.heap.size Y W → RdN W.heap.size W (some ⟨g, 11, none⟩) FP) := fun W h => by
    have := (HWL.out W h).part 11 16
    rw [ht2, Nat.zero_add] at this
    exact this
  have x1 : ¬ c < 11 := by omega
  have x2 : ¬ c < 27 := by omega
  have x3 : ¬ c = 11 := by omega
  have x4 : (11 : Int) ≤ (c : Int) := by omega
  have x5 : (27 : Int) ≤ (c : Int) := by omega
  have x6 : (27 : Int) + (pk.length : Int) ≤ (c : Int) := by omega
  have x7 : ¬ c < 27 + pk.length := by omega
  have HO1 := Lib.hid ho
  clear hHD hFP hFP2 hWL hHl hHb hWn hp0 hp1 ht1 ht2 ht3 hw0 hw1 hw2 hw3 hBY hYs haz hr ho ho2 hT
  go_enter Tryd.func5, Tryd.ntmps5
  go_wp2
  go_quiet (fail)
  go_wp2_with (first
    | (go_at_call 9; refine (hU _ (HHD.out _ (below_drewN B0.out _))).mono ?_; rintro e w1 ⟨rfl, hb1⟩; have B1 := Lib.hid ((below_drewN B0.out _).trans hb1); clear hb1)
    | (refine wpList_store_arr rfl 28 (.tmp 10) (.tmp 41) rfl w1.heap.size rfl (vs := [.int .i64 0, .int .i64 l, .int .i64 r, .int .i64 f]) rfl (show Arr _ w1.heap.size 28 [.int .i64 0, .int .i64 0, .int .i64 0, .int .i64 0] from Arr.new w1 28 [.int .i64 0, .int .i64 0, .int .i64 0, .int .i64 0]) sizeO rfl rfl (by simp [Value.oneCell']) ?_; intro W2 A2 B2 hsz2 O2; have BB2 := Lib.hid ((B1.out.alloc B1.out.size _).trans (B2.out.mono B1.out.size)); have LW1 := Lib.hid B1.out.size; clear B2 hsz2 O2)
    | (refine wpList_load_arr rfl 28 (.tmp 10) rfl w1.heap.size rfl A2.out Tryd.underlying28 rfl sizeO rfl ?_)
    | (go_at_call 10; refine (hO W2).mono ?_; rintro e w3 ⟨⟨x, rfl, hx⟩, hb3⟩; obtain rfl : x = true := hx.2 HO1.out; have A3 := Lib.hid (A2.out.below hb3 A2.out.lt); have co := A3.out.cell 0; simp only [List.getElem?_cons_zero] at co; have B3 := Lib.hid (BB2.out.trans (hb3.mono BB2.out.size)); clear hx hb3 A2)
    | (go_at_call 11; refine (find_zero ks w3).mono ?_; rintro e w4 ⟨rfl, hb4⟩; have A4 := Lib.hid (A3.out.below hb4 A3.out.lt); have B4 := Lib.hid (B3.out.trans (hb4.mono B3.out.size)); clear hb4 A3 co)
    | (refine wpList_store_arr rfl 26 (.tmp 11) (.tmp 51) rfl w4.heap.size rfl (vs := [.int .i64 0, .slice none 0 0]) rfl (show Arr _ w4.heap.size 26 [.int .i64 0, .slice none 0 0] from Arr.new w4 26 [.int .i64 0, .slice none 0 0]) sizeK rfl rfl (by simp [Value.oneCell']) ?_; intro W5 A5 B5 hsz5 O5; have A45 := Lib.hid (A4.out.below (((Below.refl w4.heap.size w4).alloc (Nat.le_refl _) _).trans B5.out) A4.out.lt); have BB5 := Lib.hid ((B4.out.alloc B4.out.size _).trans (B5.out.mono B4.out.size)); clear B5 hsz5 O5 A4)
    | (refine wpList_load_arr rfl 26 (.tmp 11) rfl w4.heap.size rfl A5.out Tryd.underlying26 rfl sizeK rfl ?_)
    | (go_at_call 13; refine (hF pA (c - 27) W5 hcm (RdN.nil _ _ _) (HHD.out _ BB5.out) (HPK.out _ BB5.out) (HTY.out.below BB5.out HPO.out)).mono ?_; rintro e w6 ⟨⟨g6, c6, rfl, hc6, hr6⟩, hb6⟩; have HR6 := Lib.hid hr6; have A6 := Lib.hid (A45.out.below hb6 A45.out.lt); have B6 := Lib.hid (BB5.out.trans (hb6.mono BB5.out.size)); clear hr6 hb6 hc6 A45 A5)
    | (go_at_call 12; refine (hE w6 _ _ _ _ (HFD.out _ B6.out) HR6.out).mono ?_; rintro e w7 ⟨rfl, rfl⟩))
  refine wp_region_any (by kernel_rfl) ?_
  change wpAny _ _ _ _ _ _ _ (World.drew _)
  refine wpAny_ready (rs := [0, 1]) (by kernel_rfl) (by simp) ?_
  refine AllReady.cons rfl (fun K hK => ?_) (AllReady.cons rfl (fun K hK => ?_) AllReady.nil)
  · refine step_of rfl (wp_load_mid 28 (.tmp 10) rfl w1.heap.size 0 rfl [.int .i64 0, .int .i64 l, .int .i64 r, .int .i64 f] _ (show Arr (World.drew w7) w1.heap.size 28 _ from A6.out).range Tryd.underlying28 rfl sizeO ?_)
    refine hK _ _ ?_
    clear hK K
    refine wpAny_ready (rs := [1]) (by kernel_rfl) (by simp) ?_
    refine AllReady.cons rfl (fun K hK => ?_) AllReady.nil
    go_simp
    refine hK _ _ ?_
    clear hK K
    refine wpAny_ready (rs := [2]) (by kernel_rfl) (by simp) ?_
    refine AllReady.cons rfl (fun K hK => ?_) AllReady.nil
    refine step_append_nil hi hz0 hz1 hz2 rfl _ _ rfl rfl rfl rfl (show RdN (World.heap (World.drew w7)).size (World.drew w7) pA pk from HPK.out _ B6.out.drew) (by omega) ?_
    intro v8 w8 HO8 HB8
    have B8 := Lib.hid (B6.out.drew.trans (HB8.out.mono B6.out.size))
    refine hK _ _ ?_
    clear hK K
    refine wpAny_ready (rs := [3]) (by kernel_rfl) (by simp) ?_
    refine AllReady.cons rfl (fun K hK => ?_) AllReady.nil
    refine step_of rfl (wp_store_row 28 (.tmp 4) (.tmp 64) rfl w.heap.size #[.int .i64 0, .int .i64 l, .int .i64 r, .int .i64 f] rfl rfl 28 #[.int .i64 0, .int .i64 0, .int .i64 0, .int .i64 0] (HAZ.out _ B8.out) sizeO rfl (by simp [Value.oneCell']) ?_)
    refine hK _ _ ?_
    clear hK K
    refine wpAny_ready (rs := [4]) (by kernel_rfl) (by simp) ?_
    refine AllReady.cons rfl (fun K hK => ?_) AllReady.nil
    go_simp
    refine hK _ _ ?_
    clear hK K
    refine wpAny_ready (rs := [5]) (by kernel_rfl) (by simp) ?_
    refine AllReady.cons rfl (fun K hK => ?_) AllReady.nil
    go_simp
    refine hK _ _ ?_
    clear hK K
    refine wpAny_done (by kernel_rfl) ?_ _
    go_wp2
    have A9 := Arr.row (HAZ.out _ B8.out) [.int .i64 0, .int .i64 l, .int .i64 r, .int .i64 f]
    refine bodyPost_ret (results_cell3 rfl rfl A9 Tryd.underlying28 rfl sizeO) rfl ?_
    exact ⟨⟨_, rfl, own_base (own_row_other HO8.out (Nat.lt_of_lt_of_le HLT.out B6.out.size)) (Nat.le_trans HLE.out B6.out.size)⟩, (HBY.out.trans (B8.out.mono HLE.out)).trans (below_setRow (Below.refl _ _) (Nat.le_refl _) _)⟩
  · go_simp
    refine hK _ _ ?_
    clear hK K
    refine wpAny_ready (rs := [0, 2]) (by kernel_rfl) (by simp) ?_
    refine AllReady.cons rfl (fun K hK => ?_) (AllReady.cons rfl (fun K hK => ?_) AllReady.nil)
    · refine step_of rfl (wp_load_mid 28 (.tmp 10) rfl w1.heap.size 0 rfl [.int .i64 0, .int .i64 l, .int .i64 r, .int .i64 f] _ (show Arr (World.drew w7) w1.heap.size 28 _ from A6.out).range Tryd.underlying28 rfl sizeO ?_)
      refine hK _ _ ?_
      clear hK K
      refine wpAny_ready (rs := [2]) (by kernel_rfl) (by simp) ?_
      refine AllReady.cons rfl (fun K hK => ?_) AllReady.nil
      refine step_append_nil hi hz0 hz1 hz2 rfl _ _ rfl rfl rfl rfl (show RdN (World.heap (World.drew w7)).size (World.drew w7) pA pk from HPK.out _ B6.out.drew) (by omega) ?_
      intro v8 w8 HO8 HB8
      have B8 := Lib.hid (B6.out.drew.trans (HB8.out.mono B6.out.size))
      refine hK _ _ ?_
      clear hK K
      refine wpAny_ready (rs := [3]) (by kernel_rfl) (by simp) ?_
      refine AllReady.cons rfl (fun K hK => ?_) AllReady.nil
      refine step_of rfl (wp_store_row 28 (.tmp 4) (.tmp 64) rfl w.heap.size #[.int .i64 0, .int .i64 l, .int .i64 r, .int .i64 f] rfl rfl 28 #[.int .i64 0, .int .i64 0, .int .i64 0, .int .i64 0] (HAZ.out _ B8.out) sizeO rfl (by simp [Value.oneCell']) ?_)
      refine hK _ _ ?_
      clear hK K
      refine wpAny_ready (rs := [4]) (by kernel_rfl) (by simp) ?_
      refine AllReady.cons rfl (fun K hK => ?_) AllReady.nil
      go_simp
      refine hK _ _ ?_
      clear hK K
      refine wpAny_ready (rs := [5]) (by kernel_rfl) (by simp) ?_
      refine AllReady.cons rfl (fun K hK => ?_) AllReady.nil
      go_simp
      refine hK _ _ ?_
      clear hK K
      refine wpAny_done (by kernel_rfl) ?_ _
      go_wp2
      have A9 := Arr.row (HAZ.out _ B8.out) [.int .i64 0, .int .i64 l, .int .i64 r, .int .i64 f]
      refine bodyPost_ret (results_cell3 rfl rfl A9 Tryd.underlying28 rfl sizeO) rfl ?_
      exact ⟨⟨_, rfl, own_base (own_row_other HO8.out (Nat.lt_of_lt_of_le HLT.out B6.out.size)) (Nat.le_trans HLE.out B6.out.size)⟩, (HBY.out.trans (B8.out.mono HLE.out)).trans (below_setRow (Below.refl _ _) (Nat.le_refl _) _)⟩
    · refine step_append_nil hi hz0 hz1 hz2 rfl _ _ rfl rfl rfl rfl (show RdN (World.heap (World.drew w7)).size (World.drew w7) pA pk from HPK.out _ B6.out.drew) (by omega) ?_
      intro v8 w8 HO8 HB8
      have B8 := Lib.hid (B6.out.drew.trans (HB8.out.mono B6.out.size))
      refine hK _ _ ?_
      clear hK K
      refine wpAny_ready (rs := [0]) (by kernel_rfl) (by simp) ?_
      refine AllReady.cons rfl (fun K hK => ?_) AllReady.nil
      refine step_of rfl (wp_load_mid 28 (.tmp 10) rfl w1.heap.size 0 rfl [.int .i64 0, .int .i64 l, .int .i64 r, .int .i64 f] _ (show Arr w8 w1.heap.size 28 _ from (show Arr (World.drew w7) w1.heap.size _ _ from A6.out).below HB8.out A6.out.lt).range Tryd.underlying28 rfl sizeO ?_)
      refine hK _ _ ?_
      clear hK K
      refine wpAny_ready (rs := [3]) (by kernel_rfl) (by simp) ?_
      refine AllReady.cons rfl (fun K hK => ?_) AllReady.nil
      refine step_of rfl (wp_store_row 28 (.tmp 4) (.tmp 64) rfl w.heap.size #[.int .i64 0, .int .i64 l, .int .i64 r, .int .i64 f] rfl rfl 28 #[.int .i64 0, .int .i64 0, .int .i64 0, .int .i64 0] (HAZ.out _ B8.out) sizeO rfl (by simp [Value.oneCell']) ?_)
      refine hK _ _ ?_
      clear hK K
      refine wpAny_ready (rs := [4]) (by kernel_rfl) (by simp) ?_
      refine AllReady.cons rfl (fun K hK => ?_) AllReady.nil
      go_simp
      refine hK _ _ ?_
      clear hK K
      refine wpAny_ready (rs := [5]) (by kernel_rfl) (by simp) ?_
      refine AllReady.cons rfl (fun K hK => ?_) AllReady.nil
      go_simp
      refine hK _ _ ?_
      clear hK K
      refine wpAny_done (by kernel_rfl) ?_ _
      go_wp2
      have A9 := Arr.row (HAZ.out _ B8.out) [.int .i64 0, .int .i64 l, .int .i64 r, .int .i64 f]
      refine bodyPost_ret (results_cell3 rfl rfl A9 Tryd.underlying28 rfl sizeO) rfl ?_
      exact ⟨⟨_, rfl, own_base (own_row_other HO8.out (Nat.lt_of_lt_of_le HLT.out B6.out.size)) (Nat.le_trans HLE.out B6.out.size)⟩, (HBY.out.trans (B8.out.mono HLE.out)).trans (below_setRow (Below.refl _ _) (Nat.le_refl _) _)⟩
  end Go.Proofs.YtmmocnokgcgmnaaDoor
