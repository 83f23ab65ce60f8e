/-
  THE DOCUMENT's fingerprint.
-/
import Derived.Test.YtmmocnokgcgmnaaDoorSBig
import Derived.Deep.RegionHeld
namespace Go.Proofs.YtmmocnokgcgmnaaDoor
set_option linter.unusedSimpArgs false
set_option linter.unusedVariables false
open Go.RowKit
theorem takeG {P : Program} {ops : Array Oper} {Q : Exit → Act → World → Prop} {md : Region.Mode} {S : World → Prop} {i d : Nat} {oi : Oper} {v : Value} {fuel : Nat} {listed : Array Bool} {ts : Array Value} {df : List Deferred} {w : World} (hi : ops[i]? = some oi) (hd : oi.dst = some d)
    (hs : Region.noSelect ops = true) (hf : Region.free md ops listed i = true) (hr : (Region.ready md ops listed).contains i = true)
    (hQ : ∀ c a w, Q (.panic c) (a.put oi.dst v) w → Q (.panic c) a w) (hg : Region.wanted oi (yielded ops ts) = true) (hy : ∀ w, S w → (execOp (Act.eval { tmps := ts, defers := df }) oi).run P w = .ok (.value v) w) (hS : S w)
    (h : wpAnyH P md ops Q S fuel (listed.setIfInBounds i true) { tmps := ts.setIfInBounds d v, defers := df } w) : wpAnyH P md ops Q S (fuel + 1) listed { tmps := ts, defers := df } w := by
  refine wpAnyH_take hi hs hf hr hQ (.inl ⟨hg, hy⟩) hS ?_
  unfold Act.put
  rw [hd]
  exact h
/-- A store of an array, as one step. -/
theorem wp_store_arr {P : Program} {o : Oper} {a : Act} {w : World} {K : Act → World → Prop} {Q : Exit → Act → World → Prop} (ty : TypeId) (x y : Operand) (ho : o.op = .store ty x y)
    (g : Nat) (hx : a.eval x = .pointer (some ⟨g, 0, none⟩)) {vs old : List Value} (hy : a.eval y = .agg vs.toArray) {t : TypeId} (hg : Arr w g t old) {n : Nat} (hi : (P.info? ty).map (·.size) = some n) (hn : vs.length = n) (ho2 : old.length = n) (h1 : vs.toArray.all (·.oneCell') = true)
    (h : ∀ w', Hid (Arr w' g t vs) → Hid (Below g w w') → K (a.put o.dst undef) w') : o.wp P a w K Q :=
  wp_store_row ty x y ho g vs.toArray hx hy t old.toArray hg (by rw [hi, ← hn]; rfl) (by simp; omega) h1
    (h _ (Arr.row hg vs) (below_setRow (Below.refl _ _) (Nat.le_refl _) _))
/-- Bytes put behind a row of one's own, as one step. -/
theorem wp_append_grow {w : World} {o : Oper} {a : Act} {K : Act → World → Prop} {Q : Exit → Act → World → Prop} {i0 : TypeInfo} (hi : Tryd.prog.info? 5 = some i0) (hz0 : i0.zero = some (.int .u8 0)) (hz1 : i0.size = 1) (hz2 : i0.bytes = 1) (s x : Operand)
    (ho : o.op = .call { callee := .builtin .append, args := #[s, x], argTypes := #[23, 23] }) (base : Nat) (v : Value) (l : List Nat) (hs : a.eval s = v) (hown : w.ownsRow base 5 1 v l.length (u8s l))
    {n₀ m c : Nat} {ad : Option Addr} {bs : List Nat} (hx : a.eval x = .slice ad m c) (hm : bs.length = m) (hr : RdN n₀ w ad bs) (hlen : l.length + bs.length ≤ 140737488355328) (hbase : base ≤ w.heap.size)
    (h : ∀ v' w', Hid (w'.ownsRow base 5 1 v' (l ++ bs).length (u8s (l ++ bs))) → Hid (w.grownBy w' v.ownBlock) → K (a.put o.dst v') w') : o.wp Tryd.prog a w K Q := by
  have go : ∀ ad', ad = some ad' → (∀ j u, (u8s bs)[j]? = some u → w.cell? (ad'.add j) = some u) → o.wp Tryd.prog a w K Q := by
    rintro ad' rfl hn
    refine wp_append_own w s x 23 ho base 5 i0 (.int .u8 0) 1 1 Tryd.underlying23 hi hz0 hz1 hz2 rfl (by decide) v _ _ hs hown ad' m c (u8s bs) hx (by rw [u8s_len, hm, Nat.mul_one]) hn u8s_mem (by unfold maxLen; omega) (by omega) hbase ?_
    intro v' w' h2 h3 _
    refine h v' w' ?_ h3
    unfold Hid
    rw [List.length_append, hm, u8s_append]
    exact h2
  by_cases h0 : bs = []
  · subst h0
    cases ad with
    | none =>
      subst hm
      have hrun := run_append_nil0 (P := Tryd.prog) (w := w) base 23 o.type 5 i0 1 Tryd.underlying23 hi hown c
      unfold Oper.wp
      simp only [List.length_nil] at hx
      simp [execOp, ho, resolve, invoke, builtin, hs, hx, hrun, Result.andThen]
      refine h v w ?_ (World.grownBy.refl _ _)
      simpa [Hid] using hown
    | some ad' => exact go ad' rfl (fun j u hu => by simp [u8s] at hu)
  · obtain ⟨b, off, rfl, _, hc⟩ := hr (List.length_pos_iff.2 h0)
    refine go _ rfl fun j u hu => ?_
    have hj' : (bs[j]?).map (fun n : Nat => Value.int .u8 (n : Int)) = some u := by rw [← hu]; simp [u8s]
    cases hx2 : bs[j]? with
    | none => rw [hx2] at hj'; cases hj'
    | some y =>
      rw [hx2] at hj'
      cases hj'
      rw [show (⟨b, off, none⟩ : Addr).add j = ⟨b, off + j, none⟩ by unfold Addr.add; split <;> simp_all]
      exact hc j y hx2
/-- A row of bytes lies not in an array of them. -/
theorem own_arr_apart {W : World} {base g n : Nat} {v : Value} {xs vs : List Value} (h : W.ownsRow base 5 1 v n xs) (ha : Arr W g 50 vs) : some g ≠ v.ownBlock := by
  intro e
  rcases h.2 with ⟨rfl, _⟩ | ⟨g2, cap, cur, rfl, _, hh, _⟩
  · simp [Value.ownBlock] at e
  · obtain rfl : g = g2 := by simpa [Value.ownBlock] using e
    unfold Arr at ha
    rw [ha] at hh
    simp at hh
theorem Arr.grown {W W' : World} {row : Option Nat} {g : Nat} {t : TypeId} {vs : List Value} (h : Arr W g t vs) (hg : W.grownBy W' row) (hne : some g ≠ row) : Arr W' g t vs := (hg.block g h.lt hne).trans h
theorem rprint_zero (id : Int) (s : Value) (l r f : Int) (b : Value) (w : World) :
    Calls Tryd.prog 16 #[.agg #[.int .i64 id, s], .agg #[.int .i64 0, .int .i64 l, .int .i64 r, .int .i64 f], b] w fun e w' => (∃ g c, e = .returned (.slice (some ⟨g, 0, none⟩) 16 c) ∧ RdN w'.heap.size w' (some ⟨g, 0, none⟩) (List.replicate 16 0)) ∧ Below w.heap.size w w' := by
  obtain ⟨i0, hi, hz0, hz1, hz2⟩ := info_parts Tryd.info5
  have hmk : ∀ W, (Instr.makeSlice 23 (.int .i64 16) (.int .i64 16)).run Tryd.prog W = .ok (.slice (some ⟨W.heap.size, 0, none⟩) 16 16) (W.alloc (.cells (u8s (List.replicate 16 0)).toArray 5)) := fun W => run_make_u8 (P := Tryd.prog) Tryd.underlying23 hi hz0 hz1 hz2 (Nat.le_refl 16) (by omega) W
  obtain ⟨Y, hY⟩ : ∃ Y, (w.alloc (.cells #[.int .i64 id, s] 26)).alloc (.cells #[.int .i64 0, .int .i64 l, .int .i64 r, .int .i64 f] 28) = Y := ⟨_, rfl⟩
  have hBY : Below w.heap.size w Y := by rw [← hY]; exact ((Below.refl w.heap.size w).alloc (Nat.le_refl _) _).alloc (by simp) _
  have hao : Arr Y (w.heap.size + 1) 28 [.int .i64 0, .int .i64 l, .int .i64 r, .int .i64 f] := by rw [← hY]; exact Arr.new2 w (.cells #[.int .i64 id, s] 26) 28 [.int .i64 0, .int .i64 l, .int .i64 r, .int .i64 f]
  have c0 := hao.cell 0
  simp only [List.getElem?_cons_zero] at c0
  have HBY := Lib.hid hBY
  clear hao hBY
  go_enter Tryd.func16, Tryd.ntmps16
  go_wp2
  go_ret
  exact ⟨⟨Y.heap.size, 16, rfl, RdN.arr (Arr.new Y 5 (u8s (List.replicate 16 0))) (by simp)⟩, HBY.out.trans (((Below.refl Y.heap.size Y).alloc (Nat.le_refl _) _).mono HBY.out.size)⟩
set_option maxHeartbeats 3200000 in
set_option maxRecDepth 100000 in
theorem rprint_some (id : Int) (sA : Option Addr) (sc : Nat) (sec : List Nat) (hsb : ∀ x ∈ sec, x < 256) (hsl : sec.length ≤ 1000000) (k l r f : Nat) (h1 : k < 256) (h2 : l < 65536) (h3 : r < 65536) (h4 : f < 4294967296) (hk0 : ¬ (k : Int) = 0)
    (pA : Option Addr) (pc : Nat) (pk : List Nat) (hpb : ∀ x ∈ pk, x < 256) (hpl : pk.length ≤ 900000) (w : World) (hrs : RdN w.heap.size w sA sec) (hrp : RdN w.heap.size w pA pk) :
    Calls Tryd.prog 16 #[.agg #[.int .i64 id, .slice sA sec.length sc], .agg #[.int .i64 k, .int .i64 l, .int .i64 r, .int .i64 f], .slice pA pk.length pc] w fun e w' => (∃ g c, e = .returned (.slice (some ⟨g, 0, none⟩) 16 c) ∧ RdN w'.heap.size w' (some ⟨g, 0, none⟩) ((macL sec (headL k l r f ++ pk)).take 16)) ∧ Below w.heap.size w w' := by
  obtain ⟨i0, hi, hz0, hz1, hz2⟩ := info_parts Tryd.info5
  have htop := fun W => top_any k l r f h1 h2 h3 h4 W
  have hHDl := headL_len k l r f
  have hHDb := headL_lt k l r f
  have hmac := fun g c W (q1 : RdN (World.heap W).size W sA sec) (q2 : RdN W.heap.size W (some ⟨g, 0, none⟩) (headL k l r f ++ pk)) => rmac_any sA sc sec hsb hsl (some ⟨g, 0, none⟩) c (headL k l r f ++ pk) (fun x hx => (List.mem_append.1 hx).elim (hHDb x) (hpb x)) (by rw [List.length_append, hHDl]; omega) W q1 q2
  have hll : (headL k l r f ++ pk).length = 11 + pk.length := by rw [List.length_append, hHDl]
  rw [hll] at hmac
  obtain ⟨HD, hHD⟩ : ∃ HD, headL k l r f = HD := ⟨_, rfl⟩
  rw [hHD] at htop hmac hHDl hll
  obtain ⟨M, hM⟩ : ∃ M, macL sec (HD ++ pk) = M := ⟨_, rfl⟩
  have hMl : M.length = 32 := by rw [← hM]; rfl
  have hM32 : (u8s M).length = 32 := by rw [u8s_len, hMl]
  rw [hHD, hM]
  rw [hM] at hmac
  obtain ⟨Y, hY⟩ : ∃ Y, (w.alloc (.cells #[.int .i64 id, .slice sA sec.length sc] 26)).alloc (.cells #[.int .i64 k, .int .i64 l, .int .i64 r, .int .i64 f] 28) = Y := ⟨_, rfl⟩
  have hBY : Below w.heap.size w Y := by rw [← hY]; exact ((Below.refl w.heap.size w).alloc (Nat.le_refl _) _).alloc (by simp) _
  have hYs : Y.heap.size = w.heap.size + 2 := by rw [← hY]; simp
  have hak : Arr Y w.heap.size 26 [.int .i64 id, .slice sA sec.length sc] := by rw [← hY]; exact (Arr.new w 26 [.int .i64 id, .slice sA sec.length sc]).alloc _
  have hao : Arr Y (w.heap.size + 1) 28 [.int .i64 k, .int .i64 l, .int .i64 r, .int .i64 f] := by rw [← hY]; exact Arr.new2 w (.cells #[.int .i64 id, .slice sA sec.length sc] 26) 28 [.int .i64 k, .int .i64 l, .int .i64 r, .int .i64 f]
  have HS : Hid (∀ W, Below Y.heap.size Y W → W.cell? ⟨w.heap.size, 1, none⟩ = some (.slice sA sec.length sc) ∧ W.cell? ⟨w.heap.size + 1, 0, none⟩ = some (.int .i64 k) ∧ W.cell? ⟨w.heap.size + 1, 1, none⟩ = some (.int .i64 l) ∧ W.cell? ⟨w.heap.size + 1, 2, none⟩ = some (.int .i64 r) ∧ W.cell? ⟨w.heap.size + 1, 3, none⟩ = some (.int .i64 f)) := fun W hW =>
    ⟨(hak.below hW (by omega)).cell 1, (hao.below hW (by omega)).cell 0, (hao.below hW (by omega)).cell 1, (hao.below hW (by omega)).cell 2, (hao.below hW (by omega)).cell 3⟩
  have HRS : Hid (∀ W, Below Y.heap.size Y W → RdN W.heap.size W sA sec) := fun W h => ((hrs.below hBY (Nat.le_refl _)).below h (by omega)).mono (by have := h.size; omega)
  have HRP : Hid (∀ W, Below Y.heap.size Y W → RdN W.heap.size W pA pk) := fun W h => ((hrp.below hBY (Nat.le_refl _)).below h (by omega)).mono (by have := h.size; omega)
  have HBY := Lib.hid hBY
  have HTOP := Lib.hid htop
  have HMAC := Lib.hid hmac
  have HDL := Lib.hid hHDl
  have HLL := Lib.hid hll
  have c0 := (HS.out Y (Below.refl _ _)).2.1
  have HB := Lib.hid ((Below.refl Y.heap.size Y).drew)
  have hS00 := HS.out _ HB.out
  clear hBY hYs hak hao hrs hrp htop hmac hHD hHDb hM hMl hsb hpb
  go_enter Tryd.func16, Tryd.ntmps16
  go_wp2
  refine wp_region_held_drew (S := fun W => W.cell? ⟨w.heap.size, 1, none⟩ = some (.slice sA sec.length sc) ∧ W.cell? ⟨w.heap.size + 1, 0, none⟩ = some (.int .i64 k) ∧ W.cell? ⟨w.heap.size + 1, 1, none⟩ = some (.int .i64 l) ∧ W.cell? ⟨w.heap.size + 1, 2, none⟩ = some (.int .i64 r) ∧ W.cell? ⟨w.heap.size + 1, 3, none⟩ = some (.int .i64 f)) (by kernel_rfl) hS00 (fun hS0 => ?_)
  refine takeG (i := 0) (d := 12) (v := ?vr0) rfl rfl (by kernel_rfl) (by kernel_rfl) (by kernel_rfl) (fun _ _ _ h => h) (by kernel_rfl) ?hr0 (by assumption) ?rr0
  case hr0 =>
    intro w hSw
    obtain ⟨s0, s1, s2, s3, s4⟩ := hSw
    go_simp
    try with_reducible rfl
  simp only [List.setIfInBounds_toArray, List.set_cons_zero, List.set_cons_succ]
  refine takeG (i := 1) (d := 13) (v := ?vr1) rfl rfl (by kernel_rfl) (by kernel_rfl) (by kernel_rfl) (fun _ _ _ h => h) (by kernel_rfl) ?hr1 (by assumption) ?rr1
  case hr1 =>
    intro w hSw
    obtain ⟨s0, s1, s2, s3, s4⟩ := hSw
    go_simp
    try with_reducible rfl
  simp only [List.setIfInBounds_toArray, List.set_cons_zero, List.set_cons_succ]
  refine takeG (i := 2) (d := 14) (v := ?vr2) rfl rfl (by kernel_rfl) (by kernel_rfl) (by kernel_rfl) (fun _ _ _ h => h) (by kernel_rfl) ?hr2 (by assumption) ?rr2
  case hr2 =>
    intro w hSw
    obtain ⟨s0, s1, s2, s3, s4⟩ := hSw
    go_simp
    try with_reducible rfl
  simp only [List.setIfInBounds_toArray, List.set_cons_zero, List.set_cons_succ]
  refine takeG (i := 4) (d := 16) (v := ?vr4) rfl rfl (by kernel_rfl) (by kernel_rfl) (by kernel_rfl) (fun _ _ _ h => h) (by kernel_rfl) ?hr4 (by assumption) ?rr4
  case hr4 =>
    intro w hSw
    obtain ⟨s0, s1, s2, s3, s4⟩ := hSw
    go_simp
    try with_reducible rfl
  simp only [List.setIfInBounds_toArray, List.set_cons_zero, List.set_cons_succ]
  refine wpAnyH_ready (rs := [3, 7]) (by kernel_rfl) (by simp) ?_
  refine AllReadyH.cons rfl (fun K hK => ?_) (AllReadyH.cons rfl (fun K hK => ?_) AllReadyH.nil)
  · go_simp
    go_at_call 27
    with_reducible refine (HTOP.out _).mono ?_
    rintro e w11 ⟨⟨vt, rfl, ho⟩, hb⟩
    have HO : Hid (w11.ownsRow Y.heap.size 5 1 vt HD.length (u8s HD)) := own_base ho.out HB.out.size
    replace HB := Lib.hid (HB.out.trans (hb.mono HB.out.size))
    clear hb ho
    go_simp
    refine hK.out _ _ (HS.out _ HB.out) (fun hS1 => ?_)
    clear hK K
    refine wpAnyH_ready (rs := [5, 7]) (by kernel_rfl) (by simp) ?_
    refine AllReadyH.cons rfl (fun K hK => ?_) (AllReadyH.cons rfl (fun K hK => ?_) AllReadyH.nil)
    · rw [if_pos (by kernel_rfl)]
      refine wp_append_grow hi hz0 hz1 hz2 (.tmp 15) (.tmp 16) rfl Y.heap.size _ HD rfl HO.out rfl rfl (HRP.out _ HB.out) (by rw [HDL.out]; omega) HB.out.size ?_
      intro v5 w12 ho5 hg5
      replace HB := Lib.hid (HB.out.grown hg5.out HB.out.size (fun k hk => (HO.out.lt k hk).1))
      obtain ⟨g, c, rfl, _, _, _, hrd⟩ := own_rd ho5.out (by rw [HLL.out]; omega)
      have HR := Lib.hid hrd
      rw [HLL.out]
      clear ho5 hg5 hrd HO
      refine hK.out _ _ (HS.out _ HB.out) (fun hS2 => ?_)
      clear hK K
      simp only [Act.put, List.setIfInBounds_toArray, List.set_cons_zero, List.set_cons_succ]
      refine wpAnyH_ready (rs := [6, 7]) (by kernel_rfl) (by simp) ?_
      refine AllReadyH.cons rfl (fun K hK => ?_) (AllReadyH.cons rfl (fun K hK => ?_) AllReadyH.nil)
      · go_simp
        go_at_call 26
        with_reducible refine (HMAC.out g c _ (HRS.out _ HB.out) HR.out).mono ?_
        rintro e w13 ⟨rfl, hb⟩
        replace HB := Lib.hid (HB.out.trans (hb.mono HB.out.size))
        clear hb HR
        go_simp
        refine hK.out _ _ (HS.out _ HB.out) (fun hS3 => ?_)
        clear hK K
        refine wpAnyH_ready (rs := [7]) (by kernel_rfl) (by simp) ?_
        refine AllReadyH.cons rfl (fun K hK => ?_) AllReadyH.nil
        obtain ⟨w14, hWA⟩ : ∃ WA, w13.alloc (.cells (u8s (List.replicate 32 0)).toArray 50) = WA := ⟨_, rfl⟩
        have hWA2 : w13.alloc (.cells #[.int .u8 0, .int .u8 0, .int .u8 0, .int .u8 0, .int .u8 0, .int .u8 0, .int .u8 0, .int .u8 0, .int .u8 0, .int .u8 0, .int .u8 0, .int .u8 0, .int .u8 0, .int .u8 0, .int .u8 0, .int .u8 0, .int .u8 0, .int .u8 0, .int .u8 0, .int .u8 0, .int .u8 0, .int .u8 0, .int .u8 0, .int .u8 0, .int .u8 0, .int .u8 0, .int .u8 0, .int .u8 0, .int .u8 0, .int .u8 0, .int .u8 0, .int .u8 0] 50) = w14 := hWA
        have HA : Hid (Arr w14 w13.heap.size 50 (u8s (List.replicate 32 0))) := by rw [← hWA]; exact Arr.new w13 50 (u8s (List.replicate 32 0))
        have HG : Hid (Y.heap.size ≤ w13.heap.size) := HB.out.size
        replace HB : Hid (Below Y.heap.size Y w14) := by rw [← hWA]; exact HB.out.alloc HB.out.size _
        go_simp
        try rw [hWA2]
        clear hWA hWA2
        refine hK.out _ _ (HS.out _ HB.out) (fun hS4 => ?_)
        clear hK K
        refine wpAnyH_ready (rs := [8]) (by kernel_rfl) (by simp) ?_
        refine AllReadyH.cons rfl (fun K hK => ?_) AllReadyH.nil
        rw [if_pos (by kernel_rfl)]
        refine wp_store_arr 50 (.tmp 7) (.tmp 18) rfl _ rfl rfl HA.out Tryd.size50 hM32 (by simp [u8s_len]) (u8s_one _) ?_
        intro w15 A8 B8
        replace HB := Lib.hid (HB.out.trans (B8.out.mono HG.out))
        refine hK.out _ _ (HS.out _ HB.out) (fun hS5 => ?_)
        clear hK K
        simp only [Act.put]
        refine wpAnyH_done (by kernel_rfl) ?_ _
        go_wp2
        go_ret
        have hr := (RdN.arr A8.out A8.out.lt).part 0 16
        rw [List.drop_zero] at hr
        exact ⟨⟨_, 32, rfl, hr⟩, HBY.out.trans (HB.out.mono HBY.out.size)⟩
      · obtain ⟨w16, hWA⟩ : ∃ WA, w12.alloc (.cells (u8s (List.replicate 32 0)).toArray 50) = WA := ⟨_, rfl⟩
        have hWA2 : w12.alloc (.cells #[.int .u8 0, .int .u8 0, .int .u8 0, .int .u8 0, .int .u8 0, .int .u8 0, .int .u8 0, .int .u8 0, .int .u8 0, .int .u8 0, .int .u8 0, .int .u8 0, .int .u8 0, .int .u8 0, .int .u8 0, .int .u8 0, .int .u8 0, .int .u8 0, .int .u8 0, .int .u8 0, .int .u8 0, .int .u8 0, .int .u8 0, .int .u8 0, .int .u8 0, .int .u8 0, .int .u8 0, .int .u8 0, .int .u8 0, .int .u8 0, .int .u8 0, .int .u8 0] 50) = w16 := hWA
        have HA : Hid (Arr w16 w12.heap.size 50 (u8s (List.replicate 32 0))) := by rw [← hWA]; exact Arr.new w12 50 (u8s (List.replicate 32 0))
        have HG : Hid (Y.heap.size ≤ w12.heap.size) := HB.out.size
        replace HR : Hid (RdN w16.heap.size w16 (some ⟨g, 0, none⟩) (HD ++ pk)) := by rw [← hWA]; exact (HR.out.below ((Below.refl _ _).alloc (Nat.le_refl _) _) (Nat.le_refl _)).mono (by simp)
        replace HB : Hid (Below Y.heap.size Y w16) := by rw [← hWA]; exact HB.out.alloc HB.out.size _
        go_simp
        try rw [hWA2]
        clear hWA hWA2
        refine hK.out _ _ (HS.out _ HB.out) (fun hS6 => ?_)
        clear hK K
        refine wpAnyH_ready (rs := [6]) (by kernel_rfl) (by simp) ?_
        refine AllReadyH.cons rfl (fun K hK => ?_) AllReadyH.nil
        go_simp
        go_at_call 26
        with_reducible refine (HMAC.out g c _ (HRS.out _ HB.out) HR.out).mono ?_
        rintro e w17 ⟨rfl, hb⟩
        replace HA := Lib.hid (HA.out.below hb HA.out.lt)
        replace HB := Lib.hid (HB.out.trans (hb.mono HB.out.size))
        clear hb HR
        go_simp
        refine hK.out _ _ (HS.out _ HB.out) (fun hS7 => ?_)
        clear hK K
        refine wpAnyH_ready (rs := [8]) (by kernel_rfl) (by simp) ?_
        refine AllReadyH.cons rfl (fun K hK => ?_) AllReadyH.nil
        rw [if_pos (by kernel_rfl)]
        refine wp_store_arr 50 (.tmp 7) (.tmp 18) rfl _ rfl rfl HA.out Tryd.size50 hM32 (by simp [u8s_len]) (u8s_one _) ?_
        intro w18 A8 B8
        replace HB := Lib.hid (HB.out.trans (B8.out.mono HG.out))
        refine hK.out _ _ (HS.out _ HB.out) (fun hS8 => ?_)
        clear hK K
        simp only [Act.put]
        refine wpAnyH_done (by kernel_rfl) ?_ _
        go_wp2
        go_ret
        have hr := (RdN.arr A8.out A8.out.lt).part 0 16
        rw [List.drop_zero] at hr
        exact ⟨⟨_, 32, rfl, hr⟩, HBY.out.trans (HB.out.mono HBY.out.size)⟩
    · obtain ⟨w19, hWA⟩ : ∃ WA, w11.alloc (.cells (u8s (List.replicate 32 0)).toArray 50) = WA := ⟨_, rfl⟩
      have hWA2 : w11.alloc (.cells #[.int .u8 0, .int .u8 0, .int .u8 0, .int .u8 0, .int .u8 0, .int .u8 0, .int .u8 0, .int .u8 0, .int .u8 0, .int .u8 0, .int .u8 0, .int .u8 0, .int .u8 0, .int .u8 0, .int .u8 0, .int .u8 0, .int .u8 0, .int .u8 0, .int .u8 0, .int .u8 0, .int .u8 0, .int .u8 0, .int .u8 0, .int .u8 0, .int .u8 0, .int .u8 0, .int .u8 0, .int .u8 0, .int .u8 0, .int .u8 0, .int .u8 0, .int .u8 0] 50) = w19 := hWA
      have HA : Hid (Arr w19 w11.heap.size 50 (u8s (List.replicate 32 0))) := by rw [← hWA]; exact Arr.new w11 50 (u8s (List.replicate 32 0))
      have HG : Hid (Y.heap.size ≤ w11.heap.size) := HB.out.size
      replace HO : Hid (w19.ownsRow Y.heap.size 5 1 vt HD.length (u8s HD)) := by rw [← hWA]; exact HO.out.alloc _
      replace HB : Hid (Below Y.heap.size Y w19) := by rw [← hWA]; exact HB.out.alloc HB.out.size _
      go_simp
      try rw [hWA2]
      clear hWA hWA2
      refine hK.out _ _ (HS.out _ HB.out) (fun hS9 => ?_)
      clear hK K
      refine wpAnyH_ready (rs := [5]) (by kernel_rfl) (by simp) ?_
      refine AllReadyH.cons rfl (fun K hK => ?_) AllReadyH.nil
      rw [if_pos (by kernel_rfl)]
      refine wp_append_grow hi hz0 hz1 hz2 (.tmp 15) (.tmp 16) rfl Y.heap.size _ HD rfl HO.out rfl rfl (HRP.out _ HB.out) (by rw [HDL.out]; omega) HB.out.size ?_
      intro v5 w20 ho5 hg5
      replace HA := Lib.hid (HA.out.grown hg5.out (own_arr_apart HO.out HA.out))
      replace HB := Lib.hid (HB.out.grown hg5.out HB.out.size (fun k hk => (HO.out.lt k hk).1))
      obtain ⟨g, c, rfl, _, _, _, hrd⟩ := own_rd ho5.out (by rw [HLL.out]; omega)
      have HR := Lib.hid hrd
      rw [HLL.out]
      clear ho5 hg5 hrd HO
      refine hK.out _ _ (HS.out _ HB.out) (fun hS10 => ?_)
      clear hK K
      simp only [Act.put, List.setIfInBounds_toArray, List.set_cons_zero, List.set_cons_succ]
      refine wpAnyH_ready (rs := [6]) (by kernel_rfl) (by simp) ?_
      refine AllReadyH.cons rfl (fun K hK => ?_) AllReadyH.nil
      go_simp
      go_at_call 26
      with_reducible refine (HMAC.out g c _ (HRS.out _ HB.out) HR.out).mono ?_
      rintro e w21 ⟨rfl, hb⟩
      replace HA := Lib.hid (HA.out.below hb HA.out.lt)
      replace HB := Lib.hid (HB.out.trans (hb.mono HB.out.size))
      clear hb HR
      go_simp
      refine hK.out _ _ (HS.out _ HB.out) (fun hS11 => ?_)
      clear hK K
      refine wpAnyH_ready (rs := [8]) (by kernel_rfl) (by simp) ?_
      refine AllReadyH.cons rfl (fun K hK => ?_) AllReadyH.nil
      rw [if_pos (by kernel_rfl)]
      refine wp_store_arr 50 (.tmp 7) (.tmp 18) rfl _ rfl rfl HA.out Tryd.size50 hM32 (by simp [u8s_len]) (u8s_one _) ?_
      intro w22 A8 B8
      replace HB := Lib.hid (HB.out.trans (B8.out.mono HG.out))
      refine hK.out _ _ (HS.out _ HB.out) (fun hS12 => ?_)
      clear hK K
      simp only [Act.put]
      refine wpAnyH_done (by kernel_rfl) ?_ _
      go_wp2
      go_ret
      have hr := (RdN.arr A8.out A8.out.lt).part 0 16
      rw [List.drop_zero] at hr
      exact ⟨⟨_, 32, rfl, hr⟩, HBY.out.trans (HB.out.mono HBY.out.size)⟩
  · obtain ⟨w23, hWA⟩ : ∃ WA, Y.drew.alloc (.cells (u8s (List.replicate 32 0)).toArray 50) = WA := ⟨_, rfl⟩
    have hWA2 : Y.drew.alloc (.cells #[.int .u8 0, .int .u8 0, .int .u8 0, .int .u8 0, .int .u8 0, .int .u8 0, .int .u8 0, .int .u8 0, .int .u8 0, .int .u8 0, .int .u8 0, .int .u8 0, .int .u8 0, .int .u8 0, .int .u8 0, .int .u8 0, .int .u8 0, .int .u8 0, .int .u8 0, .int .u8 0, .int .u8 0, .int .u8 0, .int .u8 0, .int .u8 0, .int .u8 0, .int .u8 0, .int .u8 0, .int .u8 0, .int .u8 0, .int .u8 0, .int .u8 0, .int .u8 0] 50) = w23 := hWA
    have HA : Hid (Arr w23 Y.heap.size 50 (u8s (List.replicate 32 0))) := by rw [← hWA]; exact Arr.new Y.drew 50 (u8s (List.replicate 32 0))
    have HG : Hid (Y.heap.size ≤ Y.heap.size) := HB.out.size
    replace HB : Hid (Below Y.heap.size Y w23) := by rw [← hWA]; exact HB.out.alloc HB.out.size _
    go_simp
    try rw [hWA2]
    clear hWA hWA2
    refine hK.out _ _ (HS.out _ HB.out) (fun hS13 => ?_)
    clear hK K
    refine wpAnyH_ready (rs := [3]) (by kernel_rfl) (by simp) ?_
    refine AllReadyH.cons rfl (fun K hK => ?_) AllReadyH.nil
    go_simp
    go_at_call 27
    with_reducible refine (HTOP.out _).mono ?_
    rintro e w24 ⟨⟨vt, rfl, ho⟩, hb⟩
    have HO : Hid (w24.ownsRow Y.heap.size 5 1 vt HD.length (u8s HD)) := own_base ho.out HB.out.size
    replace HA := Lib.hid (HA.out.below hb HA.out.lt)
    replace HB := Lib.hid (HB.out.trans (hb.mono HB.out.size))
    clear hb ho
    go_simp
    refine hK.out _ _ (HS.out _ HB.out) (fun hS14 => ?_)
    clear hK K
    refine wpAnyH_ready (rs := [5]) (by kernel_rfl) (by simp) ?_
    refine AllReadyH.cons rfl (fun K hK => ?_) AllReadyH.nil
    rw [if_pos (by kernel_rfl)]
    refine wp_append_grow hi hz0 hz1 hz2 (.tmp 15) (.tmp 16) rfl Y.heap.size _ HD rfl HO.out rfl rfl (HRP.out _ HB.out) (by rw [HDL.out]; omega) HB.out.size ?_
    intro v5 w25 ho5 hg5
    replace HA := Lib.hid (HA.out.grown hg5.out (own_arr_apart HO.out HA.out))
    replace HB := Lib.hid (HB.out.grown hg5.out HB.out.size (fun k hk => (HO.out.lt k hk).1))
    obtain ⟨g, c, rfl, _, _, _, hrd⟩ := own_rd ho5.out (by rw [HLL.out]; omega)
    have HR := Lib.hid hrd
    rw [HLL.out]
    clear ho5 hg5 hrd HO
    refine hK.out _ _ (HS.out _ HB.out) (fun hS15 => ?_)
    clear hK K
    simp only [Act.put, List.setIfInBounds_toArray, List.set_cons_zero, List.set_cons_succ]
    refine wpAnyH_ready (rs := [6]) (by kernel_rfl) (by simp) ?_
    refine AllReadyH.cons rfl (fun K hK => ?_) AllReadyH.nil
    go_simp
    go_at_call 26
    with_reducible refine (HMAC.out g c _ (HRS.out _ HB.out) HR.out).mono ?_
    rintro e w26 ⟨rfl, hb⟩
    replace HA := Lib.hid (HA.out.below hb HA.out.lt)
    replace HB := Lib.hid (HB.out.trans (hb.mono HB.out.size))
    clear hb HR
    go_simp
    refine hK.out _ _ (HS.out _ HB.out) (fun hS16 => ?_)
    clear hK K
    refine wpAnyH_ready (rs := [8]) (by kernel_rfl) (by simp) ?_
    refine AllReadyH.cons rfl (fun K hK => ?_) AllReadyH.nil
    rw [if_pos (by kernel_rfl)]
    refine wp_store_arr 50 (.tmp 7) (.tmp 18) rfl _ rfl rfl HA.out Tryd.size50 hM32 (by simp [u8s_len]) (u8s_one _) ?_
    intro w27 A8 B8
    replace HB := Lib.hid (HB.out.trans (B8.out.mono HG.out))
    refine hK.out _ _ (HS.out _ HB.out) (fun hS17 => ?_)
    clear hK K
    simp only [Act.put]
    refine wpAnyH_done (by kernel_rfl) ?_ _
    go_wp2
    go_ret
    have hr := (RdN.arr A8.out A8.out.lt).part 0 16
    rw [List.drop_zero] at hr
    exact ⟨⟨_, 32, rfl, hr⟩, HBY.out.trans (HB.out.mono HBY.out.size)⟩
theorem rprint_any (id : Int) (sA : Option Addr) (sc : Nat) (sec : List Nat) (hsb : ∀ x ∈ sec, x < 256) (hsl : sec.length ≤ 1000000) (k l r f : Nat) (h1 : k < 256) (h2 : l < 65536) (h3 : r < 65536) (h4 : f < 4294967296)
    (pA : Option Addr) (pc : Nat) (pk : List Nat) (hpb : ∀ x ∈ pk, x < 256) (hpl : pk.length ≤ 900000) (w : World) (hrs : RdN w.heap.size w sA sec) (hrp : RdN w.heap.size w pA pk) :
    Calls Tryd.prog 16 #[.agg #[.int .i64 id, .slice sA sec.length sc], .agg #[.int .i64 k, .int .i64 l, .int .i64 r, .int .i64 f], .slice pA pk.length pc] w fun e w' => (∃ g c, e = .returned (.slice (some ⟨g, 0, none⟩) 16 c) ∧ RdN w'.heap.size w' (some ⟨g, 0, none⟩) (printL k sec (headL k l r f) pk)) ∧ Below w.heap.size w w' := by
  by_cases hk0 : (k : Int) = 0
  · unfold printL
    rw [if_pos hk0, hk0]
    exact rprint_zero id _ l r f _ w
  · unfold printL
    rw [if_neg hk0]
    exact rprint_some id sA sc sec hsb hsl k l r f h1 h2 h3 h4 hk0 pA pc pk hpb hpl w hrs hrp
end Go.Proofs.YtmmocnokgcgmnaaDoor
