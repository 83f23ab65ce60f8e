/-
  THE DOCUMENT'S END: Right, New, falls, Say, Tick, Level.
-/
import Derived.Test.YticbfmbinopjcaaLDo
namespace Go.Proofs.Yticbfmbinopjcaa
set_option linter.unusedSimpArgs false
set_option linter.unusedVariables false
open Go.RowKit
set_option maxHeartbeats 800000 in
set_option maxRecDepth 100000 in
theorem rwithinL_any (n a b : Int) (w : World) : Calls Try.prog 36 #[.int .i64 n, .int .i64 a, .int .i64 b] w fun e w' => Says e (a ≤ n ∧ n ≤ b) ∧ w' = w := by
  go_enter Try.func36, Try.ntmps36
  go_wp2
  all_goals go_ret
  all_goals refine ⟨Says.of ?_, rfl⟩
  all_goals first
    | (simp; done)
    | (simp; omega)
theorem rtime_any (n : Int) (w : World) : Calls Try.prog 36 #[.int .i64 n, .int .i64 0, .int .i64 1099511627776] w fun e w' => Says e (timeB n) ∧ w' = w := rwithinL_any n 0 1099511627776 w
theorem rlevel_any (n : Int) (w : World) : Calls Try.prog 36 #[.int .i64 n, .int .i64 (-1), .int .i64 24] w fun e w' => Says e (-1 ≤ n ∧ n ≤ 24) ∧ w' = w := rwithinL_any n (-1) 24 w
set_option maxHeartbeats 3200000 in
set_option maxRecDepth 100000 in
theorem rport_any (p : PortT) (w : World) : Calls Try.prog 29 #[.agg #[.int .i64 p.node, .int .i64 p.level, .int .i64 p.pod, .int .i64 p.mtu, .int .i64 p.link, .int .i64 p.hold]] w fun e w' => Says e (portB p) ∧ Below w.heap.size w w' := by
  have hw := rwithinL_any
  go_enter Try.func29, Try.ntmps29
  go_wp2_with (go_at_call 36; refine (hw _ _ _ _).mono ?_; rintro e w1 ⟨⟨x, rfl, hx⟩, rfl⟩; have HX := Lib.hid hx; clear hx)
  all_goals go_ret
  all_goals refine ⟨Says.of ?_, (Below.refl _ w).alloc (Nat.le_refl _) _⟩
  all_goals unfold portB
  all_goals simp_all [Hid]
  all_goals (try omega)
set_option maxHeartbeats 1600000 in
set_option maxRecDepth 100000 in
theorem rnew_none (p : PortT) (hp : ¬ portB p) (w : World) : Calls Try.prog 13 #[.agg #[.int .i64 p.node, .int .i64 p.level, .int .i64 p.pod, .int .i64 p.mtu, .int .i64 p.link, .int .i64 p.hold]] w fun e w' => e = .returned (.tuple #[.pointer none, .int .i64 1]) ∧ Below w.heap.size w w' := by
  have hw := fun w => (rport_any p w).mono fun e w' h => (⟨h.1.dec, h.2⟩ : e = .returned (.bool (decide (portB p))) ∧ Below w.heap.size w w')
  rw [decide_eq_false hp] at hw
  have B0 : ∀ A : Obj, RowKit.Hid (Below w.heap.size w (w.alloc A)) := fun A => (Below.refl _ w).alloc (Nat.le_refl _) _
  clear hp
  go_enter Try.func13, Try.ntmps13
  go_wp2_with (go_at_call 29; refine (hw _).mono ?_; rintro e w1 ⟨rfl, hb⟩; have HB := Lib.hid hb; clear hb)
  go_ret2
  exact ⟨rfl, (B0 _).out.trans (HB.out.mono (by simp))⟩
set_option maxHeartbeats 1600000 in
set_option maxRecDepth 100000 in
theorem rnew_some (p : PortT) (hp : portB p) (w : World) : Calls Try.prog 13 #[.agg #[.int .i64 p.node, .int .i64 p.level, .int .i64 p.pod, .int .i64 p.mtu, .int .i64 p.link, .int .i64 p.hold]] w (NewP 46 p w) := by
  have hw := fun w => (rport_any p w).mono fun e w' h => (⟨h.1.dec, h.2⟩ : e = .returned (.bool (decide (portB p))) ∧ Below w.heap.size w w')
  rw [decide_eq_true hp] at hw
  have B0 : ∀ A : Obj, RowKit.Hid (Below w.heap.size w (w.alloc A)) := fun A => (Below.refl _ w).alloc (Nat.le_refl _) _
  have RG : RowKit.Hid (∀ w2, Below (w.heap.size + 1) (w.alloc (.cells #[.int .i64 p.node, .int .i64 p.level, .int .i64 p.pod, .int .i64 p.mtu, .int .i64 p.link, .int .i64 p.hold] 23)) w2 → w2.rangeAt w.heap.size 0 [.int .i64 p.node, .int .i64 p.level, .int .i64 p.pod, .int .i64 p.mtu, .int .i64 p.link, .int .i64 p.hold]) := fun w2 h => range_box (World.alloc_heap_new w _) h (Nat.lt_succ_self _)
  clear hp
  go_enter Try.func13, Try.ntmps13
  go_wp2_with (first
    | (go_at_call 29; refine (hw _).mono ?_; rintro e w1 ⟨rfl, hb⟩; have HB := Lib.hid hb; have RG1 := Lib.hid (RG.out w1 (by simpa using hb)); clear hb RG)
    | (refine wpList_load_mid rfl 23 (.tmp 1) rfl _ _ rfl _ _ RG1.out Try.underlying23 rfl (by kernel_rfl) ?_))
  go_ret2
  exact NewP.of ((B0 _).out.trans (HB.out.mono (by simp)))
set_option maxHeartbeats 800000 in
set_option maxRecDepth 100000 in
theorem rfalls_any {W : World} {b : Nat} {e : EndT} (h : EndP 46 W b e) (s : Int) : Calls Try.prog 38 #[.pointer (some ⟨b, 0, none⟩), .int .i64 s] W fun en W' => en = .returned (.tuple #[]) ∧ EndP 46 W' b (fallE e s) ∧ But b W W' := by
  have fz := h.frozen
  obtain ⟨c0, c1, c2, c3, c4, c5⟩ := h.cells
  obtain ⟨c6, c7, c8, c9, c10, c11, c12⟩ := h.cells2
  have H := Lib.hid h
  clear h
  go_enter Try.func38, Try.ntmps38
  go_wp2
  go_end0
  exact ⟨rfl, heap_setCell_same _ b _ _ _ _ (heap_setCell_same _ b _ _ _ _ (heap_setCell_same _ b _ _ _ _ (heap_setCell_same _ b _ _ _ _ (heap_setCell_same _ b _ _ _ _ H.out)))), (((((But.refl b W).set _ _).set _ _).set _ _).set _ _).set _ _⟩
set_option maxHeartbeats 1600000 in
set_option maxRecDepth 100000 in
theorem rsay_any {W : World} {b : Nat} {e : EndT} (h : EndP 46 W b e) : Calls Try.prog 23 #[.pointer (some ⟨b, 0, none⟩)] W fun en W' => en = .returned (.agg #[.int .i64 e.p.node, .int .i64 e.p.level, .int .i64 e.p.pod, .int .i64 e.p.mtu, .int .i64 e.p.link, .int .i64 e.nonce, .int .i64 e.o.node, .int .i64 e.o.link, .int .i64 e.o.nonce, .int .i64 e.p.hold, .bool false, .bool false]) ∧ Below W.heap.size W W' := by
  obtain ⟨C, hC⟩ : ∃ C, W.alloc (.cells #[.int .i64 0, .int .i64 0, .int .i64 0, .int .i64 0, .int .i64 0, .int .i64 0, .int .i64 0, .int .i64 0, .int .i64 0, .int .i64 0, .bool false, .bool false] 25) = C := ⟨_, rfl⟩
  obtain ⟨U, hU⟩ : ∃ U, C.drew = U := ⟨_, rfl⟩
  have h0 : EndP 46 U b e := h.same (by rw [← hU, ← hC]; exact heap_alloc_old W _ h.lt)
  have lu : LieP U W.heap.size LieT.zero := by rw [← hU, ← hC]; exact LieP.new W LieT.zero
  have bu : Below W.heap.size W U := by rw [← hU, ← hC]; exact ((Below.refl _ W).alloc (Nat.le_refl _) _).drew
  have hne := h0.ne_lie lu (by decide)
  have lz := lu.frozen
  obtain ⟨d0, d1, d2, d3, d4, d5, d6, d7, d8, d9, d10, d11⟩ := lu.all
  obtain ⟨c0, c1, c2, c3, c4, c5⟩ := h0.cells
  obtain ⟨c6, c7, c8, c9, c10, c11, c12⟩ := h0.cells2
  have HC := Lib.hid hC
  have HU := Lib.hid hU
  have LU := Lib.hid lu
  have BU := Lib.hid bu
  clear h h0 hC hU lu bu
  go_enter Try.func23, Try.ntmps23
  go_wp2
  rw [HC.out]
  refine region_tail 50 (by kernel_rfl) (by kernel_rfl) U HU.out ?_
  simp only [List.take_succ_cons, List.take_zero, List.drop_succ_cons, List.drop_zero]
  repeat still_step
  refine wpStill_nil ?_
  go_wp2
  refine bodyPost_ret (results_row1 (cs := [.int .i64 e.p.node, .int .i64 e.p.level, .int .i64 e.p.pod, .int .i64 e.p.mtu, .int .i64 e.p.link, .int .i64 e.nonce, .int .i64 e.o.node, .int .i64 e.o.link, .int .i64 e.o.nonce, .int .i64 e.p.hold, .bool false, .bool false]) rfl rfl (LieP.range (LU.out.put (sayE e))) Try.underlying25 rfl (by kernel_rfl)) rfl ?_
  exact ⟨rfl, ((((((((((((BU.out.setCell (p := ⟨W.heap.size, 0, none⟩) (Nat.le_refl _) _).setCell (p := ⟨W.heap.size, 1, none⟩) (Nat.le_refl _) _).setCell (p := ⟨W.heap.size, 2, none⟩) (Nat.le_refl _) _).setCell (p := ⟨W.heap.size, 3, none⟩) (Nat.le_refl _) _).setCell (p := ⟨W.heap.size, 4, none⟩) (Nat.le_refl _) _).setCell (p := ⟨W.heap.size, 5, none⟩) (Nat.le_refl _) _).setCell (p := ⟨W.heap.size, 6, none⟩) (Nat.le_refl _) _).setCell (p := ⟨W.heap.size, 7, none⟩) (Nat.le_refl _) _).setCell (p := ⟨W.heap.size, 8, none⟩) (Nat.le_refl _) _).setCell (p := ⟨W.heap.size, 9, none⟩) (Nat.le_refl _) _).setCell (p := ⟨W.heap.size, 10, none⟩) (Nat.le_refl _) _).setCell (p := ⟨W.heap.size, 11, none⟩) (Nat.le_refl _) _)⟩
set_option maxHeartbeats 1600000 in
set_option maxRecDepth 100000 in
theorem rtick_any {W : World} {b : Nat} {e : EndT} (h : EndP 46 W b e) (now : Int) : Calls Try.prog 17 #[.pointer (some ⟨b, 0, none⟩), .int .i64 now] W fun en W' => en = .returned (.int .i64 (tickE e now).1) ∧ EndP 46 W' b (tickE e now).2 ∧ But b W W' := by
  have ht := fun W => (rtime_any now W).mono fun e w' h => (⟨h.1.dec, h.2⟩ : e = .returned (.bool (decide (timeB now))) ∧ w' = W)
  have H := Lib.hid h
  have fz := h.frozen
  obtain ⟨c0, c1, c2, c3, c4, c5⟩ := h.cells
  obtain ⟨c6, c7, c8, c9, c10, c11, c12⟩ := h.cells2
  have hlt := h.lt
  have hne : b ≠ W.heap.size := by omega
  have hne2 : W.heap.size ≠ b := by omega
  clear h
  by_cases k : timeB now
  · rw [decide_eq_true k] at ht
    have hn := rnext_any e.nonce
    obtain ⟨C, hC⟩ : ∃ C, W.setCell ⟨b, 7, none⟩ (.int .i64 (nextN e.nonce)) = C := ⟨_, rfl⟩
    have ec : EndP 46 C b { e with nonce := nextN e.nonce } := by rw [← hC]; exact heap_setCell_same _ b _ _ _ _ H.out
    have bc : But b W C := by rw [← hC]; exact (But.refl b W).set _ _
    have hf := rfalls_any ec 0
    have EC := Lib.hid ec
    have BC := Lib.hid bc
    have HC := Lib.hid hC
    by_cases k1 : e.s ≠ 0
    · by_cases k2 : e.till ≤ now
      · have K : RowKit.Hid (tickE e now = (0, fallE { e with nonce := nextN e.nonce } 0)) := by unfold Hid tickE; rw [if_neg (by simpa using k), if_pos ⟨k1, k2⟩]
        clear k ec bc hC
        go_enter Try.func17, Try.ntmps17
        go_wp2_with (first
          | (go_at_call 36; refine (ht _).mono ?_; rintro en w1 ⟨rfl, rfl⟩)
          | (go_at_call 41; refine (hn _).mono ?_; rintro en w1 ⟨hen, rfl⟩; unfold Tells at hen; subst hen)
          | (go_at_call 38; rw [HC.out]; refine hf.mono ?_; rintro en w2 ⟨rfl, h1, h2⟩; have H1 := Lib.hid h1; have H2 := Lib.hid h2; clear h1 h2))
        go_ret
        rw [K.out]
        exact ⟨rfl, H1.out, BC.out.trans H2.out⟩
      · have K : RowKit.Hid (tickE e now = (0, { e with nonce := nextN e.nonce })) := by unfold Hid tickE; rw [if_neg (by simpa using k), if_neg (fun h => k2 h.2)]
        clear k ec bc hC hf
        go_enter Try.func17, Try.ntmps17
        go_wp2_with (first
          | (go_at_call 36; refine (ht _).mono ?_; rintro en w1 ⟨rfl, rfl⟩)
          | (go_at_call 41; refine (hn _).mono ?_; rintro en w1 ⟨hen, rfl⟩; unfold Tells at hen; subst hen))
        go_ret
        rw [K.out, HC.out]
        exact ⟨rfl, EC.out, BC.out⟩
    · have K : RowKit.Hid (tickE e now = (0, { e with nonce := nextN e.nonce })) := by unfold Hid tickE; rw [if_neg (by simpa using k), if_neg (fun h => k1 h.1)]
      have k0 : e.s = 0 := by omega
      rw [k0] at c6
      clear k k1 k0 ec bc hC hf
      go_enter Try.func17, Try.ntmps17
      go_wp2_with (first
        | (go_at_call 36; refine (ht _).mono ?_; rintro en w1 ⟨rfl, rfl⟩)
        | (go_at_call 41; refine (hn _).mono ?_; rintro en w1 ⟨hen, rfl⟩; unfold Tells at hen; subst hen))
      go_ret
      rw [K.out, HC.out]
      exact ⟨rfl, EC.out, BC.out⟩
  · rw [decide_eq_false k] at ht
    have K : RowKit.Hid (tickE e now = (1, e)) := by unfold Hid tickE; rw [if_pos k]
    clear k
    go_enter Try.func17, Try.ntmps17
    go_wp2_with (go_at_call 36; refine (ht _).mono ?_; rintro en w1 ⟨rfl, rfl⟩)
    go_ret
    rw [K.out]
    exact ⟨rfl, H.out, But.refl b _⟩
set_option maxHeartbeats 1600000 in
set_option maxRecDepth 100000 in
theorem rlevelE_any {W : World} {b : Nat} {e : EndT} (h : EndP 46 W b e) (l : Int) : Calls Try.prog 19 #[.pointer (some ⟨b, 0, none⟩), .int .i64 l] W fun en W' => en = .returned (.int .i64 (levelE e l).1) ∧ EndP 46 W' b (levelE e l).2 ∧ But b W W' := by
  have ht := fun W => (rlevel_any l W).mono fun e w' h => (⟨h.1.dec, h.2⟩ : e = .returned (.bool (decide (-1 ≤ l ∧ l ≤ 24))) ∧ w' = W)
  have H := Lib.hid h
  have fz := h.frozen
  obtain ⟨c0, c1, c2, c3, c4, c5⟩ := h.cells
  obtain ⟨c6, c7, c8, c9, c10, c11, c12⟩ := h.cells2
  have hlt := h.lt
  have hne : b ≠ W.heap.size := by omega
  have hne2 : W.heap.size ≠ b := by omega
  clear h
  by_cases k : -1 ≤ l ∧ l ≤ 24
  · rw [decide_eq_true k] at ht
    by_cases k1 : l = e.p.level
    · have K : RowKit.Hid (levelE e l = (0, e)) := by unfold Hid levelE; rw [if_neg (by simpa using k), if_pos k1]
      rw [← k1] at c1
      clear k k1
      go_enter Try.func19, Try.ntmps19
      go_wp2_with (go_at_call 36; refine (ht _).mono ?_; rintro en w1 ⟨rfl, rfl⟩)
      go_ret
      rw [K.out]
      exact ⟨rfl, H.out, But.refl b _⟩
    · obtain ⟨C, hC⟩ : ∃ C, W.setCell ⟨b, 1, none⟩ (.int .i64 l) = C := ⟨_, rfl⟩
      have ec : EndP 46 C b { e with p := { e.p with level := l } } := by rw [← hC]; exact heap_setCell_same _ b _ _ _ _ H.out
      have bc : But b W C := by rw [← hC]; exact (But.refl b W).set _ _
      have hf := rfalls_any ec 0
      have BC := Lib.hid bc
      have HC := Lib.hid hC
      have K : RowKit.Hid (levelE e l = (0, fallE { e with p := { e.p with level := l } } 0)) := by unfold Hid levelE; rw [if_neg (by simpa using k), if_neg k1]
      clear k ec bc hC
      go_enter Try.func19, Try.ntmps19
      go_wp2_with (first
        | (go_at_call 36; refine (ht _).mono ?_; rintro en w1 ⟨rfl, rfl⟩)
        | (go_at_call 38; rw [HC.out]; refine hf.mono ?_; rintro en w2 ⟨rfl, h1, h2⟩; have H1 := Lib.hid h1; have H2 := Lib.hid h2; clear h1 h2))
      go_ret
      rw [K.out]
      exact ⟨rfl, H1.out, BC.out.trans H2.out⟩
  · rw [decide_eq_false k] at ht
    have K : RowKit.Hid (levelE e l = (1, e)) := by unfold Hid levelE; rw [if_pos k]
    clear k
    go_enter Try.func19, Try.ntmps19
    go_wp2_with (go_at_call 36; refine (ht _).mono ?_; rintro en w1 ⟨rfl, rfl⟩)
    go_ret
    rw [K.out]
    exact ⟨rfl, H.out, But.refl b _⟩
end Go.Proofs.Yticbfmbinopjcaa
