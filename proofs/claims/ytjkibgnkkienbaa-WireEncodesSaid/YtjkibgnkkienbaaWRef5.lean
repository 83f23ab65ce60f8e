/-
  THE DOCUMENT's fields of a head, a lie.
-/
import Derived.Test.YtjkibgnkkienbaaWRef4
namespace Go.Proofs.Ytjkibgnkkienbaa
open Go.RowKit Go.Shelf
set_option linter.unusedVariables false

theorem headI_ints (x : HeadT) : opI 1 (idI x.id) ++ intsI 2 [x.seq, x.life] = headI x := rfl
theorem idI_len (x : IdT) : (idI x).length = 4 := rfl
set_option maxRecDepth 100000 in
set_option maxHeartbeats 16000000 in
theorem headItems_any (x : HeadT) (w : World) : Calls Try.prog 21 #[.agg #[.int .i64 x.id.dir, .int .i64 x.id.orig, .int .i64 x.id.kind, .int .i64 x.id.nr, .int .i64 x.seq, .int .i64 x.life]] w (GotE (headI x) w) := by
  have HB0 := Lib.hid ((Below.refl w.heap.size w).alloc (Nat.le_refl _) (.cells #[.int .i64 x.id.dir, .int .i64 x.id.orig, .int .i64 x.id.kind, .int .i64 x.id.nr, .int .i64 x.seq, .int .i64 x.life] 27))
  have RP : RowKit.Hid (∀ W, Below (w.heap.size + 1) (w.alloc (.cells #[.int .i64 x.id.dir, .int .i64 x.id.orig, .int .i64 x.id.kind, .int .i64 x.id.nr, .int .i64 x.seq, .int .i64 x.life] 27)) W → W.rangeAt w.heap.size 0 [.int .i64 x.id.dir, .int .i64 x.id.orig, .int .i64 x.id.kind, .int .i64 x.id.nr, .int .i64 x.seq, .int .i64 x.life]) := fun W hb => range_box (World.alloc_heap_new w _) hb (Nat.lt_succ_self _)
  have HSZ : RowKit.Hid ((w.alloc (.cells #[.int .i64 x.id.dir, .int .i64 x.id.orig, .int .i64 x.id.kind, .int .i64 x.id.nr, .int .i64 x.seq, .int .i64 x.life] 27)).heap.size = w.heap.size + 1) := by show _ = _; simp
  have BD := Lib.hid (show Below (w.heap.size + 1) (w.alloc (.cells #[.int .i64 x.id.dir, .int .i64 x.id.orig, .int .i64 x.id.kind, .int .i64 x.id.nr, .int .i64 x.seq, .int .i64 x.life] 27)) (w.alloc (.cells #[.int .i64 x.id.dir, .int .i64 x.id.orig, .int .i64 x.id.kind, .int .i64 x.id.nr, .int .i64 x.seq, .int .i64 x.life] 27)).drew from (Below.refl _ _).drew)
  go_enter Try.func21, Try.ntmps21
  go_wp2
  refine wp_region_held_drew (S := fun w' => Below (w.heap.size + 1) (w.alloc (.cells #[.int .i64 x.id.dir, .int .i64 x.id.orig, .int .i64 x.id.kind, .int .i64 x.id.nr, .int .i64 x.seq, .int .i64 x.life] 27)) w') (by kernel_rfl) BD.out (fun hHeld => ?_)
  refine takeD (i := 0) (d := 3) (v := ?v0) rfl rfl (by kernel_rfl) (by kernel_rfl) (by kernel_rfl) (fun _ _ _ h => h) rfl ?h0 (by assumption) ?r0
  case h0 =>
    intro w2 hSw
    try dsimp only at hSw
    go_simp
    try with_reducible rfl
  simp only [List.setIfInBounds_toArray, List.set_cons_zero, List.set_cons_succ]
  refine takeLd (i := 1) (d := 4) rfl rfl (by kernel_rfl) (by kernel_rfl) (by kernel_rfl) (by rfl) 25 (.tmp 3) rfl w.heap.size 0 rfl [.int .i64 x.id.dir, .int .i64 x.id.orig, .int .i64 x.id.kind, .int .i64 x.id.nr] _ (fun w h => range_at (RP.out _ h) 0 4) Try.underlying25 rfl (by kernel_rfl) (fun _ _ _ h => h) (by assumption) ?_
  simp only [List.setIfInBounds_toArray, List.set_cons_zero, List.set_cons_succ]
  refine takeD (i := 4) (d := 7) (v := ?v4) rfl rfl (by kernel_rfl) (by kernel_rfl) (by kernel_rfl) (fun _ _ _ h => h) rfl ?h4 (by assumption) ?r4
  case h4 =>
    intro w2 hSw
    try dsimp only at hSw
    go_simp
    try with_reducible rfl
  simp only [List.setIfInBounds_toArray, List.set_cons_zero, List.set_cons_succ]
  refine takeD (i := 5) (d := 8) (v := ?v5) rfl rfl (by kernel_rfl) (by kernel_rfl) (by kernel_rfl) (fun _ _ _ h => h) rfl ?h5 (by assumption) ?r5
  case h5 =>
    intro w2 hSw
    try dsimp only at hSw
    have c4 := cell_at (RP.out _ hSw) 4 (show ([.int .i64 x.id.dir, .int .i64 x.id.orig, .int .i64 x.id.kind, .int .i64 x.id.nr, .int .i64 x.seq, .int .i64 x.life] : List Value)[4]? = some (.int .i64 x.seq) from rfl)
    go_simp
    try with_reducible rfl
  simp only [List.setIfInBounds_toArray, List.set_cons_zero, List.set_cons_succ]
  refine takeD (i := 6) (d := 9) (v := ?v6) rfl rfl (by kernel_rfl) (by kernel_rfl) (by kernel_rfl) (fun _ _ _ h => h) rfl ?h6 (by assumption) ?r6
  case h6 =>
    intro w2 hSw
    try dsimp only at hSw
    go_simp
    try with_reducible rfl
  simp only [List.setIfInBounds_toArray, List.set_cons_zero, List.set_cons_succ]
  refine takeD (i := 7) (d := 10) (v := ?v7) rfl rfl (by kernel_rfl) (by kernel_rfl) (by kernel_rfl) (fun _ _ _ h => h) rfl ?h7 (by assumption) ?r7
  case h7 =>
    intro w2 hSw
    try dsimp only at hSw
    have c5 := cell_at (RP.out _ hSw) 5 (show ([.int .i64 x.id.dir, .int .i64 x.id.orig, .int .i64 x.id.kind, .int .i64 x.id.nr, .int .i64 x.seq, .int .i64 x.life] : List Value)[5]? = some (.int .i64 x.life) from rfl)
    go_simp
    try with_reducible rfl
  simp only [List.setIfInBounds_toArray, List.set_cons_zero, List.set_cons_succ]
  refine wpAnyH_ready (rs := [2, 8]) (by kernel_rfl) (by simp) ?_
  refine AllReadyH.cons rfl (fun K hK => ?_) (AllReadyH.cons rfl (fun K hK => ?_) AllReadyH.nil)
  · go_simp
    go_wp2_with (go_at_call 20; refine (idItems_any x.id _).mono ?_; rintro e w1 ⟨A1, n1, c1, rfl, hn, ho, hb⟩; have I1N := Lib.hid hn; have I1 := Lib.hid (ho.less (show w.heap.size + 1 ≤ _ by have h1 := HSZ.out; have h2 := BD.out.size; first | omega | (simp at h2 ⊢; omega) | (simp; omega) | simp)); have B1 := Lib.hid (BD.out.trans (hb.mono (by have h1 := HSZ.out; have h2 := BD.out.size; first | omega | (simp at h2 ⊢; omega) | (simp; omega) | simp))); clear hn ho hb)
    refine hK.out _ _ B1.out (fun hHeld => ?_)
    clear hK K
    refine wpAnyH_ready (rs := [3, 8]) (by kernel_rfl) (by simp) ?_
    refine AllReadyH.cons rfl (fun K hK => ?_) (AllReadyH.cons rfl (fun K hK => ?_) AllReadyH.nil)
    · go_simp
      go_wp2_with (go_at_call 17; refine (open_any 1 I1N.out (by rw [idI_len]; omega) I1.out.src).mono ?_; rintro e w2 ⟨A2, n2, c2, rfl, hn, ho, hb⟩; have I2N := Lib.hid hn; have I2 := Lib.hid (ho.less (show w.heap.size + 1 ≤ _ by have h1 := HSZ.out; have h2 := B1.out.size; first | omega | (simp at h2 ⊢; omega) | (simp; omega) | simp)); have B2 := Lib.hid (B1.out.trans (hb.mono (by have h1 := HSZ.out; have h2 := B1.out.size; first | omega | (simp at h2 ⊢; omega) | (simp; omega) | simp))); clear hn ho hb)
      refine hK.out _ _ B2.out (fun hHeld => ?_)
      clear hK K
      refine wpAnyH_ready (rs := [8]) (by kernel_rfl) (by simp) ?_
      refine AllReadyH.cons rfl (fun K hK => ?_) AllReadyH.nil
      go_simp
      have hB3 := B2.out.alloc (by have h1 := HSZ.out; have h2 := B2.out.size; first | omega | (simp at h2 ⊢; omega)) (.cells #[.int .i64 x.seq, .int .i64 x.life] 3)
      refine hK.out _ _ hB3 (fun hHeld => ?_)
      clear hK K
      have hR3 := rd_built w2 #[.int .i64 x.seq, .int .i64 x.life] [x.seq, x.life] rfl
      have hI3 := I2.out.below ((Below.refl _ _).alloc (Nat.le_refl _) (.cells #[.int .i64 x.seq, .int .i64 x.life] 3))
      obtain ⟨w3, hw⟩ : ∃ W, (World.alloc w2 (.cells #[.int .i64 x.seq, .int .i64 x.life] 3)) = W := ⟨_, rfl⟩
      rw [hw] at hHeld hB3 hR3 hI3 ⊢
      have B3 := Lib.hid hB3
      have R3 := Lib.hid hR3
      have I3 := Lib.hid hI3
      have I3N := I2N
      clear hI3
      clear hB3 hR3 hw
      refine wpAnyH_ready (rs := [9]) (by kernel_rfl) (by simp) ?_
      refine AllReadyH.cons rfl (fun K hK => ?_) AllReadyH.nil
      go_simp
      go_wp2_with (go_at_call 16; refine (ints_any 2 (by decide) (by decide) (n := 2) (cap := 2) (zs := [x.seq, x.life]) rfl (by simp) R3.out).mono ?_; rintro e w4 ⟨A4, n4, c4, rfl, hn, ho, hb⟩; have J4N := Lib.hid hn; have J4 := Lib.hid ho.src; have I4 := Lib.hid (I3.out.below hb); have B4 := Lib.hid (B3.out.trans (hb.mono (by have h1 := HSZ.out; have h2 := B3.out.size; first | omega | (simp at h2 ⊢; omega) | (simp; omega) | simp))); clear hn ho hb)
      refine hK.out _ _ B4.out (fun hHeld => ?_)
      clear hK K
      refine wpAnyH_ready (rs := [10]) (by kernel_rfl) (by simp) ?_
      refine AllReadyH.cons rfl (fun K hK => ?_) AllReadyH.nil
      refine step_append_E 13 rfl (by rfl) (.tmp 6) (.tmp 12) rfl (w.heap.size + 1) _ (opI 1 (idI x.id)) rfl I4.out A4 (intsI 2 [x.seq, x.life]) n4 c4 rfl J4N.out J4.out (by simp [opI, idI, intsI]) (by have h1 := HSZ.out; have h2 := B4.out.size; first | omega | (simp at h2 ⊢; omega) | (simp; omega) | simp) ?_
      intro A5 n5 c5 w5 hn ho hb
      rw [headI_ints] at hn ho
      have F1 := Lib.hid hn
      have F2 := Lib.hid ho
      have B5S := Lib.hid (B4.out.trans hb)
      clear hn ho hb
      simp only [List.setIfInBounds_toArray, List.set_cons_zero, List.set_cons_succ]
      refine hK.out _ _ B5S.out (fun hHeld => ?_)
      clear hK K
      refine takeD (i := 11) (d := 2) (v := ?v11x5) rfl rfl (by kernel_rfl) (by kernel_rfl) (by kernel_rfl) (fun _ _ _ h => h) rfl ?h11x5 (by assumption) ?r11x5
      case h11x5 =>
        intro w2 hSw
        try dsimp only at hSw
        go_simp
        try with_reducible rfl
      simp only [List.setIfInBounds_toArray, List.set_cons_zero, List.set_cons_succ]
      refine wpAnyH_done (by kernel_rfl) ?_ _
      go_wp2
      go_ret
      exact ⟨A5, n5, c5, rfl, F1.out, F2.out.less (by omega), HB0.out.trans (B5S.out.mono (by omega))⟩
    · go_simp
      have hB6 := B1.out.alloc (by have h1 := HSZ.out; have h2 := B1.out.size; first | omega | (simp at h2 ⊢; omega)) (.cells #[.int .i64 x.seq, .int .i64 x.life] 3)
      refine hK.out _ _ hB6 (fun hHeld => ?_)
      clear hK K
      have hR6 := rd_built w1 #[.int .i64 x.seq, .int .i64 x.life] [x.seq, x.life] rfl
      have hI6 := I1.out.below ((Below.refl _ _).alloc (Nat.le_refl _) (.cells #[.int .i64 x.seq, .int .i64 x.life] 3))
      obtain ⟨w6, hw⟩ : ∃ W, (World.alloc w1 (.cells #[.int .i64 x.seq, .int .i64 x.life] 3)) = W := ⟨_, rfl⟩
      rw [hw] at hHeld hB6 hR6 hI6 ⊢
      have B6 := Lib.hid hB6
      have R6 := Lib.hid hR6
      have I6 := Lib.hid hI6
      have I6N := I1N
      clear hI6
      clear hB6 hR6 hw
      refine wpAnyH_ready (rs := [3]) (by kernel_rfl) (by simp) ?_
      refine AllReadyH.cons rfl (fun K hK => ?_) AllReadyH.nil
      go_simp
      go_wp2_with (go_at_call 17; refine (open_any 1 I6N.out (by rw [idI_len]; omega) I6.out.src).mono ?_; rintro e w7 ⟨A7, n7, c7, rfl, hn, ho, hb⟩; have I7N := Lib.hid hn; have I7 := Lib.hid (ho.less (show w.heap.size + 1 ≤ _ by have h1 := HSZ.out; have h2 := B6.out.size; first | omega | (simp at h2 ⊢; omega) | (simp; omega) | simp)); have B7 := Lib.hid (B6.out.trans (hb.mono (by have h1 := HSZ.out; have h2 := B6.out.size; first | omega | (simp at h2 ⊢; omega) | (simp; omega) | simp))); have R7 := Lib.hid ((R6.out.below hb).mono hb.size); clear hn ho hb)
      refine hK.out _ _ B7.out (fun hHeld => ?_)
      clear hK K
      refine wpAnyH_ready (rs := [9]) (by kernel_rfl) (by simp) ?_
      refine AllReadyH.cons rfl (fun K hK => ?_) AllReadyH.nil
      go_simp
      go_wp2_with (go_at_call 16; refine (ints_any 2 (by decide) (by decide) (n := 2) (cap := 2) (zs := [x.seq, x.life]) rfl (by simp) R7.out).mono ?_; rintro e w8 ⟨A8, n8, c8, rfl, hn, ho, hb⟩; have J8N := Lib.hid hn; have J8 := Lib.hid ho.src; have I8 := Lib.hid (I7.out.below hb); have B8 := Lib.hid (B7.out.trans (hb.mono (by have h1 := HSZ.out; have h2 := B7.out.size; first | omega | (simp at h2 ⊢; omega) | (simp; omega) | simp))); clear hn ho hb)
      refine hK.out _ _ B8.out (fun hHeld => ?_)
      clear hK K
      refine wpAnyH_ready (rs := [10]) (by kernel_rfl) (by simp) ?_
      refine AllReadyH.cons rfl (fun K hK => ?_) AllReadyH.nil
      refine step_append_E 13 rfl (by rfl) (.tmp 6) (.tmp 12) rfl (w.heap.size + 1) _ (opI 1 (idI x.id)) rfl I8.out A8 (intsI 2 [x.seq, x.life]) n8 c8 rfl J8N.out J8.out (by simp [opI, idI, intsI]) (by have h1 := HSZ.out; have h2 := B8.out.size; first | omega | (simp at h2 ⊢; omega) | (simp; omega) | simp) ?_
      intro A9 n9 c9 w9 hn ho hb
      rw [headI_ints] at hn ho
      have F1 := Lib.hid hn
      have F2 := Lib.hid ho
      have B9S := Lib.hid (B8.out.trans hb)
      clear hn ho hb
      simp only [List.setIfInBounds_toArray, List.set_cons_zero, List.set_cons_succ]
      refine hK.out _ _ B9S.out (fun hHeld => ?_)
      clear hK K
      refine takeD (i := 11) (d := 2) (v := ?v11x9) rfl rfl (by kernel_rfl) (by kernel_rfl) (by kernel_rfl) (fun _ _ _ h => h) rfl ?h11x9 (by assumption) ?r11x9
      case h11x9 =>
        intro w2 hSw
        try dsimp only at hSw
        go_simp
        try with_reducible rfl
      simp only [List.setIfInBounds_toArray, List.set_cons_zero, List.set_cons_succ]
      refine wpAnyH_done (by kernel_rfl) ?_ _
      go_wp2
      go_ret
      exact ⟨A9, n9, c9, rfl, F1.out, F2.out.less (by omega), HB0.out.trans (B9S.out.mono (by omega))⟩
  · go_simp
    have hB10 : Below (w.heap.size + 1) (w.alloc (.cells #[.int .i64 x.id.dir, .int .i64 x.id.orig, .int .i64 x.id.kind, .int .i64 x.id.nr, .int .i64 x.seq, .int .i64 x.life] 27)) ((w.alloc (.cells #[.int .i64 x.id.dir, .int .i64 x.id.orig, .int .i64 x.id.kind, .int .i64 x.id.nr, .int .i64 x.seq, .int .i64 x.life] 27)).alloc (.cells #[.int .i64 x.seq, .int .i64 x.life] 3)).drew := ((Below.refl _ _).alloc (by have h1 := HSZ.out; omega) _).drew
    refine hK.out _ _ hB10 (fun hHeld => ?_)
    clear hK K
    have hR0 := rd_built (w.alloc (.cells #[.int .i64 x.id.dir, .int .i64 x.id.orig, .int .i64 x.id.kind, .int .i64 x.id.nr, .int .i64 x.seq, .int .i64 x.life] 27)) #[.int .i64 x.seq, .int .i64 x.life] [x.seq, x.life] rfl
    rw [show (w.alloc (.cells #[.int .i64 x.id.dir, .int .i64 x.id.orig, .int .i64 x.id.kind, .int .i64 x.id.nr, .int .i64 x.seq, .int .i64 x.life] 27)).heap.size = w.heap.size + 1 by simp] at hR0
    have hR10 : Rd .i64 (((w.alloc (.cells #[.int .i64 x.id.dir, .int .i64 x.id.orig, .int .i64 x.id.kind, .int .i64 x.id.nr, .int .i64 x.seq, .int .i64 x.life] 27)).alloc (.cells #[.int .i64 x.seq, .int .i64 x.life] 3)).drew).heap.size (((w.alloc (.cells #[.int .i64 x.id.dir, .int .i64 x.id.orig, .int .i64 x.id.kind, .int .i64 x.id.nr, .int .i64 x.seq, .int .i64 x.life] 27)).alloc (.cells #[.int .i64 x.seq, .int .i64 x.life] 3)).drew) (some ⟨w.heap.size + 1, 0, none⟩) [x.seq, x.life] := hR0
    clear hR0
    obtain ⟨w10, hw⟩ : ∃ W, (((w.alloc (.cells #[.int .i64 x.id.dir, .int .i64 x.id.orig, .int .i64 x.id.kind, .int .i64 x.id.nr, .int .i64 x.seq, .int .i64 x.life] 27)).alloc (.cells #[.int .i64 x.seq, .int .i64 x.life] 3)).drew) = W := ⟨_, rfl⟩
    rw [hw] at hHeld hB10 hR10 ⊢
    have B10 := Lib.hid hB10
    have R10 := Lib.hid hR10
    clear hB10 hR10 hw
    refine wpAnyH_ready (rs := [2]) (by kernel_rfl) (by simp) ?_
    refine AllReadyH.cons rfl (fun K hK => ?_) AllReadyH.nil
    go_simp
    go_wp2_with (go_at_call 20; refine (idItems_any x.id _).mono ?_; rintro e w11 ⟨A11, n11, c11, rfl, hn, ho, hb⟩; have I11N := Lib.hid hn; have I11 := Lib.hid (ho.less (show w.heap.size + 1 ≤ _ by have h1 := HSZ.out; have h2 := B10.out.size; first | omega | (simp at h2 ⊢; omega) | (simp; omega) | simp)); have B11 := Lib.hid (B10.out.trans (hb.mono (by have h1 := HSZ.out; have h2 := B10.out.size; first | omega | (simp at h2 ⊢; omega) | (simp; omega) | simp))); have R11 := Lib.hid ((R10.out.below hb).mono hb.size); clear hn ho hb)
    refine hK.out _ _ B11.out (fun hHeld => ?_)
    clear hK K
    refine wpAnyH_ready (rs := [3]) (by kernel_rfl) (by simp) ?_
    refine AllReadyH.cons rfl (fun K hK => ?_) AllReadyH.nil
    go_simp
    go_wp2_with (go_at_call 17; refine (open_any 1 I11N.out (by rw [idI_len]; omega) I11.out.src).mono ?_; rintro e w12 ⟨A12, n12, c12, rfl, hn, ho, hb⟩; have I12N := Lib.hid hn; have I12 := Lib.hid (ho.less (show w.heap.size + 1 ≤ _ by have h1 := HSZ.out; have h2 := B11.out.size; first | omega | (simp at h2 ⊢; omega) | (simp; omega) | simp)); have B12 := Lib.hid (B11.out.trans (hb.mono (by have h1 := HSZ.out; have h2 := B11.out.size; first | omega | (simp at h2 ⊢; omega) | (simp; omega) | simp))); have R12 := Lib.hid ((R11.out.below hb).mono hb.size); clear hn ho hb)
    refine hK.out _ _ B12.out (fun hHeld => ?_)
    clear hK K
    refine wpAnyH_ready (rs := [9]) (by kernel_rfl) (by simp) ?_
    refine AllReadyH.cons rfl (fun K hK => ?_) AllReadyH.nil
    go_simp
    go_wp2_with (go_at_call 16; refine (ints_any 2 (by decide) (by decide) (n := 2) (cap := 2) (zs := [x.seq, x.life]) rfl (by simp) R12.out).mono ?_; rintro e w13 ⟨A13, n13, c13, rfl, hn, ho, hb⟩; have J13N := Lib.hid hn; have J13 := Lib.hid ho.src; have I13 := Lib.hid (I12.out.below hb); have B13 := Lib.hid (B12.out.trans (hb.mono (by have h1 := HSZ.out; have h2 := B12.out.size; first | omega | (simp at h2 ⊢; omega) | (simp; omega) | simp))); clear hn ho hb)
    refine hK.out _ _ B13.out (fun hHeld => ?_)
    clear hK K
    refine wpAnyH_ready (rs := [10]) (by kernel_rfl) (by simp) ?_
    refine AllReadyH.cons rfl (fun K hK => ?_) AllReadyH.nil
    refine step_append_E 13 rfl (by rfl) (.tmp 6) (.tmp 12) rfl (w.heap.size + 1) _ (opI 1 (idI x.id)) rfl I13.out A13 (intsI 2 [x.seq, x.life]) n13 c13 rfl J13N.out J13.out (by simp [opI, idI, intsI]) (by have h1 := HSZ.out; have h2 := B13.out.size; first | omega | (simp at h2 ⊢; omega) | (simp; omega) | simp) ?_
    intro A14 n14 c14 w14 hn ho hb
    rw [headI_ints] at hn ho
    have F1 := Lib.hid hn
    have F2 := Lib.hid ho
    have B14S := Lib.hid (B13.out.trans hb)
    clear hn ho hb
    simp only [List.setIfInBounds_toArray, List.set_cons_zero, List.set_cons_succ]
    refine hK.out _ _ B14S.out (fun hHeld => ?_)
    clear hK K
    refine takeD (i := 11) (d := 2) (v := ?v11x14) rfl rfl (by kernel_rfl) (by kernel_rfl) (by kernel_rfl) (fun _ _ _ h => h) rfl ?h11x14 (by assumption) ?r11x14
    case h11x14 =>
      intro w2 hSw
      try dsimp only at hSw
      go_simp
      try with_reducible rfl
    simp only [List.setIfInBounds_toArray, List.set_cons_zero, List.set_cons_succ]
    refine wpAnyH_done (by kernel_rfl) ?_ _
    go_wp2
    go_ret
    exact ⟨A14, n14, c14, rfl, F1.out, F2.out.less (by omega), HB0.out.trans (B14S.out.mono (by omega))⟩
theorem lieI_ints (x : LieT) : intsI 1 [x.node, x.level, x.pod, x.mtu, x.link, x.nonce, x.seen, x.seenLink, x.seenNonce, x.hold, bitI x.rep, bitI x.noOffer] = lieI x := rfl
set_option maxRecDepth 100000 in
set_option maxHeartbeats 16000000 in
theorem lieItems_any (x : LieT) (w : World) : Calls Try.prog 18 #[.agg #[.int .i64 x.node, .int .i64 x.level, .int .i64 x.pod, .int .i64 x.mtu, .int .i64 x.link, .int .i64 x.nonce, .int .i64 x.seen, .int .i64 x.seenLink, .int .i64 x.seenNonce, .int .i64 x.hold, .bool x.rep, .bool x.noOffer]] w (GotE (lieI x) w) := by
  have HB0 := Lib.hid ((Below.refl w.heap.size w).alloc (Nat.le_refl _) (.cells #[.int .i64 x.node, .int .i64 x.level, .int .i64 x.pod, .int .i64 x.mtu, .int .i64 x.link, .int .i64 x.nonce, .int .i64 x.seen, .int .i64 x.seenLink, .int .i64 x.seenNonce, .int .i64 x.hold, .bool x.rep, .bool x.noOffer] 23))
  have RP : RowKit.Hid (∀ W, Below (w.heap.size + 1) (w.alloc (.cells #[.int .i64 x.node, .int .i64 x.level, .int .i64 x.pod, .int .i64 x.mtu, .int .i64 x.link, .int .i64 x.nonce, .int .i64 x.seen, .int .i64 x.seenLink, .int .i64 x.seenNonce, .int .i64 x.hold, .bool x.rep, .bool x.noOffer] 23)) W → W.rangeAt w.heap.size 0 [.int .i64 x.node, .int .i64 x.level, .int .i64 x.pod, .int .i64 x.mtu, .int .i64 x.link, .int .i64 x.nonce, .int .i64 x.seen, .int .i64 x.seenLink, .int .i64 x.seenNonce, .int .i64 x.hold, .bool x.rep, .bool x.noOffer]) := fun W hb => range_box (World.alloc_heap_new w _) hb (Nat.lt_succ_self _)
  have HSZ : RowKit.Hid ((w.alloc (.cells #[.int .i64 x.node, .int .i64 x.level, .int .i64 x.pod, .int .i64 x.mtu, .int .i64 x.link, .int .i64 x.nonce, .int .i64 x.seen, .int .i64 x.seenLink, .int .i64 x.seenNonce, .int .i64 x.hold, .bool x.rep, .bool x.noOffer] 23)).heap.size = w.heap.size + 1) := by show _ = _; simp
  have BD := Lib.hid (show Below (w.heap.size + 1) (w.alloc (.cells #[.int .i64 x.node, .int .i64 x.level, .int .i64 x.pod, .int .i64 x.mtu, .int .i64 x.link, .int .i64 x.nonce, .int .i64 x.seen, .int .i64 x.seenLink, .int .i64 x.seenNonce, .int .i64 x.hold, .bool x.rep, .bool x.noOffer] 23)) (w.alloc (.cells #[.int .i64 x.node, .int .i64 x.level, .int .i64 x.pod, .int .i64 x.mtu, .int .i64 x.link, .int .i64 x.nonce, .int .i64 x.seen, .int .i64 x.seenLink, .int .i64 x.seenNonce, .int .i64 x.hold, .bool x.rep, .bool x.noOffer] 23)).drew from (Below.refl _ _).drew)
  go_enter Try.func18, Try.ntmps18
  go_wp2
  refine wp_region_held_drew (S := fun w' => Below (w.heap.size + 1) (w.alloc (.cells #[.int .i64 x.node, .int .i64 x.level, .int .i64 x.pod, .int .i64 x.mtu, .int .i64 x.link, .int .i64 x.nonce, .int .i64 x.seen, .int .i64 x.seenLink, .int .i64 x.seenNonce, .int .i64 x.hold, .bool x.rep, .bool x.noOffer] 23)) w') (by kernel_rfl) BD.out (fun hHeld => ?_)
  refine takeD (i := 0) (d := 3) (v := ?v0) rfl rfl (by kernel_rfl) (by kernel_rfl) (by kernel_rfl) (fun _ _ _ h => h) rfl ?h0 (by assumption) ?r0
  case h0 =>
    intro w2 hSw
    try dsimp only at hSw
    go_simp
    try with_reducible rfl
  simp only [List.setIfInBounds_toArray, List.set_cons_zero, List.set_cons_succ]
  refine takeD (i := 1) (d := 4) (v := ?v1) rfl rfl (by kernel_rfl) (by kernel_rfl) (by kernel_rfl) (fun _ _ _ h => h) rfl ?h1 (by assumption) ?r1
  case h1 =>
    intro w2 hSw
    try dsimp only at hSw
    have c0 := cell_at (RP.out _ hSw) 0 (show ([.int .i64 x.node, .int .i64 x.level, .int .i64 x.pod, .int .i64 x.mtu, .int .i64 x.link, .int .i64 x.nonce, .int .i64 x.seen, .int .i64 x.seenLink, .int .i64 x.seenNonce, .int .i64 x.hold, .bool x.rep, .bool x.noOffer] : List Value)[0]? = some (.int .i64 x.node) from rfl)
    go_simp
    try with_reducible rfl
  simp only [List.setIfInBounds_toArray, List.set_cons_zero, List.set_cons_succ]
  refine takeD (i := 2) (d := 5) (v := ?v2) rfl rfl (by kernel_rfl) (by kernel_rfl) (by kernel_rfl) (fun _ _ _ h => h) rfl ?h2 (by assumption) ?r2
  case h2 =>
    intro w2 hSw
    try dsimp only at hSw
    go_simp
    try with_reducible rfl
  simp only [List.setIfInBounds_toArray, List.set_cons_zero, List.set_cons_succ]
  refine takeD (i := 3) (d := 6) (v := ?v3) rfl rfl (by kernel_rfl) (by kernel_rfl) (by kernel_rfl) (fun _ _ _ h => h) rfl ?h3 (by assumption) ?r3
  case h3 =>
    intro w2 hSw
    try dsimp only at hSw
    have c1 := cell_at (RP.out _ hSw) 1 (show ([.int .i64 x.node, .int .i64 x.level, .int .i64 x.pod, .int .i64 x.mtu, .int .i64 x.link, .int .i64 x.nonce, .int .i64 x.seen, .int .i64 x.seenLink, .int .i64 x.seenNonce, .int .i64 x.hold, .bool x.rep, .bool x.noOffer] : List Value)[1]? = some (.int .i64 x.level) from rfl)
    go_simp
    try with_reducible rfl
  simp only [List.setIfInBounds_toArray, List.set_cons_zero, List.set_cons_succ]
  refine takeD (i := 4) (d := 7) (v := ?v4) rfl rfl (by kernel_rfl) (by kernel_rfl) (by kernel_rfl) (fun _ _ _ h => h) rfl ?h4 (by assumption) ?r4
  case h4 =>
    intro w2 hSw
    try dsimp only at hSw
    go_simp
    try with_reducible rfl
  simp only [List.setIfInBounds_toArray, List.set_cons_zero, List.set_cons_succ]
  refine takeD (i := 5) (d := 8) (v := ?v5) rfl rfl (by kernel_rfl) (by kernel_rfl) (by kernel_rfl) (fun _ _ _ h => h) rfl ?h5 (by assumption) ?r5
  case h5 =>
    intro w2 hSw
    try dsimp only at hSw
    have c2 := cell_at (RP.out _ hSw) 2 (show ([.int .i64 x.node, .int .i64 x.level, .int .i64 x.pod, .int .i64 x.mtu, .int .i64 x.link, .int .i64 x.nonce, .int .i64 x.seen, .int .i64 x.seenLink, .int .i64 x.seenNonce, .int .i64 x.hold, .bool x.rep, .bool x.noOffer] : List Value)[2]? = some (.int .i64 x.pod) from rfl)
    go_simp
    try with_reducible rfl
  simp only [List.setIfInBounds_toArray, List.set_cons_zero, List.set_cons_succ]
  refine takeD (i := 6) (d := 9) (v := ?v6) rfl rfl (by kernel_rfl) (by kernel_rfl) (by kernel_rfl) (fun _ _ _ h => h) rfl ?h6 (by assumption) ?r6
  case h6 =>
    intro w2 hSw
    try dsimp only at hSw
    go_simp
    try with_reducible rfl
  simp only [List.setIfInBounds_toArray, List.set_cons_zero, List.set_cons_succ]
  refine takeD (i := 7) (d := 10) (v := ?v7) rfl rfl (by kernel_rfl) (by kernel_rfl) (by kernel_rfl) (fun _ _ _ h => h) rfl ?h7 (by assumption) ?r7
  case h7 =>
    intro w2 hSw
    try dsimp only at hSw
    have c3 := cell_at (RP.out _ hSw) 3 (show ([.int .i64 x.node, .int .i64 x.level, .int .i64 x.pod, .int .i64 x.mtu, .int .i64 x.link, .int .i64 x.nonce, .int .i64 x.seen, .int .i64 x.seenLink, .int .i64 x.seenNonce, .int .i64 x.hold, .bool x.rep, .bool x.noOffer] : List Value)[3]? = some (.int .i64 x.mtu) from rfl)
    go_simp
    try with_reducible rfl
  simp only [List.setIfInBounds_toArray, List.set_cons_zero, List.set_cons_succ]
  refine takeD (i := 8) (d := 11) (v := ?v8) rfl rfl (by kernel_rfl) (by kernel_rfl) (by kernel_rfl) (fun _ _ _ h => h) rfl ?h8 (by assumption) ?r8
  case h8 =>
    intro w2 hSw
    try dsimp only at hSw
    go_simp
    try with_reducible rfl
  simp only [List.setIfInBounds_toArray, List.set_cons_zero, List.set_cons_succ]
  refine takeD (i := 9) (d := 12) (v := ?v9) rfl rfl (by kernel_rfl) (by kernel_rfl) (by kernel_rfl) (fun _ _ _ h => h) rfl ?h9 (by assumption) ?r9
  case h9 =>
    intro w2 hSw
    try dsimp only at hSw
    have c4 := cell_at (RP.out _ hSw) 4 (show ([.int .i64 x.node, .int .i64 x.level, .int .i64 x.pod, .int .i64 x.mtu, .int .i64 x.link, .int .i64 x.nonce, .int .i64 x.seen, .int .i64 x.seenLink, .int .i64 x.seenNonce, .int .i64 x.hold, .bool x.rep, .bool x.noOffer] : List Value)[4]? = some (.int .i64 x.link) from rfl)
    go_simp
    try with_reducible rfl
  simp only [List.setIfInBounds_toArray, List.set_cons_zero, List.set_cons_succ]
  refine takeD (i := 10) (d := 13) (v := ?v10) rfl rfl (by kernel_rfl) (by kernel_rfl) (by kernel_rfl) (fun _ _ _ h => h) rfl ?h10 (by assumption) ?r10
  case h10 =>
    intro w2 hSw
    try dsimp only at hSw
    go_simp
    try with_reducible rfl
  simp only [List.setIfInBounds_toArray, List.set_cons_zero, List.set_cons_succ]
  refine takeD (i := 11) (d := 14) (v := ?v11) rfl rfl (by kernel_rfl) (by kernel_rfl) (by kernel_rfl) (fun _ _ _ h => h) rfl ?h11 (by assumption) ?r11
  case h11 =>
    intro w2 hSw
    try dsimp only at hSw
    have c5 := cell_at (RP.out _ hSw) 5 (show ([.int .i64 x.node, .int .i64 x.level, .int .i64 x.pod, .int .i64 x.mtu, .int .i64 x.link, .int .i64 x.nonce, .int .i64 x.seen, .int .i64 x.seenLink, .int .i64 x.seenNonce, .int .i64 x.hold, .bool x.rep, .bool x.noOffer] : List Value)[5]? = some (.int .i64 x.nonce) from rfl)
    go_simp
    try with_reducible rfl
  simp only [List.setIfInBounds_toArray, List.set_cons_zero, List.set_cons_succ]
  refine takeD (i := 12) (d := 15) (v := ?v12) rfl rfl (by kernel_rfl) (by kernel_rfl) (by kernel_rfl) (fun _ _ _ h => h) rfl ?h12 (by assumption) ?r12
  case h12 =>
    intro w2 hSw
    try dsimp only at hSw
    go_simp
    try with_reducible rfl
  simp only [List.setIfInBounds_toArray, List.set_cons_zero, List.set_cons_succ]
  refine takeD (i := 13) (d := 16) (v := ?v13) rfl rfl (by kernel_rfl) (by kernel_rfl) (by kernel_rfl) (fun _ _ _ h => h) rfl ?h13 (by assumption) ?r13
  case h13 =>
    intro w2 hSw
    try dsimp only at hSw
    have c6 := cell_at (RP.out _ hSw) 6 (show ([.int .i64 x.node, .int .i64 x.level, .int .i64 x.pod, .int .i64 x.mtu, .int .i64 x.link, .int .i64 x.nonce, .int .i64 x.seen, .int .i64 x.seenLink, .int .i64 x.seenNonce, .int .i64 x.hold, .bool x.rep, .bool x.noOffer] : List Value)[6]? = some (.int .i64 x.seen) from rfl)
    go_simp
    try with_reducible rfl
  simp only [List.setIfInBounds_toArray, List.set_cons_zero, List.set_cons_succ]
  refine takeD (i := 14) (d := 17) (v := ?v14) rfl rfl (by kernel_rfl) (by kernel_rfl) (by kernel_rfl) (fun _ _ _ h => h) rfl ?h14 (by assumption) ?r14
  case h14 =>
    intro w2 hSw
    try dsimp only at hSw
    go_simp
    try with_reducible rfl
  simp only [List.setIfInBounds_toArray, List.set_cons_zero, List.set_cons_succ]
  refine takeD (i := 15) (d := 18) (v := ?v15) rfl rfl (by kernel_rfl) (by kernel_rfl) (by kernel_rfl) (fun _ _ _ h => h) rfl ?h15 (by assumption) ?r15
  case h15 =>
    intro w2 hSw
    try dsimp only at hSw
    have c7 := cell_at (RP.out _ hSw) 7 (show ([.int .i64 x.node, .int .i64 x.level, .int .i64 x.pod, .int .i64 x.mtu, .int .i64 x.link, .int .i64 x.nonce, .int .i64 x.seen, .int .i64 x.seenLink, .int .i64 x.seenNonce, .int .i64 x.hold, .bool x.rep, .bool x.noOffer] : List Value)[7]? = some (.int .i64 x.seenLink) from rfl)
    go_simp
    try with_reducible rfl
  simp only [List.setIfInBounds_toArray, List.set_cons_zero, List.set_cons_succ]
  refine takeD (i := 16) (d := 19) (v := ?v16) rfl rfl (by kernel_rfl) (by kernel_rfl) (by kernel_rfl) (fun _ _ _ h => h) rfl ?h16 (by assumption) ?r16
  case h16 =>
    intro w2 hSw
    try dsimp only at hSw
    go_simp
    try with_reducible rfl
  simp only [List.setIfInBounds_toArray, List.set_cons_zero, List.set_cons_succ]
  refine takeD (i := 17) (d := 20) (v := ?v17) rfl rfl (by kernel_rfl) (by kernel_rfl) (by kernel_rfl) (fun _ _ _ h => h) rfl ?h17 (by assumption) ?r17
  case h17 =>
    intro w2 hSw
    try dsimp only at hSw
    have c8 := cell_at (RP.out _ hSw) 8 (show ([.int .i64 x.node, .int .i64 x.level, .int .i64 x.pod, .int .i64 x.mtu, .int .i64 x.link, .int .i64 x.nonce, .int .i64 x.seen, .int .i64 x.seenLink, .int .i64 x.seenNonce, .int .i64 x.hold, .bool x.rep, .bool x.noOffer] : List Value)[8]? = some (.int .i64 x.seenNonce) from rfl)
    go_simp
    try with_reducible rfl
  simp only [List.setIfInBounds_toArray, List.set_cons_zero, List.set_cons_succ]
  refine takeD (i := 18) (d := 21) (v := ?v18) rfl rfl (by kernel_rfl) (by kernel_rfl) (by kernel_rfl) (fun _ _ _ h => h) rfl ?h18 (by assumption) ?r18
  case h18 =>
    intro w2 hSw
    try dsimp only at hSw
    go_simp
    try with_reducible rfl
  simp only [List.setIfInBounds_toArray, List.set_cons_zero, List.set_cons_succ]
  refine takeD (i := 19) (d := 22) (v := ?v19) rfl rfl (by kernel_rfl) (by kernel_rfl) (by kernel_rfl) (fun _ _ _ h => h) rfl ?h19 (by assumption) ?r19
  case h19 =>
    intro w2 hSw
    try dsimp only at hSw
    have c9 := cell_at (RP.out _ hSw) 9 (show ([.int .i64 x.node, .int .i64 x.level, .int .i64 x.pod, .int .i64 x.mtu, .int .i64 x.link, .int .i64 x.nonce, .int .i64 x.seen, .int .i64 x.seenLink, .int .i64 x.seenNonce, .int .i64 x.hold, .bool x.rep, .bool x.noOffer] : List Value)[9]? = some (.int .i64 x.hold) from rfl)
    go_simp
    try with_reducible rfl
  simp only [List.setIfInBounds_toArray, List.set_cons_zero, List.set_cons_succ]
  refine takeD (i := 20) (d := 23) (v := ?v20) rfl rfl (by kernel_rfl) (by kernel_rfl) (by kernel_rfl) (fun _ _ _ h => h) rfl ?h20 (by assumption) ?r20
  case h20 =>
    intro w2 hSw
    try dsimp only at hSw
    go_simp
    try with_reducible rfl
  simp only [List.setIfInBounds_toArray, List.set_cons_zero, List.set_cons_succ]
  refine takeD (i := 21) (d := 24) (v := ?v21) rfl rfl (by kernel_rfl) (by kernel_rfl) (by kernel_rfl) (fun _ _ _ h => h) rfl ?h21 (by assumption) ?r21
  case h21 =>
    intro w2 hSw
    try dsimp only at hSw
    have c10 := cell_at (RP.out _ hSw) 10 (show ([.int .i64 x.node, .int .i64 x.level, .int .i64 x.pod, .int .i64 x.mtu, .int .i64 x.link, .int .i64 x.nonce, .int .i64 x.seen, .int .i64 x.seenLink, .int .i64 x.seenNonce, .int .i64 x.hold, .bool x.rep, .bool x.noOffer] : List Value)[10]? = some (.bool x.rep) from rfl)
    go_simp
    try with_reducible rfl
  simp only [List.setIfInBounds_toArray, List.set_cons_zero, List.set_cons_succ]
  refine takeD (i := 23) (d := 26) (v := ?v23) rfl rfl (by kernel_rfl) (by kernel_rfl) (by kernel_rfl) (fun _ _ _ h => h) rfl ?h23 (by assumption) ?r23
  case h23 =>
    intro w2 hSw
    try dsimp only at hSw
    go_simp
    try with_reducible rfl
  simp only [List.setIfInBounds_toArray, List.set_cons_zero, List.set_cons_succ]
  refine takeD (i := 24) (d := 27) (v := ?v24) rfl rfl (by kernel_rfl) (by kernel_rfl) (by kernel_rfl) (fun _ _ _ h => h) rfl ?h24 (by assumption) ?r24
  case h24 =>
    intro w2 hSw
    try dsimp only at hSw
    have c11 := cell_at (RP.out _ hSw) 11 (show ([.int .i64 x.node, .int .i64 x.level, .int .i64 x.pod, .int .i64 x.mtu, .int .i64 x.link, .int .i64 x.nonce, .int .i64 x.seen, .int .i64 x.seenLink, .int .i64 x.seenNonce, .int .i64 x.hold, .bool x.rep, .bool x.noOffer] : List Value)[11]? = some (.bool x.noOffer) from rfl)
    go_simp
    try with_reducible rfl
  simp only [List.setIfInBounds_toArray, List.set_cons_zero, List.set_cons_succ]
  refine wpAnyH_ready (rs := [22]) (by kernel_rfl) (by simp) ?_
  refine AllReadyH.cons rfl (fun K hK => ?_) AllReadyH.nil
  go_simp
  go_wp2_with (go_at_call 38; refine (bit_any x.rep _).mono ?_; rintro e wz ⟨rfl, rfl⟩)
  refine hK.out _ _ hHeld (fun hHeld => ?_)
  clear hK K
  refine wpAnyH_ready (rs := [25]) (by kernel_rfl) (by simp) ?_
  refine AllReadyH.cons rfl (fun K hK => ?_) AllReadyH.nil
  go_simp
  go_wp2_with (go_at_call 38; refine (bit_any x.noOffer _).mono ?_; rintro e wz ⟨rfl, rfl⟩)
  refine hK.out _ _ hHeld (fun hHeld => ?_)
  clear hK K
  refine wpAnyH_ready (rs := [26]) (by kernel_rfl) (by simp) ?_
  refine AllReadyH.cons rfl (fun K hK => ?_) AllReadyH.nil
  go_simp
  have hB1 : Below (w.heap.size + 1) (w.alloc (.cells #[.int .i64 x.node, .int .i64 x.level, .int .i64 x.pod, .int .i64 x.mtu, .int .i64 x.link, .int .i64 x.nonce, .int .i64 x.seen, .int .i64 x.seenLink, .int .i64 x.seenNonce, .int .i64 x.hold, .bool x.rep, .bool x.noOffer] 23)) ((w.alloc (.cells #[.int .i64 x.node, .int .i64 x.level, .int .i64 x.pod, .int .i64 x.mtu, .int .i64 x.link, .int .i64 x.nonce, .int .i64 x.seen, .int .i64 x.seenLink, .int .i64 x.seenNonce, .int .i64 x.hold, .bool x.rep, .bool x.noOffer] 23)).alloc (.cells #[.int .i64 x.node, .int .i64 x.level, .int .i64 x.pod, .int .i64 x.mtu, .int .i64 x.link, .int .i64 x.nonce, .int .i64 x.seen, .int .i64 x.seenLink, .int .i64 x.seenNonce, .int .i64 x.hold, .int .i64 (bitI x.rep), .int .i64 (bitI x.noOffer)] 3)).drew := ((Below.refl _ _).alloc (by have h1 := HSZ.out; omega) _).drew
  refine hK.out _ _ hB1 (fun hHeld => ?_)
  clear hK K
  have hR0 := rd_built (w.alloc (.cells #[.int .i64 x.node, .int .i64 x.level, .int .i64 x.pod, .int .i64 x.mtu, .int .i64 x.link, .int .i64 x.nonce, .int .i64 x.seen, .int .i64 x.seenLink, .int .i64 x.seenNonce, .int .i64 x.hold, .bool x.rep, .bool x.noOffer] 23)) #[.int .i64 x.node, .int .i64 x.level, .int .i64 x.pod, .int .i64 x.mtu, .int .i64 x.link, .int .i64 x.nonce, .int .i64 x.seen, .int .i64 x.seenLink, .int .i64 x.seenNonce, .int .i64 x.hold, .int .i64 (bitI x.rep), .int .i64 (bitI x.noOffer)] [x.node, x.level, x.pod, x.mtu, x.link, x.nonce, x.seen, x.seenLink, x.seenNonce, x.hold, bitI x.rep, bitI x.noOffer] rfl
  rw [show (w.alloc (.cells #[.int .i64 x.node, .int .i64 x.level, .int .i64 x.pod, .int .i64 x.mtu, .int .i64 x.link, .int .i64 x.nonce, .int .i64 x.seen, .int .i64 x.seenLink, .int .i64 x.seenNonce, .int .i64 x.hold, .bool x.rep, .bool x.noOffer] 23)).heap.size = w.heap.size + 1 by simp] at hR0
  have hR1 : Rd .i64 (((w.alloc (.cells #[.int .i64 x.node, .int .i64 x.level, .int .i64 x.pod, .int .i64 x.mtu, .int .i64 x.link, .int .i64 x.nonce, .int .i64 x.seen, .int .i64 x.seenLink, .int .i64 x.seenNonce, .int .i64 x.hold, .bool x.rep, .bool x.noOffer] 23)).alloc (.cells #[.int .i64 x.node, .int .i64 x.level, .int .i64 x.pod, .int .i64 x.mtu, .int .i64 x.link, .int .i64 x.nonce, .int .i64 x.seen, .int .i64 x.seenLink, .int .i64 x.seenNonce, .int .i64 x.hold, .int .i64 (bitI x.rep), .int .i64 (bitI x.noOffer)] 3)).drew).heap.size (((w.alloc (.cells #[.int .i64 x.node, .int .i64 x.level, .int .i64 x.pod, .int .i64 x.mtu, .int .i64 x.link, .int .i64 x.nonce, .int .i64 x.seen, .int .i64 x.seenLink, .int .i64 x.seenNonce, .int .i64 x.hold, .bool x.rep, .bool x.noOffer] 23)).alloc (.cells #[.int .i64 x.node, .int .i64 x.level, .int .i64 x.pod, .int .i64 x.mtu, .int .i64 x.link, .int .i64 x.nonce, .int .i64 x.seen, .int .i64 x.seenLink, .int .i64 x.seenNonce, .int .i64 x.hold, .int .i64 (bitI x.rep), .int .i64 (bitI x.noOffer)] 3)).drew) (some ⟨w.heap.size + 1, 0, none⟩) [x.node, x.level, x.pod, x.mtu, x.link, x.nonce, x.seen, x.seenLink, x.seenNonce, x.hold, bitI x.rep, bitI x.noOffer] := hR0
  clear hR0
  obtain ⟨w1, hw⟩ : ∃ W, (((w.alloc (.cells #[.int .i64 x.node, .int .i64 x.level, .int .i64 x.pod, .int .i64 x.mtu, .int .i64 x.link, .int .i64 x.nonce, .int .i64 x.seen, .int .i64 x.seenLink, .int .i64 x.seenNonce, .int .i64 x.hold, .bool x.rep, .bool x.noOffer] 23)).alloc (.cells #[.int .i64 x.node, .int .i64 x.level, .int .i64 x.pod, .int .i64 x.mtu, .int .i64 x.link, .int .i64 x.nonce, .int .i64 x.seen, .int .i64 x.seenLink, .int .i64 x.seenNonce, .int .i64 x.hold, .int .i64 (bitI x.rep), .int .i64 (bitI x.noOffer)] 3)).drew) = W := ⟨_, rfl⟩
  rw [hw] at hHeld hB1 hR1 ⊢
  have B1 := Lib.hid hB1
  have R1 := Lib.hid hR1
  clear hB1 hR1 hw
  refine wpAnyH_ready (rs := [27]) (by kernel_rfl) (by simp) ?_
  refine AllReadyH.cons rfl (fun K hK => ?_) AllReadyH.nil
  go_simp
  go_wp2_with (go_at_call 16; refine (ints_any 1 (by decide) (by decide) (n := 12) (cap := 12) (zs := [x.node, x.level, x.pod, x.mtu, x.link, x.nonce, x.seen, x.seenLink, x.seenNonce, x.hold, bitI x.rep, bitI x.noOffer]) rfl (by simp) R1.out).mono ?_; rintro e w2 ⟨A2, n2, c2, rfl, hn, ho, hb⟩; rw [lieI_ints] at hn ho; have F1 := Lib.hid hn; have F2 := Lib.hid (ho.less (show w.heap.size ≤ _ by have h1 := HSZ.out; have h2 := B1.out.size; omega)); have B2 := Lib.hid (B1.out.trans (hb.mono (by have h1 := HSZ.out; have h2 := B1.out.size; omega))); clear hn ho hb)
  refine hK.out _ _ B2.out (fun hHeld => ?_)
  clear hK K
  refine takeD (i := 28) (d := 2) (v := ?v28) rfl rfl (by kernel_rfl) (by kernel_rfl) (by kernel_rfl) (fun _ _ _ h => h) rfl ?h28 (by assumption) ?r28
  case h28 =>
    intro w2 hSw
    try dsimp only at hSw
    go_simp
    try with_reducible rfl
  simp only [List.setIfInBounds_toArray, List.set_cons_zero, List.set_cons_succ]
  refine wpAnyH_done (by kernel_rfl) ?_ _
  go_wp2
  go_ret
  exact ⟨A2, n2, c2, rfl, F1.out, F2.out, HB0.out.trans (B2.out.mono (by omega))⟩
end Go.Proofs.Ytjkibgnkkienbaa
