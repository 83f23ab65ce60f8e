/-
  THE DOCUMENT's fields of a tie.
-/
import Derived.Test.YtjkibgnkkienbaaWRef5
namespace Go.Proofs.Ytjkibgnkkienbaa
open Go.RowKit Go.Shelf
set_option linter.unusedVariables false

theorem OwnE.len {w : World} {b : Nat} {A : Option Addr} {n c : Nat} {l : List It} (h : OwnE w b (.slice A n c) l) : n = l.length := by
  obtain ⟨A', n', c', e, hn⟩ := h.form
  injection e with _ e2 _
  exact e2.trans hn
theorem head_len (x : HeadT) : (headI x).length = 8 := rfl
def tieE (l : List EdgeT) : List It := l.flatMap (fun e => opI 4 (edgeI e))
def tieRs (l : List ReachT) : List It := l.flatMap (fun e => opI 5 (reachI e))
theorem tie_parts (x : TieT) : ((opI 1 (headI x.head) ++ intsI 2 [x.level, bitI x.over]) ++ tieE x.edges) ++ tieRs x.reaches = tieI x := by
  simp [tieI, tieE, tieRs, intsI, intI]
theorem tieE_next {l : List EdgeT} {k : Nat} {u : EdgeT} (hu : l[k]? = some u) : tieE (l.take (k + 1)) = tieE (l.take k) ++ opI 4 (edgeI u) := by
  unfold tieE
  rw [List.take_add_one, hu, List.flatMap_append]
  simp
theorem tieRs_next {l : List ReachT} {k : Nat} {u : ReachT} (hu : l[k]? = some u) : tieRs (l.take (k + 1)) = tieRs (l.take k) ++ opI 5 (reachI u) := by
  unfold tieRs
  rw [List.take_add_one, hu, List.flatMap_append]
  simp
theorem tieE_len (l : List EdgeT) : (tieE l).length = l.length * 5 := by
  unfold tieE
  induction l with
  | nil => rfl
  | cons x l ih => rw [List.flatMap_cons, List.length_append, ih, List.length_cons]; simp [opI, edgeI]; omega
theorem tieRs_len (l : List ReachT) : (tieRs l).length = l.length * 5 := by
  unfold tieRs
  induction l with
  | nil => rfl
  | cons x l ih => rw [List.flatMap_cons, List.length_append, ih, List.length_cons]; simp [opI, reachI]; omega
set_option maxRecDepth 100000 in
set_option maxHeartbeats 16000000 in
theorem tieItems_any (x : TieT) (ae ar : Option Addr) (ne nr ce cr : Nat) (hn1 : x.edges.length = ne) (hn2 : x.reaches.length = nr) (hx1 : ne ≤ 64) (hx2 : nr ≤ 64) (hok : ∀ y ∈ x.reaches, 0 ≤ y.net ∧ y.net < 4294967296) (w : World) (r1 : RdR 3 encEdge w.heap.size w ae x.edges) (r2 : RdR 3 encReach w.heap.size w ar x.reaches) :
    Calls Try.prog 19 #[.agg #[.int .i64 x.head.id.dir, .int .i64 x.head.id.orig, .int .i64 x.head.id.kind, .int .i64 x.head.id.nr, .int .i64 x.head.seq, .int .i64 x.head.life, .int .i64 x.level, .bool x.over, .slice ae ne ce, .slice ar nr cr]] w (GotE (tieI x) w) := by
  have HN1 := Lib.hid hn1
  have HN2 := Lib.hid hn2
  have RE := Lib.hid r1
  have RR := Lib.hid r2
  have HOK := Lib.hid hok
  have HB0 := Lib.hid ((Below.refl w.heap.size w).alloc (Nat.le_refl _) (.cells #[.int .i64 x.head.id.dir, .int .i64 x.head.id.orig, .int .i64 x.head.id.kind, .int .i64 x.head.id.nr, .int .i64 x.head.seq, .int .i64 x.head.life, .int .i64 x.level, .bool x.over, .slice ae ne ce, .slice ar nr cr] 31))
  have RP : RowKit.Hid (∀ W, Below (w.heap.size + 1) (w.alloc (.cells #[.int .i64 x.head.id.dir, .int .i64 x.head.id.orig, .int .i64 x.head.id.kind, .int .i64 x.head.id.nr, .int .i64 x.head.seq, .int .i64 x.head.life, .int .i64 x.level, .bool x.over, .slice ae ne ce, .slice ar nr cr] 31)) W → W.rangeAt w.heap.size 0 [.int .i64 x.head.id.dir, .int .i64 x.head.id.orig, .int .i64 x.head.id.kind, .int .i64 x.head.id.nr, .int .i64 x.head.seq, .int .i64 x.head.life, .int .i64 x.level, .bool x.over, .slice ae ne ce, .slice ar nr cr]) := fun W hb => range_box (World.alloc_heap_new w _) hb (Nat.lt_succ_self _)
  have HSZ : RowKit.Hid ((w.alloc (.cells #[.int .i64 x.head.id.dir, .int .i64 x.head.id.orig, .int .i64 x.head.id.kind, .int .i64 x.head.id.nr, .int .i64 x.head.seq, .int .i64 x.head.life, .int .i64 x.level, .bool x.over, .slice ae ne ce, .slice ar nr cr] 31)).heap.size = w.heap.size + 1) := by show _ = _; simp
  have BD := Lib.hid (show Below (w.heap.size + 1) (w.alloc (.cells #[.int .i64 x.head.id.dir, .int .i64 x.head.id.orig, .int .i64 x.head.id.kind, .int .i64 x.head.id.nr, .int .i64 x.head.seq, .int .i64 x.head.life, .int .i64 x.level, .bool x.over, .slice ae ne ce, .slice ar nr cr] 31)) (w.alloc (.cells #[.int .i64 x.head.id.dir, .int .i64 x.head.id.orig, .int .i64 x.head.id.kind, .int .i64 x.head.id.nr, .int .i64 x.head.seq, .int .i64 x.head.life, .int .i64 x.level, .bool x.over, .slice ae ne ce, .slice ar nr cr] 31)).drew from (Below.refl _ _).drew)
  clear hn1 hn2 r1 r2 hok
  go_enter Try.func19, Try.ntmps19
  go_wp2
  refine wp_region_held_drew (S := fun w' => Below (w.heap.size + 1) (w.alloc (.cells #[.int .i64 x.head.id.dir, .int .i64 x.head.id.orig, .int .i64 x.head.id.kind, .int .i64 x.head.id.nr, .int .i64 x.head.seq, .int .i64 x.head.life, .int .i64 x.level, .bool x.over, .slice ae ne ce, .slice ar nr cr] 31)) w') (by kernel_rfl) BD.out (fun hHeld => ?_)
  refine takeD (i := 0) (d := 7) (v := ?v0) rfl rfl (by kernel_rfl) (by kernel_rfl) (by kernel_rfl) (fun _ _ _ h => h) rfl ?h0 (by assumption) ?r0
  case h0 =>
    intro w2 hSw
    try dsimp only at hSw
    go_simp
    try with_reducible rfl
  simp only [List.setIfInBounds_toArray, List.set_cons_zero, List.set_cons_succ]
  refine takeLd (i := 1) (d := 8) rfl rfl (by kernel_rfl) (by kernel_rfl) (by kernel_rfl) (by rfl) 27 (.tmp 7) rfl w.heap.size 0 rfl [.int .i64 x.head.id.dir, .int .i64 x.head.id.orig, .int .i64 x.head.id.kind, .int .i64 x.head.id.nr, .int .i64 x.head.seq, .int .i64 x.head.life] _ (fun w h => range_at (RP.out _ h) 0 6) Try.underlying27 rfl (by kernel_rfl) (fun _ _ _ h => h) (by assumption) ?_
  simp only [List.setIfInBounds_toArray, List.set_cons_zero, List.set_cons_succ]
  refine takeD (i := 4) (d := 11) (v := ?v4) rfl rfl (by kernel_rfl) (by kernel_rfl) (by kernel_rfl) (fun _ _ _ h => h) rfl ?h4 (by assumption) ?r4
  case h4 =>
    intro w2 hSw
    try dsimp only at hSw
    go_simp
    try with_reducible rfl
  simp only [List.setIfInBounds_toArray, List.set_cons_zero, List.set_cons_succ]
  refine takeD (i := 5) (d := 12) (v := ?v5) rfl rfl (by kernel_rfl) (by kernel_rfl) (by kernel_rfl) (fun _ _ _ h => h) rfl ?h5 (by assumption) ?r5
  case h5 =>
    intro w2 hSw
    try dsimp only at hSw
    have c6 := cell_at (RP.out _ hSw) 6 (show ([.int .i64 x.head.id.dir, .int .i64 x.head.id.orig, .int .i64 x.head.id.kind, .int .i64 x.head.id.nr, .int .i64 x.head.seq, .int .i64 x.head.life, .int .i64 x.level, .bool x.over, .slice ae ne ce, .slice ar nr cr] : List Value)[6]? = some (.int .i64 x.level) from rfl)
    go_simp
    try with_reducible rfl
  simp only [List.setIfInBounds_toArray, List.set_cons_zero, List.set_cons_succ]
  refine takeD (i := 6) (d := 13) (v := ?v6) rfl rfl (by kernel_rfl) (by kernel_rfl) (by kernel_rfl) (fun _ _ _ h => h) rfl ?h6 (by assumption) ?r6
  case h6 =>
    intro w2 hSw
    try dsimp only at hSw
    go_simp
    try with_reducible rfl
  simp only [List.setIfInBounds_toArray, List.set_cons_zero, List.set_cons_succ]
  refine takeD (i := 7) (d := 14) (v := ?v7) rfl rfl (by kernel_rfl) (by kernel_rfl) (by kernel_rfl) (fun _ _ _ h => h) rfl ?h7 (by assumption) ?r7
  case h7 =>
    intro w2 hSw
    try dsimp only at hSw
    have c7 := cell_at (RP.out _ hSw) 7 (show ([.int .i64 x.head.id.dir, .int .i64 x.head.id.orig, .int .i64 x.head.id.kind, .int .i64 x.head.id.nr, .int .i64 x.head.seq, .int .i64 x.head.life, .int .i64 x.level, .bool x.over, .slice ae ne ce, .slice ar nr cr] : List Value)[7]? = some (.bool x.over) from rfl)
    go_simp
    try with_reducible rfl
  simp only [List.setIfInBounds_toArray, List.set_cons_zero, List.set_cons_succ]
  refine wpAnyH_ready (rs := [2]) (by kernel_rfl) (by simp) ?_
  refine AllReadyH.cons rfl (fun K hK => ?_) AllReadyH.nil
  go_simp
  go_wp2_with (go_at_call 21; refine (headItems_any x.head _).mono ?_; rintro e w1 ⟨A1, n1, c1, rfl, hn, ho, hb⟩; have I1N := Lib.hid hn; have I1 := Lib.hid (ho.less (show w.heap.size + 1 ≤ _ from (by have h1 := HSZ.out; have h2 := BD.out.size; first | omega | (simp at h2 ⊢; omega) | (simp; omega) | simp))); have B1 := Lib.hid (BD.out.trans (hb.mono (by have h1 := HSZ.out; have h2 := BD.out.size; first | omega | (simp at h2 ⊢; omega) | (simp; omega) | simp))); clear hn ho hb)
  refine hK.out _ _ B1.out (fun hHeld => ?_)
  clear hK K
  refine wpAnyH_ready (rs := [3]) (by kernel_rfl) (by simp) ?_
  refine AllReadyH.cons rfl (fun K hK => ?_) AllReadyH.nil
  go_simp
  go_wp2_with (go_at_call 17; refine (open_any 1 I1N.out (by rw [head_len]; omega) I1.out.src).mono ?_; rintro e w2 ⟨A2, n2, c2, rfl, hn, ho, hb⟩; have I2N := Lib.hid hn; have I2 := Lib.hid (ho.less (show w.heap.size + 1 ≤ _ from (by have h1 := HSZ.out; have h2 := B1.out.size; first | omega | (simp at h2 ⊢; omega) | (simp; omega) | simp))); have B2 := Lib.hid (B1.out.trans (hb.mono (by have h1 := HSZ.out; have h2 := B1.out.size; first | omega | (simp at h2 ⊢; omega) | (simp; omega) | simp))); clear hn ho hb)
  refine hK.out _ _ B2.out (fun hHeld => ?_)
  clear hK K
  refine wpAnyH_ready (rs := [8]) (by kernel_rfl) (by simp) ?_
  refine AllReadyH.cons rfl (fun K hK => ?_) AllReadyH.nil
  go_simp
  go_wp2_with (go_at_call 38; refine (bit_any x.over _).mono ?_; rintro e wz ⟨rfl, hwz⟩; obtain rfl := hwz.symm)
  refine hK.out _ _ hHeld (fun hHeld => ?_)
  clear hK K
  refine wpAnyH_ready (rs := [9]) (by kernel_rfl) (by simp) ?_
  refine AllReadyH.cons rfl (fun K hK => ?_) AllReadyH.nil
  go_simp
  have hB3 := B2.out.alloc (by have h1 := HSZ.out; have h2 := B2.out.size; first | omega | (simp at h2 ⊢; omega) | (simp; omega) | simp) (.cells #[.int .i64 x.level, .int .i64 (bitI x.over)] 3)
  refine hK.out _ _ hB3 (fun hHeld => ?_)
  clear hK K
  have hR3 := rd_built w2 #[.int .i64 x.level, .int .i64 (bitI x.over)] [x.level, bitI x.over] rfl
  have hI3 := I2.out.below ((Below.refl _ _).alloc (Nat.le_refl _) (.cells #[.int .i64 x.level, .int .i64 (bitI x.over)] 3))
  obtain ⟨w3, hw⟩ : ∃ W, (World.alloc w2 (.cells #[.int .i64 x.level, .int .i64 (bitI x.over)] 3)) = W := ⟨_, rfl⟩
  rw [hw] at hHeld hB3 hR3 hI3 ⊢
  have B3 := Lib.hid hB3
  have R3 := Lib.hid hR3
  have I3 := Lib.hid hI3
  clear hB3 hR3 hI3 hw
  refine wpAnyH_ready (rs := [10]) (by kernel_rfl) (by simp) ?_
  refine AllReadyH.cons rfl (fun K hK => ?_) AllReadyH.nil
  go_simp
  go_wp2_with (go_at_call 16; refine (ints_any 2 (by decide) (by decide) (n := 2) (cap := 2) (zs := [x.level, bitI x.over]) rfl (by simp) R3.out).mono ?_; rintro e w4 ⟨A4, n4, c4, rfl, hn, ho, hb⟩; have I34 := Lib.hid (I3.out.below hb); have I4N := Lib.hid hn; have I4 := Lib.hid (ho.less (show w.heap.size + 1 ≤ _ from (by have h1 := HSZ.out; have h2 := B3.out.size; first | omega | (simp at h2 ⊢; omega) | (simp; omega) | simp))); have B4 := Lib.hid (B3.out.trans (hb.mono (by have h1 := HSZ.out; have h2 := B3.out.size; first | omega | (simp at h2 ⊢; omega) | (simp; omega) | simp))); clear hn ho hb)
  refine hK.out _ _ B4.out (fun hHeld => ?_)
  clear hK K
  refine wpAnyH_ready (rs := [11]) (by kernel_rfl) (by simp) ?_
  refine AllReadyH.cons rfl (fun K hK => ?_) AllReadyH.nil
  refine step_append_E 18 rfl (by rfl) (.tmp 10) (.tmp 17) rfl (w.heap.size + 1) _ (opI 1 (headI x.head)) rfl I34.out A4 (intsI 2 [x.level, bitI x.over]) n4 c4 rfl I4N.out I4.out.src (by simp [opI, headI, idI, intsI]) (by have h1 := HSZ.out; have h2 := B4.out.size; first | omega | (simp at h2 ⊢; omega) | (simp; omega) | simp) ?_
  intro A5 n5 c5 w5 hn ho hb
  have I5N := Lib.hid hn
  have I5 := Lib.hid ho
  have B5 := Lib.hid (B4.out.trans hb)
  clear hn ho hb
  simp only [List.setIfInBounds_toArray, List.set_cons_zero, List.set_cons_succ]
  refine hK.out _ _ B5.out (fun hHeld => ?_)
  clear hK K
  refine takeD (i := 12) (d := 3) (v := ?v12) rfl rfl (by kernel_rfl) (by kernel_rfl) (by kernel_rfl) (fun _ _ _ h => h) rfl ?h12 (by assumption) ?r12
  case h12 =>
    intro w2 hSw
    try dsimp only at hSw
    go_simp
    try with_reducible rfl
  simp only [List.setIfInBounds_toArray, List.set_cons_zero, List.set_cons_succ]
  refine wpAnyH_done (by kernel_rfl) ?_ _
  clear hHeld
  go_wp2
  go_loopw [3, 4] (fun ov iv wr => ∃ (k m c : Nat) (A : Option Addr), k ≤ ne ∧ iv = .int .i64 k ∧ ov = .slice A m c ∧ OwnE wr (w.heap.size + 1) ov ((opI 1 (headI x.head) ++ intsI 2 [x.level, bitI x.over]) ++ tieE (x.edges.take k)) ∧ Below (w.heap.size + 1) (w.alloc (.cells #[.int .i64 x.head.id.dir, .int .i64 x.head.id.orig, .int .i64 x.head.id.kind, .int .i64 x.head.id.nr, .int .i64 x.head.seq, .int .i64 x.head.life, .int .i64 x.level, .bool x.over, .slice ae ne ce, .slice ar nr cr] 31)) wr) (fun _ iv _ => ne - (intOf iv).toNat)
  case atStart => exact ⟨0, n5, c5, A5, Nat.zero_le _, rfl, rfl, by have h := I5.out; rw [List.take_zero]; unfold tieE; rw [List.flatMap_nil, List.append_nil]; exact h, B5.out⟩
  case round =>
    obtain ⟨k, m, c, A, hk, rfl, rfl, hown, hbel⟩ := hrel
    have HO := Lib.hid hown
    have HB := Lib.hid hbel
    have q8 := cell_at (RP.out _ hbel) 8 (show ([.int .i64 x.head.id.dir, .int .i64 x.head.id.orig, .int .i64 x.head.id.kind, .int .i64 x.head.id.nr, .int .i64 x.head.seq, .int .i64 x.head.life, .int .i64 x.level, .bool x.over, .slice ae ne ce, .slice ar nr cr] : List Value)[8]? = some (.slice ae ne ce) from rfl)
    clear hown hbel
    by_cases hlt : k < ne
    · obtain ⟨b1, o1, rfl, hb1, hca⟩ := RE.out (by have := HN1.out; omega)
      obtain ⟨u, hu⟩ : ∃ u, x.edges[k]? = some u := ⟨_, List.getElem?_eq_getElem (by have := HN1.out; omega)⟩
      have hbw := HB0.out
      have GC := Lib.hid (fun (W : World) (hW : Below (w.heap.size + 1) (w.alloc (.cells #[.int .i64 x.head.id.dir, .int .i64 x.head.id.orig, .int .i64 x.head.id.kind, .int .i64 x.head.id.nr, .int .i64 x.head.seq, .int .i64 x.head.life, .int .i64 x.level, .bool x.over, .slice (some ⟨b1, o1, none⟩) ne ce, .slice ar nr cr] 31)) W) (i : Nat) (v : Value) (hv : (encEdge u)[i]? = some v) => (show W.cell? ⟨b1, o1 + k * 3 + i, none⟩ = some v from ((hbw.trans (hW.mono (show w.heap.size ≤ w.heap.size + 1 by omega))).cell (p := ⟨b1, o1 + k * 3 + i, none⟩) hb1).trans (hca k u hu i v hv)))
      have HS := Lib.hid (tieE_next hu)
      have k0 : (0 : Int) ≤ (k : Int) := Int.natCast_nonneg _
      have k1 : (k : Int) < (ne : Int) := by omega
      have kl : (x.edges.take k).length ≤ 64 := by rw [List.length_take]; have := HN1.out; omega
      clear hca hu hbw
      go_wp2
      refine wp_region_held_drew (S := fun w' => Below (w.heap.size + 1) (w.alloc (.cells #[.int .i64 x.head.id.dir, .int .i64 x.head.id.orig, .int .i64 x.head.id.kind, .int .i64 x.head.id.nr, .int .i64 x.head.seq, .int .i64 x.head.life, .int .i64 x.level, .bool x.over, .slice (some ⟨b1, o1, none⟩) ne ce, .slice ar nr cr] 31)) w') (by kernel_rfl) HB.out.drew (fun hHeld => ?_)
      refine takeD (i := 0) (d := 26) (v := ?v0e) rfl rfl (by kernel_rfl) (by kernel_rfl) (by kernel_rfl) (fun _ _ _ h => h) rfl ?h0e (by assumption) ?r0e
      case h0e =>
        intro w2 hSw
        try dsimp only at hSw
        go_simp
        try with_reducible rfl
      simp only [List.setIfInBounds_toArray, List.set_cons_zero, List.set_cons_succ]
      refine takeD (i := 1) (d := 27) (v := ?v1e) rfl rfl (by kernel_rfl) (by kernel_rfl) (by kernel_rfl) (fun _ _ _ h => h) rfl ?h1e (by assumption) ?r1e
      case h1e =>
        intro w2 hSw
        try dsimp only at hSw
        go_simp
        try with_reducible rfl
      simp only [List.setIfInBounds_toArray, List.set_cons_zero, List.set_cons_succ]
      refine takeD (i := 2) (d := 28) (v := ?v2e) rfl rfl (by kernel_rfl) (by kernel_rfl) (by kernel_rfl) (fun _ _ _ h => h) rfl ?h2e (by assumption) ?r2e
      case h2e =>
        intro w2 hSw
        try dsimp only at hSw
        have q8 := cell_at (RP.out _ hSw) 8 (show ([.int .i64 x.head.id.dir, .int .i64 x.head.id.orig, .int .i64 x.head.id.kind, .int .i64 x.head.id.nr, .int .i64 x.head.seq, .int .i64 x.head.life, .int .i64 x.level, .bool x.over, .slice (some ⟨b1, o1, none⟩) ne ce, .slice ar nr cr] : List Value)[8]? = some (.slice (some ⟨b1, o1, none⟩) ne ce) from rfl)
        go_simp
        try with_reducible rfl
      simp only [List.setIfInBounds_toArray, List.set_cons_zero, List.set_cons_succ]
      refine takeD (i := 3) (d := 29) (v := ?v3e) rfl rfl (by kernel_rfl) (by kernel_rfl) (by kernel_rfl) (fun _ _ _ h => h) rfl ?h3e (by assumption) ?r3e
      case h3e =>
        intro w2 hSw
        try dsimp only at hSw
        go_simp
        try with_reducible rfl
      simp only [List.setIfInBounds_toArray, List.set_cons_zero, List.set_cons_succ]
      refine takeD (i := 4) (d := 30) (v := ?v4e) rfl rfl (by kernel_rfl) (by kernel_rfl) (by kernel_rfl) (fun _ _ _ h => h) rfl ?h4e (by assumption) ?r4e
      case h4e =>
        intro w2 hSw
        try dsimp only at hSw
        go_simp
        try with_reducible rfl
      simp only [List.setIfInBounds_toArray, List.set_cons_zero, List.set_cons_succ]
      refine takeD (i := 5) (d := 31) (v := ?v5e) rfl rfl (by kernel_rfl) (by kernel_rfl) (by kernel_rfl) (fun _ _ _ h => h) rfl ?h5e (by assumption) ?r5e
      case h5e =>
        intro w2 hSw
        try dsimp only at hSw
        go_simp
        try with_reducible rfl
      simp only [List.setIfInBounds_toArray, List.set_cons_zero, List.set_cons_succ]
      refine takeD (i := 6) (d := 32) (v := ?v6e) rfl rfl (by kernel_rfl) (by kernel_rfl) (by kernel_rfl) (fun _ _ _ h => h) rfl ?h6e (by assumption) ?r6e
      case h6e =>
        intro w2 hSw
        try dsimp only at hSw
        have g0 := GC.out _ hSw 0 _ rfl
        rw [Nat.add_zero] at g0
        go_simp
        try with_reducible rfl
      simp only [List.setIfInBounds_toArray, List.set_cons_zero, List.set_cons_succ]
      refine takeD (i := 7) (d := 33) (v := ?v7e) rfl rfl (by kernel_rfl) (by kernel_rfl) (by kernel_rfl) (fun _ _ _ h => h) rfl ?h7e (by assumption) ?r7e
      case h7e =>
        intro w2 hSw
        try dsimp only at hSw
        go_simp
        try with_reducible rfl
      simp only [List.setIfInBounds_toArray, List.set_cons_zero, List.set_cons_succ]
      refine takeD (i := 8) (d := 34) (v := ?v8e) rfl rfl (by kernel_rfl) (by kernel_rfl) (by kernel_rfl) (fun _ _ _ h => h) rfl ?h8e (by assumption) ?r8e
      case h8e =>
        intro w2 hSw
        try dsimp only at hSw
        have q8 := cell_at (RP.out _ hSw) 8 (show ([.int .i64 x.head.id.dir, .int .i64 x.head.id.orig, .int .i64 x.head.id.kind, .int .i64 x.head.id.nr, .int .i64 x.head.seq, .int .i64 x.head.life, .int .i64 x.level, .bool x.over, .slice (some ⟨b1, o1, none⟩) ne ce, .slice ar nr cr] : List Value)[8]? = some (.slice (some ⟨b1, o1, none⟩) ne ce) from rfl)
        go_simp
        try with_reducible rfl
      simp only [List.setIfInBounds_toArray, List.set_cons_zero, List.set_cons_succ]
      refine takeD (i := 9) (d := 35) (v := ?v9e) rfl rfl (by kernel_rfl) (by kernel_rfl) (by kernel_rfl) (fun _ _ _ h => h) rfl ?h9e (by assumption) ?r9e
      case h9e =>
        intro w2 hSw
        try dsimp only at hSw
        go_simp
        try with_reducible rfl
      simp only [List.setIfInBounds_toArray, List.set_cons_zero, List.set_cons_succ]
      refine takeD (i := 10) (d := 36) (v := ?v10e) rfl rfl (by kernel_rfl) (by kernel_rfl) (by kernel_rfl) (fun _ _ _ h => h) rfl ?h10e (by assumption) ?r10e
      case h10e =>
        intro w2 hSw
        try dsimp only at hSw
        go_simp
        try with_reducible rfl
      simp only [List.setIfInBounds_toArray, List.set_cons_zero, List.set_cons_succ]
      refine takeD (i := 11) (d := 37) (v := ?v11e) rfl rfl (by kernel_rfl) (by kernel_rfl) (by kernel_rfl) (fun _ _ _ h => h) rfl ?h11e (by assumption) ?r11e
      case h11e =>
        intro w2 hSw
        try dsimp only at hSw
        go_simp
        try with_reducible rfl
      simp only [List.setIfInBounds_toArray, List.set_cons_zero, List.set_cons_succ]
      refine takeD (i := 12) (d := 38) (v := ?v12e) rfl rfl (by kernel_rfl) (by kernel_rfl) (by kernel_rfl) (fun _ _ _ h => h) rfl ?h12e (by assumption) ?r12e
      case h12e =>
        intro w2 hSw
        try dsimp only at hSw
        have g1 := GC.out _ hSw 1 _ rfl
        go_simp
        try with_reducible rfl
      simp only [List.setIfInBounds_toArray, List.set_cons_zero, List.set_cons_succ]
      refine takeD (i := 13) (d := 39) (v := ?v13e) rfl rfl (by kernel_rfl) (by kernel_rfl) (by kernel_rfl) (fun _ _ _ h => h) rfl ?h13e (by assumption) ?r13e
      case h13e =>
        intro w2 hSw
        try dsimp only at hSw
        go_simp
        try with_reducible rfl
      simp only [List.setIfInBounds_toArray, List.set_cons_zero, List.set_cons_succ]
      refine takeD (i := 14) (d := 40) (v := ?v14e) rfl rfl (by kernel_rfl) (by kernel_rfl) (by kernel_rfl) (fun _ _ _ h => h) rfl ?h14e (by assumption) ?r14e
      case h14e =>
        intro w2 hSw
        try dsimp only at hSw
        have q8 := cell_at (RP.out _ hSw) 8 (show ([.int .i64 x.head.id.dir, .int .i64 x.head.id.orig, .int .i64 x.head.id.kind, .int .i64 x.head.id.nr, .int .i64 x.head.seq, .int .i64 x.head.life, .int .i64 x.level, .bool x.over, .slice (some ⟨b1, o1, none⟩) ne ce, .slice ar nr cr] : List Value)[8]? = some (.slice (some ⟨b1, o1, none⟩) ne ce) from rfl)
        go_simp
        try with_reducible rfl
      simp only [List.setIfInBounds_toArray, List.set_cons_zero, List.set_cons_succ]
      refine takeD (i := 15) (d := 41) (v := ?v15e) rfl rfl (by kernel_rfl) (by kernel_rfl) (by kernel_rfl) (fun _ _ _ h => h) rfl ?h15e (by assumption) ?r15e
      case h15e =>
        intro w2 hSw
        try dsimp only at hSw
        go_simp
        try with_reducible rfl
      simp only [List.setIfInBounds_toArray, List.set_cons_zero, List.set_cons_succ]
      refine takeD (i := 16) (d := 42) (v := ?v16e) rfl rfl (by kernel_rfl) (by kernel_rfl) (by kernel_rfl) (fun _ _ _ h => h) rfl ?h16e (by assumption) ?r16e
      case h16e =>
        intro w2 hSw
        try dsimp only at hSw
        go_simp
        try with_reducible rfl
      simp only [List.setIfInBounds_toArray, List.set_cons_zero, List.set_cons_succ]
      refine takeD (i := 17) (d := 43) (v := ?v17e) rfl rfl (by kernel_rfl) (by kernel_rfl) (by kernel_rfl) (fun _ _ _ h => h) rfl ?h17e (by assumption) ?r17e
      case h17e =>
        intro w2 hSw
        try dsimp only at hSw
        go_simp
        try with_reducible rfl
      simp only [List.setIfInBounds_toArray, List.set_cons_zero, List.set_cons_succ]
      refine takeD (i := 18) (d := 44) (v := ?v18e) rfl rfl (by kernel_rfl) (by kernel_rfl) (by kernel_rfl) (fun _ _ _ h => h) rfl ?h18e (by assumption) ?r18e
      case h18e =>
        intro w2 hSw
        try dsimp only at hSw
        have g2 := GC.out _ hSw 2 _ rfl
        go_simp
        try with_reducible rfl
      simp only [List.setIfInBounds_toArray, List.set_cons_zero, List.set_cons_succ]
      refine wpAnyH_ready (rs := [19]) (by kernel_rfl) (by simp) ?_
      refine AllReadyH.cons rfl (fun K hK => ?_) AllReadyH.nil
      go_simp
      have hB6 : Below (w.heap.size + 1) (w.alloc (.cells #[.int .i64 x.head.id.dir, .int .i64 x.head.id.orig, .int .i64 x.head.id.kind, .int .i64 x.head.id.nr, .int .i64 x.head.seq, .int .i64 x.head.life, .int .i64 x.level, .bool x.over, .slice (some ⟨b1, o1, none⟩) ne ce, .slice ar nr cr] 31)) (wr.alloc (.cells #[.int .i64 u.node, .int .i64 u.level, .int .i64 u.cost] 3)).drew := (HB.out.alloc (by have h1 := HSZ.out; have h2 := HB.out.size; first | omega | (simp at h2 ⊢; omega) | (simp; omega) | simp) _).drew
      refine hK.out _ _ hB6 (fun hHeld => ?_)
      clear hK K
      have hR6 : Rd .i64 ((wr.alloc (.cells #[.int .i64 u.node, .int .i64 u.level, .int .i64 u.cost] 3)).drew).heap.size ((wr.alloc (.cells #[.int .i64 u.node, .int .i64 u.level, .int .i64 u.cost] 3)).drew) (some ⟨wr.heap.size, 0, none⟩) [u.node, u.level, u.cost] := rd_built wr #[.int .i64 u.node, .int .i64 u.level, .int .i64 u.cost] [u.node, u.level, u.cost] rfl
      have hI6 : OwnE ((wr.alloc (.cells #[.int .i64 u.node, .int .i64 u.level, .int .i64 u.cost] 3)).drew) (w.heap.size + 1) (.slice A m c) ((opI 1 (headI x.head) ++ intsI 2 [x.level, bitI x.over]) ++ tieE (x.edges.take k)) := HO.out.below ((Below.refl _ _).alloc (Nat.le_refl _) _).drew
      obtain ⟨w6, hw⟩ : ∃ W, ((wr.alloc (.cells #[.int .i64 u.node, .int .i64 u.level, .int .i64 u.cost] 3)).drew) = W := ⟨_, rfl⟩
      rw [hw] at hHeld hB6 hR6 hI6 ⊢
      have B6 := Lib.hid hB6
      have R6 := Lib.hid hR6
      have I6 := Lib.hid hI6
      clear hB6 hR6 hI6 hw
      refine wpAnyH_ready (rs := [20]) (by kernel_rfl) (by simp) ?_
      refine AllReadyH.cons rfl (fun K hK => ?_) AllReadyH.nil
      go_simp
      go_wp2_with (go_at_call 16; refine (ints_any 1 (by decide) (by decide) (n := 3) (cap := 3) (zs := [u.node, u.level, u.cost]) rfl (by simp) R6.out).mono ?_; rintro e w7 ⟨A7, n7, c7, rfl, hn, ho, hb⟩; have O7 := Lib.hid (I6.out.below hb); have I7N := Lib.hid hn; have I7 := Lib.hid (ho.less (show w.heap.size + 1 ≤ _ from (by have h1 := HSZ.out; have h2 := B6.out.size; first | omega | (simp at h2 ⊢; omega) | (simp; omega) | simp))); have B7 := Lib.hid (B6.out.trans (hb.mono (by have h1 := HSZ.out; have h2 := B6.out.size; first | omega | (simp at h2 ⊢; omega) | (simp; omega) | simp))); clear hn ho hb)
      refine hK.out _ _ B7.out (fun hHeld => ?_)
      clear hK K
      refine wpAnyH_ready (rs := [21]) (by kernel_rfl) (by simp) ?_
      refine AllReadyH.cons rfl (fun K hK => ?_) AllReadyH.nil
      go_simp
      go_wp2_with (go_at_call 17; refine (open_any 4 I7N.out (by simp [intsI]) I7.out.src).mono ?_; rintro e w8 ⟨A8, n8, c8, rfl, hn, ho, hb⟩; have O8 := Lib.hid (O7.out.below hb); have I8N := Lib.hid hn; have I8 := Lib.hid (ho.less (show w.heap.size + 1 ≤ _ from (by have h1 := HSZ.out; have h2 := B7.out.size; first | omega | (simp at h2 ⊢; omega) | (simp; omega) | simp))); have B8 := Lib.hid (B7.out.trans (hb.mono (by have h1 := HSZ.out; have h2 := B7.out.size; first | omega | (simp at h2 ⊢; omega) | (simp; omega) | simp))); clear hn ho hb)
      refine hK.out _ _ B8.out (fun hHeld => ?_)
      clear hK K
      refine wpAnyH_ready (rs := [22]) (by kernel_rfl) (by simp) ?_
      refine AllReadyH.cons rfl (fun K hK => ?_) AllReadyH.nil
      refine step_append_E 48 rfl (by rfl) (.tmp 26) (.tmp 47) rfl (w.heap.size + 1) _ ((opI 1 (headI x.head) ++ intsI 2 [x.level, bitI x.over]) ++ tieE (x.edges.take k)) rfl O8.out A8 (opI 4 (edgeI u)) n8 c8 rfl I8N.out I8.out.src (by rw [List.length_append, tieE_len]; simp [opI, headI, idI, intsI, edgeI]; omega) (by have h1 := HSZ.out; have h2 := B8.out.size; first | omega | (simp at h2 ⊢; omega) | (simp; omega) | simp) ?_
      intro A9 n9 c9 w9 hn ho hb
      rw [List.append_assoc, ← HS.out] at ho
      have I9 := Lib.hid ho
      have B9 := Lib.hid (B8.out.trans hb)
      clear hn ho hb
      simp only [List.setIfInBounds_toArray, List.set_cons_zero, List.set_cons_succ]
      refine hK.out _ _ B9.out (fun hHeld => ?_)
      clear hK K
      refine takeD (i := 23) (d := 3) (v := ?v23e) rfl rfl (by kernel_rfl) (by kernel_rfl) (by kernel_rfl) (fun _ _ _ h => h) rfl ?h23e (by assumption) ?r23e
      case h23e =>
        intro w2 hSw
        try dsimp only at hSw
        go_simp
        try with_reducible rfl
      simp only [List.setIfInBounds_toArray, List.set_cons_zero, List.set_cons_succ]
      refine wpAnyH_done (by kernel_rfl) ?_ _
      clear hHeld
      go_wp2
      go_roundw
      case rel => exact ⟨k + 1, n9, c9, A9, by omega, by go_num, rfl, I9.out, B9.out⟩
      case measure => simp [intOf]; omega
    · obtain rfl : ne = k := by omega
      have HO1 : RowKit.Hid (OwnE wr (w.heap.size + 1) (.slice A m c) ((opI 1 (headI x.head) ++ intsI 2 [x.level, bitI x.over]) ++ tieE x.edges)) := by have h := HO.out; rwa [List.take_of_length_le (by have := HN1.out; omega)] at h
      clear HO
      go_wp2
      go_loopw [3, 5] (fun ov iv wr => ∃ (j m c : Nat) (A : Option Addr), j ≤ nr ∧ iv = .int .i64 j ∧ ov = .slice A m c ∧ OwnE wr (w.heap.size + 1) ov (((opI 1 (headI x.head) ++ intsI 2 [x.level, bitI x.over]) ++ tieE x.edges) ++ tieRs (x.reaches.take j)) ∧ Below (w.heap.size + 1) (w.alloc (.cells #[.int .i64 x.head.id.dir, .int .i64 x.head.id.orig, .int .i64 x.head.id.kind, .int .i64 x.head.id.nr, .int .i64 x.head.seq, .int .i64 x.head.life, .int .i64 x.level, .bool x.over, .slice ae ne ce, .slice ar nr cr] 31)) wr) (fun _ iv _ => nr - (intOf iv).toNat)
      case atStart => exact ⟨0, m, c, A, Nat.zero_le _, rfl, rfl, by have h := HO1.out; rw [List.take_zero]; unfold tieRs; rw [List.flatMap_nil, List.append_nil]; exact h, HB.out⟩
      case round =>
        obtain ⟨j, m, c, A, hj, rfl, rfl, hown, hbel⟩ := hrel
        have HO := Lib.hid hown
        have HB := Lib.hid hbel
        have q9 := cell_at (RP.out _ hbel) 9 (show ([.int .i64 x.head.id.dir, .int .i64 x.head.id.orig, .int .i64 x.head.id.kind, .int .i64 x.head.id.nr, .int .i64 x.head.seq, .int .i64 x.head.life, .int .i64 x.level, .bool x.over, .slice ae ne ce, .slice ar nr cr] : List Value)[9]? = some (.slice ar nr cr) from rfl)
        clear hown hbel
        by_cases hlt : j < nr
        · obtain ⟨b2, o2, hae, hb2, hca⟩ := RR.out (by have := HN2.out; omega)
          obtain ⟨u, hu⟩ : ∃ u, x.reaches[j]? = some u := ⟨_, List.getElem?_eq_getElem (by have := HN2.out; omega)⟩
          rw [hae] at q9
          have hbw := HB0.out.trans (HB.out.mono (show w.heap.size ≤ w.heap.size + 1 by omega))
          have g0 := (hbw.cell (p := ⟨b2, o2 + j * 3 + 0, none⟩) hb2).trans (hca j u hu 0 _ rfl)
          have g1 := (hbw.cell (p := ⟨b2, o2 + j * 3 + 1, none⟩) hb2).trans (hca j u hu 1 _ rfl)
          have g2 := (hbw.cell (p := ⟨b2, o2 + j * 3 + 2, none⟩) hb2).trans (hca j u hu 2 _ rfl)
          rw [Nat.add_zero] at g0
          obtain ⟨u0, u1⟩ := HOK.out u (List.mem_of_getElem? hu)
          have HS := Lib.hid (tieRs_next hu)
          have k0 : (0 : Int) ≤ (j : Int) := Int.natCast_nonneg _
          have k1 : (j : Int) < (nr : Int) := by omega
          have kl : (x.reaches.take j).length ≤ 64 := by rw [List.length_take]; omega
          have el : x.edges.length ≤ 64 := by have := HN1.out; omega
          have hi := ints_any 1 (by decide) (by decide) (n := 3) (cap := 3) (zs := [u.net, u.bits, u.metric]) rfl (by simp) (rd_built (wr.alloc (.cells #[.int .u32 u.net, .int .i64 u.bits, .int .i64 u.metric] 81)) #[.int .i64 u.net, .int .i64 u.bits, .int .i64 u.metric] [u.net, u.bits, u.metric] rfl)
          rw [show (wr.alloc (.cells #[.int .u32 u.net, .int .i64 u.bits, .int .i64 u.metric] 81)).heap.size = wr.heap.size + 1 by simp] at hi
          have HI := Lib.hid hi
          have BI := Lib.hid (((Below.refl wr.heap.size wr).alloc (Nat.le_refl _) (.cells #[.int .u32 u.net, .int .i64 u.bits, .int .i64 u.metric] 81)).alloc (by simp) (.cells #[.int .i64 u.net, .int .i64 u.bits, .int .i64 u.metric] 3))
          have HZ := Lib.hid (show ((wr.alloc (.cells #[.int .u32 u.net, .int .i64 u.bits, .int .i64 u.metric] 81)).alloc (.cells #[.int .i64 u.net, .int .i64 u.bits, .int .i64 u.metric] 3)).heap.size = wr.heap.size + 1 + 1 by simp)
          clear hca hu hbw hi hae
          go_wp2_with (first
            | (go_at_call 16; refine HI.out.mono ?_; rintro e w7 ⟨A7, n7, c7, rfl, hn, ho, hb⟩; have I7N := Lib.hid hn; have h8 : Below wr.heap.size wr w7 := BI.out.trans (hb.mono (by have := HZ.out; omega)); have hb1 := HB.out.size; have I7 := Lib.hid (ho.less (show w.heap.size + 1 ≤ _ by have h1 := HSZ.out; have := HZ.out; omega)); have O7 := Lib.hid (HO.out.below h8); have B7 := Lib.hid (HB.out.trans (h8.mono (by have h1 := HSZ.out; omega))); clear hn ho hb h8)
            | (go_at_call 17; refine (open_any 5 I7N.out (by simp [intsI]) I7.out.src).mono ?_; rintro e w8 ⟨A8, n8, c8, rfl, hn, ho, hb⟩; have I8N := Lib.hid hn; have I8 := Lib.hid (ho.less (show w.heap.size + 1 ≤ _ by have h1 := HSZ.out; have h2 := B7.out.size; omega)); have O8 := Lib.hid (O7.out.below hb); have B8 := Lib.hid (B7.out.trans (hb.mono (by have h1 := HSZ.out; have h2 := B7.out.size; omega))); clear hn ho hb)
            | (at_builtin; refine wpList_append_E rfl _ _ rfl (w.heap.size + 1) _ (((opI 1 (headI x.head) ++ intsI 2 [x.level, bitI x.over]) ++ tieE x.edges) ++ tieRs (x.reaches.take j)) rfl O8.out A8 (opI 5 (reachI u)) n8 c8 rfl I8N.out I8.out.src (by rw [List.length_append, List.length_append, tieE_len, tieRs_len]; simp [opI, headI, idI, intsI, reachI]; omega) (by have h1 := HSZ.out; have h2 := B8.out.size; omega) ?_; intro A9 n9 c9 w9 hn ho hb; rw [List.append_assoc, ← HS.out] at ho; have I9 := Lib.hid ho; have B9 := Lib.hid (B8.out.trans hb); clear hn ho hb))
          go_roundw
          case rel => exact ⟨j + 1, n9, c9, A9, by omega, by go_num, rfl, I9.out, B9.out⟩
          case measure => simp [intOf]; omega
        · obtain rfl : nr = j := by omega
          have HO2 : RowKit.Hid (OwnE wr (w.heap.size + 1) (.slice A m c) (tieI x)) := by
            have h := HO.out
            rw [List.take_of_length_le (by have := HN2.out; omega), tie_parts] at h
            exact h
          clear HO
          go_wp2
          go_ret
          exact ⟨A, m, c, rfl, HO2.out.len, HO2.out.less (by omega), HB0.out.trans (HB.out.mono (by omega))⟩
end Go.Proofs.Ytjkibgnkkienbaa
