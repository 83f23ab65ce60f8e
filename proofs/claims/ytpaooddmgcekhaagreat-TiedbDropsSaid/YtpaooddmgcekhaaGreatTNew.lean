/-
  THE PROGRAM'S Newer.
-/
import Derived.Test.YtpaooddmgcekhaaGreatTCmp
namespace Go.Proofs.YtpaooddmgcekhaaGreat.ti
set_option linter.unusedSimpArgs false
set_option linter.unusedVariables false
open Go.RowKit
set_option maxHeartbeats 1600000 in
set_option maxRecDepth 100000 in
theorem near_any (a b : Int) (ha : In64 a) (hb : In64 b) (w : World) : Calls Tryz.prog 51 #[.agg #[.int .i64 a, .int .i64 b]] w fun e w' => e = .returned (.bool (!(decide (farT a b)) && !(decide (farT b a)))) ∧ Fwd w w' := by
  have HF := Lib.hid (fun o => (Fwd.refl w).alloc o)
  unfold In64 at ha hb
  obtain ⟨r, hr⟩ : ∃ r, (!(decide (farT a b)) && !(decide (farT b a))) = r := ⟨_, rfl⟩
  rw [hr]
  have hr2 : (r = true ↔ ¬ farT a b ∧ ¬ farT b a) := by rw [← hr]; simp
  unfold farT at hr2
  have HR := Lib.hid hr2
  clear hr hr2
  by_cases h0 : a = b
  · subst h0
    go_enter Tryz.func51, Tryz.ntmps51
    go_wp2
    go_ret
    refine ⟨?_, HF.out _⟩
    have := HR.out
    simp only [show r = true from HR.out.2 (by omega)]
    rfl
  · by_cases h1 : a < b
    · have h2 : a ≤ b := by omega
      have h3 : ¬ b ≤ a := by omega
      have HA := Lib.hid ha
      have HB := Lib.hid hb
      clear h0 ha hb
      go_enter Tryz.func51, Tryz.ntmps51
      go_wp2
      go_ret
      refine ⟨?_, HF.out _⟩
      have ha := HA.out
      have hb := HB.out
      have hq : IntKind.u64.wrap (IntKind.u64.wrap b - IntKind.u64.wrap a) = b - a := by simp only [IntKind.wrap_u64]; omega
      show Ending.returned (Value.bool (decide (IntKind.u64.wrap (IntKind.u64.wrap b - IntKind.u64.wrap a) ≤ 300))) = _
      rw [hq]
      have hp : (b - a ≤ 300) ↔ r = true := by have := HR.out; rw [this]; omega
      exact (ret_dec hp).symm
    · have h2 : b ≤ a := by omega
      have h3 : ¬ a ≤ b := by omega
      have HA := Lib.hid ha
      have HB := Lib.hid hb
      clear h0 ha hb
      go_enter Tryz.func51, Tryz.ntmps51
      go_wp2
      go_ret
      refine ⟨?_, HF.out _⟩
      have ha := HA.out
      have hb := HB.out
      have hq : IntKind.u64.wrap (IntKind.u64.wrap a - IntKind.u64.wrap b) = a - b := by simp only [IntKind.wrap_u64]; omega
      show Ending.returned (Value.bool (decide (IntKind.u64.wrap (IntKind.u64.wrap a - IntKind.u64.wrap b) ≤ 300))) = _
      rw [hq]
      have hp : (a - b ≤ 300) ↔ r = true := by have := HR.out; rw [this]; omega
      exact (ret_dec hp).symm
theorem new_near {a b : THd} (h : ¬ farT a.life b.life ∧ ¬ farT b.life a.life) : pairsT [(a.seq, b.seq)] = newT a b := by
  simp only [pairsT]
  by_cases q : a.seq = b.seq
  · rw [if_pos q, new_eq q, if_neg h.1, if_neg h.2]
  · rw [if_neg q, new_ne q]
theorem new_far {a b : THd} (h : ¬ (¬ farT a.life b.life ∧ ¬ farT b.life a.life)) : pairsT [(a.seq, b.seq), (a.life, b.life)] = newT a b := by
  simp only [pairsT]
  by_cases q : a.seq = b.seq
  · rw [if_pos q, new_eq q]
    by_cases q1 : farT a.life b.life
    · rw [if_pos q1]
      unfold farT at q1
      rw [if_neg (by omega)]; unfold numT; rw [if_neg (by omega), if_pos (by omega)]
    · have q2 : farT b.life a.life := Classical.byContradiction fun k => h ⟨q1, k⟩
      rw [if_neg q1, if_pos q2]
      unfold farT at q2
      rw [if_neg (by omega)]; unfold numT; rw [if_pos (by omega)]
  · rw [if_neg q, new_ne q]
theorem two_new {W0 U : World} {n : Nat} (x y u v : Value) (T : TypeId) (hn : W0.heap.size = n) (hU : ((W0.alloc (.cells #[x, y] T)).alloc (.cells #[u, v] T)).drew = U) : (U.cell? ⟨n, 0, none⟩ = some x ∧ U.cell? ⟨n, 1, none⟩ = some y) ∧ U.cell? ⟨n + 1, 0, none⟩ = some u ∧ U.cell? ⟨n + 1, 1, none⟩ = some v := by
  have h1 : U.heap[n]? = some (.cells #[x, y] T (0, 0)) := by
    rw [← hU, ← hn]
    show ((W0.alloc (.cells #[x, y] T)).alloc (.cells #[u, v] T)).heap[W0.heap.size]? = _
    rw [heap_alloc_old _ _ (by simp)]
    exact heap_alloc_new W0 _
  have h2 : U.heap[n + 1]? = some (.cells #[u, v] T (0, 0)) := by
    rw [← hU, ← hn]
    show ((W0.alloc (.cells #[x, y] T)).alloc (.cells #[u, v] T)).heap[W0.heap.size + 1]? = _
    have := heap_alloc_new (W0.alloc (.cells #[x, y] T)) (.cells #[u, v] T)
    simpa using this
  simp [World.cell?, h1, h2]
theorem rdp_one (W : World) (p : Int × Int) : RdP (W.alloc (.cells #[.int .i64 p.1, .int .i64 p.2] 110)) W.heap.size [p] := fun j q hj => by
  have hx := heap_alloc_new W (.cells #[.int .i64 p.1, .int .i64 p.2] 110)
  obtain ⟨V, hV⟩ : ∃ V, W.alloc (.cells #[.int .i64 p.1, .int .i64 p.2] 110) = V := ⟨_, rfl⟩
  rw [hV] at hx ⊢
  match j, hj with
  | 0, hj => simp at hj; subst hj; simp [World.cell?, hx]
  | j + 1, hj => simp at hj
theorem rdp_two (W : World) (p q : Int × Int) : RdP (W.alloc (.cells #[.int .i64 p.1, .int .i64 p.2, .int .i64 q.1, .int .i64 q.2] 110)) W.heap.size [p, q] := fun j r hj => by
  have hx := heap_alloc_new W (.cells #[.int .i64 p.1, .int .i64 p.2, .int .i64 q.1, .int .i64 q.2] 110)
  obtain ⟨V, hV⟩ : ∃ V, W.alloc (.cells #[.int .i64 p.1, .int .i64 p.2, .int .i64 q.1, .int .i64 q.2] 110) = V := ⟨_, rfl⟩
  rw [hV] at hx ⊢
  match j, hj with
  | 0, hj => simp at hj; subst hj; simp [World.cell?, hx]
  | 1, hj => simp at hj; subst hj; simp [World.cell?, hx]
  | j + 2, hj => simp at hj
set_option maxHeartbeats 3200000 in
set_option maxRecDepth 100000 in
theorem pnewer_any (a b : THd) (ha : In64 a.life) (hb : In64 b.life) (w : World) : Calls Tryz.prog 37 #[.agg #[.int .i64 a.id.d, .int .i64 a.id.o, .int .i64 a.id.k, .int .i64 a.id.n, .int .i64 a.seq, .int .i64 a.life], .agg #[.int .i64 b.id.d, .int .i64 b.id.o, .int .i64 b.id.k, .int .i64 b.id.n, .int .i64 b.seq, .int .i64 b.life]] w fun e w' => e = .returned (.int .i64 (newT a b)) ∧ Fwd w w' := by
  obtain ⟨r, hr⟩ : ∃ r, newT a b = r := ⟨_, rfl⟩
  have hn := near_any a.life b.life ha hb
  have hp1 : (¬ farT a.life b.life ∧ ¬ farT b.life a.life) → ∀ (W : World) (g : Nat), g < W.heap.size → RdP W g [(a.seq, b.seq)] → Calls Tryz.prog 52 #[.slice (some ⟨g, 0, none⟩) 1 1] W fun e w' => e = .returned (.int .i64 r) ∧ Fwd W w' := fun h W g hg hd => by
    rw [← hr, ← new_near h]
    exact pairs_any _ g 1 1 W rfl hg hd (by omega) (by omega)
  have hp2 : ¬ (¬ farT a.life b.life ∧ ¬ farT b.life a.life) → ∀ (W : World) (g : Nat), g < W.heap.size → RdP W g [(a.seq, b.seq), (a.life, b.life)] → Calls Tryz.prog 52 #[.slice (some ⟨g, 0, none⟩) 2 2] W fun e w' => e = .returned (.int .i64 r) ∧ Fwd W w' := fun h W g hg hd => by
    rw [← hr, ← new_far h]
    exact pairs_any _ g 2 2 W rfl hg hd (by omega) (by omega)
  rw [hr]
  clear ha hb hr
  by_cases hfar : ¬ farT a.life b.life ∧ ¬ farT b.life a.life
  · rw [show (!(decide (farT a.life b.life)) && !(decide (farT b.life a.life))) = true from by rw [decide_eq_false hfar.1, decide_eq_false hfar.2]; rfl] at hn
    have HP := Lib.hid (hp1 hfar)
    clear hp1 hp2 hfar
    go_enter Tryz.func37, Tryz.ntmps37
    go_wp2
    go_region
    · generalize hU : World.drew _ = U
      have HU : RowKit.Hid (Fwd w U) := by rw [← hU]; exact (((((Fwd.refl w).alloc _).alloc _).alloc _).alloc _).drew
      have hsz : w.heap.size + 1 + 1 + 1 < U.heap.size := by rw [← hU]; simp
      obtain ⟨⟨c0, c1⟩, d0, d1⟩ := two_new (n := w.heap.size + 1 + 1) _ _ _ _ _ (by simp) hU
      clear hU
      go_wp2_with (first
        | (go_at_call 51; (with_reducible refine (hn _).mono ?_); rintro e w1 ⟨rfl, hf⟩; have c0' : w1.cell? ⟨w.heap.size + 1 + 1, 0, none⟩ = some (.int .i64 a.seq) := (hf.bel.cell (p := ⟨w.heap.size + 1 + 1, 0, none⟩) (show w.heap.size + 1 + 1 < U.heap.size by omega)).trans c0; have c1' : w1.cell? ⟨w.heap.size + 1 + 1, 1, none⟩ = some (.int .i64 b.seq) := (hf.bel.cell (p := ⟨w.heap.size + 1 + 1, 1, none⟩) (show w.heap.size + 1 + 1 < U.heap.size by omega)).trans c1; have d0' : w1.cell? ⟨w.heap.size + 1 + 1 + 1, 0, none⟩ = some (.int .i64 a.life) := (hf.bel.cell (p := ⟨w.heap.size + 1 + 1 + 1, 0, none⟩) (show w.heap.size + 1 + 1 + 1 < U.heap.size by omega)).trans d0; have d1' : w1.cell? ⟨w.heap.size + 1 + 1 + 1, 1, none⟩ = some (.int .i64 b.life) := (hf.bel.cell (p := ⟨w.heap.size + 1 + 1 + 1, 1, none⟩) (show w.heap.size + 1 + 1 + 1 < U.heap.size by omega)).trans d1; have HF1 := Lib.hid (HU.out.trans hf); clear hf c0 c1 d0 d1)
        | (go_at_call 52; refine (HP.out _ w1.heap.size (by simp; done) (rdp_one w1 (a.seq, b.seq))).mono ?_; rintro e w2 ⟨rfl, hf⟩; have HF2 := Lib.hid ((HF1.out.alloc _).trans hf); clear hf))
      go_ret
      exact ⟨rfl, HF2.out⟩
    · generalize hU : World.drew _ = U
      have HU : RowKit.Hid (Fwd w U) := by rw [← hU]; exact (((((Fwd.refl w).alloc _).alloc _).alloc _).alloc _).drew
      have hsz : w.heap.size + 1 + 1 + 1 < U.heap.size := by rw [← hU]; simp
      obtain ⟨⟨d0, d1⟩, c0, c1⟩ := two_new (n := w.heap.size + 1 + 1) _ _ _ _ _ (by simp) hU
      clear hU
      go_wp2_with (first
        | (go_at_call 51; (with_reducible refine (hn _).mono ?_); rintro e w1 ⟨rfl, hf⟩; have c0' : w1.cell? ⟨w.heap.size + 1 + 1 + 1, 0, none⟩ = some (.int .i64 a.seq) := (hf.bel.cell (p := ⟨w.heap.size + 1 + 1 + 1, 0, none⟩) (show w.heap.size + 1 + 1 + 1 < U.heap.size by omega)).trans c0; have c1' : w1.cell? ⟨w.heap.size + 1 + 1 + 1, 1, none⟩ = some (.int .i64 b.seq) := (hf.bel.cell (p := ⟨w.heap.size + 1 + 1 + 1, 1, none⟩) (show w.heap.size + 1 + 1 + 1 < U.heap.size by omega)).trans c1; have d0' : w1.cell? ⟨w.heap.size + 1 + 1, 0, none⟩ = some (.int .i64 a.life) := (hf.bel.cell (p := ⟨w.heap.size + 1 + 1, 0, none⟩) (show w.heap.size + 1 + 1 < U.heap.size by omega)).trans d0; have d1' : w1.cell? ⟨w.heap.size + 1 + 1, 1, none⟩ = some (.int .i64 b.life) := (hf.bel.cell (p := ⟨w.heap.size + 1 + 1, 1, none⟩) (show w.heap.size + 1 + 1 < U.heap.size by omega)).trans d1; have HF1 := Lib.hid (HU.out.trans hf); clear hf c0 c1 d0 d1)
        | (go_at_call 52; refine (HP.out _ w1.heap.size (by simp; done) (rdp_one w1 (a.seq, b.seq))).mono ?_; rintro e w2 ⟨rfl, hf⟩; have HF2 := Lib.hid ((HF1.out.alloc _).trans hf); clear hf))
      go_ret
      exact ⟨rfl, HF2.out⟩
  · rw [show (!(decide (farT a.life b.life)) && !(decide (farT b.life a.life))) = false from by by_cases q : farT a.life b.life; rw [decide_eq_true q]; rfl; rw [decide_eq_true (show farT b.life a.life from Classical.byContradiction fun k => hfar ⟨q, k⟩)]; simp] at hn
    have HP := Lib.hid (hp2 hfar)
    clear hp1 hp2 hfar
    go_enter Tryz.func37, Tryz.ntmps37
    go_wp2
    go_region
    · generalize hU : World.drew _ = U
      have HU : RowKit.Hid (Fwd w U) := by rw [← hU]; exact (((((Fwd.refl w).alloc _).alloc _).alloc _).alloc _).drew
      have hsz : w.heap.size + 1 + 1 + 1 < U.heap.size := by rw [← hU]; simp
      obtain ⟨⟨c0, c1⟩, d0, d1⟩ := two_new (n := w.heap.size + 1 + 1) _ _ _ _ _ (by simp) hU
      clear hU
      go_wp2_with (first
        | (go_at_call 51; (with_reducible refine (hn _).mono ?_); rintro e w1 ⟨rfl, hf⟩; have c0' : w1.cell? ⟨w.heap.size + 1 + 1, 0, none⟩ = some (.int .i64 a.seq) := (hf.bel.cell (p := ⟨w.heap.size + 1 + 1, 0, none⟩) (show w.heap.size + 1 + 1 < U.heap.size by omega)).trans c0; have c1' : w1.cell? ⟨w.heap.size + 1 + 1, 1, none⟩ = some (.int .i64 b.seq) := (hf.bel.cell (p := ⟨w.heap.size + 1 + 1, 1, none⟩) (show w.heap.size + 1 + 1 < U.heap.size by omega)).trans c1; have d0' : w1.cell? ⟨w.heap.size + 1 + 1 + 1, 0, none⟩ = some (.int .i64 a.life) := (hf.bel.cell (p := ⟨w.heap.size + 1 + 1 + 1, 0, none⟩) (show w.heap.size + 1 + 1 + 1 < U.heap.size by omega)).trans d0; have d1' : w1.cell? ⟨w.heap.size + 1 + 1 + 1, 1, none⟩ = some (.int .i64 b.life) := (hf.bel.cell (p := ⟨w.heap.size + 1 + 1 + 1, 1, none⟩) (show w.heap.size + 1 + 1 + 1 < U.heap.size by omega)).trans d1; have HF1 := Lib.hid (HU.out.trans hf); clear hf c0 c1 d0 d1)
        | (go_at_call 52; refine (HP.out _ w1.heap.size (by simp; done) (rdp_two w1 (a.seq, b.seq) (a.life, b.life))).mono ?_; rintro e w2 ⟨rfl, hf⟩; have HF2 := Lib.hid ((HF1.out.alloc _).trans hf); clear hf))
      go_ret
      exact ⟨rfl, HF2.out⟩
    · generalize hU : World.drew _ = U
      have HU : RowKit.Hid (Fwd w U) := by rw [← hU]; exact (((((Fwd.refl w).alloc _).alloc _).alloc _).alloc _).drew
      have hsz : w.heap.size + 1 + 1 + 1 < U.heap.size := by rw [← hU]; simp
      obtain ⟨⟨d0, d1⟩, c0, c1⟩ := two_new (n := w.heap.size + 1 + 1) _ _ _ _ _ (by simp) hU
      clear hU
      go_wp2_with (first
        | (go_at_call 51; (with_reducible refine (hn _).mono ?_); rintro e w1 ⟨rfl, hf⟩; have c0' : w1.cell? ⟨w.heap.size + 1 + 1 + 1, 0, none⟩ = some (.int .i64 a.seq) := (hf.bel.cell (p := ⟨w.heap.size + 1 + 1 + 1, 0, none⟩) (show w.heap.size + 1 + 1 + 1 < U.heap.size by omega)).trans c0; have c1' : w1.cell? ⟨w.heap.size + 1 + 1 + 1, 1, none⟩ = some (.int .i64 b.seq) := (hf.bel.cell (p := ⟨w.heap.size + 1 + 1 + 1, 1, none⟩) (show w.heap.size + 1 + 1 + 1 < U.heap.size by omega)).trans c1; have d0' : w1.cell? ⟨w.heap.size + 1 + 1, 0, none⟩ = some (.int .i64 a.life) := (hf.bel.cell (p := ⟨w.heap.size + 1 + 1, 0, none⟩) (show w.heap.size + 1 + 1 < U.heap.size by omega)).trans d0; have d1' : w1.cell? ⟨w.heap.size + 1 + 1, 1, none⟩ = some (.int .i64 b.life) := (hf.bel.cell (p := ⟨w.heap.size + 1 + 1, 1, none⟩) (show w.heap.size + 1 + 1 < U.heap.size by omega)).trans d1; have HF1 := Lib.hid (HU.out.trans hf); clear hf c0 c1 d0 d1)
        | (go_at_call 52; refine (HP.out _ w1.heap.size (by simp; done) (rdp_two w1 (a.seq, b.seq) (a.life, b.life))).mono ?_; rintro e w2 ⟨rfl, hf⟩; have HF2 := Lib.hid ((HF1.out.alloc _).trans hf); clear hf))
      go_ret
      exact ⟨rfl, HF2.out⟩
end Go.Proofs.YtpaooddmgcekhaaGreat.ti
