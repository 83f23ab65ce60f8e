/-
  FloodClimbs: the walk.
-/
import Derived.Test.YtbgilngpkogapaaGAwk
namespace Go.Proofs.Ytbgilngpkogapaa.ti
set_option linter.unusedSimpArgs false
set_option linter.unusedVariables false
open Go.RowKit
def turnG (d : Int) (t : TiV) : TiV := ⟨⟨⟨d, t.hd.id.o, t.hd.id.k, t.hd.id.n⟩, t.hd.seq, t.hd.life⟩, t.level, t.over, t.es, t.rs⟩
theorem climbs_math (t : TiV) (i a b : Int) (h : a < b) : goesG (turnG 2 t) ⟨i, a, false, i + 1, 0, b, 0⟩ = true ∧ goesG (turnG 2 t) ⟨i + 1, b, false, i, 0, a, 0⟩ = false ∧ goesG (turnG 1 t) ⟨i + 1, b, false, i, 0, a, 0⟩ = (t.hd.id.o == i + 1) := by
  have h1 : ¬ b < a := by omega
  have h2 : ¬ a = b := by omega
  refine ⟨?_, ?_, ?_⟩
  · simp [goesG, turnG, h]
  · simp [goesG, turnG, h1, h2]
  · simp [goesG, turnG, ofSelf, h1, h2]
    rfl
set_option maxHeartbeats 3200000 in
set_option maxRecDepth 100000 in
theorem climbs_walk (t : TiV) (sl : Sl2) (a : Option Addr) (c : Nat) (l : List Int) (w : World) (hin : In2 w t sl) (hr : RdE 1 (fun n : Int => [.int .i64 n]) w a l) : Calls Try.prog 5 #[aggV t sl, .slice a l.length c] w fun e w' => e = .returned (.bool true) ∧ Below w.heap.size w w' := by
  clear hin
  have HR := Lib.hid hr
  have HB0 : Hid (Below w.heap.size w (w.alloc (.cells #[.int .i64 t.hd.id.d, .int .i64 t.hd.id.o, .int .i64 t.hd.id.k, .int .i64 t.hd.id.n, .int .i64 t.hd.seq, .int .i64 t.hd.life, .int .i64 t.level, .bool t.over, .slice sl.ea t.es.length sl.ec, .slice sl.ra t.rs.length sl.rc] 35))) := below_box _ _
  have HA0 := box_own w t sl
  obtain ⟨m, hm⟩ : ∃ m, l.length = m := ⟨_, rfl⟩
  have HM := Lib.hid hm
  rw [hm]
  clear hm hr
  by_cases hbig : (50 : Int) < m
  · unfold aggV
    go_enter Try.func5, Try.ntmps5
    go_wp2_with (go_at_call 7; refine (awake_any _).mono ?_; rintro e w1 ⟨rfl, hb⟩; have HB1 := Lib.hid (HB0.out.trans (hb.mono HB0.out.size)); clear hb)
    go_ret
    exact ⟨rfl, HB1.out⟩
  · have hm1 : m ≤ 50 := by omega
    unfold aggV
    go_enter Try.func5, Try.ntmps5
    go_wp2_with (go_at_call 7; refine (awake_any _).mono ?_; rintro e w1 ⟨rfl, hb⟩; have HB1 := Lib.hid (HB0.out.trans (hb.mono HB0.out.size)); have HA1 := Lib.hid (HA0.out.below hb HA0.out.lt); clear hb)
    go_loopw [6] (fun iv wr => ∃ i : Nat, 1 ≤ i ∧ (i ≤ m ∨ i = 1) ∧ iv = .int .i64 i ∧ Hid (Below w1.heap.size w1 wr)) (fun iv _ => m - (intOf iv).toNat)
    case atStart => exact ⟨1, by omega, by omega, rfl, Below.refl _ _⟩
    case round =>
      obtain ⟨i, hi1, him, rfl, HB⟩ := hrel
      have BW : Hid (Below w.heap.size w wr) := HB1.out.trans (HB.out.mono HB1.out.size)
      by_cases hlt : i < m
      · obtain ⟨x, hx⟩ : ∃ x, l[i - 1]? = some x := ⟨_, List.getElem?_eq_getElem (by have := HM.out; omega)⟩
        obtain ⟨y, hy⟩ : ∃ y, l[i]? = some y := ⟨_, List.getElem?_eq_getElem (by have := HM.out; omega)⟩
        obtain ⟨k, rfl⟩ : ∃ k, i = k + 1 := ⟨i - 1, by omega⟩
        obtain ⟨g, o, rfl, hg, hc⟩ := (HR.out.below BW.out) _ x hx
        obtain ⟨g', o', e', _, hd⟩ := (HR.out.below BW.out) _ y hy
        cases e'
        have ca : wr.cell? ⟨g, o + k, none⟩ = some (.int .i64 x) := by have := hc 0 _ rfl; simpa using this
        have cb : wr.cell? ⟨g, o + (k + 1), none⟩ = some (.int .i64 y) := by have := hd 0 _ rfl; simpa using this
        have cad : wr.drew.cell? ⟨g, o + k, none⟩ = some (.int .i64 x) := ca
        have cbd : wr.drew.cell? ⟨g, o + (k + 1), none⟩ = some (.int .i64 y) := cb
        have hk1 : (k : Int) < m := by omega
        have hk2 : (k : Int) + 1 < m := by omega
        clear hc hd hx hy
        have HG := Lib.hid hg
        go_wp2
        go_region
        have hA7 : Arr (wr.alloc (.cells #[.int .i64 ((k : Int) + 1), .int .i64 x, .bool false, .int .i64 ((k : Int) + 1 + 1), .int .i64 0, .int .i64 y, .int .i64 0] 26)).drew wr.heap.size 26 (cellsSc ⟨(k : Int) + 1, x, false, (k : Int) + 1 + 1, 0, y, 0⟩) := Arr.new wr _ _
        have hb7 : Below wr.heap.size wr (wr.alloc (.cells #[.int .i64 ((k : Int) + 1), .int .i64 x, .bool false, .int .i64 ((k : Int) + 1 + 1), .int .i64 0, .int .i64 y, .int .i64 0] 26)).drew := (below_box _ _).drew
        have hz7 : (wr.alloc (.cells #[.int .i64 ((k : Int) + 1), .int .i64 x, .bool false, .int .i64 ((k : Int) + 1 + 1), .int .i64 0, .int .i64 y, .int .i64 0] 26)).drew.heap.size = wr.heap.size + 1 := by simp
        generalize (wr.alloc (.cells #[.int .i64 ((k : Int) + 1), .int .i64 x, .bool false, .int .i64 ((k : Int) + 1 + 1), .int .i64 0, .int .i64 y, .int .i64 0] 26)).drew = U1 at hA7 hb7 hz7 ⊢
        have A7 := Lib.hid hA7
        have B7 := Lib.hid hb7
        have Z7 := Lib.hid hz7
        have ca1 : U1.cell? ⟨g, o + k, none⟩ = some (.int .i64 x) := (hb7.cell (p := ⟨g, o + k, none⟩) hg).trans ca
        have cb1 : U1.cell? ⟨g, o + (k + 1), none⟩ = some (.int .i64 y) := (hb7.cell (p := ⟨g, o + (k + 1), none⟩) hg).trans cb
        have cad1 : U1.drew.cell? ⟨g, o + k, none⟩ = some (.int .i64 x) := ca1
        have cbd1 : U1.drew.cell? ⟨g, o + (k + 1), none⟩ = some (.int .i64 y) := cb1
        have hg1 : g < U1.heap.size := by rw [hz7]; omega
        clear hA7 hb7 hz7 ca cb cad cbd
        go_wp2
        go_region
        have hA8 : Arr (U1.alloc (.cells #[.int .i64 ((k : Int) + 1 + 1), .int .i64 y, .bool false, .int .i64 ((k : Int) + 1), .int .i64 0, .int .i64 x, .int .i64 0] 26)).drew U1.heap.size 26 (cellsSc ⟨(k : Int) + 1 + 1, y, false, (k : Int) + 1, 0, x, 0⟩) := Arr.new U1 _ _
        have hb8 : Below U1.heap.size U1 (U1.alloc (.cells #[.int .i64 ((k : Int) + 1 + 1), .int .i64 y, .bool false, .int .i64 ((k : Int) + 1), .int .i64 0, .int .i64 x, .int .i64 0] 26)).drew := (below_box _ _).drew
        have hz8 : (U1.alloc (.cells #[.int .i64 ((k : Int) + 1 + 1), .int .i64 y, .bool false, .int .i64 ((k : Int) + 1), .int .i64 0, .int .i64 x, .int .i64 0] 26)).drew.heap.size = U1.heap.size + 1 := by simp
        generalize (U1.alloc (.cells #[.int .i64 ((k : Int) + 1 + 1), .int .i64 y, .bool false, .int .i64 ((k : Int) + 1), .int .i64 0, .int .i64 x, .int .i64 0] 26)).drew = U2 at hA8 hb8 hz8 ⊢
        have A8 := Lib.hid hA8
        have A78 := Lib.hid (A7.out.below hb8 A7.out.lt)
        have B8 := Lib.hid (B7.out.trans (hb8.mono B7.out.size))
        have ca2 : U2.cell? ⟨g, o + k, none⟩ = some (.int .i64 x) := (hb8.cell (p := ⟨g, o + k, none⟩) hg1).trans ca1
        have cb2 : U2.cell? ⟨g, o + (k + 1), none⟩ = some (.int .i64 y) := (hb8.cell (p := ⟨g, o + (k + 1), none⟩) hg1).trans cb1
        have HU2 := Lib.hid (HA1.out.below (HB.out.trans (B8.out.mono HB.out.size)) HA1.out.lt)
        clear hA8 hb8 hz8 ca1 cb1 cad1 cbd1
        by_cases hle : y ≤ x
        · go_wp2
          go_quiet (fail)
          go_wp2
          go_ret
          exact ⟨rfl, BW.out.trans (((below_drewN B8.out _)).mono BW.out.size)⟩
        · go_wp2
          go_quiet (fail)
          have B3 := Lib.hid (below_drewN B8.out nq)
          have HU3 := Lib.hid (HU2.out.drewN nq)
          have A73 := Lib.hid (A78.out.drewN nq)
          have A83 := Lib.hid (A8.out.drewN nq)
          generalize U2.drewN nq = U3 at B3 HU3 A73 A83 ⊢
          have A0 : Hid (Arr (U3.alloc (.cells #[.int .i64 0, .int .i64 0, .int .i64 0, .int .i64 0, .int .i64 0, .int .i64 0, .int .i64 0, .bool false, .slice none 0 0, .slice none 0 0] 35)) U3.heap.size 35 cellsV0) := Arr.new _ _ _
          have T9 : True := trivial
          have T10 : True := trivial
          go_wp2_with (first
            | (refine wpList_load_arr rfl 35 (.tmp 2) rfl w.heap.size rfl HU3.out Try.underlying35 rfl sizeV rfl ?_)
            | (refine wpList_store_arr rfl 35 (.tmp 9) (.tmp 64) rfl U3.heap.size rfl (vs := cellsV t sl) rfl A0.out sizeV rfl rfl (cellsV_one _ _) ?_; intro W9 A9 B9 hs9 O9; have f9 := A9.out.frozen 0; have c9 : W9.cell? ⟨U3.heap.size, 0, none⟩ = some (.int .i64 t.hd.id.d) := A9.out.cell 0; have z9 : U3.heap.size < W9.heap.size := A9.out.lt)
            | (obtain ⟨V9, hV9⟩ : ∃ V, W9.setCell ⟨U3.heap.size, 0, none⟩ (Value.int .i64 2) = V := ⟨_, rfl⟩; rw [hV9]; have G9 : Hid (Arr V9 U3.heap.size 35 (cellsV (turnG 2 t) sl)) := (by rw [← hV9]; exact A9.out.set 0 (Value.int .i64 2)); have BB9 : Hid (Below U3.heap.size U3 V9) := (by rw [← hV9]; exact ((below_box _ _).trans B9.out).setCell (p := ⟨U3.heap.size, 0, none⟩) (Nat.le_refl _) _); have HU9 := Lib.hid (HU3.out.below BB9.out HU3.out.lt); have A00 : Hid (Arr (V9.alloc (.cells #[.int .i64 0, .int .i64 0, .int .i64 0, .int .i64 0, .int .i64 0, .int .i64 0, .int .i64 0, .bool false, .slice none 0 0, .slice none 0 0] 35)) V9.heap.size 35 cellsV0) := Arr.new _ _ _; clear hV9 A9 B9 hs9 O9 f9 c9 z9; refine wpList_load_arr rfl 35 (.tmp 2) rfl w.heap.size rfl HU9.out Try.underlying35 rfl sizeV rfl ?_)
            | (refine wpList_store_arr rfl 35 (.tmp 10) (.tmp 68) rfl V9.heap.size rfl (vs := cellsV t sl) rfl A00.out sizeV rfl rfl (cellsV_one _ _) ?_; intro W10 A10 B10 hs10 O10; have f10 := A10.out.frozen 0; have c10 : W10.cell? ⟨V9.heap.size, 0, none⟩ = some (.int .i64 t.hd.id.d) := A10.out.cell 0; have z10 : V9.heap.size < W10.heap.size := A10.out.lt))
          obtain ⟨V, hV⟩ : ∃ V, W10.setCell ⟨V9.heap.size, 0, none⟩ (Value.int .i64 1) = V := ⟨_, rfl⟩
          rw [hV]
          have G10 : Hid (Arr V V9.heap.size 35 (cellsV (turnG 1 t) sl)) := by rw [← hV]; exact A10.out.set 0 (Value.int .i64 1)
          have BV9 : Hid (Below V9.heap.size V9 V) := by rw [← hV]; exact ((below_box _ _).trans B10.out).setCell (p := ⟨V9.heap.size, 0, none⟩) (Nat.le_refl _) _
          have BV3 : Hid (Below U3.heap.size U3 V) := BB9.out.trans (BV9.out.mono BB9.out.size)
          have HK : Hid (∀ W, Below V.heap.size V W → W.cell? ⟨U3.heap.size, 0, none⟩ = some (.int .i64 2) ∧ W.cell? ⟨U3.heap.size, 1, none⟩ = some (.int .i64 t.hd.id.o) ∧ W.cell? ⟨U3.heap.size, 2, none⟩ = some (.int .i64 t.hd.id.k) ∧ W.cell? ⟨U3.heap.size, 3, none⟩ = some (.int .i64 t.hd.id.n) ∧ W.cell? ⟨U3.heap.size, 4, none⟩ = some (.int .i64 t.hd.seq) ∧ W.cell? ⟨U3.heap.size, 5, none⟩ = some (.int .i64 t.hd.life) ∧ W.cell? ⟨U3.heap.size, 6, none⟩ = some (.int .i64 t.level) ∧ W.cell? ⟨U3.heap.size, 7, none⟩ = some (.bool t.over) ∧ W.cell? ⟨U3.heap.size, 8, none⟩ = some (.slice sl.ea t.es.length sl.ec) ∧ W.cell? ⟨U3.heap.size, 9, none⟩ = some (.slice sl.ra t.rs.length sl.rc) ∧ W.cell? ⟨wr.heap.size, 0, none⟩ = some (.int .i64 ((k : Int) + 1)) ∧ W.cell? ⟨wr.heap.size, 1, none⟩ = some (.int .i64 x) ∧ W.cell? ⟨wr.heap.size, 2, none⟩ = some (.bool false) ∧ W.cell? ⟨wr.heap.size, 3, none⟩ = some (.int .i64 ((k : Int) + 1 + 1)) ∧ W.cell? ⟨wr.heap.size, 4, none⟩ = some (.int .i64 0) ∧ W.cell? ⟨wr.heap.size, 5, none⟩ = some (.int .i64 y) ∧ W.cell? ⟨wr.heap.size, 6, none⟩ = some (.int .i64 0) ∧ W.cell? ⟨U1.heap.size, 0, none⟩ = some (.int .i64 ((k : Int) + 1 + 1)) ∧ W.cell? ⟨U1.heap.size, 1, none⟩ = some (.int .i64 y) ∧ W.cell? ⟨U1.heap.size, 2, none⟩ = some (.bool false) ∧ W.cell? ⟨U1.heap.size, 3, none⟩ = some (.int .i64 ((k : Int) + 1)) ∧ W.cell? ⟨U1.heap.size, 4, none⟩ = some (.int .i64 0) ∧ W.cell? ⟨U1.heap.size, 5, none⟩ = some (.int .i64 x) ∧ W.cell? ⟨U1.heap.size, 6, none⟩ = some (.int .i64 0) ∧ W.cell? ⟨V9.heap.size, 0, none⟩ = some (.int .i64 1) ∧ W.cell? ⟨V9.heap.size, 1, none⟩ = some (.int .i64 t.hd.id.o) ∧ W.cell? ⟨V9.heap.size, 2, none⟩ = some (.int .i64 t.hd.id.k) ∧ W.cell? ⟨V9.heap.size, 3, none⟩ = some (.int .i64 t.hd.id.n) ∧ W.cell? ⟨V9.heap.size, 4, none⟩ = some (.int .i64 t.hd.seq) ∧ W.cell? ⟨V9.heap.size, 5, none⟩ = some (.int .i64 t.hd.life) ∧ W.cell? ⟨V9.heap.size, 6, none⟩ = some (.int .i64 t.level) ∧ W.cell? ⟨V9.heap.size, 7, none⟩ = some (.bool t.over) ∧ W.cell? ⟨V9.heap.size, 8, none⟩ = some (.slice sl.ea t.es.length sl.ec) ∧ W.cell? ⟨V9.heap.size, 9, none⟩ = some (.slice sl.ra t.rs.length sl.rc) ∧ W.cell? ⟨w.heap.size, 1, none⟩ = some (.int .i64 t.hd.id.o)) := fun W hW => by
            have r10 := G10.out.below hW G10.out.lt
            have q9 := G9.out.below BV9.out G9.out.lt
            have r9 := q9.below hW q9.lt
            have q7 := A73.out.below BV3.out A73.out.lt
            have r7 := q7.below hW q7.lt
            have q8 := A83.out.below BV3.out A83.out.lt
            have r8 := q8.below hW q8.lt
            have q2 := HU3.out.below BV3.out HU3.out.lt
            have r2 := q2.below hW q2.lt
            exact ⟨(r9.cell 0), (r9.cell 1), (r9.cell 2), (r9.cell 3), (r9.cell 4), (r9.cell 5), (r9.cell 6), (r9.cell 7), (r9.cell 8), (r9.cell 9), (r7.cell 0), (r7.cell 1), (r7.cell 2), (r7.cell 3), (r7.cell 4), (r7.cell 5), (r7.cell 6), (r8.cell 0), (r8.cell 1), (r8.cell 2), (r8.cell 3), (r8.cell 4), (r8.cell 5), (r8.cell 6), (r10.cell 0), (r10.cell 1), (r10.cell 2), (r10.cell 3), (r10.cell 4), (r10.cell 5), (r10.cell 6), (r10.cell 7), (r10.cell 8), (r10.cell 9), (r2.cell 1)⟩
          clear hV A10 B10 hs10 O10 f10 c10 z10 ca2 cb2
          have hm := climbs_math t ((k : Int) + 1) x y (by omega)
          have HM1 := Lib.hid hm.1
          have HM2 := Lib.hid hm.2.1
          have HM3 := Lib.hid hm.2.2
          have TA : True := trivial
          have TB : True := trivial
          have TC : True := trivial
          have hb0 : Below V.heap.size V V.drew := (Below.refl _ _).drew
          have BVW : Hid (Below wr.heap.size wr V) := B3.out.trans (BV3.out.mono B3.out.size)
          clear hm hle
          go_region_held (fun W => W.cell? ⟨U3.heap.size, 0, none⟩ = some (.int .i64 2) ∧ W.cell? ⟨U3.heap.size, 1, none⟩ = some (.int .i64 t.hd.id.o) ∧ W.cell? ⟨U3.heap.size, 2, none⟩ = some (.int .i64 t.hd.id.k) ∧ W.cell? ⟨U3.heap.size, 3, none⟩ = some (.int .i64 t.hd.id.n) ∧ W.cell? ⟨U3.heap.size, 4, none⟩ = some (.int .i64 t.hd.seq) ∧ W.cell? ⟨U3.heap.size, 5, none⟩ = some (.int .i64 t.hd.life) ∧ W.cell? ⟨U3.heap.size, 6, none⟩ = some (.int .i64 t.level) ∧ W.cell? ⟨U3.heap.size, 7, none⟩ = some (.bool t.over) ∧ W.cell? ⟨U3.heap.size, 8, none⟩ = some (.slice sl.ea t.es.length sl.ec) ∧ W.cell? ⟨U3.heap.size, 9, none⟩ = some (.slice sl.ra t.rs.length sl.rc) ∧ W.cell? ⟨wr.heap.size, 0, none⟩ = some (.int .i64 ((k : Int) + 1)) ∧ W.cell? ⟨wr.heap.size, 1, none⟩ = some (.int .i64 x) ∧ W.cell? ⟨wr.heap.size, 2, none⟩ = some (.bool false) ∧ W.cell? ⟨wr.heap.size, 3, none⟩ = some (.int .i64 ((k : Int) + 1 + 1)) ∧ W.cell? ⟨wr.heap.size, 4, none⟩ = some (.int .i64 0) ∧ W.cell? ⟨wr.heap.size, 5, none⟩ = some (.int .i64 y) ∧ W.cell? ⟨wr.heap.size, 6, none⟩ = some (.int .i64 0) ∧ W.cell? ⟨U1.heap.size, 0, none⟩ = some (.int .i64 ((k : Int) + 1 + 1)) ∧ W.cell? ⟨U1.heap.size, 1, none⟩ = some (.int .i64 y) ∧ W.cell? ⟨U1.heap.size, 2, none⟩ = some (.bool false) ∧ W.cell? ⟨U1.heap.size, 3, none⟩ = some (.int .i64 ((k : Int) + 1)) ∧ W.cell? ⟨U1.heap.size, 4, none⟩ = some (.int .i64 0) ∧ W.cell? ⟨U1.heap.size, 5, none⟩ = some (.int .i64 x) ∧ W.cell? ⟨U1.heap.size, 6, none⟩ = some (.int .i64 0) ∧ W.cell? ⟨V9.heap.size, 0, none⟩ = some (.int .i64 1) ∧ W.cell? ⟨V9.heap.size, 1, none⟩ = some (.int .i64 t.hd.id.o) ∧ W.cell? ⟨V9.heap.size, 2, none⟩ = some (.int .i64 t.hd.id.k) ∧ W.cell? ⟨V9.heap.size, 3, none⟩ = some (.int .i64 t.hd.id.n) ∧ W.cell? ⟨V9.heap.size, 4, none⟩ = some (.int .i64 t.hd.seq) ∧ W.cell? ⟨V9.heap.size, 5, none⟩ = some (.int .i64 t.hd.life) ∧ W.cell? ⟨V9.heap.size, 6, none⟩ = some (.int .i64 t.level) ∧ W.cell? ⟨V9.heap.size, 7, none⟩ = some (.bool t.over) ∧ W.cell? ⟨V9.heap.size, 8, none⟩ = some (.slice sl.ea t.es.length sl.ec) ∧ W.cell? ⟨V9.heap.size, 9, none⟩ = some (.slice sl.ra t.rs.length sl.rc) ∧ W.cell? ⟨w.heap.size, 1, none⟩ = some (.int .i64 t.hd.id.o)) (first | exact HK.out _ hb0 | exact HK.out _ C3.out | exact HK.out _ C2.out | exact HK.out _ C1.out) (first | (go_at_call 8; have tt := TA; clear TA tt; refine (pgoes_any (turnG 2 t) sl ⟨(k : Int) + 1, x, false, (k : Int) + 1 + 1, 0, y, 0⟩ _).mono ?_; rintro e w2 ⟨rfl, hb2⟩; rw [HM1.out]; have C1 : Hid (Below V.heap.size V w2) := hb0.trans hb2; clear hb2 hb0) | (go_at_call 8; have tt := TB; clear TB tt; refine (pgoes_any (turnG 2 t) sl ⟨(k : Int) + 1 + 1, y, false, (k : Int) + 1, 0, x, 0⟩ _).mono ?_; rintro e w3 ⟨rfl, hb3⟩; rw [HM2.out]; have C2 : Hid (Below V.heap.size V w3) := C1.out.trans (hb3.mono C1.out.size); clear hb3) | (go_at_call 8; have tt := TC; clear TC tt; refine (pgoes_any (turnG 1 t) sl ⟨(k : Int) + 1 + 1, y, false, (k : Int) + 1, 0, x, 0⟩ _).mono ?_; rintro e w4 ⟨rfl, hb4⟩; rw [HM3.out]; have C3 : Hid (Below V.heap.size V w4) := C2.out.trans (hb4.mono C2.out.size); clear hb4))
          all_goals go_wp2
          all_goals first
            | exact ⟨⟨k + 1 + 1, by omega, by omega, by go_num, HB.out.trans ((BVW.out.trans (C3.out.mono BVW.out.size)).mono HB.out.size)⟩, by simp [intOf]; omega⟩
            | (exfalso; rename_i hh; have hw : IntKind.i64.wrap ((k : Int) + 1 + 1) = (k : Int) + 1 + 1 := (by simp only [IntKind.wrap_i64]; omega); rw [hw] at hh; simp at hh)
      · go_wp2
        go_ret
        exact ⟨rfl, BW.out⟩
end Go.Proofs.Ytbgilngpkogapaa.ti
