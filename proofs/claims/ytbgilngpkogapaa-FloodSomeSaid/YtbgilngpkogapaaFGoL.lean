/-
  FloodGoes: the walk.
-/
import Derived.Test.YtbgilngpkogapaaGAwk
namespace Go.Proofs.Ytbgilngpkogapaa.ti
set_option linter.unusedSimpArgs false
set_option linter.unusedVariables false
open Go.RowKit
/-- Some's answer, either way. -/
def GotG (w w' : World) (s : ScD) (l : List TS) (e : Ending) : Prop := ∃ A cc out, e = .returned (.slice A out.length cc) ∧ OwnE 35 10 encT w' w.heap.size (.slice A out.length cc) out ∧ InL w' A out ∧ out.map (fun x => x.t) = goT s l ∧ Below w.heap.size w w'
theorem goT_le (s : ScD) (l : List TS) : (goT s l).length ≤ l.length := by
  unfold goT
  rw [List.length_map]
  exact List.length_filter_le _ _
set_option maxHeartbeats 3200000 in
set_option maxRecDepth 100000 in
theorem goes_walk (a : Option Addr) (c : Nat) (l : List TS) (s : ScD) (w : World) (hr : RdE 10 encT w a l) (hin : ∀ x ∈ l, In2 w x.t x.s) : Calls Try.prog 3 #[.slice a l.length c, aggSc s] w fun e w' => e = .returned (.bool true) ∧ Below w.heap.size w w' := by
  have HR := Lib.hid hr
  have HI := Lib.hid hin
  obtain ⟨w0, hw0⟩ : ∃ w0, w.alloc (.cells #[.int .i64 s.self, .int .i64 s.level, .bool s.top, .int .i64 s.node, .int .i64 s.link, .int .i64 s.olev, .int .i64 s.nonce] 26) = w0 := ⟨_, rfl⟩
  have HB0 : Hid (Below w.heap.size w w0) := by rw [← hw0]; exact below_box _ _
  have HA0 : Hid (Arr w0 w.heap.size 26 (cellsSc s)) := by rw [← hw0]; exact Arr.new _ _ _
  have HW := Lib.hid hw0
  obtain ⟨m, hm⟩ : ∃ m, l.length = m := ⟨_, rfl⟩
  have HM := Lib.hid hm
  rw [hm]
  clear hm hr hin hw0
  by_cases hbig : (100 : Int) < m
  · unfold aggSc
    go_enter Try.func3, Try.ntmps3
    go_wp2_with (go_at_call 7; refine (awake_any _).mono ?_; rintro e w1 ⟨rfl, hb⟩; rw [HW.out] at hb; have HB1 := Lib.hid (HB0.out.trans (hb.mono HB0.out.size)); clear hb)
    go_ret
    exact ⟨rfl, HB1.out⟩
  · have hm1 : m ≤ 100 := by omega
    unfold aggSc
    go_enter Try.func3, Try.ntmps3
    go_wp2_with (go_at_call 7; refine (awake_any _).mono ?_; rintro e w1 ⟨rfl, hb⟩; rw [HW.out] at hb; have HB1 := Lib.hid (HB0.out.trans (hb.mono HB0.out.size)); have HA1 := Lib.hid (HA0.out.below hb HA0.out.lt); clear hb)
    go_loopw [6] (fun iv wr => ∃ i : Nat, i ≤ m ∧ iv = .int .i64 i ∧ Hid (∀ (j : Nat) (x : TS), j < i → l[j]? = some x → x.t.es.length ≤ 100 ∧ x.t.rs.length ≤ 100) ∧ Hid (Below w1.heap.size w1 wr)) (fun iv _ => m - (intOf iv).toNat)
    case atStart => exact ⟨0, by omega, rfl, fun j x hj => absurd hj (by omega), Below.refl _ _⟩
    case round =>
      obtain ⟨i, him, rfl, HN, HB⟩ := hrel
      have BW : Hid (Below w.heap.size w wr) := HB1.out.trans (HB.out.mono HB1.out.size)
      by_cases hlt : i < m
      · obtain ⟨x, hx⟩ : ∃ x, l[i]? = some x := ⟨_, List.getElem?_eq_getElem (by have := HM.out; omega)⟩
        obtain ⟨g, o, rfl, hg, hc⟩ := (HR.out.below BW.out) i x hx
        obtain ⟨p0, p1, p2, p3, p4, p5, p6, p7, p8, p9⟩ := cells10 hc
        obtain ⟨q0, q1, q2, q3, q4, q5, q6⟩ := cells7 (HA1.out.below HB.out HA1.out.lt)
        have hlt2 : (i : Int) < m := by omega
        have HX := Lib.hid hx
        have HC := Lib.hid hc
        clear hc hx
        by_cases h1 : (100 : Int) < x.t.es.length
        · go_wp2
          go_ret
          exact ⟨rfl, BW.out⟩
        by_cases h2 : (100 : Int) < x.t.rs.length
        · go_wp2
          go_ret
          exact ⟨rfl, BW.out⟩
        have HN2 : Hid (∀ (j : Nat) (y : TS), j < i + 1 → l[j]? = some y → y.t.es.length ≤ 100 ∧ y.t.rs.length ≤ 100) := fun j y hj hy => by
          rcases Nat.lt_or_ge j i with h3 | h3
          · exact HN.out j y h3 hy
          · obtain rfl : j = i := by omega
            rw [HX.out] at hy
            obtain rfl := Option.some.inj hy
            omega
        have T1 : True := trivial
        have T2 : True := trivial
        have hb0 : Below wr.heap.size wr wr.drew := (Below.refl _ _).drew
        have HP : Hid (∀ W, Below wr.heap.size wr W → Calls Try.prog 8 #[aggV x.t x.s, aggSc s] W fun e w' => e = .returned (.bool (goesG x.t s)) ∧ Below wr.heap.size wr w') := fun W hW => (pgoes_any x.t x.s s W).mono fun e w' ⟨h3, h4⟩ => ⟨h3, hW.trans (h4.mono hW.size)⟩
        have HQ : Hid (∀ W, Below wr.heap.size wr W → Calls Try.prog 9 #[aggV x.t x.s, aggSc s] W fun e w' => e = .returned (.bool (goesG x.t s)) ∧ Below wr.heap.size wr w') := fun W hW => (rgoes_any x.t x.s s W).mono fun e w' ⟨h3, h4⟩ => ⟨h3, hW.trans (h4.mono hW.size)⟩
        have HK : Hid (∀ W, Below wr.heap.size wr W → W.cell? ⟨g, o + i * 10, none⟩ = some (.int .i64 x.t.hd.id.d) ∧ W.cell? ⟨g, o + i * 10 + 1, none⟩ = some (.int .i64 x.t.hd.id.o) ∧ W.cell? ⟨g, o + i * 10 + 2, none⟩ = some (.int .i64 x.t.hd.id.k) ∧ W.cell? ⟨g, o + i * 10 + 3, none⟩ = some (.int .i64 x.t.hd.id.n) ∧ W.cell? ⟨g, o + i * 10 + 4, none⟩ = some (.int .i64 x.t.hd.seq) ∧ W.cell? ⟨g, o + i * 10 + 5, none⟩ = some (.int .i64 x.t.hd.life) ∧ W.cell? ⟨g, o + i * 10 + 6, none⟩ = some (.int .i64 x.t.level) ∧ W.cell? ⟨g, o + i * 10 + 7, none⟩ = some (.bool x.t.over) ∧ W.cell? ⟨g, o + i * 10 + 8, none⟩ = some (.slice x.s.ea x.t.es.length x.s.ec) ∧ W.cell? ⟨g, o + i * 10 + 9, none⟩ = some (.slice x.s.ra x.t.rs.length x.s.rc) ∧ W.cell? ⟨w.heap.size, 0, none⟩ = some (.int .i64 s.self) ∧ W.cell? ⟨w.heap.size, 1, none⟩ = some (.int .i64 s.level) ∧ W.cell? ⟨w.heap.size, 2, none⟩ = some (.bool s.top) ∧ W.cell? ⟨w.heap.size, 3, none⟩ = some (.int .i64 s.node) ∧ W.cell? ⟨w.heap.size, 4, none⟩ = some (.int .i64 s.link) ∧ W.cell? ⟨w.heap.size, 5, none⟩ = some (.int .i64 s.olev) ∧ W.cell? ⟨w.heap.size, 6, none⟩ = some (.int .i64 s.nonce)) := fun W hW => by
          obtain ⟨a0, a1, a2, a3, a4, a5, a6, a7, a8, a9⟩ := cells10 (W := W) (g := g) (o := o + i * 10) (x := x) (fun j v hv => (hW.cell (p := ⟨g, o + i * 10 + j, none⟩) hg).trans (HC.out j v hv))
          obtain ⟨b0, b1, b2, b3, b4, b5, b6⟩ := cells7 ((HA1.out.below HB.out HA1.out.lt).below hW (HA1.out.below HB.out HA1.out.lt).lt)
          exact ⟨a0, a1, a2, a3, a4, a5, a6, a7, a8, a9, b0, b1, b2, b3, b4, b5, b6⟩
        have HQ3 : Hid (m ≤ 100) := hm1
        go_wp2
        go_region_held (fun W => W.cell? ⟨g, o + i * 10, none⟩ = some (.int .i64 x.t.hd.id.d) ∧ W.cell? ⟨g, o + i * 10 + 1, none⟩ = some (.int .i64 x.t.hd.id.o) ∧ W.cell? ⟨g, o + i * 10 + 2, none⟩ = some (.int .i64 x.t.hd.id.k) ∧ W.cell? ⟨g, o + i * 10 + 3, none⟩ = some (.int .i64 x.t.hd.id.n) ∧ W.cell? ⟨g, o + i * 10 + 4, none⟩ = some (.int .i64 x.t.hd.seq) ∧ W.cell? ⟨g, o + i * 10 + 5, none⟩ = some (.int .i64 x.t.hd.life) ∧ W.cell? ⟨g, o + i * 10 + 6, none⟩ = some (.int .i64 x.t.level) ∧ W.cell? ⟨g, o + i * 10 + 7, none⟩ = some (.bool x.t.over) ∧ W.cell? ⟨g, o + i * 10 + 8, none⟩ = some (.slice x.s.ea x.t.es.length x.s.ec) ∧ W.cell? ⟨g, o + i * 10 + 9, none⟩ = some (.slice x.s.ra x.t.rs.length x.s.rc) ∧ W.cell? ⟨w.heap.size, 0, none⟩ = some (.int .i64 s.self) ∧ W.cell? ⟨w.heap.size, 1, none⟩ = some (.int .i64 s.level) ∧ W.cell? ⟨w.heap.size, 2, none⟩ = some (.bool s.top) ∧ W.cell? ⟨w.heap.size, 3, none⟩ = some (.int .i64 s.node) ∧ W.cell? ⟨w.heap.size, 4, none⟩ = some (.int .i64 s.link) ∧ W.cell? ⟨w.heap.size, 5, none⟩ = some (.int .i64 s.olev) ∧ W.cell? ⟨w.heap.size, 6, none⟩ = some (.int .i64 s.nonce)) (first | exact HK.out _ hb0 | exact HK.out _ B4.out | exact HK.out _ B3.out | exact HK.out _ B2.out) (first | (go_at_call 8; have tt := T1; clear T1 tt; refine (HP.out _ hb0).mono ?_; rintro e w2 ⟨rfl, hb2⟩; have B2 := Lib.hid hb2; clear hb2 hb0) | (go_at_call 9; have tt := T2; clear T2 tt; refine (HQ.out _ B2.out).mono ?_; rintro e w3 ⟨rfl, hb3⟩; have B3 := Lib.hid hb3; clear hb3))
        all_goals (go_wp2; exact ⟨⟨i + 1, by omega, by go_num, HN2, HB.out.trans (B3.out.mono HB.out.size)⟩, by simp [intOf]; omega⟩)
      · obtain rfl : i = m := by omega
        have HL : Hid (InL wr a l) := ⟨HR.out.below BW.out, fun x hx => by
          obtain ⟨j, hj⟩ := List.getElem?_of_mem hx
          have h3 := HN.out j x (by have := (List.getElem?_eq_some_iff.1 hj).1; have := HM.out; omega) hj
          exact ((HI.out x hx).below BW.out).rd h3.1 h3.2⟩
        have T1 : True := trivial
        have T2 : True := trivial
        have hb0 : Below wr.heap.size wr wr.drew := (Below.refl _ _).drew
        have HK : Hid (∀ W, Below wr.heap.size wr W → W.cell? ⟨w.heap.size, 0, none⟩ = some (.int .i64 s.self) ∧ W.cell? ⟨w.heap.size, 1, none⟩ = some (.int .i64 s.level) ∧ W.cell? ⟨w.heap.size, 2, none⟩ = some (.bool s.top) ∧ W.cell? ⟨w.heap.size, 3, none⟩ = some (.int .i64 s.node) ∧ W.cell? ⟨w.heap.size, 4, none⟩ = some (.int .i64 s.link) ∧ W.cell? ⟨w.heap.size, 5, none⟩ = some (.int .i64 s.olev) ∧ W.cell? ⟨w.heap.size, 6, none⟩ = some (.int .i64 s.nonce)) := fun W hW => cells7 ((HA1.out.below HB.out HA1.out.lt).below hW (HA1.out.below HB.out HA1.out.lt).lt)
        have HP : Hid (∀ W, Below wr.heap.size wr W → Calls Try.prog 11 #[.slice a i c, aggSc s] W fun e w' => GotG W w' s l e) := fun W hW => by
          have := psome_any s a c l (by have := HM.out; omega) W (HL.out.below hW)
          rw [HM.out] at this
          exact this
        have HQ : Hid (∀ W, Below wr.heap.size wr W → Calls Try.prog 12 #[.slice a i c, aggSc s] W fun e w' => GotG W w' s l e) := fun W hW => by
          have := rsome_any s a c l (by have := HM.out; omega) W (HL.out.below hW)
          rw [HM.out] at this
          exact this
        have HLL : Hid (l.length ≤ 100) := by have := HM.out; unfold Hid; omega
        clear hm1 hbig him hlt
        go_wp2
        go_region_held (fun W => W.cell? ⟨w.heap.size, 0, none⟩ = some (.int .i64 s.self) ∧ W.cell? ⟨w.heap.size, 1, none⟩ = some (.int .i64 s.level) ∧ W.cell? ⟨w.heap.size, 2, none⟩ = some (.bool s.top) ∧ W.cell? ⟨w.heap.size, 3, none⟩ = some (.int .i64 s.node) ∧ W.cell? ⟨w.heap.size, 4, none⟩ = some (.int .i64 s.link) ∧ W.cell? ⟨w.heap.size, 5, none⟩ = some (.int .i64 s.olev) ∧ W.cell? ⟨w.heap.size, 6, none⟩ = some (.int .i64 s.nonce)) (first | exact HK.out _ hb0 | exact HK.out _ B4.out | exact HK.out _ B3.out | exact HK.out _ B2.out) (first | (go_at_call 11; have tt := T1; clear T1 tt; refine (HP.out _ hb0).mono ?_; rintro e w2 ⟨A2, k2, o2, rfl, ho2, hi2, hv2, hb2⟩; have B2 : Hid (Below wr.heap.size wr w2) := hb0.trans hb2; have I2 := Lib.hid hi2; have V2 := Lib.hid hv2; clear ho2 hi2 hv2 hb2 hb0) | (go_at_call 12; have tt := T2; clear T2 tt; refine (HQ.out _ B2.out).mono ?_; rintro e w3 ⟨A3, k3, o3, rfl, ho3, hi3, hv3, hb3⟩; have B3 : Hid (Below wr.heap.size wr w3) := B2.out.trans (hb3.mono B2.out.size); have I3 := Lib.hid hi3; have I23 := Lib.hid (I2.out.below hb3); have V3 := Lib.hid hv3; clear ho3 hi3 hv3 hb3) | (go_at_call 10; refine (same_any A2 A3 k2 k3 o2 o3 (by have := congrArg List.length V2.out; rw [List.length_map] at this; have h4 := goT_le s l; have := HLL.out; omega) (V2.out.trans V3.out.symm) _ I23.out I3.out).mono ?_; rintro e w4 ⟨rfl, hb4⟩; have B4 : Hid (Below wr.heap.size wr w4) := B3.out.trans (hb4.mono B3.out.size); clear hb4))
        all_goals go_wp2
        all_goals go_ret
        all_goals exact ⟨rfl, BW.out.trans (B4.out.mono BW.out.size)⟩
end Go.Proofs.Ytbgilngpkogapaa.ti
