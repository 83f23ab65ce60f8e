/-
  THE LIBRARY'S BINARY SEARCH of a list that rises.
-/
import Derived.Test.YtjfnpciecgemeaaDFind
import Derived.Deep.RegionHeld
namespace Go.Proofs.Ytjfnpciecgemeaa.ti
set_option linter.unusedSimpArgs false
set_option linter.unusedVariables false
open Go.RowKit
set_option maxHeartbeats 6400000 in
set_option maxRecDepth 100000 in
theorem bsearch_any (l : List THd) (i : TId) (a : Option Addr) (c : Nat) (w : World) (ha : RdT w a l) (hA : AscT l) (hl : l.length ≤ 1000000) (hc : l.length ≤ c) :
    Calls Try.prog 43 #[.slice a l.length c, .agg #[.int .i64 i.d, .int .i64 i.o, .int .i64 i.k, .int .i64 i.n], .func (.func 44) #[] #[]] w fun e w' => (∃ k : Nat, e = .returned (.tuple #[.int .i64 k, .bool (findT l i).isSome]) ∧ ∀ x, findT l i = some x → l[k]? = some x) ∧ Below w.heap.size w w' := by
  obtain ⟨len, hlen⟩ : ∃ len, l.length = len := ⟨_, rfl⟩
  rw [hlen] at hl hc ⊢
  have HL := Lib.hid hlen
  have HA := Lib.hid ha
  have HAS := Lib.hid hA
  have HB0 := Lib.hid ((Below.refl w.heap.size w).alloc (Nat.le_refl _) (.cells #[.int .i64 i.d, .int .i64 i.o, .int .i64 i.k, .int .i64 i.n] 24))
  have HBX : Hid (∀ W, Below (w.heap.size + 1) (w.alloc (.cells #[.int .i64 i.d, .int .i64 i.o, .int .i64 i.k, .int .i64 i.n] 24)) W → W.cell? ⟨w.heap.size, 0, none⟩ = some (.int .i64 i.d) ∧ W.cell? ⟨w.heap.size, 1, none⟩ = some (.int .i64 i.o) ∧ W.cell? ⟨w.heap.size, 2, none⟩ = some (.int .i64 i.k) ∧ W.cell? ⟨w.heap.size, 3, none⟩ = some (.int .i64 i.n)) := fun W hb => by
    have := (hb.block w.heap.size (by omega)).trans (heap_alloc_new w _)
    simp [World.cell?, this]
  have HSZ : Hid ((w.alloc (.cells #[.int .i64 i.d, .int .i64 i.o, .int .i64 i.k, .int .i64 i.n] 24)).heap.size = w.heap.size + 1) := by unfold Hid; simp
  have HC0 : Hid (CutS l i 0 len) := ⟨Nat.zero_le _, by omega, fun j x hj => absurd hj (by omega), fun j x hj hx => by have := (List.getElem?_eq_some_iff.1 hx).1; omega⟩
  clear ha hA hlen
  go_enter Try.func43, Try.ntmps43
  go_wp2
  go_loopw [9, 10] (fun u v wr => ∃ lo hi : Nat, u = .int .i64 lo ∧ v = .int .i64 hi ∧ hi ≤ len ∧ lo ≤ hi ∧ Hid (CutS l i lo hi) ∧ Hid (Below (w.heap.size + 1) (w.alloc (.cells #[.int .i64 i.d, .int .i64 i.o, .int .i64 i.k, .int .i64 i.n] 24)) wr)) (fun u v _ => (intOf v).toNat - (intOf u).toNat)
  case atStart => exact ⟨0, len, rfl, rfl, Nat.le_refl _, Nat.zero_le _, HC0, Below.refl _ _⟩
  case round =>
    obtain ⟨lo, hi, rfl, rfl, hhi, hlo, HC, HB⟩ := hrel
    by_cases hlt : lo < hi
    · obtain ⟨m, hm⟩ : ∃ m, (lo + hi) / 2 = m := ⟨_, rfl⟩
      have hm1 : lo ≤ m := by omega
      have hm2 : m < hi := by omega
      obtain ⟨x, hx⟩ : ∃ x, l[m]? = some x := ⟨_, List.getElem?_eq_getElem (by have := HL.out; omega)⟩
      have HX := Lib.hid hx
      clear hx
      obtain ⟨g, o, rfl, hg1, hr, -⟩ := (HA.out.below (HB0.out.trans (HB.out.mono (Nat.le_succ _)))).at HX.out
      have x0 := mid_cell0 hr rfl
      have x1 := mid_cell hr 1 rfl
      have x2 := mid_cell hr 2 rfl
      have x3 := mid_cell hr 3 rfl
      have x4 := mid_cell hr 4 rfl
      have x5 := mid_cell hr 5 rfl
      obtain ⟨y0, y1, y2, y3⟩ := HBX.out wr HB.out
      have hgb : w.heap.size < wr.heap.size := by have := HB.out.size; have := HSZ.out; omega
      obtain ⟨cv, hcv⟩ : ∃ cv, cmpT x.id i = cv := ⟨_, rfl⟩
      have HCV := Lib.hid hcv
      have HF := Lib.hid (fun (y : THd) (W : World) => find1_any y i W)
      clear hr
      have em : ((lo : Int) + (hi : Int)) / 2 = (m : Int) := by omega
      by_cases hlx : lexT x.id i
      · have hneg : decide (cv < 0) = true := by rw [← hcv]; exact decide_eq_true (cmp_neg.2 hlx)
        have HC2 := Lib.hid (HC.out.low HAS.out HX.out ⟨hm1, hm2⟩ hlx)
        have m0 : (0 : Int) ≤ (m : Int) := Int.natCast_nonneg _
        have m1 : (m : Int) < (len : Int) := by omega
        clear hlx hcv hm
        go_wp2
        clear em
        go_region_held (fun W => W.cell? ⟨g, o + m * 6, none⟩ = some (.int .i64 x.id.d) ∧ W.cell? ⟨g, o + m * 6 + 1, none⟩ = some (.int .i64 x.id.o) ∧ W.cell? ⟨g, o + m * 6 + 2, none⟩ = some (.int .i64 x.id.k) ∧ W.cell? ⟨g, o + m * 6 + 3, none⟩ = some (.int .i64 x.id.n) ∧ W.cell? ⟨g, o + m * 6 + 4, none⟩ = some (.int .i64 x.seq) ∧ W.cell? ⟨g, o + m * 6 + 5, none⟩ = some (.int .i64 x.life) ∧ W.cell? ⟨w.heap.size, 0, none⟩ = some (.int .i64 i.d) ∧ W.cell? ⟨w.heap.size, 1, none⟩ = some (.int .i64 i.o) ∧ W.cell? ⟨w.heap.size, 2, none⟩ = some (.int .i64 i.k) ∧ W.cell? ⟨w.heap.size, 3, none⟩ = some (.int .i64 i.n)) (first | exact ⟨x0, x1, x2, x3, x4, x5, y0, y1, y2, y3⟩ | exact ⟨by assumption, by assumption, by assumption, by assumption, by assumption, by assumption, by assumption, by assumption, by assumption, by assumption⟩)
          (first | (go_at_call 44; (with_reducible refine (HF.out x _).mono ?_); rintro e w5 ⟨rfl, hb5⟩; rw [HCV.out]; have c0 := (hb5.cell (p := ⟨g, o + m * 6, none⟩) hg1).trans x0; have c1 := (hb5.cell (p := ⟨g, o + m * 6 + 1, none⟩) hg1).trans x1; have c2 := (hb5.cell (p := ⟨g, o + m * 6 + 2, none⟩) hg1).trans x2; have c3 := (hb5.cell (p := ⟨g, o + m * 6 + 3, none⟩) hg1).trans x3; have c4 := (hb5.cell (p := ⟨g, o + m * 6 + 4, none⟩) hg1).trans x4; have c5 := (hb5.cell (p := ⟨g, o + m * 6 + 5, none⟩) hg1).trans x5; have e0 := (hb5.cell (p := ⟨w.heap.size, 0, none⟩) hgb).trans y0; have e1 := (hb5.cell (p := ⟨w.heap.size, 1, none⟩) hgb).trans y1; have e2 := (hb5.cell (p := ⟨w.heap.size, 2, none⟩) hgb).trans y2; have e3 := (hb5.cell (p := ⟨w.heap.size, 3, none⟩) hgb).trans y3; have B5 := Lib.hid hb5; clear hb5))
        go_wp2
        go_roundw
        case rel => exact ⟨m + 1, hi, by go_num, rfl, hhi, by omega, HC2, HB.out.drew.trans (B5.out.mono (by have := HB.out.size; have := HSZ.out; simp; omega))⟩
        case measure => simp [intOf]; omega
      · have hneg : decide (cv < 0) = false := by rw [← hcv]; exact decide_eq_false (fun q => hlx (cmp_neg.1 q))
        have HC2 := Lib.hid (HC.out.high HAS.out HX.out ⟨hm1, hm2⟩ hlx)
        have m0 : (0 : Int) ≤ (m : Int) := Int.natCast_nonneg _
        have m1 : (m : Int) < (len : Int) := by omega
        clear hlx hcv hm
        go_wp2
        clear em
        go_region_held (fun W => W.cell? ⟨g, o + m * 6, none⟩ = some (.int .i64 x.id.d) ∧ W.cell? ⟨g, o + m * 6 + 1, none⟩ = some (.int .i64 x.id.o) ∧ W.cell? ⟨g, o + m * 6 + 2, none⟩ = some (.int .i64 x.id.k) ∧ W.cell? ⟨g, o + m * 6 + 3, none⟩ = some (.int .i64 x.id.n) ∧ W.cell? ⟨g, o + m * 6 + 4, none⟩ = some (.int .i64 x.seq) ∧ W.cell? ⟨g, o + m * 6 + 5, none⟩ = some (.int .i64 x.life) ∧ W.cell? ⟨w.heap.size, 0, none⟩ = some (.int .i64 i.d) ∧ W.cell? ⟨w.heap.size, 1, none⟩ = some (.int .i64 i.o) ∧ W.cell? ⟨w.heap.size, 2, none⟩ = some (.int .i64 i.k) ∧ W.cell? ⟨w.heap.size, 3, none⟩ = some (.int .i64 i.n)) (first | exact ⟨x0, x1, x2, x3, x4, x5, y0, y1, y2, y3⟩ | exact ⟨by assumption, by assumption, by assumption, by assumption, by assumption, by assumption, by assumption, by assumption, by assumption, by assumption⟩)
          (first | (go_at_call 44; (with_reducible refine (HF.out x _).mono ?_); rintro e w5 ⟨rfl, hb5⟩; rw [HCV.out]; have c0 := (hb5.cell (p := ⟨g, o + m * 6, none⟩) hg1).trans x0; have c1 := (hb5.cell (p := ⟨g, o + m * 6 + 1, none⟩) hg1).trans x1; have c2 := (hb5.cell (p := ⟨g, o + m * 6 + 2, none⟩) hg1).trans x2; have c3 := (hb5.cell (p := ⟨g, o + m * 6 + 3, none⟩) hg1).trans x3; have c4 := (hb5.cell (p := ⟨g, o + m * 6 + 4, none⟩) hg1).trans x4; have c5 := (hb5.cell (p := ⟨g, o + m * 6 + 5, none⟩) hg1).trans x5; have e0 := (hb5.cell (p := ⟨w.heap.size, 0, none⟩) hgb).trans y0; have e1 := (hb5.cell (p := ⟨w.heap.size, 1, none⟩) hgb).trans y1; have e2 := (hb5.cell (p := ⟨w.heap.size, 2, none⟩) hgb).trans y2; have e3 := (hb5.cell (p := ⟨w.heap.size, 3, none⟩) hgb).trans y3; have B5 := Lib.hid hb5; clear hb5))
        go_wp2
        go_roundw
        case rel => exact ⟨lo, m, rfl, rfl, by omega, hm1, HC2, HB.out.drew.trans (B5.out.mono (by have := HB.out.size; have := HSZ.out; simp; omega))⟩
        case measure => simp [intOf]; omega
    · obtain rfl : lo = hi := by omega
      have hfo := HC.out.found HAS.out
      by_cases hin : lo < len
      · obtain ⟨x, hx⟩ : ∃ x, l[lo]? = some x := ⟨_, List.getElem?_eq_getElem (by have := HL.out; omega)⟩
        have HX := Lib.hid hx
        have hres : (findT l i).isSome = decide (cmpT x.id i = 0) ∧ ∀ y, findT l i = some y → l[lo]? = some y := by
          rcases hfo with ⟨y, h1, h2, h3⟩ | ⟨h1, h2⟩
          · rw [hx] at h1
            cases h1
            rw [h3, decide_eq_true (cmp_zero.2 h2)]
            exact ⟨rfl, fun z hz => by cases hz; exact hx⟩
          · rw [h2, decide_eq_false (fun q => h1 x hx (cmp_zero.1 q))]
            exact ⟨rfl, fun z hz => by cases hz⟩
        clear hx hfo
        obtain ⟨g, o, rfl, hg1, hr, -⟩ := (HA.out.below (HB0.out.trans (HB.out.mono (Nat.le_succ _)))).at HX.out
        have x0 := mid_cell0 hr rfl
        have x1 := mid_cell hr 1 rfl
        have x2 := mid_cell hr 2 rfl
        have x3 := mid_cell hr 3 rfl
        have x4 := mid_cell hr 4 rfl
        have x5 := mid_cell hr 5 rfl
        obtain ⟨y0, y1, y2, y3⟩ := HBX.out wr HB.out
        have hgb : w.heap.size < wr.heap.size := by have := HB.out.size; have := HSZ.out; omega
        obtain ⟨cv, hcv⟩ : ∃ cv, cmpT x.id i = cv := ⟨_, rfl⟩
        have HCV := Lib.hid hcv
        have HF := Lib.hid (fun (y : THd) (W : World) => find1_any y i W)
        clear hr
        rw [hcv] at hres
        have HRS := Lib.hid hres
        have hgd : decide ((lo : Int) < (len : Int)) = true := decide_eq_true (by omega)
        have m0 : (0 : Int) ≤ (lo : Int) := Int.natCast_nonneg _
        clear hcv hres hlt
        go_wp2
        go_region_held (fun W => W.cell? ⟨g, o + lo * 6, none⟩ = some (.int .i64 x.id.d) ∧ W.cell? ⟨g, o + lo * 6 + 1, none⟩ = some (.int .i64 x.id.o) ∧ W.cell? ⟨g, o + lo * 6 + 2, none⟩ = some (.int .i64 x.id.k) ∧ W.cell? ⟨g, o + lo * 6 + 3, none⟩ = some (.int .i64 x.id.n) ∧ W.cell? ⟨g, o + lo * 6 + 4, none⟩ = some (.int .i64 x.seq) ∧ W.cell? ⟨g, o + lo * 6 + 5, none⟩ = some (.int .i64 x.life) ∧ W.cell? ⟨w.heap.size, 0, none⟩ = some (.int .i64 i.d) ∧ W.cell? ⟨w.heap.size, 1, none⟩ = some (.int .i64 i.o) ∧ W.cell? ⟨w.heap.size, 2, none⟩ = some (.int .i64 i.k) ∧ W.cell? ⟨w.heap.size, 3, none⟩ = some (.int .i64 i.n)) (first | exact ⟨x0, x1, x2, x3, x4, x5, y0, y1, y2, y3⟩ | exact ⟨by assumption, by assumption, by assumption, by assumption, by assumption, by assumption, by assumption, by assumption, by assumption, by assumption⟩)
          (first | (go_at_call 44; (with_reducible refine (HF.out x _).mono ?_); rintro e w5 ⟨rfl, hb5⟩; rw [HCV.out]; have c0 := (hb5.cell (p := ⟨g, o + lo * 6, none⟩) hg1).trans x0; have c1 := (hb5.cell (p := ⟨g, o + lo * 6 + 1, none⟩) hg1).trans x1; have c2 := (hb5.cell (p := ⟨g, o + lo * 6 + 2, none⟩) hg1).trans x2; have c3 := (hb5.cell (p := ⟨g, o + lo * 6 + 3, none⟩) hg1).trans x3; have c4 := (hb5.cell (p := ⟨g, o + lo * 6 + 4, none⟩) hg1).trans x4; have c5 := (hb5.cell (p := ⟨g, o + lo * 6 + 5, none⟩) hg1).trans x5; have e0 := (hb5.cell (p := ⟨w.heap.size, 0, none⟩) hgb).trans y0; have e1 := (hb5.cell (p := ⟨w.heap.size, 1, none⟩) hgb).trans y1; have e2 := (hb5.cell (p := ⟨w.heap.size, 2, none⟩) hgb).trans y2; have e3 := (hb5.cell (p := ⟨w.heap.size, 3, none⟩) hgb).trans y3; have B5 := Lib.hid hb5; clear hb5))
        go_wp2
        refine bodyPost_ret (results_tmp2 rfl _ _ _) rfl ?_
        refine ⟨⟨lo, ?_, HRS.out.2⟩, HB0.out.trans ((HB.out.mono (Nat.le_succ _)).drew.trans (B5.out.mono (by have := HB.out.size; have := HSZ.out; simp; omega)))⟩
        rw [HRS.out.1]
        rfl
      · have hgd : decide ((lo : Int) < (len : Int)) = false := decide_eq_false (by omega)
        have hno : findT l i = none := by
          rcases hfo with ⟨y, h1, _⟩ | ⟨_, h2⟩
          · have := (List.getElem?_eq_some_iff.1 h1).1; have := HL.out; omega
          · exact h2
        have HNO := Lib.hid hno
        clear hfo hno hlt
        go_wp2
        go_quiet (fail)
        go_wp2
        refine bodyPost_ret (results_tmp2 rfl _ _ _) rfl ?_
        exact ⟨⟨lo, by rw [HNO.out]; rfl, fun y hy => by rw [HNO.out] at hy; cases hy⟩, HB0.out.trans ((HB.out.mono (Nat.le_succ _)).trans ⟨rfl, rfl, rfl, Nat.le_refl _, fun _ _ => rfl⟩)⟩
end Go.Proofs.Ytjfnpciecgemeaa.ti
