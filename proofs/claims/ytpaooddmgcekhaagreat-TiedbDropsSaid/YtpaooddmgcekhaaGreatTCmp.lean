/-
  THE PROGRAM'S comparisons: cmp.Compare, compare, Compare.
-/
import Derived.Test.YtpaooddmgcekhaaGreatTRef
import Derived.Sort.Grow
namespace Go.Proofs.YtpaooddmgcekhaaGreat.ti
set_option linter.unusedSimpArgs false
set_option linter.unusedVariables false
open Go.RowKit
/-- What was there is there, and no draw is taken back. -/
structure Fwd (w w' : World) : Prop where
  bel : Below w.heap.size w w'
  drawn : w.drawn ≤ w'.drawn
theorem Fwd.refl (w : World) : Fwd w w := ⟨Below.refl _ w, Nat.le_refl _⟩
theorem Fwd.trans {a b c : World} (h : Fwd a b) (k : Fwd b c) : Fwd a c := ⟨h.bel.trans (k.bel.mono h.bel.size), Nat.le_trans h.drawn k.drawn⟩
theorem Fwd.alloc {a b : World} (h : Fwd a b) (o : Obj) : Fwd a (b.alloc o) := ⟨h.bel.alloc h.bel.size o, h.drawn⟩
theorem Fwd.drew {a b : World} (h : Fwd a b) : Fwd a b.drew := ⟨h.bel.drew, Nat.le_succ_of_le h.drawn⟩
theorem Fwd.grown {w w' : World} (h : Fwd w w') : ∃ q os', w' = Sort.grow (w.drewN q) os' := by
  refine ⟨w'.drawn - w.drawn, w'.heap.extract w.heap.size w'.heap.size, ?_⟩
  have hh : w'.heap = w.heap ++ w'.heap.extract w.heap.size w'.heap.size := by
    apply Array.ext_getElem?
    intro i
    by_cases hi : i < w.heap.size
    · rw [Array.getElem?_append_left hi]; exact h.bel.block i hi
    · have := h.bel.size
      rw [Array.getElem?_append_right (by omega), Array.getElem?_extract]
      by_cases hj : i < w'.heap.size
      · rw [if_pos (by omega), show w.heap.size + (i - w.heap.size) = i by omega]
      · rw [if_neg (by omega), Array.getElem?_eq_none (by omega)]
  have hd := h.drawn
  obtain ⟨h1, h2, h3, -, -⟩ := h.bel
  cases w'
  cases w
  simp only [Sort.grow, World.drewN, World.mk.injEq] at *
  exact ⟨hh, h2, by omega, h1, h3⟩
theorem isnan_any (a : Int) (w : World) : Calls Tryz.prog 95 #[.int .i64 a] w fun e w' => e = .returned (.bool false) ∧ w' = w := by
  go_enter Tryz.func95, Tryz.ntmps95
  go_wp2
  go_ret
  exact ⟨rfl, rfl⟩
set_option maxHeartbeats 800000 in
set_option maxRecDepth 100000 in
theorem cmpint_any (a b : Int) (w : World) : Calls Tryz.prog 70 #[.int .i64 a, .int .i64 b] w fun e w' => e = .returned (.int .i64 (numT a b)) ∧ w' = w := by
  have hn := isnan_any
  by_cases h1 : a < b
  · rw [show numT a b = -1 from if_pos h1]
    go_enter Tryz.func70, Tryz.ntmps70
    go_wp2_with (go_at_call 95; refine (hn _ _).mono ?_; rintro e w1 ⟨rfl, rfl⟩)
    go_ret
    exact ⟨rfl, rfl⟩
  · by_cases h2 : b < a
    · rw [show numT a b = 1 from by unfold numT; rw [if_neg h1, if_pos h2]]
      go_enter Tryz.func70, Tryz.ntmps70
      go_wp2_with (go_at_call 95; refine (hn _ _).mono ?_; rintro e w1 ⟨rfl, rfl⟩)
      go_ret
      exact ⟨rfl, rfl⟩
    · rw [show numT a b = 0 from by unfold numT; rw [if_neg h1, if_neg h2]]
      go_enter Tryz.func70, Tryz.ntmps70
      go_wp2_with (go_at_call 95; refine (hn _ _).mono ?_; rintro e w1 ⟨rfl, rfl⟩)
      go_ret
      exact ⟨rfl, rfl⟩
/-- The first pair whose numbers differ. -/
def pairsT : List (Int × Int) → Int
  | [] => 0
  | p :: r => if p.1 = p.2 then pairsT r else numT p.1 p.2
/-- A row of pairs. -/
def RdP (W : World) (g : Nat) (ps : List (Int × Int)) : Prop := ∀ (j : Nat) (p : Int × Int), ps[j]? = some p → W.cell? ⟨g, j * 2, none⟩ = some (.int .i64 p.1) ∧ W.cell? ⟨g, j * 2 + 1, none⟩ = some (.int .i64 p.2)
set_option maxHeartbeats 1600000 in
set_option maxRecDepth 100000 in
theorem pairs_any (ps : List (Int × Int)) (g cap len : Nat) (w : World) (hlen : len = ps.length) (hg : g < w.heap.size) (hr : RdP w g ps) (hl : len ≤ 4) (hc : len ≤ cap) : Calls Tryz.prog 52 #[.slice (some ⟨g, 0, none⟩) len cap] w fun e w' => e = .returned (.int .i64 (pairsT ps)) ∧ Fwd w w' := by
  have hn := cmpint_any
  obtain ⟨r, hres⟩ : ∃ r, pairsT ps = r := ⟨_, rfl⟩
  rw [hres]
  have HE := Lib.hid hres
  have HL := Lib.hid hlen
  have HR := Lib.hid hr
  have HF := Lib.hid (Fwd.refl w)
  clear hres hlen hr
  go_enter Tryz.func52, Tryz.ntmps52
  go_wp2
  go_loopw [7] (fun i wr => ∃ k : Nat, k ≤ len ∧ i = .int .i64 k ∧ RowKit.Hid (pairsT (ps.drop k) = r) ∧ RowKit.Hid (Fwd w wr)) (fun i _ => len - (intOf i).toNat)
  case atStart => exact ⟨0, Nat.zero_le _, rfl, by unfold Hid; rw [List.drop_zero]; exact HE.out, HF.out⟩
  case round =>
    obtain ⟨k, hk, rfl, HN, HW⟩ := hrel
    by_cases hlt : k < len
    · obtain ⟨p, hp⟩ : ∃ p, ps[k]? = some p := ⟨_, List.getElem?_eq_getElem (by have := HL.out; omega)⟩
      obtain ⟨c0, c1⟩ := HR.out k p hp
      have x0 := (HW.out.bel.cell (p := ⟨g, k * 2, none⟩) hg).trans c0
      have x1 := (HW.out.bel.cell (p := ⟨g, k * 2 + 1, none⟩) hg).trans c1
      have hdr : ps.drop k = p :: ps.drop (k + 1) := by
        obtain ⟨h1, h2⟩ := List.getElem?_eq_some_iff.1 hp
        rw [List.drop_eq_getElem_cons h1, h2]
      have hpt := HN.out
      rw [hdr] at hpt
      unfold pairsT at hpt
      clear hp hdr c0 c1
      have HA := Lib.hid (fun o => HW.out.alloc o)
      by_cases he : p.1 = p.2
      · rw [if_pos he] at hpt
        have HP := Lib.hid hpt
        have hb : (p.1 == p.2) = true := by simpa using he
        clear hpt he
        go_wp2
        go_roundw
        case rel => exact ⟨k + 1, by omega, by go_num, HP.out, HA.out _⟩
        case measure => simp [intOf]; omega
      · rw [if_neg he] at hpt
        have HP := Lib.hid hpt
        have hb : (p.1 == p.2) = false := by simpa using he
        clear hpt he
        go_wp2_with (go_at_call 70; refine (hn _ _ _).mono ?_; rintro e w1 ⟨rfl, rfl⟩)
        go_ret
        exact ⟨by rw [← HP.out]; rfl, HA.out _⟩
    · obtain rfl : k = len := by omega
      have hz : r = 0 := by
        have := HN.out
        rw [List.drop_eq_nil_of_le (by have := HL.out; omega)] at this
        exact this.symm
      have HZ := Lib.hid hz
      clear hz
      go_wp2
      go_ret
      exact ⟨by rw [HZ.out]; rfl, HW.out⟩
theorem cmp_pairs (a b : TId) : pairsT [(a.d, b.d), (a.o, b.o), (a.k, b.k), (a.n, b.n)] = cmpT a b := by
  unfold cmpT
  simp only [pairsT, ne_eq, ite_not]
  by_cases h1 : a.d = b.d
  · simp only [h1, if_true]
    by_cases h2 : a.o = b.o
    · simp only [h2, if_true]
      by_cases h3 : a.k = b.k
      · simp only [h3, if_true]
        by_cases h4 : a.n = b.n
        · rw [if_pos h4]; unfold numT; rw [if_neg (by omega), if_neg (by omega)]
        · rw [if_neg h4]
      · simp only [h3, if_false]
    · simp only [h2, if_false]
  · simp only [h1, if_false]
set_option maxHeartbeats 1600000 in
set_option maxRecDepth 100000 in
theorem pcompare_any (a b : TId) (w : World) : Calls Tryz.prog 44 #[.agg #[.int .i64 a.d, .int .i64 a.o, .int .i64 a.k, .int .i64 a.n], .agg #[.int .i64 b.d, .int .i64 b.o, .int .i64 b.k, .int .i64 b.n]] w fun e w' => e = .returned (.int .i64 (cmpT a b)) ∧ Fwd w w' := by
  have hp : ∀ (W : World) (g : Nat), g < W.heap.size → RdP W g [(a.d, b.d), (a.o, b.o), (a.k, b.k), (a.n, b.n)] → Calls Tryz.prog 52 #[.slice (some ⟨g, 0, none⟩) 4 4] W fun e w' => e = .returned (.int .i64 (cmpT a b)) ∧ Fwd W w' := fun W g hg hr => by
    rw [← cmp_pairs]
    exact pairs_any _ g 4 4 W rfl hg hr (by omega) (by omega)
  have HP := Lib.hid hp
  obtain ⟨r, hr⟩ : ∃ r, cmpT a b = r := ⟨_, rfl⟩
  rw [hr] at HP ⊢
  have HF : RowKit.Hid (∀ A B C : Obj, Fwd w (((w.alloc A).alloc B).alloc C)) := fun A B C => (((Fwd.refl w).alloc A).alloc B).alloc C
  have HC : RowKit.Hid (∀ A B : Obj, RdP (((w.alloc A).alloc B).alloc (.cells #[.int .i64 a.d, .int .i64 b.d, .int .i64 a.o, .int .i64 b.o, .int .i64 a.k, .int .i64 b.k, .int .i64 a.n, .int .i64 b.n] 110)) (w.heap.size + 2) [(a.d, b.d), (a.o, b.o), (a.k, b.k), (a.n, b.n)]) := fun A B j p hj => by
    have hx := heap_alloc_new ((w.alloc A).alloc B) (.cells #[.int .i64 a.d, .int .i64 b.d, .int .i64 a.o, .int .i64 b.o, .int .i64 a.k, .int .i64 b.k, .int .i64 a.n, .int .i64 b.n] 110)
    have hs : ((w.alloc A).alloc B).heap.size = w.heap.size + 2 := by simp
    rw [hs] at hx
    obtain ⟨W, hW⟩ : ∃ W, ((w.alloc A).alloc B).alloc (.cells #[.int .i64 a.d, .int .i64 b.d, .int .i64 a.o, .int .i64 b.o, .int .i64 a.k, .int .i64 b.k, .int .i64 a.n, .int .i64 b.n] 110) = W := ⟨_, rfl⟩
    rw [hW] at hx ⊢
    match j, hj with
    | 0, hj => simp at hj; subst hj; simp [World.cell?, hx]
    | 1, hj => simp at hj; subst hj; simp [World.cell?, hx]
    | 2, hj => simp at hj; subst hj; simp [World.cell?, hx]
    | 3, hj => simp at hj; subst hj; simp [World.cell?, hx]
    | j + 4, hj => simp at hj
  clear hp hr
  go_enter Tryz.func44, Tryz.ntmps44
  go_wp2_with (go_at_call 52; refine (HP.out _ (w.heap.size + 2) (by simp; done) (HC.out _ _)).mono ?_; rintro e w1 ⟨rfl, hf⟩; have HX := Lib.hid ((HF.out _ _ _).trans hf); clear hf)
  go_ret
  exact ⟨rfl, HX.out⟩
end Go.Proofs.YtpaooddmgcekhaaGreat.ti
