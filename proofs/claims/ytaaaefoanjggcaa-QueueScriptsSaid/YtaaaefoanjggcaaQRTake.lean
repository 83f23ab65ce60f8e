/-
  THE DOCUMENT's QUEUE: a job is taken.
-/
import Derived.Test.YtaaaefoanjggcaaQRPut
namespace Go.Proofs.Ytaaaefoanjggcaa
set_option linter.unusedSimpArgs false
set_option linter.unusedVariables false
open Go.RowKit
theorem take_drop {R : List Job} {p : Nat} (h : Nd R) (hp : p < R.length) : R.take p ++ R.drop (p + 1) = dropR R (at' R p).k := by
  induction R generalizing p with
  | nil => simp at hp
  | cons y R ih =>
    obtain ⟨h1, h2⟩ := List.pairwise_cons.1 h
    cases p with
    | zero =>
      have := dropR_not (R := R) (key := y.k) (fun z hz e => h1 z hz e.symm)
      have e2 : (at' (y :: R) 0).k = y.k := rfl
      rw [e2]
      unfold dropR at this ⊢
      rw [List.filter_cons]
      simpa using this.symm
    | succ p =>
      have hp' : p < R.length := by simpa using hp
      have e2 : at' (y :: R) (p + 1) = at' R p := by unfold at'; simp
      have hne : y.k ≠ (at' R p).k := h1 _ (at_mem hp')
      rw [e2, List.take_succ_cons, List.drop_succ_cons, List.cons_append, ih h2 hp']
      unfold dropR
      rw [List.filter_cons]
      simp [hne]
theorem slice_tail (g len c kk : Nat) (hk : kk ≤ len) (hc : len ≤ c) : ∃ ad : Addr, (∀ W : World, (Instr.slice 22 (.slice (some ⟨g, 0, none⟩) len c) (some (.int .i64 (kk : Nat))) none none).run Try.prog W = .ok (.slice (some ad) (len - kk) (c - kk)) W) ∧ ((c = kk ∧ ad = ⟨g, 0, none⟩) ∨ (c ≠ kk ∧ ad = ⟨g, kk * 2, none⟩)) := by
  by_cases hck : c = kk
  · refine ⟨⟨g, 0, none⟩, fun W => ?_, .inl ⟨hck, rfl⟩⟩
    have h2 : len = kk := by omega
    subst hck h2
    go_simp
  · refine ⟨⟨g, kk * 2, none⟩, fun W => ?_, .inr ⟨hck, rfl⟩⟩
    go_simp
section
variable {base rb : Nat} {R : List Job} {w : World}
/-- The row lies in new memory. -/
def RFar (w : World) (base rb : Nat) (R : List Job) (W : World) : Prop := ∃ v, RQ W base rb R v ∧ ∀ g, v.ownBlock = some g → w.heap.size < g
theorem RQ.setRow2 {v v' : Value} {R' : List Job} {W : World} {B : Nat} (h : RQ w base rb R v) (k : Below w.heap.size w W) (hB : w.heap.size < B) (ow : OwnJ 30 W B v' R') (hn : Nd R') (hl : R'.length ≤ 1000) (hk : ∀ y ∈ R', InI y.k) (p q : Value) :
    REnd [41] w base rb R' (((W.setCell ⟨rb, 0, none⟩ v').setCell ⟨w.heap.size, 0, none⟩ p).setCell ⟨w.heap.size, 1, none⟩ q) ∧ RFar w base rb R' (((W.setCell ⟨rb, 0, none⟩ v').setCell ⟨w.heap.size, 0, none⟩ p).setCell ⟨w.heap.size, 1, none⟩ q) := by
  have h2 := h.below k
  have hbb := h.base
  have hrb := h.cells.2.2
  have hne : rb ≠ w.heap.size := by omega
  have hrq : RQ (((W.setCell ⟨rb, 0, none⟩ v').setCell ⟨w.heap.size, 0, none⟩ p).setCell ⟨w.heap.size, 1, none⟩ q) base rb R' v' := by
    refine ⟨?_, ?_, h.le, hn, hl, by have := k.size; simp; omega, hk⟩
    · rw [heap_setCell_other _ _ _ _ hne, heap_setCell_other _ _ _ _ hne]
      exact heap_setCell_same W rb 0 _ _ v' h2.box
    · refine (ow.mono (by omega)).same fun g hg => ?_
      have := (World.ownsRow.lt ow g hg).1
      rw [heap_setCell_other _ _ _ _ (show g ≠ w.heap.size by omega), heap_setCell_other _ _ _ _ (show g ≠ w.heap.size by omega), heap_setCell_other _ _ _ _ (show g ≠ rb by omega)]
  refine ⟨⟨⟨v', hrq⟩, (((k.mono hbb).setCell (p := ⟨rb, 0, none⟩) h.le _).setCell (p := ⟨w.heap.size, 0, none⟩) hbb _).setCell (p := ⟨w.heap.size, 1, none⟩) hbb _, ?_⟩, v', hrq, fun g hg => by have := (World.ownsRow.lt ow g hg).1; omega⟩
  refine ⟨by have := k.size; simp; omega, fun i o ho hc => ?_⟩
  have hi : i < w.heap.size := (Array.getElem?_eq_some_iff.1 hc).1
  rw [heap_setCell_other _ _ _ _ (show i ≠ w.heap.size by omega), heap_setCell_other _ _ _ _ (show i ≠ w.heap.size by omega)]
  exact ((KeepO.below k).trans (KeepO.setCell h2.box (by simp) _)).2 i o ho hc
set_option maxHeartbeats 4000000 in
set_option maxRecDepth 100000 in
theorem rtake_any (h : RefP w base rb R) (p : Nat) (hp : p < R.length) :
    Calls Try.prog 25 #[.pointer (some ⟨rb, 0, none⟩), .int .i64 p] w fun e w' => e = .returned (.agg #[.int .i64 (at' R p).k, .int .i64 (at' R p).a]) ∧ REnd [41] w base rb (dropR R (at' R p).k) w' ∧ RFar w base rb (dropR R (at' R p).k) w' := by
  obtain ⟨v, h⟩ := h
  have htd := take_drop h.nd hp
  obtain ⟨g, c, rfl, hcap⟩ : ∃ g c, v = .slice (some ⟨g, 0, none⟩) R.length c ∧ R.length ≤ c := by
    rcases h.own.form with ⟨_, e⟩ | ⟨g, cap, e, _, _, hc, _⟩
    · rw [e] at hp; simp at hp
    · exact ⟨g, cap, e, hc⟩
  have hlen := h.len
  have hH : ∀ W, Below w.heap.size w W → RQ W base rb R (.slice (some ⟨g, 0, none⟩) R.length c) := fun W hW => h.below hW
  have hrbw := h.cells.2.2
  obtain ⟨x0, x1⟩ := h.own.cell (at_some hp)
  have hfin : ∀ (W : World) (v3 : Value) (B : Nat), w.heap.size < B → Below w.heap.size w W → OwnJ 30 W B v3 (R.take p ++ R.drop (p + 1)) → ∀ y z, REnd [41] w base rb (dropR R (at' R p).k) (((W.setCell ⟨rb, 0, none⟩ v3).setCell ⟨w.heap.size, 0, none⟩ y).setCell ⟨w.heap.size, 1, none⟩ z) ∧ RFar w base rb (dropR R (at' R p).k) (((W.setCell ⟨rb, 0, none⟩ v3).setCell ⟨w.heap.size, 0, none⟩ y).setCell ⟨w.heap.size, 1, none⟩ z) := fun W v3 B hB hW ow y z => by
    rw [htd] at ow
    refine h.setRow2 hW hB ow (List.Pairwise.sublist List.filter_sublist h.nd) (Nat.le_trans (List.length_filter_le _ _) hlen) (fun y hy => h.keys y (by unfold dropR at hy; exact (List.mem_filter.1 hy).1)) y z
  obtain ⟨x, hx⟩ : ∃ x, at' R p = x := ⟨_, rfl⟩
  rw [hx] at x0 x1 hfin ⊢
  generalize dropR R x.k = R' at *
  obtain ⟨len, hl⟩ : ∃ len, R.length = len := ⟨_, rfl⟩
  rw [hl] at hH hp hlen hcap
  have HH := Lib.hid hH
  have HFIN := Lib.hid hfin
  have HL := Lib.hid hl
  have hcl : ∀ (W : World), Below w.heap.size w W → W.cell? ⟨rb, 0, none⟩ = some (.slice (some ⟨g, 0, none⟩) len c) ∧ W.frozen? ⟨rb, 0, none⟩ = false := fun W hW => ⟨(hH W hW).cells.1, (hH W hW).cells.2.1⟩
  have HCL := Lib.hid hcl
  obtain ⟨i0, hi0, hz0, hz1, hz2⟩ := info_parts infoA
  have htk : (R.take p).length = p := by rw [List.length_take, hl]; omega
  have HTK := Lib.hid htk
  have HRL : Hid ((rowJ (R.take p)).length = p * 2) := by unfold Hid; rw [rowJ_length, htk]
  have HRD : Hid ((rowJ (R.drop (p + 1))).length = (len - (p + 1)) * 2) := by unfold Hid; rw [rowJ_length, List.length_drop, hl]
  obtain ⟨t1, f1⟩ := hcl w (Below.refl _ _)
  have hgw : g < w.heap.size := (World.ownsRow.lt h.own g rfl).2
  have hbx0 : BxJ 30 ((w.alloc (.cells #[.int .i64 0, .int .i64 0] 30)).alloc (.cells #[.int .i64 x.k, .int .i64 x.a] 30)) w.heap.size ⟨0, 0⟩ := (BxJ.new 30 w ⟨0, 0⟩).same (heap_alloc_old _ _ (by simp))
  have hbx1 : BxJ 30 ((w.alloc (.cells #[.int .i64 0, .int .i64 0] 30)).alloc (.cells #[.int .i64 x.k, .int .i64 x.a] 30)) (w.heap.size + 1) x := by
    have := BxJ.new 30 (w.alloc (.cells #[.int .i64 0, .int .i64 0] 30)) x
    rwa [World.size_alloc] at this
  have hal : Below w.heap.size w ((w.alloc (.cells #[.int .i64 0, .int .i64 0] 30)).alloc (.cells #[.int .i64 x.k, .int .i64 x.a] 30)) := ((Below.refl _ _).alloc (Nat.le_refl _) _).alloc (by simp) _
  have HAL := Lib.hid hal
  clear h hH hfin hl hcl htk htd hx hal
  have hk0 : (0 : Int) ≤ p := by omega
  have hkc : p ≤ c := by omega
  have ek : IntKind.i64.wrap ((p : Int) + 1) = (p : Int) + 1 := IntWalk.i64_in _ (by omega)
  go_enter Try.func25, Try.ntmps25
  go_wp2
  have hw2 : w.heap.size < ((w.alloc (.cells #[.int .i64 0, .int .i64 0] 30)).alloc (.cells #[.int .i64 x.k, .int .i64 x.a] 30)).heap.size := hbx0.lt
  generalize ((w.alloc (.cells #[.int .i64 0, .int .i64 0] 30)).alloc (.cells #[.int .i64 x.k, .int .i64 x.a] 30)) = w2 at *
  have hbe : Below w2.heap.size w2 (w2.alloc (.cells #[] 30)).drew := ((Below.refl _ _).alloc (Nat.le_refl _) _).drew
  have HE : Hid (OwnJ 30 (w2.alloc (.cells #[] 30)).drew w2.heap.size (.slice (some ⟨w2.heap.size, 0, none⟩) 0 0) []) := (OwnJ.empty 30 w2 (Nat.le_refl _)).same fun _ _ => rfl
  have R4 := HH.out _ (HAL.out.trans (hbe.mono HAL.out.size))
  have HF4 := Lib.hid (R4.own.firsts p)
  have HBE := Lib.hid hbe
  clear R4 hbe
  have HBX : Hid (∀ W, Below w2.heap.size w2 W → BxJ 30 W w.heap.size ⟨0, 0⟩ ∧ BxJ 30 W (w.heap.size + 1) x) := fun W hW => ⟨hbx0.same (hW.block _ hbx0.lt), hbx1.same (hW.block _ hbx1.lt)⟩
  clear hbx0 hbx1
  obtain ⟨ad, hsl, hpart⟩ : ∃ ad : Addr, (∀ W : World, (Instr.slice 22 (.slice (some ⟨g, 0, none⟩) len c) (some (.int .i64 ((p : Int) + 1))) none none).run Try.prog W = .ok (.slice (some ad) (len - (p + 1)) (c - (p + 1))) W) ∧ ∀ W, Below w.heap.size w W → ∀ j u, (rowJ (R.drop (p + 1)))[j]? = some u → W.cell? (ad.add j) = some u := by
    obtain ⟨ad, hrun, hcs⟩ := slice_tail g len c (p + 1) (by omega) hcap
    refine ⟨ad, fun W => ?_, fun W hW j u hu => ?_⟩
    · have h := hrun W
      rw [show ((p + 1 : Nat) : Int) = (p : Int) + 1 by omega] at h
      exact h
    · rcases hcs with ⟨h1, rfl⟩ | ⟨h1, rfl⟩
      · have : R.drop (p + 1) = [] := List.drop_eq_nil_of_le (by rw [HL.out]; omega)
        rw [this] at hu
        simp [rowJ] at hu
      · exact (HH.out W hW).own.part (p + 1) j u hu
  have HPT := Lib.hid hpart
  clear hpart
  obtain ⟨t1, f1⟩ := HCL.out _ HAL.out
  have hrb2 : rb < w2.heap.size := by omega
  go_region_law (first
    | (refine step_append_own rfl (.tmp 14) (.tmp 20) 22 rfl w2.heap.size 30 i0 (.agg #[.int .i64 0, .int .i64 0]) 2 16 Try.underlying22 hi0 hz0 hz1 hz2 rfl (by decide) _ 0 [] rfl HE.out ⟨g, 0, none⟩ p c (rowJ (R.take p)) rfl HRL.out HF4.out rowJ_one_cell (by unfold maxLen; omega) (by omega) (by simp) ?_; intro v1 w4 ho1 hg1; have HO1 : Hid (OwnJ 30 w4 w2.heap.size v1 ([] ++ R.take p)) := OwnJ.join HTK.out.symm ho1; have hb4 : Below w2.heap.size w2 w4 := HBE.out.grown hg1 (by simp) (fun j hj => (World.ownsRow.lt HE.out j hj).1); have HB5 := Lib.hid hb4; have hbw := HAL.out.trans (hb4.mono HAL.out.size); have HBW := Lib.hid hbw; obtain ⟨t1, f1⟩ := HCL.out _ hbw; clear ho1 hg1 hb4 hbw; obtain ⟨A1, m1, c1, rfl⟩ : ∃ A m c, v1 = .slice A m c := (by rcases HO1.out.form with ⟨e, _⟩ | ⟨g2, c2, e, _⟩ <;> exact ⟨_, _, _, e⟩))
    | (refine step_append_own rfl (.tmp 21) (.tmp 28) 22 rfl w2.heap.size 30 i0 (.agg #[.int .i64 0, .int .i64 0]) 2 16 Try.underlying22 hi0 hz0 hz1 hz2 rfl (by decide) _ _ _ rfl HO1.out ad (len - (p + 1)) (c - (p + 1)) (rowJ (R.drop (p + 1))) rfl HRD.out (HPT.out _ HBW.out) rowJ_one_cell (by rw [List.nil_append, HTK.out]; unfold maxLen; omega) (by rw [List.nil_append, HTK.out]; omega) HB5.out.size ?_; intro v2 w5 ho2 hg2; have HO2 : Hid (OwnJ 30 w5 w2.heap.size v2 (([] ++ R.take p) ++ R.drop (p + 1))) := OwnJ.join (by rw [List.length_drop, HL.out]) ho2; have hb6 : Below w2.heap.size w2 w5 := HB5.out.grown hg2 HB5.out.size (fun j hj => (World.ownsRow.lt HO1.out j hj).1); have hbw2 := HAL.out.trans (hb6.mono HAL.out.size); have HBW2 := Lib.hid hbw2; obtain ⟨t1, f1⟩ := HCL.out _ hbw2; have hbb := HBX.out _ hb6; have HBB := Lib.hid hbb; clear ho2 hg2 hb6 hbw2 hbb; obtain ⟨A2, m2, c2, rfl⟩ : ∃ A m c, v2 = .slice A m c := (by rcases HO2.out.form with ⟨e, _⟩ | ⟨g2, c2, e, _⟩ <;> exact ⟨_, _, _, e⟩)))
  all_goals
    obtain ⟨z0, z1⟩ := HBB.out
    obtain ⟨p0, p1, p2, p3⟩ := z0.cells
    obtain ⟨q0, q1, _, _⟩ := z1.cells
    have n0 : rb ≠ w.heap.size := by omega
    have n1 : rb ≠ w.heap.size + 1 := by omega
    have z5 : BxJ 30 (w5.setCell ⟨rb, 0, none⟩ (.slice A2 m2 c2)) w.heap.size ⟨0, 0⟩ := z0.same (heap_setCell_other _ _ _ _ n0.symm)
    have HZ := Lib.hid (z5.set x)
    clear z0 z1 z5
    go_wp2
    refine bodyPost_ret (results_job rfl rfl HZ.out) rfl ?_
    exact ⟨rfl, HFIN.out w5 _ w2.heap.size hw2 HBW2.out (by simpa using HO2.out) _ _⟩
end
end Go.Proofs.Ytaaaefoanjggcaa
