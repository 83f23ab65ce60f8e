/-
  THE DOCUMENT's QUEUE: a job is put whose key is known.
-/
import Derived.Test.YtaaaefoanjggcaaQRPut
import Derived.Test.YtaaaefoanjggcaaQNear
namespace Go.Proofs.Ytaaaefoanjggcaa
set_option linter.unusedSimpArgs false
set_option linter.unusedVariables false
open Go.RowKit
theorem set_plc {R : List Job} {x : Job} {n : Int} (h : Nd R) (hg : getR R x.k = some n) : R.set (plc R x.k) x = repR R x := by
  induction R with
  | nil => simp [getR] at hg
  | cons y R ih =>
    obtain ⟨h1, h2⟩ := List.pairwise_cons.1 h
    by_cases e : y.k = x.k
    · have ep : plc (y :: R) x.k = 0 := by unfold plc; rw [List.takeWhile_cons]; simp [e]
      have er := rep_not (R := R) (x := x) (fun z hz e3 => h1 z hz (e.trans e3.symm))
      rw [ep, List.set_cons_zero]
      unfold repR at er ⊢
      rw [List.map_cons, if_pos e, er]
    · have ep : plc (y :: R) x.k = plc R x.k + 1 := by unfold plc; rw [List.takeWhile_cons]; simp [e]
      have eg : getR (y :: R) x.k = getR R x.k := by unfold getR; rw [List.find?_cons, decide_eq_false e]
      rw [eg] at hg
      rw [ep, List.set_cons_succ, ih h2 hg]
      unfold repR
      rw [List.map_cons, if_neg e]
section
variable {base rb : Nat} {R : List Job} {w : World}
theorem nd_rep {x : Job} (h : Nd R) : Nd (repR R x) := by
  unfold Nd repR at *
  rw [List.pairwise_map]
  refine h.imp_of_mem fun {a b} ha hb hab => ?_
  by_cases e1 : a.k = x.k
  · rw [if_pos e1]
    by_cases e2 : b.k = x.k
    · exact absurd (e1.trans e2.symm) hab
    · rw [if_neg e2]; exact fun e => e2 e.symm
  · rw [if_neg e1]
    by_cases e2 : b.k = x.k
    · rw [if_pos e2]; exact e1
    · rw [if_neg e2]; exact hab
theorem REnd.drew {ts : List TypeId} {W : World} (h : REnd ts w base rb R W) : REnd ts w base rb R W.drew := ⟨h.1.below (Below.refl _ _).drew, h.2.1.drew, ⟨h.2.2.1, h.2.2.2⟩⟩
set_option maxHeartbeats 2000000 in
set_option maxRecDepth 100000 in
/-- The row of a job is turned, or not. -/
theorem rput_is {n : Int} (h : RefP w base rb R) (x : Job) (hx : InI x.k) (hg : getR R x.k = some n) :
    Calls Try.prog 12 #[.pointer (some ⟨rb, 0, none⟩), .agg #[.int .i64 x.k, .int .i64 x.a]] w fun e w' => e = .returned (.bool (newsR R x)) ∧ REnd [41, 30] w base rb (putR R x) w' := by
  have hal : Below w.heap.size w (w.alloc (.cells #[.int .i64 x.k, .int .i64 x.a] 30)) := (Below.refl _ _).alloc (Nat.le_refl _) _
  have hpl := rplace_any _ (h.below hal) x.k
  rw [plcV_some hg] at hpl
  have hbx := BxJ.new 30 w x
  obtain ⟨h1, h2⟩ := plc_spec.1 n hg
  have hset := fun hN : Nd R => set_plc hN hg
  have h0 := h
  obtain ⟨v, h⟩ := h
  have hset := hset h.nd
  obtain ⟨b, c, rfl, hcap⟩ : ∃ b c, v = .slice (some ⟨b, 0, none⟩) R.length c ∧ R.length ≤ c := by
    rcases h.own.form with ⟨_, e⟩ | ⟨b, cap, e, _, _, hcap, _⟩
    · rw [e] at h1; simp at h1
    · exact ⟨b, cap, e, hcap⟩
  have hlen := h.len
  generalize plc R x.k = p at *
  have hcl : ∀ W, Below w.heap.size w W → W.cell? ⟨rb, 0, none⟩ = some (.slice (some ⟨b, 0, none⟩) R.length c) ∧ (W.cell? ⟨b, p * 2, none⟩ = some (.int .i64 x.k) ∧ W.cell? ⟨b, p * 2 + 1, none⟩ = some (.int .i64 n)) ∧ W.frozen? ⟨b, p * 2, none⟩ = false ∧ W.frozen? ⟨b, p * 2 + 1, none⟩ = false := fun W hW => by
    have hr := h.below hW
    have hc := hr.own.cell (at_some h1)
    rw [h2] at hc
    exact ⟨hr.cells.1, hc, hr.own.frozen _, hr.own.frozen _⟩
  have hfin : ∀ W, Below w.heap.size w W → REnd [41, 30] w base rb (repR R x) ((W.setCell ⟨b, p * 2, none⟩ (.int .i64 x.k)).setCell ⟨b, p * 2 + 1, none⟩ (.int .i64 x.a)) := fun W hW => by
    have hr := h.below hW
    obtain ⟨cur, hcur, hbb⟩ : ∃ cur, W.heap[b]? = some (.cells cur 30 (0, 0)) ∧ base ≤ b := by
      rcases hr.own.2 with ⟨e, _⟩ | ⟨g, cap, cur, e, hgb, hh, _⟩
      · cases e
      · injection e with e1 _ _
        injection e1 with e1
        injection e1 with e1 _ _
        subst e1
        exact ⟨cur, hh, hgb⟩
    have hne : rb ≠ b := fun e => by
      have := hr.box
      rw [e, hcur] at this
      injection this with this
      injection this with _ this _
      revert this
      decide
    refine ⟨⟨.slice (some ⟨b, 0, none⟩) R.length c, ?_, ?_, h.le, nd_rep h.nd, by unfold repR; rw [List.length_map]; exact hlen, by have := hW.size; have := h.base; simp; omega, fun y hy => ?_⟩, ((hW.mono h.base).setCell (p := ⟨b, p * 2, none⟩) hbb _).setCell (p := ⟨b, p * 2 + 1, none⟩) hbb _, ?_⟩
    · rw [heap_setCell_other _ _ _ _ hne, heap_setCell_other _ _ _ _ hne]
      exact hr.box
    · rw [← hset]
      have := hr.own.set p x
      exact this
    · unfold repR at hy
      obtain ⟨z, hz, rfl⟩ := List.mem_map.1 hy
      split
      · exact hx
      · exact h.keys z hz
    · exact ((KeepO.below hW).trans (KeepO.setCell hcur (by simp) _)).trans (KeepO.setCell (heap_setCell_same W b _ _ _ _ hcur) (by simp) _)
  obtain ⟨len, hl⟩ : ∃ len, R.length = len := ⟨_, rfl⟩
  rw [hl] at hcl hcap hlen h1
  have HFIN := Lib.hid hfin
  have HBX : Hid (∀ W, Below (w.alloc (.cells #[.int .i64 x.k, .int .i64 x.a] 30)).heap.size (w.alloc (.cells #[.int .i64 x.k, .int .i64 x.a] 30)) W → W.cell? ⟨w.heap.size, 0, none⟩ = some (.int .i64 x.k) ∧ W.cell? ⟨w.heap.size, 1, none⟩ = some (.int .i64 x.a)) := fun W hW => by
    have := (hbx.same (hW.block _ hbx.lt)).cells
    exact ⟨this.1, this.2.1⟩
  have HAL := Lib.hid hal
  have hstay : Hid (∀ W, Below w.heap.size w W → REnd [41, 30] w base rb R W) := fun W hW => h0.stay hW
  by_cases hlt : x.a < n
  · obtain ⟨e1, e2⟩ := putR_less hg hlt
    rw [e1, e2]
    have hd : decide (n ≤ x.a) = false := decide_eq_false (by omega)
    clear h h0 hset hfin hg h2 hl hlt e1 e2 hstay
    have HCL := Lib.hid hcl
    obtain ⟨k0, ⟨k1, k2⟩, k3, k4⟩ := hcl _ HAL.out
    obtain ⟨b0, b1⟩ := HBX.out _ (Below.refl _ _)
    clear hcl hbx
    go_enter Try.func12, Try.ntmps12
    go_wp2_with (go_at_call 23; refine hpl.mono ?_; rintro e w1 ⟨rfl, rfl⟩)
    generalize w.alloc (.cells #[.int .i64 x.k, .int .i64 x.a] 30) = w2 at *
    go_quiet (fail)
    have hb3 := bel_drawn (Below.refl w2.heap.size w2) nq
    have HF3 := Lib.hid (HFIN.out _ (HAL.out.trans (hb3.mono HAL.out.size))).drew
    obtain ⟨k0, ⟨k1, k2⟩, k3, k4⟩ := HCL.out _ (HAL.out.trans (hb3.mono HAL.out.size))
    obtain ⟨b0, b1⟩ := HBX.out _ hb3
    clear hb3
    generalize w2.drewN nq = w3 at *
    go_wp2
    go_region
    go_wp2
    go_ret
    exact ⟨rfl, HF3.out⟩
  · obtain ⟨e1, e2⟩ := putR_stay hg hlt
    rw [e1, e2]
    have hd : decide (n ≤ x.a) = true := decide_eq_true (by omega)
    clear h h0 hset hfin hg h2 hl hlt e1 e2
    have hc2 := hcl
    obtain ⟨k0, ⟨k1, k2⟩, _, _⟩ := hcl _ HAL.out
    obtain ⟨b0, b1⟩ := HBX.out _ (Below.refl _ _)
    clear hcl hc2 hbx
    go_enter Try.func12, Try.ntmps12
    go_wp2_with (go_at_call 23; refine hpl.mono ?_; rintro e w1 ⟨rfl, rfl⟩)
    generalize w.alloc (.cells #[.int .i64 x.k, .int .i64 x.a] 30) = w2 at *
    go_quiet (fail)
    go_wp2
    go_ret
    exact ⟨rfl, hstay.out _ (bel_drawn HAL.out _)⟩
end
end Go.Proofs.Ytaaaefoanjggcaa
