/-
  THE PROGRAM s Take: it ranges over the iterator and returns out of the first round: the first number of "scan" and the number of its bytes, or ErrForm; what was there is as it was.
-/
import Derived.Test.YthdlcpnmldhllaaDoorIter
namespace Go.Proofs.YthdlcpnmldhllaaDoor
open Go.RowKit Go.Shelf
attribute [local go_sem] Oper.semAt_some

/-- The first number, the number of its bytes, and no error; or none. -/
def takeS (zs : List Int) : Int × Int × Int := match scan 0 0 zs with
  | [] => (0, 0, 2)
  | q :: _ => (q.n, q.k, 0)

/-- Three stores into three boxes in a row. -/
theorem three_set {W : World} {B : Nat} {u0 u1 u2 : Value} (hc0 : W.cell? ⟨B, 0, none⟩ = some u0) (hc1 : W.cell? ⟨B + 1, 0, none⟩ = some u1) (hc2 : W.cell? ⟨B + 1 + 1, 0, none⟩ = some u2) (v0 v1 v2 : Value) :
    (((W.setCell ⟨B, 0, none⟩ v0).setCell ⟨B + 1, 0, none⟩ v1).setCell ⟨B + 1 + 1, 0, none⟩ v2).cell? ⟨B, 0, none⟩ = some v0 ∧
    (((W.setCell ⟨B, 0, none⟩ v0).setCell ⟨B + 1, 0, none⟩ v1).setCell ⟨B + 1 + 1, 0, none⟩ v2).cell? ⟨B + 1, 0, none⟩ = some v1 ∧
    (((W.setCell ⟨B, 0, none⟩ v0).setCell ⟨B + 1, 0, none⟩ v1).setCell ⟨B + 1 + 1, 0, none⟩ v2).cell? ⟨B + 1 + 1, 0, none⟩ = some v2 ∧
    KeepsOthers W (((W.setCell ⟨B, 0, none⟩ v0).setCell ⟨B + 1, 0, none⟩ v1).setCell ⟨B + 1 + 1, 0, none⟩ v2) ∧
    Below B W (((W.setCell ⟨B, 0, none⟩ v0).setCell ⟨B + 1, 0, none⟩ v1).setCell ⟨B + 1 + 1, 0, none⟩ v2) := by
  have a1 : (W.setCell ⟨B, 0, none⟩ v0).cell? ⟨B + 1, 0, none⟩ = some u1 := (World.cell?_setCell_other _ _ _ _ (by simp)).trans hc1
  have a2 : ((W.setCell ⟨B, 0, none⟩ v0).setCell ⟨B + 1, 0, none⟩ v1).cell? ⟨B + 1 + 1, 0, none⟩ = some u2 := (World.cell?_setCell_other _ _ _ _ (by simp)).trans ((World.cell?_setCell_other _ _ _ _ (by simp)).trans hc2)
  refine ⟨?_, ?_, ?_, ?_, ?_⟩
  · exact (World.cell?_setCell_other _ _ _ _ (by simp)).trans ((World.cell?_setCell_other _ _ _ _ (by simp)).trans (World.cell?_setCell_same' _ _ _ (by rw [hc0]; rfl)))
  · exact (World.cell?_setCell_other _ _ _ _ (by simp)).trans (World.cell?_setCell_same' _ _ _ (by rw [a1]; rfl))
  · exact World.cell?_setCell_same' _ _ _ (by rw [a2]; rfl)
  · exact ((KeepsOthers.setCell _ _ _).trans (KeepsOthers.setCell _ _ _)).trans (KeepsOthers.setCell _ _ _)
  · exact (((Below.refl B W).setCell (p := ⟨B, 0, none⟩) (Nat.le_refl _) _).setCell (p := ⟨B + 1, 0, none⟩) (by simp) _).setCell (p := ⟨B + 1 + 1, 0, none⟩) (by simp; omega) _

set_option maxRecDepth 100000 in
set_option maxHeartbeats 2000000 in
theorem take_any (a : Option Addr) (cap : Nat) (zs : List Int) (hlen : zs.length ≤ 140737488351232) (hbs : Bytes zs) (w : World) (hr : Rd .u8 w.heap.size w a zs) :
    Calls Tryd.prog 64 #[.slice a zs.length cap] w fun e w' => e = .returned (.tuple #[.int .u64 (takeS zs).1, .int .i64 (takeS zs).2.1, .int .i64 (takeS zs).2.2]) ∧ Below w.heap.size w w' := by
  refine (callsIn_wide (n := 3)).1 ?_
  have h1 : 1 ≤ 3 := by decide
  refine callsIn_of_wp_marks Tryd.func64 rfl trivial ?_ rfl
  simp only [Tryd.ntmps64, List.size_toArray, List.length_cons, List.length_nil, Nat.reduceAdd, Nat.reduceSub, Array.replicate_succ, Array.replicate_zero, List.push_toArray, List.append_toArray, List.nil_append, List.cons_append]
  gi_wp2_with (refine ⟨trivial, ?_⟩; gi_at_call 81; refine (callsIn_wide.2 (numbers_any _ _ _ _)).mono ?_; rintro e w' ⟨rfl, rfl⟩)
  obtain ⟨W0, hW0⟩ : ∃ W0, (((w.alloc (.cells #[.int .u64 0] 124)).alloc (.cells #[.int .i64 0] 3)).alloc (.cells #[.int .i64 0] 40)).alloc (.cells #[.slice a zs.length cap] 35) = W0 := ⟨_, rfl⟩
  have hsz : W0.heap.size = w.heap.size + 4 := by rw [← hW0]; simp
  have hB0 : Below w.heap.size w W0 := by rw [← hW0]; exact ((((Below.refl _ w).alloc (Nat.le_refl _) _).alloc (by simp) _).alloc (by simp; omega) _).alloc (by simp; omega) _
  have b0 : Boxed W0 w.heap.size 124 (.int .u64 0) := by rw [← hW0]; exact (((Boxed.new w 124 (.int .u64 0)).alloc _).alloc _).alloc _
  have b1 : Boxed W0 (w.heap.size + 1) 3 (.int .i64 0) := by
    rw [← hW0]
    have h := (((Boxed.new (w.alloc (.cells #[.int .u64 0] 124)) 3 (.int .i64 0)).alloc (.cells #[.int .i64 0] 40)).alloc (.cells #[.slice a zs.length cap] 35))
    simpa using h
  have b2 : Boxed W0 (w.heap.size + 1 + 1) 40 (.int .i64 0) := by
    rw [← hW0]
    have h := ((Boxed.new ((w.alloc (.cells #[.int .u64 0] 124)).alloc (.cells #[.int .i64 0] 3)) 40 (.int .i64 0)).alloc (.cells #[.slice a zs.length cap] 35))
    simpa using h
  have b3 : Boxed W0 (w.heap.size + 1 + 1 + 1) 35 (.slice a zs.length cap) := by
    rw [← hW0]
    have h := (Boxed.new (((w.alloc (.cells #[.int .u64 0] 124)).alloc (.cells #[.int .i64 0] 3)).alloc (.cells #[.int .i64 0] 40)) 35 (.slice a zs.length cap))
    simpa using h
  rw [hW0]
  clear hW0
  refine wpIn_rangeFunc_ownG rfl h1 (gf := 87) (lb := #[.pointer (some ⟨w.heap.size + 1 + 1 + 1, 0, none⟩)]) rfl trivial (enters_of Tryd.func87 (by kernel_rfl) rfl)
    (nums_stops (w.heap.size + 1 + 1 + 1) w.heap.size a cap zs hlen hbs W0 (by omega) (by omega) b3.cell (hr.below hB0)) belowK_t (belowK_b (by omega)) (Below.refl _ _) (fun _ => rfl)
    (fun pre W => (pre = [] ∧ (W.cell? ⟨w.heap.size, 0, none⟩ = some (.int .u64 0) ∧ W.frozen? ⟨w.heap.size, 0, none⟩ = false) ∧ (W.cell? ⟨w.heap.size + 1, 0, none⟩ = some (.int .i64 0) ∧ W.frozen? ⟨w.heap.size + 1, 0, none⟩ = false) ∧ (W.cell? ⟨w.heap.size + 1 + 1, 0, none⟩ = some (.int .i64 0) ∧ W.frozen? ⟨w.heap.size + 1 + 1, 0, none⟩ = false)) ∧ Below w.heap.size w W)
    (fun c pre W => (c = .ret ∧ ∃ q, pre = [q] ∧ W.cell? ⟨w.heap.size, 0, none⟩ = some (.int .u64 q.n) ∧ W.cell? ⟨w.heap.size + 1, 0, none⟩ = some (.int .i64 q.k) ∧ W.cell? ⟨w.heap.size + 1 + 1, 0, none⟩ = some (.int .i64 0)) ∧ Below w.heap.size w W)
    (OwnFrom.and (Own.from (fun s A B row hs hg hr => ⟨hs.1, ⟨cell_kept hs.2.1.1 hg hr, (frozen_kept hs.2.1.1 hg hr).trans hs.2.1.2⟩, ⟨cell_kept hs.2.2.1.1 hg hr, (frozen_kept hs.2.2.1.1 hg hr).trans hs.2.2.1.2⟩, ⟨cell_kept hs.2.2.2.1 hg hr, (frozen_kept hs.2.2.2.1 hg hr).trans hs.2.2.2.2⟩⟩) _) (ownFrom_below (Nat.le_refl _) (by omega)))
    (fun c => OwnFrom.and (Own.from (fun s A B row hs hg hr => by obtain ⟨hc, q, e, e0, e1, e2⟩ := hs; exact ⟨hc, q, e, cell_kept e0 hg hr, cell_kept e1 hg hr, cell_kept e2 hg hr⟩) _) (ownFrom_below (Nat.le_refl _) (by omega)))
    ⟨⟨rfl, ⟨b0.cell, b0.frozen⟩, ⟨b1.cell, b1.frozen⟩, ⟨b2.cell, b2.frozen⟩⟩, hB0⟩
    (fun x => { tmps := #[.slice a zs.length cap, undef, .pointer (some ⟨w.heap.size, 0, none⟩), .pointer (some ⟨w.heap.size + 1, 0, none⟩), .pointer (some ⟨w.heap.size + 1 + 1, 0, none⟩), .int .u64 x.n, .int .i64 x.k, .slice a zs.length cap, .func (.func 87) #[] #[.pointer (some ⟨w.heap.size + 1 + 1 + 1, 0, none⟩)], .int .u64 x.n, .int .i64 x.k, undef, undef], defers := [] }) ?assign ?body ?done ?stop
  case assign =>
    intro l x W K hK
    gi_wp2
    exact hK
  case body =>
    rintro l pre x W ⟨⟨rfl, ⟨hc0, hf0⟩, ⟨hc1, hf1⟩, ⟨hc2, hf2⟩⟩, hB⟩ _
    gi_wp2
    obtain ⟨s0, s1, s2, s3, s4⟩ := three_set hc0 hc1 hc2 (.int .u64 x.n) (.int .i64 x.k) (.int .i64 0)
    exact ⟨s3.from _, ⟨rfl, x, rfl, s0, s1, s2⟩, hB.trans s4⟩
  case done =>
    rintro D ys W hD rfl ⟨⟨hnil, ⟨hc0, hf0⟩, ⟨hc1, hf1⟩, ⟨hc2, hf2⟩⟩, hB⟩ hK
    gi_wp2
    obtain ⟨s0, s1, s2, s3, s4⟩ := three_set hc0 hc1 hc2 (.int .u64 0) (.int .i64 0) (.int .i64 2)
    have hK' := s3.same D _ hK rfl
    refine ⟨by simp, .inl ⟨_, _, rfl, run_takeDeferred hK', ?_⟩⟩
    have r0 := cell_kept s0 (grownBy_putObj' _ D (.deferred none)) (fun r e => by cases e; exact ⟨_, hK', rfl⟩)
    have r1 := cell_kept s1 (grownBy_putObj' _ D (.deferred none)) (fun r e => by cases e; exact ⟨_, hK', rfl⟩)
    have r2 := cell_kept s2 (grownBy_putObj' _ D (.deferred none)) (fun r e => by cases e; exact ⟨_, hK', rfl⟩)
    refine ⟨.tuple #[.int .u64 0, .int .i64 0, .int .i64 2], ?_, by unfold takeS; rw [hnil], (hB.trans s4).trans (belowK_b (w := w) (Nat.le_refl _) _ D _ _ (by omega) hK' rfl rfl)⟩
    simp [results, Tryd.f64, go_sem, r0, r1, r2]
  case stop =>
    rintro D c pre W hD hpre ⟨⟨rfl, q, rfl, hc0, hc1, hc2⟩, hB⟩ hK
    gi_wp2
    refine ⟨by simp, .inl ⟨_, _, rfl, run_takeDeferred hK, ?_⟩⟩
    have r0 := cell_kept hc0 (grownBy_putObj' _ D (.deferred none)) (fun r e => by cases e; exact ⟨_, hK, rfl⟩)
    have r1 := cell_kept hc1 (grownBy_putObj' _ D (.deferred none)) (fun r e => by cases e; exact ⟨_, hK, rfl⟩)
    have r2 := cell_kept hc2 (grownBy_putObj' _ D (.deferred none)) (fun r e => by cases e; exact ⟨_, hK, rfl⟩)
    obtain ⟨rest, hrest⟩ := hpre
    refine ⟨.tuple #[.int .u64 q.n, .int .i64 q.k, .int .i64 0], ?_, by unfold takeS; rw [← hrest]; rfl, hB.trans (belowK_b (w := w) (Nat.le_refl _) _ D _ _ (by omega) hK rfl rfl)⟩
    simp [results, Tryd.f64, go_sem, r0, r1, r2]
end Go.Proofs.YthdlcpnmldhllaaDoor
