/-
  THE LIBRARY'S maps.Keys at the base's map: the iterator, for every loop body.
-/
import Derived.Test.YtpaooddmgcekhaaGreatVAt
import Derived.Shelf.AbstractIn
import Derived.RangeFuncMany
import Derived.RangeFuncLeaves
import Derived.RangeFuncNested
import Derived.Sort.MapsRangeIn
import Derived.Sort.KeysCollected
import Derived.OwnWalkIn
import Derived.TacticsInMore
import Derived.RegionIn
import Derived.LoopNIn
import Derived.LoopIn
import Derived.Shelf.Abstract
namespace Go.Proofs.YtpaooddmgcekhaaGreat.ti
set_option linter.unusedSimpArgs false
set_option linter.unusedVariables false
open Go.RowKit Go.Maps Go.Shelf Go.ChangeMaps Go.MapKept Go.WideElems
attribute [local go_sem] Oper.semAt_some
/-- The heads that came: some of the map's, each once; those that are left. -/
structure CameV (L : List IdV) (left : Lit → Bool) (pre : List IdV) : Prop where
  sub : ∀ x ∈ pre, x ∈ L
  nd : pre.Nodup
  lf : ∀ x ∈ L, left (keyL x.1) = true ↔ x ∉ pre
theorem perm_of_same : ∀ {l m : List IdV}, l.Nodup → m.Nodup → (∀ x, x ∈ l ↔ x ∈ m) → l.Perm m
  | [], m, _, _, h => by
    cases m with
    | nil => exact List.Perm.nil
    | cons y m => exact absurd ((h y).2 (by simp)) (by simp)
  | a :: l, m, hl, hm, h => by
    obtain ⟨m1, m2, rfl⟩ := List.append_of_mem ((h a).1 (by simp))
    obtain ⟨ha, hl⟩ := List.nodup_cons.1 hl
    have hp : (m1 ++ a :: m2).Perm (a :: (m1 ++ m2)) := List.perm_middle
    obtain ⟨hb, hm⟩ := List.nodup_cons.1 (hp.nodup_iff.1 hm)
    refine ((perm_of_same hl hm fun x => ?_).cons a).trans hp.symm
    constructor
    · intro hx
      have := hp.mem_iff.1 ((h x).1 (List.mem_cons_of_mem _ hx))
      rcases List.mem_cons.1 this with rfl | q
      · exact absurd hx ha
      · exact q
    · intro hx
      have := (h x).2 (hp.mem_iff.2 (List.mem_cons_of_mem _ hx))
      rcases List.mem_cons.1 this with rfl | q
      · exact absurd hx hb
      · exact q
theorem nd_of_ids {L : List IdV} (h : (L.map Prod.fst).Nodup) : L.Nodup := by
  refine List.Pairwise.imp ?_ (List.pairwise_map.1 (show List.Pairwise (· ≠ ·) (L.map Prod.fst) from h))
  rintro a b hab rfl
  exact hab rfl
theorem CameV.all {L pre : List IdV} {left : Lit → Bool} (h : CameV L left pre) (hn : (L.map Prod.fst).Nodup) (hl : ∀ k, left k = false) : pre.Perm L :=
  perm_of_same h.nd (nd_of_ids hn) fun x => ⟨h.sub x, fun hx => Classical.byContradiction fun q => by have := (h.lf x hx).2 q; rw [hl] at this; cases this⟩
theorem CameV.step {L pre : List IdV} {left : Lit → Bool} (h : CameV L left pre) (hn : (L.map Prod.fst).Nodup) (hL : ∀ x ∈ L, okI x.1) {x : IdV} (hx : x ∈ L) (hl : left (keyL x.1) = true) : CameV L (fun z => left z && !z.sameKey (keyL x.1)) (pre ++ [x]) := by
  have hnp := (h.lf x hx).1 hl
  refine ⟨fun y hy => ?_, ?_, fun y hy => ?_⟩
  · rcases List.mem_append.1 hy with q | q
    · exact h.sub y q
    · simp at q; subst q; exact hx
  · rw [List.nodup_append]
    exact ⟨h.nd, by simp, fun y hy z hz => by simp at hz; subst hz; rintro rfl; exact hnp hy⟩
  · rw [keyL_same (hL y hy) (hL x hx)]
    have := h.lf y hy
    by_cases e : y = x
    · subst e; simp
    · have e2 : ¬ y.1 = x.1 := fun q => e (ndV_eq hn hy hx q)
      simp [e2, e, this]
theorem CameV.start {L : List IdV} {es : List (Lit × DataW Value)} (hp : es.Perm (L.map entV)) (hn : (L.map Prod.fst).Nodup) (hL : ∀ x ∈ L, okI x.1) : CameV L (has (.map es)) [] :=
  ⟨by simp, List.nodup_nil, fun x hx => by
    rw [has_L hp hL (hL x hx), findV_mem hn hx]
    simp⟩
def encsI (x : IdV) : Array Value := #[.agg #[.int .i64 x.1.d, .int .i64 x.1.o, .int .i64 x.1.k, .int .i64 x.1.n]]
theorem mapK : Tryz.prog.underlying 59 = some (.map 33 78) := by kernel_rfl
set_option maxRecDepth 100000 in
set_option maxHeartbeats 4000000 in
theorem keys_in (n : Nat) (hn : 1 ≤ n) (l Bm b : Nat) (L : List IdV) (J Jx : List IdV → World → Prop)
    (hY : ∀ pre x W, J pre W → pre.length < L.length → YieldAt Fence.wide (n - 1) Tryz.prog l (encsI x) W fun e W' =>
      (e = .returned (.bool true) ∧ J (pre ++ [x]) W' ∧ KeepsWalks W W') ∨ (e = .returned (.bool false) ∧ Jx (pre ++ [x]) W'))
    (W : World) (hJ : AbidesFrom W.heap.size J) (hm : W.cell? ⟨Bm, 0, none⟩ = some (.map (some b))) (hown : MapV W b L) (h0 : J [] W) :
    CallsIn Fence.wide n Tryz.prog 63 #[.func (.yield l) #[] #[], .pointer (some ⟨Bm, 0, none⟩)] W fun e W' => (∃ v, e = .returned v) ∧
      ((∃ xs, xs.Perm L ∧ J xs W') ∨ (∃ pre, (∀ x ∈ pre, x ∈ L) ∧ Jx pre W')) := by
  obtain ⟨es, ho, hp, hn2, hL⟩ := hown
  have hsz : Maps.size (.map es) = L.length := by rw [size_eq, hp.length_eq, List.length_map]
  refine callsIn_of_wp Tryz.func63 rfl trivial ?_ rfl
  simp only [Tryz.ntmps63, List.size_toArray, List.length_cons, List.length_nil, Nat.reduceAdd, Nat.reduceSub, Array.replicate_succ, Array.replicate_zero, List.push_toArray, List.append_toArray, List.nil_append, List.cons_append]
  have HP := Lib.hid hp
  have HN2 := Lib.hid hn2
  have HL := Lib.hid hL
  have HSZ := Lib.hid hsz
  have HJ := Lib.hid hJ
  have H0 := Lib.hid h0
  have HY := Lib.hid hY
  clear hp hn2 hL hsz hJ h0 hY
  gi_wp2_with (first
    | (gi_at_range; refine wpListIn_range_own _ rfl _ 59 rfl 33 78 KT mapK _ b L.length _ rfl ho ?_; intro w0 hrg0 hg0 hs0)
    | gi_in)
  go_frame
  gi_loopw [3] (fun _ wr => ∃ (left : Lit → Bool) (cnt : Nat) (ps : List IdV), wr.ranges Tryz.prog 33 heldR b W.heap.size L.length (.map es) left cnt ∧ RowKit.Hid (ps.length + cnt ≤ L.length) ∧ RowKit.Hid (CameV L left ps) ∧ RowKit.Hid (J ps wr))
    (fun _ wr => wr.rangeLeft b W.heap.size)
  case atStart =>
    exact ⟨_, _, [], hrg0, by have := HSZ.out; unfold RowKit.Hid; simp; omega, CameV.start HP.out HN2.out HL.out, HJ.out [] W w0 none H0.out hg0 (fun r e => by cases e)⟩
  case round =>
    obtain ⟨left, cnt, ps, hrg, hcs, hC, hJs⟩ := hrel
    gi_wp2_with (first
      | (gi_at_next; refine wpListIn_next_ranges _ rfl _ rfl 33 KT heldR (fun v : Value => v) (fun v : Value => v) (fun key kl hk => ⟨key, rfl⟩) (fun v y hv => ⟨v, rfl⟩) b W.heap.size L.length _ _ _ rfl hrg ?_ ?_)
      | gi_in)
    · -- NOTHING IS LEFT
      intro hc0 hl0
      gi_wp2
      go_end0
      exact ⟨⟨_, rfl⟩, .inl ⟨ps, hC.out.all HN2.out hl0, hJs.out⟩⟩
    · -- AN ENTRY HAS COME: yield(v)
      intro x c kl yd yp w2 cnt2 hkey hlk hv hat hrg2 hlt hg2 hs2 hen
      obtain ⟨q, hcL, hkl, rfl⟩ : ∃ q ∈ L, kl = keyL q.1 ∧ x = aggI q.1 := by
        have hh : has (.map es) kl = true := by
          cases hq : has (.map es) kl with
          | true => rfl
          | false =>
            have h1 := hat .nil
            rw [atKey_of_not_has hq] at h1
            have := held_inv (hv.trans (by rw [← h1]) : heldR c = some (.nil, yp))
            cases this
        rw [has_eq, List.any_eq_true] at hh
        obtain ⟨p, hpm, hpk⟩ := hh
        obtain ⟨q, hq, rfl⟩ := List.mem_map.1 (HP.out.mem_iff.1 hpm)
        have hk2 : keyL q.1 = kl := WideAt.sameKey_eq hpk
        refine ⟨q, hq, hk2.symm, ?_⟩
        rw [← hk2] at hkey
        exact KT.inj hkey (keyT (HL.out q hq))
      subst hkl
      have hen2 : (Instr.entry (.pointer (some ⟨W.heap.size, 0, none⟩))).run Tryz.prog w2 = .ok (.tuple #[.agg #[.int .i64 q.1.d, .int .i64 q.1.o, .int .i64 q.1.k, .int .i64 q.1.n], c]) w2 := hen
      clear hen
      unfold aggI
      have hC2 := Lib.hid (hC.out.step HN2.out HL.out hcL hlk)
      obtain ⟨w3, hw3⟩ : ∃ w3, w2.alloc (.cells #[.int .i64 q.1.d, .int .i64 q.1.o, .int .i64 q.1.k, .int .i64 q.1.n] 33) = w3 := ⟨_, rfl⟩
      have hg3 : w2.grownBy w3 none := by rw [← hw3]; exact World.grownBy_alloc w2 _ none
      have hk3 : KeepsWalks w2 w3 := by rw [← hw3]; exact KeepsWalks.alloc _ _
      have hJ2 : J ps w2 := HJ.out _ wr w2 (some W.heap.size) hJs.out hg2 (fun r e => by cases e; exact ⟨Nat.le_refl _, hrg.iter_walk⟩)
      have hJ3 : J ps w3 := HJ.out _ w2 w3 none hJ2 hg3 (fun r e => by cases e)
      obtain ⟨fn, tmps, assign, body, hy, hR⟩ := HY.out ps q w3 hJ3 (by have := hcs.out; omega)
      have HRG := Lib.hid ((hrg2.of_walks hk3))
      have HG0 := Lib.hid hrg
      have HLT := Lib.hid hlt
      have b0 := heap_alloc_new w2 (.cells #[.int .i64 q.1.d, .int .i64 q.1.o, .int .i64 q.1.k, .int .i64 q.1.n] 33)
      rw [hw3] at b0
      unfold encsI at hy
      have c0 : w3.cell? ⟨w2.heap.size, 0, none⟩ = some (.int .i64 q.1.d) := by simp [World.cell?, b0]
      have c1 : w3.cell? ⟨w2.heap.size, 1, none⟩ = some (.int .i64 q.1.o) := by simp [World.cell?, b0]
      have c2 : w3.cell? ⟨w2.heap.size, 2, none⟩ = some (.int .i64 q.1.k) := by simp [World.cell?, b0]
      have c3 : w3.cell? ⟨w2.heap.size, 3, none⟩ = some (.int .i64 q.1.n) := by simp [World.cell?, b0]
      clear hs2 hkey hlk hv hat hrg2 hlt hg2 hg3 hk3 hJ2 hJ3 hrg b0
      gi_wp2
      refine hR.mono ?_
      rintro e W3 (⟨rfl, hJ4, hk4⟩ | ⟨rfl, hJx4⟩)
      · have HJ4 := Lib.hid hJ4
        have HRG4 := Lib.hid (HRG.out.of_walks hk4)
        clear hJ4 hk4 c0 c1 c2 c3 hy hR
        gi_wp2
        go_roundw
        case rel => exact ⟨_, cnt2, ps ++ [q], HRG4.out, by have := hcs.out; have := HLT.out; unfold RowKit.Hid; simp; omega, hC2.out, HJ4.out⟩
        case measure => rw [HRG4.out.left_eq, HG0.out.left_eq]; exact HLT.out
      · have HJ4 := Lib.hid hJx4
        clear hJx4 c0 c1 c2 c3 hy hR
        gi_wp2
        refine bodyPost_ret (results_none rfl _ _ _) rfl ?_
        exact ⟨⟨_, rfl⟩, .inr ⟨_, fun y hy => hC2.out.sub y hy, HJ4.out⟩⟩
end Go.Proofs.YtpaooddmgcekhaaGreat.ti
