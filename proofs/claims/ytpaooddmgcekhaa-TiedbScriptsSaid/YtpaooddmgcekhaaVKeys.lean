/-
  THE LIBRARY'S maps.Keys at the base's map: the iterator, for every loop body.
-/
import Derived.Test.YtpaooddmgcekhaaVAt
import Derived.Shelf.AbstractIn
import Derived.RangeFuncMany
import Derived.RangeFuncLeaves
import Derived.RangeFuncNested
import Derived.Sort.MapsRangeIn
import Derived.Sort.KeysCollected
import Derived.OwnWalkIn
import Derived.TacticsInMore
import Derived.RegionIn
import Derived.LoopNIn
import Derived.LoopIn
import Derived.Shelf.Abstract
namespace Go.Proofs.Ytpaooddmgcekhaa.ti
set_option linter.unusedSimpArgs false
set_option linter.unusedVariables false
open Go.RowKit Go.Maps Go.Shelf Go.ChangeMaps Go.MapKept Go.WideElems
attribute [local go_sem] Oper.semAt_some
/-- The heads that came: some of the map's, each once; those that are left. -/
structure CameV (L : List IdV) (left : Lit → Bool) (pre : List IdV) : Prop where
  sub : ∀ x ∈ pre, x ∈ L
  nd : pre.Nodup
  lf : ∀ x ∈ L, left (keyL x.1) = true ↔ x ∉ pre
theorem perm_of_same : ∀ {l m : List IdV}, l.Nodup → m.Nodup → (∀ x, x ∈ l ↔ x ∈ m) → l.Perm m
  | [], m, _, _, h => by
    cases m with
    | nil => exact List.Perm.nil
    | cons y m => exact absurd ((h y).2 (by simp)) (by simp)
  | a :: l, m, hl, hm, h => by
    obtain ⟨m1, m2, rfl⟩ := List.append_of_mem ((h a).1 (by simp))
    obtain ⟨ha, hl⟩ := List.nodup_cons.1 hl
    have hp : (m1 ++ a :: m2).Perm (a :: (m1 ++ m2)) := List.perm_middle
    obtain ⟨hb, hm⟩ := List.nodup_cons.1 (hp.nodup_iff.1 hm)
    refine ((perm_of_same hl hm fun x => ?_).cons a).trans hp.symm
    constructor
    · intro hx
      have := hp.mem_iff.1 ((h x).1 (List.mem_cons_of_mem _ hx))
      rcases List.mem_cons.1 this with rfl | q
      · exact absurd hx ha
      · exact q
    · intro hx
      have := (h x).2 (hp.mem_iff.2 (List.mem_cons_of_mem _ hx))
      rcases List.mem_cons.1 this with rfl | q
      · exact absurd hx hb
      · exact q
theorem nd_of_ids {L : List IdV} (h : (L.map Prod.fst).Nodup) : L.Nodup := by
  refine List.Pairwise.imp ?_ (List.pairwise_map.1 (show List.Pairwise (· ≠ ·) (L.map Prod.fst) from h))
  rintro a b hab rfl
  exact hab rfl
theorem CameV.all {L pre : List IdV} {left : Lit → Bool} (h : CameV L left pre) (hn : (L.map Prod.fst).Nodup) (hl : ∀ k, left k = false) : pre.Perm L :=
  perm_of_same h.nd (nd_of_ids hn) fun x => ⟨h.sub x, fun hx => Classical.byContradiction fun q => by have := (h.lf x hx).2 q; rw [hl] at this; cases this⟩
theorem CameV.step {L pre : List IdV} {left : Lit → Bool} (h : CameV L left pre) (hn : (L.map Prod.fst).Nodup) (hL : ∀ x ∈ L, okI x.1) {x : IdV} (hx : x ∈ L) (hl : left (keyL x.1) = true) : CameV L (fun z => left z && !z.sameKey (keyL x.1)) (pre ++ [x]) := by
  have hnp := (h.lf x hx).1 hl
  refine ⟨fun y hy => ?_, ?_, fun y hy => ?_⟩
  · rcases List.mem_append.1 hy with q | q
    · exact h.sub y q
    · simp at q; subst q; exact hx
  · rw [List.nodup_append]
    exact ⟨h.nd, by simp, fun y hy z hz => by simp at hz; subst hz; rintro rfl; exact hnp hy⟩
  · rw [keyL_same (hL y hy) (hL x hx)]
    have := h.lf y hy
    by_cases e : y = x
    · subst e; simp
    · have e2 : ¬ y.1 = x.1 := fun q => e (ndV_eq hn hy hx q)
      simp [e2, e, this]
theorem CameV.start {L : List IdV} {es : List (Lit × DataW Value)} (hp : es.Perm (L.map entV)) (hn : (L.map Prod.fst).Nodup) (hL : ∀ x ∈ L, okI x.1) : CameV L (has (.map es)) [] :=
  ⟨by simp, List.nodup_nil, fun x hx => by
    rw [has_L hp hL (hL x hx), findV_mem hn hx]
    simp⟩
def encsI (x : IdV) : Array Value := #[.agg #[.int .i64 x.1.d, .int .i64 x.1.o, .int .i64 x.1.k, .int .i64 x.1.n]]
theorem mapK : Try.prog.underlying 55 = some (.map 33 83) := by kernel_rfl
end Go.Proofs.Ytpaooddmgcekhaa.ti
