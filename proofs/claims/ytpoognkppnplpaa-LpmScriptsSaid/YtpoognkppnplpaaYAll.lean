/-
  TABLES: all nets, rising; how many (the program).
-/
import Derived.Test.YtpoognkppnplpaaYEach
import Derived.Maps.AppendAt
namespace Go.Proofs.Ytpoognkppnplpaa
set_option linter.unusedSimpArgs false
set_option linter.unusedVariables false
open Go.RowKit Go.Shelf
attribute [local go_sem] Oper.semAt_some
theorem Try.infoPx : (Try.prog.info? 25).map (fun i => (i.zero, i.size, i.bytes)) = some (some (.agg #[.int .u32 0, .int .i64 0]), 2, 16) := by kernel_rfl
theorem OwnP.push {W : World} {base : Nat} {v : Value} {l : List (Nat × Int)} {p : Nat × Int} (h : W.ownsRow base 25 2 v (l.length + 1) (rowP l ++ cellsP p)) : OwnP W base v (l ++ [p]) := by
  unfold OwnP
  rw [rowP_append, rowP_one, List.length_append]
  exact h
theorem rowP_one_cell1 (p : Nat × Int) : ∀ u ∈ cellsP p, u.oneCell' = true := by rw [← rowP_one]; exact rowP_one_cell
def netsL (L : List Ent) : List (Nat × Int) := L.map (·.1)
/-- Where the loop of All stands. -/
structure AllAt (w w1 : World) (pre : List Ent) (v : Value) (W : World) : Prop where
  box : Boxed W w.heap.size 38 v
  own : OwnP W w.heap.size v (netsL pre)
  bel : Below w.heap.size w W
  size : w1.heap.size ≤ W.heap.size
theorem AllAt.ownr {w w1 : World} {pre : List Ent} {v : Value} {W W' : World} {row : Option Nat} (h : AllAt w w1 pre v W) (hg : W.grownBy W' row) (hr : ∀ r, row = some r → w1.heap.size ≤ r ∧ ∃ o : Obj, W.heap[r]? = some o ∧ o.isCells = false) (hw : w.heap.size ≤ w1.heap.size) : AllAt w w1 pre v W' := by
  refine ⟨block_own h.box hg (fun r e => (hr r e).2), ?_, h.bel.grown hg h.bel.size (fun j hj => by have := (hr j hj).1; omega), Nat.le_trans h.size hg.size⟩
  refine World.ownsRow.kept h.own hg ?_
  cases row with
  | none =>
    cases hv : v.ownBlock with
    | none => exact .inl rfl
    | some g => exact .inr (by simp)
  | some r =>
    right
    intro e
    obtain ⟨_, o, ho, hc⟩ := hr r rfl
    obtain ⟨cur, hcur⟩ : ∃ cs t fr, W.heap[r]? = some (.cells cs t fr) := by
      rcases h.own.2 with ⟨e1, _⟩ | ⟨g, cap, cur, e1, _, hh, _⟩
      · rw [e1] at e; cases e
      · rw [e1] at e
        have : g = r := by cases e; rfl
        subst this
        exact ⟨_, _, _, hh⟩
    obtain ⟨t, fr, hcur⟩ := hcur
    rw [hcur] at ho
    cases ho
    cases hc
set_option maxRecDepth 100000 in
set_option maxHeartbeats 8000000 in
theorem all_any (tb base : Nat) (f : Nat → Nat → Option Nat) (g : Nat → Nat → Option (Nat × Int)) (L : List Ent) (hL : Good L) (hm : Match L g) (hlen : L.length ≤ 4096) (w : World) (ht : Tree w base tb f g) :
    Calls Try.prog 15 #[pt (some tb)] w fun e w' => (∃ v, e = .returned v ∧ OwnP w' w.heap.size v (netsL L)) ∧ Below w.heap.size w w' := by
  refine (callsIn_wide (n := 3)).1 ?_
  have h1 : 1 ≤ 3 := by decide
  refine callsIn_of_wp_marks Try.func15 rfl trivial ?_ rfl
  simp only [Try.ntmps15, List.size_toArray, List.length_cons, List.length_nil, Nat.reduceAdd, Nat.reduceSub, Array.replicate_succ, Array.replicate_zero, List.push_toArray, List.append_toArray, List.nil_append, List.cons_append]
  gi_wp2_with (refine ⟨trivial, ?_⟩; gi_at_call 30; refine (callsIn_wide.2 (entries_any _ _)).mono ?_; rintro e w1 ⟨rfl, hw1⟩; have HW1 := Lib.hid hw1; clear hw1)
  obtain ⟨W3, hW3⟩ : ∃ W3, w.alloc (.cells #[.slice none 0 0] 38) = W3 := ⟨_, rfl⟩
  have hs3 : W3.heap.size = w.heap.size + 1 := by rw [← hW3]; simp
  have hw1 := HW1.out
  rw [hW3] at hw1
  have b3 : Below w.heap.size w W3 := by rw [← hW3]; exact (Below.refl _ _).alloc (Nat.le_refl _) _
  have hst := entries_stops w W3 b3 tb base f g L hL hm ht w1 hw1
  have hsz : w1.heap.size = w.heap.size + 1 + 1 := by rw [← hw1]; simp [hs3]
  have g1 : AllAt w w1 [] (.slice none 0 0) w1 := by
    refine ⟨?_, OwnP.nil _ _, ?_, Nat.le_refl _⟩
    · rw [← hw1, ← hW3]; exact (Boxed.new w 38 (.slice none 0 0)).alloc _
    · rw [← hw1]; exact b3.alloc b3.size _
  obtain ⟨i0, hi, hz0, hz1, hz2⟩ := info_parts Try.infoPx
  rw [hs3] at hst
  have HSZ := Lib.hid hsz
  clear hw1 HW1 hW3 b3 ht hs3 hsz
  refine wpIn_rangeFunc_ownH rfl h1 (gf := 43) (lb := #[.pointer (some ⟨w.heap.size + 1, 0, none⟩)]) rfl trivial (enters_of Try.func43 (by kernel_rfl) rfl)
    hst belowK_t (belowK_b (by have := HSZ.out; omega)) (Below.refl _ _) (fun _ => rfl)
    (fun pre W => ∃ v, AllAt w w1 pre v W)
    (fun _ _ _ => False)
    (fun s W W' row hs hg hr => by
      obtain ⟨v, hv⟩ := hs
      exact ⟨v, hv.ownr hg (fun r e => hr r e) (by have := HSZ.out; omega)⟩)
    (fun c s W W' row hs hg hr => hs)
    ⟨_, g1⟩
    (fun x a' W => ∃ k, w1.heap.size ≤ k ∧ EB W k x ∧ a' = { tmps := #[pt (some tb), undef, .slice none 0 0, .pointer (some ⟨w.heap.size, 0, none⟩), .pointer (some ⟨k, 0, none⟩), pt (some tb), .func (.func 43) #[] #[.pointer (some ⟨w.heap.size + 1, 0, none⟩)], .agg #[.int .u32 x.1.1, .int .i64 x.1.2, .int .i64 x.2], undef, undef, undef, undef, undef, undef], defers := [] })
    (fun x a' s W W' row hs hg hr => by
      obtain ⟨k, hk, hb, ha⟩ := hs
      exact ⟨k, hk, block_own hb hg (fun r e => (hr r e).2), ha⟩) ?assign ?body ?done ?stop
  case assign =>
    rintro l pre x W K ⟨v, hG⟩ hK
    simp only [encE]
    gi_wp2
    have hsw := hG.size
    have hw := hG.bel.size
    exact hK _ _ ((KeepsOthers.alloc _ _).from _) ((Below.refl _ W).alloc hw _) ⟨v, hG.box.alloc _, hG.own.alloc _, hG.bel.alloc hw _, by simp; omega⟩ ⟨W.heap.size, hsw, heap_alloc_new W _, rfl⟩
  case body =>
    rintro l pre x a' W hl _ ⟨v, hG⟩ ⟨k, hk, hE, rfl⟩ hpl
    obtain ⟨e0, e1, e2, _⟩ := hE.cells
    have q0 := hG.box.cell
    have HG := Lib.hid hG
    have hbs := hG.bel.size
    have hnl : (netsL pre).length = pre.length := by unfold netsL; simp
    have HNL := Lib.hid hnl
    clear hG hE hnl
    gi_wp2_with (gi_at_builtin; skip; refine Hid.out ?_)
    refine Lib.hid ?_
    have hrow := HG.out.own
    have hnl := HNL.out
    unfold OwnP at hrow
    refine wpListIn_append_own _ rfl _ _ 38 rfl w.heap.size 25 i0 (.agg #[.int .u32 0, .int .i64 0]) 2 16 Try.underlying38 hi hz0 hz1 hz2 rfl (by decide) _ _ _ rfl (hrow.alloc _) ⟨W.heap.size, 0, none⟩ 1 1 (cellsP x.1) rfl rfl (cell_two_new W _ _ _) (rowP_one_cell1 x.1) (by unfold maxLen; omega) (by omega) (by simp; omega) ?_
    intro v' w2 hown' hgrow _
    obtain ⟨hv1, hv2, hr2, hk2, hb2⟩ := HG.out.box.appended (by decide) hrow hbs (Nat.le_refl _) hown' hgrow
    have HN : Hid (AllAt w w1 (pre ++ [x]) v' (w2.setCell ⟨w.heap.size, 0, none⟩ v')) := by
      refine ⟨hv2, ?_, HG.out.bel.trans hb2, Nat.le_trans HG.out.size hk2.size⟩
      unfold netsL
      rw [List.map_append]
      exact OwnP.push hr2
    have HK := Lib.hid hk2
    have HB := Lib.hid hb2
    obtain ⟨A2, m2, c2, rfl⟩ : ∃ A m c, v' = .slice A m c := by
      rcases HN.out.own.form with ⟨e, _⟩ | ⟨g2, c2, e, _⟩
      · exact ⟨_, _, _, e⟩
      · exact ⟨_, _, _, e⟩
    have hc1 := hv1.cell
    have hf1 := hv1.frozen
    clear hown' hgrow hr2 hk2 hb2 hv1 hv2 hrow hnl
    gi_wp2
    exact ⟨HK.out.from _, HB.out, _, HN.out⟩
  case done =>
    rintro D ys W hD rfl ⟨v, hF⟩ hK
    have q0 := hF.box.cell
    have HF := Lib.hid hF
    have hSZ := HSZ.out
    clear hF
    gi_wp2
    refine ⟨by simp, .inl ⟨_, _, rfl, run_takeDeferred hK, ?_⟩⟩
    have hf2 := HF.out.ownr (grownBy_putObj' _ D (.deferred none)) (fun r e => by cases e; exact ⟨hD, _, hK, rfl⟩) (by omega)
    exact ⟨_, results_tmp rfl _ _ _, ⟨v, rfl, hf2.own⟩, hf2.bel⟩
  case stop =>
    rintro D c pre W hD hpre h _
    exact h.elim
end Go.Proofs.Ytpoognkppnplpaa
