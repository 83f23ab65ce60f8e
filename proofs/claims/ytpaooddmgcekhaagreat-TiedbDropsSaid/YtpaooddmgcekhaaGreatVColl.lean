/-
  THE LIBRARY'S slices.AppendSeq, slices.Collect at the ids of the base's map.
-/
import Derived.Test.YtpaooddmgcekhaaGreatVKeys
import Derived.RangeFuncBox
import Derived.Maps.AppendAt
namespace Go.Proofs.YtpaooddmgcekhaaGreat.ti
set_option linter.unusedSimpArgs false
set_option linter.unusedVariables false
open Go.RowKit Go.Shelf
attribute [local go_sem] Oper.semAt_some
theorem block_own {W W' : World} {k : Nat} {cs : Array Value} {t : TypeId} {fr : Nat × Nat} {row : Option Nat} (h : W.heap[k]? = some (.cells cs t fr)) (hg : W.grownBy W' row) (hr : ∀ r, row = some r → ∃ o : Obj, W.heap[r]? = some o ∧ o.isCells = false) : W'.heap[k]? = some (.cells cs t fr) :=
  (hg.block k (Array.getElem?_eq_some_iff.1 h).1 (fun e => by
    obtain ⟨o, ho, hc⟩ := hr k e.symm
    rw [h] at ho
    cases ho
    cases hc)).trans h
theorem own_not_walk {W : World} {base size n : Nat} {e : TypeId} {v : Value} {xs : List Value} (h : W.ownsRow base e size v n xs) : ∀ (j : Nat) (o : Obj), v.ownBlock = some j → W.heap[j]? = some o → o.isWalk = false := fun j o ej ho => by
  rcases h.2 with ⟨e1, _⟩ | ⟨g, cap, cur, e1, _, hh, _⟩
  · rw [e1] at ej; cases ej
  · rw [e1] at ej
    have : g = j := by cases ej; rfl
    subst this
    rw [hh] at ho
    cases ho
    rfl
def encI (x : IdV) : List Value := [.int .i64 x.1.d, .int .i64 x.1.o, .int .i64 x.1.k, .int .i64 x.1.n]
theorem kindV : KindE 65 33 4 32 (.agg #[.int .i64 0, .int .i64 0, .int .i64 0, .int .i64 0]) encI := ⟨by kernel_rfl, by kernel_rfl, rfl, by decide, fun _ => rfl, fun x u hu => by simp [encI] at hu; rcases hu with rfl | rfl | rfl | rfl <;> rfl⟩
theorem cell_four_new (W : World) (p : IdV) : ∀ (j : Nat) (u : Value), (encI p)[j]? = some u → (W.alloc (.cells #[.int .i64 p.1.d, .int .i64 p.1.o, .int .i64 p.1.k, .int .i64 p.1.n] 33)).cell? ((⟨W.heap.size, 0, none⟩ : Addr).add j) = some u := fun j u hu => by
  have hx := heap_alloc_new W (.cells #[.int .i64 p.1.d, .int .i64 p.1.o, .int .i64 p.1.k, .int .i64 p.1.n] 33)
  have := range_list (cs := encI p) hx j u hu
  rw [add_off]
  simpa using this
/-- Where the loop of AppendSeq stands. -/
structure ApAt (w w1 : World) (pre : List IdV) (v : Value) (W : World) : Prop where
  box : Boxed W w.heap.size 65 v
  own : OwnE 33 4 encI W w.heap.size v pre
  bel : Below w.heap.size w W
  size : w1.heap.size ≤ W.heap.size
theorem ApAt.ownr {w w1 : World} {pre : List IdV} {v : Value} {W W' : World} {row : Option Nat} (h : ApAt w w1 pre v W) (hg : W.grownBy W' row) (hr : ∀ r, row = some r → w1.heap.size ≤ r ∧ ∃ o : Obj, W.heap[r]? = some o ∧ o.isCells = false) (hw : w.heap.size ≤ w1.heap.size) : ApAt w w1 pre v W' := by
  refine ⟨block_own h.box hg (fun r e => (hr r e).2), ?_, h.bel.grown hg h.bel.size (fun j hj => by have := (hr j hj).1; omega), Nat.le_trans h.size hg.size⟩
  refine World.ownsRow.kept h.own hg ?_
  cases row with
  | none =>
    cases hv : v.ownBlock with
    | none => exact .inl rfl
    | some g => exact .inr (by simp)
  | some r =>
    right
    intro e
    obtain ⟨_, o, ho, hc⟩ := hr r rfl
    obtain ⟨cur, hcur⟩ : ∃ cs t fr, W.heap[r]? = some (.cells cs t fr) := by
      rcases h.own.2 with ⟨e1, _⟩ | ⟨g, cap, cur, e1, _, hh, _⟩
      · rw [e1] at e; cases e
      · rw [e1] at e
        have : g = r := by cases e; rfl
        subst this
        exact ⟨_, _, _, hh⟩
    obtain ⟨t, fr, hcur⟩ := hcur
    rw [hcur] at ho
    cases ho
    cases hc
set_option maxRecDepth 100000 in
set_option maxHeartbeats 8000000 in
theorem appendseq_any (n : Nat) (hn : 3 ≤ n) (b Bm : Nat) (L : List IdV) (hlen : L.length ≤ 4000) (w : World) (hBm : Bm < w.heap.size) (hm : w.cell? ⟨Bm, 0, none⟩ = some (.map (some b))) (hown : MapV w b L) :
    CallsIn Fence.wide n Tryz.prog 82 #[.slice none 0 0, .func (.func 63) #[] #[.pointer (some ⟨Bm, 0, none⟩)]] w
      fun e w' => (∃ v xs, e = .returned v ∧ xs.Perm L ∧ OwnE 33 4 encI w' w.heap.size v xs) ∧ Below w.heap.size w w' := by
  have h1 : 1 ≤ n := by omega
  refine callsIn_of_wp_marks Tryz.func82 rfl trivial ?_ rfl
  simp only [Tryz.ntmps82, List.size_toArray, List.length_cons, List.length_nil, Nat.reduceAdd, Nat.reduceSub, Array.replicate_succ, Array.replicate_zero, List.push_toArray, List.append_toArray, List.nil_append, List.cons_append]
  gi_wp2
  obtain ⟨w1, hW3⟩ : ∃ W3, w.alloc (.cells #[.slice none 0 0] 65) = W3 := ⟨_, rfl⟩
  have hs3 : w1.heap.size = w.heap.size + 1 := by rw [← hW3]; simp
  have b3 : Below w.heap.size w w1 := by rw [← hW3]; exact (Below.refl _ _).alloc (Nat.le_refl _) _
  have hst : SeqStopsK Fence.wide (n - 1) Tryz.prog 63 #[.pointer (some ⟨Bm, 0, none⟩)] encsI KeepsWalks (fun xs => xs.Perm L) (fun pre => ∀ x ∈ pre, x ∈ L) L.length w1 := fun l J Jx W hW hJ _ hY h0 => by
    have hW2 := b3.trans (hW.mono b3.size)
    exact keys_in (n - 1) (by omega) l Bm b L J Jx hY W hJ ((hW2.cell (p := ⟨Bm, 0, none⟩) hBm).trans hm) (hown.same (hW2.block _ hown.lt)) h0
  have g1 : ApAt w w1 [] (.slice none 0 0) w1 := by
    refine ⟨?_, OwnE.nil _ _, b3, Nat.le_refl _⟩
    rw [← hW3]; exact Boxed.new w 65 (.slice none 0 0)
  obtain ⟨i0, hi, hz0, hz1, hz2⟩ := info_parts kindV.info
  have HSZ := Lib.hid hs3
  rw [hW3]
  clear hW3 b3 hs3 hm hown
  refine wpIn_rangeFunc_ownH rfl h1 (gf := 63) (lb := #[.pointer (some ⟨Bm, 0, none⟩)]) rfl trivial (enters_of Tryz.func63 (by kernel_rfl) rfl)
    hst KeepsWalks.trans (fun W l o o' _ h _ hw => KeepsWalks.putObj o' h hw) (Below.refl _ _) (fun _ => rfl)
    (fun pre W => ∃ v, ApAt w w1 pre v W)
    (fun _ _ _ => False)
    (fun s W W' row hs hg hr => by
      obtain ⟨v, hv⟩ := hs
      exact ⟨v, hv.ownr hg (fun r e => hr r e) (by have := HSZ.out; omega)⟩)
    (fun c s W W' row hs hg hr => hs)
    ⟨_, g1⟩
    (fun x a' W => ∃ k, w1.heap.size ≤ k ∧ W.heap[k]? = some (.cells #[.int .i64 x.1.d, .int .i64 x.1.o, .int .i64 x.1.k, .int .i64 x.1.n] 33 (0, 0)) ∧ a' = { tmps := #[.slice none 0 0, .func (.func 63) #[] #[.pointer (some ⟨Bm, 0, none⟩)], .pointer (some ⟨w.heap.size, 0, none⟩), undef, .slice none 0 0, .pointer (some ⟨k, 0, none⟩), .func (.func 63) #[] #[.pointer (some ⟨Bm, 0, none⟩)], .agg #[.int .i64 x.1.d, .int .i64 x.1.o, .int .i64 x.1.k, .int .i64 x.1.n], undef, undef, undef, undef, undef], defers := [] })
    (fun x a' s W W' row hs hg hr => by
      obtain ⟨k, hk, hb, ha⟩ := hs
      exact ⟨k, hk, block_own hb hg (fun r e => (hr r e).2), ha⟩) ?assign ?body ?done ?stop
  case assign =>
    rintro l pre x W K ⟨v, hG⟩ hK
    simp only [encsI]
    gi_wp2
    have hsw := hG.size
    have hw := hG.bel.size
    exact hK _ _ ((KeepsOthers.alloc _ _).from _) (KeepsWalks.alloc _ _) ⟨v, hG.box.alloc _, hG.own.below ((Below.refl _ _).alloc (Nat.le_refl _) _), hG.bel.alloc hw _, by simp; omega⟩ ⟨W.heap.size, hsw, heap_alloc_new W _, rfl⟩
  case body =>
    rintro l pre x a' W hl _ ⟨v, hG⟩ ⟨k, hk, hE, rfl⟩ hpl
    have e0 : W.cell? ⟨k, 0, none⟩ = some (.int .i64 x.1.d) := by simp [World.cell?, hE]
    have e1 : W.cell? ⟨k, 1, none⟩ = some (.int .i64 x.1.o) := by simp [World.cell?, hE]
    have e2 : W.cell? ⟨k, 2, none⟩ = some (.int .i64 x.1.k) := by simp [World.cell?, hE]
    have e3 : W.cell? ⟨k, 3, none⟩ = some (.int .i64 x.1.n) := by simp [World.cell?, hE]
    have q0 := hG.box.cell
    have HG := Lib.hid hG
    have hbs := hG.bel.size
    clear hG hE
    gi_wp2_with (gi_at_builtin; skip; refine Hid.out ?_)
    refine Lib.hid ?_
    have hrow := HG.out.own
    unfold OwnE at hrow
    refine wpListIn_append_own _ rfl _ _ 65 rfl w.heap.size 33 i0 (.agg #[.int .i64 0, .int .i64 0, .int .i64 0, .int .i64 0]) 4 32 Tryz.underlying65 hi hz0 hz1 hz2 rfl (by decide) _ _ _ rfl (hrow.alloc _) ⟨W.heap.size, 0, none⟩ 1 1 (encI x) rfl rfl (cell_four_new W x) (kindV.one x) (by unfold maxLen; omega) (by omega) (by simp; omega) ?_
    intro v' w2 hown' hgrow _
    obtain ⟨hv1, hv2, hr2, hk2, hb2⟩ := HG.out.box.appended (by decide) hrow hbs (Nat.le_refl _) hown' hgrow
    have HN : Hid (ApAt w w1 (pre ++ [x]) v' (w2.setCell ⟨w.heap.size, 0, none⟩ v')) := by
      refine ⟨hv2, OwnE.snoc hr2, HG.out.bel.trans hb2, Nat.le_trans HG.out.size hk2.size⟩
    have HKW : Hid (KeepsWalks W (w2.setCell ⟨w.heap.size, 0, none⟩ v')) := ((KeepsWalks.alloc _ _).trans (KeepsWalks.of_grownBy hgrow (own_not_walk (hrow.alloc _)))).trans (KeepsWalks.setCell _ _ _)
    have HK := Lib.hid hk2
    obtain ⟨A2, m2, c2, rfl⟩ := HN.out.own.form2
    have hc1 := hv1.cell
    have hf1 := hv1.frozen
    clear hown' hgrow hr2 hk2 hb2 hv1 hv2 hrow
    gi_wp2
    exact ⟨HK.out.from _, HKW.out, _, HN.out⟩
  case done =>
    rintro D ys W hD hS ⟨v, hF⟩ hK
    have q0 := hF.box.cell
    have HF := Lib.hid hF
    have hSZ := HSZ.out
    clear hF
    gi_wp2
    refine ⟨by simp, .inl ⟨_, _, rfl, run_takeDeferred hK, ?_⟩⟩
    have hf2 := HF.out.ownr (grownBy_putObj' _ D (.deferred none)) (fun r e => by cases e; exact ⟨hD, _, hK, rfl⟩) (by omega)
    exact ⟨_, results_tmp rfl _ _ _, ⟨v, ys, rfl, hS, hf2.own⟩, hf2.bel⟩
  case stop =>
    rintro D c pre W hD hpre h _
    exact h.elim
set_option maxRecDepth 100000 in
set_option maxHeartbeats 1000000 in
theorem collect_any (n : Nat) (hn : 4 ≤ n) (b Bm : Nat) (L : List IdV) (hlen : L.length ≤ 4000) (w : World) (hBm : Bm < w.heap.size) (hm : w.cell? ⟨Bm, 0, none⟩ = some (.map (some b))) (hown : MapV w b L) :
    CallsIn Fence.wide n Tryz.prog 62 #[.func (.func 63) #[] #[.pointer (some ⟨Bm, 0, none⟩)]] w
      fun e w' => (∃ v xs, e = .returned v ∧ xs.Perm L ∧ OwnE 33 4 encI w' w.heap.size v xs) ∧ Below w.heap.size w w' := by
  refine callsIn_of_wp Tryz.func62 rfl trivial ?_ rfl
  simp only [Tryz.ntmps62, List.size_toArray, List.length_cons, List.length_nil, Nat.reduceAdd, Nat.reduceSub, Array.replicate_succ, Array.replicate_zero, List.push_toArray, List.append_toArray, List.nil_append, List.cons_append]
  have ha := appendseq_any (n - 1) (by omega) b Bm L hlen w hBm hm hown
  clear hm hown
  gi_wp2
  refine ⟨trivial, fun h => (by cases h), ?_⟩
  refine ha.mono ?_
  rintro e w1 ⟨⟨v, xs, rfl, hp, ho⟩, hb⟩
  gi_wp2
  go_ret
  exact ⟨⟨v, xs, rfl, hp, ho⟩, hb⟩
end Go.Proofs.YtpaooddmgcekhaaGreat.ti
