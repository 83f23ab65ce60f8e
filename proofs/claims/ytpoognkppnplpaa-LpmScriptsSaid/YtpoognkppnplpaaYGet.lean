/-
  TABLES: a net's number; the longest net of an address (the program).
-/
import Derived.Test.YtpoognkppnplpaaYOn
namespace Go.Proofs.Ytpoognkppnplpaa
set_option linter.unusedSimpArgs false
set_option linter.unusedVariables false
open Go.RowKit Go.Shelf
attribute [local go_sem] Oper.semAt_some
/-- The three boxes of a call of Get. -/
structure GB (w : World) (n : Nat) (b : Int) (r1 : Int) (r2 : Bool) (W : World) : Prop where
  b0 : Bx W w.heap.size (.int .u32 n) (.int .i64 b)
  b1 : Boxed W (w.heap.size + 1) 3 (.int .i64 r1)
  b2 : Boxed W (w.heap.size + 1 + 1) 4 (.bool r2)
  bel : Below w.heap.size w W
  size : w.heap.size + 3 ≤ W.heap.size
theorem GB.start (w : World) (n : Nat) (b : Int) : GB w n b 0 false (((w.alloc (.cells #[.int .u32 n, .int .i64 b] 25)).alloc (.cells #[.int .i64 0] 3)).alloc (.cells #[.bool false] 4)) where
  b0 := ((Bx.new w _ _).alloc _).alloc _
  b1 := by
    have h := (Boxed.new (w.alloc (.cells #[.int .u32 n, .int .i64 b] 25)) 3 (.int .i64 0)).alloc (.cells #[.bool false] 4)
    simpa using h
  b2 := by
    have h := Boxed.new ((w.alloc (.cells #[.int .u32 n, .int .i64 b] 25)).alloc (.cells #[.int .i64 0] 3)) 4 (.bool false)
    simpa using h
  bel := ((((Below.refl _ w).alloc (Nat.le_refl _) _).alloc (by simp) _).alloc (by simp; omega) _)
  size := by simp
theorem GB.below {w : World} {n : Nat} {b r1 : Int} {r2 : Bool} {W W' : World} (h : GB w n b r1 r2 W) (hb : Below W.heap.size W W') : GB w n b r1 r2 W' where
  b0 := h.b0.keep hb h.b0.lt
  b1 := (hb.block _ h.b1.lt).trans h.b1
  b2 := (hb.block _ h.b2.lt).trans h.b2
  bel := h.bel.trans (hb.mono (by have := h.size; omega))
  size := Nat.le_trans h.size hb.size
theorem block_own {W W' : World} {k : Nat} {cs : Array Value} {t : TypeId} {fr : Nat × Nat} {row : Option Nat} (h : W.heap[k]? = some (.cells cs t fr)) (hg : W.grownBy W' row) (hr : ∀ r, row = some r → ∃ o : Obj, W.heap[r]? = some o ∧ o.isCells = false) : W'.heap[k]? = some (.cells cs t fr) :=
  (hg.block k (Array.getElem?_eq_some_iff.1 h).1 (fun e => by
    obtain ⟨o, ho, hc⟩ := hr k e.symm
    rw [h] at ho
    cases ho
    cases hc)).trans h
theorem GB.own {w : World} {n : Nat} {b r1 : Int} {r2 : Bool} {W W' : World} {row : Option Nat} (h : GB w n b r1 r2 W) (hg : W.grownBy W' row) (hr : ∀ r, row = some r → w.heap.size ≤ r ∧ ∃ o : Obj, W.heap[r]? = some o ∧ o.isCells = false) : GB w n b r1 r2 W' :=
  ⟨block_own h.b0 hg (fun r e => (hr r e).2), block_own h.b1 hg (fun r e => (hr r e).2), block_own h.b2 hg (fun r e => (hr r e).2), h.bel.grown hg h.bel.size (fun j hj => (hr j hj).1), Nat.le_trans h.size hg.size⟩
theorem GB.set {w : World} {n : Nat} {b r1 : Int} {r2 : Bool} {W : World} (h : GB w n b r1 r2 W) (s1 : Int) (s2 : Bool) : GB w n b s1 s2 ((W.setCell ⟨w.heap.size + 1, 0, none⟩ (.int .i64 s1)).setCell ⟨w.heap.size + 1 + 1, 0, none⟩ (.bool s2)) where
  b0 := by
    have h0 := h.b0
    unfold Bx at h0 ⊢
    rw [heap_setCell_other _ _ _ _ (by show w.heap.size ≠ w.heap.size + 1 + 1; omega), heap_setCell_other _ _ _ _ (by show w.heap.size ≠ w.heap.size + 1; omega)]
    exact h0
  b1 := by
    have h1 := heap_setCell_same W (w.heap.size + 1) 0 _ _ (.int .i64 s1) h.b1
    unfold Boxed
    rw [heap_setCell_other _ _ _ _ (by show w.heap.size + 1 ≠ w.heap.size + 1 + 1; omega), h1]
    rfl
  b2 := by
    have h2 : (W.setCell ⟨w.heap.size + 1, 0, none⟩ (.int .i64 s1)).heap[w.heap.size + 1 + 1]? = some (.cells #[.bool r2] 4 (0, 0)) := by
      rw [heap_setCell_other _ _ _ _ (by show w.heap.size + 1 + 1 ≠ w.heap.size + 1; omega)]
      exact h.b2
    exact heap_setCell_same _ (w.heap.size + 1 + 1) 0 _ _ (.bool s2) h2
  bel := (h.bel.setCell (p := ⟨w.heap.size + 1, 0, none⟩) (by show w.heap.size ≤ w.heap.size + 1; omega) _).setCell (p := ⟨w.heap.size + 1 + 1, 0, none⟩) (by show w.heap.size ≤ w.heap.size + 1 + 1; omega) _
  size := by simpa using h.size
theorem GB.cells {w : World} {n : Nat} {b r1 : Int} {r2 : Bool} {W : World} (h : GB w n b r1 r2 W) : W.cell? ⟨w.heap.size + 1, 0, none⟩ = some (.int .i64 r1) ∧ W.cell? ⟨w.heap.size + 1 + 1, 0, none⟩ = some (.bool r2) := ⟨h.b1.cell, h.b2.cell⟩
theorem GB.ret {w : World} {n : Nat} {b r1 : Int} {r2 : Bool} {W : World} (h : GB w n b r1 r2 W) {D : Nat} (hD : w.heap.size ≤ D) (hK : W.heap[D]? = some (.deferred (some []))) : GB w n b r1 r2 (W.putObj D (.deferred none)) :=
  h.own (grownBy_putObj' _ D (.deferred none)) (fun r e => by cases e; exact ⟨hD, _, hK, rfl⟩)
/-- An entry in a box. -/
def EB (W : World) (k : Nat) (x : Ent) : Prop := W.heap[k]? = some (.cells #[.int .u32 x.1.1, .int .i64 x.1.2, .int .i64 x.2] 60 (0, 0))
theorem EB.cells {W : World} {k : Nat} {x : Ent} (h : EB W k x) : W.cell? ⟨k, 0, none⟩ = some (.int .u32 x.1.1) ∧ W.cell? ⟨k, 1, none⟩ = some (.int .i64 x.1.2) ∧ W.cell? ⟨k, 2, none⟩ = some (.int .i64 x.2) ∧ k < W.heap.size := by
  unfold EB at h
  exact ⟨by simp [World.cell?, h], by simp [World.cell?, h], by simp [World.cell?, h], (Array.getElem?_eq_some_iff.1 h).1⟩
/-- What a call of Get left that found its net. -/
def GotE (w : World) (n : Nat) (b : Int) (c : Code) (xs : List Ent) (W : World) : Prop :=
  c = .ret ∧ ∃ pre x, xs = pre ++ [x] ∧ x.1 = (n, b) ∧ GB w n b x.2 true W
theorem onL_get {L : List Ent} (hL : Good L) {n : Nat} {b : Int} {pre : List Ent} {x : Ent} (h : (pre ++ [x]) <+: onL n L) (hx : x.1 = (n, b)) : getL L (n, b) = some x.2 := by
  have hm : x ∈ onL n L := h.subset (by simp)
  have hm2 : x ∈ L := (List.mem_filter.1 hm).1
  refine (getL_mem hL.rises).2 ?_
  rw [← hx]
  exact hm2
theorem onL_none {L : List Ent} (hL : Good L) {n : Nat} {b : Int} (h : ∀ x ∈ onL n L, x.1 ≠ (n, b)) : getL L (n, b) = none := by
  refine getL_none.2 fun x hx e => ?_
  refine h x (List.mem_filter.2 ⟨hx, ?_⟩) e
  have hr := (hL.right x hx).1
  rw [e] at hr ⊢
  obtain ⟨d, he, h1, h2⟩ := right_cases hr
  simp only [Prod.mk.injEq, true_and] at he
  subst he
  exact (in_nat hr n).2 (cut_self h2)
set_option maxRecDepth 100000 in
set_option maxHeartbeats 8000000 in
theorem get_any (tb base n : Nat) (hn : n < 4294967296) (b : Int) (f : Nat → Nat → Option Nat) (g : Nat → Nat → Option (Nat × Int)) (L : List Ent) (hL : Good L) (hm : Match L g) (w : World) (ht : Tree w base tb f g) (r1 : Int) (r2 : Bool) (hres : (match getL L (n, b) with | some m => (m, true) | none => ((0 : Int), false)) = (r1, r2)) :
    Calls Try.prog 11 #[pt (some tb), .agg #[.int .u32 n, .int .i64 b]] w fun e w' => e = .returned (.tuple #[.int .i64 r1, .bool r2]) ∧ Below w.heap.size w w' := by
  refine (callsIn_wide (n := 3)).1 ?_
  have h1 : 1 ≤ 3 := by decide
  refine callsIn_of_wp_marks Try.func11 rfl trivial ?_ rfl
  simp only [Try.ntmps11, List.size_toArray, List.length_cons, List.length_nil, Nat.reduceAdd, Nat.reduceSub, Array.replicate_succ, Array.replicate_zero, List.push_toArray, List.append_toArray, List.nil_append, List.cons_append]
  gi_wp2_with (refine ⟨trivial, ?_⟩; gi_at_call 28; refine (callsIn_wide.2 (on_any _ _ _)).mono ?_; rintro e w1 ⟨rfl, hw1⟩; have HW1 := Lib.hid hw1; clear hw1)
  obtain ⟨W3, hW3⟩ : ∃ W3, ((w.alloc (.cells #[.int .u32 n, .int .i64 b] 25)).alloc (.cells #[.int .i64 0] 3)).alloc (.cells #[.bool false] 4) = W3 := ⟨_, rfl⟩
  have hs3 : W3.heap.size = w.heap.size + 1 + 1 + 1 := by rw [← hW3]; simp
  have g3 : GB w n b 0 false W3 := by rw [← hW3]; exact GB.start w n b
  have hw1 := HW1.out
  rw [hW3] at hw1
  have hst := on_stops w W3 g3.bel tb base n hn f g L hL hm ht w1 hw1
  have hsz : w1.heap.size = w.heap.size + 1 + 1 + 1 + 1 + 1 := by rw [← hw1]; simp [hs3]
  have g1 : GB w n b 0 false w1 := by
    rw [← hw1]
    exact g3.below (((Below.refl _ _).alloc (Nat.le_refl _) _).alloc (by simp) _)
  rw [hs3] at hst
  have HRES := Lib.hid hres
  have HSZ := Lib.hid hsz
  clear hw1 HW1 hW3 g3 ht hres hs3 hsz
  refine wpIn_rangeFunc_ownH rfl h1 (gf := 40) (lb := #[.pointer (some ⟨w.heap.size + 1 + 1 + 1, 0, none⟩), .pointer (some ⟨w.heap.size + 1 + 1 + 1 + 1, 0, none⟩)]) rfl trivial (enters_of Try.func40 (by kernel_rfl) rfl)
    hst KpA.trans (KpA.put (by have := HSZ.out; omega)) (Below.refl _ _) (fun _ => rfl)
    (fun pre W => (∀ x ∈ pre, x.1 ≠ (n, b)) ∧ GB w n b 0 false W ∧ w1.heap.size ≤ W.heap.size)
    (fun c xs W => GotE w n b c xs W)
    (fun s W W' row hs hg hr => ⟨hs.1, hs.2.1.own hg (fun r e => ⟨by have := (hr r e).1; have := HSZ.out; omega, (hr r e).2⟩), Nat.le_trans hs.2.2 hg.size⟩)
    (fun c s W W' row hs hg hr => by
      obtain ⟨hc, pre, x, e, hx, hb⟩ := hs
      exact ⟨hc, pre, x, e, hx, hb.own hg (fun r e => ⟨by have := (hr r e).1; have := HSZ.out; omega, (hr r e).2⟩)⟩)
    ⟨by simp, g1, Nat.le_refl _⟩
    (fun x a' W => ∃ k, w1.heap.size ≤ k ∧ EB W k x ∧ a' = { tmps := #[pt (some tb), .agg #[.int .u32 n, .int .i64 b], undef, .pointer (some ⟨w.heap.size, 0, none⟩), .pointer (some ⟨w.heap.size + 1, 0, none⟩), .pointer (some ⟨w.heap.size + 1 + 1, 0, none⟩), .pointer (some ⟨k, 0, none⟩), pt (some tb), .pointer (some ⟨w.heap.size, 0, none⟩), .int .u32 n, .func (.func 40) #[] #[.pointer (some ⟨w.heap.size + 1 + 1 + 1, 0, none⟩), .pointer (some ⟨w.heap.size + 1 + 1 + 1 + 1, 0, none⟩)], .agg #[.int .u32 x.1.1, .int .i64 x.1.2, .int .i64 x.2], undef, undef, undef, undef, undef, undef], defers := [] })
    (fun x a' s W W' row hs hg hr => by
      obtain ⟨k, hk, hb, ha⟩ := hs
      exact ⟨k, hk, block_own hb hg (fun r e => (hr r e).2), ha⟩) ?assign ?body ?done ?stop
  case assign =>
    rintro l pre x W K ⟨hi, hG, hsw⟩ hK
    simp only [encE]
    gi_wp2
    exact hK _ _ ((KeepsOthers.alloc _ _).from _) (KpA.alloc (by have := HSZ.out; omega) _) ⟨hi, hG.below ((Below.refl _ _).alloc (Nat.le_refl _) _), by simp; omega⟩ ⟨W.heap.size, hsw, heap_alloc_new W _, rfl⟩
  case body =>
    rintro l pre x a' W hl _ ⟨hi, hG, hsw⟩ ⟨k, hk, hE, rfl⟩ _
    obtain ⟨e0, e1, e2, _⟩ := hE.cells
    obtain ⟨c0, c1, _, _⟩ := hG.b0.cells
    obtain ⟨q1, q2⟩ := hG.cells
    have z1 := hG.b1.frozen
    have z2 := hG.b2.frozen
    have hI := Lib.hid hi
    have HG := Lib.hid hG
    clear hi hE hG
    obtain ⟨⟨xn, xb⟩, xv⟩ := x
    simp only at e0 e1 e2 ⊢
    by_cases hx : xn = n ∧ xb = b
    · obtain ⟨rfl, rfl⟩ := hx
      gi_wp2
      exact ⟨((KeepsOthers.setCell _ _ _).trans (KeepsOthers.setCell _ _ _)).from _, rfl, pre, _, rfl, rfl, HG.out.set _ _⟩
    · have HX := Lib.hid hx
      clear hx
      have HN : Hid (∀ x ∈ pre ++ [((xn, xb), xv)], x.1 ≠ (n, b)) := fun x hx e => by
        rcases List.mem_append.1 hx with h | h
        · exact hI.out x h e
        · rw [List.mem_singleton] at h
          subst h
          exact HX.out ⟨congrArg Prod.fst e, congrArg Prod.snd e⟩
      gi_wp2
      all_goals first
        | exact ⟨(KeepsOthers.refl _).from _, KpA.refl _ _ _, HN.out, HG.out, hsw⟩
        | exact absurd ⟨by omega, by assumption⟩ HX.out
  case done =>
    rintro D ys W hD hys ⟨hnot, hF, _⟩ hK
    have hres := HRES.out
    rw [onL_none hL (fun x hx => hnot x (by rw [hys]; exact hx))] at hres
    injection hres with hq1 hq2
    subst hq1 hq2
    have HF := Lib.hid hF
    obtain ⟨q1, q2⟩ := hF.cells
    have z1 := hF.b1.frozen
    have z2 := hF.b2.frozen
    have hD2 := HSZ.out
    clear hF hnot hys
    gi_wp2
    have hK' := ((KeepsOthers.setCell W ⟨w.heap.size + 1, 0, none⟩ (.int .i64 0)).trans (KeepsOthers.setCell _ ⟨w.heap.size + 1 + 1, 0, none⟩ (.bool false))).same D _ hK rfl
    have hG := (HF.out.set 0 false).ret (by omega) hK'
    obtain ⟨r1, r2⟩ := hG.cells
    refine ⟨by simp, .inl ⟨_, _, rfl, run_takeDeferred hK', ?_⟩⟩
    refine ⟨.tuple #[.int .i64 0, .bool false], ?_, rfl, hG.bel⟩
    simp [results, Try.f11, go_sem, r1, r2]
  case stop =>
    rintro D c pre W hD hpre ⟨rfl, ps, x, rfl, hx, hG⟩ hK
    have hres := HRES.out
    rw [onL_get hL hpre hx] at hres
    injection hres with hq1 hq2
    subst hq1 hq2
    have hD2 := HSZ.out
    gi_wp2
    have hG := hG.ret (by omega) hK
    obtain ⟨r1, r2⟩ := hG.cells
    refine ⟨by simp, .inl ⟨_, _, rfl, run_takeDeferred hK, ?_⟩⟩
    refine ⟨.tuple #[.int .i64 x.2, .bool true], ?_, rfl, hG.bel⟩
    simp [results, Try.f11, go_sem, r1, r2]
end Go.Proofs.Ytpoognkppnplpaa
