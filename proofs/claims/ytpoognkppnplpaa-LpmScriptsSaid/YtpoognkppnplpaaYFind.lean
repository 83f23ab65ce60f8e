/-
  TABLES: the longest net of an address (the program).
-/
import Derived.Test.YtpoognkppnplpaaYGet
namespace Go.Proofs.Ytpoognkppnplpaa
set_option linter.unusedSimpArgs false
set_option linter.unusedVariables false
open Go.RowKit Go.Shelf
attribute [local go_sem] Oper.semAt_some
def lastE (xs : List Ent) : Ent := xs.getLast?.getD ((0, 0), 0)
def hasE (xs : List Ent) : Bool := !xs.isEmpty
theorem lastE_snoc (xs : List Ent) (x : Ent) : lastE (xs ++ [x]) = x := by unfold lastE; simp
theorem hasE_snoc (xs : List Ent) (x : Ent) : hasE (xs ++ [x]) = true := by unfold hasE; simp
/-- The boxes of a call of Find. -/
structure FdB (w : World) (x : Ent) (is : Bool) (W : World) : Prop where
  b0 : Bx W w.heap.size (.int .u32 0) (.int .i64 0)
  b1 : EB W (w.heap.size + 1) x
  b2 : Boxed W (w.heap.size + 1 + 1) 4 (.bool is)
  bel : Below w.heap.size w W
  size : w.heap.size + 3 ≤ W.heap.size
theorem FdB.start (w : World) : FdB w ((0, 0), 0) false (((w.alloc (.cells #[.int .u32 0, .int .i64 0] 25)).alloc (.cells #[.int .u32 0, .int .i64 0, .int .i64 0] 60)).alloc (.cells #[.bool false] 4)) where
  b0 := ((Bx.new w _ _).alloc _).alloc _
  b1 := by
    have h := heap_alloc_new (w.alloc (.cells #[.int .u32 0, .int .i64 0] 25)) (.cells #[.int .u32 0, .int .i64 0, .int .i64 0] 60)
    rw [World.size_alloc] at h
    unfold EB
    rw [heap_alloc_old _ _ (by simp)]
    exact h
  b2 := by
    have h := Boxed.new ((w.alloc (.cells #[.int .u32 0, .int .i64 0] 25)).alloc (.cells #[.int .u32 0, .int .i64 0, .int .i64 0] 60)) 4 (.bool false)
    simpa using h
  bel := ((((Below.refl _ w).alloc (Nat.le_refl _) _).alloc (by simp) _).alloc (by simp; omega) _)
  size := by simp
theorem FdB.below {w : World} {x : Ent} {is : Bool} {W W' : World} (h : FdB w x is W) (hb : Below W.heap.size W W') : FdB w x is W' where
  b0 := h.b0.keep hb h.b0.lt
  b1 := (hb.block _ h.b1.cells.2.2.2).trans h.b1
  b2 := (hb.block _ h.b2.lt).trans h.b2
  bel := h.bel.trans (hb.mono (by have := h.size; omega))
  size := Nat.le_trans h.size hb.size
theorem FdB.own {w : World} {x : Ent} {is : Bool} {W W' : World} {row : Option Nat} (h : FdB w x is W) (hg : W.grownBy W' row) (hr : ∀ r, row = some r → w.heap.size ≤ r ∧ ∃ o : Obj, W.heap[r]? = some o ∧ o.isCells = false) : FdB w x is W' :=
  ⟨block_own h.b0 hg (fun r e => (hr r e).2), block_own h.b1 hg (fun r e => (hr r e).2), block_own h.b2 hg (fun r e => (hr r e).2), h.bel.grown hg h.bel.size (fun j hj => (hr j hj).1), Nat.le_trans h.size hg.size⟩
theorem FdB.ret {w : World} {x : Ent} {is : Bool} {W : World} (h : FdB w x is W) {D : Nat} (hD : w.heap.size ≤ D) (hK : W.heap[D]? = some (.deferred (some []))) : FdB w x is (W.putObj D (.deferred none)) :=
  h.own (grownBy_putObj' _ D (.deferred none)) (fun r e => by cases e; exact ⟨hD, _, hK, rfl⟩)
theorem FdB.set {w : World} {x : Ent} {is : Bool} {W : World} (h : FdB w x is W) (y : Ent) : FdB w y true ((((W.setCell ⟨w.heap.size + 1, 0, none⟩ (.int .u32 y.1.1)).setCell ⟨w.heap.size + 1, 1, none⟩ (.int .i64 y.1.2)).setCell ⟨w.heap.size + 1, 2, none⟩ (.int .i64 y.2)).setCell ⟨w.heap.size + 1 + 1, 0, none⟩ (.bool true)) := by
  have e0 : ∀ {X : World} {i : Nat} {v : Value}, (X.setCell ⟨w.heap.size + 1, i, none⟩ v).heap[w.heap.size]? = X.heap[w.heap.size]? := fun {X i v} => heap_setCell_other _ _ _ _ (by show w.heap.size ≠ w.heap.size + 1; omega)
  have e2 : ∀ {X : World} {i : Nat} {v : Value}, (X.setCell ⟨w.heap.size + 1, i, none⟩ v).heap[w.heap.size + 1 + 1]? = X.heap[w.heap.size + 1 + 1]? := fun {X i v} => heap_setCell_other _ _ _ _ (by show w.heap.size + 1 + 1 ≠ w.heap.size + 1; omega)
  have s1 := heap_setCell_same W (w.heap.size + 1) 0 _ _ (.int .u32 y.1.1) h.b1
  have s2 := heap_setCell_same _ (w.heap.size + 1) 1 _ _ (.int .i64 y.1.2) s1
  have s3 := heap_setCell_same _ (w.heap.size + 1) 2 _ _ (.int .i64 y.2) s2
  refine ⟨?_, ?_, ?_, ?_, ?_⟩
  · unfold Bx
    rw [heap_setCell_other _ _ _ _ (by show w.heap.size ≠ w.heap.size + 1 + 1; omega), e0, e0, e0]
    exact h.b0
  · unfold EB
    rw [heap_setCell_other _ _ _ _ (by show w.heap.size + 1 ≠ w.heap.size + 1 + 1; omega), s3]
    rfl
  · refine heap_setCell_same _ (w.heap.size + 1 + 1) 0 #[.bool is] _ (.bool true) ?_
    rw [e2, e2, e2]
    exact h.b2
  · exact (((h.bel.setCell (p := ⟨w.heap.size + 1, 0, none⟩) (by show w.heap.size ≤ w.heap.size + 1; omega) _).setCell (p := ⟨w.heap.size + 1, 1, none⟩) (by show w.heap.size ≤ w.heap.size + 1; omega) _).setCell (p := ⟨w.heap.size + 1, 2, none⟩) (by show w.heap.size ≤ w.heap.size + 1; omega) _).setCell (p := ⟨w.heap.size + 1 + 1, 0, none⟩) (by show w.heap.size ≤ w.heap.size + 1 + 1; omega) _
  · simpa using h.size
set_option maxRecDepth 100000 in
set_option maxHeartbeats 8000000 in
theorem find_any (tb base a : Nat) (ha : a < 4294967296) (f : Nat → Nat → Option Nat) (g : Nat → Nat → Option (Nat × Int)) (L : List Ent) (hL : Good L) (hm : Match L g) (w : World) (ht : Tree w base tb f g) (x : Ent) (is : Bool) (hres : (lastE (onL a L), hasE (onL a L)) = (x, is)) :
    Calls Try.prog 17 #[pt (some tb), .int .u32 a] w fun e w' => e = .returned (.tuple #[.agg #[.int .u32 x.1.1, .int .i64 x.1.2], .int .i64 x.2, .bool is]) ∧ Below w.heap.size w w' := by
  refine (callsIn_wide (n := 3)).1 ?_
  have h1 : 1 ≤ 3 := by decide
  refine callsIn_of_wp_marks Try.func17 rfl trivial ?_ rfl
  simp only [Try.ntmps17, List.size_toArray, List.length_cons, List.length_nil, Nat.reduceAdd, Nat.reduceSub, Array.replicate_succ, Array.replicate_zero, List.push_toArray, List.append_toArray, List.nil_append, List.cons_append]
  gi_wp2_with (refine ⟨trivial, ?_⟩; gi_at_call 28; refine (callsIn_wide.2 (on_any _ _ _)).mono ?_; rintro e w1 ⟨rfl, hw1⟩; have HW1 := Lib.hid hw1; clear hw1)
  obtain ⟨W3, hW3⟩ : ∃ W3, ((w.alloc (.cells #[.int .u32 0, .int .i64 0] 25)).alloc (.cells #[.int .u32 0, .int .i64 0, .int .i64 0] 60)).alloc (.cells #[.bool false] 4) = W3 := ⟨_, rfl⟩
  have hs3 : W3.heap.size = w.heap.size + 1 + 1 + 1 := by rw [← hW3]; simp
  have g3 : FdB w ((0, 0), 0) false W3 := by rw [← hW3]; exact FdB.start w
  have hw1 := HW1.out
  rw [hW3] at hw1
  have hst := on_stops w W3 g3.bel tb base a ha f g L hL hm ht w1 hw1
  have hsz : w1.heap.size = w.heap.size + 1 + 1 + 1 + 1 + 1 := by rw [← hw1]; simp [hs3]
  have g1 : FdB w ((0, 0), 0) false w1 := by
    rw [← hw1]
    exact g3.below (((Below.refl _ _).alloc (Nat.le_refl _) _).alloc (by simp) _)
  rw [hs3] at hst
  have HRES := Lib.hid hres
  have HSZ := Lib.hid hsz
  clear hw1 HW1 hW3 g3 ht hres hs3 hsz
  refine wpIn_rangeFunc_ownH rfl h1 (gf := 40) (lb := #[.pointer (some ⟨w.heap.size + 1 + 1 + 1, 0, none⟩), .pointer (some ⟨w.heap.size + 1 + 1 + 1 + 1, 0, none⟩)]) rfl trivial (enters_of Try.func40 (by kernel_rfl) rfl)
    hst KpA.trans (KpA.put (by have := HSZ.out; omega)) (Below.refl _ _) (fun _ => rfl)
    (fun pre W => FdB w (lastE pre) (hasE pre) W ∧ w1.heap.size ≤ W.heap.size)
    (fun _ _ _ => False)
    (fun s W W' row hs hg hr => ⟨hs.1.own hg (fun r e => ⟨by have := (hr r e).1; have := HSZ.out; omega, (hr r e).2⟩), Nat.le_trans hs.2 hg.size⟩)
    (fun c s W W' row hs hg hr => hs)
    ⟨g1, Nat.le_refl _⟩
    (fun x a' W => ∃ k, w1.heap.size ≤ k ∧ EB W k x ∧ a' = { tmps := #[pt (some tb), .int .u32 a, undef, undef, .pointer (some ⟨w.heap.size, 0, none⟩), .int .i64 0, .bool false, .pointer (some ⟨w.heap.size + 1, 0, none⟩), .pointer (some ⟨w.heap.size + 1 + 1, 0, none⟩), .pointer (some ⟨k, 0, none⟩), pt (some tb), .int .u32 a, .func (.func 40) #[] #[.pointer (some ⟨w.heap.size + 1 + 1 + 1, 0, none⟩), .pointer (some ⟨w.heap.size + 1 + 1 + 1 + 1, 0, none⟩)], .agg #[.int .u32 x.1.1, .int .i64 x.1.2, .int .i64 x.2], undef, undef, undef, undef, undef, undef], defers := [] })
    (fun x a' s W W' row hs hg hr => by
      obtain ⟨k, hk, hb, ha⟩ := hs
      exact ⟨k, hk, block_own hb hg (fun r e => (hr r e).2), ha⟩) ?assign ?body ?done ?stop
  case assign =>
    rintro l pre x W K ⟨hG, hsw⟩ hK
    simp only [encE]
    gi_wp2
    exact hK _ _ ((KeepsOthers.alloc _ _).from _) (KpA.alloc (by have := HSZ.out; omega) _) ⟨hG.below ((Below.refl _ _).alloc (Nat.le_refl _) _), by simp; omega⟩ ⟨W.heap.size, hsw, heap_alloc_new W _, rfl⟩
  case body =>
    rintro l pre x a' W hl _ ⟨hG, hsw⟩ ⟨k, hk, hE, rfl⟩ _
    obtain ⟨e0, e1, e2, _⟩ := hE.cells
    obtain ⟨p0, p1, p2, _⟩ := hG.b1.cells
    have q2 := hG.b2.cell
    have z2 := hG.b2.frozen
    have z1 : ∀ i, W.frozen? ⟨w.heap.size + 1, i, none⟩ = false := fun i => frozen_of_row _ _ _ _ _ hG.b1
    have z10 := z1 0
    have z11 := z1 1
    have z12 := z1 2
    have HN := Lib.hid (hG.set x)
    have hk1 := Lib.hid hk
    have hSZ := HSZ.out
    have hk2 : w.heap.size + 1 ≠ k := by omega
    clear hG hE z1
    gi_wp2
    exact ⟨((((KeepsOthers.setCell _ _ _).trans (KeepsOthers.setCell _ _ _)).trans (KeepsOthers.setCell _ _ _)).trans (KeepsOthers.setCell _ _ _)).from _,
      (((KpA.set (by omega) (by omega) _).trans (KpA.set (by omega) (by omega) _)).trans (KpA.set (by omega) (by omega) _)).trans (KpA.set (by omega) (by omega) _), by rw [lastE_snoc, hasE_snoc]; exact HN.out, by simpa using hsw⟩
  case done =>
    rintro D ys W hD hys ⟨hF, hsw⟩ hK
    subst hys
    have hres := HRES.out
    injection hres with hq1 hq2
    rw [hq1, hq2] at hF
    obtain ⟨p0, p1, p2, _⟩ := hF.b1.cells
    obtain ⟨c0, c1, f0, f1⟩ := hF.b0.cells
    have q2 := hF.b2.cell
    have HF := Lib.hid hF
    clear hF hq1 hq2
    gi_wp2
    first | (gi_region) | fail
    gi_wp2
    have hSZ := HSZ.out
    have hK' := ((KeepsOthers.setCell W ⟨w.heap.size, 0, none⟩ (.int .u32 x.1.1)).trans (KeepsOthers.setCell _ ⟨w.heap.size, 1, none⟩ (.int .i64 x.1.2))).same D _ hK rfl
    have hb := HF.out.b0.set (.int .u32 x.1.1) (.int .i64 x.1.2)
    have hb1 : Bx (((W.setCell ⟨w.heap.size, 0, none⟩ (.int .u32 x.1.1)).setCell ⟨w.heap.size, 1, none⟩ (.int .i64 x.1.2)).drew) w.heap.size (.int .u32 x.1.1) (.int .i64 x.1.2) := hb
    have hb2 := block_own hb1 (grownBy_putObj' _ D (.deferred none)) (fun r e => by cases e; exact ⟨_, hK', rfl⟩)
    have hbl := (HF.out.bel.setCell (p := ⟨w.heap.size, 0, none⟩) (Nat.le_refl _) (.int .u32 x.1.1)).setCell (p := ⟨w.heap.size, 1, none⟩) (Nat.le_refl _) (.int .i64 x.1.2)
    have hbl2 := (hbl.drew).trans (belowK_b (w := w) (Nat.le_refl _) _ D _ (.deferred none) (by omega) hK' rfl rfl)
    obtain ⟨r0, r1, _, _⟩ := Bx.cells hb2
    refine ⟨by simp, .inl ⟨_, _, rfl, run_takeDeferred hK', ?_⟩⟩
    refine ⟨.tuple #[.agg #[.int .u32 x.1.1, .int .i64 x.1.2], .int .i64 x.2, .bool is], ?_, rfl, hbl2⟩
    clear hbl hbl2 hb hb1
    simp [results, Try.f17, go_sem, r0, r1]
  case stop =>
    rintro D c pre W hD hpre h _
    exact h.elim
end Go.Proofs.Ytpoognkppnplpaa
