/-
  THE PROGRAM's Find, walked: the first field of an Id that is not within another one.
-/
import Derived.Test.YteelknmafnoccaaFields
namespace Go.Proofs.Yteelknmafnoccaa
open Go.RowKit Go.Shelf
attribute [local go_sem] Oper.semAt_some
set_option linter.unusedVariables false

/-- Has the item at a place that Id? -/
def idAt (l : List It) (id : Int) (f : Nat × Nat) : Bool := match l[f.1]? with
  | none => false
  | some x => x.id == id
/-- The first field of that Id. -/
def pfindS (l : List It) (id : Int) : Int × Int × Bool :=
  if rightB l = true then match (fieldsL l).find? (idAt l id) with
    | none => (0, 0, false)
    | some f => (f.1, f.2, true)
  else (0, 0, false)

theorem boxed_below {W W' : World} {B n₀ : Nat} {t : TypeId} {v : Value} (h : Boxed W B t v) (hb : Below n₀ W W') (hB : B < n₀) : Boxed W' B t v := (hb.block B hB).trans h

/-- The five boxes of a call of Find: the list, the Id, and the three results. -/
structure FB (w : World) (sl : Value) (id : Int) (r1 r2 : Int) (r3 : Bool) (W : World) : Prop where
  b0 : Boxed W w.heap.size 22 sl
  b1 : Boxed W (w.heap.size + 1) 3 (.int .i64 id)
  b2 : Boxed W (w.heap.size + 1 + 1) 3 (.int .i64 r1)
  b3 : Boxed W (w.heap.size + 1 + 1 + 1) 3 (.int .i64 r2)
  b4 : Boxed W (w.heap.size + 1 + 1 + 1 + 1) 4 (.bool r3)
  bel : Below w.heap.size w W
  size : w.heap.size + 5 ≤ W.heap.size
theorem FB.start (w : World) (sl : Value) (id : Int) : FB w sl id 0 0 false (((((w.alloc (.cells #[sl] 22)).alloc (.cells #[.int .i64 id] 3)).alloc (.cells #[.int .i64 0] 3)).alloc (.cells #[.int .i64 0] 3)).alloc (.cells #[.bool false] 4)) where
  b0 := ((((Boxed.new w 22 sl).alloc _).alloc _).alloc _).alloc _
  b1 := by
    have h := (((Boxed.new (w.alloc (.cells #[sl] 22)) 3 (.int .i64 id)).alloc (.cells #[.int .i64 0] 3)).alloc (.cells #[.int .i64 0] 3)).alloc (.cells #[.bool false] 4)
    simpa using h
  b2 := by
    have h := ((Boxed.new ((w.alloc (.cells #[sl] 22)).alloc (.cells #[.int .i64 id] 3)) 3 (.int .i64 0)).alloc (.cells #[.int .i64 0] 3)).alloc (.cells #[.bool false] 4)
    simpa using h
  b3 := by
    have h := (Boxed.new (((w.alloc (.cells #[sl] 22)).alloc (.cells #[.int .i64 id] 3)).alloc (.cells #[.int .i64 0] 3)) 3 (.int .i64 0)).alloc (.cells #[.bool false] 4)
    simpa using h
  b4 := by
    have h := Boxed.new ((((w.alloc (.cells #[sl] 22)).alloc (.cells #[.int .i64 id] 3)).alloc (.cells #[.int .i64 0] 3)).alloc (.cells #[.int .i64 0] 3)) 4 (.bool false)
    simpa using h
  bel := ((((((Below.refl _ w).alloc (Nat.le_refl _) _).alloc (by simp) _).alloc (by simp; omega) _).alloc (by simp; omega) _).alloc (by simp; omega) _)
  size := by simp
theorem FB.below {w : World} {sl : Value} {id r1 r2 : Int} {r3 : Bool} {W W' : World} (h : FB w sl id r1 r2 r3 W) (hb : Below W.heap.size W W') : FB w sl id r1 r2 r3 W' where
  b0 := boxed_below h.b0 hb h.b0.lt
  b1 := boxed_below h.b1 hb h.b1.lt
  b2 := boxed_below h.b2 hb h.b2.lt
  b3 := boxed_below h.b3 hb h.b3.lt
  b4 := boxed_below h.b4 hb h.b4.lt
  bel := h.bel.trans (hb.mono (by have := h.size; omega))
  size := Nat.le_trans h.size hb.size

set_option maxRecDepth 100000 in
set_option maxHeartbeats 2000000 in
theorem pfind_not (a : Option Addr) (cap : Nat) (l : List It) (id : Int) (hlen : l.length ≤ 140737488351232) (w : World) (hr : RdI w.heap.size w a l) (hR : rightB l = false) :
    Calls Try.prog 19 #[.slice a l.length cap, .int .i64 id] w fun e w' => e = .returned (.tuple #[.int .i64 0, .int .i64 0, .bool false]) ∧ Below w.heap.size w w' := by
  refine (callsIn_wide (n := 3)).1 ?_
  have h1 : 1 ≤ 3 := by decide
  refine callsIn_of_wp_marks Try.func19 rfl trivial ?_ rfl
  simp only [Try.ntmps19, List.size_toArray, List.length_cons, List.length_nil, Nat.reduceAdd, Nat.reduceSub, Array.replicate_succ, Array.replicate_zero, List.push_toArray, List.append_toArray, List.nil_append, List.cons_append]
  have hright : ∀ W, Below w.heap.size w W → Calls Try.prog 14 #[.slice a l.length cap] W fun e w' => e = .returned (.bool false) ∧ Below W.heap.size W w' := fun W hW => by
    have h := pright_any a cap l hlen W ((hr.below hW).mono hW.size)
    rwa [hR] at h
  have HRT := Lib.hid hright
  clear hright hr hR
  gi_wp2_with (refine ⟨trivial, ?_⟩; gi_at_call 14; refine (callsIn_wide.2 (HRT.out _ (FB.start w (.slice a l.length cap) id).bel)).mono ?_; rintro e w1 ⟨rfl, hb1⟩; have F1 := Lib.hid ((FB.start w (.slice a l.length cap) id).below hb1); have q2 := F1.out.b2.cell; have q3 := F1.out.b3.cell; have q4 := F1.out.b4.cell; have z2 := F1.out.b2.frozen; have z3 := F1.out.b3.frozen; have z4 := F1.out.b4.frozen; clear hb1)
  obtain ⟨s0, s1, s2, s3, s4⟩ := three_set q2 q3 q4 (.int .i64 0) (.int .i64 0) (.bool false)
  refine ⟨.tuple #[.int .i64 0, .int .i64 0, .bool false], ?_, rfl, F1.out.bel.trans (s4.mono (by omega))⟩
  simp [results, Try.f19, go_sem, s0, s1, s2]

theorem FB.own {w : World} {sl : Value} {id r1 r2 : Int} {r3 : Bool} {W W' : World} {row : Option Nat} (h : FB w sl id r1 r2 r3 W) (hg : W.grownBy W' row) (hr : ∀ r, row = some r → w.heap.size ≤ r ∧ ∃ o : Obj, W.heap[r]? = some o ∧ o.isCells = false) : FB w sl id r1 r2 r3 W' := by
  have ne : ∀ {B : Nat} {t : TypeId} {v : Value}, Boxed W B t v → some B ≠ row := fun {B t v} hb e => by
    obtain ⟨_, o, ho, hc⟩ := hr B e.symm
    rw [show W.heap[B]? = _ from hb] at ho
    injection ho with ho
    subst ho
    cases hc
  exact ⟨h.b0.kept hg (ne h.b0), h.b1.kept hg (ne h.b1), h.b2.kept hg (ne h.b2), h.b3.kept hg (ne h.b3), h.b4.kept hg (ne h.b4), h.bel.grown hg h.bel.size (fun j hj => (hr j hj).1), Nat.le_trans h.size hg.size⟩
theorem FB.drew {w : World} {sl : Value} {id r1 r2 : Int} {r3 : Bool} {W : World} (h : FB w sl id r1 r2 r3 W) : FB w sl id r1 r2 r3 W.drew := ⟨h.b0, h.b1, h.b2, h.b3, h.b4, h.bel.drew, h.size⟩
theorem find_none {n : Nat} {l : List It} {id : Int} {ys : List (Fld n)} (hy : Fld.raw ys = fieldsL l) (h : ∀ f ∈ ys, idAt l id (f.fst, f.snd) = false) : (fieldsL l).find? (idAt l id) = none := by
  rw [← hy, List.find?_eq_none]
  intro f hf
  obtain ⟨g, hg, rfl⟩ := List.mem_map.1 hf
  simp [h g hg]
theorem find_some {n : Nat} {l : List It} {id : Int} {pre : List (Fld n)} {x : Fld n} (hy : Fld.raw (pre ++ [x]) <+: fieldsL l) (h : ∀ f ∈ pre, idAt l id (f.fst, f.snd) = false) (hx : idAt l id (x.fst, x.snd) = true) : (fieldsL l).find? (idAt l id) = some (x.fst, x.snd) := by
  obtain ⟨t, ht⟩ := hy
  rw [← ht, Fld.raw_snoc, List.append_assoc, List.find?_append]
  have h0 : (Fld.raw pre).find? (idAt l id) = none := by
    rw [List.find?_eq_none]
    intro f hf
    obtain ⟨g, hg, rfl⟩ := List.mem_map.1 hf
    simp [h g hg]
  rw [h0]
  simp [hx]
/-- A field of that Id was found, its places stored. -/
def FoundF (w : World) (l : List It) (id : Int) (c : Code) (xs : List (Fld l.length)) (W : World) : Prop :=
  c = .ret ∧ ∃ pre x, xs = pre ++ [x] ∧ (∀ f ∈ pre, idAt l id (f.fst, f.snd) = false) ∧ idAt l id (x.fst, x.snd) = true ∧
    W.cell? ⟨w.heap.size + 1 + 1, 0, none⟩ = some (.int .i64 (x.fst : Nat)) ∧ W.cell? ⟨w.heap.size + 1 + 1 + 1, 0, none⟩ = some (.int .i64 (x.snd : Nat)) ∧ W.cell? ⟨w.heap.size + 1 + 1 + 1 + 1, 0, none⟩ = some (.bool true) ∧ Below w.heap.size w W

set_option maxRecDepth 100000 in
set_option maxHeartbeats 8000000 in
theorem pfind_yes (a : Option Addr) (cap : Nat) (l : List It) (id : Int) (hlen : l.length ≤ 140737488351232) (w : World) (hr : RdI w.heap.size w a l) (hR : rightB l = true) (r1 r2 : Int) (r3 : Bool) (hres : pfindS l id = (r1, r2, r3)) :
    Calls Try.prog 19 #[.slice a l.length cap, .int .i64 id] w fun e w' => e = .returned (.tuple #[.int .i64 r1, .int .i64 r2, .bool r3]) ∧ Below w.heap.size w w' := by
  refine (callsIn_wide (n := 3)).1 ?_
  have h1 : 1 ≤ 3 := by decide
  refine callsIn_of_wp_marks Try.func19 rfl trivial ?_ rfl
  simp only [Try.ntmps19, List.size_toArray, List.length_cons, List.length_nil, Nat.reduceAdd, Nat.reduceSub, Array.replicate_succ, Array.replicate_zero, List.push_toArray, List.append_toArray, List.nil_append, List.cons_append]
  have hright : ∀ W, Below w.heap.size w W → Calls Try.prog 14 #[.slice a l.length cap] W fun e w' => e = .returned (.bool true) ∧ Below W.heap.size W w' := fun W hW => by
    have h := pright_any a cap l hlen W ((hr.below hW).mono hW.size)
    rwa [hR] at h
  unfold pfindS at hres
  rw [if_pos hR] at hres
  have HRT := Lib.hid hright
  have HRES := Lib.hid hres
  have HRD := Lib.hid hr
  clear hright hr hR hres
  gi_wp2_with (first
    | (refine ⟨trivial, ?_⟩; gi_at_call 14; refine (callsIn_wide.2 (HRT.out _ (FB.start w (.slice a l.length cap) id).bel)).mono ?_; rintro e w1 ⟨rfl, hb1⟩; have F1 := Lib.hid ((FB.start w (.slice a l.length cap) id).below hb1); have q0 := F1.out.b0.cell; clear hb1)
    | (refine ⟨trivial, ?_⟩; gi_at_call 31; refine (callsIn_wide.2 (fields_any _ _ _ _)).mono ?_; rintro e w' ⟨rfl, rfl⟩))
  have F2 := Lib.hid (F1.out.below ((Below.refl w1.heap.size w1).alloc (Nat.le_refl _) (.cells #[.slice a l.length cap] 22)))
  have bx := (Boxed.new w1 22 (.slice a l.length cap)).cell
  obtain ⟨W0, hW0⟩ : ∃ W0, w1.alloc (.cells #[.slice a l.length cap] 22) = W0 := ⟨_, rfl⟩
  have hs0 : w1.heap.size < W0.heap.size := by rw [← hW0]; simp
  rw [hW0] at F2 bx ⊢
  clear hW0 q0
  have hsz := F2.out.size
  have hs1 := F1.out.size
  refine wpIn_rangeFunc_ownG rfl h1 (gf := 41) (lb := #[.pointer (some ⟨w1.heap.size, 0, none⟩)]) rfl trivial (enters_of Try.func41 (by kernel_rfl) rfl)
    (flds_stops w1.heap.size w.heap.size a cap l hlen W0 hs0 (by omega) bx (HRD.out.below F2.out.bel)) belowK_t (belowK_b (by omega)) (Below.refl _ _) (fun _ => rfl)
    (fun pre W => (∀ f ∈ pre, idAt l id (f.fst, f.snd) = false) ∧ FB w (.slice a l.length cap) id 0 0 false W)
    (fun c xs W => FoundF w l id c xs W)
    (fun s W W' row hs hg hr => ⟨hs.1, hs.2.own hg (fun r e => ⟨by have := (hr r e).1; omega, (hr r e).2⟩)⟩)
    (fun c s W W' row hs hg hr => by
      obtain ⟨hc, pre, x, e, hn, hx, e0, e1, e2, hb⟩ := hs
      exact ⟨hc, pre, x, e, hn, hx, cell_kept e0 hg (fun r e => (hr r e).2), cell_kept e1 hg (fun r e => (hr r e).2), cell_kept e2 hg (fun r e => (hr r e).2), hb.grown hg hb.size (fun j hj => by have := (hr j hj).1; omega)⟩)
    ⟨by simp, F2.out⟩
    (fun x => { tmps := #[.slice a l.length cap, .int .i64 id, .pointer (some ⟨w.heap.size, 0, none⟩), .pointer (some ⟨w.heap.size + 1, 0, none⟩), .pointer (some ⟨w.heap.size + 1 + 1, 0, none⟩), .pointer (some ⟨w.heap.size + 1 + 1 + 1, 0, none⟩), .pointer (some ⟨w.heap.size + 1 + 1 + 1 + 1, 0, none⟩), .int .i64 x.fst, .int .i64 x.snd, .slice a l.length cap, .bool true, .bool false, .slice a l.length cap, .func (.func 41) #[] #[.pointer (some ⟨w1.heap.size, 0, none⟩)], .int .i64 x.fst, .int .i64 x.snd, undef, undef, undef, undef, undef, undef, undef, undef, undef], defers := [] }) ?assign ?body ?done ?stop
  case assign =>
    intro l x W K hK
    simp only [encF]
    gi_wp2
    exact hK
  case body =>
    rintro lp pre x W ⟨hnot, hF⟩ _
    have HNOT := Lib.hid hnot
    have HF := Lib.hid hF
    clear hnot hF
    have hx1 := x.lt
    have hx2 := x.le
    have hB2 := HF.out.bel
    obtain ⟨b, off, rfl, hb, hc⟩ := HRD.out (by omega)
    obtain ⟨y, hy⟩ : ∃ y, l[x.fst]? = some y := ⟨_, List.getElem?_eq_getElem (by omega)⟩
    obtain ⟨_, c1, _⟩ := hc x.fst y hy
    have g1 := (hB2.cell (p := ⟨b, off + x.fst * 4 + 1, none⟩) hb).trans c1
    have hidx : idAt l id (x.fst, x.snd) = (y.id == id) := by unfold idAt; simp only; rw [hy]
    have q0 := HF.out.b0.cell
    have q1 := HF.out.b1.cell
    have q2 := HF.out.b2.cell
    have q3 := HF.out.b3.cell
    have q4 := HF.out.b4.cell
    have z2 := HF.out.b2.frozen
    have z3 := HF.out.b3.frozen
    have z4 := HF.out.b4.frozen
    have i0 : (0 : Int) ≤ (x.fst : Int) := Int.natCast_nonneg _
    have i1 : (x.fst : Int) < (l.length : Int) := by omega
    clear hc c1 hy
    rcases hyid : (y.id == id) with _ | _
    · rw [hyid] at hidx
      have HNO2 : Hid (∀ f ∈ pre ++ [x], idAt l id (f.fst, f.snd) = false) := Lib.hid (fun f hf => by
        rcases List.mem_append.1 hf with h | h
        · exact HNOT.out f h
        · rw [List.mem_singleton] at h; subst h; exact hidx)
      clear hidx
      gi_wp2
      refine wpIn_region_any (by kernel_rfl) ?_
      change wpAnyIn _ _ _ _ _ _ _ _ _ (World.drew _)
      refine wpAnyIn_ready (rs := [0, 1, 5]) (by kernel_rfl) (by simp) ?_
      refine AllReadyIn.cons rfl (fun K hK => ?_) (AllReadyIn.cons rfl (fun K hK => ?_) (AllReadyIn.cons rfl (fun K hK => ?_) AllReadyIn.nil))
      · go_simp
        refine hK _ _ ?_
        clear hK K
        refine wpAnyIn_ready (rs := [1, 5]) (by kernel_rfl) (by simp) ?_
        refine AllReadyIn.cons rfl (fun K hK => ?_) (AllReadyIn.cons rfl (fun K hK => ?_) AllReadyIn.nil)
        · go_simp
          refine hK _ _ ?_
          clear hK K
          refine wpAnyIn_ready (rs := [2, 5]) (by kernel_rfl) (by simp) ?_
          refine AllReadyIn.cons rfl (fun K hK => ?_) (AllReadyIn.cons rfl (fun K hK => ?_) AllReadyIn.nil)
          · go_simp
            refine hK _ _ ?_
            clear hK K
            refine wpAnyIn_ready (rs := [3, 5]) (by kernel_rfl) (by simp) ?_
            refine AllReadyIn.cons rfl (fun K hK => ?_) (AllReadyIn.cons rfl (fun K hK => ?_) AllReadyIn.nil)
            · go_simp
              refine hK _ _ ?_
              clear hK K
              refine wpAnyIn_ready (rs := [4, 5]) (by kernel_rfl) (by simp) ?_
              refine AllReadyIn.cons rfl (fun K hK => ?_) (AllReadyIn.cons rfl (fun K hK => ?_) AllReadyIn.nil)
              · go_simp
                refine hK _ _ ?_
                clear hK K
                refine wpAnyIn_ready (rs := [5]) (by kernel_rfl) (by simp) ?_
                refine AllReadyIn.cons rfl (fun K hK => ?_) AllReadyIn.nil
                go_simp
                refine hK _ _ ?_
                clear hK K
                refine wpAnyIn_ready (rs := [6]) (by kernel_rfl) (by simp) ?_
                refine AllReadyIn.cons rfl (fun K hK => ?_) AllReadyIn.nil
                go_simp
                refine hK _ _ ?_
                clear hK K
                refine wpAnyIn_done (by kernel_rfl) ?_ _
                gi_wp2
                exact ⟨⟨Nat.le_refl _, fun k o _ h _ => h⟩, (Below.refl _ _).drew, HNO2.out, HF.out.drew⟩
              · go_simp
                refine hK _ _ ?_
                clear hK K
                refine wpAnyIn_ready (rs := [4]) (by kernel_rfl) (by simp) ?_
                refine AllReadyIn.cons rfl (fun K hK => ?_) AllReadyIn.nil
                go_simp
                refine hK _ _ ?_
                clear hK K
                refine wpAnyIn_ready (rs := [6]) (by kernel_rfl) (by simp) ?_
                refine AllReadyIn.cons rfl (fun K hK => ?_) AllReadyIn.nil
                go_simp
                refine hK _ _ ?_
                clear hK K
                refine wpAnyIn_done (by kernel_rfl) ?_ _
                gi_wp2
                exact ⟨⟨Nat.le_refl _, fun k o _ h _ => h⟩, (Below.refl _ _).drew, HNO2.out, HF.out.drew⟩
            · go_simp
              refine hK _ _ ?_
              clear hK K
              refine wpAnyIn_ready (rs := [3]) (by kernel_rfl) (by simp) ?_
              refine AllReadyIn.cons rfl (fun K hK => ?_) AllReadyIn.nil
              go_simp
              refine hK _ _ ?_
              clear hK K
              refine wpAnyIn_ready (rs := [4]) (by kernel_rfl) (by simp) ?_
              refine AllReadyIn.cons rfl (fun K hK => ?_) AllReadyIn.nil
              go_simp
              refine hK _ _ ?_
              clear hK K
              refine wpAnyIn_ready (rs := [6]) (by kernel_rfl) (by simp) ?_
              refine AllReadyIn.cons rfl (fun K hK => ?_) AllReadyIn.nil
              go_simp
              refine hK _ _ ?_
              clear hK K
              refine wpAnyIn_done (by kernel_rfl) ?_ _
              gi_wp2
              exact ⟨⟨Nat.le_refl _, fun k o _ h _ => h⟩, (Below.refl _ _).drew, HNO2.out, HF.out.drew⟩
          · go_simp
            refine hK _ _ ?_
            clear hK K
            refine wpAnyIn_ready (rs := [2]) (by kernel_rfl) (by simp) ?_
            refine AllReadyIn.cons rfl (fun K hK => ?_) AllReadyIn.nil
            go_simp
            refine hK _ _ ?_
            clear hK K
            refine wpAnyIn_ready (rs := [3]) (by kernel_rfl) (by simp) ?_
            refine AllReadyIn.cons rfl (fun K hK => ?_) AllReadyIn.nil
            go_simp
            refine hK _ _ ?_
            clear hK K
            refine wpAnyIn_ready (rs := [4]) (by kernel_rfl) (by simp) ?_
            refine AllReadyIn.cons rfl (fun K hK => ?_) AllReadyIn.nil
            go_simp
            refine hK _ _ ?_
            clear hK K
            refine wpAnyIn_ready (rs := [6]) (by kernel_rfl) (by simp) ?_
            refine AllReadyIn.cons rfl (fun K hK => ?_) AllReadyIn.nil
            go_simp
            refine hK _ _ ?_
            clear hK K
            refine wpAnyIn_done (by kernel_rfl) ?_ _
            gi_wp2
            exact ⟨⟨Nat.le_refl _, fun k o _ h _ => h⟩, (Below.refl _ _).drew, HNO2.out, HF.out.drew⟩
        · go_simp
          refine hK _ _ ?_
          clear hK K
          refine wpAnyIn_ready (rs := [1]) (by kernel_rfl) (by simp) ?_
          refine AllReadyIn.cons rfl (fun K hK => ?_) AllReadyIn.nil
          go_simp
          refine hK _ _ ?_
          clear hK K
          refine wpAnyIn_ready (rs := [2]) (by kernel_rfl) (by simp) ?_
          refine AllReadyIn.cons rfl (fun K hK => ?_) AllReadyIn.nil
          go_simp
          refine hK _ _ ?_
          clear hK K
          refine wpAnyIn_ready (rs := [3]) (by kernel_rfl) (by simp) ?_
          refine AllReadyIn.cons rfl (fun K hK => ?_) AllReadyIn.nil
          go_simp
          refine hK _ _ ?_
          clear hK K
          refine wpAnyIn_ready (rs := [4]) (by kernel_rfl) (by simp) ?_
          refine AllReadyIn.cons rfl (fun K hK => ?_) AllReadyIn.nil
          go_simp
          refine hK _ _ ?_
          clear hK K
          refine wpAnyIn_ready (rs := [6]) (by kernel_rfl) (by simp) ?_
          refine AllReadyIn.cons rfl (fun K hK => ?_) AllReadyIn.nil
          go_simp
          refine hK _ _ ?_
          clear hK K
          refine wpAnyIn_done (by kernel_rfl) ?_ _
          gi_wp2
          exact ⟨⟨Nat.le_refl _, fun k o _ h _ => h⟩, (Below.refl _ _).drew, HNO2.out, HF.out.drew⟩
      · go_simp
        refine hK _ _ ?_
        clear hK K
        refine wpAnyIn_ready (rs := [0, 5]) (by kernel_rfl) (by simp) ?_
        refine AllReadyIn.cons rfl (fun K hK => ?_) (AllReadyIn.cons rfl (fun K hK => ?_) AllReadyIn.nil)
        · go_simp
          refine hK _ _ ?_
          clear hK K
          refine wpAnyIn_ready (rs := [2, 5]) (by kernel_rfl) (by simp) ?_
          refine AllReadyIn.cons rfl (fun K hK => ?_) (AllReadyIn.cons rfl (fun K hK => ?_) AllReadyIn.nil)
          · go_simp
            refine hK _ _ ?_
            clear hK K
            refine wpAnyIn_ready (rs := [3, 5]) (by kernel_rfl) (by simp) ?_
            refine AllReadyIn.cons rfl (fun K hK => ?_) (AllReadyIn.cons rfl (fun K hK => ?_) AllReadyIn.nil)
            · go_simp
              refine hK _ _ ?_
              clear hK K
              refine wpAnyIn_ready (rs := [4, 5]) (by kernel_rfl) (by simp) ?_
              refine AllReadyIn.cons rfl (fun K hK => ?_) (AllReadyIn.cons rfl (fun K hK => ?_) AllReadyIn.nil)
              · go_simp
                refine hK _ _ ?_
                clear hK K
                refine wpAnyIn_ready (rs := [5]) (by kernel_rfl) (by simp) ?_
                refine AllReadyIn.cons rfl (fun K hK => ?_) AllReadyIn.nil
                go_simp
                refine hK _ _ ?_
                clear hK K
                refine wpAnyIn_ready (rs := [6]) (by kernel_rfl) (by simp) ?_
                refine AllReadyIn.cons rfl (fun K hK => ?_) AllReadyIn.nil
                go_simp
                refine hK _ _ ?_
                clear hK K
                refine wpAnyIn_done (by kernel_rfl) ?_ _
                gi_wp2
                exact ⟨⟨Nat.le_refl _, fun k o _ h _ => h⟩, (Below.refl _ _).drew, HNO2.out, HF.out.drew⟩
              · go_simp
                refine hK _ _ ?_
                clear hK K
                refine wpAnyIn_ready (rs := [4]) (by kernel_rfl) (by simp) ?_
                refine AllReadyIn.cons rfl (fun K hK => ?_) AllReadyIn.nil
                go_simp
                refine hK _ _ ?_
                clear hK K
                refine wpAnyIn_ready (rs := [6]) (by kernel_rfl) (by simp) ?_
                refine AllReadyIn.cons rfl (fun K hK => ?_) AllReadyIn.nil
                go_simp
                refine hK _ _ ?_
                clear hK K
                refine wpAnyIn_done (by kernel_rfl) ?_ _
                gi_wp2
                exact ⟨⟨Nat.le_refl _, fun k o _ h _ => h⟩, (Below.refl _ _).drew, HNO2.out, HF.out.drew⟩
            · go_simp
              refine hK _ _ ?_
              clear hK K
              refine wpAnyIn_ready (rs := [3]) (by kernel_rfl) (by simp) ?_
              refine AllReadyIn.cons rfl (fun K hK => ?_) AllReadyIn.nil
              go_simp
              refine hK _ _ ?_
              clear hK K
              refine wpAnyIn_ready (rs := [4]) (by kernel_rfl) (by simp) ?_
              refine AllReadyIn.cons rfl (fun K hK => ?_) AllReadyIn.nil
              go_simp
              refine hK _ _ ?_
              clear hK K
              refine wpAnyIn_ready (rs := [6]) (by kernel_rfl) (by simp) ?_
              refine AllReadyIn.cons rfl (fun K hK => ?_) AllReadyIn.nil
              go_simp
              refine hK _ _ ?_
              clear hK K
              refine wpAnyIn_done (by kernel_rfl) ?_ _
              gi_wp2
              exact ⟨⟨Nat.le_refl _, fun k o _ h _ => h⟩, (Below.refl _ _).drew, HNO2.out, HF.out.drew⟩
          · go_simp
            refine hK _ _ ?_
            clear hK K
            refine wpAnyIn_ready (rs := [2]) (by kernel_rfl) (by simp) ?_
            refine AllReadyIn.cons rfl (fun K hK => ?_) AllReadyIn.nil
            go_simp
            refine hK _ _ ?_
            clear hK K
            refine wpAnyIn_ready (rs := [3]) (by kernel_rfl) (by simp) ?_
            refine AllReadyIn.cons rfl (fun K hK => ?_) AllReadyIn.nil
            go_simp
            refine hK _ _ ?_
            clear hK K
            refine wpAnyIn_ready (rs := [4]) (by kernel_rfl) (by simp) ?_
            refine AllReadyIn.cons rfl (fun K hK => ?_) AllReadyIn.nil
            go_simp
            refine hK _ _ ?_
            clear hK K
            refine wpAnyIn_ready (rs := [6]) (by kernel_rfl) (by simp) ?_
            refine AllReadyIn.cons rfl (fun K hK => ?_) AllReadyIn.nil
            go_simp
            refine hK _ _ ?_
            clear hK K
            refine wpAnyIn_done (by kernel_rfl) ?_ _
            gi_wp2
            exact ⟨⟨Nat.le_refl _, fun k o _ h _ => h⟩, (Below.refl _ _).drew, HNO2.out, HF.out.drew⟩
        · go_simp
          refine hK _ _ ?_
          clear hK K
          refine wpAnyIn_ready (rs := [0]) (by kernel_rfl) (by simp) ?_
          refine AllReadyIn.cons rfl (fun K hK => ?_) AllReadyIn.nil
          go_simp
          refine hK _ _ ?_
          clear hK K
          refine wpAnyIn_ready (rs := [2]) (by kernel_rfl) (by simp) ?_
          refine AllReadyIn.cons rfl (fun K hK => ?_) AllReadyIn.nil
          go_simp
          refine hK _ _ ?_
          clear hK K
          refine wpAnyIn_ready (rs := [3]) (by kernel_rfl) (by simp) ?_
          refine AllReadyIn.cons rfl (fun K hK => ?_) AllReadyIn.nil
          go_simp
          refine hK _ _ ?_
          clear hK K
          refine wpAnyIn_ready (rs := [4]) (by kernel_rfl) (by simp) ?_
          refine AllReadyIn.cons rfl (fun K hK => ?_) AllReadyIn.nil
          go_simp
          refine hK _ _ ?_
          clear hK K
          refine wpAnyIn_ready (rs := [6]) (by kernel_rfl) (by simp) ?_
          refine AllReadyIn.cons rfl (fun K hK => ?_) AllReadyIn.nil
          go_simp
          refine hK _ _ ?_
          clear hK K
          refine wpAnyIn_done (by kernel_rfl) ?_ _
          gi_wp2
          exact ⟨⟨Nat.le_refl _, fun k o _ h _ => h⟩, (Below.refl _ _).drew, HNO2.out, HF.out.drew⟩
      · go_simp
        refine hK _ _ ?_
        clear hK K
        refine wpAnyIn_ready (rs := [0, 1]) (by kernel_rfl) (by simp) ?_
        refine AllReadyIn.cons rfl (fun K hK => ?_) (AllReadyIn.cons rfl (fun K hK => ?_) AllReadyIn.nil)
        · go_simp
          refine hK _ _ ?_
          clear hK K
          refine wpAnyIn_ready (rs := [1]) (by kernel_rfl) (by simp) ?_
          refine AllReadyIn.cons rfl (fun K hK => ?_) AllReadyIn.nil
          go_simp
          refine hK _ _ ?_
          clear hK K
          refine wpAnyIn_ready (rs := [2]) (by kernel_rfl) (by simp) ?_
          refine AllReadyIn.cons rfl (fun K hK => ?_) AllReadyIn.nil
          go_simp
          refine hK _ _ ?_
          clear hK K
          refine wpAnyIn_ready (rs := [3]) (by kernel_rfl) (by simp) ?_
          refine AllReadyIn.cons rfl (fun K hK => ?_) AllReadyIn.nil
          go_simp
          refine hK _ _ ?_
          clear hK K
          refine wpAnyIn_ready (rs := [4]) (by kernel_rfl) (by simp) ?_
          refine AllReadyIn.cons rfl (fun K hK => ?_) AllReadyIn.nil
          go_simp
          refine hK _ _ ?_
          clear hK K
          refine wpAnyIn_ready (rs := [6]) (by kernel_rfl) (by simp) ?_
          refine AllReadyIn.cons rfl (fun K hK => ?_) AllReadyIn.nil
          go_simp
          refine hK _ _ ?_
          clear hK K
          refine wpAnyIn_done (by kernel_rfl) ?_ _
          gi_wp2
          exact ⟨⟨Nat.le_refl _, fun k o _ h _ => h⟩, (Below.refl _ _).drew, HNO2.out, HF.out.drew⟩
        · go_simp
          refine hK _ _ ?_
          clear hK K
          refine wpAnyIn_ready (rs := [0]) (by kernel_rfl) (by simp) ?_
          refine AllReadyIn.cons rfl (fun K hK => ?_) AllReadyIn.nil
          go_simp
          refine hK _ _ ?_
          clear hK K
          refine wpAnyIn_ready (rs := [2]) (by kernel_rfl) (by simp) ?_
          refine AllReadyIn.cons rfl (fun K hK => ?_) AllReadyIn.nil
          go_simp
          refine hK _ _ ?_
          clear hK K
          refine wpAnyIn_ready (rs := [3]) (by kernel_rfl) (by simp) ?_
          refine AllReadyIn.cons rfl (fun K hK => ?_) AllReadyIn.nil
          go_simp
          refine hK _ _ ?_
          clear hK K
          refine wpAnyIn_ready (rs := [4]) (by kernel_rfl) (by simp) ?_
          refine AllReadyIn.cons rfl (fun K hK => ?_) AllReadyIn.nil
          go_simp
          refine hK _ _ ?_
          clear hK K
          refine wpAnyIn_ready (rs := [6]) (by kernel_rfl) (by simp) ?_
          refine AllReadyIn.cons rfl (fun K hK => ?_) AllReadyIn.nil
          go_simp
          refine hK _ _ ?_
          clear hK K
          refine wpAnyIn_done (by kernel_rfl) ?_ _
          gi_wp2
          exact ⟨⟨Nat.le_refl _, fun k o _ h _ => h⟩, (Below.refl _ _).drew, HNO2.out, HF.out.drew⟩
    · rw [hyid] at hidx
      have HID := Lib.hid hidx
      clear hidx
      gi_wp2
      refine wpIn_region_any (by kernel_rfl) ?_
      change wpAnyIn _ _ _ _ _ _ _ _ _ (World.drew _)
      refine wpAnyIn_ready (rs := [0, 1, 5]) (by kernel_rfl) (by simp) ?_
      refine AllReadyIn.cons rfl (fun K hK => ?_) (AllReadyIn.cons rfl (fun K hK => ?_) (AllReadyIn.cons rfl (fun K hK => ?_) AllReadyIn.nil))
      · go_simp
        refine hK _ _ ?_
        clear hK K
        refine wpAnyIn_ready (rs := [1, 5]) (by kernel_rfl) (by simp) ?_
        refine AllReadyIn.cons rfl (fun K hK => ?_) (AllReadyIn.cons rfl (fun K hK => ?_) AllReadyIn.nil)
        · go_simp
          refine hK _ _ ?_
          clear hK K
          refine wpAnyIn_ready (rs := [2, 5]) (by kernel_rfl) (by simp) ?_
          refine AllReadyIn.cons rfl (fun K hK => ?_) (AllReadyIn.cons rfl (fun K hK => ?_) AllReadyIn.nil)
          · go_simp
            refine hK _ _ ?_
            clear hK K
            refine wpAnyIn_ready (rs := [3, 5]) (by kernel_rfl) (by simp) ?_
            refine AllReadyIn.cons rfl (fun K hK => ?_) (AllReadyIn.cons rfl (fun K hK => ?_) AllReadyIn.nil)
            · go_simp
              refine hK _ _ ?_
              clear hK K
              refine wpAnyIn_ready (rs := [4, 5]) (by kernel_rfl) (by simp) ?_
              refine AllReadyIn.cons rfl (fun K hK => ?_) (AllReadyIn.cons rfl (fun K hK => ?_) AllReadyIn.nil)
              · go_simp
                refine hK _ _ ?_
                clear hK K
                refine wpAnyIn_ready (rs := [5]) (by kernel_rfl) (by simp) ?_
                refine AllReadyIn.cons rfl (fun K hK => ?_) AllReadyIn.nil
                go_simp
                refine hK _ _ ?_
                clear hK K
                refine wpAnyIn_ready (rs := [6]) (by kernel_rfl) (by simp) ?_
                refine AllReadyIn.cons rfl (fun K hK => ?_) AllReadyIn.nil
                go_simp
                refine hK _ _ ?_
                clear hK K
                refine wpAnyIn_done (by kernel_rfl) ?_ _
                gi_wp2
                obtain ⟨s0, s1, s2, s3, s4⟩ := three_set q2 q3 q4 (.int .i64 (x.fst : Nat)) (.int .i64 (x.snd : Nat)) (.bool true)
                exact ⟨⟨s3.size, fun k o _ h ho => s3.same k o h ho⟩, rfl, pre, x, rfl, HNOT.out, HID.out, s0, s1, s2, (hB2.trans (s4.mono (show w.heap.size ≤ w.heap.size + 1 + 1 by omega))).drew⟩
              · go_simp
                refine hK _ _ ?_
                clear hK K
                refine wpAnyIn_ready (rs := [4]) (by kernel_rfl) (by simp) ?_
                refine AllReadyIn.cons rfl (fun K hK => ?_) AllReadyIn.nil
                go_simp
                refine hK _ _ ?_
                clear hK K
                refine wpAnyIn_ready (rs := [6]) (by kernel_rfl) (by simp) ?_
                refine AllReadyIn.cons rfl (fun K hK => ?_) AllReadyIn.nil
                go_simp
                refine hK _ _ ?_
                clear hK K
                refine wpAnyIn_done (by kernel_rfl) ?_ _
                gi_wp2
                obtain ⟨s0, s1, s2, s3, s4⟩ := three_set q2 q3 q4 (.int .i64 (x.fst : Nat)) (.int .i64 (x.snd : Nat)) (.bool true)
                exact ⟨⟨s3.size, fun k o _ h ho => s3.same k o h ho⟩, rfl, pre, x, rfl, HNOT.out, HID.out, s0, s1, s2, (hB2.trans (s4.mono (show w.heap.size ≤ w.heap.size + 1 + 1 by omega))).drew⟩
            · go_simp
              refine hK _ _ ?_
              clear hK K
              refine wpAnyIn_ready (rs := [3]) (by kernel_rfl) (by simp) ?_
              refine AllReadyIn.cons rfl (fun K hK => ?_) AllReadyIn.nil
              go_simp
              refine hK _ _ ?_
              clear hK K
              refine wpAnyIn_ready (rs := [4]) (by kernel_rfl) (by simp) ?_
              refine AllReadyIn.cons rfl (fun K hK => ?_) AllReadyIn.nil
              go_simp
              refine hK _ _ ?_
              clear hK K
              refine wpAnyIn_ready (rs := [6]) (by kernel_rfl) (by simp) ?_
              refine AllReadyIn.cons rfl (fun K hK => ?_) AllReadyIn.nil
              go_simp
              refine hK _ _ ?_
              clear hK K
              refine wpAnyIn_done (by kernel_rfl) ?_ _
              gi_wp2
              obtain ⟨s0, s1, s2, s3, s4⟩ := three_set q2 q3 q4 (.int .i64 (x.fst : Nat)) (.int .i64 (x.snd : Nat)) (.bool true)
              exact ⟨⟨s3.size, fun k o _ h ho => s3.same k o h ho⟩, rfl, pre, x, rfl, HNOT.out, HID.out, s0, s1, s2, (hB2.trans (s4.mono (show w.heap.size ≤ w.heap.size + 1 + 1 by omega))).drew⟩
          · go_simp
            refine hK _ _ ?_
            clear hK K
            refine wpAnyIn_ready (rs := [2]) (by kernel_rfl) (by simp) ?_
            refine AllReadyIn.cons rfl (fun K hK => ?_) AllReadyIn.nil
            go_simp
            refine hK _ _ ?_
            clear hK K
            refine wpAnyIn_ready (rs := [3]) (by kernel_rfl) (by simp) ?_
            refine AllReadyIn.cons rfl (fun K hK => ?_) AllReadyIn.nil
            go_simp
            refine hK _ _ ?_
            clear hK K
            refine wpAnyIn_ready (rs := [4]) (by kernel_rfl) (by simp) ?_
            refine AllReadyIn.cons rfl (fun K hK => ?_) AllReadyIn.nil
            go_simp
            refine hK _ _ ?_
            clear hK K
            refine wpAnyIn_ready (rs := [6]) (by kernel_rfl) (by simp) ?_
            refine AllReadyIn.cons rfl (fun K hK => ?_) AllReadyIn.nil
            go_simp
            refine hK _ _ ?_
            clear hK K
            refine wpAnyIn_done (by kernel_rfl) ?_ _
            gi_wp2
            obtain ⟨s0, s1, s2, s3, s4⟩ := three_set q2 q3 q4 (.int .i64 (x.fst : Nat)) (.int .i64 (x.snd : Nat)) (.bool true)
            exact ⟨⟨s3.size, fun k o _ h ho => s3.same k o h ho⟩, rfl, pre, x, rfl, HNOT.out, HID.out, s0, s1, s2, (hB2.trans (s4.mono (show w.heap.size ≤ w.heap.size + 1 + 1 by omega))).drew⟩
        · go_simp
          refine hK _ _ ?_
          clear hK K
          refine wpAnyIn_ready (rs := [1]) (by kernel_rfl) (by simp) ?_
          refine AllReadyIn.cons rfl (fun K hK => ?_) AllReadyIn.nil
          go_simp
          refine hK _ _ ?_
          clear hK K
          refine wpAnyIn_ready (rs := [2]) (by kernel_rfl) (by simp) ?_
          refine AllReadyIn.cons rfl (fun K hK => ?_) AllReadyIn.nil
          go_simp
          refine hK _ _ ?_
          clear hK K
          refine wpAnyIn_ready (rs := [3]) (by kernel_rfl) (by simp) ?_
          refine AllReadyIn.cons rfl (fun K hK => ?_) AllReadyIn.nil
          go_simp
          refine hK _ _ ?_
          clear hK K
          refine wpAnyIn_ready (rs := [4]) (by kernel_rfl) (by simp) ?_
          refine AllReadyIn.cons rfl (fun K hK => ?_) AllReadyIn.nil
          go_simp
          refine hK _ _ ?_
          clear hK K
          refine wpAnyIn_ready (rs := [6]) (by kernel_rfl) (by simp) ?_
          refine AllReadyIn.cons rfl (fun K hK => ?_) AllReadyIn.nil
          go_simp
          refine hK _ _ ?_
          clear hK K
          refine wpAnyIn_done (by kernel_rfl) ?_ _
          gi_wp2
          obtain ⟨s0, s1, s2, s3, s4⟩ := three_set q2 q3 q4 (.int .i64 (x.fst : Nat)) (.int .i64 (x.snd : Nat)) (.bool true)
          exact ⟨⟨s3.size, fun k o _ h ho => s3.same k o h ho⟩, rfl, pre, x, rfl, HNOT.out, HID.out, s0, s1, s2, (hB2.trans (s4.mono (show w.heap.size ≤ w.heap.size + 1 + 1 by omega))).drew⟩
      · go_simp
        refine hK _ _ ?_
        clear hK K
        refine wpAnyIn_ready (rs := [0, 5]) (by kernel_rfl) (by simp) ?_
        refine AllReadyIn.cons rfl (fun K hK => ?_) (AllReadyIn.cons rfl (fun K hK => ?_) AllReadyIn.nil)
        · go_simp
          refine hK _ _ ?_
          clear hK K
          refine wpAnyIn_ready (rs := [2, 5]) (by kernel_rfl) (by simp) ?_
          refine AllReadyIn.cons rfl (fun K hK => ?_) (AllReadyIn.cons rfl (fun K hK => ?_) AllReadyIn.nil)
          · go_simp
            refine hK _ _ ?_
            clear hK K
            refine wpAnyIn_ready (rs := [3, 5]) (by kernel_rfl) (by simp) ?_
            refine AllReadyIn.cons rfl (fun K hK => ?_) (AllReadyIn.cons rfl (fun K hK => ?_) AllReadyIn.nil)
            · go_simp
              refine hK _ _ ?_
              clear hK K
              refine wpAnyIn_ready (rs := [4, 5]) (by kernel_rfl) (by simp) ?_
              refine AllReadyIn.cons rfl (fun K hK => ?_) (AllReadyIn.cons rfl (fun K hK => ?_) AllReadyIn.nil)
              · go_simp
                refine hK _ _ ?_
                clear hK K
                refine wpAnyIn_ready (rs := [5]) (by kernel_rfl) (by simp) ?_
                refine AllReadyIn.cons rfl (fun K hK => ?_) AllReadyIn.nil
                go_simp
                refine hK _ _ ?_
                clear hK K
                refine wpAnyIn_ready (rs := [6]) (by kernel_rfl) (by simp) ?_
                refine AllReadyIn.cons rfl (fun K hK => ?_) AllReadyIn.nil
                go_simp
                refine hK _ _ ?_
                clear hK K
                refine wpAnyIn_done (by kernel_rfl) ?_ _
                gi_wp2
                obtain ⟨s0, s1, s2, s3, s4⟩ := three_set q2 q3 q4 (.int .i64 (x.fst : Nat)) (.int .i64 (x.snd : Nat)) (.bool true)
                exact ⟨⟨s3.size, fun k o _ h ho => s3.same k o h ho⟩, rfl, pre, x, rfl, HNOT.out, HID.out, s0, s1, s2, (hB2.trans (s4.mono (show w.heap.size ≤ w.heap.size + 1 + 1 by omega))).drew⟩
              · go_simp
                refine hK _ _ ?_
                clear hK K
                refine wpAnyIn_ready (rs := [4]) (by kernel_rfl) (by simp) ?_
                refine AllReadyIn.cons rfl (fun K hK => ?_) AllReadyIn.nil
                go_simp
                refine hK _ _ ?_
                clear hK K
                refine wpAnyIn_ready (rs := [6]) (by kernel_rfl) (by simp) ?_
                refine AllReadyIn.cons rfl (fun K hK => ?_) AllReadyIn.nil
                go_simp
                refine hK _ _ ?_
                clear hK K
                refine wpAnyIn_done (by kernel_rfl) ?_ _
                gi_wp2
                obtain ⟨s0, s1, s2, s3, s4⟩ := three_set q2 q3 q4 (.int .i64 (x.fst : Nat)) (.int .i64 (x.snd : Nat)) (.bool true)
                exact ⟨⟨s3.size, fun k o _ h ho => s3.same k o h ho⟩, rfl, pre, x, rfl, HNOT.out, HID.out, s0, s1, s2, (hB2.trans (s4.mono (show w.heap.size ≤ w.heap.size + 1 + 1 by omega))).drew⟩
            · go_simp
              refine hK _ _ ?_
              clear hK K
              refine wpAnyIn_ready (rs := [3]) (by kernel_rfl) (by simp) ?_
              refine AllReadyIn.cons rfl (fun K hK => ?_) AllReadyIn.nil
              go_simp
              refine hK _ _ ?_
              clear hK K
              refine wpAnyIn_ready (rs := [4]) (by kernel_rfl) (by simp) ?_
              refine AllReadyIn.cons rfl (fun K hK => ?_) AllReadyIn.nil
              go_simp
              refine hK _ _ ?_
              clear hK K
              refine wpAnyIn_ready (rs := [6]) (by kernel_rfl) (by simp) ?_
              refine AllReadyIn.cons rfl (fun K hK => ?_) AllReadyIn.nil
              go_simp
              refine hK _ _ ?_
              clear hK K
              refine wpAnyIn_done (by kernel_rfl) ?_ _
              gi_wp2
              obtain ⟨s0, s1, s2, s3, s4⟩ := three_set q2 q3 q4 (.int .i64 (x.fst : Nat)) (.int .i64 (x.snd : Nat)) (.bool true)
              exact ⟨⟨s3.size, fun k o _ h ho => s3.same k o h ho⟩, rfl, pre, x, rfl, HNOT.out, HID.out, s0, s1, s2, (hB2.trans (s4.mono (show w.heap.size ≤ w.heap.size + 1 + 1 by omega))).drew⟩
          · go_simp
            refine hK _ _ ?_
            clear hK K
            refine wpAnyIn_ready (rs := [2]) (by kernel_rfl) (by simp) ?_
            refine AllReadyIn.cons rfl (fun K hK => ?_) AllReadyIn.nil
            go_simp
            refine hK _ _ ?_
            clear hK K
            refine wpAnyIn_ready (rs := [3]) (by kernel_rfl) (by simp) ?_
            refine AllReadyIn.cons rfl (fun K hK => ?_) AllReadyIn.nil
            go_simp
            refine hK _ _ ?_
            clear hK K
            refine wpAnyIn_ready (rs := [4]) (by kernel_rfl) (by simp) ?_
            refine AllReadyIn.cons rfl (fun K hK => ?_) AllReadyIn.nil
            go_simp
            refine hK _ _ ?_
            clear hK K
            refine wpAnyIn_ready (rs := [6]) (by kernel_rfl) (by simp) ?_
            refine AllReadyIn.cons rfl (fun K hK => ?_) AllReadyIn.nil
            go_simp
            refine hK _ _ ?_
            clear hK K
            refine wpAnyIn_done (by kernel_rfl) ?_ _
            gi_wp2
            obtain ⟨s0, s1, s2, s3, s4⟩ := three_set q2 q3 q4 (.int .i64 (x.fst : Nat)) (.int .i64 (x.snd : Nat)) (.bool true)
            exact ⟨⟨s3.size, fun k o _ h ho => s3.same k o h ho⟩, rfl, pre, x, rfl, HNOT.out, HID.out, s0, s1, s2, (hB2.trans (s4.mono (show w.heap.size ≤ w.heap.size + 1 + 1 by omega))).drew⟩
        · go_simp
          refine hK _ _ ?_
          clear hK K
          refine wpAnyIn_ready (rs := [0]) (by kernel_rfl) (by simp) ?_
          refine AllReadyIn.cons rfl (fun K hK => ?_) AllReadyIn.nil
          go_simp
          refine hK _ _ ?_
          clear hK K
          refine wpAnyIn_ready (rs := [2]) (by kernel_rfl) (by simp) ?_
          refine AllReadyIn.cons rfl (fun K hK => ?_) AllReadyIn.nil
          go_simp
          refine hK _ _ ?_
          clear hK K
          refine wpAnyIn_ready (rs := [3]) (by kernel_rfl) (by simp) ?_
          refine AllReadyIn.cons rfl (fun K hK => ?_) AllReadyIn.nil
          go_simp
          refine hK _ _ ?_
          clear hK K
          refine wpAnyIn_ready (rs := [4]) (by kernel_rfl) (by simp) ?_
          refine AllReadyIn.cons rfl (fun K hK => ?_) AllReadyIn.nil
          go_simp
          refine hK _ _ ?_
          clear hK K
          refine wpAnyIn_ready (rs := [6]) (by kernel_rfl) (by simp) ?_
          refine AllReadyIn.cons rfl (fun K hK => ?_) AllReadyIn.nil
          go_simp
          refine hK _ _ ?_
          clear hK K
          refine wpAnyIn_done (by kernel_rfl) ?_ _
          gi_wp2
          obtain ⟨s0, s1, s2, s3, s4⟩ := three_set q2 q3 q4 (.int .i64 (x.fst : Nat)) (.int .i64 (x.snd : Nat)) (.bool true)
          exact ⟨⟨s3.size, fun k o _ h ho => s3.same k o h ho⟩, rfl, pre, x, rfl, HNOT.out, HID.out, s0, s1, s2, (hB2.trans (s4.mono (show w.heap.size ≤ w.heap.size + 1 + 1 by omega))).drew⟩
      · go_simp
        refine hK _ _ ?_
        clear hK K
        refine wpAnyIn_ready (rs := [0, 1]) (by kernel_rfl) (by simp) ?_
        refine AllReadyIn.cons rfl (fun K hK => ?_) (AllReadyIn.cons rfl (fun K hK => ?_) AllReadyIn.nil)
        · go_simp
          refine hK _ _ ?_
          clear hK K
          refine wpAnyIn_ready (rs := [1]) (by kernel_rfl) (by simp) ?_
          refine AllReadyIn.cons rfl (fun K hK => ?_) AllReadyIn.nil
          go_simp
          refine hK _ _ ?_
          clear hK K
          refine wpAnyIn_ready (rs := [2]) (by kernel_rfl) (by simp) ?_
          refine AllReadyIn.cons rfl (fun K hK => ?_) AllReadyIn.nil
          go_simp
          refine hK _ _ ?_
          clear hK K
          refine wpAnyIn_ready (rs := [3]) (by kernel_rfl) (by simp) ?_
          refine AllReadyIn.cons rfl (fun K hK => ?_) AllReadyIn.nil
          go_simp
          refine hK _ _ ?_
          clear hK K
          refine wpAnyIn_ready (rs := [4]) (by kernel_rfl) (by simp) ?_
          refine AllReadyIn.cons rfl (fun K hK => ?_) AllReadyIn.nil
          go_simp
          refine hK _ _ ?_
          clear hK K
          refine wpAnyIn_ready (rs := [6]) (by kernel_rfl) (by simp) ?_
          refine AllReadyIn.cons rfl (fun K hK => ?_) AllReadyIn.nil
          go_simp
          refine hK _ _ ?_
          clear hK K
          refine wpAnyIn_done (by kernel_rfl) ?_ _
          gi_wp2
          obtain ⟨s0, s1, s2, s3, s4⟩ := three_set q2 q3 q4 (.int .i64 (x.fst : Nat)) (.int .i64 (x.snd : Nat)) (.bool true)
          exact ⟨⟨s3.size, fun k o _ h ho => s3.same k o h ho⟩, rfl, pre, x, rfl, HNOT.out, HID.out, s0, s1, s2, (hB2.trans (s4.mono (show w.heap.size ≤ w.heap.size + 1 + 1 by omega))).drew⟩
        · go_simp
          refine hK _ _ ?_
          clear hK K
          refine wpAnyIn_ready (rs := [0]) (by kernel_rfl) (by simp) ?_
          refine AllReadyIn.cons rfl (fun K hK => ?_) AllReadyIn.nil
          go_simp
          refine hK _ _ ?_
          clear hK K
          refine wpAnyIn_ready (rs := [2]) (by kernel_rfl) (by simp) ?_
          refine AllReadyIn.cons rfl (fun K hK => ?_) AllReadyIn.nil
          go_simp
          refine hK _ _ ?_
          clear hK K
          refine wpAnyIn_ready (rs := [3]) (by kernel_rfl) (by simp) ?_
          refine AllReadyIn.cons rfl (fun K hK => ?_) AllReadyIn.nil
          go_simp
          refine hK _ _ ?_
          clear hK K
          refine wpAnyIn_ready (rs := [4]) (by kernel_rfl) (by simp) ?_
          refine AllReadyIn.cons rfl (fun K hK => ?_) AllReadyIn.nil
          go_simp
          refine hK _ _ ?_
          clear hK K
          refine wpAnyIn_ready (rs := [6]) (by kernel_rfl) (by simp) ?_
          refine AllReadyIn.cons rfl (fun K hK => ?_) AllReadyIn.nil
          go_simp
          refine hK _ _ ?_
          clear hK K
          refine wpAnyIn_done (by kernel_rfl) ?_ _
          gi_wp2
          obtain ⟨s0, s1, s2, s3, s4⟩ := three_set q2 q3 q4 (.int .i64 (x.fst : Nat)) (.int .i64 (x.snd : Nat)) (.bool true)
          exact ⟨⟨s3.size, fun k o _ h ho => s3.same k o h ho⟩, rfl, pre, x, rfl, HNOT.out, HID.out, s0, s1, s2, (hB2.trans (s4.mono (show w.heap.size ≤ w.heap.size + 1 + 1 by omega))).drew⟩
  case done =>
    rintro D ys W hD hys ⟨hnot, hF⟩ hK
    have hres := HRES.out
    rw [find_none hys hnot] at hres
    injection hres with hq1 hq2
    injection hq2 with hq2 hq3
    subst hq1 hq2 hq3
    have HF := Lib.hid hF
    have q2 := hF.b2.cell
    have q3 := hF.b3.cell
    have q4 := hF.b4.cell
    have z2 := hF.b2.frozen
    have z3 := hF.b3.frozen
    have z4 := hF.b4.frozen
    clear hF hnot hys
    gi_wp2
    obtain ⟨s0, s1, s2, s3, s4⟩ := three_set q2 q3 q4 (.int .i64 0) (.int .i64 0) (.bool false)
    have hK' := s3.same D _ hK rfl
    refine ⟨by simp, .inl ⟨_, _, rfl, run_takeDeferred hK', ?_⟩⟩
    have r0 := cell_kept s0 (grownBy_putObj' _ D (.deferred none)) (fun r e => by cases e; exact ⟨_, hK', rfl⟩)
    have r1 := cell_kept s1 (grownBy_putObj' _ D (.deferred none)) (fun r e => by cases e; exact ⟨_, hK', rfl⟩)
    have r2 := cell_kept s2 (grownBy_putObj' _ D (.deferred none)) (fun r e => by cases e; exact ⟨_, hK', rfl⟩)
    refine ⟨.tuple #[.int .i64 0, .int .i64 0, .bool false], ?_, rfl, (HF.out.bel.trans (s4.mono (by omega))).trans (belowK_b (w := w) (Nat.le_refl _) _ D _ _ (by omega) hK' rfl rfl)⟩
    simp [results, Try.f19, go_sem, r0, r1, r2]
  case stop =>
    rintro D c pre W hD hpre ⟨rfl, ps, x, rfl, hnot, hx, hc0, hc1, hc2, hB⟩ hK
    have hres := HRES.out
    rw [find_some hpre hnot hx] at hres
    injection hres with hq1 hq2
    injection hq2 with hq2 hq3
    subst hq1 hq2 hq3
    gi_wp2
    refine ⟨by simp, .inl ⟨_, _, rfl, run_takeDeferred hK, ?_⟩⟩
    have r0 := cell_kept hc0 (grownBy_putObj' _ D (.deferred none)) (fun r e => by cases e; exact ⟨_, hK, rfl⟩)
    have r1 := cell_kept hc1 (grownBy_putObj' _ D (.deferred none)) (fun r e => by cases e; exact ⟨_, hK, rfl⟩)
    have r2 := cell_kept hc2 (grownBy_putObj' _ D (.deferred none)) (fun r e => by cases e; exact ⟨_, hK, rfl⟩)
    refine ⟨.tuple #[.int .i64 (x.fst : Nat), .int .i64 (x.snd : Nat), .bool true], ?_, rfl, hB.trans (belowK_b (w := w) (Nat.le_refl _) _ D _ _ (by omega) hK rfl rfl)⟩
    simp [results, Try.f19, go_sem, r0, r1, r2]
end Go.Proofs.Yteelknmafnoccaa
