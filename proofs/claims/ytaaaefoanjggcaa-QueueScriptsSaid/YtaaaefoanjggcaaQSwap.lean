/-
  TWO JOBS of the heap change places; the map of places with them.
-/
import Derived.Test.YtaaaefoanjggcaaQLeaf
namespace Go.Proofs.Ytaaaefoanjggcaa
set_option linter.unusedSimpArgs false
set_option linter.unusedVariables false
open Go.RowKit
theorem mem_set {l : List Job} {j : Nat} {x y : Job} (h : y ∈ l.set j x) : y ∈ l ∨ y = x := by
  rcases List.mem_or_eq_of_mem_set h with h | h
  · exact .inl h
  · exact .inr h
/-- A job of the row is stored into. -/
theorem QS.setJob {W : World} {base qb mb n b c len : Nat} {g : Option Nat} {f : Int → Option Int} {l : List Job} (h : QS W base qb mb g n f l (.slice (some ⟨b, 0, none⟩) len c)) (j : Nat) (x : Job) (hx : InI x.k) :
    QS ((W.setCell ⟨b, j * 2, none⟩ (.int .i64 x.k)).setCell ⟨b, j * 2 + 1, none⟩ (.int .i64 x.a)) base qb mb g n f (l.set j x) (.slice (some ⟨b, 0, none⟩) len c) ∧ Fr qb mb g W ((W.setCell ⟨b, j * 2, none⟩ (.int .i64 x.k)).setCell ⟨b, j * 2 + 1, none⟩ (.int .i64 x.a)) := by
  have hg : g = some b := h.row.symm
  subst hg
  have n1 : qb ≠ b := fun e => h.ne (by rw [e])
  have n2 : mb ≠ b := fun e => h.nm (by rw [e])
  have fr := (Fr.setRow (qb := qb) (mb := mb) (g := b) W (j * 2) (.int .i64 x.k)).trans (Fr.setRow _ (j * 2 + 1) (.int .i64 x.a))
  have old : ∀ i, i ≠ b → ((W.setCell ⟨b, j * 2, none⟩ (.int .i64 x.k)).setCell ⟨b, j * 2 + 1, none⟩ (.int .i64 x.a)).heap[i]? = W.heap[i]? := fun i hi => by rw [heap_setCell_other _ _ _ _ hi, heap_setCell_other _ _ _ _ hi]
  refine ⟨⟨(old qb n1).trans h.box, h.own.set j x, h.row, h.map.same (old mb n2), fun y hy => ?_, by rw [List.length_set]; exact h.len, h.n, h.bq, h.bm, h.ne, h.nm, h.nq⟩, fr⟩
  rcases mem_set hy with hy | rfl
  · exact h.keys y hy
  · exact hx
theorem QS.setMap {W W' : World} {base qb mb n : Nat} {g : Option Nat} {f f' : Int → Option Int} {l : List Job} {v : Value} (h : QS W base qb mb g n f l v) (ht : W.mapTurned W' mb) {m : Nat} (hm : n ≤ m) (hm2 : m ≤ 1000000) (hf : MapF W' mb m f') : QS W' base qb mb g m f' l v := by
  have fr : Fr qb mb g W W' := Fr.turned g ht
  have hg := ht.grown
  exact ⟨(hg.block qb h.cells.2.2.2 (fun e => h.nq (by injection e))).trans h.box, h.own.same fun j hj => hg.block j (World.ownsRow.lt h.own j hj).2 (fun e => h.nm (by rw [← h.row, hj, e])), h.row, hf, h.keys, Nat.le_trans h.len hm, hm2, h.bq, h.bm, h.ne, h.nm, h.nq⟩
set_option maxHeartbeats 4000000 in
set_option maxRecDepth 100000 in
theorem hswap_any {base qb mb n : Nat} {g : Option Nat} {f : Int → Option Int} {l : List Job} (w : World) (h : QP w base qb mb g n f l) (hp : PI f l) (i j : Nat) (hi : i < l.length) (hj : j < l.length) (hij : i ≠ j) :
    Calls Try.prog 49 #[.pointer (some ⟨qb, 0, none⟩), .int .i64 i, .int .i64 j] w fun e w' => e = .returned (.tuple #[]) ∧ QP w' base qb mb g n (updF (updF f (at' l j).k (some (i : Int))) (at' l i).k (some (j : Int))) (swapL l i j) ∧ Fr qb mb g w w' := by
  obtain ⟨v, h⟩ := h
  obtain ⟨c0, c1, f0, hq⟩ := h.cells
  obtain ⟨b, c, rfl, hg, hc, hm⟩ := h.has hi
  obtain ⟨x0, x1⟩ := h.own.cell (at_some hi)
  obtain ⟨y0, y1⟩ := h.own.cell (at_some hj)
  have hfz := h.own.frozen
  have z0 := hfz (i * 2)
  have z1 := hfz (i * 2 + 1)
  have z2 := hfz (j * 2)
  have z3 := hfz (j * 2 + 1)
  have H := Lib.hid h
  have HP := Lib.hid hp
  obtain ⟨len, hlen⟩ : ∃ len, l.length = len := ⟨_, rfl⟩
  have HL := Lib.hid hlen
  rw [hlen] at c0 hi hj hc
  clear h hp hlen hfz
  obtain ⟨x, hx⟩ : ∃ x, at' l i = x := ⟨_, rfl⟩
  obtain ⟨y, hy⟩ : ∃ y, at' l j = y := ⟨_, rfl⟩
  have HX := Lib.hid hx
  have HY := Lib.hid hy
  rw [hx] at x0 x1 ⊢
  rw [hy] at y0 y1 ⊢
  clear hx hy
  obtain ⟨xk, xa⟩ := x
  obtain ⟨yk, ya⟩ := y
  simp only at x0 x1 y0 y1 ⊢
  have HI : Hid (∃ W : World, (((((w.setCell ⟨b, i * 2, none⟩ (.int .i64 yk)).setCell ⟨b, i * 2 + 1, none⟩ (.int .i64 ya)).setCell ⟨b, j * 2, none⟩ (.int .i64 xk)).setCell ⟨b, j * 2 + 1, none⟩ (.int .i64 xa)).drew) = W ∧ QS W base qb mb g n f (swapL l i j) (.slice (some ⟨b, 0, none⟩) len c) ∧ Fr qb mb g w W) := by
    have kx : InI xk := H.out.keys ⟨xk, xa⟩ (by rw [← HX.out]; exact at_mem (by rw [HL.out]; exact hi))
    have ky : InI yk := H.out.keys ⟨yk, ya⟩ (by rw [← HY.out]; exact at_mem (by rw [HL.out]; exact hj))
    have h0 := H.out
    rw [HL.out] at h0
    obtain ⟨h1, r1⟩ := h0.setJob i ⟨yk, ya⟩ ky
    obtain ⟨h2, r2⟩ := h1.setJob j ⟨xk, xa⟩ kx
    refine ⟨_, rfl, ?_, (r1.trans r2).drew⟩
    unfold swapL
    rw [HX.out, HY.out]
    exact h2.same fun _ _ _ => rfl
  obtain ⟨W1, hW1, q1, fr1⟩ := HI.out
  have hsl : (swapL l i j).length = len := by rw [swapL_length, HL.out]
  have kx : InI xk := H.out.keys ⟨xk, xa⟩ (by rw [← HX.out]; exact at_mem (by rw [HL.out]; exact hi))
  have ky : InI yk := H.out.keys ⟨yk, ya⟩ (by rw [← HY.out]; exact at_mem (by rw [HL.out]; exact hj))
  have fx : f xk = some (i : Int) := by have := HP.out.is i (by rw [HL.out]; exact hi); rwa [HX.out] at this
  have fy : f yk = some (j : Int) := by have := HP.out.is j (by rw [HL.out]; exact hj); rwa [HY.out] at this
  have hxy : xk ≠ yk := fun e => hij (HP.out.inj (by rw [HL.out]; exact hi) (by rw [HL.out]; exact hj) (by rw [HX.out, HY.out]; exact e))
  have hn : n < maxLen := by have := q1.n; unfold maxLen; omega
  have hlm : len ≤ 1000000 := by have := q1.n; have := q1.len; omega
  obtain ⟨s1, st1, e1⟩ := q1.map.entry ky fy
  obtain ⟨u1, hE1⟩ := e1 W1.drew rfl
  obtain ⟨W2, hS1, m2, t2, _⟩ := MapF.entryPut (W := W1.drew) (q1.map.same rfl) hn (st1.same rfl) ky fy (x := (i : Int)) (by unfold InI; omega)
  have q2 : QS W2 base qb mb g n _ (swapL l i j) _ := (q1.same (W' := W1.drew) fun _ _ _ => rfl).setMap t2 (Nat.le_refl _) q1.n m2
  have fx2 : updF f yk (some (i : Int)) xk = some (i : Int) := by rw [updF_other _ _ hxy]; exact fx
  obtain ⟨s2, st2, e2⟩ := q2.map.entry kx fx2
  obtain ⟨u2, hE2⟩ := e2 W2 rfl
  obtain ⟨W3, hS2, m3, t3, _⟩ := MapF.entryPut q2.map hn st2 kx fx2 (x := (j : Int)) (by unfold InI; omega)
  have q3 := q2.setMap t3 (Nat.le_refl _) q1.n m3
  have fr3 : Fr qb mb g w W3 := (fr1.trans (Fr.refl qb mb g W1).drew).trans ((Fr.turned g t2).trans (Fr.turned g t3))
  have Q3 := Lib.hid q3
  have FR3 := Lib.hid fr3
  obtain ⟨d0, d1, _, _⟩ := q1.cells
  obtain ⟨a0, _⟩ := q1.own.cell (j := i) (p := ⟨yk, ya⟩) (by rw [at_some (by rw [hsl]; exact hi), at_swap (by rw [HL.out]; exact hi) (by rw [HL.out]; exact hj), if_neg hij, if_pos rfl, HY.out])
  obtain ⟨b0, _⟩ := q1.own.cell (j := j) (p := ⟨xk, xa⟩) (by rw [at_some (by rw [hsl]; exact hj), at_swap (by rw [HL.out]; exact hi) (by rw [HL.out]; exact hj), if_pos rfl, HX.out])
  have HW1 := Lib.hid hW1
  clear q1 q2 q3 fr1 fr3 HI hW1 hsl kx ky fx fy hxy hn st1 e1 m2 t2 fx2 st2 e2 m3 t3 H HP HX HY HL hlm hm
  go_enter Try.func49, Try.ntmps49
  go_wp2
  go_region
  rw [HW1.out]
  clear c0 c1 x0 x1 y0 y1 z0 z1 z2 z3 HW1
  go_wp2
  go_region
  go_end0
  exact ⟨rfl, ⟨_, Q3.out⟩, FR3.out⟩
end Go.Proofs.Ytaaaefoanjggcaa
