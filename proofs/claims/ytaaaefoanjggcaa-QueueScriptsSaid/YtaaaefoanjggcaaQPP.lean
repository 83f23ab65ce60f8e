/-
  THE HEAP's END: a job is taken off it, and put there.
-/
import Derived.Test.YtaaaefoanjggcaaQLeaf
namespace Go.Proofs.Ytaaaefoanjggcaa
set_option linter.unusedSimpArgs false
set_option linter.unusedVariables false
open Go.RowKit
theorem infoJ : (Try.prog.info? 54).map (fun i => (i.zero, i.size, i.bytes)) = some (some (.agg #[.int .i64 0, .int .i64 0]), 2, 16) := by kernel_rfl
theorem QS.popped {W : World} {base qb mb n b c : Nat} {g : Option Nat} {f : Int → Option Int} {l : List Job} (h : QS W base qb mb g n f l (.slice (some ⟨b, 0, none⟩) l.length c)) (k : Nat) (hk : l.length = k + 1) :
    QS (W.setCell ⟨qb, 0, none⟩ (.slice (some ⟨b, 0, none⟩) k c)) base qb mb g n f (l.take k) (.slice (some ⟨b, 0, none⟩) k c) ∧ Fr qb mb g W (W.setCell ⟨qb, 0, none⟩ (.slice (some ⟨b, 0, none⟩) k c)) := by
  have hg : g = some b := h.row.symm
  have n1 : b ≠ qb := fun e => h.ne (by rw [hg, e])
  have hb := h.box
  have hc := h.own.cut (k := k) (by omega)
  refine ⟨⟨heap_setCell_same W qb 0 _ _ _ hb, hc.same fun j hj => ?_, h.row, h.map.same (heap_setCell_other _ _ _ _ h.nq.symm), fun x hx => h.keys x (List.mem_of_mem_take hx), ?_, h.n, h.bq, h.bm, h.ne, h.nm, h.nq⟩, Fr.setBox g W 0 _⟩
  · have : j = b := by simpa [Value.ownBlock] using hj.symm
    subst this
    exact heap_setCell_other _ _ _ _ n1
  · have := h.len
    rw [List.length_take]
    omega
theorem assertJ (v : Value) (w : World) : (Instr.typeAssert (.iface 54 v) 20 54 false).run Try.prog w = .ok v w := by
  simp [Instr.typeAssert, run_underlying Try.underlying54, Result.andThen]
set_option maxHeartbeats 1000000 in
theorem hpop_any {base qb mb n : Nat} {g : Option Nat} {f : Int → Option Int} {l : List Job} (w : World) (h : QP w base qb mb g n f l) (k : Nat) (hk : l.length = k + 1) :
    Calls Try.prog 47 #[.pointer (some ⟨qb, 0, none⟩)] w fun e w' => e = .returned (.iface 54 (.agg #[.int .i64 (at' l k).k, .int .i64 (at' l k).a])) ∧ QP w' base qb mb g n f (l.take k) ∧ Fr qb mb g w w' := by
  obtain ⟨v, h⟩ := h
  obtain ⟨c0, c1, f0, hq⟩ := h.cells
  obtain ⟨b, c, rfl, hg, hc, hm⟩ := h.has (i := k) (by omega)
  obtain ⟨x0, x1⟩ := h.own.cell (at_some (i := k) (by omega))
  have hbq : b ≠ qb := fun e => h.ne (by rw [hg, e])
  obtain ⟨x, hx⟩ : ∃ x, at' l k = x := ⟨_, rfl⟩
  rw [hx] at x0 x1 ⊢
  obtain ⟨q1, fr1⟩ := h.popped k hk
  have hal : Below (w.setCell ⟨qb, 0, none⟩ (.slice (some ⟨b, 0, none⟩) k c)).heap.size (w.setCell ⟨qb, 0, none⟩ (.slice (some ⟨b, 0, none⟩) k c)) ((w.setCell ⟨qb, 0, none⟩ (.slice (some ⟨b, 0, none⟩) k c)).alloc (.cells #[.int .i64 x.k, .int .i64 x.a] 54)) := (Below.refl _ _).alloc (Nat.le_refl _) _
  have Q1 := Lib.hid (q1.below hal)
  have FR1 := Lib.hid (fr1.trans (Fr.of_below (qb := qb) (mb := mb) (g := g) hal))
  rw [hk] at c0 hc
  have hk2 : (k : Int) + 1 ≤ 1000001 := by have := h.len; have := h.n; omega
  clear h q1 fr1 hal hx hk hg
  obtain ⟨xk, xa⟩ := x
  simp only at *
  go_enter Try.func47, Try.ntmps47
  go_wp2
  go_ret
  exact ⟨rfl, ⟨_, Q1.out⟩, FR1.out⟩
/-- append to a row of one's own, as one step of a region that draws; where the row then lies. -/
theorem step_append_at {P : Program} {ops : Array Oper} {o : Oper} {a : Act} {w : World} {K : Act → World → Prop} {Q : Exit → Act → World → Prop} {E : Prop} (hgd : o.guard = none) (s x : Operand) (t : TypeId)
    (ho : o.op = .call { callee := .builtin .append, args := #[s, x], argTypes := #[t, t] })
    (base : Nat) (e : TypeId) (i : TypeInfo) (z : Value) (size bytes : Nat) (ht : P.underlying t = some (.slice e)) (hi : P.info? e = some i) (hz : i.zero = some z)
    (hsize : i.size = size) (hby : i.bytes = bytes) (hzs : z.cells.size = size) (hsz : 0 < size)
    (v : Value) (n : Nat) (xs : List Value) (hs : a.eval s = v) (hown : w.ownsRow base e size v n xs)
    (ad : Addr) (m c : Nat) (news : List Value) (hx : a.eval x = .slice (some ad) m c) (hl : news.length = m * size) (hnews : ∀ j u, news[j]? = some u → w.cell? (ad.add j) = some u) (h1 : ∀ u ∈ news, u.oneCell' = true)
    (h63 : n + m ≤ maxLen) (hbytes : (n + m) * bytes ≤ 140737488355328) (hbase : base ≤ w.heap.size) (hm : 0 < m)
    (h : ∀ v' w', w'.ownsRow base e size v' (n + m) (xs ++ news) → w.grownBy w' v.ownBlock → (v'.ownBlock = v.ownBlock ∨ ∀ k, v'.ownBlock = some k → w.heap.size ≤ k) → K (a.put o.dst v') w') :
    if Region.wanted o (yielded ops a.tmps) = true then Oper.wp P o a w K Q else E := by
  have hw : Region.wanted o (yielded ops a.tmps) = true := by simp [Region.wanted, hgd]
  rw [if_pos hw]
  obtain ⟨v', w', hr, h2, h3, _⟩ := run_append_own (P := P) w base t o.type e i z size bytes ht hi hz hsize hby hzs hsz v n xs hown ad m c news hl hnews h1 h63 hbytes hbase
  have hv : v'.ownBlock = v.ownBlock ∨ ∀ k, v'.ownBlock = some k → w.heap.size ≤ k := by
    subst hsize
    subst hby
    have hsmall : n + m ≤ 9223372036854775807 := by simp only [maxLen] at h63; omega
    rcases hown.2 with ⟨rfl, rfl⟩ | ⟨g, cap, cur, rfl, hbg, hg, hnc, hcm, hcs, htake⟩
    · have hr2 := run_append_nil (P := P) w t o.type e i z ht hi hz ad m c news hl hnews (by omega) (by omega) (by have hb := hbytes; simp only [Nat.zero_add] at hb; omega)
      rw [hr2] at hr
      injection hr with hr
      subst hr
      right
      intro k hk
      injection hk with hk
      exact Nat.le_of_eq hk
    · by_cases hroom : n + m ≤ cap
      · have hfit : n * i.size + news.length ≤ cur.size := by rw [hl, hcs, ← Nat.add_mul]; exact Nat.mul_le_mul_right _ hroom
        have hr2 := run_append_room (P := P) w t o.type e i ht hi g n cap cur hg ad m c news hl hnews h1 hroom hfit
        rw [hr2] at hr
        injection hr with hr
        subst hr
        exact .inl rfl
      · have holds : ∀ j u, xs[j]? = some u → w.cell? ((⟨g, 0, none⟩ : Addr).add j) = some u := hown.cells (g := g) rfl
        have hr2 := run_append_grow (P := P) w t o.type e i z ht hi hz ⟨g, 0, none⟩ n cap xs hown.1 holds ad m c news hl hnews (by omega) (by omega) (growslice_fits (by omega) hbytes)
        rw [hr2] at hr
        injection hr with hr
        subst hr
        right
        intro k hk
        injection hk with hk
        exact Nat.le_of_eq hk
  unfold Oper.wp execOp
  simp only [ho, resolve, invoke, builtin, Sem.run_bind, Sem.run_pure, Result.andThen_ok, List.map_toArray, List.map_cons, List.map_nil, hs, hx, hr]
  exact h v' w' h2 h3 hv
theorem cells_new (W : World) (x : Job) (T : TypeId) : ∀ j u, (cellsJ x)[j]? = some u → (W.alloc (.cells #[.int .i64 x.k, .int .i64 x.a] T)).cell? ((⟨W.heap.size, 0, none⟩ : Addr).add j) = some u := by
  intro j u hu
  have hadd : (⟨W.heap.size, 0, none⟩ : Addr).add j = ⟨W.heap.size, j, none⟩ := by unfold Addr.add; split <;> simp_all
  rw [hadd]
  exact (World.cell?_alloc_new (w := W) _ _ j).trans (by simpa [cellsJ] using hu)
theorem cellsJ_one (p : Job) : ∀ u ∈ cellsJ p, u.oneCell' = true := by rw [← rowJ_one]; exact rowJ_one_cell
/-- Where the row now lies. -/
def Nx (W : World) (g g' : Option Nat) : Prop := g' = g ∨ ∀ k, g' = some k → W.heap.size ≤ k
theorem QS.pushed {W W1 W2 : World} {base qb mb n : Nat} {g : Option Nat} {f : Int → Option Int} {l : List Job} {v v' : Value} {x : Job} (h : QS W base qb mb g n f l v) (h1 : Below W.heap.size W W1) (hx : InI x.k) (hn : l.length < n)
    (ho : OwnJ 54 W2 base v' (l ++ [x])) (hg : W1.grownBy W2 v.ownBlock) (hv : v'.ownBlock = v.ownBlock ∨ ∀ k, v'.ownBlock = some k → W1.heap.size ≤ k) :
    Nx W g v'.ownBlock ∧ QP (W2.setCell ⟨qb, 0, none⟩ v') base qb mb v'.ownBlock n f (l ++ [x]) ∧ Fr qb mb g W (W2.setCell ⟨qb, 0, none⟩ v') := by
  rw [h.row] at hg hv
  have hq := h.cells.2.2.2
  have hmb := h.map.lt
  have b1 : W1.heap[qb]? = W.heap[qb]? := h1.block qb hq
  have b2 : W2.heap[qb]? = W1.heap[qb]? := hg.block qb (Nat.lt_of_lt_of_le hq h1.size) h.ne
  have m1 : W1.heap[mb]? = W.heap[mb]? := h1.block mb hmb
  have m2 : W2.heap[mb]? = W1.heap[mb]? := hg.block mb (Nat.lt_of_lt_of_le hmb h1.size) h.nm
  have hqn : some qb ≠ v'.ownBlock := by
    rcases hv with e | e
    · rw [e]; exact h.ne
    · intro e2; have := e qb e2.symm; have := h1.size; omega
  have hmn : some mb ≠ v'.ownBlock := by
    rcases hv with e | e
    · rw [e]; exact h.nm
    · intro e2; have := e mb e2.symm; have := h1.size; omega
  refine ⟨?_, ⟨v', heap_setCell_same W2 qb 0 _ _ _ (b2.trans (b1.trans h.box)), ho.same fun j hj => heap_setCell_other _ _ _ _ (fun e => hqn (by rw [hj, e])), rfl, (h.map.same (m2.trans m1)).same (heap_setCell_other _ _ _ _ h.nq.symm), ?_, ?_, h.n, h.bq, h.bm, hqn, hmn, h.nq⟩, ?_⟩
  · rcases hv with e | e
    · exact .inl e
    · exact .inr fun k hk => Nat.le_trans h1.size (e k hk)
  · intro y hy
    rcases List.mem_append.1 hy with hy | hy
    · exact h.keys y hy
    · rw [List.mem_singleton.1 hy]; exact hx
  · rw [List.length_append]
    simp
    omega
  · exact ((Fr.of_below h1).trans (Fr.grown hg)).trans (Fr.setBox g W2 0 v')
theorem QS.stays {W W1 W2 : World} {base qb mb n : Nat} {g : Option Nat} {f : Int → Option Int} {l : List Job} {v : Value} (h : QS W base qb mb g n f l v) (h1 : Below W.heap.size W W1) (hg : W1.grownBy W2 v.ownBlock) : W2.cell? ⟨qb, 0, none⟩ = some v ∧ W2.frozen? ⟨qb, 0, none⟩ = false := by
  rw [h.row] at hg
  have hq := h.cells.2.2.2
  have hb : W2.heap[qb]? = some (.cells #[v, .map (some mb)] 51 (0, 0)) := ((hg.block qb (Nat.lt_of_lt_of_le hq h1.size) h.ne).trans (h1.block qb hq)).trans h.box
  exact ⟨by simp [World.cell?, hb], by simp [World.frozen?, hb]⟩
set_option maxHeartbeats 2000000 in
set_option maxRecDepth 100000 in
theorem hpush_any {base qb mb n : Nat} {g : Option Nat} {f : Int → Option Int} {l : List Job} (w : World) (h : QP w base qb mb g n f l) (x : Job) (hx : InI x.k) (hn : l.length < n) :
    Calls Try.prog 48 #[.pointer (some ⟨qb, 0, none⟩), .iface 54 (.agg #[.int .i64 x.k, .int .i64 x.a])] w fun e w' => e = .returned (.tuple #[]) ∧ ∃ g', Nx w g g' ∧ QP w' base qb mb g' n f (l ++ [x]) ∧ Fr qb mb g w w' := by
  obtain ⟨v, h⟩ := h
  obtain ⟨c0, c1, f0, hq⟩ := h.cells
  have H := Lib.hid h
  have hlen : l.length ≤ 1000000 := by have := h.n; omega
  have hbase := h.lo
  obtain ⟨a, c, hv⟩ := h.own.shape
  obtain ⟨i0, hi0, hz0, hz1, hz2⟩ := info_parts infoJ
  obtain ⟨len, hl⟩ : ∃ len, l.length = len := ⟨_, rfl⟩
  have hoj := h.own
  have HL := Lib.hid hl
  have HN := Lib.hid hn
  have HX := Lib.hid hx
  have hal : Below w.heap.size w ((w.alloc (.cells #[.int .i64 x.k, .int .i64 x.a] 54)).drew) := ((Below.refl _ _).alloc (Nat.le_refl _) _).drew
  have HAL := Lib.hid hal
  have HOW : Hid (OwnJ 54 ((w.alloc (.cells #[.int .i64 x.k, .int .i64 x.a] 54)).drew) base v l) := (h.below hal).own
  unfold OwnJ at HOW
  rw [hl] at hv HOW hlen
  subst hv
  clear h hal hoj hl hn hx
  have HNW := Lib.hid (cells_new w x 54)
  have hb2 : base ≤ (w.alloc (.cells #[.int .i64 x.k, .int .i64 x.a] 54)).heap.size := by rw [World.size_alloc]; omega
  have hT := assertJ (.agg #[.int .i64 x.k, .int .i64 x.a])
  go_enter Try.func48, Try.ntmps48
  go_wp2
  go_region_law (refine step_append_at rfl (.tmp 8) (.tmp 11) 47 rfl base 54 i0 (.agg #[.int .i64 0, .int .i64 0]) 2 16 Try.underlying47 hi0 hz0 hz1 hz2 rfl (by decide) _ len (rowJ l) rfl HOW.out ⟨w.heap.size, 0, none⟩ 1 1 (cellsJ x) rfl rfl HNW.out (cellsJ_one x) (by unfold maxLen; omega) (by omega) hb2 (by decide) ?_; intro v1 w4 ho1 hg1 hv1; have HE : Hid (Nx w g v1.ownBlock ∧ QP (w4.setCell ⟨qb, 0, none⟩ v1) base qb mb v1.ownBlock n f (l ++ [x]) ∧ Fr qb mb g w (w4.setCell ⟨qb, 0, none⟩ v1)) := (H.out.pushed HAL.out HX.out HN.out (by unfold OwnJ; rw [List.length_append, HL.out, rowJ_append, rowJ_one]; exact ho1) hg1 hv1); obtain ⟨k0, k1⟩ := H.out.stays HAL.out hg1; obtain ⟨A1, m1, c1', rfl⟩ : ∃ A m c, v1 = .slice A m c := (by rcases ho1.2 with ⟨e, _⟩ | ⟨g2, c2, _, e, _⟩ <;> exact ⟨_, _, _, e⟩); clear ho1 hg1 hv1)
  all_goals
    go_end0
    exact ⟨rfl, _, HE.out⟩
end Go.Proofs.Ytaaaefoanjggcaa
