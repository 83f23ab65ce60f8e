/-
  ITEMS: a slice of items that came in, as the list of its elements: three numbers and some bytes each.
-/
import Derived.Test.YthdlcpnmldhllaaDoorRowIn
import Derived.Deep.Slices
import Derived.Lib.SmallJoins
namespace Go.Proofs.YthdlcpnmldhllaaDoor
open Go.RowKit Go.ChangeShapes Go.WideShapes

/-- An item, as data. -/
structure It where
  kind : Int
  id : Int
  n : Int
  bs : List Int

/-- A slice of items reads as l: of each item its three numbers and its bytes. -/
def RdI (n₀ : Nat) (w : World) (a : Option Addr) (l : List It) : Prop :=
  0 < l.length → ∃ b off, a = some ⟨b, off, none⟩ ∧ b < n₀ ∧ ∀ j x, l[j]? = some x →
    w.cell? ⟨b, off + j * 4, none⟩ = some (.int .i64 x.kind) ∧ w.cell? ⟨b, off + j * 4 + 1, none⟩ = some (.int .i64 x.id) ∧ w.cell? ⟨b, off + j * 4 + 2, none⟩ = some (.int .i64 x.n) ∧
    ∃ A cap, w.cell? ⟨b, off + j * 4 + 3, none⟩ = some (.slice A x.bs.length cap) ∧ x.bs.length ≤ cap ∧ cap ≤ maxLen ∧ Rd .u8 n₀ w A x.bs
/-- Its numbers are ints, its bytes are bytes. -/
def It.ok (x : It) : Prop := (Lit.int .i64 x.kind).wf = true ∧ (Lit.int .i64 x.id).wf = true ∧ (Lit.int .i64 x.n).wf = true ∧ ∀ y ∈ x.bs, (Lit.int .u8 y).wf = true

theorem RdI.below {n₀ : Nat} {A B : World} {a : Option Addr} {l : List It} (r : RdI n₀ A a l) (h : Below n₀ A B) : RdI n₀ B a l := fun hp => by
  obtain ⟨b, off, e, hb, hc⟩ := r hp
  refine ⟨b, off, e, hb, fun j x hx => ?_⟩
  obtain ⟨c0, c1, c2, S, cap, c3, hl, hm, hr⟩ := hc j x hx
  exact ⟨(h.cell (p := ⟨b, _, none⟩) hb).trans c0, (h.cell (p := ⟨b, _, none⟩) hb).trans c1, (h.cell (p := ⟨b, _, none⟩) hb).trans c2, S, cap, (h.cell (p := ⟨b, _, none⟩) hb).trans c3, hl, hm, hr.below h⟩
theorem RdI.mono {n₀ n₁ : Nat} {A : World} {a : Option Addr} {l : List It} (r : RdI n₀ A a l) (h : n₀ ≤ n₁) : RdI n₁ A a l := fun hp => by
  obtain ⟨b, off, e, hb, hc⟩ := r hp
  refine ⟨b, off, e, by omega, fun j x hx => ?_⟩
  obtain ⟨c0, c1, c2, S, cap, c3, hl, hm, hr⟩ := hc j x hx
  exact ⟨c0, c1, c2, S, cap, c3, hl, hm, hr.mono h⟩

theorem mem_weightsAll {H : Type} {P : Program} {e : TypeId} {ds : List (DataW H)} {d : DataW H} (hd : d ∈ ds) {n : Nat} (hn : n ∈ d.weights P e) : n ∈ DataW.weightsAll P e ds := by
  induction ds with
  | nil => simp at hd
  | cons y ds ih =>
    simp only [DataW.weightsAll, List.mem_append]
    rcases List.mem_cons.1 hd with rfl | hd
    · exact .inl hn
    · exact .inr (ih hd)

section
variable {H : Type} {enc : TypeId × Value → H} {P : Program} {w : World}

/-- A slice of bytes, as 'open_ints' has it, reads as the list of its elements. -/
theorem ints_read {t e : TypeId} {k : IntKind} {fuel : Nat} {held : Bool} {v : Value} {x : DataW H × List MemPlace} (ht : P.underlying t = some (.slice e)) (he : P.underlying e = some (.int k)) (hc : P.cellsOf e = 1)
    (h : DataW.trod enc P w 0 (fun _ => true) held fuel t [v] = some x) {M : Nat} (hM : ∀ n ∈ x.1.weights P t, n ≤ M) :
    ∃ (A : Option Addr) (zs : List Int) (cap : Nat), v = .slice A zs.length cap ∧ zs.length ≤ cap ∧ cap ≤ maxLen ∧ Rd k w.heap.size w A zs ∧ (∀ y ∈ zs, (Lit.int k y).wf = true) ∧ cap * P.bytesOf e ≤ M := by
  rcases open_ints ht he hc h with ⟨hcs, _⟩ | ⟨a, l, c, zs, hcs, _, hl, hm, hz, rfl, hcell, hwz⟩
  · injection hcs with hcs
    exact ⟨none, [], 0, hcs, Nat.le_refl _, Nat.zero_le _, fun hp => by simp at hp, by simp, by simp⟩
  · injection hcs with hcs
    have hrow : IsRow k w (some a) l c zs := .inr ⟨a, rfl, hl, hm, by simpa using hz, hcell, hwz⟩
    obtain ⟨ys, e1, e2, e3, e4, e5⟩ := hrow.read
    refine ⟨some a, ys, c, by rw [e1]; exact hcs, by omega, e3, e4, e5, ?_⟩
    have hz' : zs.length = c := by simpa using hz
    have := hM ((zs.take l).length * P.bytesOf e + (zs.drop l).length * P.bytesOf e) (by simp [DataW.weights, ht, lits, Nat.add_mul])
    rw [← Nat.add_mul, List.length_take, List.length_drop] at this
    rwa [show min l zs.length + (zs.length - l) = c by omega] at this

/-- THE CELLS OF ONE ITEM. -/
theorem item_read {t e i u : TypeId} {f0 f1 f2 f3 : Field} {fuel : Nat} {held : Bool} {cs : List Value} {x : DataW H × List MemPlace}
    (ht : P.underlying t = some (.struct #[f0, f1, f2, f3])) (h4 : P.cellsOf t = 4) (hi : P.underlying i = some (.int .i64)) (hic : P.cellsOf i = 1) (hu : P.underlying u = some (.int .u8)) (huc : P.cellsOf u = 1)
    (he : P.underlying e = some (.slice u)) (hec : P.cellsOf e = 1)
    (t0 : f0.type = i ∧ f0.offset = 0) (t1 : f1.type = i ∧ f1.offset = 1) (t2 : f2.type = i ∧ f2.offset = 2) (t3 : f3.type = e ∧ f3.offset = 3)
    (h : DataW.trod enc P w 0 (fun _ => true) held fuel t cs = some x) {M : Nat} (hM : ∀ n ∈ x.1.weights P t, n ≤ M) :
    ∃ (y : It) (A : Option Addr) (cap : Nat), cs = [.int .i64 y.kind, .int .i64 y.id, .int .i64 y.n, .slice A y.bs.length cap] ∧ y.bs.length ≤ cap ∧ cap ≤ maxLen ∧ Rd .u8 w.heap.size w A y.bs ∧ y.ok ∧ cap * P.bytesOf u ≤ M := by
  obtain ⟨y0, y1, y2, y3, m, rfl, hl, g0, g1, g2, g3⟩ := Go.Joins.trod_struct4 ht h
  have hM3 : ∀ n ∈ y3.1.weights P e, n ≤ M := fun n hn => hM n (by simp [DataW.weights, DataW.weightsEach, ht, t3.1, hn])
  rw [h4] at hl
  match cs, hl with
  | [c0, c1, c2, c3], _ =>
    rw [t0.1, t0.2, hic] at g0
    rw [t1.1, t1.2, hic] at g1
    rw [t2.1, t2.2, hic] at g2
    rw [t3.1, t3.2, hec] at g3
    simp only [List.drop_zero, List.drop_succ_cons, List.take_succ_cons, List.take_zero] at g0 g1 g2 g3
    obtain ⟨n0, e0, _, w0⟩ := DataW.trod_int hi g0
    obtain ⟨n1, e1, _, w1⟩ := DataW.trod_int hi g1
    obtain ⟨n2, e2, _, w2⟩ := DataW.trod_int hi g2
    obtain ⟨A, zs, cap, rfl, hzc, hcm, hrd, hwf, hcM⟩ := ints_read he hu huc g3 hM3
    injection e0 with e0
    injection e1 with e1
    injection e2 with e2
    subst e0 e1 e2
    exact ⟨⟨n0, n1, n2, zs⟩, A, cap, rfl, hzc, hcm, hrd, ⟨w0, w1, w2, hwf⟩, hcM⟩

/-- A SLICE OF ITEMS THAT CAME IN, as the list of its elements. -/
theorem items_read {s t e i u : TypeId} {f0 f1 f2 f3 : Field} {fuel : Nat} {held : Bool} {v : Value} {x : DataW H × List MemPlace} (hs : P.underlying s = some (.slice t))
    (ht : P.underlying t = some (.struct #[f0, f1, f2, f3])) (h4 : P.cellsOf t = 4) (hi : P.underlying i = some (.int .i64)) (hic : P.cellsOf i = 1) (hu : P.underlying u = some (.int .u8)) (huc : P.cellsOf u = 1)
    (he : P.underlying e = some (.slice u)) (hec : P.cellsOf e = 1)
    (t0 : f0.type = i ∧ f0.offset = 0) (t1 : f1.type = i ∧ f1.offset = 1) (t2 : f2.type = i ∧ f2.offset = 2) (t3 : f3.type = e ∧ f3.offset = 3)
    (h : DataW.trod enc P w 0 (fun _ => true) held fuel s [v] = some x) {M : Nat} (hM : ∀ n ∈ x.1.weights P s, n ≤ M) :
    ∃ (A : Option Addr) (l : List It) (cap : Nat), v = .slice A l.length cap ∧ l.length ≤ cap ∧ cap ≤ maxLen ∧ RdI w.heap.size w A l ∧ (∀ y ∈ l, y.ok) ∧ cap * P.bytesOf t ≤ M ∧ ∀ y ∈ l, y.bs.length * P.bytesOf u ≤ M := by
  rcases Go.Deep.open_slice hs h with ⟨hcs, _⟩ | ⟨a, len, cap, m, n, D, Pl, hcs, _, hl, hm, hmm, rfl, hall⟩
  · injection hcs with hcs
    exact ⟨none, [], 0, hcs, Nat.le_refl _, Nat.zero_le _, fun hp => by simp at hp, by simp, by simp, by simp⟩
  · injection hcs with hcs
    subst hcs
    simp only [if_true] at hmm
    subst hmm
    rw [h4] at hall
    have hD : ∀ i', i' < m → ∀ n ∈ (D i').weights P t, n ≤ M := fun i' hi' n hn => hM n (by
      simp only [DataW.weights, hs, List.mem_cons, List.mem_append]
      rcases Nat.lt_or_ge i' len with hlt | hge
      · exact .inr (.inl (mem_weightsAll (List.mem_map.2 ⟨i', List.mem_range.2 hlt, rfl⟩) hn))
      · exact .inr (.inr (mem_weightsAll (List.mem_map.2 ⟨i' - len, List.mem_range.2 (by omega), by rw [show len + (i' - len) = i' by omega]⟩) hn)))
    have hcapM : m * P.bytesOf t ≤ M := by
      have := hM ((((List.range len).map D).length + ((List.range (m - len)).map fun j => D (len + j)).length) * P.bytesOf t) (by simp [DataW.weights, hs])
      simp only [List.length_map, List.length_range] at this
      rwa [show len + (m - len) = m by omega] at this
    have hall2 : ∀ i', i' < m → ∃ (q : It × Option Addr × Nat), w.cells? 0 (a.add (i' * 4)) 4 = some [.int .i64 q.1.kind, .int .i64 q.1.id, .int .i64 q.1.n, .slice q.2.1 q.1.bs.length q.2.2] ∧ q.1.bs.length ≤ q.2.2 ∧ q.2.2 ≤ maxLen ∧ Rd .u8 w.heap.size w q.2.1 q.1.bs ∧ q.1.ok ∧ q.2.2 * P.bytesOf u ≤ M := by
      intro i' hi'
      obtain ⟨cs, hcs, htr⟩ := hall i' hi'
      obtain ⟨y, A, c, e1, e2, e3, e4, e5, e6⟩ := item_read ht h4 hi hic hu huc he hec t0 t1 t2 t3 htr (hD i' hi')
      subst e1
      exact ⟨(y, A, c), hcs, e2, e3, e4, e5, e6⟩
    haveI : Inhabited (It × Option Addr × Nat) := ⟨(⟨0, 0, 0, []⟩, none, 0)⟩
    obtain ⟨f, hf⟩ := Go.Deep.choose_lt hall2
    refine ⟨some a, (List.range len).map fun j => (f j).1, m, by simp, by simpa using hl, hm, fun hp => ?_, ?_, hcapM, ?_⟩
    · have hlen : 0 < len := by simpa using hp
      have cell : ∀ j, j < m → ∀ k, k < 4 → w.cell? (a.add (j * 4 + k)) = [Value.int .i64 (f j).1.kind, .int .i64 (f j).1.id, .int .i64 (f j).1.n, .slice (f j).2.1 (f j).1.bs.length (f j).2.2][k]? := fun j hj k hk => by
        have := (World.cells?_some (hf j hj).1).2.2 k hk
        rwa [Go.Deep.add_add] at this
      obtain ⟨b, off, spot⟩ := a
      have h0 := cell 0 (by omega) 0 (by omega)
      have hspot : spot = none := by simpa [Addr.add] using World.cell?_spot (h0.trans rfl)
      subst hspot
      have plain : ∀ k, (⟨b, off, none⟩ : Addr).add k = ⟨b, off + k, none⟩ := fun k => by unfold Addr.add; split <;> simp_all
      rw [plain] at h0
      refine ⟨b, off, rfl, World.block_lt_of_cell? w _ (h0.trans rfl), fun j x hx => ?_⟩
      have hj : j < len := by
        rcases Nat.lt_or_ge j len with h1 | h1
        · exact h1
        · rw [List.getElem?_eq_none (by simpa using h1)] at hx; cases hx
      obtain rfl : (f j).1 = x := by simpa [hj] using hx
      have hjm : j < m := by omega
      have g0 := cell j hjm 0 (by omega)
      have g1 := cell j hjm 1 (by omega)
      have g2 := cell j hjm 2 (by omega)
      have g3 := cell j hjm 3 (by omega)
      rw [plain] at g0 g1 g2 g3
      obtain ⟨_, q1, q2, q3, _⟩ := hf j hjm
      exact ⟨g0, g1, g2, _, _, g3, q1, q2, q3⟩
    · intro y hy
      obtain ⟨j, hj, rfl⟩ := List.mem_map.1 hy
      exact (hf j (by have := List.mem_range.1 hj; omega)).2.2.2.2.1
    · intro y hy
      obtain ⟨j, hj, rfl⟩ := List.mem_map.1 hy
      obtain ⟨_, h1, _, _, _, h2⟩ := hf j (by have := List.mem_range.1 hj; omega)
      exact Nat.le_trans (Nat.mul_le_mul_right _ h1) h2
end
end Go.Proofs.YthdlcpnmldhllaaDoor
