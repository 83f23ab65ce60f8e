/-
  ITEMS IN MEMORY OF ONE's OWN: a slice of items that the call itself made, grown by append.
-/
import Derived.Test.YthdlcpnmldhllaaDoorPEnc
namespace Go.Proofs.YthdlcpnmldhllaaDoor
open Go.RowKit
theorem Tryd.info84 : (Tryd.prog.info? 84).map (fun i => (i.zero, i.size, i.bytes)) = some (some (.agg #[.int .i64 0, .int .i64 0, .int .i64 0, .slice none 0 0]), 4, 48) := by kernel_rfl

/-- Cells that describe items, whose bytes lie below n₀. -/
def CellsI (n₀ : Nat) (w : World) (l : List It) (xs : List Value) : Prop :=
  xs.length = l.length * 4 ∧ ∀ j x, l[j]? = some x → xs[j * 4]? = some (.int .i64 x.kind) ∧ xs[j * 4 + 1]? = some (.int .i64 x.id) ∧ xs[j * 4 + 2]? = some (.int .i64 x.n) ∧
    ∃ A cap, xs[j * 4 + 3]? = some (.slice A x.bs.length cap) ∧ x.bs.length ≤ cap ∧ cap ≤ maxLen ∧ Rd .u8 n₀ w A x.bs

theorem CellsI.nil (n₀ : Nat) (w : World) : CellsI n₀ w [] [] := ⟨rfl, fun j x hx => by simp at hx⟩
theorem CellsI.one {n₀ : Nat} {w : World} {x : It} {A : Option Addr} {cap : Nat} (h1 : x.bs.length ≤ cap) (h2 : cap ≤ maxLen) (h : Rd .u8 n₀ w A x.bs) :
    CellsI n₀ w [x] [.int .i64 x.kind, .int .i64 x.id, .int .i64 x.n, .slice A x.bs.length cap] := by
  refine ⟨rfl, fun j y hy => ?_⟩
  match j, hy with
  | 0, hy =>
    simp only [List.getElem?_cons_zero, Option.some.injEq] at hy
    subst hy
    exact ⟨rfl, rfl, rfl, A, cap, rfl, h1, h2, h⟩
  | j + 1, hy => simp at hy
theorem CellsI.below {n₀ : Nat} {w w' : World} {l : List It} {xs : List Value} (h : CellsI n₀ w l xs) (hb : Below n₀ w w') : CellsI n₀ w' l xs := ⟨h.1, fun j x hx => by
  obtain ⟨c0, c1, c2, A, cap, c3, h1, h2, hr⟩ := h.2 j x hx
  exact ⟨c0, c1, c2, A, cap, c3, h1, h2, hr.below hb⟩⟩
theorem CellsI.mono {n₀ n₁ : Nat} {w : World} {l : List It} {xs : List Value} (h : CellsI n₀ w l xs) (hn : n₀ ≤ n₁) : CellsI n₁ w l xs := ⟨h.1, fun j x hx => by
  obtain ⟨c0, c1, c2, A, cap, c3, h1, h2, hr⟩ := h.2 j x hx
  exact ⟨c0, c1, c2, A, cap, c3, h1, h2, hr.mono hn⟩⟩
theorem CellsI.append {n₀ : Nat} {w : World} {l m : List It} {xs ys : List Value} (h : CellsI n₀ w l xs) (hm : CellsI n₀ w m ys) : CellsI n₀ w (l ++ m) (xs ++ ys) := by
  refine ⟨by rw [List.length_append, List.length_append, h.1, hm.1]; omega, fun j x hx => ?_⟩
  rcases Nat.lt_or_ge j l.length with hj | hj
  · rw [List.getElem?_append_left hj] at hx
    obtain ⟨c0, c1, c2, A, cap, c3, h1, h2, hr⟩ := h.2 j x hx
    have hl := h.1
    exact ⟨by rw [List.getElem?_append_left (by omega)]; exact c0, by rw [List.getElem?_append_left (by omega)]; exact c1, by rw [List.getElem?_append_left (by omega)]; exact c2, A, cap, by rw [List.getElem?_append_left (by omega)]; exact c3, h1, h2, hr⟩
  · rw [List.getElem?_append_right hj] at hx
    obtain ⟨c0, c1, c2, A, cap, c3, h1, h2, hr⟩ := hm.2 (j - l.length) x hx
    have hl := h.1
    refine ⟨?_, ?_, ?_, A, cap, ?_, h1, h2, hr⟩
    · rw [List.getElem?_append_right (by omega), show j * 4 - xs.length = (j - l.length) * 4 by omega]; exact c0
    · rw [List.getElem?_append_right (by omega), show j * 4 + 1 - xs.length = (j - l.length) * 4 + 1 by omega]; exact c1
    · rw [List.getElem?_append_right (by omega), show j * 4 + 2 - xs.length = (j - l.length) * 4 + 2 by omega]; exact c2
    · rw [List.getElem?_append_right (by omega), show j * 4 + 3 - xs.length = (j - l.length) * 4 + 3 by omega]; exact c3
theorem CellsI.one_cell {n₀ : Nat} {w : World} {l : List It} {xs : List Value} (h : CellsI n₀ w l xs) : ∀ u ∈ xs, u.oneCell' = true := fun u hu => by
  obtain ⟨i, hi, rfl⟩ := List.getElem_of_mem hu
  have hl := h.1
  have hj : i / 4 < l.length := by omega
  obtain ⟨c0, c1, c2, A, cap, c3, _⟩ := h.2 (i / 4) _ (List.getElem?_eq_getElem hj)
  have hg : xs[i]? = some xs[i] := List.getElem?_eq_getElem hi
  have h4 : i % 4 = 0 ∨ i % 4 = 1 ∨ i % 4 = 2 ∨ i % 4 = 3 := by omega
  rcases h4 with h4 | h4 | h4 | h4
  · rw [show i / 4 * 4 = i by omega, hg] at c0; injection c0 with c0; rw [c0]; rfl
  · rw [show i / 4 * 4 + 1 = i by omega, hg] at c1; injection c1 with c1; rw [c1]; rfl
  · rw [show i / 4 * 4 + 2 = i by omega, hg] at c2; injection c2 with c2; rw [c2]; rfl
  · rw [show i / 4 * 4 + 3 = i by omega, hg] at c3; injection c3 with c3; rw [c3]; rfl

/-- What an append takes: the cells of its source. -/
def SrcI (n₀ : Nat) (w : World) (A : Option Addr) (m : List It) : Prop :=
  ∃ ys, CellsI n₀ w m ys ∧ match A with
    | none => m = []
    | some ad => ∀ j u, ys[j]? = some u → w.cell? (ad.add j) = some u
theorem SrcI.mono {n₀ n₁ : Nat} {w : World} {A : Option Addr} {m : List It} (h : SrcI n₀ w A m) (hn : n₀ ≤ n₁) : SrcI n₁ w A m := by
  obtain ⟨ys, hc, h⟩ := h
  exact ⟨ys, hc.mono hn, h⟩

theorem RdI.src {n₀ : Nat} {w : World} {A : Option Addr} {m : List It} (h : RdI n₀ w A m) : SrcI n₀ w A m := by
  by_cases hm : 0 < m.length
  · obtain ⟨b, off, rfl, hb, hc⟩ := h hm
    have hat : ∀ i, i < m.length * 4 → ∃ u, w.cell? ⟨b, off + i, none⟩ = some u := by
      intro i hi
      obtain ⟨c0, c1, c2, A, cap, c3, _⟩ := hc (i / 4) _ (List.getElem?_eq_getElem (show i / 4 < m.length by omega))
      have h4 : i % 4 = 0 ∨ i % 4 = 1 ∨ i % 4 = 2 ∨ i % 4 = 3 := by omega
      rcases h4 with h4 | h4 | h4 | h4
      · rw [show off + i / 4 * 4 = off + i by omega] at c0; exact ⟨_, c0⟩
      · rw [show off + i / 4 * 4 + 1 = off + i by omega] at c1; exact ⟨_, c1⟩
      · rw [show off + i / 4 * 4 + 2 = off + i by omega] at c2; exact ⟨_, c2⟩
      · rw [show off + i / 4 * 4 + 3 = off + i by omega] at c3; exact ⟨_, c3⟩
    have hg : ∀ i, i < m.length * 4 → ((List.range (m.length * 4)).map fun i => (w.cell? ⟨b, off + i, none⟩).getD (.int .i64 0))[i]? = w.cell? ⟨b, off + i, none⟩ := by
      intro i hi
      obtain ⟨u, hu⟩ := hat i hi
      simp [hi, hu]
    refine ⟨(List.range (m.length * 4)).map fun i => (w.cell? ⟨b, off + i, none⟩).getD (.int .i64 0), ⟨by simp, fun j x hx => ?_⟩, ?_⟩
    · have hj : j < m.length := by
        rcases Nat.lt_or_ge j m.length with h1 | h1
        · exact h1
        · rw [List.getElem?_eq_none h1] at hx; cases hx
      obtain ⟨c0, c1, c2, A, cap, c3, h1, h2, hr⟩ := hc j x hx
      exact ⟨(hg _ (by omega)).trans c0, (hg _ (by omega)).trans c1, (hg _ (by omega)).trans c2, A, cap, (hg _ (by omega)).trans c3, h1, h2, hr⟩
    · intro j u hu
      have hj : j < m.length * 4 := by
        rcases Nat.lt_or_ge j (m.length * 4) with h1 | h1
        · exact h1
        · rw [List.getElem?_eq_none (by simpa using h1)] at hu; cases hu
      have hadd : (⟨b, off, none⟩ : Addr).add j = ⟨b, off + j, none⟩ := by unfold Addr.add; split <;> simp_all
      rw [hadd, ← hg j hj]
      exact hu
  · obtain rfl : m = [] := List.eq_nil_of_length_eq_zero (by omega)
    refine ⟨[], CellsI.nil _ _, ?_⟩
    cases A with
    | none => rfl
    | some ad => intro j u hu; simp at hu

/-- A slice of items over memory of one's own, at or above base; the items' bytes lie below base. -/
def OwnI (w : World) (base : Nat) (v : Value) (l : List It) : Prop := ∃ xs, w.ownsRow base 84 4 v l.length xs ∧ CellsI base w l xs

theorem OwnI.src {w : World} {base : Nat} {A : Option Addr} {n c : Nat} {l : List It} (h : OwnI w base (.slice A n c) l) : SrcI base w A l := by
  obtain ⟨xs, ho, hc⟩ := h
  refine ⟨xs, hc, ?_⟩
  rcases ho.2 with ⟨hv, hl⟩ | ⟨g, cap, cur, hv, _⟩
  · injection hv with hv
    subst hv
    exact List.eq_nil_of_length_eq_zero hl
  · injection hv with hv
    subst hv
    exact fun j u hu => ho.cells (g := g) rfl j u hu
theorem OwnI.form {w : World} {base : Nat} {v : Value} {l : List It} (h : OwnI w base v l) : ∃ A cap, v = .slice A l.length cap ∧ l.length ≤ cap := by
  obtain ⟨xs, ho, hc⟩ := h
  exact own_form ho
theorem OwnI.rd {w : World} {base n₁ : Nat} {A : Option Addr} {n c : Nat} {l : List It} (h : OwnI w base (.slice A n c) l) (hn : base ≤ n₁) (hs : w.heap.size ≤ n₁) : RdI n₁ w A l := fun hp => by
  obtain ⟨xs, ho, hc⟩ := h
  obtain ⟨g, cap, e, hb, hg⟩ := ho.form hp
  injection e with e1 e2 e3
  subst e1 e2 e3
  have hadd : ∀ k, (⟨g, 0, none⟩ : Addr).add k = ⟨g, 0 + k, none⟩ := fun k => by unfold Addr.add; split <;> simp_all
  refine ⟨g, 0, rfl, by omega, fun j x hx => ?_⟩
  obtain ⟨c0, c1, c2, S, cap, c3, h1, h2, hr⟩ := hc.2 j x hx
  have g0 := ho.cells (g := g) rfl _ _ c0
  have g1 := ho.cells (g := g) rfl _ _ c1
  have g2 := ho.cells (g := g) rfl _ _ c2
  have g3 := ho.cells (g := g) rfl _ _ c3
  rw [hadd] at g0 g1 g2 g3
  exact ⟨g0, g1, g2, S, cap, g3, h1, h2, hr.mono hn⟩
theorem OwnI.below {w w' : World} {base B : Nat} {v : Value} {l : List It} (h : OwnI w base v l) (hb : Below B w w') (hB : w.heap.size ≤ B ∨ ∀ k, v.ownBlock = some k → k < B) (hbB : base ≤ B) : OwnI w' base v l := by
  obtain ⟨xs, ho, hc⟩ := h
  refine ⟨xs, own_below ho hb (fun k hk => ?_), hc.below (hb.mono hbB)⟩
  rcases hB with hB | hB
  · have := (ho.lt k hk).2; omega
  · exact hB k hk
theorem OwnI.lt {w : World} {base : Nat} {v : Value} {l : List It} (h : OwnI w base v l) : ∀ k, v.ownBlock = some k → base ≤ k ∧ k < w.heap.size := by
  obtain ⟨xs, ho, hc⟩ := h
  exact ho.lt
theorem OwnI.none (w : World) (base : Nat) : OwnI w base (.slice none 0 0) [] := ⟨[], World.ownsRow_nil _ _ _ _, CellsI.nil _ _⟩
/-- A slice that is built of no items. -/
theorem OwnI.empty (w : World) : OwnI (w.alloc (.cells #[] 84)) w.heap.size (.slice (some ⟨w.heap.size, 0, Option.none⟩) 0 0) [] :=
  ⟨[], ⟨rfl, .inr ⟨w.heap.size, 0, #[], rfl, Nat.le_refl _, heap_alloc_new w _, Nat.le_refl _, by unfold maxLen; omega, rfl, rfl⟩⟩, CellsI.nil _ _⟩
theorem OwnI.one (w : World) (x : It) {A : Option Addr} {cap : Nat} (h1 : x.bs.length ≤ cap) (h2 : cap ≤ maxLen) (h : Rd .u8 w.heap.size w A x.bs) :
    OwnI (w.alloc (.cells #[.int .i64 x.kind, .int .i64 x.id, .int .i64 x.n, .slice A x.bs.length cap] 84)) w.heap.size (.slice (some ⟨w.heap.size, 0, Option.none⟩) 1 1) [x] :=
  ⟨_, ⟨rfl, .inr ⟨w.heap.size, 1, _, rfl, Nat.le_refl _, heap_alloc_new w _, Nat.le_refl _, by unfold maxLen; omega, rfl, rfl⟩⟩, CellsI.one h1 h2 (h.below ((Below.refl _ w).alloc (Nat.le_refl _) _))⟩
theorem OwnI.two (w : World) (x y : It) {A B : Option Addr} {ca cb : Nat} (h1 : x.bs.length ≤ ca) (h2 : ca ≤ maxLen) (h : Rd .u8 w.heap.size w A x.bs) (k1 : y.bs.length ≤ cb) (k2 : cb ≤ maxLen) (k : Rd .u8 w.heap.size w B y.bs) :
    OwnI (w.alloc (.cells #[.int .i64 x.kind, .int .i64 x.id, .int .i64 x.n, .slice A x.bs.length ca, .int .i64 y.kind, .int .i64 y.id, .int .i64 y.n, .slice B y.bs.length cb] 84)) w.heap.size (.slice (some ⟨w.heap.size, 0, Option.none⟩) 2 2) [x, y] :=
  ⟨_, ⟨rfl, .inr ⟨w.heap.size, 2, _, rfl, Nat.le_refl _, heap_alloc_new w _, Nat.le_refl _, by unfold maxLen; omega, rfl, rfl⟩⟩,
    (CellsI.one h1 h2 (h.below ((Below.refl _ w).alloc (Nat.le_refl _) _))).append (CellsI.one k1 k2 (k.below ((Below.refl _ w).alloc (Nat.le_refl _) _)))⟩

theorem wpList_append_items {w : World} {ops : Array Oper} {rest : List Oper} {o : Oper} {a : Act} {Q : Exit → Act → World → Prop} (hgd : o.guard = Option.none) (s x : Operand)
    (ho : o.op = .call { callee := .builtin .append, args := #[s, x], argTypes := #[52, 52] }) (base : Nat) (v : Value) (l : List It) (hs : a.eval s = v) (hown : OwnI w base v l)
    (A : Option Addr) (m : List It) (n c : Nat) (hx : a.eval x = .slice A n c) (hn : n = m.length) (hr : SrcI base w A m) (hlen : l.length + m.length ≤ 1000000) (hbase : base ≤ w.heap.size)
    (h : ∀ v' w', OwnI w' base v' (l ++ m) → Below base w w' → w.grownBy w' v.ownBlock → wpList Tryd.prog ops Q rest (a.put o.dst v') w') : wpList Tryd.prog ops Q (o :: rest) a w := by
  subst hn
  obtain ⟨i0, hi, hz0, hz1, hz2⟩ := info_parts Tryd.info84
  obtain ⟨xs, hrow, hc⟩ := hown
  obtain ⟨ys, hm, hsrc⟩ := hr
  cases A with
  | none =>
    simp only at hsrc
    subst hsrc
    refine wpList_append_nilc hgd s x 52 ho base 84 i0 4 Tryd.underlying52 hi v l.length xs hs hrow 0 c hx rfl (h v w ?_ (Below.refl _ _) ?_)
    · rw [List.append_nil]
      exact ⟨xs, hrow, hc⟩
    · exact ⟨rfl, rfl, rfl, Nat.le_refl _, fun _ _ _ => rfl⟩
  | some ad =>
    simp only at hsrc
    refine wpList_append_own w hgd s x 52 ho base 84 i0 _ 4 48 Tryd.underlying52 hi hz0 hz1 hz2 rfl (by decide) v l.length xs hs hrow ad m.length c ys hx hm.1 hsrc hm.one_cell (by unfold maxLen; omega) (by omega) hbase ?_
    intro v' w' h1 h2 _
    have hbel := (Below.refl base w).grown h2 hbase (fun j hj => (hrow.lt j hj).1)
    refine h v' w' ⟨xs ++ ys, by rw [List.length_append]; exact h1, (hc.append hm).below hbel⟩ hbel h2
end Go.Proofs.YthdlcpnmldhllaaDoor
