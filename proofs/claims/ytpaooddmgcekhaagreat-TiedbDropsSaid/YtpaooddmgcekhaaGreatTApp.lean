/-
  APPENDING HEADS: rows of one's own grow by rows that may be read; parts of rows.
-/
import Derived.Test.YtpaooddmgcekhaaGreatTSame
import Derived.Laws.AppendOwn
namespace Go.Proofs.YtpaooddmgcekhaaGreat.ti
set_option linter.unusedSimpArgs false
set_option linter.unusedVariables false
open Go.RowKit
theorem infoH : (Tryz.prog.info? 35).map (fun i => (i.zero, i.size, i.bytes)) = some (some (.agg #[.int .i64 0, .int .i64 0, .int .i64 0, .int .i64 0, .int .i64 0, .int .i64 0]), 6, 48) := by kernel_rfl
theorem add_off (b off j : Nat) : (⟨b, off, none⟩ : Addr).add j = ⟨b, off + j, none⟩ := by unfold Addr.add; split <;> simp_all
theorem run_append_nilc {P : Program} {w : World} (base : Nat) (t ty e : TypeId) (i : TypeInfo) (size : Nat) (ht : P.underlying t = some (.slice e)) (hi : P.info? e = some i) {v : Value} {n : Nat} {xs : List Value} (hown : w.ownsRow base e size v n xs) (c : Nat) :
    (Builtin.append_ #[t, t] ty #[v, .slice none 0 c]).run P w = .ok v w := by
  rcases hown.2 with ⟨rfl, rfl⟩ | ⟨g, cap, cur, rfl, _, _, hnc, _⟩
  · simp [Builtin.append_, run_underlying ht, sizeOf, typeInfo, hi, Builtin.lenOf, Builtin.firstCells]
  · simp [Builtin.append_, run_underlying ht, sizeOf, typeInfo, hi, Builtin.lenOf, Builtin.firstCells, hnc, storeCells]
/-- A row's cells, in one. -/
def SrcT (w : World) (A : Option Addr) (l : List THd) : Prop := 0 < l.length → ∃ b off, A = some ⟨b, off, none⟩ ∧ b < w.heap.size ∧ ∀ i u, (rowT l)[i]? = some u → w.cell? ⟨b, off + i, none⟩ = some u
theorem rowT_at {l : List THd} {i : Nat} {u : Value} (h : (rowT l)[i]? = some u) : ∃ p, l[i / 6]? = some p ∧ (cellsT p)[i % 6]? = some u := by
  induction l generalizing i with
  | nil => simp [rowT] at h
  | cons q l ih =>
    have e : rowT (q :: l) = cellsT q ++ rowT l := rfl
    rw [e] at h
    by_cases hi : i < 6
    · rw [List.getElem?_append_left (by rw [cellsT_length]; exact hi)] at h
      exact ⟨q, by rw [show i / 6 = 0 by omega]; rfl, by rw [show i % 6 = i by omega]; exact h⟩
    · rw [List.getElem?_append_right (by rw [cellsT_length]; omega), cellsT_length] at h
      obtain ⟨p, h1, h2⟩ := ih h
      exact ⟨p, by rw [show i / 6 = (i - 6) / 6 + 1 by omega]; simpa using h1, by rw [show i % 6 = (i - 6) % 6 by omega]; exact h2⟩
theorem RdT.src {W : World} {a : Option Addr} {l : List THd} (h : RdT W a l) : SrcT W a l := fun hp => by
  obtain ⟨g, o, e, hg, _⟩ := h 0 _ (List.getElem?_eq_getElem hp)
  refine ⟨g, o, e, hg, fun i u hu => ?_⟩
  obtain ⟨p, h1, h2⟩ := rowT_at hu
  obtain ⟨g', o', e', _, hc⟩ := h _ _ h1
  rw [e] at e'
  cases e'
  have := hc _ _ h2
  rwa [show o + i / 6 * 6 + i % 6 = o + i by omega] at this
theorem RdT.take {W : World} {a : Option Addr} {l : List THd} (h : RdT W a l) (k : Nat) : RdT W a (l.take k) := fun j p hj => by
  rw [List.getElem?_take] at hj
  split at hj
  · exact h j p hj
  · cases hj
theorem RdT.drop {W : World} {g o : Nat} {l : List THd} (h : RdT W (some ⟨g, o, none⟩) l) (k : Nat) : RdT W (some ⟨g, o + k * 6, none⟩) (l.drop k) := fun j p hj => by
  rw [List.getElem?_drop] at hj
  obtain ⟨g', o', e, hg, hc⟩ := h _ _ hj
  cases e
  refine ⟨g, o + k * 6, rfl, hg, ?_⟩
  rwa [show o + k * 6 + j * 6 = o + (k + j) * 6 by omega]
theorem own_grow {T : TypeId} {w w' : World} {base : Nat} {v v' : Value} {l m : List THd} (h : w'.ownsRow base T 6 v' (l.length + m.length) (rowT l ++ rowT m)) : OwnH T w' base v' (l ++ m) := by
  unfold OwnH
  rw [rowT_append, List.length_append]
  exact h
theorem wpList_append_T {w : World} {ops : Array Oper} {rest : List Oper} {o : Oper} {a : Act} {Q : Exit → Act → World → Prop} (hgd : o.guard = Option.none) (s x : Operand)
    (ho : o.op = .call { callee := .builtin .append, args := #[s, x], argTypes := #[47, 47] }) (base : Nat) (v : Value) (l : List THd) (hs : a.eval s = v) (hown : OwnH 35 w base v l)
    (A : Option Addr) (m : List THd) (n c : Nat) (hx : a.eval x = .slice A n c) (hn : n = m.length) (hr : RdT w A m) (hlen : l.length + m.length ≤ 1000000) (hbase : base ≤ w.heap.size)
    (h : ∀ A' n' c' w', n' = (l ++ m).length → OwnH 35 w' base (.slice A' n' c') (l ++ m) → Below base w w' → w.grownBy w' v.ownBlock → wpList Tryz.prog ops Q rest (a.put o.dst (.slice A' n' c')) w') : wpList Tryz.prog ops Q (o :: rest) a w := by
  subst hn
  obtain ⟨i0, hi, hz0, hz1, hz2⟩ := info_parts infoH
  have fin : ∀ v' w', OwnH 35 w' base v' (l ++ m) → Below base w w' → w.grownBy w' v.ownBlock → wpList Tryz.prog ops Q rest (a.put o.dst v') w' := fun v' w' h1 h2 h3 => by
    obtain ⟨A', c', e⟩ := h1.shape
    rw [e] at h1 ⊢
    exact h A' _ c' w' rfl h1 h2 h3
  cases A with
  | none =>
    have hm : m = [] := by
      rcases Nat.eq_zero_or_pos m.length with h0 | h0
      · exact List.eq_nil_of_length_eq_zero h0
      · obtain ⟨_, _, h', _⟩ := hr.src h0; cases h'
    subst hm
    have hrun := run_append_nilc (P := Tryz.prog) base 47 o.type 35 i0 6 Tryz.underlying47 hi hown c
    refine wpList_plain hgd fun K hK => ?_
    unfold Oper.wp
    simp [execOp, ho, resolve, invoke, builtin, hs, hx, hrun, Result.andThen]
    exact hK _ _ (fin v w (by rw [List.append_nil]; exact hown) (Below.refl _ _) ⟨rfl, rfl, rfl, Nat.le_refl _, fun _ _ _ => rfl⟩)
  | some ad =>
    have hnews : ∀ j u, (rowT m)[j]? = some u → w.cell? (ad.add j) = some u := fun j u hu => by
      have hp : 0 < m.length := by
        rcases Nat.eq_zero_or_pos m.length with h0 | h0
        · rw [List.eq_nil_of_length_eq_zero h0] at hu; simp [rowT] at hu
        · exact h0
      obtain ⟨b, off, e, _, hc⟩ := hr.src hp
      have e' : ad = ⟨b, off, none⟩ := Option.some.inj e
      rw [e', add_off]
      exact hc j u hu
    refine wpList_append_own w hgd s x 47 ho base 35 i0 _ 6 48 Tryz.underlying47 hi hz0 hz1 hz2 rfl (by decide) v l.length _ hs hown ad m.length c (rowT m) hx (rowT_length m) hnews rowT_one_cell (by unfold maxLen; omega) (by omega) hbase ?_
    intro v' w' h1 h2 _
    exact fin v' w' (own_grow (w := w) (v := v) h1) ((Below.refl base w).grown h2 hbase (fun j hj => (World.ownsRow.lt hown j hj).1)) h2
end Go.Proofs.YtpaooddmgcekhaaGreat.ti
