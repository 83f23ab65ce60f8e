/-
  THE PROGRAM's Decode: the record whose bytes these are, in memory of its own; or ErrForm.
-/
import Derived.Test.YtgngcpbkopjjlaaDoorParts
namespace Go.Proofs.YtgngcpbkopjjlaaDoor
open Go.RowKit
set_option linter.unusedVariables false

/-- Cells that describe items, whose bytes lie in rows of their own. -/
def CellsD (base : Nat) (w : World) (l : List It) (xs : List Value) : Prop :=
  xs.length = l.length * 4 ∧ ∀ j x, l[j]? = some x → xs[j * 4]? = some (.int .i64 x.kind) ∧ xs[j * 4 + 1]? = some (.int .i64 x.id) ∧ xs[j * 4 + 2]? = some (.int .i64 x.n) ∧
    ∃ A cap, xs[j * 4 + 3]? = some (.slice A x.bs.length cap) ∧ w.ownsRow base 5 1 (.slice A x.bs.length cap) x.bs.length (x.bs.map (Value.int .u8))
/-- A list of items in memory of one's own, its bytes too. -/
def OwnD (w : World) (base : Nat) (v : Value) (l : List It) : Prop := ∃ xs, w.ownsRow base 64 4 v l.length xs ∧ CellsD base w l xs

theorem own_grown {w w' : World} {base : Nat} {e : TypeId} {size n : Nat} {v : Value} {xs : List Value} {row : Option Nat} (h : w.ownsRow base e size v n xs) (hg : w.grownBy w' row) (hne : ∀ g, v.ownBlock = some g → some g ≠ row) : w'.ownsRow base e size v n xs := by
  refine ⟨h.1, ?_⟩
  rcases h.2 with h0 | ⟨g, cap, cur, rfl, hb, hh, rest⟩
  · exact .inl h0
  · exact .inr ⟨g, cap, cur, rfl, hb, (hg.block g (Array.getElem?_eq_some_iff.1 hh).1 (hne g rfl)).trans hh, rest⟩
theorem own_types {w : World} {b1 b2 : Nat} {s1 s2 n1 n2 : Nat} {v1 v2 : Value} {xs ys : List Value} (h : w.ownsRow b1 5 s1 v1 n1 xs) (k : w.ownsRow b2 64 s2 v2 n2 ys) : ∀ g, v1.ownBlock = some g → some g ≠ v2.ownBlock := by
  intro g hg he
  rcases h.2 with ⟨rfl, _⟩ | ⟨g1, _, _, rfl, _, hh, _⟩
  · simp [Value.ownBlock] at hg
  · rcases k.2 with ⟨rfl, _⟩ | ⟨g2, _, _, rfl, _, kk, _⟩
    · simp [Value.ownBlock] at he
    · have e1 : g1 = g := by simpa [Value.ownBlock] using hg
      have e2 : g = g2 := by simpa [Value.ownBlock] using he
      subst e1 e2
      rw [hh] at kk
      injection kk with kk
      injection kk with _ ht
      exact absurd ht (by decide)
theorem OwnD.nil (w : World) (base : Nat) : OwnD w base (.slice none 0 0) [] := ⟨[], World.ownsRow_nil _ _ _ _, rfl, fun j x hx => by simp at hx⟩
theorem OwnD.below {w w' : World} {base : Nat} {v : Value} {l : List It} (h : OwnD w base v l) (hb : Below w.heap.size w w') : OwnD w' base v l := by
  obtain ⟨xs, ho, hl, hc⟩ := h
  refine ⟨xs, own_below ho hb (fun k hk => (ho.lt k hk).2), hl, fun j x hx => ?_⟩
  obtain ⟨c0, c1, c2, A, cap, c3, h5⟩ := hc j x hx
  exact ⟨c0, c1, c2, A, cap, c3, own_below h5 hb (fun k hk => (h5.lt k hk).2)⟩
theorem OwnD.form_n {w : World} {base : Nat} {v : Value} {l : List It} (h : OwnD w base v l) : ∃ A n cap, v = .slice A n cap ∧ n = l.length ∧ n ≤ cap ∧ cap ≤ maxLen := by
  obtain ⟨xs, ho, _⟩ := h
  obtain ⟨A, cap, rfl, hc⟩ := own_form ho
  exact ⟨A, _, cap, rfl, rfl, hc, own_cap ho⟩
theorem OwnD.rd {w : World} {base : Nat} {A : Option Addr} {n c : Nat} {l : List It} (h : OwnD w base (.slice A n c) l) : RdI w.heap.size w A l := fun hp => by
  obtain ⟨xs, ho, _, hc⟩ := h
  obtain ⟨g, cap, e, hb, hg⟩ := ho.form hp
  injection e with e1 e2 e3
  subst e1 e2 e3
  have hadd : ∀ k, (⟨g, 0, none⟩ : Addr).add k = ⟨g, 0 + k, none⟩ := fun k => by unfold Addr.add; split <;> simp_all
  refine ⟨g, 0, rfl, hg, fun j x hx => ?_⟩
  obtain ⟨c0, c1, c2, S, cap, c3, h5⟩ := hc j x hx
  have g0 := ho.cells (g := g) rfl _ _ c0
  have g1 := ho.cells (g := g) rfl _ _ c1
  have g2 := ho.cells (g := g) rfl _ _ c2
  have g3 := ho.cells (g := g) rfl _ _ c3
  rw [hadd] at g0 g1 g2 g3
  exact ⟨g0, g1, g2, S, cap, g3, own_le h5, own_cap h5, rd_of_row h5⟩

/-- One item more. -/
theorem wpList_append_part {w : World} {ops : Array Oper} {rest : List Oper} {o : Oper} {a : Act} {Q : Exit → Act → World → Prop} (hgd : o.guard = Option.none) (s x : Operand)
    (ho : o.op = .call { callee := .builtin .append, args := #[s, x], argTypes := #[42, 42] }) (base : Nat) (v : Value) (l : List It) (hs : a.eval s = v) (hown : OwnD w base v l)
    (y : It) (A : Option Addr) (cap : Nat) (h5 : w.ownsRow base 5 1 (.slice A y.bs.length cap) y.bs.length (y.bs.map (Value.int .u8))) (ad : Addr) (c : Nat) (hx : a.eval x = .slice (some ad) 1 c)
    (hcell : ∀ j u, [Value.int .i64 y.kind, .int .i64 y.id, .int .i64 y.n, .slice A y.bs.length cap][j]? = some u → w.cell? (ad.add j) = some u) (hlen : l.length ≤ 1000000) (hbase : base ≤ w.heap.size)
    (h : ∀ v' w', OwnD w' base v' (l ++ [y]) → Below base w w' → w.grownBy w' v.ownBlock → wpList Tryd.prog ops Q rest (a.put o.dst v') w') : wpList Tryd.prog ops Q (o :: rest) a w := by
  obtain ⟨i0, hi, hz0, hz1, hz2⟩ := info_parts Tryd.info64
  obtain ⟨xs, hrow, hl, hc⟩ := hown
  refine wpList_append_own w hgd s x 42 ho base 64 i0 _ 4 48 Tryd.underlying42 hi hz0 hz1 hz2 rfl (by decide) v l.length xs hs hrow ad 1 c _ hx rfl hcell (by intro u hu; simp at hu; rcases hu with rfl | rfl | rfl | rfl <;> rfl) (by unfold maxLen; omega) (by omega) hbase ?_
  intro v' w' h1 h2 _
  refine h v' w' ⟨_, by rw [List.length_append]; exact h1, by rw [List.length_append, List.length_append, hl]; simp only [List.length_cons, List.length_nil]; omega, fun j z hz => ?_⟩ ((Below.refl base w).grown h2 hbase (fun j hj => (hrow.lt j hj).1)) h2
  rcases Nat.lt_or_ge j l.length with hj | hj
  · rw [List.getElem?_append_left hj] at hz
    obtain ⟨c0, c1, c2, B, cb, c3, k5⟩ := hc j z hz
    exact ⟨by rw [List.getElem?_append_left (by omega)]; exact c0, by rw [List.getElem?_append_left (by omega)]; exact c1, by rw [List.getElem?_append_left (by omega)]; exact c2, B, cb, by rw [List.getElem?_append_left (by omega)]; exact c3, own_grown k5 h2 (own_types k5 hrow)⟩
  · rw [List.getElem?_append_right hj] at hz
    obtain ⟨i, hi'⟩ : ∃ i, j - l.length = i := ⟨_, rfl⟩
    rw [hi'] at hz
    cases i with
    | succ i => simp at hz
    | zero =>
      simp only [List.getElem?_cons_zero, Option.some.injEq] at hz
      subst hz
      obtain rfl : j = l.length := by omega
      refine ⟨?_, ?_, ?_, A, cap, ?_, own_grown h5 h2 (own_types h5 hrow)⟩
      · rw [List.getElem?_append_right (by omega), show l.length * 4 - xs.length = 0 by omega]; rfl
      · rw [List.getElem?_append_right (by omega), show l.length * 4 + 1 - xs.length = 1 by omega]; rfl
      · rw [List.getElem?_append_right (by omega), show l.length * 4 + 2 - xs.length = 2 by omega]; rfl
      · rw [List.getElem?_append_right (by omega), show l.length * 4 + 3 - xs.length = 3 by omega]; rfl
end Go.Proofs.YtgngcpbkopjjlaaDoor
