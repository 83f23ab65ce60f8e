/-
  THE DOCUMENT s Encode: it returns just the bytes of a record ("encL"), or ErrArg, or ErrFull.
-/
import Derived.Test.YthdlcpnmldhllaaDoorRight
namespace Go.Proofs.YthdlcpnmldhllaaDoor
open Go.RowKit

/-- The bytes of an item, and of a list of items. -/
def itemL (x : It) : List Int := putL (x.id * 4 + x.kind - 1).toNat ++ (if x.kind = 1 then putL (zigI x.n).toNat else if x.kind = 2 then putL x.bs.length ++ x.bs else [])
def encL (l : List It) : List Int := l.flatMap itemL

theorem right_shape : ∀ (l : List It) (d : Int), rightFrom d l = true → ∀ x ∈ l, shapeB x = true := by
  intro l
  induction l with
  | nil => intro d _ x hx; simp at hx
  | cons y l ih =>
    intro d h x hx
    rw [rightFrom, Bool.and_eq_true, Bool.and_eq_true] at h
    rcases List.mem_cons.1 hx with rfl | hx
    · exact h.1.1
    · exact ih _ h.2 x hx
/-- What an item that may be is like. -/
theorem shape_kinds {x : It} (h : shapeB x = true) : (x.kind = 1 ∧ 1 ≤ x.id ∧ x.id ≤ 1000 ∧ x.bs.length = 0) ∨ (x.kind = 2 ∧ 1 ≤ x.id ∧ x.id ≤ 1000 ∧ x.n = 0) ∨ (x.kind = 3 ∧ 1 ≤ x.id ∧ x.id ≤ 1000 ∧ x.n = 0 ∧ x.bs.length = 0) ∨ (x.kind = 4 ∧ x.id = 0 ∧ x.n = 0 ∧ x.bs.length = 0) := by
  unfold shapeB at h
  by_cases h1 : x.kind = 1
  · rw [if_pos h1] at h; exact .inl ⟨h1, of_decide_eq_true h⟩
  by_cases h2 : x.kind = 2
  · rw [if_neg h1, if_pos h2] at h; exact .inr (.inl ⟨h2, of_decide_eq_true h⟩)
  by_cases h3 : x.kind = 3
  · rw [if_neg h1, if_neg h2, if_pos h3] at h; exact .inr (.inr (.inl ⟨h3, of_decide_eq_true h⟩))
  by_cases h4 : x.kind = 4
  · rw [if_neg h1, if_neg h2, if_neg h3, if_pos h4] at h; exact .inr (.inr (.inr ⟨h4, of_decide_eq_true h⟩))
  · rw [if_neg h1, if_neg h2, if_neg h3, if_neg h4] at h; cases h

/-- A block of one's own, known whole. -/
def Box (W : World) (B : Nat) (cs : Array Value) : Prop := W.heap[B]? = some (.cells cs 84 (0, 0))
theorem Box.cell {W : World} {B : Nat} {cs : Array Value} (h : Box W B cs) (i : Nat) : W.cell? ⟨B, i, none⟩ = cs[i]? := cell_of_row W B i cs 84 (0, 0) h
theorem Box.below {W W' : World} {B n₀ : Nat} {cs : Array Value} (h : Box W B cs) (hb : Below n₀ W W') (hB : B < n₀) : Box W' B cs := (hb.block B hB).trans h
theorem Box.grown {W W' : World} {B : Nat} {cs : Array Value} {row : Option Nat} (h : Box W B cs) (hg : W.grownBy W' row) (hB : B < W.heap.size) (hne : some B ≠ row) : Box W' B cs := (hg.block B hB hne).trans h
theorem enc_next {l : List It} {k : Nat} {x : It} {pre : List Int} (hp : encL (l.take k) = pre) (hx : l[k]? = some x) : encL (l.take (k + 1)) = pre ++ itemL x := by
  rw [List.take_add_one, hx, ← hp]
  simp [encL]
theorem enc_all {l : List It} (k : Nat) : (encL (l.take k)).length ≤ (encL l).length := by
  have h : encL l = encL (l.take k) ++ encL (l.drop k) := by
    unfold encL
    rw [← List.flatMap_append, List.take_append_drop]
  rw [h, List.length_append]
  omega
theorem one_u8 (l : List Int) : ∀ u ∈ l.map (Value.int .u8), u.oneCell' = true := by
  intro u hu
  obtain ⟨y, _, rfl⟩ := List.mem_map.1 hu
  rfl
theorem run_append_nilc {P : Program} {w : World} (base : Nat) (t ty e : TypeId) (i : TypeInfo) (size : Nat) (ht : P.underlying t = some (.slice e)) (hi : P.info? e = some i) {v : Value} {n : Nat} {xs : List Value} (hown : w.ownsRow base e size v n xs) (c : Nat) :
    (Builtin.append_ #[t, t] ty #[v, .slice none 0 c]).run P w = .ok v w := by
  rcases hown.2 with ⟨rfl, rfl⟩ | ⟨g, cap, cur, rfl, _, _, hnc, _⟩
  · simp [Builtin.append_, run_underlying ht, sizeOf, typeInfo, hi, Builtin.lenOf, Builtin.firstCells]
  · simp [Builtin.append_, run_underlying ht, sizeOf, typeInfo, hi, Builtin.lenOf, Builtin.firstCells, hnc, storeCells]
theorem wpList_append_nilc {P : Program} {w : World} {ops : Array Oper} {rest : List Oper} {o : Oper} {a : Act} {Q : Exit → Act → World → Prop} (hgd : o.guard = none) (s x : Operand) (t : TypeId)
    (ho : o.op = .call { callee := .builtin .append, args := #[s, x], argTypes := #[t, t] }) (base : Nat) (e : TypeId) (i : TypeInfo) (size : Nat) (ht : P.underlying t = some (.slice e)) (hi : P.info? e = some i)
    (v : Value) (n : Nat) (xs : List Value) (hs : a.eval s = v) (hown : w.ownsRow base e size v n xs) (m c : Nat) (hx : a.eval x = .slice none m c) (hm : m = 0)
    (h : wpList P ops Q rest (a.put o.dst v) w) : wpList P ops Q (o :: rest) a w := by
  subst hm
  refine wpList_plain hgd fun K hK => ?_
  have hrun := run_append_nilc (P := P) base t o.type e i size ht hi hown c
  unfold Oper.wp
  simp [execOp, ho, resolve, invoke, builtin, hs, hx, hrun, Result.andThen]
  exact hK _ _ h
theorem own_nil {w : World} {base : Nat} {v : Value} {n : Nat} {xs : List Value} {bs : List Int} (h : w.ownsRow base 5 1 v n xs) (hz : bs.length = 0) : w.ownsRow base 5 1 v (n + bs.length) (xs ++ bs.map (Value.int .u8)) := by
  obtain rfl : bs = [] := List.eq_nil_of_length_eq_zero hz
  simpa using h
theorem own_box_ne {w : World} {base : Nat} {size n : Nat} {v : Value} {xs : List Value} (h : w.ownsRow base 5 size v n xs) {B : Nat} {cs : Array Value} (hB : Box w B cs) : some B ≠ v.ownBlock := by
  rcases h.2 with ⟨rfl, _⟩ | ⟨g, cap, cur, rfl, _, hh, _⟩
  · simp [Value.ownBlock]
  · intro he
    have e : B = g := by simpa [Value.ownBlock] using he
    subst e
    unfold Box at hB
    rw [hh] at hB
    injection hB with hB
    injection hB with _ ht
    exact absurd ht (by decide)
theorem Box.lt {W : World} {B : Nat} {cs : Array Value} (h : Box W B cs) : B < W.heap.size := (Array.getElem?_eq_some_iff.1 h).1
/-- The bytes of a record, or which error. -/
def Encoded (l : List It) (w : World) (e : Ending) (w' : World) : Prop :=
  (if rightB l = false then e = .returned (.tuple #[.slice none 0 0, .int .i64 1])
   else if 4096 < (encL l).length then e = .returned (.tuple #[.slice none 0 0, .int .i64 3])
   else ∃ v, e = .returned (.tuple #[v, .int .i64 0]) ∧ w'.ownsRow w.heap.size 5 1 v (encL l).length ((encL l).map (Value.int .u8))) ∧ Below w.heap.size w w'

end Go.Proofs.YthdlcpnmldhllaaDoor
