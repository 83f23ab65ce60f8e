/-
  ROWS OF STRUCTS, of any kind: one's own, that may be read, that grow.
-/
import Derived.Test.YtpaooddmgcekhaaGreatTApp
import Derived.Test.YtpaooddmgcekhaaGreatWEach
namespace Go.Proofs.YtpaooddmgcekhaaGreat.ti
set_option linter.unusedSimpArgs false
set_option linter.unusedVariables false
open Go.RowKit
variable {E : Type}
/-- What there is to know of an element's type. -/
structure KindE (sl T : TypeId) (sz bytes : Nat) (z : Value) (enc : E → List Value) : Prop where
  und : Tryz.prog.underlying sl = some (.slice T)
  info : (Tryz.prog.info? T).map (fun i => (i.zero, i.size, i.bytes)) = some (some z, sz, bytes)
  zs : z.cells.size = sz
  pos : 0 < sz
  len : ∀ x, (enc x).length = sz
  one : ∀ x, ∀ u ∈ enc x, u.oneCell' = true
def rowE (enc : E → List Value) (l : List E) : List Value := l.flatMap enc
theorem rowE_append (enc : E → List Value) (l m : List E) : rowE enc (l ++ m) = rowE enc l ++ rowE enc m := by unfold rowE; rw [List.flatMap_append]
theorem rowE_one (enc : E → List Value) (p : E) : rowE enc [p] = enc p := by simp [rowE]
theorem rowE_cons (enc : E → List Value) (p : E) (l : List E) : rowE enc (p :: l) = enc p ++ rowE enc l := rfl
section
variable {sl T : TypeId} {sz bytes : Nat} {z : Value} {enc : E → List Value}
theorem KindE.row_len (K : KindE sl T sz bytes z enc) (l : List E) : (rowE enc l).length = l.length * sz := by
  induction l with
  | nil => simp [rowE]
  | cons p l ih => rw [rowE_cons, List.length_append, ih, K.len, List.length_cons, Nat.add_mul]; omega
theorem KindE.row_one (K : KindE sl T sz bytes z enc) (l : List E) : ∀ u ∈ rowE enc l, u.oneCell' = true := fun u hu => by
  obtain ⟨p, _, hp⟩ := List.mem_flatMap.1 hu
  exact K.one p u hp
theorem KindE.row_at (K : KindE sl T sz bytes z enc) {l : List E} {j : Nat} {p : E} (h : l[j]? = some p) {i : Nat} {u : Value} (hu : (enc p)[i]? = some u) : (rowE enc l)[j * sz + i]? = some u := by
  induction l generalizing j with
  | nil => simp at h
  | cons q l ih =>
    rw [rowE_cons]
    match j, h with
    | 0, h =>
      simp at h; subst h
      rw [Nat.zero_mul, Nat.zero_add, List.getElem?_append_left (List.getElem?_eq_some_iff.1 hu).1]; exact hu
    | j + 1, h =>
      have := ih (by simpa using h)
      rw [List.getElem?_append_right (by rw [K.len, Nat.add_mul]; omega), K.len, show (j + 1) * sz + i - sz = j * sz + i by rw [Nat.add_mul]; omega]
      exact this
theorem KindE.row_back (K : KindE sl T sz bytes z enc) {l : List E} {i : Nat} {u : Value} (h : (rowE enc l)[i]? = some u) : ∃ p, l[i / sz]? = some p ∧ (enc p)[i % sz]? = some u := by
  have hp := K.pos
  induction l generalizing i with
  | nil => simp [rowE] at h
  | cons q l ih =>
    rw [rowE_cons] at h
    by_cases hi : i < sz
    · rw [List.getElem?_append_left (by rw [K.len]; exact hi)] at h
      exact ⟨q, by rw [Nat.div_eq_of_lt hi]; rfl, by rw [Nat.mod_eq_of_lt hi]; exact h⟩
    · rw [List.getElem?_append_right (by rw [K.len]; omega), K.len] at h
      obtain ⟨p, h1, h2⟩ := ih h
      refine ⟨p, ?_, ?_⟩
      · rw [Nat.div_eq_sub_div hp (by omega)]; simpa using h1
      · rw [Nat.mod_eq_sub_mod (by omega)]; exact h2
/-- A slice over memory of one's own. -/
def OwnE (T : TypeId) (sz : Nat) (enc : E → List Value) (W : World) (base : Nat) (v : Value) (l : List E) : Prop := W.ownsRow base T sz v l.length (rowE enc l)
/-- A row that may be read. -/
def RdE (sz : Nat) (enc : E → List Value) (W : World) (a : Option Addr) (l : List E) : Prop :=
  ∀ (j : Nat) (p : E), l[j]? = some p → ∃ g o, a = some ⟨g, o, none⟩ ∧ g < W.heap.size ∧ W.rangeAt g (o + j * sz) (enc p)
theorem RdE.nil (W : World) (a : Option Addr) : RdE sz enc W a [] := fun j p hj => by simp at hj
theorem RdE.below {W W' : World} {a : Option Addr} {l : List E} (h : RdE sz enc W a l) (k : Below W.heap.size W W') : RdE sz enc W' a l := fun j p hj => by
  obtain ⟨g, o, e, hg, hc⟩ := h j p hj
  exact ⟨g, o, e, Nat.lt_of_lt_of_le hg k.size, fun i v hv => (k.cell (p := ⟨g, _, none⟩) hg).trans (hc i v hv)⟩
theorem OwnE.nil (W : World) (base : Nat) : OwnE T sz enc W base (.slice none 0 0) [] := World.ownsRow_nil _ _ _ _
theorem OwnE.form {W : World} {base : Nat} {v : Value} {l : List E} (h : OwnE T sz enc W base v l) : (v = .slice none 0 0 ∧ l = []) ∨ ∃ g cap, v = .slice (some ⟨g, 0, none⟩) l.length cap ∧ base ≤ g ∧ g < W.heap.size ∧ l.length ≤ cap ∧ cap ≤ maxLen := by
  rcases h.2 with ⟨e, hl⟩ | ⟨g, cap, cur, e, hg, hh, hn, hm, _⟩
  · exact .inl ⟨e, List.eq_nil_of_length_eq_zero hl⟩
  · exact .inr ⟨g, cap, e, hg, (Array.getElem?_eq_some_iff.1 hh).1, hn, hm⟩
theorem OwnE.shape {W : World} {base : Nat} {v : Value} {l : List E} (h : OwnE T sz enc W base v l) : ∃ a c, v = .slice a l.length c ∧ l.length ≤ c ∧ c ≤ maxLen := by
  rcases h.form with ⟨e, hs⟩ | ⟨g, cap, e, _, _, h1, h2⟩
  · exact ⟨none, 0, by rw [e, hs]; rfl, by rw [hs]; simp, by decide⟩
  · exact ⟨_, _, e, h1, h2⟩
theorem OwnE.form2 {W : World} {base : Nat} {v : Value} {l : List E} (h : OwnE T sz enc W base v l) : ∃ A m c, v = .slice A m c := by
  obtain ⟨a, c, e, _⟩ := h.shape
  exact ⟨a, _, c, e⟩
theorem OwnE.same {W W' : World} {base : Nat} {v : Value} {l : List E} (h : OwnE T sz enc W base v l) (k : ∀ g, v.ownBlock = some g → W'.heap[g]? = W.heap[g]?) : OwnE T sz enc W' base v l := by
  refine ⟨h.1, ?_⟩
  rcases h.2 with h2 | ⟨g, cap, cur, e, hg, hh, r⟩
  · exact .inl h2
  · exact .inr ⟨g, cap, cur, e, hg, (k g (by rw [e]; rfl)).trans hh, r⟩
theorem OwnE.mono {W : World} {base b : Nat} {v : Value} {l : List E} (h : OwnE T sz enc W base v l) (hb : b ≤ base) : OwnE T sz enc W b v l := by
  refine ⟨h.1, ?_⟩
  rcases h.2 with h2 | ⟨g, cap, cur, e, hg, r⟩
  · exact .inl h2
  · exact .inr ⟨g, cap, cur, e, by omega, r⟩
theorem OwnE.below {W W' : World} {base : Nat} {v : Value} {l : List E} (h : OwnE T sz enc W base v l) (k : Below W.heap.size W W') : OwnE T sz enc W' base v l := h.same fun g hg => k.block g (World.ownsRow.lt h g hg).2
theorem OwnE.block {W : World} {base : Nat} {v : Value} {l : List E} (h : OwnE T sz enc W base v l) {g : Nat} (hg : v.ownBlock = some g) : ∃ cur, W.heap[g]? = some (.cells cur T (0, 0)) := by
  rcases h.2 with ⟨e, _⟩ | ⟨g', cap, cur, e, _, hh, _⟩
  · rw [e] at hg; cases hg
  · rw [e] at hg
    have : g' = g := by cases hg; rfl
    subst this
    exact ⟨cur, hh⟩
theorem OwnE.grow {W : World} {base : Nat} {v : Value} {l m : List E} (h : W.ownsRow base T sz v (l.length + m.length) (rowE enc l ++ rowE enc m)) : OwnE T sz enc W base v (l ++ m) := by
  unfold OwnE
  rw [rowE_append, List.length_append]
  exact h
theorem OwnE.snoc {W : World} {base : Nat} {v : Value} {l : List E} {o : E} (h : W.ownsRow base T sz v (l.length + 1) (rowE enc l ++ enc o)) : OwnE T sz enc W base v (l ++ [o]) :=
  OwnE.grow (by rw [rowE_one]; exact h)
theorem KindE.rd (K : KindE sl T sz bytes z enc) {W : World} {base : Nat} {a : Option Addr} {n cap : Nat} {l : List E} (h : OwnE T sz enc W base (.slice a n cap) l) : RdE sz enc W a l := fun j p hj => by
  rcases h.form with ⟨_, hl⟩ | ⟨g, c, e, hg, hw, _, _⟩
  · rw [hl] at hj; simp at hj
  · injection e with e1 e2 e3
    subst e1
    refine ⟨g, 0, rfl, hw, fun i v hv => ?_⟩
    have h0 := World.ownsRow.cells h (g := g) rfl _ _ (K.row_at hj hv)
    rw [add_off] at h0
    rw [Nat.zero_add]
    rw [Nat.zero_add] at h0
    exact h0
/-- A row's cells, in one. -/
def SrcE (W : World) (enc : E → List Value) (A : Option Addr) (l : List E) : Prop := 0 < l.length → ∃ b off, A = some ⟨b, off, none⟩ ∧ b < W.heap.size ∧ ∀ i u, (rowE enc l)[i]? = some u → W.cell? ⟨b, off + i, none⟩ = some u
theorem KindE.src (K : KindE sl T sz bytes z enc) {W : World} {a : Option Addr} {l : List E} (h : RdE sz enc W a l) : SrcE W enc a l := fun hp => by
  obtain ⟨g, o, e, hg, _⟩ := h 0 _ (List.getElem?_eq_getElem hp)
  refine ⟨g, o, e, hg, fun i u hu => ?_⟩
  obtain ⟨p, h1, h2⟩ := K.row_back hu
  obtain ⟨g', o', e', _, hc⟩ := h _ _ h1
  rw [e] at e'
  cases e'
  have := hc _ _ h2
  rwa [show o + i / sz * sz + i % sz = o + i by rw [Nat.add_assoc, Nat.mul_comm, Nat.div_add_mod]] at this
theorem RdE.take {W : World} {a : Option Addr} {l : List E} (h : RdE sz enc W a l) (k : Nat) : RdE sz enc W a (l.take k) := fun j p hj => by
  rw [List.getElem?_take] at hj
  split at hj
  · exact h j p hj
  · cases hj
theorem RdE.drop {W : World} {g o : Nat} {l : List E} (h : RdE sz enc W (some ⟨g, o, none⟩) l) (k : Nat) : RdE sz enc W (some ⟨g, o + k * sz, none⟩) (l.drop k) := fun j p hj => by
  rw [List.getElem?_drop] at hj
  obtain ⟨g', o', e, hg, hc⟩ := h _ _ hj
  cases e
  refine ⟨g, o + k * sz, rfl, hg, ?_⟩
  rwa [show o + k * sz + j * sz = o + (k + j) * sz by rw [Nat.add_mul]; omega]
/-- As stage 3 reads a row. -/
theorem RdE.rdr {W : World} {a : Option Addr} {l : List E} (h : RdE sz enc W a l) : _root_.Go.Proofs.YtpaooddmgcekhaaGreat.RdR sz enc W.heap.size W a l := fun hp => by
  obtain ⟨g, o, e, hg, _⟩ := h 0 _ (List.getElem?_eq_getElem hp)
  refine ⟨g, o, e, hg, fun j x hx i v hv => ?_⟩
  obtain ⟨g', o', e', _, hc⟩ := h j x hx
  rw [e] at e'
  cases e'
  exact hc i v hv
theorem RdE.of {n : Nat} {W : World} {a : Option Addr} {l : List E} (h : _root_.Go.Proofs.YtpaooddmgcekhaaGreat.RdR sz enc n W a l) (hn : n ≤ W.heap.size) : RdE sz enc W a l := fun j x hx => by
  obtain ⟨b, off, e, hlt, hc⟩ := h (by have := (List.getElem?_eq_some_iff.1 hx).1; omega)
  exact ⟨b, off, e, by omega, fun i v hv => hc j x hx i v hv⟩
theorem KindE.append (K : KindE sl T sz bytes z enc) (W : World) (ty : TypeId) {base : Nat} {v : Value} {l m : List E} (hown : OwnE T sz enc W base v l) {A : Option Addr} (c : Nat) (hr : RdE sz enc W A m) (h63 : l.length + m.length ≤ maxLen) (hby : (l.length + m.length) * bytes ≤ 140737488355328) (hbase : base ≤ W.heap.size) :
    ∃ v' w', (Builtin.append_ #[sl, sl] ty #[v, .slice A m.length c]).run Tryz.prog W = .ok v' w' ∧ OwnE T sz enc w' base v' (l ++ m) ∧ Below base W w' ∧ W.grownBy w' v.ownBlock := by
  obtain ⟨i0, hi, hz0, hz1, hz2⟩ := info_parts K.info
  cases A with
  | none =>
    have hm : m = [] := by
      rcases Nat.eq_zero_or_pos m.length with h0 | h0
      · exact List.eq_nil_of_length_eq_zero h0
      · obtain ⟨_, _, h', _⟩ := K.src hr h0; cases h'
    subst hm
    exact ⟨v, W, run_append_nilc (P := Tryz.prog) base sl ty T i0 sz K.und hi hown c, by rw [List.append_nil]; exact hown, Below.refl _ _, ⟨rfl, rfl, rfl, Nat.le_refl _, fun _ _ _ => rfl⟩⟩
  | some ad =>
    have hnews : ∀ j u, (rowE enc m)[j]? = some u → W.cell? (ad.add j) = some u := fun j u hu => by
      have hp : 0 < m.length := by
        rcases Nat.eq_zero_or_pos m.length with h0 | h0
        · rw [List.eq_nil_of_length_eq_zero h0] at hu; simp [rowE] at hu
        · exact h0
      obtain ⟨b, off, e, _, hc⟩ := K.src hr hp
      have e' : ad = ⟨b, off, none⟩ := Option.some.inj e
      rw [e', add_off]
      exact hc j u hu
    obtain ⟨v', w', hrun, r1, r2, r3⟩ := run_append_own (P := Tryz.prog) W base sl ty T i0 z sz bytes K.und hi hz0 hz1 hz2 K.zs K.pos v l.length _ hown ad m.length c (rowE enc m) (K.row_len m) hnews (K.row_one m) h63 hby hbase
    exact ⟨v', w', hrun, OwnE.grow r1, (Below.refl base W).grown r2 hbase (fun j hj => (World.ownsRow.lt hown j hj).1), r2⟩
theorem KindE.wp_append (K : KindE sl T sz bytes z enc) {w : World} {ops : Array Oper} {rest : List Oper} {o : Oper} {a : Act} {Q : Exit → Act → World → Prop} (hgd : o.guard = Option.none) (s x : Operand)
    (ho : o.op = .call { callee := .builtin .append, args := #[s, x], argTypes := #[sl, sl] }) (base : Nat) (v : Value) (l : List E) (hs : a.eval s = v) (hown : OwnE T sz enc w base v l)
    (A : Option Addr) (m : List E) (n c : Nat) (hx : a.eval x = .slice A n c) (hn : n = m.length) (hr : RdE sz enc w A m) (h63 : l.length + m.length ≤ maxLen) (hby : (l.length + m.length) * bytes ≤ 140737488355328) (hbase : base ≤ w.heap.size)
    (h : ∀ A' n' c' w', n' = (l ++ m).length → OwnE T sz enc w' base (.slice A' n' c') (l ++ m) → Below base w w' → w.grownBy w' v.ownBlock → wpList Tryz.prog ops Q rest (a.put o.dst (.slice A' n' c')) w') : wpList Tryz.prog ops Q (o :: rest) a w := by
  subst hn
  obtain ⟨v', w', hrun, h1, h2, h3⟩ := K.append w o.type hown c hr h63 hby hbase
  obtain ⟨A', c', e, _⟩ := h1.shape
  subst e
  refine wpList_plain hgd fun K hK => ?_
  unfold Oper.wp
  simp only [execOp, ho, resolve, invoke, builtin, hs, hx, List.size_toArray, List.map_toArray, List.map_cons, List.map_nil, Result.andThen]
  simp [hs, hx, hrun, Result.andThen]
  rw [← List.length_append]
  exact hK _ _ (h A' _ c' w' rfl h1 h2 h3)
end
end Go.Proofs.YtpaooddmgcekhaaGreat.ti
