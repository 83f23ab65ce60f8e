/-
  JOBS in memory: rows of ones own; a queue: its block, its row, its map of places.
-/
import Derived.Test.YtaaaefoanjggcaaQMap
import Derived.WalkKit
import Derived.Lib.Hide
import Derived.Below
import Derived.BigQuiet
import Derived.BigRegion
import Derived.Deep.QuietTactic
import Derived.Deep.RegionHeld
import Derived.Deep.RegionWith
import Derived.Deep.RegionLaw
import Derived.StillTailTactics
import Derived.Laws.Rows
import Derived.Laws.AppendOwn
import Derived.WalkSmall
import Derived.IntWalk
import Derived.OwnWalk
namespace Go.Proofs.Ytaaaefoanjggcaa
set_option linter.unusedSimpArgs false
set_option linter.unusedVariables false
open Go.RowKit
theorem bel_drawn {B : Nat} {W W' : World} (h : Below B W W') (n : Nat) : Below B W (W'.drewN n) := ⟨h.os, h.tape, h.output, h.size, h.block⟩
theorem keepC {B : Nat} {W W' : World} {p : Addr} {v : Value} (h : Below B W W') (hp : p.block < B) (hc : W.cell? p = some v) : W'.cell? p = some v := (h.cell hp).trans hc
def cellsJ (x : Job) : List Value := [.int .i64 x.k, .int .i64 x.a]
def rowJ (l : List Job) : List Value := l.flatMap cellsJ
theorem rowJ_length (l : List Job) : (rowJ l).length = l.length * 2 := by
  induction l with
  | nil => rfl
  | cons p l ih => unfold rowJ at ih ⊢; rw [List.flatMap_cons, List.length_append, ih]; simp [cellsJ]; omega
theorem rowJ_append (l m : List Job) : rowJ (l ++ m) = rowJ l ++ rowJ m := by unfold rowJ; rw [List.flatMap_append]
theorem rowJ_one (p : Job) : rowJ [p] = cellsJ p := by simp [rowJ]
theorem rowJ_cons (p : Job) (l : List Job) : rowJ (p :: l) = .int .i64 p.k :: .int .i64 p.a :: rowJ l := rfl
theorem rowJ_get {l : List Job} {j : Nat} {p : Job} (h : l[j]? = some p) : (rowJ l)[j * 2]? = some (.int .i64 p.k) ∧ (rowJ l)[j * 2 + 1]? = some (.int .i64 p.a) := by
  induction l generalizing j with
  | nil => simp at h
  | cons q l ih =>
    rw [rowJ_cons]
    match j, h with
    | 0, h => simp at h; subst h; exact ⟨rfl, rfl⟩
    | j + 1, h =>
      have := ih (by simpa using h)
      rw [show (j + 1) * 2 = j * 2 + 1 + 1 by omega]
      simpa using this
theorem rowJ_one_cell {l : List Job} : ∀ u ∈ rowJ l, u.oneCell' = true := fun u hu => by
  obtain ⟨p, _, hp⟩ := List.mem_flatMap.1 hu
  simp [cellsJ] at hp
  rcases hp with rfl | rfl <;> rfl
theorem rowJ_take (l : List Job) (k : Nat) : rowJ (l.take k) = (rowJ l).take (k * 2) := by
  induction l generalizing k with
  | nil => simp [rowJ]
  | cons q l ih =>
    match k with
    | 0 => simp [rowJ]
    | k + 1 => rw [List.take_succ_cons, rowJ_cons, rowJ_cons, ih, show (k + 1) * 2 = k * 2 + 1 + 1 by omega]; rfl
theorem rowJ_drop (l : List Job) (k : Nat) : rowJ (l.drop k) = (rowJ l).drop (k * 2) := by
  induction l generalizing k with
  | nil => simp [rowJ]
  | cons q l ih =>
    match k with
    | 0 => simp
    | k + 1 => rw [List.drop_succ_cons, rowJ_cons, ih, show (k + 1) * 2 = k * 2 + 1 + 1 by omega]; rfl
theorem rowJ_set (l : List Job) (k : Nat) (x : Job) : rowJ (l.set k x) = ((rowJ l).set (k * 2) (.int .i64 x.k)).set (k * 2 + 1) (.int .i64 x.a) := by
  induction l generalizing k with
  | nil => simp [rowJ]
  | cons q l ih =>
    match k with
    | 0 => rfl
    | k + 1 =>
      rw [List.set_cons_succ, rowJ_cons, rowJ_cons, ih, show (k + 1) * 2 = k * 2 + 1 + 1 by omega, show k * 2 + 1 + 1 + 1 = (k * 2 + 1) + 1 + 1 from rfl]
      simp [List.set_cons_succ]
/-- A slice of jobs over memory of one's own (T: the element's type). -/
def OwnJ (T : TypeId) (W : World) (base : Nat) (v : Value) (l : List Job) : Prop := W.ownsRow base T 2 v l.length (rowJ l)
theorem OwnJ.nil (T : TypeId) (W : World) (base : Nat) : OwnJ T W base (.slice none 0 0) [] := World.ownsRow_nil _ _ _ _
theorem OwnJ.form {T : TypeId} {W : World} {base : Nat} {v : Value} {l : List Job} (h : OwnJ T W base v l) : (v = .slice none 0 0 ∧ l = []) ∨ ∃ g cap, v = .slice (some ⟨g, 0, none⟩) l.length cap ∧ base ≤ g ∧ g < W.heap.size ∧ l.length ≤ cap ∧ cap ≤ maxLen := by
  rcases h.2 with ⟨e, hl⟩ | ⟨g, cap, cur, e, hg, hh, hn, hm, _⟩
  · exact .inl ⟨e, List.eq_nil_of_length_eq_zero hl⟩
  · exact .inr ⟨g, cap, e, hg, (Array.getElem?_eq_some_iff.1 hh).1, hn, hm⟩
theorem OwnJ.shape {T : TypeId} {W : World} {base : Nat} {v : Value} {l : List Job} (h : OwnJ T W base v l) : ∃ a c, v = .slice a l.length c := by
  rcases h.form with ⟨e, hs⟩ | ⟨g, cap, e, _⟩
  · exact ⟨none, 0, by rw [e, hs]; rfl⟩
  · exact ⟨_, _, e⟩
theorem OwnJ.same {T : TypeId} {W W' : World} {base : Nat} {v : Value} {l : List Job} (h : OwnJ T W base v l) (k : ∀ g, v.ownBlock = some g → W'.heap[g]? = W.heap[g]?) : OwnJ T W' base v l := by
  refine ⟨h.1, ?_⟩
  rcases h.2 with h2 | ⟨g, cap, cur, e, hg, hh, r⟩
  · exact .inl h2
  · exact .inr ⟨g, cap, cur, e, hg, (k g (by rw [e]; rfl)).trans hh, r⟩
theorem OwnJ.mono {T : TypeId} {W : World} {base b : Nat} {v : Value} {l : List Job} (h : OwnJ T W base v l) (hb : b ≤ base) : OwnJ T W b v l := by
  refine ⟨h.1, ?_⟩
  rcases h.2 with h2 | ⟨g, cap, cur, e, hg, r⟩
  · exact .inl h2
  · exact .inr ⟨g, cap, cur, e, by omega, r⟩
theorem OwnJ.cell {T : TypeId} {W : World} {base g n cap : Nat} {l : List Job} (h : OwnJ T W base (.slice (some ⟨g, 0, none⟩) n cap) l) {j : Nat} {p : Job} (hj : l[j]? = some p) : W.cell? ⟨g, j * 2, none⟩ = some (.int .i64 p.k) ∧ W.cell? ⟨g, j * 2 + 1, none⟩ = some (.int .i64 p.a) := by
  have hr := rowJ_get hj
  have hadd : ∀ k, (⟨g, 0, none⟩ : Addr).add k = ⟨g, k, none⟩ := fun k => by unfold Addr.add; split <;> simp_all
  have h0 := World.ownsRow.cells h (g := g) rfl _ _ hr.1
  have h1 := World.ownsRow.cells h (g := g) rfl _ _ hr.2
  rw [hadd] at h0 h1
  exact ⟨h0, h1⟩
theorem OwnJ.frozen {T : TypeId} {W : World} {base g n cap : Nat} {l : List Job} (h : OwnJ T W base (.slice (some ⟨g, 0, none⟩) n cap) l) (j : Nat) : W.frozen? ⟨g, j, none⟩ = false := by
  rcases h.2 with ⟨e, _⟩ | ⟨g', cap', cur, e, hg, hh, _⟩
  · cases e
  · injection e with e1 _ _
    injection e1 with e1
    injection e1 with e1 _ _
    subst e1
    simp [World.frozen?, hh]
/-- A job of the row is stored into. -/
theorem OwnJ.set {T : TypeId} {W : World} {base g n cap : Nat} {l : List Job} (h : OwnJ T W base (.slice (some ⟨g, 0, none⟩) n cap) l) (j : Nat) (x : Job) : OwnJ T ((W.setCell ⟨g, j * 2, none⟩ (.int .i64 x.k)).setCell ⟨g, j * 2 + 1, none⟩ (.int .i64 x.a)) base (.slice (some ⟨g, 0, none⟩) n cap) (l.set j x) := by
  unfold OwnJ
  rw [List.length_set]
  refine ⟨by rw [rowJ_length, List.length_set], ?_⟩
  rcases h.2 with ⟨e, _⟩ | ⟨g', cap', cur, e, hg, hh, hn, hm, hs, ht⟩
  · cases e
  · injection e with e1 e2 e3
    injection e1 with e1
    injection e1 with e1 _ _
    subst e1 e2 e3
    refine .inr ⟨g, cap, _, rfl, hg, heap_setCell_same _ g _ _ _ _ (heap_setCell_same W g _ _ _ _ hh), hn, hm, by simpa using hs, ?_⟩
    rw [Array.toList_setIfInBounds, Array.toList_setIfInBounds, List.take_set, List.take_set, ht, rowJ_set]
/-- The first jobs of it. -/
theorem OwnJ.cut {T : TypeId} {W : World} {base g n cap : Nat} {l : List Job} (h : OwnJ T W base (.slice (some ⟨g, 0, none⟩) n cap) l) {k : Nat} (hk : k ≤ l.length) : OwnJ T W base (.slice (some ⟨g, 0, none⟩) k cap) (l.take k) := by
  have hlen : (l.take k).length = k := by rw [List.length_take]; omega
  unfold OwnJ
  rw [hlen]
  refine ⟨by rw [rowJ_length, hlen], ?_⟩
  rcases h.2 with ⟨e, _⟩ | ⟨g', cap', cur, e, hg, hh, hn, hm, hs, ht⟩
  · cases e
  · injection e with e1 e2 e3
    injection e1 with e1
    injection e1 with e1 _ _
    subst e1 e3
    refine .inr ⟨g, cap, cur, rfl, hg, hh, by omega, hm, hs, ?_⟩
    rw [rowJ_take, ← ht, List.take_take]
    congr 1
    omega
/-- A block that holds one job (T: its type). -/
def BxJ (T : TypeId) (W : World) (k : Nat) (x : Job) : Prop := W.heap[k]? = some (.cells #[.int .i64 x.k, .int .i64 x.a] T (0, 0))
theorem BxJ.lt {T : TypeId} {W : World} {k : Nat} {x : Job} (h : BxJ T W k x) : k < W.heap.size := (Array.getElem?_eq_some_iff.1 h).1
theorem BxJ.new (T : TypeId) (w : World) (x : Job) : BxJ T (w.alloc (.cells #[.int .i64 x.k, .int .i64 x.a] T)) w.heap.size x := heap_alloc_new w _
theorem BxJ.same {T : TypeId} {W W' : World} {k : Nat} {x : Job} (h : BxJ T W k x) (q : W'.heap[k]? = W.heap[k]?) : BxJ T W' k x := q.trans h
theorem BxJ.cells {T : TypeId} {W : World} {k : Nat} {x : Job} (h : BxJ T W k x) : W.cell? ⟨k, 0, none⟩ = some (.int .i64 x.k) ∧ W.cell? ⟨k, 1, none⟩ = some (.int .i64 x.a) ∧ W.frozen? ⟨k, 0, none⟩ = false ∧ W.frozen? ⟨k, 1, none⟩ = false := by
  unfold BxJ at h
  simp [World.cell?, World.frozen?, h]
/-- All blocks but three are as they were. -/
structure Fr (qb mb : Nat) (g : Option Nat) (W W' : World) : Prop where
  os : W'.os = W.os
  tape : W'.tape = W.tape
  output : W'.output = W.output
  size : W.heap.size ≤ W'.heap.size
  block : ∀ i, i < W.heap.size → i ≠ qb → i ≠ mb → some i ≠ g → W'.heap[i]? = W.heap[i]?
theorem Fr.refl (qb mb : Nat) (g : Option Nat) (W : World) : Fr qb mb g W W := ⟨rfl, rfl, rfl, Nat.le_refl _, fun _ _ _ _ _ => rfl⟩
theorem Fr.trans {qb mb : Nat} {g : Option Nat} {X Y Z : World} (h : Fr qb mb g X Y) (k : Fr qb mb g Y Z) : Fr qb mb g X Z :=
  ⟨k.os.trans h.os, k.tape.trans h.tape, k.output.trans h.output, Nat.le_trans h.size k.size, fun i hi a b c => (k.block i (Nat.lt_of_lt_of_le hi h.size) a b c).trans (h.block i hi a b c)⟩
/-- .. where the row may have become another one. -/
theorem Fr.trans2 {qb mb : Nat} {g g' : Option Nat} {X Y Z : World} (h : Fr qb mb g X Y) (hg : g' = g ∨ ∀ n, g' = some n → X.heap.size ≤ n) (k : Fr qb mb g' Y Z) : Fr qb mb g X Z :=
  ⟨k.os.trans h.os, k.tape.trans h.tape, k.output.trans h.output, Nat.le_trans h.size k.size, fun i hi a b c => (k.block i (Nat.lt_of_lt_of_le hi h.size) a b (by
    rcases hg with rfl | hg
    · exact c
    · intro e; have := hg i e.symm; omega)).trans (h.block i hi a b c)⟩
theorem Fr.of_below {qb mb : Nat} {g : Option Nat} {X Y : World} (h : Below X.heap.size X Y) : Fr qb mb g X Y := ⟨h.os, h.tape, h.output, h.size, fun i hi _ _ _ => h.block i hi⟩
theorem Fr.below {qb mb base : Nat} {g : Option Nat} {X Y : World} (h : Fr qb mb g X Y) (h1 : base ≤ qb) (h2 : base ≤ mb) (h3 : ∀ n, g = some n → base ≤ n) (h4 : base ≤ X.heap.size) : Below base X Y :=
  ⟨h.os, h.tape, h.output, h.size, fun i hi => h.block i (by omega) (by omega) (by omega) (fun e => by have := h3 i e.symm; omega)⟩
theorem Fr.drew {qb mb : Nat} {g : Option Nat} {X Y : World} (h : Fr qb mb g X Y) : Fr qb mb g X Y.drew := ⟨h.os, h.tape, h.output, h.size, h.block⟩
theorem Fr.drewN {qb mb : Nat} {g : Option Nat} {X Y : World} (h : Fr qb mb g X Y) (n : Nat) : Fr qb mb g X (Y.drewN n) := ⟨h.os, h.tape, h.output, h.size, h.block⟩
theorem Fr.setRow {qb mb g : Nat} (W : World) (i : Nat) (v : Value) : Fr qb mb (some g) W (W.setCell ⟨g, i, none⟩ v) :=
  ⟨rfl, rfl, rfl, by simp, fun j _ _ _ hj => heap_setCell_other _ _ _ _ (fun e => hj (by rw [e]))⟩
theorem Fr.setBox {qb mb : Nat} (g : Option Nat) (W : World) (i : Nat) (v : Value) : Fr qb mb g W (W.setCell ⟨qb, i, none⟩ v) :=
  ⟨rfl, rfl, rfl, by simp, fun j _ hj _ _ => heap_setCell_other _ _ _ _ hj⟩
theorem Fr.turned {qb mb : Nat} (g : Option Nat) {W W' : World} (h : W.mapTurned W' mb) : Fr qb mb g W W' :=
  ⟨h.grown.os, h.grown.tape, h.grown.output, h.grown.size, fun i hi _ hm _ => h.grown.block i hi (fun e => hm (by injection e))⟩
theorem Fr.grown {qb mb : Nat} {g : Option Nat} {W W' : World} (h : W.grownBy W' g) : Fr qb mb g W W' :=
  ⟨h.os, h.tape, h.output, h.size, fun i hi _ _ hg => h.block i hi hg⟩
/-- A QUEUE: block qb: its row v (block g), its map mb, which is the function f; the jobs l. n: no more keys than that. -/
structure QS (W : World) (base qb mb : Nat) (g : Option Nat) (n : Nat) (f : Int → Option Int) (l : List Job) (v : Value) : Prop where
  box : W.heap[qb]? = some (.cells #[v, .map (some mb)] 51 (0, 0))
  own : OwnJ 54 W base v l
  row : v.ownBlock = g
  map : MapF W mb n f
  keys : ∀ x ∈ l, InI x.k
  len : l.length ≤ n
  n : n ≤ 1000000
  bq : base ≤ qb
  bm : base ≤ mb
  ne : some qb ≠ g
  nm : some mb ≠ g
  nq : qb ≠ mb
def QP (W : World) (base qb mb : Nat) (g : Option Nat) (n : Nat) (f : Int → Option Int) (l : List Job) : Prop := ∃ v, QS W base qb mb g n f l v
section
variable {W W' : World} {base qb mb n : Nat} {g : Option Nat} {f : Int → Option Int} {l : List Job} {v : Value}
theorem QS.same (h : QS W base qb mb g n f l v) (k : ∀ i, i < W.heap.size → (i = qb ∨ i = mb ∨ some i = g) → W'.heap[i]? = W.heap[i]?) : QS W' base qb mb g n f l v :=
  ⟨(k qb (Array.getElem?_eq_some_iff.1 h.box).1 (.inl rfl)).trans h.box, h.own.same fun j hj => k j (World.ownsRow.lt h.own j hj).2 (.inr (.inr (by rw [← h.row, hj]))), h.row, h.map.same (k mb h.map.lt (.inr (.inl rfl))), h.keys, h.len, h.n, h.bq, h.bm, h.ne, h.nm, h.nq⟩
theorem QS.below (h : QS W base qb mb g n f l v) (k : Below W.heap.size W W') : QS W' base qb mb g n f l v := h.same fun i hi _ => k.block i hi
theorem QP.below (h : QP W base qb mb g n f l) (k : Below W.heap.size W W') : QP W' base qb mb g n f l := by
  obtain ⟨v, h⟩ := h
  exact ⟨v, h.below k⟩
theorem QS.cells (h : QS W base qb mb g n f l v) : W.cell? ⟨qb, 0, none⟩ = some v ∧ W.cell? ⟨qb, 1, none⟩ = some (.map (some mb)) ∧ W.frozen? ⟨qb, 0, none⟩ = false ∧ qb < W.heap.size := by
  have hb := h.box
  exact ⟨by simp [World.cell?, hb], by simp [World.cell?, hb], by simp [World.frozen?, hb], (Array.getElem?_eq_some_iff.1 hb).1⟩
theorem QS.blocks (h : QS W base qb mb g n f l v) : ∀ k, g = some k → base ≤ k ∧ k < W.heap.size := fun k hk => World.ownsRow.lt h.own k (by rw [h.row, hk])
theorem QS.lo (h : QS W base qb mb g n f l v) : base ≤ W.heap.size := Nat.le_trans h.bq (Nat.le_of_lt h.cells.2.2.2)
theorem QS.to_below (h : QS W base qb mb g n f l v) (k : Fr qb mb g W W') : Below base W W' := k.below h.bq h.bm (fun n hn => (h.blocks n hn).1) h.lo
/-- Where there is a job the row has a block. -/
theorem QS.has (h : QS W base qb mb g n f l v) {i : Nat} (hi : i < l.length) : ∃ b c, v = .slice (some ⟨b, 0, none⟩) l.length c ∧ g = some b ∧ l.length ≤ c ∧ c ≤ maxLen := by
  rcases h.own.form with ⟨_, e⟩ | ⟨b, c, e, _, _, h1, h2⟩
  · rw [e] at hi; simp at hi
  · exact ⟨b, c, e, by rw [← h.row, e]; rfl, h1, h2⟩
end
end Go.Proofs.Ytaaaefoanjggcaa
