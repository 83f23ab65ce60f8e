/-
  THE ANSWER TO A PACKET as data: what is asked for, sent, known at both ends; three rows that grow side by side.
-/
import Derived.Test.YtjfnpciecgemeaaDCnt
namespace Go.Proofs.Ytjfnpciecgemeaa.ti
set_option linter.unusedSimpArgs false
set_option linter.unusedVariables false
open Go.RowKit
def askF (mine told : List THd) (h : THd) : List THd := match findT mine h.id, findT told h.id with
  | none, some t => [t]
  | some m, some t => if newT m t < 0 then [t] else []
  | _, none => []
def sendF (tide : Bool) (mine told : List THd) (h : THd) : List TId := match findT mine h.id, findT told h.id with
  | some m, some t => if 0 < newT m t then [h.id] else []
  | some _, none => if tide = true then [h.id] else []
  | none, _ => []
def knowF (mine told : List THd) (h : THd) : List TId := match findT mine h.id, findT told h.id with
  | some m, some t => if newT m t = 0 then [h.id] else []
  | _, _ => []
theorem fold_from (m : List THd) : ∀ {l : List THd} {h : THd}, h ∈ m.foldl insT l → ∃ x ∈ l ++ m, x.id = h.id := by
  induction m with
  | nil => intro l h hh; exact ⟨h, by simpa using hh, rfl⟩
  | cons y m ih =>
    intro l h hh
    obtain ⟨x, hx, e⟩ := ih hh
    rcases List.mem_append.1 hx with q | q
    · rcases ins_mem q with q | q
      · exact ⟨y, by simp, by rw [← q]; exact e⟩
      · exact ⟨x, by simp [q], e⟩
    · exact ⟨x, by simp [q], e⟩
theorem merge_from {l m : List THd} {h : THd} (hh : h ∈ mergeT l m) : ∃ x ∈ l ++ m, x.id = h.id := by
  obtain ⟨x, hx, e⟩ := fold_from (l ++ m) (l := []) hh
  exact ⟨x, by simpa using hx, e⟩
theorem flat_next {α : Type} (F : THd → List α) {l : List THd} {k : Nat} {h : THd} (hh : l[k]? = some h) : (l.take (k + 1)).flatMap F = (l.take k).flatMap F ++ F h := by
  rw [List.take_add_one, hh, List.flatMap_append]
  simp
theorem ask_len (mine told : List THd) (h : THd) : (askF mine told h).length ≤ 1 := by
  unfold askF
  split
  · simp
  · split <;> simp
  · simp
theorem send_len (tide : Bool) (mine told : List THd) (h : THd) : (sendF tide mine told h).length ≤ 1 := by
  unfold sendF
  split
  · split <;> simp
  · split <;> simp
  · simp
theorem know_len (mine told : List THd) (h : THd) : (knowF mine told h).length ≤ 1 := by
  unfold knowF
  split
  · split <;> simp
  · simp
theorem flat_one {α : Type} (F : THd → List α) (hF : ∀ h, (F h).length ≤ 1) (l : List THd) : (l.flatMap F).length ≤ l.length := by
  induction l with
  | nil => simp
  | cons x l ih => rw [List.flatMap_cons, List.length_append, List.length_cons]; have := hF x; omega
theorem flat_len {tide : Bool} {mine told : List THd} (l : List THd) : (l.flatMap (askF mine told)).length ≤ l.length ∧ (l.flatMap (sendF tide mine told)).length ≤ l.length ∧ (l.flatMap (knowF mine told)).length ≤ l.length :=
  ⟨flat_one _ (ask_len _ _) l, flat_one _ (send_len _ _ _) l, flat_one _ (know_len _ _) l⟩
theorem send_id {tide : Bool} {mine told : List THd} {h : THd} {i : TId} (hi : i ∈ sendF tide mine told h) : i = h.id := by
  unfold sendF at hi
  split at hi
  · split at hi <;> simp at hi; exact hi
  · split at hi <;> simp at hi; exact hi
  · simp at hi
theorem know_id {mine told : List THd} {h : THd} {i : TId} (hi : i ∈ knowF mine told h) : i = h.id := by
  unfold knowF at hi
  split at hi
  · split at hi <;> simp at hi; exact hi
  · simp at hi
theorem send_not {tide : Bool} {mine told : List THd} {h : THd} {i j : TId} (hi : i ∈ sendF tide mine told h) (hj : j ∈ knowF mine told h) : False := by
  unfold sendF at hi
  unfold knowF at hj
  cases em : findT mine h.id with
  | none => rw [em] at hi; simp at hi
  | some m =>
    cases et : findT told h.id with
    | none => rw [em, et] at hj; simp at hj
    | some t =>
      rw [em, et] at hi hj
      simp only [] at hi hj
      split at hi
      · split at hj
        · omega
        · simp at hj
      · simp at hi
theorem send_know {tide : Bool} {mine told l : List THd} (ha : AscT l) {i : TId} (hi : i ∈ l.flatMap (sendF tide mine told)) (hj : i ∈ l.flatMap (knowF mine told)) : False := by
  obtain ⟨x, hx, h1⟩ := List.mem_flatMap.1 hi
  obtain ⟨y, hy, h2⟩ := List.mem_flatMap.1 hj
  have e := asc_one ha hx hy ((send_id h1).symm.trans (know_id h2))
  subst e
  exact send_not h1 h2
theorem asc_take {l : List THd} (h : AscT l) (k : Nat) : AscT (l.take k) := List.Pairwise.sublist (List.take_sublist _ _) h
theorem okH_zero : okH zeroH := by unfold okH okI In64 zeroH; simp
/-- A row of another kind lies as it lay where a row grows. -/
theorem OwnE.grownT {E F : Type} {T T' : TypeId} {sz sz' : Nat} {enc : E → List Value} {enc' : F → List Value} {W W' : World} {b b' : Nat} {v v' : Value} {l : List E} {l' : List F} (h : OwnE T sz enc W b v l) (h' : OwnE T' sz' enc' W b' v' l') (hg : W.grownBy W' v'.ownBlock) (hT : T ≠ T') : OwnE T sz enc W' b v l := h.same fun g hgv => by
  obtain ⟨cur, hc⟩ := h.block hgv
  refine hg.block g (Array.getElem?_eq_some_iff.1 hc).1 (fun e => ?_)
  obtain ⟨cur', hc'⟩ := h'.block e.symm
  rw [hc] at hc'
  cases hc'
  exact hT rfl
/-- Two rows of ids without an id in common lie apart. -/
theorem OwnE.grownA {W W' : World} {b : Nat} {v v' : Value} {l l' : List TId} (h : OwnE 24 4 cellsI W b v l) (h' : OwnE 24 4 cellsI W b v' l') (hg : W.grownBy W' v'.ownBlock) (hd : ∀ i j, i ∈ l → j ∈ l' → i ≠ j) (hv : l = [] → v.ownBlock = none) (hv' : l' = [] → v'.ownBlock = none) : OwnE 24 4 cellsI W' b v l := h.same fun g hgv => by
  obtain ⟨cur, hc⟩ := h.block hgv
  refine hg.block g (Array.getElem?_eq_some_iff.1 hc).1 (fun e => ?_)
  cases l with
  | nil => rw [hv rfl] at hgv; cases hgv
  | cons x l =>
    cases l' with
    | nil => rw [hv' rfl] at e; cases e
    | cons y l' =>
      rcases h.form with ⟨_, q⟩ | ⟨g1, c1, e1, _⟩
      · cases q
      · rcases h'.form with ⟨_, q⟩ | ⟨g2, c2, e2, _⟩
        · cases q
        · subst e1 e2
          obtain ⟨a1, o1, q1, _, r1⟩ := kindI.rd h 0 x rfl
          obtain ⟨a2, o2, q2, _, r2⟩ := kindI.rd h' 0 y rfl
          cases q1
          cases q2
          have g12 : g1 = g := by cases hgv; rfl
          have g22 : g2 = g := by cases e; rfl
          subst g12 g22
          have c0 := (r1 0 _ rfl).symm.trans (r2 0 _ rfl)
          have c1 := (r1 1 _ rfl).symm.trans (r2 1 _ rfl)
          have c2 := (r1 2 _ rfl).symm.trans (r2 2 _ rfl)
          have c3 := (r1 3 _ rfl).symm.trans (r2 3 _ rfl)
          injection c0 with c0
          injection c1 with c1
          injection c2 with c2
          injection c3 with c3
          injection c0 with _ c0
          injection c1 with _ c1
          injection c2 with _ c2
          injection c3 with _ c3
          exact hd x y (by simp) (by simp) (TId.ext c0 c1 c2 c3)
theorem rd_oneE {E : Type} {sl T : TypeId} {sz bytes : Nat} {z : Value} {enc : E → List Value} (K : KindE sl T sz bytes z enc) (W : World) (x : E) : RdE sz enc (W.alloc (.cells (enc x).toArray T)) (some ⟨W.heap.size, 0, none⟩) [x] := fun j p hj => by
  have hj0 : j = 0 := by have := (List.getElem?_eq_some_iff.1 hj).1; simp at this; exact this
  subst hj0
  simp at hj
  subst hj
  refine ⟨_, 0, rfl, by simp, ?_⟩
  have := range_list (heap_alloc_new W (.cells (enc x).toArray T))
  simpa using this
theorem wpList_load_gg {P : Program} {ops : Array Oper} {rest : List Oper} {op : Oper} {a : Act} {w : World} {Q : Exit → Act → World → Prop} (ty : TypeId) (x : Operand) (ho : op.op = .load ty x)
    (b o : Nat) (hx : a.eval x = .pointer (some ⟨b, o, none⟩)) (cs : List Value) (d : TypeDesc) (hc : w.rangeAt b o cs)
    (hu : P.underlying ty = some d) (hd : d.isRow = true) (hi : (P.info? ty).map (·.size) = some cs.length) (hw : Region.wanted op (yielded ops a.tmps) = true)
    (h : wpList P ops Q rest (a.put op.dst (.agg cs.toArray)) w) : wpList P ops Q (op :: rest) a w := by
  unfold wpList
  rw [if_pos hw]
  exact .inl (wp_load_mid ty x ho b o hx cs d hc hu hd hi h)
end Go.Proofs.Ytjfnpciecgemeaa.ti
