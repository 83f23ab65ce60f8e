/-
  THE DOCUMENT's TABLE IN MEMORY: its room, and a row of nets with their numbers.
-/
import Derived.Test.YtpoognkppnplpaaYPut
namespace Go.Proofs.Ytpoognkppnplpaa
set_option linter.unusedSimpArgs false
set_option linter.unusedVariables false
open Go.RowKit
def cellsE (x : Ent) : List Value := [.int .u32 x.1.1, .int .i64 x.1.2, .int .i64 x.2]
def rowE (l : List Ent) : List Value := l.flatMap cellsE
theorem rowE_length (l : List Ent) : (rowE l).length = l.length * 3 := by
  induction l with
  | nil => rfl
  | cons p l ih => unfold rowE at ih ⊢; rw [List.flatMap_cons, List.length_append, ih]; simp [cellsE]; omega
theorem rowE_append (l m : List Ent) : rowE (l ++ m) = rowE l ++ rowE m := by unfold rowE; rw [List.flatMap_append]
theorem rowE_one (p : Ent) : rowE [p] = cellsE p := by simp [rowE]
theorem rowE_cons (p : Ent) (l : List Ent) : rowE (p :: l) = cellsE p ++ rowE l := rfl
theorem rowE_get {l : List Ent} {j : Nat} {p : Ent} (h : l[j]? = some p) : (rowE l)[j * 3]? = some (.int .u32 p.1.1) ∧ (rowE l)[j * 3 + 1]? = some (.int .i64 p.1.2) ∧ (rowE l)[j * 3 + 2]? = some (.int .i64 p.2) := by
  induction l generalizing j with
  | nil => simp at h
  | cons q l ih =>
    have e : rowE (q :: l) = .int .u32 q.1.1 :: .int .i64 q.1.2 :: .int .i64 q.2 :: rowE l := rfl
    rw [e]
    match j, h with
    | 0, h => simp at h; subst h; exact ⟨rfl, rfl, rfl⟩
    | j + 1, h =>
      have := ih (by simpa using h)
      rw [show (j + 1) * 3 = j * 3 + 1 + 1 + 1 by omega, show j * 3 + 1 + 1 + 1 + 1 = j * 3 + 1 + 1 + 1 + 1 from rfl, show j * 3 + 1 + 1 + 1 + 2 = j * 3 + 2 + 1 + 1 + 1 by omega]
      simpa using this
theorem rowE_one_cell {l : List Ent} : ∀ u ∈ rowE l, u.oneCell' = true := fun u hu => by
  obtain ⟨p, _, hp⟩ := List.mem_flatMap.1 hu
  simp [cellsE] at hp
  rcases hp with rfl | rfl | rfl <;> rfl
theorem rowE_take (l : List Ent) (k : Nat) : rowE (l.take k) = (rowE l).take (k * 3) := by
  induction l generalizing k with
  | nil => simp [rowE]
  | cons q l ih =>
    match k with
    | 0 => simp [rowE]
    | k + 1 => rw [List.take_succ_cons, rowE_cons, rowE_cons, ih, show (k + 1) * 3 = k * 3 + 3 by omega]; simp [cellsE]
theorem rowE_drop (l : List Ent) (k : Nat) : rowE (l.drop k) = (rowE l).drop (k * 3) := by
  induction l generalizing k with
  | nil => simp [rowE]
  | cons q l ih =>
    match k with
    | 0 => simp
    | k + 1 => rw [List.drop_succ_cons, rowE_cons, ih, show (k + 1) * 3 = k * 3 + 3 by omega]; simp [cellsE]
/-- A slice of known nets over memory of one's own. -/
def OwnE (W : World) (base : Nat) (v : Value) (l : List Ent) : Prop := W.ownsRow base 62 3 v l.length (rowE l)
theorem OwnE.nil (W : World) (base : Nat) : OwnE W base (.slice none 0 0) [] := World.ownsRow_nil _ _ _ _
theorem OwnE.form {W : World} {base : Nat} {v : Value} {l : List Ent} (h : OwnE W base v l) : (v = .slice none 0 0 ∧ l = []) ∨ ∃ g cap, v = .slice (some ⟨g, 0, none⟩) l.length cap ∧ base ≤ g ∧ g < W.heap.size ∧ l.length ≤ cap ∧ cap ≤ maxLen := by
  rcases h.2 with ⟨e, hl⟩ | ⟨g, cap, cur, e, hg, hh, hn, hm, _⟩
  · exact .inl ⟨e, List.eq_nil_of_length_eq_zero hl⟩
  · exact .inr ⟨g, cap, e, hg, (Array.getElem?_eq_some_iff.1 hh).1, hn, hm⟩
theorem OwnE.keepT {S : TypeId → Prop} (hS : S 62) {W W' : World} {base : Nat} {v : Value} {l : List Ent} (h : OwnE W base v l) (k : KeepT S W W') : OwnE W' base v l := by
  refine ⟨h.1, ?_⟩
  rcases h.2 with h2 | ⟨g, cap, cur, e, hg, hh, r⟩
  · exact .inl h2
  · exact .inr ⟨g, cap, cur, e, hg, k.2 _ _ _ _ hS hh, r⟩
theorem OwnE.cell {W : World} {base g n cap : Nat} {l : List Ent} (h : OwnE W base (.slice (some ⟨g, 0, none⟩) n cap) l) {j : Nat} {p : Ent} (hj : l[j]? = some p) : W.cell? ⟨g, j * 3, none⟩ = some (.int .u32 p.1.1) ∧ W.cell? ⟨g, j * 3 + 1, none⟩ = some (.int .i64 p.1.2) ∧ W.cell? ⟨g, j * 3 + 2, none⟩ = some (.int .i64 p.2) := by
  have hr := rowE_get hj
  have hadd : ∀ k, (⟨g, 0, none⟩ : Addr).add k = ⟨g, k, none⟩ := fun k => by unfold Addr.add; split <;> simp_all
  have h0 := World.ownsRow.cells h (g := g) rfl _ _ hr.1
  have h1 := World.ownsRow.cells h (g := g) rfl _ _ hr.2.1
  have h2 := World.ownsRow.cells h (g := g) rfl _ _ hr.2.2
  rw [hadd] at h0 h1 h2
  exact ⟨h0, h1, h2⟩
theorem own_monoE {W : World} {base b : Nat} {v : Value} {l : List Ent} (h : OwnE W base v l) (hb : b ≤ base) : OwnE W b v l := by
  refine ⟨h.1, ?_⟩
  rcases h.2 with h2 | ⟨g, cap, cur, e, hg, r⟩
  · exact .inl h2
  · exact .inr ⟨g, cap, cur, e, by omega, r⟩
/-- The document's table. -/
structure Ref (W : World) (base rb : Nat) (room : Int) (L : List Ent) (v : Value) : Prop where
  box : W.heap[rb]? = some (.cells #[.int .i64 room, v] 36 (0, 0))
  own : OwnE W base v L
  le : base ≤ rb
  good : Good L
  len : L.length ≤ 4096
  room : room ≤ 4096
  base : base ≤ W.heap.size
def RefP (W : World) (base rb : Nat) (room : Int) (L : List Ent) : Prop := ∃ v, Ref W base rb room L v
theorem Ref.keepS {S : TypeId → Prop} (h1 : S 62) (h2 : S 36) {W W' : World} {base rb : Nat} {room : Int} {L : List Ent} {v : Value} (h : Ref W base rb room L v) (k : KeepT S W W') : Ref W' base rb room L v :=
  ⟨k.2 _ _ _ _ h2 h.box, h.own.keepT h1 k, h.le, h.good, h.len, h.room, Nat.le_trans h.base k.1⟩
theorem Ref.keep {W W' : World} {base rb : Nat} {room : Int} {L : List Ent} {v : Value} (h : Ref W base rb room L v) (k : KeepT SP W W') : Ref W' base rb room L v := h.keepS (by unfold SP; decide) (by unfold SP; decide) k
theorem Ref.below {W W' : World} {base rb : Nat} {room : Int} {L : List Ent} {v : Value} (h : Ref W base rb room L v) (k : Below W.heap.size W W') : Ref W' base rb room L v := h.keep (KeepT.below k)
theorem RefP.keep {W W' : World} {base rb : Nat} {room : Int} {L : List Ent} (h : RefP W base rb room L) (k : KeepT SP W W') : RefP W' base rb room L := by
  obtain ⟨v, h⟩ := h
  exact ⟨v, h.keep k⟩
theorem RefP.below {W W' : World} {base rb : Nat} {room : Int} {L : List Ent} (h : RefP W base rb room L) (k : Below W.heap.size W W') : RefP W' base rb room L := h.keep (KeepT.below k)
theorem Ref.cells {W : World} {base rb : Nat} {room : Int} {L : List Ent} {v : Value} (h : Ref W base rb room L v) : W.cell? ⟨rb, 0, none⟩ = some (.int .i64 room) ∧ W.cell? ⟨rb, 1, none⟩ = some v ∧ W.frozen? ⟨rb, 0, none⟩ = false ∧ W.frozen? ⟨rb, 1, none⟩ = false ∧ rb < W.heap.size := by
  have hb := h.box
  exact ⟨by simp [World.cell?, hb], by simp [World.cell?, hb], by simp [World.frozen?, hb], by simp [World.frozen?, hb], (Array.getElem?_eq_some_iff.1 hb).1⟩
theorem Ref.shape {W : World} {base rb : Nat} {room : Int} {L : List Ent} {v : Value} (h : Ref W base rb room L v) : ∃ a c, v = .slice a L.length c := by
  rcases h.own.form with ⟨e, hs⟩ | ⟨g, cap, e, _⟩
  · exact ⟨none, 0, by rw [e, hs]; rfl⟩
  · exact ⟨_, _, e⟩
/-- What the document's table does to the world. -/
structure TurnsR (base : Nat) (W W' : World) : Prop where
  bel : Below base W W'
  keep : KeepT SR W W'
theorem TurnsR.below {base : Nat} {X Y : World} (h : Below X.heap.size X Y) (hb : base ≤ X.heap.size) : TurnsR base X Y := ⟨h.mono hb, KeepT.below h⟩
/-- The place of a net, or where it would stand. -/
def placeN (L : List Ent) (p : Nat × Int) : Nat := (L.takeWhile fun x => decide (lessP x.1 p)).length
def placeIs (L : List Ent) (p : Nat × Int) : Bool := match L[placeN L p]? with
  | some x => decide (x.1 = p)
  | none => false
theorem placeN_le (L : List Ent) (p : Nat × Int) : placeN L p ≤ L.length := by
  unfold placeN
  exact (List.takeWhile_prefix _).length_le
theorem placeN_at {L : List Ent} {p : Nat × Int} {k : Nat} (h : ∀ j, j < k → ∃ x, L[j]? = some x ∧ lessP x.1 p) (he : k = L.length ∨ ∃ y, L[k]? = some y ∧ ¬ lessP y.1 p) : placeN L p = k := by
  induction L generalizing k with
  | nil =>
    rcases he with he | ⟨y, hy, _⟩
    · exact he.symm
    · simp at hy
  | cons x l ih =>
    match k with
    | 0 =>
      rcases he with he | ⟨y, hy, hn⟩
      · simp at he
      · simp at hy
        subst hy
        unfold placeN
        rw [List.takeWhile_cons, if_neg (by simpa using hn)]
        rfl
    | k + 1 =>
      obtain ⟨x', hx', hl⟩ := h 0 (by omega)
      simp at hx'
      subst hx'
      have := ih (k := k) (fun j hj => by
        obtain ⟨z, hz, hzl⟩ := h (j + 1) (by omega)
        exact ⟨z, by simpa using hz, hzl⟩) (by
        rcases he with he | ⟨y, hy, hn⟩
        · left; simpa using he
        · right; exact ⟨y, by simpa using hy, hn⟩)
      unfold placeN at this ⊢
      rw [List.takeWhile_cons, if_pos (by simpa using hl), List.length_cons, this]
theorem placeIs_get {L : List Ent} (h : L.Pairwise fun x y => lessP x.1 y.1) (p : Nat × Int) : placeIs L p = (getL L p).isSome := by
  induction L with
  | nil => rfl
  | cons x l ih =>
    obtain ⟨hx, hl⟩ := List.pairwise_cons.1 h
    have ih := ih hl
    unfold placeIs placeN at ih ⊢
    rw [List.takeWhile_cons]
    by_cases hlt : lessP x.1 p
    · have hne : ¬ x.1 = p := fun e => lessP_irrefl p (by rwa [e] at hlt)
      have e : getL (x :: l) p = getL l p := by unfold getL; rw [List.find?_cons, decide_eq_false hne]
      rw [if_pos (by simpa using hlt), e, ← ih, List.length_cons, List.getElem?_cons_succ]
    · have hrest : ∀ z ∈ l, z.1 ≠ p := fun z hz e => hlt (by have := hx z hz; rwa [e] at this)
      rw [if_neg (by simpa using hlt)]
      simp only [List.length_nil, List.getElem?_cons_zero]
      by_cases he : x.1 = p
      · have e : getL (x :: l) p = some x.2 := by unfold getL; rw [List.find?_cons, decide_eq_true he]; rfl
        rw [e, decide_eq_true he]
        rfl
      · have e : getL (x :: l) p = none := getL_none.2 (fun y hy => by
          rcases List.mem_cons.1 hy with rfl | h1
          · exact he
          · exact hrest _ h1)
        rw [e, decide_eq_false he]
        rfl
theorem place_get {L : List Ent} (h : L.Pairwise fun x y => lessP x.1 y.1) {p : Nat × Int} {m : Int} (hg : getL L p = some m) : L[placeN L p]? = some (p, m) := by
  have hi := placeIs_get h p
  rw [hg] at hi
  unfold placeIs at hi
  cases hx : L[placeN L p]? with
  | none => rw [hx] at hi; cases hi
  | some x =>
    rw [hx] at hi
    have e : x.1 = p := by simpa using hi
    have hm : (p, x.2) ∈ L := by rw [← e]; exact List.mem_of_getElem? hx
    have := (getL_mem h).2 hm
    rw [this] at hg
    injection hg with hg
    rw [← e, ← hg]
theorem placeN_lt {x : Ent} {l : List Ent} {p : Nat × Int} (h : lessP x.1 p) : placeN (x :: l) p = placeN l p + 1 := by
  unfold placeN
  rw [List.takeWhile_cons, if_pos (by simpa using h), List.length_cons]
theorem placeN_ge {x : Ent} {l : List Ent} {p : Nat × Int} (h : ¬ lessP x.1 p) : placeN (x :: l) p = 0 := by
  unfold placeN
  rw [List.takeWhile_cons, if_neg (by simpa using h)]
  rfl
theorem put_place {L : List Ent} (h : L.Pairwise fun x y => lessP x.1 y.1) (p : Nat × Int) (k : Int) : putL p k L = if (getL L p).isSome then L.set (placeN L p) (p, k) else L.take (placeN L p) ++ [(p, k)] ++ L.drop (placeN L p) := by
  induction L with
  | nil => rfl
  | cons x l ih =>
    obtain ⟨hx, hl⟩ := List.pairwise_cons.1 h
    have ih := ih hl
    rw [putL]
    by_cases hlt : lessP x.1 p
    · have hne : ¬ x.1 = p := fun e => lessP_irrefl p (by rwa [e] at hlt)
      have e : getL (x :: l) p = getL l p := by unfold getL; rw [List.find?_cons, decide_eq_false hne]
      rw [if_pos hlt, e, ih, placeN_lt hlt]
      split <;> simp
    · have hrest : ∀ z ∈ l, z.1 ≠ p := fun z hz e => hlt (by have := hx z hz; rwa [e] at this)
      rw [if_neg hlt, placeN_ge hlt]
      by_cases he : x.1 = p
      · have e : getL (x :: l) p = some x.2 := by unfold getL; rw [List.find?_cons, decide_eq_true he]; rfl
        rw [if_pos he, e]
        simp
      · have e : getL (x :: l) p = none := getL_none.2 (fun y hy => by
          rcases List.mem_cons.1 hy with rfl | h1
          · exact he
          · exact hrest _ h1)
        rw [if_neg he, e]
        simp
theorem drop_place {L : List Ent} (h : L.Pairwise fun x y => lessP x.1 y.1) {p : Nat × Int} {m : Int} (hg : getL L p = some m) : dropL p L = L.take (placeN L p) ++ L.drop (placeN L p + 1) := by
  induction L with
  | nil => simp [getL] at hg
  | cons x l ih =>
    obtain ⟨hx, hl⟩ := List.pairwise_cons.1 h
    unfold placeN
    rw [List.takeWhile_cons]
    by_cases hlt : lessP x.1 p
    · have hne : ¬ x.1 = p := fun e => lessP_irrefl p (by rwa [e] at hlt)
      have e : getL (x :: l) p = getL l p := by unfold getL; rw [List.find?_cons, decide_eq_false hne]
      rw [e] at hg
      have ih := ih hl hg
      have ed : dropL p (x :: l) = x :: dropL p l := by unfold dropL; rw [List.filter_cons]; simp [hne]
      rw [if_pos (by simpa using hlt), ed, ih, List.length_cons]
      simp [placeN]
    · have hrest : ∀ z ∈ l, z.1 ≠ p := fun z hz e => hlt (by have := hx z hz; rwa [e] at this)
      rw [if_neg (by simpa using hlt)]
      have he : x.1 = p := by
        by_cases he : x.1 = p
        · exact he
        · have e : getL (x :: l) p = none := getL_none.2 (fun y hy => by
            rcases List.mem_cons.1 hy with rfl | h1
            · exact he
            · exact hrest _ h1)
          rw [e] at hg
          cases hg
      have e2 : getL l p = none := getL_none.2 hrest
      have h1 := dropL_none e2
      unfold dropL at h1 ⊢
      rw [List.filter_cons]
      simp [he]
      simpa using h1
end Go.Proofs.Ytpoognkppnplpaa
