/-
  DESCRIPTIONS AND ANSWERS as data: the spans of what is told, what is asked for, sent, known at both ends.
-/
import Derived.Test.YtjfnpciecgemeaaTMap
import Derived.Test.YtjfnpciecgemeaaTIns
import Derived.Test.YtjfnpciecgemeaaWMath
namespace Go.Proofs.Ytjfnpciecgemeaa.ti
set_option linter.unusedSimpArgs false
set_option linter.unusedVariables false
def toId (x : TId) : IdT := ⟨x.d, x.o, x.k, x.n⟩
def toH (h : THd) : HeadT := ⟨toId h.id, h.seq, h.life⟩
def rgtH (h : THd) : Bool := _root_.Go.Proofs.Ytjfnpciecgemeaa.headR (toH h)
theorem rgB_is {a b n : Int} (h : rgB a b n = true) : a ≤ n ∧ n ≤ b := by unfold rgB at h; simpa using h
theorem idR_right {x : TId} (h : idR (toId x) = true) : rightT x := by
  unfold idR toId at h
  simp only [Bool.and_eq_true] at h
  have h1 := rgB_is h.1.1.1
  have h2 := rgB_is h.1.1.2
  have h3 := rgB_is h.1.2
  have h4 := rgB_is h.2
  exact ⟨h1.1, h1.2, h2.1, h2.2, h3.1, h3.2, h4.1, h4.2⟩
theorem right_idR {x : TId} (h : rightT x) : idR (toId x) = true := by
  obtain ⟨h1, h2, h3, h4, h5, h6, h7, h8⟩ := h
  unfold idR toId rgB
  simp [h1, h2, h3, h4, h5, h6, h7, h8]
theorem rgtH_id {h : THd} (k : rgtH h = true) : rightT h.id := by
  unfold rgtH _root_.Go.Proofs.Ytjfnpciecgemeaa.headR toH at k
  simp only [Bool.and_eq_true] at k
  exact idR_right k.1.1
theorem rgtH_num {h : THd} (k : rgtH h = true) : (0 ≤ h.seq ∧ h.seq ≤ 1099511627776) ∧ 0 ≤ h.life ∧ h.life ≤ 604800 := by
  unfold rgtH _root_.Go.Proofs.Ytjfnpciecgemeaa.headR toH at k
  simp only [Bool.and_eq_true] at k
  exact ⟨rgB_is k.1.2, rgB_is k.2⟩
/-! What is told of heads, in spans. -/
structure Dp where
  frm : TId
  to : TId
  hs : List THd
def lastId (l : List THd) : TId := match l.getLast? with | some h => h.id | none => zeroT
def grpT (per : Nat) (all : List THd) (k : Nat) : List THd := (all.drop (k * per)).take per
def toT (per : Nat) (all : List THd) (k : Nat) : TId := if (k + 1) * per < all.length then lastId (grpT per all k) else lastT
def frmT (per : Nat) (all : List THd) : Nat → TId
  | 0 => firstT
  | k + 1 => (afterT (toT per all k)).1
def dpT (per : Nat) (all : List THd) (k : Nat) : Dp := ⟨frmT per all k, toT per all k, grpT per all k⟩
/-- So many packets there are. -/
def cntT (per n : Nat) : Nat := if n = 0 then 1 else (n + per - 1) / per
def descT (per : Nat) (all : List THd) : List Dp := (List.range (cntT per all.length)).map (dpT per all)
theorem cnt_pos {per : Nat} (hp : 0 < per) (n : Nat) : 0 < cntT per n := by
  unfold cntT
  split
  · omega
  · exact Nat.div_pos (by omega) hp
theorem cnt_step {per n k : Nat} (hp : 0 < per) : k + 1 < cntT per n ↔ (k + 1) * per < n := by
  unfold cntT
  split
  · rename_i h; subst h; omega
  · rename_i h
    rw [show k + 1 < (n + per - 1) / per ↔ k + 1 + 1 ≤ (n + per - 1) / per from Iff.rfl, Nat.le_div_iff_mul_le hp, Nat.add_mul (k + 1) 1 per, Nat.one_mul]
    omega
theorem cnt_last {per n k : Nat} (hp : 0 < per) (hk : k < cntT per n) (h : ¬ (k + 1) * per < n) : cntT per n = k + 1 := by
  have := mt (cnt_step (per := per) (n := n) (k := k) hp).1 h
  omega
theorem cnt_le {per : Nat} (hp : 0 < per) (n : Nat) : cntT per n ≤ n + 1 := by
  have h := (cnt_step (per := per) (n := n) (k := cntT per n - 2) hp).1
  have h1 := cnt_pos hp n
  rcases Nat.lt_or_ge (cntT per n) 2 with q | q
  · omega
  · have := h (by omega)
    have : cntT per n - 2 + 1 ≤ (cntT per n - 2 + 1) * per := Nat.le_mul_of_pos_right _ hp
    omega
theorem desc_len (per : Nat) (all : List THd) : (descT per all).length = cntT per all.length := by simp [descT]
theorem desc_at {per : Nat} {all : List THd} {k : Nat} (h : k < cntT per all.length) : (descT per all)[k]? = some (dpT per all k) := by
  unfold descT
  rw [List.getElem?_map, List.getElem?_range h]
  rfl
theorem desc_next {per : Nat} {all : List THd} (k : Nat) : (List.range (k + 1)).map (dpT per all) = (List.range k).map (dpT per all) ++ [dpT per all k] := by
  rw [List.range_succ, List.map_append]; rfl
theorem grp_len (per : Nat) (all : List THd) (k : Nat) : (grpT per all k).length ≤ per := by unfold grpT; simp; omega
theorem grp_mem {per : Nat} {all : List THd} {k : Nat} {h : THd} (hh : h ∈ grpT per all k) : h ∈ all := List.mem_of_mem_drop (List.mem_of_mem_take hh)
/-- All groups one behind the other. -/
theorem grp_take {per : Nat} (all : List THd) (k : Nat) : all.take (k * per) ++ grpT per all k = all.take ((k + 1) * per) := by
  unfold grpT
  rw [Nat.add_mul, Nat.one_mul, List.take_add]
theorem cnt_all {per : Nat} (hp : 0 < per) (all : List THd) : all.take (cntT per all.length * per) = all := by
  apply List.take_of_length_le
  have h1 := cnt_pos hp all.length
  have := mt (cnt_step (per := per) (n := all.length) (k := cntT per all.length - 1) hp).2 (by omega)
  rw [show cntT per all.length - 1 + 1 = cntT per all.length by omega] at this
  omega
/-- An id in a span. -/
def inB (f t i : TId) : Bool := !decide (lexT i f) && !decide (lexT t i)
theorem inB_is {f t i : TId} : inB f t i = true ↔ ¬ lexT i f ∧ ¬ lexT t i := by unfold inB; simp
def AllR (all : List THd) : Prop := AscT all ∧ ∀ x ∈ all, rightT x.id
theorem asc_at {all : List THd} (h : AscT all) {i j : Nat} {x y : THd} (hx : all[i]? = some x) (hy : all[j]? = some y) (hij : i < j) : lexT x.id y.id := by
  obtain ⟨h1, rfl⟩ := List.getElem?_eq_some_iff.1 hx
  obtain ⟨h2, rfl⟩ := List.getElem?_eq_some_iff.1 hy
  exact List.pairwise_iff_getElem.1 h i j h1 h2 hij
theorem to_at {per : Nat} (hp : 0 < per) {all : List THd} {k : Nat} (h : (k + 1) * per < all.length) : ∃ x, all[(k + 1) * per - 1]? = some x ∧ toT per all k = x.id := by
  have h1 : (k + 1) * per = k * per + per := by rw [Nat.add_mul, Nat.one_mul]
  refine ⟨all[(k + 1) * per - 1]'(by omega), List.getElem?_eq_getElem _, ?_⟩
  have hg : (grpT per all k).length = per := by unfold grpT; simp; omega
  have hl : (grpT per all k).getLast? = some (all[(k + 1) * per - 1]'(by omega)) := by
    rw [List.getLast?_eq_getElem?, hg]
    unfold grpT
    rw [List.getElem?_take, if_pos (by omega), List.getElem?_drop, List.getElem?_eq_getElem (by omega)]
    congr 1
    congr 1
    omega
  unfold toT lastId
  rw [if_pos h, hl]
/-- Behind a span that isn't the last one there is the next one. -/
theorem next_span {per : Nat} (hp : 0 < per) {all : List THd} (H : AllR all) {k : Nat} (h : (k + 1) * per < all.length) :
    rightT (toT per all k) ∧ (afterT (toT per all k)).2 = true ∧ lexT (toT per all k) (frmT per all (k + 1)) ∧ rightT (frmT per all (k + 1)) ∧ ∀ b, lexT (toT per all k) b → lexT b (frmT per all (k + 1)) → ¬ rightT b := by
  obtain ⟨x, hx, ex⟩ := to_at hp h
  obtain ⟨y, hy⟩ : ∃ y, all[(k + 1) * per]? = some y := ⟨_, List.getElem?_eq_getElem h⟩
  have h1 : (k + 1) * per = k * per + per := by rw [Nat.add_mul, Nat.one_mul]
  have hxy := asc_at H.1 hx hy (by omega)
  have hrx := H.2 x (List.mem_of_getElem? hx)
  have hry := H.2 y (List.mem_of_getElem? hy)
  have hne : x.id ≠ lastT := fun e => by rw [e] at hxy; exact (right_span hry).2 hxy
  obtain ⟨a1, a2, a3, a4⟩ := after_is hrx hne
  rw [show frmT per all (k + 1) = (afterT (toT per all k)).1 from rfl, ex]
  exact ⟨hrx, a1, a2, a3, a4⟩
theorem frm_right {per : Nat} (hp : 0 < per) {all : List THd} (H : AllR all) {k : Nat} (h : k < cntT per all.length) : rightT (frmT per all k) := by
  cases k with
  | zero => show rightT firstT; unfold firstT rightT; decide
  | succ k => exact (next_span hp H ((cnt_step hp).1 h)).2.2.2.1
theorem to_right {per : Nat} (hp : 0 < per) {all : List THd} (H : AllR all) (k : Nat) : rightT (toT per all k) := by
  by_cases h : (k + 1) * per < all.length
  · exact (next_span hp H h).1
  · unfold toT; rw [if_neg h]; unfold lastT rightT; decide
/-- A head's place tells whether it is in a span. -/
theorem span_at {per : Nat} (hp : 0 < per) {all : List THd} (H : AllR all) {k j : Nat} (hk : k < cntT per all.length) {x : THd} (hx : all[j]? = some x) :
    (lexT x.id (frmT per all k) ↔ j < k * per) ∧ (lexT (toT per all k) x.id ↔ (k + 1) * per ≤ j) := by
  have hr := H.2 x (List.mem_of_getElem? hx)
  have hj := (List.getElem?_eq_some_iff.1 hx).1
  constructor
  · cases k with
    | zero => simp only [Nat.zero_mul, Nat.not_lt_zero, iff_false]; exact (right_span hr).1
    | succ k =>
      have hc := (cnt_step hp).1 hk
      obtain ⟨y, hy, ey⟩ := to_at hp hc
      obtain ⟨_, _, n1, _, n2⟩ := next_span hp H hc
      rw [ey] at n1 n2
      have h1 : (k + 1) * per = k * per + per := by rw [Nat.add_mul, Nat.one_mul]
      constructor
      · intro h
        rcases Nat.lt_or_ge j ((k + 1) * per) with q | q
        · exact q
        · exact absurd hr (n2 x.id (asc_at H.1 hy hx (by omega)) h)
      · intro h
        rcases Nat.lt_or_ge j ((k + 1) * per - 1) with q | q
        · exact lex_tr (asc_at H.1 hx hy q) n1
        · rw [show j = (k + 1) * per - 1 by omega, hy] at hx
          cases hx
          exact n1
  · by_cases hc : (k + 1) * per < all.length
    · obtain ⟨y, hy, ey⟩ := to_at hp hc
      have h1 : (k + 1) * per = k * per + per := by rw [Nat.add_mul, Nat.one_mul]
      rw [ey]
      constructor
      · intro h
        rcases Nat.lt_or_ge j ((k + 1) * per) with q | q
        · rcases Nat.lt_or_ge j ((k + 1) * per - 1) with q2 | q2
          · exact absurd h (lex_asym (asc_at H.1 hx hy q2))
          · rw [show j = (k + 1) * per - 1 by omega, hy] at hx
            cases hx
            exact absurd h (lex_irr _)
        · exact q
      · intro h
        exact asc_at H.1 hy hx (by omega)
    · have e : toT per all k = lastT := by unfold toT; rw [if_neg hc]
      rw [e]
      exact ⟨fun h => absurd h (right_span hr).2, fun h => by omega⟩
theorem grp_in {per : Nat} (hp : 0 < per) {all : List THd} (H : AllR all) {k : Nat} (hk : k < cntT per all.length) {x : THd} (hx : x ∈ grpT per all k) : ¬ lexT x.id (frmT per all k) ∧ ¬ lexT (toT per all k) x.id := by
  obtain ⟨i, hi, e⟩ := List.getElem_of_mem hx
  have hl := grp_len per all k
  have h : all[k * per + i]? = some x := by
    have h2 : (grpT per all k)[i]? = some x := by rw [List.getElem?_eq_getElem hi, e]
    unfold grpT at h2
    rw [List.getElem?_take, if_pos (by omega), List.getElem?_drop] at h2
    exact h2
  have := span_at hp H hk h
  have h1 : (k + 1) * per = k * per + per := by rw [Nat.add_mul, Nat.one_mul]
  rw [this.1, this.2]
  omega
/-- What is in a span is its group. -/
theorem span_grp {per : Nat} (hp : 0 < per) {all : List THd} (H : AllR all) {k : Nat} (hk : k < cntT per all.length) : (all.filter fun x => inB (frmT per all k) (toT per all k) x.id) = grpT per all k := by
  have h1 : (k + 1) * per = k * per + per := by rw [Nat.add_mul, Nat.one_mul]
  have e : all = all.take (k * per) ++ (grpT per all k ++ all.drop ((k + 1) * per)) := by
    rw [← List.append_assoc, grp_take, List.take_append_drop]
  have f1 : ((all.take (k * per)).filter fun x => inB (frmT per all k) (toT per all k) x.id) = [] := by
    apply List.filter_eq_nil_iff.2
    intro x hx
    obtain ⟨i, hi, ei⟩ := List.getElem_of_mem hx
    have hi2 : i < k * per := by simp at hi; omega
    have h : all[i]? = some x := by
      have h2 : (all.take (k * per))[i]? = some x := by rw [List.getElem?_eq_getElem hi, ei]
      rw [List.getElem?_take, if_pos hi2] at h2
      exact h2
    rw [inB_is]
    exact fun q => q.1 ((span_at hp H hk h).1.2 hi2)
  have f2 : ((grpT per all k).filter fun x => inB (frmT per all k) (toT per all k) x.id) = grpT per all k := List.filter_eq_self.2 fun x hx => inB_is.2 (grp_in hp H hk hx)
  have f3 : ((all.drop ((k + 1) * per)).filter fun x => inB (frmT per all k) (toT per all k) x.id) = [] := by
    apply List.filter_eq_nil_iff.2
    intro x hx
    obtain ⟨i, hi, ei⟩ := List.getElem_of_mem hx
    have h : all[(k + 1) * per + i]? = some x := by
      have h2 : (all.drop ((k + 1) * per))[i]? = some x := by rw [List.getElem?_eq_getElem hi, ei]
      rw [List.getElem?_drop] at h2
      exact h2
    rw [inB_is]
    exact fun q => q.2 ((span_at hp H hk h).2.2 (by omega))
  have key : ∀ Q : THd → Bool, all.filter Q = (all.take (k * per)).filter Q ++ ((grpT per all k).filter Q ++ (all.drop ((k + 1) * per)).filter Q) := fun Q => by
    rw [← List.filter_append, ← List.filter_append, ← e]
  rw [key, f1, f2, f3]
  simp
/-! An id is in one span. -/
def spnT (per : Nat) (all : List THd) (i : TId) (k : Nat) : Nat := ((List.range k).filter fun j => inB (frmT per all j) (toT per all j) i).length
theorem spn_next (per : Nat) (all : List THd) (i : TId) (k : Nat) : spnT per all i (k + 1) = spnT per all i k + if inB (frmT per all k) (toT per all k) i = true then 1 else 0 := by
  unfold spnT
  rw [List.range_succ, List.filter_append, List.length_append]
  congr 1
  by_cases h : inB (frmT per all k) (toT per all k) i = true
  · rw [if_pos h]; simp [h]
  · rw [if_neg h]; simp [h]
theorem spn_le (per : Nat) (all : List THd) (i : TId) (k : Nat) : spnT per all i k ≤ k := by
  unfold spnT
  have := List.length_filter_le (fun j => inB (frmT per all j) (toT per all j) i) (List.range k)
  simpa using this
theorem spn_at {per : Nat} (hp : 0 < per) {all : List THd} (H : AllR all) {i : TId} (hi : rightT i) : ∀ {k : Nat}, k < cntT per all.length → spnT per all i k = if lexT i (frmT per all k) then 1 else 0
  | 0, _ => by rw [show frmT per all 0 = firstT from rfl, if_neg (right_span hi).1]; rfl
  | k + 1, hk => by
    have ih := spn_at hp H hi (k := k) (by omega)
    have hc := (cnt_step hp).1 hk
    obtain ⟨x, hx, ex⟩ := to_at hp hc
    obtain ⟨_, _, n1, _, n2⟩ := next_span hp H hc
    have hft : ¬ lexT (toT per all k) (frmT per all k) := by
      rw [ex]
      have h1 : (k + 1) * per = k * per + per := by rw [Nat.add_mul, Nat.one_mul]
      have := (span_at hp H (k := k) (by omega) hx).1
      rw [this]
      omega
    rw [spn_next, ih]
    by_cases h1 : lexT i (frmT per all k)
    · have h2 : lexT i (frmT per all (k + 1)) := by
        rcases lex_tot (frmT per all k) (toT per all k) with q | q | q
        · exact lex_tr (lex_tr h1 q) n1
        · rw [q] at h1; exact lex_tr h1 n1
        · exact absurd q hft
      rw [if_pos h1, if_pos h2, if_neg (by rw [inB_is]; exact fun q => q.1 h1)]
    · rw [if_neg h1]
      by_cases h2 : lexT (toT per all k) i
      · have h3 : ¬ lexT i (frmT per all (k + 1)) := fun q => n2 i h2 q hi
        rw [if_neg h3, if_neg (by rw [inB_is]; exact fun q => q.2 h2)]
      · have h3 : lexT i (frmT per all (k + 1)) := by
          rcases lex_tot i (toT per all k) with q | q | q
          · exact lex_tr q n1
          · rw [q]; exact n1
          · exact absurd q h2
        rw [if_pos h3, if_pos (inB_is.2 ⟨h1, h2⟩)]
theorem spn_all {per : Nat} (hp : 0 < per) {all : List THd} (H : AllR all) {i : TId} (hi : rightT i) : spnT per all i (cntT per all.length) = 1 := by
  obtain ⟨k, hk⟩ : ∃ k, cntT per all.length = k + 1 := ⟨cntT per all.length - 1, by have := cnt_pos hp all.length; omega⟩
  have h1 := spn_at hp H hi (k := k) (by omega)
  have h2 : ¬ (k + 1) * per < all.length := fun q => by have := (cnt_step hp).2 q; omega
  have e : toT per all k = lastT := by unfold toT; rw [if_neg h2]
  rw [hk, spn_next, h1, e]
  by_cases h3 : lexT i (frmT per all k)
  · rw [if_pos h3, if_neg (by rw [inB_is]; exact fun q => q.1 h3)]
  · rw [if_neg h3, if_pos (inB_is.2 ⟨h3, (right_span hi).2⟩)]
/-! Finding by an id. -/
theorem findT_none {L : List THd} {i : TId} : findT L i = none ↔ ∀ x ∈ L, x.id ≠ i := by
  unfold findT
  rw [List.find?_eq_none]
  simp
theorem findT_some {L : List THd} (h : AscT L) {x : THd} (hx : x ∈ L) : findT L x.id = some x := by
  cases hf : findT L x.id with
  | none => exact absurd rfl (findT_none.1 hf x hx)
  | some y =>
    obtain ⟨h1, h2⟩ := findT_is hf
    rw [asc_one h h1 hx h2]
theorem findT_filter {L : List THd} (P : TId → Bool) (i : TId) : findT (L.filter fun x => P x.id) i = if P i = true then findT L i else none := by
  induction L with
  | nil => simp [findT]
  | cons x L ih =>
    have hx : ∀ (r : List THd), findT (x :: r) i = if x.id = i then some x else findT r i := fun r => by
      unfold findT
      rw [List.find?_cons]
      by_cases e : x.id = i <;> simp [e]
    rw [List.filter_cons]
    by_cases hp : P x.id = true
    · rw [if_pos hp, hx, hx, ih]
      by_cases e : x.id = i
      · rw [if_pos e, if_pos e, if_pos (by rw [← e]; exact hp)]
      · rw [if_neg e, if_neg e]
    · rw [if_neg hp, hx, ih]
      by_cases e : x.id = i
      · rw [if_pos e, if_neg (by rw [← e]; exact hp), if_neg (by rw [← e]; exact hp)]
      · rw [if_neg e]
theorem filter_asc {L : List THd} (P : THd → Bool) (h : AscT L) : AscT (L.filter P) := List.Pairwise.filter P h
theorem merge_nil {L : List THd} (h : AscT L) : mergeT L [] = L := by
  unfold mergeT
  rw [List.append_nil]
  exact (fold_end L (l := []) (by simpa using h)).trans (List.nil_append _)
/-- Laid by an id and then chosen, or chosen and then laid. -/
theorem ins_filter {A : List THd} (P : TId → Bool) (h : AscT A) (x : THd) : (insT A x).filter (fun y => P y.id) = if P x.id = true then insT (A.filter fun y => P y.id) x else A.filter fun y => P y.id := by
  induction A with
  | nil => by_cases hp : P x.id = true <;> simp [insT, hp]
  | cons y r ih =>
    obtain ⟨h1, h2⟩ := List.pairwise_cons.1 h
    have ih := ih h2
    have hins : insT (y :: r) x = if lexT y.id x.id then y :: insT r x else if y.id = x.id then (if 0 < newT x y then x :: r else y :: r) else x :: y :: r := rfl
    rw [hins, List.filter_cons (x := y) (xs := r)]
    by_cases l1 : lexT y.id x.id
    · rw [if_pos l1, List.filter_cons, ih]
      by_cases py : P y.id = true
      · rw [if_pos py, if_pos py]
        by_cases px : P x.id = true
        · rw [if_pos px, if_pos px]
          show _ = if lexT y.id x.id then _ else _
          rw [if_pos l1]
        · rw [if_neg px, if_neg px]
      · rw [if_neg py, if_neg py]
    · rw [if_neg l1]
      by_cases e : y.id = x.id
      · rw [if_pos e]
        by_cases px : P x.id = true
        · have py : P y.id = true := by rw [e]; exact px
          rw [if_pos px, if_pos py]
          show _ = if lexT y.id x.id then _ else _
          rw [if_neg l1, if_pos e]
          by_cases hn : 0 < newT x y
          · rw [if_pos hn, if_pos hn, List.filter_cons, if_pos px]
          · rw [if_neg hn, if_neg hn, List.filter_cons, if_pos py]
        · have py : ¬ P y.id = true := by rw [e]; exact px
          rw [if_neg px, if_neg py]
          by_cases hn : 0 < newT x y
          · rw [if_pos hn, List.filter_cons, if_neg px]
          · rw [if_neg hn, List.filter_cons, if_neg py]
      · rw [if_neg e, List.filter_cons, List.filter_cons]
        have l2 : lexT x.id y.id := by rcases lex_tot y.id x.id with q | q | q; exact absurd q l1; exact absurd q e; exact q
        by_cases px : P x.id = true
        · rw [if_pos px, if_pos px]
          by_cases py : P y.id = true
          · rw [if_pos py]
            show _ = if lexT y.id x.id then _ else _
            rw [if_neg l1, if_neg e]
          · rw [if_neg py]
            cases hr : r.filter fun y => P y.id with
            | nil => rfl
            | cons z t =>
              have hz : z ∈ r := (List.mem_filter.1 (by rw [hr]; simp : z ∈ r.filter fun y => P y.id)).1
              have l3 := lex_tr l2 (h1 z hz)
              show _ = if lexT z.id x.id then _ else _
              rw [if_neg (lex_asym l3), if_neg (fun q => by rw [q] at l3; exact lex_irr _ l3)]
        · rw [if_neg px, if_neg px]
theorem fold_filter (P : TId → Bool) (m : List THd) : ∀ {A : List THd}, AscT A → (m.foldl insT A).filter (fun y => P y.id) = (m.filter fun y => P y.id).foldl insT (A.filter fun y => P y.id) := by
  induction m with
  | nil => intro A _; rfl
  | cons x m ih =>
    intro A h
    rw [List.foldl_cons, ih (ins_asc h x), ins_filter P h, List.filter_cons]
    by_cases px : P x.id = true
    · rw [if_pos px, if_pos px]; rfl
    · rw [if_neg px, if_neg px]
theorem merge_filter (P : TId → Bool) (l : List THd) : (mergeT l []).filter (fun y => P y.id) = mergeT (l.filter fun y => P y.id) [] := by
  unfold mergeT
  rw [List.append_nil, List.append_nil]
  exact fold_filter P l List.Pairwise.nil
/-- What is found in a list into which heads were laid. -/
theorem find_ins {A : List THd} (h : AscT A) (x : THd) (i : TId) : findT (insT A x) i = if x.id = i then (match findT A i with | some y => if 0 < newT x y then some x else some y | none => some x) else findT A i := by
  by_cases e : x.id = i
  · rw [if_pos e]
    subst e
    cases hf : findT A x.id with
    | none =>
      have hm : x ∈ insT A x := by
        have hp := ins_rest h (h := x) (fun y hy => by rw [hf] at hy; cases hy)
        exact hp.mem_iff.2 (by simp)
      exact findT_some (ins_asc h x) hm
    | some y =>
      by_cases hn : 0 < newT x y
      · have hm : x ∈ insT A x := by
          have hp := ins_rest h (h := x) (fun z hz => by rw [hf] at hz; cases hz; exact hn)
          exact hp.mem_iff.2 (by simp)
        show _ = if 0 < newT x y then _ else _
        rw [if_pos hn]
        exact findT_some (ins_asc h x) hm
      · show _ = if 0 < newT x y then _ else _
        rw [if_neg hn, ins_stays h hf hn, hf]
  · rw [if_neg e]
    have key : ∀ (L M : List THd), AscT L → AscT M → (∀ y, y.id = i → (y ∈ L ↔ y ∈ M)) → findT L i = findT M i := fun L M hL hM hq => by
      cases hf : findT L i with
      | some y =>
        obtain ⟨h1, h2⟩ := findT_is hf
        have := findT_some hM ((hq y h2).1 h1)
        rw [h2] at this
        exact this.symm
      | none =>
        refine (findT_none.2 fun y hy h2 => ?_).symm
        exact findT_none.1 hf y ((hq y h2).2 hy) h2
    refine key _ _ (ins_asc h x) h fun y hy => ?_
    cases hf : findT A x.id with
    | none =>
      have hp := ins_rest h (h := x) (fun z hz => by rw [hf] at hz; cases hz)
      rw [hp.mem_iff, List.mem_append, restT_mem]
      constructor
      · rintro (q | q)
        · exact q.1
        · simp at q; rw [q] at hy; exact absurd hy e
      · intro q
        exact .inl ⟨q, fun k => e (k.symm.trans hy)⟩
    | some z =>
      by_cases hn : 0 < newT x z
      · have hp := ins_rest h (h := x) (fun u hu => by rw [hf] at hu; cases hu; exact hn)
        rw [hp.mem_iff, List.mem_append, restT_mem]
        constructor
        · rintro (q | q)
          · exact q.1
          · simp at q; rw [q] at hy; exact absurd hy e
        · intro q
          exact .inl ⟨q, fun k => e (k.symm.trans hy)⟩
      · rw [ins_stays h hf hn]
end Go.Proofs.Ytjfnpciecgemeaa.ti
