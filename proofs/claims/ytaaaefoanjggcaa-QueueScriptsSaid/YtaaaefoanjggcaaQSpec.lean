/-
  WHAT A QUEUE SAYS, of its jobs as a list in any order.
-/
import Derived.Test.YtaaaefoanjggcaaQMath
namespace Go.Proofs.Ytaaaefoanjggcaa
set_option linter.unusedSimpArgs false
set_option linter.unusedVariables false
def Nd (R : List Job) : Prop := R.Pairwise fun x y => x.k ≠ y.k
def getR (R : List Job) (key : Int) : Option Int := (R.find? fun y => decide (y.k = key)).map (·.a)
def dropR (R : List Job) (key : Int) : List Job := R.filter fun y => decide (y.k ≠ key)
def repR (R : List Job) (x : Job) : List Job := R.map fun y => if y.k = x.k then x else y
def putR (R : List Job) (x : Job) : List Job := match getR R x.k with
  | none => R ++ [x]
  | some a => if x.a < a then repR R x else R
def newsR (R : List Job) (x : Job) : Bool := match getR R x.k with
  | none => true
  | some a => decide (x.a < a)
theorem nd_of_pi {f : Int → Option Int} {l : List Job} (h : PI f l) : Nd l := by
  refine List.pairwise_iff_getElem.2 fun i j hi hj hij e => ?_
  have e1 : at' l i = l[i] := at_of (List.getElem?_eq_getElem hi)
  have e2 : at' l j = l[j] := at_of (List.getElem?_eq_getElem hj)
  have := h.inj hi hj (by rw [e1, e2]; exact e)
  omega
theorem Nd.perm {l R : List Job} (h : Nd l) (p : l.Perm R) : Nd R := (p.pairwise_iff (fun {_ _} h e => h e.symm)).1 h
theorem getR_mem {R : List Job} (h : Nd R) {y : Job} (hy : y ∈ R) : getR R y.k = some y.a := by
  induction R with
  | nil => simp at hy
  | cons z R ih =>
    obtain ⟨h1, h2⟩ := List.pairwise_cons.1 h
    unfold getR at ih ⊢
    rw [List.find?_cons]
    rcases List.mem_cons.1 hy with rfl | hy
    · simp
    · have : z.k ≠ y.k := h1 y hy
      rw [decide_eq_false this]
      exact ih h2 hy
theorem getR_none {R : List Job} {key : Int} : getR R key = none ↔ ∀ y ∈ R, y.k ≠ key := by
  unfold getR
  simp [List.find?_eq_none]
theorem getR_some {R : List Job} {key a : Int} (h : getR R key = some a) : ⟨key, a⟩ ∈ R := by
  unfold getR at h
  obtain ⟨y, hy, rfl⟩ := Option.map_eq_some_iff.1 h
  have h1 := List.mem_of_find?_eq_some hy
  have h2 := List.find?_some hy
  have : y.k = key := by simpa using h2
  rw [← this]
  exact h1
theorem same_key {R : List Job} (h : Nd R) {x y : Job} (hx : x ∈ R) (hy : y ∈ R) (e : x.k = y.k) : x = y := by
  have h1 := getR_mem h hx
  have h2 := getR_mem h hy
  rw [e, h2] at h1
  injection h1 with h1
  cases x; cases y
  simp_all
theorem getR_perm {l R : List Job} (h : Nd l) (p : l.Perm R) (key : Int) : getR l key = getR R key := by
  cases hg : getR l key with
  | none =>
    symm
    rw [getR_none] at hg ⊢
    exact fun y hy => hg y (p.mem_iff.2 hy)
  | some a =>
    have := getR_mem (h.perm p) (p.mem_iff.1 (getR_some hg))
    exact this.symm
theorem dropR_not {R : List Job} {key : Int} (h : ∀ y ∈ R, y.k ≠ key) : dropR R key = R := by
  unfold dropR
  rw [List.filter_eq_self]
  exact fun y hy => by simpa using h y hy
theorem drop_perm {R : List Job} (h : Nd R) {y : Job} (hy : y ∈ R) : (y :: dropR R y.k).Perm R := by
  induction R with
  | nil => simp at hy
  | cons z R ih =>
    obtain ⟨h1, h2⟩ := List.pairwise_cons.1 h
    rcases List.mem_cons.1 hy with rfl | hy
    · have e : dropR (y :: R) y.k = R := by
        have := dropR_not (R := R) (key := y.k) (fun z hz e => h1 z hz e.symm)
        unfold dropR at this ⊢
        rw [List.filter_cons]
        simpa using this
      rw [e]
    · have hne : z.k ≠ y.k := h1 y hy
      have e : dropR (z :: R) y.k = z :: dropR R y.k := by unfold dropR; rw [List.filter_cons]; simp [hne]
      rw [e]
      exact (List.Perm.swap z y _).trans (List.Perm.cons z (ih h2 hy))
theorem rep_not {R : List Job} {x : Job} (h : ∀ y ∈ R, y.k ≠ x.k) : repR R x = R := by
  unfold repR
  conv => rhs; rw [← List.map_id R]
  exact List.map_congr_left fun y hy => by rw [if_neg (h y hy)]; rfl
theorem rep_perm {R : List Job} (h : Nd R) {x y : Job} (hy : y ∈ R) (e : y.k = x.k) : (y :: repR R x).Perm (x :: R) := by
  induction R with
  | nil => simp at hy
  | cons z R ih =>
    obtain ⟨h1, h2⟩ := List.pairwise_cons.1 h
    rcases List.mem_cons.1 hy with rfl | hy
    · have e2 := rep_not (R := R) (x := x) (fun z hz e3 => h1 z hz (e.trans e3.symm))
      have e3 : repR (y :: R) x = x :: R := by unfold repR at e2 ⊢; rw [List.map_cons, if_pos e, e2]
      rw [e3]
      exact List.Perm.swap x y R
    · have hne : ¬ z.k = x.k := fun e2 => h1 y hy (e2.trans e.symm)
      have e3 : repR (z :: R) x = z :: repR R x := by unfold repR; rw [List.map_cons, if_neg hne]
      rw [e3]
      exact (List.Perm.swap z y _).trans ((List.Perm.cons z (ih h2 hy)).trans (List.Perm.swap x z R))
/-- l' is l without y: and so of R. -/
theorem out_perm {l l' R : List Job} {y : Job} (h : Nd R) (p : l.Perm R) (hy : y ∈ l) (q : (l' ++ [y]).Perm l) : l'.Perm (dropR R y.k) := by
  have h1 : (y :: l').Perm (l' ++ [y]) := (List.perm_append_singleton y l').symm
  exact List.Perm.cons_inv ((h1.trans (q.trans p)).trans (drop_perm h (p.mem_iff.1 hy)).symm)
theorem set_rep {l R : List Job} {i : Nat} {x : Job} (h : Nd R) (p : l.Perm R) (hi : i < l.length) (e : (at' l i).k = x.k) : (l.set i x).Perm (repR R x) := by
  have h1 := set_perm_aux l i x hi
  have h2 := rep_perm h (p.mem_iff.1 (at_mem hi)) e
  exact List.Perm.cons_inv (h1.trans ((List.Perm.cons x p).trans h2.symm))
/-- The least. -/
def minR : List Job → Job
  | [] => default
  | [x] => x
  | x :: y :: l => if lessJ x (minR (y :: l)) then x else minR (y :: l)
theorem minR_mem : ∀ {R : List Job}, R ≠ [] → minR R ∈ R
  | [], h => absurd rfl h
  | [x], _ => by simp [minR]
  | x :: y :: l, _ => by
    rw [minR]
    split
    · simp
    · exact List.mem_cons_of_mem _ (minR_mem (R := y :: l) (by simp))
theorem minR_least : ∀ {R : List Job}, ∀ y ∈ R, ¬ lessJ y (minR R)
  | [], y, h => by simp at h
  | [x], y, h => by rw [List.mem_singleton.1 h]; exact lessJ_irrefl _
  | x :: z :: l, y, h => by
    rw [minR]
    rcases List.mem_cons.1 h with rfl | h
    · split
      · exact lessJ_irrefl _
      · rename_i hn; exact hn
    · have ih := minR_least (R := z :: l) y h
      split
      · rename_i hn; exact fun h2 => ih (lessJ_trans h2 hn)
      · exact ih
theorem least_eq {R : List Job} {x : Job} (hx : x ∈ R) (h : ∀ y ∈ R, ¬ lessJ y x) : x = minR R := by
  have h1 := h _ (minR_mem (List.ne_nil_of_mem hx))
  have h2 := minR_least x hx
  unfold lessJ at h1 h2
  have e1 : x.a = (minR R).a := by omega
  have e2 : x.k = (minR R).k := by omega
  generalize minR R = m at *
  cases x; cases m
  simp_all
theorem minR_top {l R : List Job} (h : Ok l l.length) (p : l.Perm R) (hl : 0 < l.length) : at' l 0 = minR R := by
  refine least_eq (p.mem_iff.1 (at_mem hl)) fun y hy => ?_
  obtain ⟨i, hi, rfl⟩ := mem_at (p.mem_iff.2 hy)
  exact h.least i hi
theorem PI.gone {f : Int → Option Int} {l : List Job} {x : Job} (h : PI f (l ++ [x])) : PI (updF f x.k none) l := by
  have hat : ∀ i, i < l.length → at' (l ++ [x]) i = at' l i := fun i hi => at_of (by rw [List.getElem?_append_left hi]; exact at_some hi)
  have hlast : at' (l ++ [x]) l.length = x := at_of (by simp)
  have hll : (l ++ [x]).length = l.length + 1 := by simp
  refine ⟨fun i hi => ?_, fun k i hk => ?_⟩
  · have hne : (at' l i).k ≠ x.k := fun e => by
      have := h.inj (i := i) (j := l.length) (by omega) (by omega) (by rw [hat i hi, hlast]; exact e)
      omega
    rw [updF_other _ _ hne]
    have := h.is i (by omega)
    rwa [hat i hi] at this
  · by_cases e : k = x.k
    · rw [e, updF_same] at hk; cases hk
    · rw [updF_other _ _ e] at hk
      obtain ⟨m, hm, hml, hmk⟩ := h.of k i hk
      have : m ≠ l.length := fun e2 => e (by rw [← hmk, e2, hlast])
      exact ⟨m, hm, by omega, by rw [← hmk, hat m (by omega)]⟩
theorem PI.come {f : Int → Option Int} {l : List Job} {x : Job} (h : PI f l) (hx : f x.k = none) : PI (updF f x.k (some (l.length : Int))) (l ++ [x]) := by
  have hat : ∀ i, i < l.length → at' (l ++ [x]) i = at' l i := fun i hi => at_of (by rw [List.getElem?_append_left hi]; exact at_some hi)
  have hlast : at' (l ++ [x]) l.length = x := at_of (by simp)
  have hll : (l ++ [x]).length = l.length + 1 := by simp
  refine ⟨fun i hi => ?_, fun k i hk => ?_⟩
  · by_cases e : i < l.length
    · have hne : (at' l i).k ≠ x.k := fun e2 => by
        have := h.is i e
        rw [e2, hx] at this
        cases this
      rw [hat i e, updF_other _ _ hne]
      exact h.is i e
    · have : i = l.length := by omega
      rw [this, hlast, updF_same]
  · by_cases e : k = x.k
    · rw [e, updF_same] at hk
      injection hk with hk
      exact ⟨l.length, hk.symm, by omega, by rw [hlast, e]⟩
    · rw [updF_other _ _ e] at hk
      obtain ⟨m, hm, hml, hmk⟩ := h.of k i hk
      exact ⟨m, hm, by omega, by rw [hat m hml, hmk]⟩
theorem PI.turn {f : Int → Option Int} {l : List Job} {x : Job} {i : Nat} (h : PI f l) (hi : i < l.length) (e : (at' l i).k = x.k) : PI f (l.set i x) := by
  have hat : ∀ m, (at' (l.set i x) m).k = (at' l m).k := fun m => by
    by_cases hm : m = i
    · subst hm; rw [e]; congr 1; exact at_of (List.getElem?_set_self hi)
    · congr 1; unfold at'; rw [List.getD_eq_getElem?_getD, List.getElem?_set_ne (fun e => hm e.symm), ← List.getD_eq_getElem?_getD]
  refine ⟨fun m hm => ?_, fun k m hk => ?_⟩
  · rw [List.length_set] at hm
    rw [hat]
    exact h.is m hm
  · obtain ⟨j, h1, h2, h3⟩ := h.of k m hk
    exact ⟨j, h1, by rw [List.length_set]; exact h2, by rw [hat]; exact h3⟩
end Go.Proofs.Ytaaaefoanjggcaa
