/-
  JOBS: which is less; a heap of them, as a list; a job that is moved up, and down.
-/
namespace Go.Proofs.Ytaaaefoanjggcaa
set_option linter.unusedSimpArgs false
set_option linter.unusedVariables false
structure Job where
  k : Int
  a : Int
deriving DecidableEq
instance : Inhabited Job := ⟨⟨0, 0⟩⟩
def lessJ (x y : Job) : Prop := x.a < y.a ∨ (x.a = y.a ∧ x.k < y.k)
instance (x y : Job) : Decidable (lessJ x y) := by unfold lessJ; infer_instance
theorem lessJ_irrefl (x : Job) : ¬ lessJ x x := by unfold lessJ; omega
theorem lessJ_asymm {x y : Job} (h : lessJ x y) : ¬ lessJ y x := by unfold lessJ at *; omega
theorem lessJ_trans {x y z : Job} (h : lessJ x y) (k : lessJ y z) : lessJ x z := by unfold lessJ at *; omega
theorem not_trans {x y z : Job} (h : ¬ lessJ y x) (k : ¬ lessJ z y) : ¬ lessJ z x := by unfold lessJ at *; omega
def at' (l : List Job) (i : Nat) : Job := l.getD i default
theorem at_some {l : List Job} {i : Nat} (h : i < l.length) : l[i]? = some (at' l i) := by
  unfold at'
  rw [List.getD_eq_getElem?_getD, List.getElem?_eq_getElem h]
  rfl
theorem at_of {l : List Job} {i : Nat} {x : Job} (h : l[i]? = some x) : at' l i = x := by
  unfold at'
  rw [List.getD_eq_getElem?_getD, h]
  rfl
theorem at_mem {l : List Job} {i : Nat} (h : i < l.length) : at' l i ∈ l := List.mem_of_getElem? (at_some h)
theorem mem_at {l : List Job} {x : Job} (h : x ∈ l) : ∃ i, i < l.length ∧ at' l i = x := by
  obtain ⟨i, hi, e⟩ := List.getElem_of_mem h
  exact ⟨i, hi, at_of (by rw [List.getElem?_eq_getElem hi, e])⟩
def swapL (l : List Job) (i j : Nat) : List Job := (l.set i (at' l j)).set j (at' l i)
theorem swapL_length (l : List Job) (i j : Nat) : (swapL l i j).length = l.length := by simp [swapL]
theorem at_swap {l : List Job} {i j : Nat} (hi : i < l.length) (hj : j < l.length) (m : Nat) : at' (swapL l i j) m = if m = j then at' l i else if m = i then at' l j else at' l m := by
  by_cases h1 : m = j
  · subst h1
    rw [if_pos rfl]
    exact at_of (by unfold swapL; rw [List.getElem?_set_self (by simpa using hj)])
  · rw [if_neg h1]
    by_cases h2 : m = i
    · subst h2
      rw [if_pos rfl]
      exact at_of (by unfold swapL; rw [List.getElem?_set_ne (fun e => h1 e.symm), List.getElem?_set_self hi])
    · rw [if_neg h2]
      unfold at' swapL
      rw [List.getD_eq_getElem?_getD, List.getElem?_set_ne (fun e => h1 e.symm), List.getElem?_set_ne (fun e => h2 e.symm), ← List.getD_eq_getElem?_getD]
theorem set_perm_aux : ∀ (l : List Job) (i : Nat) (x : Job), i < l.length → (at' l i :: l.set i x).Perm (x :: l)
  | [], i, x, h => by simp at h
  | y :: l, 0, x, h => by
    rw [List.set_cons_zero]
    exact List.Perm.swap x y l
  | y :: l, i + 1, x, h => by
    rw [List.set_cons_succ]
    have ih := set_perm_aux l i x (by simpa using h)
    have e : at' (y :: l) (i + 1) = at' l i := by unfold at'; simp
    rw [e]
    exact (List.Perm.swap y (at' l i) _).trans ((List.Perm.cons y ih).trans (List.Perm.swap x y l))
theorem swap_perm {l : List Job} {i j : Nat} (hi : i < l.length) (hj : j < l.length) : (swapL l i j).Perm l := by
  have h1 := set_perm_aux l i (at' l j) hi
  have h2 := set_perm_aux (l.set i (at' l j)) j (at' l i) (by simpa using hj)
  have e : at' (l.set i (at' l j)) j = at' l j := by
    by_cases h : j = i
    · subst h; exact at_of (List.getElem?_set_self hj)
    · exact at_of (by rw [List.getElem?_set_ne (fun e => h e.symm)]; exact at_some hj)
  rw [e] at h2
  exact List.Perm.cons_inv ((h2.trans h1))
/-- The first n are a heap. -/
def Ok (l : List Job) (n : Nat) : Prop := ∀ c, 0 < c → c < n → ¬ lessJ (at' l c) (at' l ((c - 1) / 2))
/-- .. but for one that may be too far down. -/
def UpOk (l : List Job) (n j : Nat) : Prop := (∀ c, 0 < c → c < n → c ≠ j → ¬ lessJ (at' l c) (at' l ((c - 1) / 2))) ∧ ∀ c, 0 < c → c < n → (c - 1) / 2 = j → 0 < j → ¬ lessJ (at' l c) (at' l ((j - 1) / 2))
/-- .. but for one that may be too far up: it came to i from i0. -/
def DownOk (l : List Job) (n i i0 : Nat) : Prop := (∀ c, 0 < c → c < n → (c - 1) / 2 ≠ i → (c ≠ i ∨ i ≠ i0) → ¬ lessJ (at' l c) (at' l ((c - 1) / 2))) ∧ (∀ c, 0 < c → c < n → (c - 1) / 2 = i → 0 < i → ¬ lessJ (at' l c) (at' l ((i - 1) / 2))) ∧ i0 ≤ i
theorem UpOk.top {l : List Job} {n : Nat} (h : UpOk l n 0) : Ok l n := fun c h0 hc => h.1 c h0 hc (by omega)
theorem UpOk.done {l : List Job} {n j : Nat} (h : UpOk l n j) (hl : ¬ lessJ (at' l j) (at' l ((j - 1) / 2))) : Ok l n := fun c h0 hc => by
  by_cases e : c = j
  · rw [e]; exact hl
  · exact h.1 c h0 hc e
theorem UpOk.step {l : List Job} {n j : Nat} (h : UpOk l n j) (hj : 0 < j) (hn : j < n) (hl : n ≤ l.length) (hs : lessJ (at' l j) (at' l ((j - 1) / 2))) : UpOk (swapL l ((j - 1) / 2) j) n ((j - 1) / 2) := by
  obtain ⟨i, hi⟩ : ∃ i, (j - 1) / 2 = i := ⟨_, rfl⟩
  rw [hi] at hs ⊢
  have hij : i < j := by omega
  have sw := fun m => at_swap (l := l) (i := i) (j := j) (by omega) (by omega) m
  refine ⟨fun c h0 hc hne => ?_, fun c h0 hc hp hi0 => ?_⟩
  · rw [sw c, sw ((c - 1) / 2)]
    by_cases e1 : c = j
    · subst e1
      rw [if_pos rfl, hi, if_neg (by omega), if_pos rfl]
      exact lessJ_asymm hs
    · rw [if_neg e1, if_neg hne]
      by_cases e2 : (c - 1) / 2 = j
      · rw [e2, if_pos rfl]
        have := h.2 c h0 hc e2 hj
        rwa [hi] at this
      · rw [if_neg e2]
        by_cases e3 : (c - 1) / 2 = i
        · rw [if_pos e3]
          have h1 := h.1 c h0 hc e1
          rw [e3] at h1
          exact fun h2 => h1 (lessJ_trans h2 hs)
        · rw [if_neg e3]
          exact h.1 c h0 hc e1
  · rw [sw c, sw ((i - 1) / 2), if_neg (show ¬ (i - 1) / 2 = j by omega), if_neg (show ¬ (i - 1) / 2 = i by omega)]
    have h1 := h.1 i hi0 (by omega) (by omega)
    by_cases e1 : c = j
    · rw [if_pos e1]
      exact h1
    · rw [if_neg e1, if_neg (show ¬ c = i by omega)]
      have h2 := h.1 c h0 hc e1
      rw [hp] at h2
      exact not_trans h1 h2
theorem kids {c i : Nat} (h0 : 0 < c) : (c - 1) / 2 = i ↔ c = 2 * i + 1 ∨ c = 2 * i + 2 := by omega
theorem DownOk.done {l : List Job} {n i i0 : Nat} (h : DownOk l n i i0) (hc : ∀ c, 0 < c → c < n → (c - 1) / 2 = i → ¬ lessJ (at' l c) (at' l i)) : (i0 < i → Ok l n) ∧ (i = i0 → UpOk l n i0) := by
  refine ⟨fun hi c h0 hn => ?_, fun e => ⟨fun c h0 hn hne => ?_, fun c h0 hn hp hi => ?_⟩⟩
  · by_cases e : (c - 1) / 2 = i
    · rw [e]; exact hc c h0 hn e
    · exact h.1 c h0 hn e (.inr (by omega))
  · subst e
    by_cases e : (c - 1) / 2 = i
    · rw [e]; exact hc c h0 hn e
    · exact h.1 c h0 hn e (.inl hne)
  · subst e
    exact h.2.1 c h0 hn hp hi
/-- Which child is the less one. -/
def kidL (l : List Job) (n i : Nat) : Nat := if 2 * i + 2 < n ∧ lessJ (at' l (2 * i + 2)) (at' l (2 * i + 1)) then 2 * i + 2 else 2 * i + 1
theorem kidL_least {l : List Job} {n i c : Nat} (h0 : 0 < c) (hc : c < n) (hp : (c - 1) / 2 = i) : ¬ lessJ (at' l c) (at' l (kidL l n i)) := by
  unfold kidL
  rcases (kids h0).1 hp with rfl | rfl
  · split
    · rename_i h; exact lessJ_asymm h.2
    · exact lessJ_irrefl _
  · split
    · exact lessJ_irrefl _
    · rename_i h
      exact fun h2 => h ⟨hc, h2⟩
theorem kidL_is {l : List Job} {n i : Nat} (h : 2 * i + 1 < n) : kidL l n i < n ∧ i < kidL l n i ∧ (kidL l n i - 1) / 2 = i := by
  unfold kidL
  split
  · rename_i h2; omega
  · omega
theorem DownOk.stay {l : List Job} {n i i0 : Nat} (h : DownOk l n i i0) (hl : ¬ lessJ (at' l (kidL l n i)) (at' l i)) : (i0 < i → Ok l n) ∧ (i = i0 → UpOk l n i0) :=
  h.done fun c h0 hc hp => not_trans hl (kidL_least h0 hc hp)
theorem DownOk.fin {l : List Job} {n i i0 : Nat} (h : DownOk l n i i0) (hl : n ≤ 2 * i + 1) : (i0 < i → Ok l n) ∧ (i = i0 → UpOk l n i0) :=
  h.done fun c h0 hc hp => by have := (kids h0).1 hp; omega
theorem DownOk.step {l : List Job} {n i i0 : Nat} (h : DownOk l n i i0) (h1 : 2 * i + 1 < n) (hl : n ≤ l.length) (hs : lessJ (at' l (kidL l n i)) (at' l i)) : DownOk (swapL l i (kidL l n i)) n (kidL l n i) i0 := by
  obtain ⟨hk1, hk2, hk3⟩ := kidL_is (l := l) h1
  have hle := fun c h0 hc hp => kidL_least (l := l) (n := n) (i := i) (c := c) h0 hc hp
  generalize kidL l n i = j at *
  obtain ⟨ha, hb, hi0⟩ := h
  have sw := fun m => at_swap (l := l) (i := i) (j := j) (by omega) (by omega) m
  refine ⟨fun c h0 hc hp _ => ?_, fun c h0 hc hp hj => ?_, by omega⟩
  · rw [sw c, sw ((c - 1) / 2), if_neg hp]
    by_cases e1 : c = j
    · subst e1
      rw [if_pos rfl, hk3, if_pos rfl]
      exact lessJ_asymm hs
    · rw [if_neg e1]
      by_cases e2 : c = i
      · subst e2
        rw [if_pos rfl, if_neg (by omega)]
        exact hb j (by omega) hk1 hk3 h0
      · rw [if_neg e2]
        by_cases e3 : (c - 1) / 2 = i
        · rw [if_pos e3]
          exact hle c h0 hc e3
        · rw [if_neg e3]
          exact ha c h0 hc e3 (.inl e2)
  · rw [sw c, hk3, sw i, if_neg (by omega), if_neg (by omega), if_neg (by omega), if_pos rfl]
    have := ha c h0 hc (by omega) (.inl (by omega))
    rwa [hp] at this
/-- The top is the least. -/
theorem Ok.least {l : List Job} {n : Nat} (h : Ok l n) : ∀ c, c < n → ¬ lessJ (at' l c) (at' l 0) := by
  intro c
  induction c using Nat.strongRecOn with
  | _ c ih =>
    intro hc
    by_cases h0 : c = 0
    · subst h0; exact lessJ_irrefl _
    · exact not_trans (ih ((c - 1) / 2) (by omega) (by omega)) (h c (by omega) hc)
/-- What the map of places says. -/
structure PI (f : Int → Option Int) (l : List Job) : Prop where
  is : ∀ i, i < l.length → f (at' l i).k = some (i : Int)
  of : ∀ k i, f k = some i → ∃ n : Nat, i = n ∧ n < l.length ∧ (at' l n).k = k
def updF (f : Int → Option Int) (k : Int) (x : Option Int) : Int → Option Int := fun m => if m = k then x else f m
theorem updF_same (f : Int → Option Int) (k : Int) (x : Option Int) : updF f k x k = x := if_pos rfl
theorem updF_other (f : Int → Option Int) {k m : Int} (x : Option Int) (h : m ≠ k) : updF f k x m = f m := if_neg h
theorem PI.inj {f : Int → Option Int} {l : List Job} (h : PI f l) {i j : Nat} (hi : i < l.length) (hj : j < l.length) (e : (at' l i).k = (at' l j).k) : i = j := by
  have h1 := h.is i hi
  have h2 := h.is j hj
  rw [e, h2] at h1
  injection h1 with h1
  omega
theorem PI.swap {f : Int → Option Int} {l : List Job} (h : PI f l) {i j : Nat} (hi : i < l.length) (hj : j < l.length) : PI (updF (updF f (at' l j).k (some (i : Int))) (at' l i).k (some (j : Int))) (swapL l i j) := by
  refine ⟨fun m hm => ?_, fun k x hx => ?_⟩
  · rw [swapL_length] at hm
    rw [at_swap hi hj]
    by_cases e1 : m = j
    · subst e1
      rw [if_pos rfl, updF_same]
    · rw [if_neg e1]
      by_cases e2 : m = i
      · subst e2
        rw [if_pos rfl]
        have hne : (at' l j).k ≠ (at' l m).k := fun e => e1 (h.inj hm hj e.symm)
        rw [updF_other _ _ hne, updF_same]
      · rw [if_neg e2]
        have n1 : (at' l m).k ≠ (at' l i).k := fun e => e2 (h.inj hm hi e)
        have n2 : (at' l m).k ≠ (at' l j).k := fun e => e1 (h.inj hm hj e)
        rw [updF_other _ _ n1, updF_other _ _ n2]
        exact h.is m hm
  · rw [swapL_length]
    by_cases e1 : k = (at' l i).k
    · subst e1
      rw [updF_same] at hx
      injection hx with hx
      exact ⟨j, hx.symm, hj, by rw [at_swap hi hj, if_pos rfl]⟩
    · rw [updF_other _ _ e1] at hx
      by_cases e2 : k = (at' l j).k
      · subst e2
        rw [updF_same] at hx
        injection hx with hx
        refine ⟨i, hx.symm, hi, ?_⟩
        rw [at_swap hi hj, if_pos rfl]
        split
        · rename_i e; subst e; rfl
        · rfl
      · rw [updF_other _ _ e2] at hx
        obtain ⟨m, hm, hml, hmk⟩ := h.of k x hx
        refine ⟨m, hm, hml, ?_⟩
        rw [at_swap hi hj, if_neg (fun e => e2 (by rw [← hmk, e])), if_neg (fun e => e1 (by rw [← hmk, e]))]
        exact hmk
end Go.Proofs.Ytaaaefoanjggcaa
