/-
  TABLES OF NETS: what is known, rising; what is put, dropped, found; a net's way and what lies within it.
-/
import Derived.Test.YtpoognkppnplpaaNMath
namespace Go.Proofs.Ytpoognkppnplpaa
set_option linter.unusedVariables false
set_option linter.unusedSimpArgs false
/-- A net, and its number. -/
abbrev Ent := (Nat × Int) × Int
def lessP (p q : Nat × Int) : Prop := p.1 < q.1 ∨ (p.1 = q.1 ∧ p.2 < q.2)
instance (p q : Nat × Int) : Decidable (lessP p q) := by unfold lessP; infer_instance
theorem lessP_irrefl (p : Nat × Int) : ¬ lessP p p := by unfold lessP; omega
theorem lessP_trans {p q r : Nat × Int} (h : lessP p q) (k : lessP q r) : lessP p r := by unfold lessP at *; omega
theorem lessP_or (p q : Nat × Int) : lessP p q ∨ p = q ∨ lessP q p := by
  obtain ⟨a, b⟩ := p
  obtain ⟨c, d⟩ := q
  unfold lessP
  simp only [Prod.mk.injEq]
  omega
theorem cmpP_neg (p q : Nat × Int) : cmpP p q < 0 ↔ lessP p q := by
  unfold cmpP lessP cmpI
  split <;> split <;> (try split) <;> (try split) <;> omega
theorem cmpP_zero (p q : Nat × Int) : cmpP p q = 0 ↔ p = q := by
  obtain ⟨a, b⟩ := p
  obtain ⟨c, d⟩ := q
  unfold cmpP cmpI
  simp only [Prod.mk.injEq]
  split <;> split <;> (try split) <;> (try split) <;> omega
/-- What is known, rising. -/
structure Good (L : List Ent) : Prop where
  rises : L.Pairwise fun x y => lessP x.1 y.1
  right : ∀ x ∈ L, rightP x.1 = true ∧ x.1.1 < 4294967296
def getL (L : List Ent) (p : Nat × Int) : Option Int := (L.find? fun x => decide (x.1 = p)).map (·.2)
def putL (p : Nat × Int) (n : Int) : List Ent → List Ent
  | [] => [(p, n)]
  | x :: l => if lessP x.1 p then x :: putL p n l else if x.1 = p then (p, n) :: l else (p, n) :: x :: l
def dropL (p : Nat × Int) (L : List Ent) : List Ent := L.filter fun x => !decide (x.1 = p)
def onL (a : Nat) (L : List Ent) : List Ent := L.filter fun x => inP x.1 a
def findL (a : Nat) (L : List Ent) : Option Ent := (onL a L).getLast?

theorem getL_mem {L : List Ent} (h : L.Pairwise fun x y => lessP x.1 y.1) {p : Nat × Int} {n : Int} : getL L p = some n ↔ (p, n) ∈ L := by
  induction L with
  | nil => simp [getL]
  | cons x l ih =>
    obtain ⟨hx, hl⟩ := List.pairwise_cons.1 h
    have ih := ih hl
    unfold getL at ih ⊢
    rw [List.find?_cons]
    by_cases e : x.1 = p
    · rw [decide_eq_true e]
      simp only [Option.map_some, Option.some.injEq, List.mem_cons]
      constructor
      · rintro rfl
        exact .inl (by rw [← e])
      · rintro (h1 | h1)
        · rw [← h1]
        · exact absurd (hx _ h1) (by rw [e]; exact lessP_irrefl p)
    · rw [decide_eq_false e]
      simp only [List.mem_cons]
      rw [ih]
      constructor
      · exact .inr
      · rintro (h1 | h1)
        · exact absurd (by rw [← h1]) e
        · exact h1
theorem getL_none {L : List Ent} {p : Nat × Int} : getL L p = none ↔ ∀ x ∈ L, x.1 ≠ p := by
  unfold getL
  simp
theorem putL_mem {L : List Ent} (h : L.Pairwise fun x y => lessP x.1 y.1) (p : Nat × Int) (n : Int) (y : Ent) : y ∈ putL p n L ↔ y = (p, n) ∨ (y ∈ L ∧ y.1 ≠ p) := by
  induction L with
  | nil => simp [putL]
  | cons x l ih =>
    obtain ⟨hx, hl⟩ := List.pairwise_cons.1 h
    unfold putL
    split
    · rename_i hlt
      have hne : x.1 ≠ p := fun e => lessP_irrefl p (by rwa [e] at hlt)
      rw [List.mem_cons, ih hl, List.mem_cons]
      constructor
      · rintro (rfl | h1 | h1)
        · exact .inr ⟨.inl rfl, hne⟩
        · exact .inl h1
        · exact .inr ⟨.inr h1.1, h1.2⟩
      · rintro (h1 | ⟨h1 | h1, h2⟩)
        · exact .inr (.inl h1)
        · exact .inl h1
        · exact .inr (.inr ⟨h1, h2⟩)
    · rename_i hlt
      have hrest : ∀ z ∈ l, z.1 ≠ p := fun z hz e => hlt (by have := hx z hz; rwa [e] at this)
      split
      · rename_i he
        rw [List.mem_cons, List.mem_cons]
        constructor
        · rintro (h1 | h1)
          · exact .inl h1
          · exact .inr ⟨.inr h1, hrest _ h1⟩
        · rintro (h1 | ⟨h1 | h1, h2⟩)
          · exact .inl h1
          · subst h1; exact absurd he h2
          · exact .inr h1
      · rename_i he
        rw [List.mem_cons, List.mem_cons]
        constructor
        · rintro (h1 | h1 | h1)
          · exact .inl h1
          · exact .inr ⟨.inl h1, by rw [h1]; exact he⟩
          · exact .inr ⟨.inr h1, hrest _ h1⟩
        · rintro (h1 | ⟨h1, h2⟩)
          · exact .inl h1
          · exact .inr h1
theorem putL_rises {L : List Ent} (h : L.Pairwise fun x y => lessP x.1 y.1) (p : Nat × Int) (n : Int) : (putL p n L).Pairwise fun x y => lessP x.1 y.1 := by
  induction L with
  | nil => simp [putL]
  | cons x l ih =>
    obtain ⟨hx, hl⟩ := List.pairwise_cons.1 h
    unfold putL
    split
    · rename_i hlt
      refine List.pairwise_cons.2 ⟨fun y hy => ?_, ih hl⟩
      rcases (putL_mem hl p n y).1 hy with rfl | h1
      · exact hlt
      · exact hx _ h1.1
    · rename_i hlt
      split
      · rename_i he
        refine List.pairwise_cons.2 ⟨fun y hy => ?_, hl⟩
        show lessP p y.1
        rw [← he]; exact hx _ hy
      · rename_i he
        have hpx : lessP p x.1 := by
          rcases lessP_or x.1 p with h1 | h1 | h1
          · exact absurd h1 hlt
          · exact absurd h1 he
          · exact h1
        refine List.pairwise_cons.2 ⟨fun y hy => ?_, h⟩
        rcases List.mem_cons.1 hy with rfl | h1
        · exact hpx
        · exact lessP_trans hpx (hx _ h1)
theorem Good.put {L : List Ent} (h : Good L) {p : Nat × Int} (hp : rightP p = true) (hn : p.1 < 4294967296) (n : Int) : Good (putL p n L) :=
  ⟨putL_rises h.rises p n, fun y hy => by
    rcases (putL_mem h.rises p n y).1 hy with rfl | h1
    · exact ⟨hp, hn⟩
    · exact h.right _ h1.1⟩
theorem Good.drop {L : List Ent} (h : Good L) (p : Nat × Int) : Good (dropL p L) :=
  ⟨h.rises.filter _, fun y hy => h.right _ (List.mem_filter.1 hy).1⟩
theorem Good.nil : Good [] := ⟨List.Pairwise.nil, fun x hx => by simp at hx⟩
theorem getL_put {L : List Ent} (h : Good L) (p q : Nat × Int) (n : Int) : getL (putL p n L) q = if q = p then some n else getL L q := by
  refine Option.ext fun m => ?_
  rw [getL_mem (putL_rises h.rises p n), putL_mem h.rises]
  split
  · rename_i e
    subst e
    simp
    constructor
    · rintro rfl; rfl
    · rintro rfl; rfl
  · rename_i e
    rw [getL_mem h.rises]
    simp [e]
theorem getL_drop {L : List Ent} (h : Good L) (p q : Nat × Int) : getL (dropL p L) q = if q = p then none else getL L q := by
  refine Option.ext fun m => ?_
  rw [getL_mem (h.drop p).rises]
  unfold dropL
  rw [List.mem_filter]
  split
  · rename_i e
    subst e
    simp
  · rename_i e
    rw [getL_mem h.rises]
    simp [e]
theorem putL_length {L : List Ent} (h : L.Pairwise fun x y => lessP x.1 y.1) (p : Nat × Int) (n : Int) : (putL p n L).length = if (getL L p).isSome then L.length else L.length + 1 := by
  induction L with
  | nil => simp [putL, getL]
  | cons x l ih =>
    obtain ⟨hx, hl⟩ := List.pairwise_cons.1 h
    have ih := ih hl
    unfold putL
    split
    · rename_i hlt
      have hne : ¬ x.1 = p := fun e => lessP_irrefl p (by rwa [e] at hlt)
      have e : getL (x :: l) p = getL l p := by unfold getL; rw [List.find?_cons, decide_eq_false hne]
      rw [e, List.length_cons, ih]
      split <;> simp
    · rename_i hlt
      have hrest : ∀ z ∈ l, z.1 ≠ p := fun z hz e => hlt (by have := hx z hz; rwa [e] at this)
      split
      · rename_i he
        have e : getL (x :: l) p = some x.2 := by unfold getL; rw [List.find?_cons, decide_eq_true he]; rfl
        simp [e]
      · rename_i he
        have e : getL (x :: l) p = none := getL_none.2 (fun y hy => by
          rcases List.mem_cons.1 hy with rfl | h1
          · exact he
          · exact hrest _ h1)
        simp [e]
theorem dropL_length {L : List Ent} (h : L.Pairwise fun x y => lessP x.1 y.1) (p : Nat × Int) : (dropL p L).length + (if (getL L p).isSome then 1 else 0) = L.length := by
  induction L with
  | nil => simp [dropL, getL]
  | cons x l ih =>
    obtain ⟨hx, hl⟩ := List.pairwise_cons.1 h
    have ih := ih hl
    unfold dropL at ih ⊢
    rw [List.filter_cons]
    by_cases he : x.1 = p
    · have e : getL (x :: l) p = some x.2 := by unfold getL; rw [List.find?_cons, decide_eq_true he]; rfl
      have e2 : getL l p = none := getL_none.2 fun y hy e3 => lessP_irrefl p (by have := hx y hy; rwa [e3, he] at this)
      rw [e2] at ih
      simp [he, e] at ih ⊢
      omega
    · have e : getL (x :: l) p = getL l p := by unfold getL; rw [List.find?_cons, decide_eq_false he]
      have e3 : (!decide (x.1 = p)) = true := by simp [he]
      rw [e, if_pos e3, List.length_cons, List.length_cons]
      omega
theorem dropL_none {L : List Ent} {p : Nat × Int} (h : getL L p = none) : dropL p L = L := by
  unfold dropL
  rw [List.filter_eq_self]
  intro x hx
  have := getL_none.1 h x hx
  simpa using this
/-- Put again what was dropped: all is as it was. -/
theorem put_drop {L : List Ent} (h : L.Pairwise fun x y => lessP x.1 y.1) {p : Nat × Int} {n : Int} (hp : getL L p = some n) : putL p n (dropL p L) = L := by
  induction L with
  | nil => simp [getL] at hp
  | cons x l ih =>
    obtain ⟨hx, hl⟩ := List.pairwise_cons.1 h
    by_cases he : x.1 = p
    · have e2 : getL l p = none := getL_none.2 fun y hy e3 => lessP_irrefl p (by have := hx y hy; rwa [e3, he] at this)
      have e : getL (x :: l) p = some x.2 := by unfold getL; rw [List.find?_cons, decide_eq_true he]; rfl
      rw [e] at hp
      injection hp with hp
      have ed : dropL p (x :: l) = l := by
        have h1 := dropL_none e2
        unfold dropL at h1 ⊢
        rw [List.filter_cons]
        simp [he]
        simpa using h1
      rw [ed]
      have ex : x = (p, n) := by rw [← he, ← hp]
      match l, hx with
      | [], _ => simp [putL, ex]
      | y :: m, hx =>
        have hy := hx y (by simp)
        rw [he] at hy
        have h1 : ¬ lessP y.1 p := fun k => lessP_irrefl p (lessP_trans hy k)
        have h2 : ¬ y.1 = p := fun k => lessP_irrefl p (by rwa [k] at hy)
        rw [putL, if_neg h1, if_neg h2, ex]
    · have e : getL (x :: l) p = getL l p := by unfold getL; rw [List.find?_cons, decide_eq_false he]
      rw [e] at hp
      have hm : (p, n) ∈ l := (getL_mem hl).1 hp
      have hlt : lessP x.1 p := hx _ hm
      have ed : dropL p (x :: l) = x :: dropL p l := by unfold dropL; rw [List.filter_cons]; simp [he]
      rw [ed, putL, if_pos hlt, ih hl hp]
/-- Two kinds of members, all of the one kind ahead of all of the other. -/
theorem filter_two {α : Type} {R : α → α → Prop} {L : List α} (h : L.Pairwise R) (p q : α → Bool) (hpq : ∀ x ∈ L, ∀ y ∈ L, q x = true → p y = true → ¬ R x y) (hd : ∀ x ∈ L, p x = true → q x = false) :
    L.filter (fun x => p x || q x) = L.filter p ++ L.filter q := by
  induction L with
  | nil => rfl
  | cons x l ih =>
    obtain ⟨hx, hl⟩ := List.pairwise_cons.1 h
    have ih := ih hl (fun a ha b hb => hpq a (List.mem_cons_of_mem _ ha) b (List.mem_cons_of_mem _ hb)) (fun a ha => hd a (List.mem_cons_of_mem _ ha))
    rw [List.filter_cons, List.filter_cons, List.filter_cons, ih]
    cases hp : p x
    · cases hq : q x
      · simp
      · have e : l.filter p = [] := by
          rw [List.filter_eq_nil_iff]
          intro y hy hpy
          exact hpq x (by simp) y (List.mem_cons_of_mem _ hy) hq hpy (hx y hy)
        simp [e]
    · rw [hd x (by simp) hp]
      simp
def entL (L : List Ent) (p : Nat × Int) : List Ent := match getL L p with
  | none => []
  | some n => [(p, n)]
theorem entL_eq {L : List Ent} (h : L.Pairwise fun x y => lessP x.1 y.1) (p : Nat × Int) : L.filter (fun x => decide (x.1 = p)) = entL L p := by
  induction L with
  | nil => rfl
  | cons x l ih =>
    obtain ⟨hx, hl⟩ := List.pairwise_cons.1 h
    have ih := ih hl
    rw [List.filter_cons]
    by_cases he : x.1 = p
    · have e : getL (x :: l) p = some x.2 := by unfold getL; rw [List.find?_cons, decide_eq_true he]; rfl
      have e2 : getL l p = none := getL_none.2 fun y hy e3 => lessP_irrefl p (by have := hx y hy; rwa [e3, he] at this)
      rw [ih]
      unfold entL
      rw [e, e2, decide_eq_true he, ← he]
      rfl
    · have e : getL (x :: l) p = getL l p := by unfold getL; rw [List.find?_cons, decide_eq_false he]
      rw [ih]
      unfold entL
      rw [e, decide_eq_false he]
      rfl
end Go.Proofs.Ytpoognkppnplpaa
