/-
  PLAIN MATHEMATICS: the fields that the program's iterator yields are those that the document's end tells, one behind the other; so the two answers of Find, and of Drop, are one.
-/
import Derived.Test.YteelknmafnoccaaPDrop
import Derived.Test.YteelknmafnoccaaFind
namespace Go.Proofs.Yteelknmafnoccaa

theorem fields_step : ∀ (s : List It) (d : Int) (i frm : Nat), 0 ≤ d → rightFrom d s = true → s ≠ [] →
    fieldsFrom frm i d s = (frm, endFrom d i s) :: fieldsFrom (endFrom d i s) (endFrom d i s) 0 (s.drop (endFrom d i s - i)) ∧ rightFrom 0 (s.drop (endFrom d i s - i)) = true ∧ i < endFrom d i s := by
  intro s
  induction s with
  | nil => intro d i frm _ _ h; exact absurd rfl h
  | cons x s ih =>
    intro d i frm hd h _
    rw [rightFrom, Bool.and_eq_true, Bool.and_eq_true] at h
    obtain ⟨⟨_, h2⟩, h3⟩ := h
    have h2 := of_decide_eq_true h2
    rw [fieldsFrom, endFrom, ← step_turn]
    by_cases h0 : step x d = 0
    · rw [if_pos h0, if_neg (by omega), h0]
      rw [h0] at h3
      have e : i + 1 - i = 1 := by omega
      rw [e]
      exact ⟨rfl, h3, by omega⟩
    · rw [if_neg h0, if_pos (by omega)]
      have hs : s ≠ [] := by
        rintro rfl
        simp [rightFrom] at h3
        exact h0 h3
      obtain ⟨a1, a2, a3⟩ := ih (step x d) (i + 1) frm (by omega) h3 hs
      have e : endFrom (step x d) (i + 1) s - i = (endFrom (step x d) (i + 1) s - (i + 1)) + 1 := by omega
      rw [e, List.drop_succ_cons]
      exact ⟨a1, a2, by omega⟩

/-- The fields, one behind the other. -/
def boundsGo (l : List It) : Nat → Nat → List (Nat × Nat)
  | 0, _ => []
  | f + 1, i => if i < l.length then (i, endAt l i) :: boundsGo l f (endAt l i) else []

theorem fields_bounds (l : List It) : ∀ (f i : Nat), i ≤ l.length → l.length - i < f → rightFrom 0 (l.drop i) = true → fieldsFrom i i 0 (l.drop i) = boundsGo l f i ∧
    ∀ p ∈ boundsGo l f i, ∃ x, l[p.1]? = some x ∧ 1 ≤ x.id ∧ x.id ≤ 1000 ∧ p.1 < p.2 ∧ p.2 ≤ l.length := by
  intro f
  induction f with
  | zero => intro i _ h; omega
  | succ f ih =>
    intro i hi hf hr
    rw [boundsGo]
    by_cases hlt : i < l.length
    · rw [if_pos hlt]
      have hne : l.drop i ≠ [] := by
        intro e
        have := congrArg List.length e
        rw [List.length_drop] at this
        simp at this
        omega
      obtain ⟨a1, a2, a3⟩ := fields_step (l.drop i) 0 i i (by omega) hr hne
      have he : endFrom 0 i (l.drop i) = endAt l i := rfl
      rw [he] at a1 a2 a3
      have hgt := endAt_gt hlt
      rw [List.drop_drop, show i + (endAt l i - i) = endAt l i by omega] at a1 a2
      obtain ⟨b1, b2⟩ := ih (endAt l i) hgt.2 (by omega) a2
      rw [a1, b1]
      refine ⟨rfl, fun p hp => ?_⟩
      rcases List.mem_cons.1 hp with rfl | hp
      · refine ⟨l[i], List.getElem?_eq_getElem hlt, ?_⟩
        rw [List.drop_eq_getElem_cons hlt, rightFrom, Bool.and_eq_true, Bool.and_eq_true] at hr
        obtain ⟨⟨h1, h2⟩, _⟩ := hr
        have h2 := of_decide_eq_true h2
        rcases shape_kinds h1 with ⟨_, i0, i1, _⟩ | ⟨_, i0, i1, _⟩ | ⟨_, i0, i1, _⟩ | ⟨k, _⟩
        · exact ⟨i0, i1, hgt.1, hgt.2⟩
        · exact ⟨i0, i1, hgt.1, hgt.2⟩
        · exact ⟨i0, i1, hgt.1, hgt.2⟩
        · unfold step at h2
          rw [if_neg (by omega), if_pos k] at h2
          omega
      · exact b2 p hp
    · rw [if_neg hlt]
      obtain rfl : i = l.length := by omega
      rw [List.drop_length]
      exact ⟨rfl, by simp⟩

theorem find_go (l : List It) (id : Int) : ∀ (f i : Nat), i ≤ l.length → findGo l id f i = match (boundsGo l f i).find? (idAt l id) with
    | none => (0, 0, false)
    | some p => ((p.1 : Int), (p.2 : Int), true) := by
  intro f
  induction f with
  | zero => intro i _; rfl
  | succ f ih =>
    intro i hi
    rw [findGo, boundsGo]
    by_cases hlt : i < l.length
    · rw [if_pos hlt, List.getElem?_eq_getElem hlt]
      simp only
      rw [List.find?_cons]
      have e : idAt l id (i, endAt l i) = (l[i].id == id) := by
        unfold idAt
        simp only
        rw [List.getElem?_eq_getElem hlt]
      rw [e]
      by_cases h : l[i].id = id
      · rw [if_pos h]
        have : (l[i].id == id) = true := by simpa using h
        rw [this]
      · rw [if_neg h]
        have : (l[i].id == id) = false := by simpa using h
        rw [this]
        exact ih _ (endAt_gt hlt).2
    · rw [if_neg hlt, List.getElem?_eq_none (by omega)]
      rfl
theorem find_same (l : List It) (id : Int) : pfindS l id = findS l id := by
  unfold pfindS findS
  by_cases hr : rightB l = true
  · rw [if_pos hr, if_pos hr, find_go l id _ 0 (Nat.zero_le _)]
    have h := (fields_bounds l (l.length + 1) 0 (Nat.zero_le _) (by omega) (by rw [List.drop_zero]; exact hr)).1
    rw [List.drop_zero] at h
    rw [← h]
    rfl
  · rw [if_neg hr, if_neg hr]

/-- What the document's Drop leaves. -/
def keptR (l : List It) (zs : List Int) (i : Nat) : List It := if (zs.any fun z => z == (l[i]?.map It.id).getD 0) = true then (l.drop i).take (endAt l i - i) else []
def rdropGo (l : List It) (zs : List Int) : Nat → Nat → List It
  | 0, _ => []
  | f + 1, i => if i < l.length then keptR l zs i ++ rdropGo l zs f (endAt l i) else []
def rdropS (l : List It) (zs : List Int) : List It := if rightB l = true then rdropGo l zs (l.length + 1) 0 else []

theorem drop_go (l : List It) (zs : List Int) : ∀ (f i : Nat), (∀ p ∈ boundsGo l f i, ∃ x, l[p.1]? = some x ∧ 1 ≤ x.id ∧ x.id ≤ 1000 ∧ p.1 < p.2 ∧ p.2 ≤ l.length) → rdropGo l zs f i = (boundsGo l f i).flatMap (keptF l zs) := by
  intro f
  induction f with
  | zero => intro i _; rfl
  | succ f ih =>
    intro i h
    rw [rdropGo]
    rw [boundsGo] at h ⊢
    by_cases hlt : i < l.length
    · rw [if_pos hlt] at h ⊢
      rw [if_pos hlt, List.flatMap_cons, ih _ (fun p hp => h p (List.mem_cons_of_mem _ hp))]
      congr 1
      obtain ⟨x, hx, h0, h1, _⟩ := h (i, endAt l i) (List.mem_cons_self ..)
      simp only at hx
      unfold keptR keptF
      simp only
      rw [hx]
      have e : (zs.any fun z => z == x.id) = askedB zs x.id.toNat := by
        unfold askedB
        rw [decide_eq_true (by omega), Bool.true_and, show ((x.id.toNat : Nat) : Int) = x.id by omega]
      simp only [Option.map_some, Option.getD_some, e]
    · rw [if_neg hlt, if_neg hlt]
      rfl
theorem drop_same (l : List It) (zs : List Int) : pdropS l zs = rdropS l zs := by
  unfold pdropS rdropS
  by_cases hr : rightB l = true
  · rw [if_pos hr, if_pos hr]
    obtain ⟨h, hb⟩ := fields_bounds l (l.length + 1) 0 (Nat.zero_le _) (by omega) (by rw [List.drop_zero]; exact hr)
    rw [drop_go l zs _ 0 hb]
    rw [List.drop_zero] at h
    rw [← h]
    rfl
  · rw [if_neg hr, if_neg hr]
end Go.Proofs.Yteelknmafnoccaa
