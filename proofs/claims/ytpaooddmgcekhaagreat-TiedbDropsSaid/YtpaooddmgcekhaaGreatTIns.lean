/-
  WHERE a head is laid.
-/
import Derived.Test.YtpaooddmgcekhaaGreatTApp
namespace Go.Proofs.YtpaooddmgcekhaaGreat.ti
set_option linter.unusedSimpArgs false
set_option linter.unusedVariables false
theorem ins_split : ∀ {out : List THd} {h : THd} {k : Nat}, k ≤ out.length → (∀ j x, j < k → out[j]? = some x → lexT x.id h.id) → insT out h = out.take k ++ insT (out.drop k) h
  | out, h, 0, _, _ => by simp
  | [], h, k + 1, hk, _ => by simp at hk
  | x :: r, h, k + 1, hk, hl => by
    have h0 : lexT x.id h.id := hl 0 x (by omega) rfl
    have ih := ins_split (out := r) (h := h) (k := k) (by simpa using hk) (fun j y hj hy => hl (j + 1) y (by omega) (by simpa using hy))
    have e : insT (x :: r) h = x :: insT r h := by
      conv => lhs; unfold insT
      rw [if_pos h0]
    rw [e, ih]
    rfl
theorem drop_at {out : List THd} {k : Nat} {x : THd} (hx : out[k]? = some x) : out.drop k = x :: out.drop (k + 1) := by
  obtain ⟨hk, e⟩ := List.getElem?_eq_some_iff.1 hx
  rw [List.drop_eq_getElem_cons hk, e]
theorem ins_new {out : List THd} {h x : THd} {k : Nat} (hl : ∀ j x, j < k → out[j]? = some x → lexT x.id h.id) (hx : out[k]? = some x) (h1 : ¬ lexT x.id h.id) (h2 : ¬ x.id = h.id) : insT out h = out.take k ++ [h] ++ out.drop k := by
  have hk : k ≤ out.length := by have := (List.getElem?_eq_some_iff.1 hx).1; omega
  rw [ins_split hk hl, drop_at hx]
  have e : insT (x :: out.drop (k + 1)) h = h :: x :: out.drop (k + 1) := by
    conv => lhs; unfold insT
    rw [if_neg h1, if_neg h2]
  rw [e]
  simp
theorem ins_last {out : List THd} {h : THd} (hl : ∀ j x, j < out.length → out[j]? = some x → lexT x.id h.id) : insT out h = out.take out.length ++ [h] ++ out.drop out.length := by
  rw [ins_end fun y hy => by obtain ⟨j, hj, e⟩ := List.getElem_of_mem hy; exact hl j y hj (by rw [List.getElem?_eq_getElem hj, e])]
  simp
theorem ins_set {out : List THd} {h x : THd} {k : Nat} (hl : ∀ j x, j < k → out[j]? = some x → lexT x.id h.id) (hx : out[k]? = some x) (h2 : x.id = h.id) : insT out h = if 0 < newT h x then out.set k h else out := by
  have hk : k ≤ out.length := by have := (List.getElem?_eq_some_iff.1 hx).1; omega
  have e : insT (x :: out.drop (k + 1)) h = if 0 < newT h x then h :: out.drop (k + 1) else x :: out.drop (k + 1) := by
    conv => lhs; unfold insT
    rw [if_neg (by rw [h2]; exact lex_irr _), if_pos h2]
  rw [ins_split hk hl, drop_at hx, e]
  split
  · rw [List.set_eq_take_append_cons_drop, if_pos (by have := (List.getElem?_eq_some_iff.1 hx).1; omega)]
  · rw [← drop_at hx, List.take_append_drop]
theorem fold_next {all : List THd} {k : Nat} {h : THd} (hk : all[k]? = some h) : (all.take (k + 1)).foldl insT [] = insT ((all.take k).foldl insT []) h := by
  rw [List.take_add_one, hk, List.foldl_append]
  rfl
theorem ins_len (out : List THd) (h : THd) : (insT out h).length ≤ out.length + 1 := by
  induction out with
  | nil => simp [insT]
  | cons x r ih =>
    unfold insT
    split
    · simp; omega
    · split
      · split <;> simp
      · simp
theorem fold_len (m : List THd) : ∀ l : List THd, (m.foldl insT l).length ≤ l.length + m.length := by
  induction m with
  | nil => intro l; simp
  | cons x m ih =>
    intro l
    have := ih (insT l x)
    have := ins_len l x
    simp; omega
theorem merge_len (l m : List THd) : (mergeT l m).length ≤ l.length + m.length := by
  have := fold_len (l ++ m) []
  simpa [mergeT] using this
/-- Whatever holds of all heads holds of the merged ones. -/
theorem fold_all {P : THd → Prop} (m : List THd) : ∀ {l : List THd}, (∀ x ∈ l, P x) → (∀ x ∈ m, P x) → ∀ x ∈ m.foldl insT l, P x := by
  induction m with
  | nil => intro l h _; exact h
  | cons y m ih =>
    intro l h k
    exact ih (l := insT l y) (fun x hx => by rcases ins_mem hx with rfl | hx; exact k _ (by simp); exact h x hx) (fun x hx => k x (by simp [hx]))
theorem merge_all_of {P : THd → Prop} {l m : List THd} (hl : ∀ x ∈ l, P x) (hm : ∀ x ∈ m, P x) : ∀ x ∈ mergeT l m, P x := fold_all _ (by simp) fun x hx => by rcases List.mem_append.1 hx with h | h; exact hl x h; exact hm x h
end Go.Proofs.YtpaooddmgcekhaaGreat.ti
