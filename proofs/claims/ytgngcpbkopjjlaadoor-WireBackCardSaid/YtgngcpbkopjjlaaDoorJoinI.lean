/-
  RECORDS BESIDE AND WITHIN ONE ANOTHER, AS DATA; the contracts of Right and Encode at a length that is told apart.
-/
import Derived.Test.YtgngcpbkopjjlaaDoorFrame
namespace Go.Proofs.YtgngcpbkopjjlaaDoor
open Go.RowKit

def total (l : List It) : Int := l.foldr (fun x s => turn x + s) 0
theorem right_total : ∀ (l : List It) (d : Int), rightFrom d l = true → d + total l = 0 := by
  intro l
  induction l with
  | nil => intro d h; simp [rightFrom] at h; simp [total, h]
  | cons x l ih =>
    intro d h
    rw [rightFrom, Bool.and_eq_true] at h
    have := ih _ h.2
    rw [step_turn] at this
    have e : total (x :: l) = turn x + total l := rfl
    omega
theorem right_join : ∀ (l m : List It) (d : Int), rightFrom d l = true → rightFrom d (l ++ m) = rightFrom 0 m := by
  intro l
  induction l with
  | nil => intro m d h; simp [rightFrom] at h; subst h; rfl
  | cons x l ih =>
    intro m d h
    rw [rightFrom, Bool.and_eq_true] at h
    rw [List.cons_append, rightFrom, h.1, Bool.true_and]
    exact ih m _ h.2
theorem right_both {l m : List It} (hl : rightB l = true) (hm : rightB m = true) : rightB (l ++ m) = true := (right_join l m 0 hl).trans hm
theorem right_open {l : List It} (hl : rightB l = true) : rightB ([⟨3, 1, 0, []⟩] ++ l) = false := by
  rcases Bool.eq_false_or_eq_true (rightB ([⟨3, 1, 0, []⟩] ++ l)) with h | h
  · have h1 := right_total _ _ hl
    have h2 := right_total _ _ h
    have e : total ([⟨3, 1, 0, []⟩] ++ l) = 1 + total l := rfl
    omega
  · exact h
theorem right_closed {l : List It} (hl : rightB l = true) : rightB (l ++ [⟨4, 0, 0, []⟩]) = false := (right_join l _ 0 hl).trans (by decide)

theorem encL_join (l m : List It) : encL (l ++ m) = encL l ++ encL m := List.flatMap_append

theorem OwnI.form_n {w : World} {base : Nat} {v : Value} {l : List It} (h : OwnI w base v l) : ∃ A n cap, v = .slice A n cap ∧ n = l.length ∧ n ≤ cap := by
  obtain ⟨A, cap, h1, h2⟩ := h.form
  exact ⟨A, _, cap, h1, rfl, h2⟩
/-- A slice that is built of one item without bytes. -/
theorem SrcI.one (n₀ : Nat) (w : World) (k i n : Int) : SrcI n₀ (w.alloc (.cells #[.int .i64 k, .int .i64 i, .int .i64 n, .slice none 0 0] 64)) (some ⟨w.heap.size, 0, none⟩) [⟨k, i, n, []⟩] := by
  refine ⟨_, CellsI.one (x := ⟨k, i, n, []⟩) (A := none) (cap := 0) (Nat.le_refl _) (Nat.zero_le _) (fun hp => by simp at hp), ?_⟩
  intro j u hu
  have e := cell_of_row (w.alloc (.cells #[.int .i64 k, .int .i64 i, .int .i64 n, .slice none 0 0] 64)) w.heap.size (0 + j) _ 64 (0, 0) (heap_alloc_new w _)
  have hadd : (⟨w.heap.size, 0, none⟩ : Addr).add j = ⟨w.heap.size, 0 + j, none⟩ := by unfold Addr.add; split <;> simp_all
  rw [hadd, e, Nat.zero_add]
  simpa using hu

theorem pright_n {a : Option Addr} {n cap : Nat} {l : List It} (hn : n = l.length) (hlen : l.length ≤ 140737488351232) {w : World} (hr : RdI w.heap.size w a l) {R : Bool} (hR : rightB l = R) :
    Calls Tryd.prog 16 #[.slice a n cap] w fun e w' => e = .returned (.bool R) ∧ Below w.heap.size w w' := by
  subst hn hR
  exact pright_any a cap l hlen w hr
theorem right_n {a : Option Addr} {n cap : Nat} {l : List It} (hn : n = l.length) (hlen : l.length ≤ 140737488351232) {w : World} (hr : RdI w.heap.size w a l) {R : Bool} (hR : rightB l = R) :
    Calls Tryd.prog 49 #[.slice a n cap] w fun e w' => e = .returned (.bool R) ∧ Below w.heap.size w w' := by
  subst hn hR
  exact right_any a cap l hlen w hr
end Go.Proofs.YtgngcpbkopjjlaaDoor
