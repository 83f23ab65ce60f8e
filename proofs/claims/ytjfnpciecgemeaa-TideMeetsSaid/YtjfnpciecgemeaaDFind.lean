/-
  THE HEAD OF AN ID in a list that rises: the library's binary search, find.
-/
import Derived.Test.YtjfnpciecgemeaaDIn
import Derived.Test.YtjfnpciecgemeaaTCmp
import Derived.BigQuiet
namespace Go.Proofs.Ytjfnpciecgemeaa.ti
set_option linter.unusedSimpArgs false
set_option linter.unusedVariables false
open Go.RowKit
set_option maxHeartbeats 1600000 in
set_option maxRecDepth 100000 in
theorem find1_any (x : THd) (i : TId) (W : World) : Calls Try.prog 44 #[.agg #[.int .i64 x.id.d, .int .i64 x.id.o, .int .i64 x.id.k, .int .i64 x.id.n, .int .i64 x.seq, .int .i64 x.life], .agg #[.int .i64 i.d, .int .i64 i.o, .int .i64 i.k, .int .i64 i.n]] W fun e w' => e = .returned (.int .i64 (cmpT x.id i)) ∧ Below W.heap.size W w' := by
  have hc := fun V => pcompare_any x.id i V
  generalize cmpT x.id i = r at hc ⊢
  have HF : RowKit.Hid (∀ A B : Obj, Below W.heap.size W ((W.alloc A).alloc B)) := fun A B => ((Below.refl _ W).alloc (Nat.le_refl _) _).alloc (by simp) _
  go_enter Try.func44, Try.ntmps44
  go_wp2_with (go_at_call 9; refine (hc _).mono ?_; rintro e w1 ⟨rfl, hf⟩; have HX := Lib.hid ((HF.out _ _).trans (hf.bel.mono (by simp; omega))); clear hf)
  go_ret
  exact ⟨rfl, HX.out⟩
/-- So far all below are less, all from there on are not. -/
def CutS (l : List THd) (i : TId) (lo hi : Nat) : Prop := lo ≤ hi ∧ hi ≤ l.length ∧ (∀ (j : Nat) (x : THd), j < lo → l[j]? = some x → lexT x.id i) ∧ ∀ (j : Nat) (x : THd), hi ≤ j → l[j]? = some x → ¬ lexT x.id i
theorem CutS.low {l : List THd} (ha : AscT l) {i : TId} {lo hi m : Nat} (h : CutS l i lo hi) {x : THd} (hx : l[m]? = some x) (hm : lo ≤ m ∧ m < hi) (hl : lexT x.id i) : CutS l i (m + 1) hi :=
  ⟨by omega, h.2.1, fun j y hj hy => by
    rcases Nat.lt_or_ge j m with q | q
    · exact lex_tr (asc_at ha hy hx q) hl
    · rw [show j = m by omega, hx] at hy; cases hy; exact hl, h.2.2.2⟩
theorem CutS.high {l : List THd} (ha : AscT l) {i : TId} {lo hi m : Nat} (h : CutS l i lo hi) {x : THd} (hx : l[m]? = some x) (hm : lo ≤ m ∧ m < hi) (hl : ¬ lexT x.id i) : CutS l i lo m :=
  ⟨hm.1, by have := h.2.1; omega, h.2.2.1, fun j y hj hy => by
    rcases Nat.lt_or_ge m j with q | q
    · exact fun k => hl (lex_tr (asc_at ha hx hy q) k)
    · rw [show j = m by omega, hx] at hy; cases hy; exact hl⟩
theorem CutS.found {l : List THd} (ha : AscT l) {i : TId} {k : Nat} (h : CutS l i k k) : (∃ x, l[k]? = some x ∧ x.id = i ∧ findT l i = some x) ∨ ((∀ x, l[k]? = some x → x.id ≠ i) ∧ findT l i = none) := by
  cases hf : findT l i with
  | some x =>
    obtain ⟨hx, hi⟩ := findT_is hf
    obtain ⟨j, hj, e⟩ := List.getElem_of_mem hx
    have hj2 : l[j]? = some x := by rw [List.getElem?_eq_getElem hj, e]
    rcases Nat.lt_trichotomy j k with q | q | q
    · exact absurd (h.2.2.1 j x q hj2) (by rw [hi]; exact lex_irr i)
    · subst q; exact .inl ⟨x, hj2, hi, rfl⟩
    · obtain ⟨y, hy⟩ : ∃ y, l[k]? = some y := ⟨_, List.getElem?_eq_getElem (by omega)⟩
      have := asc_at ha hy hj2 q
      rw [hi] at this
      exact absurd this (h.2.2.2 k y (Nat.le_refl _) hy)
  | none => exact .inr ⟨fun x hx => findT_none.1 hf x (List.mem_of_getElem? hx), rfl⟩
end Go.Proofs.Ytjfnpciecgemeaa.ti
