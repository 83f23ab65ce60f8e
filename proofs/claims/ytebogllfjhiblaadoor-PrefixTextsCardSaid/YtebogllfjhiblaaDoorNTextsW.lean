/-
  PREFIXES: the text and what is parsed are the document's: the law.
-/
import Derived.Test.YtebogllfjhiblaaDoorNTextsM
import Derived.Test.YtebogllfjhiblaaDoorNPar
namespace Go.Proofs.YtebogllfjhiblaaDoor
set_option linter.unusedVariables false
open Go.RowKit
theorem texts_walk (n : Nat) (hn : n < 4294967296) (b : Int) (_ : -9223372036854775808 ≤ b ∧ b ≤ 9223372036854775807) (s : ByteArray) {P : Prop} (_ : P) (w : World) (hL : LibP w) :
    Calls Tryd.prog 3 #[.agg #[.int .u32 n, .int .i64 b], .string s] w fun e w' => e = .returned (.bool true) ∧ Below w.heap.size w w' := by
  obtain ⟨l, rfl⟩ := strL_of s
  rcases Nat.lt_or_ge 1000 l.length with hl | hl
  · exact texts_long n b l hl w hL
  have hT := fun W (h : LibP W) => text_any n hn b W h.tab
  have hP := fun W (h : LibP W) => parse_any l (by omega) W h
  have hrP := rparse_any l
  rw [rparse_eq] at hrP
  cases hs : parseS l with
  | none =>
    rw [hs] at hP hrP
    exact texts_main n b l hl w hL _ _ 0 0 2 hT (rtext_any n hn b) hP hrP (right_any n hn b) (rright_any n hn b)
  | some q =>
    obtain ⟨u, v⟩ := q
    rw [hs] at hP hrP
    exact texts_main n b l hl w hL _ _ u v 0 hT (rtext_any n hn b) hP hrP (right_any n hn b) (rright_any n hn b)
end Go.Proofs.YtebogllfjhiblaaDoor
