/-
  PREFIXES: what is parsed of a text is the prefix, and the other way round: the numbers.
-/
import Derived.Test.YtebogllfjhiblaaDoorNParse
import Derived.Test.YtebogllfjhiblaaDoorNLong
namespace Go.Proofs.YtebogllfjhiblaaDoor
set_option linter.unusedVariables false
open Go.RowKit
theorem digits_small : (List.range 256).all (fun x => (match Lib.parseUintB 8 (Lib.decDigits x) with | .ok u => u == x | _ => false) && (Lib.decDigits x).all (fun c => decide (48 ≤ c.toNat ∧ c.toNat ≤ 57))) = true := by
  have : (List.range 256).all (fun x => (match Lib.parseUintB 8 (Lib.decDigits x) with | .ok u => u == x | _ => false) && (Lib.decDigits x).all (fun c => decide (48 ≤ c.toNat ∧ c.toNat ≤ 57))) = true := by
    simp only [List.all_eq_true, List.mem_range, Bool.and_eq_true]
    intro x hx
    rw [show Lib.decDigits x = if x < 10 then [UInt8.ofNat (48 + x)] else if x < 100 then [UInt8.ofNat (48 + x / 10), UInt8.ofNat (48 + x % 10)] else [UInt8.ofNat (48 + x / 100), UInt8.ofNat (48 + x / 10 % 10), UInt8.ofNat (48 + x % 10)] from ?_]
    · have key : ∀ x : Fin 256, ((match Lib.parseUintB 8 (if x.val < 10 then [UInt8.ofNat (48 + x.val)] else if x.val < 100 then [UInt8.ofNat (48 + x.val / 10), UInt8.ofNat (48 + x.val % 10)] else [UInt8.ofNat (48 + x.val / 100), UInt8.ofNat (48 + x.val / 10 % 10), UInt8.ofNat (48 + x.val % 10)]) with | .ok u => u == x.val | _ => false) = true) ∧ (∀ c ∈ (if x.val < 10 then [UInt8.ofNat (48 + x.val)] else if x.val < 100 then [UInt8.ofNat (48 + x.val / 10), UInt8.ofNat (48 + x.val % 10)] else [UInt8.ofNat (48 + x.val / 100), UInt8.ofNat (48 + x.val / 10 % 10), UInt8.ofNat (48 + x.val % 10)]), (decide (48 ≤ c.toNat ∧ c.toNat ≤ 57)) = true) := by decide +kernel
      exact key ⟨x, hx⟩
    · rw [Lib.decDigits]
      split
      · rfl
      · rw [Lib.decDigits]
        split
        · rename_i h1 h2
          rw [if_pos (by omega)]
          rfl
        · rename_i h1 h2
          rw [Lib.decDigits, dif_pos (by omega), if_neg (by omega), show x / 10 / 10 = x / 100 by omega]
          rfl
  exact this
theorem puO_dec {x : Nat} (h : x < 256) : puO (Lib.decDigits x) = some x := by
  have := List.all_eq_true.1 digits_small x (by simpa using h)
  rw [Bool.and_eq_true] at this
  unfold puO
  have h1 := this.1
  split at h1
  · rename_i u hu
    rw [hu]
    simp only [beq_iff_eq] at h1
    exact congrArg some h1
  · cases h1
theorem dec_digit {x : Nat} (h : x < 256) {c : UInt8} (hc : c ∈ Lib.decDigits x) : 48 ≤ c.toNat := by
  have := List.all_eq_true.1 digits_small x (by simpa using h)
  rw [Bool.and_eq_true] at this
  have := List.all_eq_true.1 this.2 c hc
  simp only [decide_eq_true_eq] at this
  exact this.1
theorem index_at (c : UInt8) : ∀ (d r : List UInt8), (∀ x ∈ d, x ≠ c) → Lib.index (d ++ c :: r) [c] = d.length
  | [], r, _ => by
    show Lib.index (c :: r) [c] = 0
    unfold Lib.index
    rw [if_pos (by simp)]
  | x :: d, r, h => by
    have ih := index_at c d r (fun y hy => h y (List.mem_cons_of_mem _ hy))
    show Lib.index (x :: (d ++ c :: r)) [c] = _
    unfold Lib.index
    rw [if_neg (by simp; exact fun e => h x (List.mem_cons_self ..) e.symm), ih]
    have : (((d.length : Nat) : Int) == -1) = false := by rw [beq_eq_false_iff_ne]; omega
    simp [this]
theorem cut_at (c : UInt8) (d r : List UInt8) (h : ∀ x ∈ d, x ≠ c) : Lib.cut (d ++ c :: r) [c] = (d, r, true) := by
  unfold Lib.cut
  rw [index_at c d r h, if_pos (by omega)]
  simp
theorem dec_ne {x : Nat} (h : x < 256) {c : UInt8} (hc : c.toNat < 48) : ∀ y ∈ Lib.decDigits x, y ≠ c := by
  rintro y hy rfl
  have := dec_digit h hy
  omega
theorem cut_dec {x : Nat} (h : x < 256) (k : Nat) (r : List UInt8) : Lib.cut (Lib.decDigits x ++ sepP k :: r) [sepP k] = (Lib.decDigits x, r, true) :=
  cut_at _ _ _ (dec_ne h (by unfold sepP; split <;> decide))
theorem readN_next {l : List UInt8} {k x u : Nat} {r : List UInt8} (hu : u < 256) (h : readN l k = some (x, Lib.decDigits u ++ sepP k :: r)) : readN l (k + 1) = some (x * 256 + u, r) := by
  rw [readN, h]
  simp only [cut_dec hu, puO_dec hu]
theorem textUp_flat (n : Nat) (t : List UInt8) : textUp n 4 ++ t = Lib.decDigits (byteP n 0) ++ sepP 0 :: (Lib.decDigits (byteP n 1) ++ sepP 1 :: (Lib.decDigits (byteP n 2) ++ sepP 2 :: (Lib.decDigits (byteP n 3) ++ sepP 3 :: t))) := by
  simp [textUp, sepP]
theorem bytes_whole {n : Nat} (h : n < 4294967296) : (((0 * 256 + byteP n 0) * 256 + byteP n 1) * 256 + byteP n 2) * 256 + byteP n 3 = n := by
  unfold byteP
  simp only [Nat.reduceMul, Nat.reduceSub, Nat.reducePow, Nat.sub_zero]
  omega
theorem read_text {n : Nat} (hn : n < 4294967296) {b : Nat} (hb : b < 256) : readS (textUp n 4 ++ Lib.decDigits b) = some (n, (b : Int)) := by
  have h0 : readN (textUp n 4 ++ Lib.decDigits b) 0 = some (0, Lib.decDigits (byteP n 0) ++ sepP 0 :: (Lib.decDigits (byteP n 1) ++ sepP 1 :: (Lib.decDigits (byteP n 2) ++ sepP 2 :: (Lib.decDigits (byteP n 3) ++ sepP 3 :: Lib.decDigits b)))) := by
    rw [readN, textUp_flat]
  have h1 := readN_next (byteP_lt n 0) h0
  have h2 := readN_next (byteP_lt n 1) h1
  have h3 := readN_next (byteP_lt n 2) h2
  have h4 := readN_next (byteP_lt n 3) h3
  rw [bytes_whole hn] at h4
  unfold readS
  rw [h4]
  simp only [puO_dec hb]
theorem read_nil : readS [] = none := by decide +kernel
theorem right_bits {p : Nat × Int} (h : rightP p = true) : 0 ≤ p.2 ∧ p.2 ≤ 32 := by
  have := (rightP_bits h)
  omega
/-- The text of a right prefix is parsed as the prefix. -/
theorem parse_text {n : Nat} (hn : n < 4294967296) {b : Int} (h : rightP (n, b) = true) : parseS (textP (n, b)) = some (n, b) := by
  have hb := right_bits h
  have ht : textP (n, b) = textUp n 4 ++ Lib.decDigits b.toNat := by unfold textP; rw [if_pos h]
  have hr := read_text hn (b := b.toNat) (by have := hb.2; show b.toNat < 256; simp only at this hb; omega)
  rw [show ((b.toNat : Nat) : Int) = b by have := hb.1; simp only at this; omega, ← ht] at hr
  unfold parseS
  rw [hr]
  exact if_pos rfl
theorem text_nil {p : Nat × Int} (h : rightP p = false) : textP p = [] := by unfold textP; rw [h]; rfl
theorem parse_nil : parseS [] = none := by unfold parseS; rw [read_nil]
/-- What is parsed is right, and its text is what was parsed. -/
theorem parse_some {l : List UInt8} {p : Nat × Int} (h : parseS l = some p) : rightP p = true ∧ textP p = l ∧ p.1 < 4294967296 := by
  unfold parseS at h
  split at h
  · cases h
  · rename_i q hq
    split at h
    · rename_i ht
      injection h with h
      subst h
      refine ⟨?_, ht, readS_lt hq⟩
      cases hr : rightP q
      · rw [text_nil hr] at ht
        rw [← ht, read_nil] at hq
        cases hq
      · rfl
    · cases h
end Go.Proofs.YtebogllfjhiblaaDoor
