/-
  BYTES THAT ARE READ, and the words of a block as they are made, byte after byte and word after word.
-/
import Derived.Test.YtmmocnokgcgmnaaDoorHArr
namespace Go.Proofs.YtmmocnokgcgmnaaDoor
open Go.RowKit

/-- A slice of bytes, as numbers. -/
def RdN (n₀ : Nat) (W : World) (a : Option Addr) (bs : List Nat) : Prop := 0 < bs.length → ∃ b off, a = some ⟨b, off, none⟩ ∧ b < n₀ ∧ ∀ (j x : Nat), bs[j]? = some x → W.cell? ⟨b, off + j, none⟩ = some (.int .u8 x)
theorem RdN.below {n₀ n₁ : Nat} {A B : World} {a : Option Addr} {bs : List Nat} (r : RdN n₀ A a bs) (h : Below n₁ A B) (hn : n₀ ≤ n₁) : RdN n₀ B a bs := fun hp => by
  obtain ⟨b, off, rfl, hb, hc⟩ := r hp
  exact ⟨b, off, rfl, hb, fun j x hx => (h.cell (p := ⟨b, off + j, none⟩) (show b < n₁ by omega)).trans (hc j x hx)⟩
theorem RdN.mono {n₀ n₁ : Nat} {A : World} {a : Option Addr} {bs : List Nat} (r : RdN n₀ A a bs) (h : n₀ ≤ n₁) : RdN n₁ A a bs := fun hp => by
  obtain ⟨b, off, rfl, hb, hc⟩ := r hp
  exact ⟨b, off, rfl, by omega, hc⟩
theorem RdN.arr {n₀ g : Nat} {W : World} {t : TypeId} {bs : List Nat} (h : Arr W g t (u8s bs)) (hg : g < n₀) : RdN n₀ W (some ⟨g, 0, none⟩) bs := fun _ =>
  ⟨g, 0, rfl, hg, fun j x hx => by rw [Nat.zero_add, h.cell j]; exact u8s_get hx⟩
theorem RdN.nil (n₀ : Nat) (W : World) (a : Option Addr) : RdN n₀ W a [] := fun h => absurd h (by simp)
theorem RdN.part {n₀ : Nat} {W : World} {b off : Nat} {bs : List Nat} (r : RdN n₀ W (some ⟨b, off, none⟩) bs) (j n : Nat) : RdN n₀ W (some ⟨b, off + j, none⟩) ((bs.drop j).take n) := fun hp => by
  have hl : 0 < bs.length := by simp at hp; omega
  obtain ⟨b', off', e, hb, hc⟩ := r hl
  injection e with e; injection e with e1 e2; subst e1 e2
  refine ⟨b, off + j, rfl, hb, fun i x hx => ?_⟩
  rw [List.getElem?_take] at hx
  split at hx
  · rw [List.getElem?_drop] at hx
    rw [Nat.add_assoc]; exact hc _ _ hx
  · cases hx

/-- The 64 words behind so many of a block's bytes. -/
def partW (b : List Nat) (k : Nat) : List Nat := (List.range 64).map fun j => word ((b.drop (4 * j)).take (min 4 (k - 4 * j)))
theorem partW_len (b : List Nat) (k : Nat) : (partW b k).length = 64 := by simp [partW]
theorem partW_get (b : List Nat) (k : Nat) {j : Nat} (hj : j < 64) : (partW b k)[j]? = some (word ((b.drop (4 * j)).take (min 4 (k - 4 * j)))) := by simp [partW, hj]
theorem partW_zero (b : List Nat) : partW b 0 = List.replicate 64 0 := by
  apply List.ext_getElem?
  intro j
  by_cases hj : j < 64
  · rw [partW_get b 0 hj, List.getElem?_replicate, if_pos hj]
    simp [word]
  · rw [List.getElem?_eq_none (by rw [partW_len]; omega), List.getElem?_eq_none (by simp; omega)]
theorem partW_full (b : List Nat) : partW b 64 = words16 b ++ List.replicate 48 0 := by
  apply List.ext_getElem?
  intro j
  by_cases hj : j < 64
  · rw [partW_get b 64 hj]
    by_cases h16 : j < 16
    · rw [List.getElem?_append_left (by rw [words16_len]; exact h16)]
      simp [words16, h16, show min 4 (64 - 4 * j) = 4 by omega]
    · rw [List.getElem?_append_right (by rw [words16_len]; omega), words16_len]
      rw [List.getElem?_replicate, if_pos (by omega), show min 4 (64 - 4 * j) = 0 by omega]
      rfl
  · rw [List.getElem?_eq_none (by rw [partW_len]; omega), List.getElem?_eq_none (by simp [words16_len]; omega)]
theorem partW_at {b : List Nat} (hb : ∀ x ∈ b, x < 256) {k : Nat} (hk : k < 64) : ∃ p, (partW b k)[k / 4]? = some p ∧ p < 16777216 ∧ ∀ x, b[k]? = some x → (partW b k).set (k / 4) (p * 256 + x) = partW b (k + 1) := by
  refine ⟨_, partW_get b k (by omega), ?_, fun x hx => ?_⟩
  · have h := word_lt ((b.drop (4 * (k / 4))).take (min 4 (k - 4 * (k / 4)))) fun y hy => hb y (List.mem_of_mem_drop (List.mem_of_mem_take hy))
    have h2 : 256 ^ ((b.drop (4 * (k / 4))).take (min 4 (k - 4 * (k / 4)))).length ≤ 256 ^ 3 := Nat.pow_le_pow_right (by decide) (by simp; omega)
    have e : (256 : Nat) ^ 3 = 16777216 := by decide
    omega
  · apply List.ext_getElem?
    intro j
    rw [List.getElem?_set]
    by_cases hj : j < 64
    · rw [partW_get b (k + 1) hj]
      by_cases hi : k / 4 = j
      · subst hi
        rw [if_pos rfl, if_pos (by rw [partW_len]; exact hj)]
        rw [show min 4 (k + 1 - 4 * (k / 4)) = (k - 4 * (k / 4)) + 1 by omega, show min 4 (k - 4 * (k / 4)) = k - 4 * (k / 4) by omega, List.take_add_one, List.getElem?_drop, show 4 * (k / 4) + (k - 4 * (k / 4)) = k by omega, hx, Option.toList_some, word_snoc]
      · rw [if_neg hi, partW_get b k hj]
        congr 3
        omega
    · rw [if_neg (by omega), List.getElem?_eq_none (by rw [partW_len]; omega), List.getElem?_eq_none (by rw [partW_len]; omega)]
theorem or_byte {p x : Nat} (hp : p < 16777216) (hx : x < 256) : bits .or .u32 ((p : Int) * 256 % 4294967296) (x : Int) = ((p * 256 + x : Nat) : Int) := by
  have h1 : p * 256 ||| x = p * 256 + x := by
    have := Nat.shiftLeft_add_eq_or_of_lt (i := 8) (b := x) (by simpa using hx) p
    rw [Nat.shiftLeft_eq] at this
    exact this.symm
  have h2 := u32_or_nat (p * 256) x (by omega) (by omega)
  rw [h1] at h2
  rw [← h2]
  congr 1
  omega

/-- The row of words while it is made. -/
def moreP (n : Nat) (b : List Nat) : List Nat := more n (words16 b) ++ List.replicate (48 - n) 0
theorem moreP_len {n : Nat} (hn : n ≤ 48) (b : List Nat) : (moreP n b).length = 64 := by simp [moreP, more_len, words16_len]; omega
theorem moreP_get {n : Nat} (b : List Nat) {j : Nat} (hj : j < 16 + n) : (moreP n b)[j]? = (more n (words16 b))[j]? := by
  rw [moreP, List.getElem?_append_left (by rw [more_len, words16_len]; exact hj)]
theorem moreP_step {n : Nat} (hn : n < 48) (b : List Nat) {x2 x7 x15 x16 : Nat} (h2 : (moreP n b)[16 + n - 2]? = some x2) (h7 : (moreP n b)[16 + n - 7]? = some x7) (h15 : (moreP n b)[16 + n - 15]? = some x15) (h16 : (moreP n b)[16 + n - 16]? = some x16) :
    (moreP n b).set (16 + n) ((lS1 x2 + x7 + lS0 x15 + x16) % 4294967296) = moreP (n + 1) b := by
  rw [moreP_get b (by omega)] at h2 h7 h15 h16
  have hl : (more n (words16 b)).length = 16 + n := by rw [more_len, words16_len]
  have hnx : nextW (more n (words16 b)) = (lS1 x2 + x7 + lS0 x15 + x16) % 4294967296 := by
    unfold nextW
    rw [hl]
    simp only [List.getD_eq_getElem?_getD, h2, h7, h15, h16, Option.getD_some]
  rw [← hnx]
  unfold moreP
  rw [more_snoc, List.set_append_right _ _ (by omega), hl, Nat.sub_self, show 48 - n = (48 - (n + 1)) + 1 by omega, List.replicate_succ, List.set_cons_zero]
  simp
theorem moreP_end (b : List Nat) : moreP 48 b = schedL b := by simp [moreP, schedL]
end Go.Proofs.YtmmocnokgcgmnaaDoor
