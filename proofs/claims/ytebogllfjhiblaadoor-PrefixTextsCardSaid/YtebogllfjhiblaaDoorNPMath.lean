/-
  PREFIXES: the document's machine answers what the program's does.
-/
import Derived.Test.YtebogllfjhiblaaDoorNParD
namespace Go.Proofs.YtebogllfjhiblaaDoor
set_option linter.unusedVariables false
open Go.RowKit
theorem mach_le : ∀ (l : List UInt8) (f : Nat → Nat) (i : Nat) (g : Nat → Nat), mach l f i = some g → (∀ j, j < 5 → f j ≤ 255) → ∀ j, j < 5 → g j ≤ 255
  | [], f, i, g, h, hf => by
    rw [mach] at h
    injection h with h
    subst h
    exact hf
  | c :: r, f, i, g, h, hf => by
    rw [mach] at h
    split at h
    · split at h
      · cases h
      · rename_i hv
        exact mach_le r _ _ g h (setF_le hf i _ (by omega))
    · split at h
      · cases h
      · exact mach_le r _ _ g h hf
theorem dec_form {x : Nat} (hx : x < 256) : Lib.decDigits x = if x < 10 then [UInt8.ofNat (48 + x)] else if x < 100 then [UInt8.ofNat (48 + x / 10), UInt8.ofNat (48 + x % 10)] else [UInt8.ofNat (48 + x / 100), UInt8.ofNat (48 + x / 10 % 10), UInt8.ofNat (48 + x % 10)] := by
  rw [Lib.decDigits]
  split
  · rfl
  · rw [Lib.decDigits]
    split
    · rename_i h1 h2
      rw [if_pos (by omega)]
      rfl
    · rename_i h1 h2
      rw [Lib.decDigits, dif_pos (by omega), if_neg (by omega), show x / 10 / 10 = x / 100 by omega]
      rfl
theorem mach_dig {d : Nat} (hd : d < 10) (r : List UInt8) (f : Nat → Nat) (i : Nat) (hv : f i * 10 + d ≤ 255) : mach (UInt8.ofNat (48 + d) :: r) f i = mach r (setF f i (f i * 10 + d)) i := by
  rw [mach_step (x := 48 + d) (by simp; omega), if_pos (by omega), show 48 + d - 48 = d by omega, if_neg (by omega)]
theorem setF_at (f : Nat → Nat) (i v : Nat) : setF f i v i = v := by simp [setF]
theorem setF_set (f : Nat → Nat) (i a b : Nat) : setF (setF f i a) i b = setF f i b := by
  funext j
  simp only [setF]
  split <;> rfl
theorem mach_dec {x : Nat} (hx : x < 256) (r : List UInt8) (f : Nat → Nat) (i : Nat) (h0 : f i = 0) : mach (Lib.decDigits x ++ r) f i = mach r (setF f i x) i := by
  rw [dec_form hx]
  split
  · rename_i h
    show mach (UInt8.ofNat (48 + x) :: r) f i = _
    rw [mach_dig h _ _ _ (by omega), h0]
    simp
  · split
    · rename_i h1 h2
      show mach (UInt8.ofNat (48 + x / 10) :: UInt8.ofNat (48 + x % 10) :: r) f i = _
      rw [mach_dig (by omega) _ _ _ (by omega), mach_dig (by omega) _ _ _ (by rw [setF_at, h0]; omega), setF_at, setF_set, h0]
      congr 2
      omega
    · rename_i h1 h2
      show mach (UInt8.ofNat (48 + x / 100) :: UInt8.ofNat (48 + x / 10 % 10) :: UInt8.ofNat (48 + x % 10) :: r) f i = _
      rw [mach_dig (by omega) _ _ _ (by omega), mach_dig (by omega) _ _ _ (by rw [setF_at, h0]; omega), setF_at, setF_set, mach_dig (by omega) _ _ _ (by rw [setF_at, h0]; omega), setF_at, setF_set, h0]
      congr 2
      omega
theorem mach_sep (k : Nat) (r : List UInt8) (f : Nat → Nat) {i : Nat} (hi : i < 4) : mach (sepP k :: r) f i = mach r f (i + 1) := by
  rw [mach_step (x := (sepP k).toNat) rfl, if_neg (by unfold sepP; split <;> decide), if_neg (by omega)]
theorem mach_text (n b : Nat) (hb : b < 256) : ∃ g, mach (textUp n 4 ++ Lib.decDigits b) zeroF 0 = some g ∧ g 0 = byteP n 0 ∧ g 1 = byteP n 1 ∧ g 2 = byteP n 2 ∧ g 3 = byteP n 3 ∧ g 4 = b := by
  refine ⟨setF (setF (setF (setF (setF zeroF 0 (byteP n 0)) 1 (byteP n 1)) 2 (byteP n 2)) 3 (byteP n 3)) 4 b, ?_, rfl, rfl, rfl, rfl, rfl⟩
  rw [textUp_flat, mach_dec (byteP_lt n 0) _ _ _ rfl, mach_sep _ _ _ (by decide), mach_dec (byteP_lt n 1) _ _ _ rfl, mach_sep _ _ _ (by decide), mach_dec (byteP_lt n 2) _ _ _ rfl, mach_sep _ _ _ (by decide), mach_dec (byteP_lt n 3) _ _ _ rfl, mach_sep _ _ _ (by decide)]
  have := mach_dec hb [] (setF (setF (setF (setF zeroF 0 (byteP n 0)) 1 (byteP n 1)) 2 (byteP n 2)) 3 (byteP n 3)) 4 rfl
  rw [List.append_nil] at this
  rw [this, mach]
theorem digits_two {x : Nat} (h : x < 100) : (Lib.decDigits x).length ≤ 2 := by
  rw [dec_form (by omega)]
  split
  · simp
  · simp
theorem num_form (a b c d : Nat) : a * 16777216 + b * 65536 + c * 256 + d = ((a * 256 + b) * 256 + c) * 256 + d := by omega
theorem rparse_eq (l : List UInt8) : rparseS l = parseS l := by
  cases hp : parseS l with
  | some p =>
    obtain ⟨n, b⟩ := p
    obtain ⟨hr, ht, hn⟩ := parse_some hp
    have hb := right_bits hr
    simp only at hb hn
    have htx : textP (n, b) = textUp n 4 ++ Lib.decDigits b.toNat := by unfold textP; rw [if_pos hr]
    obtain ⟨g, hg, g0, g1, g2, g3, g4⟩ := mach_text n b.toNat (by omega)
    rw [← htx, ht] at hg
    have hl : l.length ≤ 18 := by
      rw [← ht, htx]
      have h1 := textUp_len n 4
      have h2 := digits_two (x := b.toNat) (by omega)
      simp
      omega
    have hnm : numF g = n := by
      have := bytes_whole hn
      have e : numF g = (((byteP n 0 * 256 + byteP n 1) * 256 + byteP n 2) * 256 + byteP n 3) := by
        unfold numF
        rw [g0, g1, g2, g3]
        exact num_form _ _ _ _
      rw [e]
      simpa using this
    have hne : l ≠ [] := by
      rintro rfl
      rw [parse_nil] at hp
      cases hp
    unfold rparseS
    rw [if_neg (by omega), hg]
    simp only [hnm, g4]
    rw [show ((b.toNat : Nat) : Int) = b by omega, if_neg (by simp [hne, ht])]
  | none =>
    cases hq : rparseS l with
    | none => rfl
    | some p =>
      unfold rparseS at hq
      split at hq
      · cases hq
      · split at hq
        · cases hq
        · rename_i f hf
          split at hq
          · cases hq
          · rename_i hc
            have hc : l ≠ [] ∧ textP (numF f, (f 4 : Int)) = l := ⟨fun e => hc (.inl e), Classical.byContradiction fun e => hc (.inr e)⟩
            have hle := mach_le l zeroF 0 f hf (fun _ _ => by simp [zeroF])
            have hn : numF f < 4294967296 := by
              have := hle 0 (by decide); have := hle 1 (by decide); have := hle 2 (by decide); have := hle 3 (by decide)
              unfold numF
              omega
            cases hr : rightP (numF f, (f 4 : Int))
            · rw [text_nil hr] at hc
              exact absurd hc.2.symm hc.1
            · have := parse_text hn hr
              rw [hc.2, hp] at this
              cases this
end Go.Proofs.YtebogllfjhiblaaDoor
