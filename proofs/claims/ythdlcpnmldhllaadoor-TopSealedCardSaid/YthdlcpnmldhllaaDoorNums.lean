/-
  PLAIN MATHEMATICS: 'scan' and 'putL' are inverse to one another: of a number's bytes the scan is that number; what the scan finds first is a number whose bytes stand there.
-/
import Derived.Test.YthdlcpnmldhllaaDoorScan
namespace Go.Proofs.YthdlcpnmldhllaaDoor

theorem pow128_9 : 128 ^ 9 = 9223372036854775808 := by decide

/-- What stands behind a number's bytes is scanned anew. -/
theorem scan_put (u : Nat) : ∀ (n p : Nat) (rest : List Int), Way n p → (p = 0 ∨ u ≠ 0) → n + u * 128 ^ p < 18446744073709551616 →
    scan n p (putL u ++ rest) = Num.of (n + u * 128 ^ p) (p + (putL u).length) :: scan 0 0 rest := by
  induction u using Nat.strongRecOn with
  | ind u ih =>
    intro n p rest hw h0 hfit
    have hp := hw.1
    by_cases hu : u < 128
    · rw [putL_lt hu]
      have hm : may (u : Int) p = true := by
        unfold may
        by_cases h9 : p = 9
        · subst h9
          rw [if_pos rfl]
          rw [pow128_9] at hfit
          simp
          omega
        · rw [if_neg h9]
          rcases h0 with h0 | h0
          · simp [h0]
          · simp; left; omega
      simp only [List.cons_append, List.nil_append, scan, if_pos hm]
      rw [if_neg (by omega)]
      have e : ((u : Int) % 128).toNat = u := by omega
      rw [e]
      rfl
    · have h9 : p ≠ 9 := by
        rintro rfl
        rw [pow128_9] at hfit
        omega
      rw [putL_ge (by omega)]
      have hx : 128 ≤ ((u % 128 + 128 : Nat) : Int) := by omega
      have hm : may ((u % 128 + 128 : Nat) : Int) p = true := by
        unfold may
        rw [if_neg h9]
        simp
        left; omega
      simp only [List.cons_append, scan, if_pos hm, if_pos hx]
      have e : (((u % 128 + 128 : Nat) : Int) % 128).toNat = u % 128 := by omega
      have hw' := way_next hw hm hx
      rw [e] at hw' ⊢
      have hsum : n + u % 128 * 128 ^ p + u / 128 * 128 ^ (p + 1) = n + u * 128 ^ p := by
        have h1 : u = u % 128 + 128 * (u / 128) := by omega
        have h2 : u * 128 ^ p = (u % 128 + 128 * (u / 128)) * 128 ^ p := by rw [← h1]
        rw [h2, Nat.add_mul, Nat.pow_succ, Nat.mul_comm (128 ^ p) 128, ← Nat.mul_assoc (u / 128), Nat.mul_comm (u / 128) 128]
        omega
      rw [ih (u / 128) (by omega) _ _ rest hw' (.inr (by omega)) (by rw [hsum]; exact hfit), hsum]
      simp only [List.length_cons]
      rw [show p + 1 + (putL (u / 128)).length = p + ((putL (u / 128)).length + 1) by omega]

theorem scan_put0 {u : Nat} (hu : u < 18446744073709551616) (rest : List Int) : scan 0 0 (putL u ++ rest) = Num.of u (putL u).length :: scan 0 0 rest := by
  have h := scan_put u 0 0 rest way0 (.inl rfl) (by simpa using hu)
  simpa using h

/-- Bytes that all say 'more' are no number. -/
theorem scan_more : ∀ (bs : List Int) (n p : Nat), (∀ x ∈ bs, 128 ≤ x) → scan n p bs = [] := by
  intro bs
  induction bs with
  | nil => intro n p _; rfl
  | cons x bs ih =>
    intro n p h
    unfold scan
    split
    · rw [if_pos (h x (by simp))]
      exact ih _ _ (fun y hy => h y (by simp [hy]))
    · rfl

/-- What the scan finds first stands there, byte by byte; the rest is scanned anew. -/
theorem scan_first : ∀ (bs : List Int) (n p : Nat) (q : Num) (qs : List Num), (∀ x ∈ bs, 0 ≤ x ∧ x ≤ 255) → Way n p → scan n p bs = q :: qs →
    ∃ u j : Nat, 0 < j ∧ j ≤ bs.length ∧ bs.take j = putL u ∧ n + u * 128 ^ p = q.n ∧ q.k = p + j ∧ qs = scan 0 0 (bs.drop j) ∧ (p = 0 ∨ u ≠ 0) := by
  intro bs
  induction bs with
  | nil => intro n p q qs _ _ h; simp [scan] at h
  | cons x bs ih =>
    intro n p q qs hb hw h
    have hx := hb x (by simp)
    unfold scan at h
    by_cases hm : may x p = true
    · rw [if_pos hm] at h
      by_cases h128 : 128 ≤ x
      · rw [if_pos h128] at h
        obtain ⟨u, j, h1, h2, h3, h4, h5, h6, h7⟩ := ih _ _ q qs (fun y hy => hb y (by simp [hy])) (way_next hw hm h128) h
        have hu0 : u ≠ 0 := by omega
        refine ⟨u * 128 + (x % 128).toNat, j + 1, by omega, by simp; omega, ?_, ?_, by omega, by simpa using h6, .inr (by omega)⟩
        · rw [List.take_succ_cons, h3, putL_ge (n := u * 128 + (x % 128).toNat) (by omega)]
          have e1 : (u * 128 + (x % 128).toNat) / 128 = u := by omega
          have e2 : (((u * 128 + (x % 128).toNat) % 128 + 128 : Nat) : Int) = x := by omega
          rw [e1, e2]
        · rw [← h4, Nat.add_mul, Nat.pow_succ, Nat.mul_comm (128 ^ p) 128, ← Nat.mul_assoc u]
          omega
      · rw [if_neg h128] at h
        have hfit := way_fit hw hm
        injection h with h1 h2
        subst h1
        refine ⟨x.toNat, 1, by omega, by simp, ?_, ?_, ?_, by simpa using h2.symm, ?_⟩
        · rw [putL_lt (by omega)]
          simp
          omega
        · rw [Num.of_n hfit]
          have e : (x % 128).toNat = x.toNat := by omega
          rw [e]
        · exact Num.of_k (by have := hw.1; omega)
        · unfold may at hm
          by_cases h9 : p = 9
          · rw [if_pos h9] at hm
            right
            have : x = 1 := by simpa using hm
            omega
          · rw [if_neg h9] at hm
            simp at hm
            omega
    · rw [if_neg hm] at h
      cases h

theorem scan_first0 {bs : List Int} {q : Num} {qs : List Num} (hb : ∀ x ∈ bs, 0 ≤ x ∧ x ≤ 255) (h : scan 0 0 bs = q :: qs) :
    0 < q.k ∧ q.k ≤ bs.length ∧ bs.take q.k = putL q.n ∧ qs = scan 0 0 (bs.drop q.k) := by
  obtain ⟨u, j, h1, h2, h3, h4, h5, h6, _⟩ := scan_first bs 0 0 q qs hb way0 h
  have e : u = q.n := by simpa using h4
  have e2 : q.k = j := by omega
  subst e
  rw [e2]
  exact ⟨h1, h2, h3, h6⟩
end Go.Proofs.YthdlcpnmldhllaaDoor
