/-
  THE DOCUMENT: the first 64 primes.
-/
import Derived.Test.YtmmocnokgcgmnaaDoorHArr
namespace Go.Proofs.YtmmocnokgcgmnaaDoor
open Go.RowKit
def primes : List Nat := [2, 3, 5, 7, 11, 13, 17, 19, 23, 29, 31, 37, 41, 43, 47, 53, 59, 61, 67, 71, 73, 79, 83, 89, 97, 101, 103, 107, 109, 113, 127, 131, 137, 139, 149, 151, 157, 163, 167, 173, 179, 181, 191, 193, 197, 199, 211, 223, 227, 229, 233, 239, 241, 251, 257, 263, 269, 271, 277, 281, 283, 293, 307, 311]
def cntP (p : Nat) : Nat := (primes.filter (· ≤ p)).length
def upP (p k : Nat) : Bool := (List.range k).all fun j => decide (j < 2) || p % j != 0
theorem upP_succ {p k : Nat} (hk : 2 ≤ k) : upP p (k + 1) = (upP p k && (p % k != 0)) := by
  unfold upP
  rw [List.range_succ, List.all_append]
  simp only [List.all_cons, List.all_nil, Bool.and_true, decide_eq_false (show ¬ k < 2 by omega), Bool.false_or]
theorem upP_two (p : Nat) : upP p 2 = true := by simp [upP, List.range_succ]
theorem up_exit : ∀ p < 312, ∀ k < 19, ((k = 2 ∨ (k - 1) * (k - 1) ≤ p) ∧ 2 ≤ k ∧ 2 ≤ p ∧ p < k * k) → upP p k = primes.contains p := by decide +kernel
theorem cnt_step : ∀ p < 311, cntP (p + 1) = (if primes.contains (p + 1) then cntP p + 1 else cntP p) ∧ (primes.contains (p + 1) = true → primes[cntP p]? = some (p + 1)) := by decide +kernel
theorem cnt_room : ∀ p < 312, cntP p < 64 → p < 311 := by decide +kernel
set_option maxHeartbeats 1600000 in
set_option maxRecDepth 100000 in
theorem prime_any (n : Nat) (hn : n < 64) (q : Nat) (hq : primes[n]? = some q) (w : World) :
    Calls Tryd.prog 42 #[.int .i64 n] w fun e w' => e = .returned (.int .i64 q) ∧ w' = w := by
  go_enter Tryd.func42, Tryd.ntmps42
  go_wp2
  go_loopw [3, 4] (fun pv iv wr => ∃ (p c : Nat), Hid (cntP p = c) ∧ 1 ≤ p ∧ p ≤ 311 ∧ c ≤ n + 1 ∧ Hid (c = n + 1 → primes[n]? = some p) ∧ pv = .int .i64 p ∧ iv = .int .i64 ((c : Int) - 1) ∧ Hid (wr = w)) (fun pv _ _ => 311 - (intOf pv).toNat)
  case atStart => exact ⟨1, 0, by unfold Hid; decide, by omega, by omega, by omega, fun h => by omega, rfl, rfl, rfl⟩
  case round =>
    obtain ⟨p, c, hc, h1, h311, hcn, hlast, rfl, rfl, hw⟩ := hrel
    by_cases hlt : c < n + 1
    · have hp := cnt_room p (by omega) (by rw [hc.out]; omega)
      obtain ⟨hs1, hs2⟩ := cnt_step p hp
      rw [hc.out] at hs1 hs2
      have HS1 := Lib.hid hs1
      have HS2 := Lib.hid hs2
      clear hs1 hs2
      go_wp2
      go_loopw [5, 6] (fun bv kv wr => ∃ k : Nat, 2 ≤ k ∧ k ≤ 18 ∧ Hid (k = 2 ∨ (k - 1) * (k - 1) ≤ p + 1) ∧ bv = .bool (upP (p + 1) k) ∧ kv = .int .i64 k ∧ Hid (wr = w)) (fun _ kv _ => 18 - (intOf kv).toNat)
      case atStart => exact ⟨2, by omega, by omega, .inl rfl, by rw [upP_two], rfl, hw⟩
      case round =>
        obtain ⟨k, hk2, hk18, hkk, rfl, rfl, hw2⟩ := hrel
        obtain ⟨u, hu⟩ : ∃ u, upP (p + 1) k = u := ⟨_, rfl⟩
        rw [hu]
        by_cases hle : k * k ≤ p + 1
        · have hk17 : k ≤ 17 := by
            rcases Nat.lt_or_ge 17 k with h | h
            · have : 18 * 18 ≤ k * k := Nat.mul_le_mul h h
              omega
            · exact h
          have hsq : (k : Int) * (k : Int) ≤ (p : Int) + 1 := by exact_mod_cast hle
          have hnx := Lib.hid (upP_succ (p := p + 1) hk2)
          have hkn : Hid (k + 1 = 2 ∨ (k + 1 - 1) * (k + 1 - 1) ≤ p + 1) := .inr (by simpa using hle)
          have hb1 : (k : Int) * k ≤ 400 := by omega
          have hb0 : 0 ≤ (k : Int) * k := by exact_mod_cast Nat.zero_le (k * k)
          cases u
          · go_wp2
            go_roundw
            case rel => exact ⟨k + 1, by omega, by omega, hkn, by rw [hnx.out, hu]; rfl, by go_num, hw2⟩
            case measure => simp [intOf]; omega
          · obtain ⟨r, hr⟩ : ∃ r, (p + 1) % k = r := ⟨_, rfl⟩
            have hri : ((p : Int) + 1) % (k : Int) = (r : Int) := by have e := Int.natCast_emod (p + 1) k; rw [hr] at e; rw [e]; rfl
            have htm : Int.tmod ((p : Int) + 1) (k : Int) = (r : Int) := by rw [Int.tmod_eq_emod_of_nonneg (by omega)]; exact hri
            go_wp2
            go_roundw
            case rel => exact ⟨k + 1, by omega, by omega, hkn, by rw [hnx.out, hu, hr]; cases r <;> rfl, by go_num, hw2⟩
            case measure => simp [intOf]; omega
        · have hex := up_exit (p + 1) (by omega) k (by omega) ⟨hkk.out, hk2, by omega, by omega⟩
          rw [hu] at hex
          have HEX := Lib.hid hex
          clear hex
          have hsq : ¬ ((k : Int) * (k : Int) ≤ (p : Int) + 1) := by
            intro h
            exact hle (by exact_mod_cast h)
          have hd : decide ((k : Int) * (k : Int) ≤ (p : Int) + 1) = false := decide_eq_false hsq
          have hb1 : (k : Int) * k ≤ 400 := by
            have : k * k ≤ 18 * 18 := Nat.mul_le_mul hk18 hk18
            have : ((k * k : Nat) : Int) ≤ 400 := by omega
            exact_mod_cast this
          have hb0 : 0 ≤ (k : Int) * k := by exact_mod_cast Nat.zero_le (k * k)
          cases u
          · have hc1 : Hid (cntP (p + 1) = c) := by unfold Hid; rw [HS1.out, ← HEX.out]; rfl
            go_wp2
            go_roundw
            case rel => exact ⟨p + 1, c, hc1, by omega, by omega, by omega, fun h => by omega, by go_num, by go_num, hw2⟩
            case measure => simp [intOf]; omega
          · have hc1 : Hid (cntP (p + 1) = c + 1) := by unfold Hid; rw [HS1.out, ← HEX.out]; rfl
            have hc2 : Hid (c + 1 = n + 1 → primes[n]? = some (p + 1)) := fun h => by
              have e : c = n := by omega
              rw [← e]
              exact HS2.out HEX.out.symm
            go_wp2
            go_roundw
            case rel => exact ⟨p + 1, c + 1, hc1, by omega, by omega, by omega, hc2, by go_num, by go_num, hw2⟩
            case measure => simp [intOf]; omega
    · have hce : c = n + 1 := by omega
      have hpq := hlast.out hce
      rw [hq] at hpq
      injection hpq with hpq
      go_wp2
      go_ret
      exact ⟨by rw [hpq]; rfl, hw.out⟩
end Go.Proofs.YtmmocnokgcgmnaaDoor
