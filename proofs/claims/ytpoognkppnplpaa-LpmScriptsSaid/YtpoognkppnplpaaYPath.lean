/-
  THE WAY TO AN ADDRESS, and what lies within a net: by bits.
-/
import Derived.Test.YtpoognkppnplpaaYMath
namespace Go.Proofs.Ytpoognkppnplpaa
set_option linter.unusedVariables false
set_option linter.unusedSimpArgs false
def cutN (a d : Nat) : Nat := a - a % 2 ^ (32 - d)
def kid (net d i : Nat) : Nat := net + i * 2 ^ (31 - d)
def bitN (a d : Nat) : Nat := if d < 32 then a / 2 ^ (31 - d) % 2 else 0
theorem sizeP_nat (d : Nat) : sizeP (d : Int) = 2 ^ (32 - d) := by unfold sizeP; rw [Int.toNat_natCast]
theorem pow_half {d : Nat} (h : d < 32) : 2 ^ (32 - d) = 2 ^ (31 - d) * 2 := by rw [← Nat.pow_succ]; congr 1; omega
theorem bitN_lt (a d : Nat) : bitN a d < 2 := by unfold bitN; split <;> omega
theorem cut_kid (a : Nat) {d : Nat} (h : d < 32) : cutN a (d + 1) = kid (cutN a d) d (bitN a d) := by
  unfold cutN kid bitN
  rw [if_pos h, show 32 - (d + 1) = 31 - d by omega, pow_half h, Nat.mod_mul]
  generalize 2 ^ (31 - d) = H
  have h1 := Nat.mod_lt (a / H) (show 0 < 2 by decide)
  have h2 := Nat.div_add_mod a H
  have h3 := Nat.div_add_mod (a / H) 2
  generalize a / H % 2 = B at *
  generalize a % H = R at *
  have h4 : H * B ≤ H * (a / H) := Nat.mul_le_mul_left _ (by omega)
  rw [Nat.mul_comm B H]
  omega
theorem cut_le (a d : Nat) : cutN a d ≤ a := Nat.sub_le _ _
theorem cut_zero {a : Nat} (ha : a < 4294967296) : cutN a 0 = 0 := by
  unfold cutN
  rw [Nat.mod_eq_of_lt (by simpa using ha)]
  omega
theorem cut_mono (a : Nat) {d e : Nat} (h : d ≤ e) : cutN a d ≤ cutN a e := by
  unfold cutN
  have hd : 2 ^ (32 - e) ∣ 2 ^ (32 - d) := Nat.pow_dvd_pow 2 (by omega)
  have h1 : a % 2 ^ (32 - d) % 2 ^ (32 - e) = a % 2 ^ (32 - e) := Nat.mod_mod_of_dvd a hd
  have h2 := Nat.mod_le (a % 2 ^ (32 - d)) (2 ^ (32 - e))
  have h3 := Nat.mod_le a (2 ^ (32 - d))
  omega
theorem cut_cut (a : Nat) {d e : Nat} (h : d ≤ e) : cutN (cutN a e) d = cutN a d := by
  unfold cutN
  have hd : 2 ^ (32 - e) ∣ 2 ^ (32 - d) := Nat.pow_dvd_pow 2 (by omega)
  obtain ⟨c, hc⟩ := hd
  have hp : 0 < 2 ^ (32 - e) := Nat.two_pow_pos _
  generalize 2 ^ (32 - e) = E at *
  rw [hc, Nat.mod_mul]
  have h1 := Nat.div_add_mod a E
  have e1 : a - a % E = E * (a / E) := by omega
  have e2 : (a - a % E) % E = 0 := by rw [e1]; simp
  have e3 : (a - a % E) / E = a / E := by rw [e1, Nat.mul_div_cancel_left _ hp]
  rw [Nat.mod_mul, e2, e3]
  have h2 := Nat.mod_le (a / E) c
  have h3 : E * (a / E % c) ≤ E * (a / E) := Nat.mul_le_mul_left _ h2
  omega
theorem cut_mod (a d : Nat) : cutN a d % 2 ^ (32 - d) = 0 := by
  unfold cutN
  have h1 := Nat.div_add_mod a (2 ^ (32 - d))
  have e1 : a - a % 2 ^ (32 - d) = 2 ^ (32 - d) * (a / 2 ^ (32 - d)) := by omega
  rw [e1]; simp
theorem cut_self {n d : Nat} (h : n % 2 ^ (32 - d) = 0) : cutN n d = n := by unfold cutN; omega
theorem right_nat {n d : Nat} : rightP (n, (d : Int)) = true ↔ d ≤ 32 ∧ n % 2 ^ (32 - d) = 0 := by
  unfold rightP rightB
  simp only [Bool.and_eq_true, decide_eq_true_eq, sizeP_nat]
  omega
theorem right_cases {p : Nat × Int} (h : rightP p = true) : ∃ d : Nat, p = (p.1, (d : Int)) ∧ d ≤ 32 ∧ p.1 % 2 ^ (32 - d) = 0 := by
  obtain ⟨n, b⟩ := p
  have hb : 0 ≤ b ∧ b ≤ 32 := by
    unfold rightP rightB at h
    simp only [Bool.and_eq_true, decide_eq_true_eq] at h
    exact h.1
  obtain ⟨d, rfl⟩ : ∃ d : Nat, b = d := ⟨b.toNat, by omega⟩
  exact ⟨d, rfl, right_nat.1 h⟩
theorem in_nat {n d : Nat} (h : rightP (n, (d : Int)) = true) (a : Nat) : inP (n, (d : Int)) a = true ↔ cutN a d = n := by
  unfold inP
  rw [h, Bool.true_and, decide_eq_true_eq, sizeP_nat]
  rfl
theorem in_alt2 {n d : Nat} (h : rightP (n, (d : Int)) = true) (a : Nat) : inP (n, (d : Int)) a = true ↔ n ≤ a ∧ a < n + 2 ^ (32 - d) := by
  rw [in_nat h]
  have hr := (right_nat.1 h).2
  have hp : 0 < 2 ^ (32 - d) := Nat.two_pow_pos _
  unfold cutN
  generalize 2 ^ (32 - d) = S at *
  have h1 := Nat.div_add_mod a S
  have h2 := Nat.mod_lt a hp
  obtain ⟨k, hk⟩ : ∃ k, n = S * k := ⟨n / S, by have := Nat.div_add_mod n S; omega⟩
  constructor
  · omega
  · rintro ⟨h3, h4⟩
    have h5 : a / S = k := by
      have e3 : k ≤ a / S := (Nat.le_div_iff_mul_le hp).2 (by rw [Nat.mul_comm]; omega)
      have e4 : a / S < k + 1 := Nat.div_lt_of_lt_mul (by rw [Nat.mul_succ]; omega)
      omega
    rw [h5] at h1
    omega
theorem covers_nat {n d m e : Nat} (h : rightP (n, (d : Int)) = true) (k : rightP (m, (e : Int)) = true) : coversP (n, (d : Int)) (m, (e : Int)) = true ↔ d ≤ e ∧ n ≤ m ∧ m < n + 2 ^ (32 - d) := by
  unfold coversP
  rw [k, Bool.true_and, Bool.and_eq_true, in_alt2 h, decide_eq_true_eq]
  simp only
  omega
/-- What is known on the way to an address, in less than so many bits. -/
def wayL (L : List Ent) (a d : Nat) : List Ent := L.filter fun x => inP x.1 a && decide (x.1.2 < (d : Int))
theorem wayL_zero {L : List Ent} (h : Good L) (a : Nat) : wayL L a 0 = [] := by
  unfold wayL
  rw [List.filter_eq_nil_iff]
  intro x hx
  obtain ⟨d, e, _⟩ := right_cases (h.right x hx).1
  rw [e]
  simp
theorem wayL_succ {L : List Ent} (h : Good L) (a : Nat) {d : Nat} (hd : d ≤ 32) : wayL L a (d + 1) = wayL L a d ++ entL L (cutN a d, (d : Int)) := by
  unfold wayL
  rw [← entL_eq h.rises, ← filter_two h.rises]
  · refine List.filter_congr fun x hx => ?_
    obtain ⟨e, he, h1, h2⟩ := right_cases (h.right x hx).1
    have hr := (h.right x hx).1
    generalize x.1 = p at *
    obtain ⟨n, b⟩ := p
    simp only [Prod.mk.injEq] at he
    obtain ⟨_, rfl⟩ := he
    rw [Bool.eq_iff_iff]
    simp only [Bool.and_eq_true, Bool.or_eq_true, decide_eq_true_eq, Prod.mk.injEq, in_nat hr]
    constructor
    · rintro ⟨h3, h4⟩
      by_cases hl : (e : Int) < d
      · exact .inl ⟨h3, hl⟩
      · obtain rfl : e = d := by omega
        exact .inr ⟨h3.symm, rfl⟩
    · rintro (⟨h3, h4⟩ | ⟨h3, h4⟩)
      · exact ⟨h3, by omega⟩
      · obtain rfl : e = d := by omega
        exact ⟨h3.symm, by omega⟩
  · intro x hx y hy hq hp hl
    obtain ⟨e, he, h1, h2⟩ := right_cases (h.right y hy).1
    have hr := (h.right y hy).1
    rw [decide_eq_true_eq] at hq
    rw [hq] at hl
    rw [he] at hl hp hr
    simp only [Bool.and_eq_true, decide_eq_true_eq, in_nat hr] at hp
    have hm := cut_mono a (show e ≤ d by omega)
    unfold lessP at hl
    simp only at hl
    omega
  · intro x hx hp
    simp only [Bool.and_eq_true, decide_eq_true_eq] at hp
    rw [decide_eq_false_iff_not]
    intro e
    rw [e] at hp
    simp only at hp
    omega
theorem wayL_all {L : List Ent} {a d : Nat} (h : ∀ x ∈ L, inP x.1 a = true → x.1.2 < (d : Int)) : wayL L a d = onL a L := by
  unfold wayL onL
  refine List.filter_congr fun x hx => ?_
  cases hi : inP x.1 a
  · rfl
  · simp [h x hx hi]
/-- What is known within a net. -/
def subL (L : List Ent) (n d : Nat) : List Ent := L.filter fun x => coversP (n, (d : Int)) x.1
theorem subL_root {L : List Ent} (h : Good L) : subL L 0 0 = L := by
  unfold subL
  rw [List.filter_eq_self]
  intro x hx
  obtain ⟨d, e, h1, h2⟩ := right_cases (h.right x hx).1
  have hr := (h.right x hx).1
  have hl := (h.right x hx).2
  rw [e] at hr ⊢
  rw [covers_nat (right_nat.2 ⟨by omega, by simp⟩) hr]
  exact ⟨by omega, by omega, by simpa using hl⟩
theorem kid_right {n d i : Nat} (h : rightP (n, (d : Int)) = true) (hd : d < 32) (hi : i < 2) : rightP (kid n d i, ((d + 1 : Nat) : Int)) = true := by
  have h1 := (right_nat.1 h).2
  refine right_nat.2 ⟨by omega, ?_⟩
  unfold kid
  rw [show 32 - (d + 1) = 31 - d by omega]
  rw [pow_half hd] at h1
  generalize 2 ^ (31 - d) = H at *
  have h2 : n % H = 0 := by
    have := Nat.mod_mul (a := H) (b := 2) (x := n)
    omega
  rw [Nat.add_mul_mod_self_right, h2]
theorem kid_lt {n d i : Nat} (h : rightP (n, (d : Int)) = true) (hn : n < 4294967296) (hd : d < 32) (hi : i < 2) : kid n d i < 4294967296 := by
  have h1 := (right_nat.1 h).2
  unfold kid
  rw [pow_half hd] at h1
  have h3 : 2 ^ (31 - d) * 2 * 2 ^ d = 4294967296 := by
    rw [← pow_half hd, ← Nat.pow_add, show 32 - d + d = 32 by omega]
  have hp : 0 < 2 ^ (31 - d) := Nat.two_pow_pos _
  generalize 2 ^ (31 - d) = H at *
  generalize 2 ^ d = D at *
  obtain ⟨k, hk⟩ : ∃ k, n = H * 2 * k := ⟨n / (H * 2), by have := Nat.div_add_mod n (H * 2); omega⟩
  have hkD : k < D := by
    refine Nat.lt_of_mul_lt_mul_left (a := H * 2) ?_
    omega
  have h4 : H * 2 * (k + 1) ≤ H * 2 * D := Nat.mul_le_mul_left _ hkD
  rw [Nat.mul_add] at h4
  have h5 : i * H ≤ 1 * H := Nat.mul_le_mul_right _ (by omega)
  omega
theorem subL_leaf {L : List Ent} (h : Good L) {n : Nat} (hr : rightP (n, ((32 : Nat) : Int)) = true) : subL L n 32 = entL L (n, ((32 : Nat) : Int)) := by
  unfold subL
  rw [← entL_eq h.rises]
  refine List.filter_congr fun x hx => ?_
  obtain ⟨e, he, h1, h2⟩ := right_cases (h.right x hx).1
  have hx' := (h.right x hx).1
  generalize x.1 = p at *
  obtain ⟨m, b⟩ := p
  simp only [Prod.mk.injEq] at he
  obtain ⟨_, rfl⟩ := he
  rw [Bool.eq_iff_iff, covers_nat hr hx', decide_eq_true_eq, Prod.mk.injEq]
  simp
  omega
theorem subL_split {L : List Ent} (h : Good L) {n d : Nat} (hr : rightP (n, (d : Int)) = true) (hd : d < 32) : subL L n d = entL L (n, (d : Int)) ++ (subL L (kid n d 0) (d + 1) ++ subL L (kid n d 1) (d + 1)) := by
  unfold subL
  have k0 := kid_right hr hd (show 0 < 2 by decide)
  have k1 := kid_right hr hd (show 1 < 2 by decide)
  have hp : 0 < 2 ^ (31 - d) := Nat.two_pow_pos _
  have hk0 : kid n d 0 = n := by unfold kid; omega
  have hk1 : kid n d 1 = n + 2 ^ (31 - d) := by unfold kid; omega
  have hn := (right_nat.1 hr).2
  have hs : 32 - (d + 1) = 31 - d := by omega
  have cov : ∀ x ∈ L, ∃ m e : Nat, x.1 = (m, (e : Int)) ∧ rightP (m, (e : Int)) = true ∧ e ≤ 32 ∧ m % 2 ^ (32 - e) = 0 := fun x hx => by
    obtain ⟨e, he, h1, h2⟩ := right_cases (h.right x hx).1
    exact ⟨_, e, he, by rw [← he]; exact (h.right x hx).1, h1, h2⟩
  rw [← entL_eq h.rises, ← filter_two h.rises (fun x => coversP (kid n d 0, ((d + 1 : Nat) : Int)) x.1), ← filter_two h.rises]
  · refine List.filter_congr fun x hx => ?_
    obtain ⟨m, e, he, hx', h1, h2⟩ := cov x hx
    rw [he, Bool.eq_iff_iff]
    simp only [Bool.or_eq_true, covers_nat hr hx', covers_nat k0 hx', covers_nat k1 hx', decide_eq_true_eq, Prod.mk.injEq]
    rw [hk0, hk1, hs, pow_half hd]
    rw [pow_half hd] at hn
    constructor
    · rintro ⟨h3, h4, h5⟩
      by_cases hed : e = d
      · subst hed
        rw [pow_half hd] at h2
        left
        refine ⟨?_, rfl⟩
        generalize 2 ^ (31 - e) * 2 = S at *
        obtain ⟨k, hk⟩ : ∃ k, n = S * k := ⟨n / S, by have := Nat.div_add_mod n S; omega⟩
        obtain ⟨j, hj⟩ : ∃ j, m = S * j := ⟨m / S, by have := Nat.div_add_mod m S; omega⟩
        have hS : 0 < S := by omega
        have hjk : j < k + 1 := Nat.lt_of_mul_lt_mul_left (a := S) (by rw [Nat.mul_add]; omega)
        have hkj : k ≤ j := Nat.le_of_mul_le_mul_left (by omega : S * k ≤ S * j) hS
        rw [hk, hj, show j = k by omega]
      · right
        by_cases hm : m < n + 2 ^ (31 - d)
        · left; omega
        · right; omega
    · rintro (⟨h3, h4⟩ | ⟨h3, h4, h5⟩ | ⟨h3, h4, h5⟩)
      · omega
      · omega
      · omega
  · intro x hx y hy hq hpp hl
    obtain ⟨m, e, he, hx', h1, h2⟩ := cov x hx
    rw [decide_eq_true_eq] at hpp
    rw [he] at hq hl
    rw [hpp] at hl
    simp only [Bool.or_eq_true, covers_nat k0 hx', covers_nat k1 hx'] at hq
    rw [hk0, hk1] at hq
    unfold lessP at hl
    simp only at hl
    omega
  · intro x hx hpp
    rw [decide_eq_true_eq] at hpp
    have hrx := hr
    rw [hpp, Bool.or_eq_false_iff]
    constructor
    · rw [Bool.eq_false_iff, Ne, covers_nat k0 hr]; omega
    · rw [Bool.eq_false_iff, Ne, covers_nat k1 hr]; omega
  · intro x hx y hy hq hpp hl
    obtain ⟨m, e, he, hx', h1, h2⟩ := cov x hx
    obtain ⟨m', e', he', hy', h1', h2'⟩ := cov y hy
    rw [he] at hq hl
    rw [he'] at hpp hl
    rw [covers_nat k1 hx', hk1] at hq
    rw [covers_nat k0 hy', hk0, hs] at hpp
    unfold lessP at hl
    simp only at hl
    omega
  · intro x hx hpp
    obtain ⟨m, e, he, hx', h1, h2⟩ := cov x hx
    rw [he] at hpp ⊢
    rw [covers_nat k0 hx', hk0, hs] at hpp
    rw [Bool.eq_false_iff, Ne, covers_nat k1 hx', hk1]
    omega
end Go.Proofs.Ytpoognkppnplpaa
