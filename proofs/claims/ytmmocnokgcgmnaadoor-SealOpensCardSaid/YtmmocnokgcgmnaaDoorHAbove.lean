/-
  THE DOCUMENT: is a number of many digits above another one?
-/
import Derived.Test.YtmmocnokgcgmnaaDoorHTimes
namespace Go.Proofs.YtmmocnokgcgmnaaDoor
open Go.RowKit
theorem val_tail : ∀ (o : List Nat) (n : Nat), (∀ (i d : Nat), n ≤ i → o[i]? = some d → d = 0) → val (o.take n) = val o := by
  intro o
  induction o with
  | nil => intro n _; simp [val]
  | cons x o ih =>
    intro n h
    cases n with
    | zero =>
      have hx := h 0 x (Nat.le_refl _) rfl
      have h0 := ih 0 fun i d _ hd => h (i + 1) d (Nat.zero_le _) (by simpa using hd)
      simp only [List.take_zero, val] at h0 ⊢
      omega
    | succ n =>
      have h1 := ih n fun i d hi hd => h (i + 1) d (by omega) (by simpa using hd)
      simp only [List.take_succ_cons, val, h1]
def aboveN (o : List Nat) (p n : Nat) : Bool := decide (p * 65536 ^ n < val o)
theorem above_high {o : List Nat} {p n i x : Nat} (hp : p < 65536) (hx : o[i]? = some x) (hi : n < i) (h0 : x ≠ 0) : aboveN o p n = true := by
  have h1 := val_ge o i x hx
  have h2 : 65536 ^ (n + 1) ≤ 65536 ^ i := Nat.pow_le_pow_right (by decide) hi
  have h3 : 65536 ^ i * 1 ≤ 65536 ^ i * x := Nat.mul_le_mul_left _ (by omega)
  have h4 : p * 65536 ^ n < 65536 * 65536 ^ n := (Nat.mul_lt_mul_right (Nat.pow_pos (by decide))).2 hp
  rw [Nat.pow_succ, Nat.mul_comm (65536 ^ n)] at h2
  exact decide_eq_true (by omega)
theorem above_mid {o : List Nat} {p n t : Nat} (hb : ∀ d ∈ o, d < 65536) (ht : o[n]? = some t) (hz : ∀ (i d : Nat), n + 1 ≤ i → o[i]? = some d → d = 0) (hne : t ≠ p) : aboveN o p n = decide (p < t) := by
  have h1 := val_tail o (n + 1) hz
  have h2 := val_take o n t ht
  have h3 := val_lt (o.take n) fun d hd => hb d (List.mem_of_mem_take hd)
  have h4 : 65536 ^ (o.take n).length ≤ 65536 ^ n := Nat.pow_le_pow_right (by decide) (List.length_take_le _ _)
  unfold aboveN
  obtain ⟨P, hP⟩ : ∃ P, 65536 ^ n = P := ⟨_, rfl⟩
  rw [hP] at h2 h4 ⊢
  by_cases hlt : p < t
  · have h5 : P * (p + 1) ≤ P * t := Nat.mul_le_mul_left _ hlt
    rw [Nat.mul_add, Nat.mul_comm P p] at h5
    have hP0 : 0 < P := by rw [← hP]; exact Nat.pow_pos (by decide)
    rw [decide_eq_true hlt]
    exact decide_eq_true (by omega)
  · have h5 : P * (t + 1) ≤ P * p := Nat.mul_le_mul_left _ (by omega)
    rw [Nat.mul_add, Nat.mul_comm P p] at h5
    rw [decide_eq_false hlt]
    exact decide_eq_false (by omega)
theorem above_low {o : List Nat} {p n i x : Nat} (ht : o[n]? = some p) (hi : i < n) (hx : o[i]? = some x) (h0 : x ≠ 0) : aboveN o p n = true := by
  have h2 := val_take o n p ht
  have h3 := val_take_le o (n + 1)
  have h4 := val_ge (o.take n) i x (by rw [List.getElem?_take, if_pos hi]; exact hx)
  have h5 : 0 < 65536 ^ i * x := Nat.mul_pos (Nat.pow_pos (by decide)) (by omega)
  rw [Nat.mul_comm (65536 ^ n)] at h2
  exact decide_eq_true (by omega)
theorem above_not {o : List Nat} {p n : Nat} (ht : o[n]? = some p) (hz : ∀ (i d : Nat), n + 1 ≤ i → o[i]? = some d → d = 0) (hl : ∀ (i d : Nat), i < n → o[i]? = some d → d = 0) : aboveN o p n = false := by
  have h1 := val_tail o (n + 1) hz
  have h2 := val_take o n p ht
  have h3 : val (o.take n) = 0 := by
    have h := val_tail (o.take n) 0 fun i d _ hd => by
      rw [List.getElem?_take] at hd
      split at hd
      · exact hl i d (by assumption) hd
      · cases hd
    simpa [val] using h.symm
  rw [Nat.mul_comm (65536 ^ n)] at h2
  exact decide_eq_false (by omega)
set_option maxHeartbeats 1600000 in
set_option maxRecDepth 100000 in
theorem above_any (g cap : Nat) (o : List Nat) (hb : ∀ d ∈ o, d < 65536) (hl : o.length ≤ 100) (p n : Nat) (hp : p < 65536) (hn : n < o.length) (w : World) (t1 : TypeId) (ra : List Nat) (hA : Arr w g t1 (i64s (o ++ ra))) :
    Calls Tryd.prog 46 #[.slice (some ⟨g, 0, none⟩) o.length cap, .int .i64 p, .int .i64 n] w fun e w' => e = .returned (.bool (aboveN o p n)) ∧ w' = w := by
  obtain ⟨R, hR⟩ : ∃ R, aboveN o p n = R := ⟨_, rfl⟩
  rw [hR]
  have HR : Hid (Unit → aboveN o p n = R) := fun _ => hR
  clear hR
  have HA := Lib.hid hA
  obtain ⟨L, hL⟩ : ∃ L, o.length = L := ⟨_, rfl⟩
  have HLn := Lib.hid hL
  rw [hL] at hl hn ⊢
  have hcell : ∀ i : Nat, i < L → ∃ x, o[i]? = some x ∧ x < 65536 ∧ w.cell? ⟨g, i, none⟩ = some (.int .i64 x) := fun i hi => by
    obtain ⟨x, hx⟩ : ∃ x, o[i]? = some x := ⟨_, List.getElem?_eq_getElem (by omega)⟩
    exact ⟨x, hx, hb x (List.mem_of_getElem? hx), by rw [HA.out.cell]; exact i64s_get (by rw [List.getElem?_append_left (by omega)]; exact hx)⟩
  have HC := Lib.hid hcell
  have HBo := Lib.hid hb
  clear hcell hL hA hb
  go_enter Tryd.func46, Tryd.ntmps46
  go_wp2
  go_loopw [7] (fun iv wr => ∃ i : Nat, n ≤ i ∧ i < L ∧ iv = .int .i64 i ∧ Hid (∀ (j d : Nat), i + 1 ≤ j → o[j]? = some d → d = 0) ∧ Hid (wr = w)) (fun iv _ => (intOf iv).toNat)
  case atStart => exact ⟨L - 1, by omega, by omega, by congr 1; omega, fun j d hj hd => by have := (List.getElem?_eq_some_iff.1 hd).1; have := HLn.out; omega, rfl⟩
  case round =>
    obtain ⟨i, hni, hiL, rfl, HZ, hw⟩ := hrel
    obtain ⟨x, hx, hx16, hc⟩ := HC.out i hiL
    have hcw : wr.cell? ⟨g, i, none⟩ = some (.int .i64 x) := by rw [hw.out]; exact hc
    have HX := Lib.hid hx
    clear hx hc
    by_cases hin : n < i
    · by_cases h0 : x = 0
      · have HZ2 : Hid (∀ (j d : Nat), i - 1 + 1 ≤ j → o[j]? = some d → d = 0) := fun j d hj hd => by
          by_cases hji : j = i
          · subst hji; rw [HX.out] at hd; cases hd; exact h0
          · exact HZ.out j d (by omega) hd
        subst h0
        go_wp2
        go_roundw
        case rel => exact ⟨i - 1, by omega, by omega, by congr 1; omega, HZ2, hw⟩
        case measure => simp [intOf]; omega
      · have h0i : ¬ ((x : Int) = 0) := by omega
        have hRt := above_high hp HX.out hin h0
        rw [HR.out ()] at hRt
        subst hRt
        go_wp2
        go_ret
        exact ⟨rfl, hw.out⟩
    · obtain rfl : i = n := by omega
      by_cases hxp : x = p
      · subst hxp
        go_wp2
        go_loopw [8] (fun iv wr => ∃ j : Nat, j ≤ i ∧ iv = .int .i64 ((j : Int) - 1) ∧ Hid (∀ (k d : Nat), j ≤ k → k < i → o[k]? = some d → d = 0) ∧ Hid (wr = w)) (fun iv _ => (intOf iv + 1).toNat)
        case atStart => exact ⟨i, Nat.le_refl _, rfl, fun k d h1 h2 _ => by omega, hw⟩
        case round =>
          obtain ⟨j, hj, rfl, HLo, hw2⟩ := hrel
          by_cases hj0 : 0 < j
          · obtain ⟨m, rfl⟩ : ∃ m, j = m + 1 := ⟨j - 1, by omega⟩
            obtain ⟨y, hy, _, hcy⟩ := HC.out m (by omega)
            have hcw2 : wr.cell? ⟨g, m, none⟩ = some (.int .i64 y) := by rw [hw2.out]; exact hcy
            have HY := Lib.hid hy
            clear hy hcy
            rw [show (((m + 1 : Nat) : Int) - 1) = (m : Int) by omega]
            by_cases h0 : y = 0
            · have HL2 : Hid (∀ (k d : Nat), m ≤ k → k < i → o[k]? = some d → d = 0) := fun k d h1 h2 hd => by
                by_cases hkm : k = m
                · subst hkm; rw [HY.out] at hd; cases hd; exact h0
                · exact HLo.out k d (by omega) h2 hd
              subst h0
              go_wp2
              go_roundw
              case rel => exact ⟨m, by omega, rfl, HL2, hw2⟩
              case measure => simp [intOf]
            · have h0i : ¬ ((y : Int) = 0) := by omega
              have hRt := above_low HX.out (show m < i by omega) HY.out h0
              rw [HR.out ()] at hRt
              subst hRt
              go_wp2
              go_ret
              exact ⟨rfl, hw2.out⟩
          · obtain rfl : j = 0 := by omega
            have hRt := above_not HX.out HZ.out fun k d hk hd => HLo.out k d (Nat.zero_le _) hk hd
            rw [HR.out ()] at hRt
            subst hRt
            rw [show (((0 : Nat) : Int) - 1) = -1 from rfl]
            go_wp2
            go_ret
            exact ⟨rfl, hw2.out⟩
      · have hxi : ¬ ((x : Int) = (p : Int)) := by omega
        have hRt := above_mid HBo.out HX.out HZ.out hxp
        rw [HR.out ()] at hRt
        have HRT := Lib.hid hRt
        clear hRt
        go_wp2
        go_ret
        refine ⟨?_, hw.out⟩
        rw [HRT.out]
        rfl
end Go.Proofs.YtmmocnokgcgmnaaDoor
