/-
  THE DOCUMENT s end: the place behind the field that begins at one.
-/
import Derived.Test.YteelknmafnoccaaRight
namespace Go.Proofs.Yteelknmafnoccaa
open Go.RowKit

/-- The place behind the field that begins at i, where the depth is d. -/
def endFrom : Int → Nat → List It → Nat
  | _, i, [] => i
  | d, i, x :: l => if step x d = 0 then i + 1 else endFrom (step x d) (i + 1) l
def endAt (l : List It) (i : Nat) : Nat := endFrom 0 i (l.drop i)

set_option maxHeartbeats 4000000 in
set_option maxRecDepth 100000 in
theorem end_any (a : Option Addr) (cap : Nat) (l : List It) (at_ : Nat) (hat : at_ ≤ l.length) (hlen : l.length ≤ 1000000) (w : World) (hr : RdI w.heap.size w a l) :
    Calls Try.prog 32 #[.slice a l.length cap, .int .i64 at_] w fun e w' => e = .returned (.int .i64 (endAt l at_ : Nat)) ∧ w = w' := by
  have HR := Lib.hid hr
  clear hr
  obtain ⟨R, hR⟩ : ∃ R, endAt l at_ = R := ⟨_, rfl⟩
  rw [hR]
  have HRR : Hid (endFrom 0 at_ (l.drop at_) = R) := hR
  clear hR
  go_enter Try.func32, Try.ntmps32
  go_wp2
  go_loop [5, 6] (fun dv iv => ∃ (k : Nat) (d : Int), k ≤ l.length ∧ -(k : Int) ≤ d ∧ d ≤ k ∧ Hid (endFrom d k (l.drop k) = R) ∧ dv = .int .i64 d ∧ iv = .int .i64 k) (fun _ iv => l.length - (intOf iv).toNat)
  case atStart => exact ⟨at_, 0, hat, by omega, by omega, HRR, rfl, rfl⟩
  case round =>
    obtain ⟨k, d, hk, hd0, hd8, HF, rfl, rfl⟩ := hrel
    by_cases hlt : k < l.length
    · obtain ⟨b, off, rfl, hb, hc⟩ := HR.out (by omega)
      obtain ⟨x, hx⟩ : ∃ x, l[k]? = some x := ⟨_, List.getElem?_eq_getElem hlt⟩
      obtain ⟨g0, _⟩ := hc k x hx
      have hdrop : l.drop k = x :: l.drop (k + 1) := by
        rw [List.drop_eq_getElem_cons hlt]
        rw [List.getElem?_eq_getElem hlt] at hx
        injection hx with hx
        rw [hx]
      have hstep : ∀ d', step x d = d' → (d' = 0 → R = k + 1) ∧ (¬ d' = 0 → Hid (endFrom d' (k + 1) (l.drop (k + 1)) = R)) := by
        intro d' hd'
        have h := HF.out
        rw [hdrop, endFrom, hd'] at h
        constructor
        · intro hc
          rw [if_pos hc] at h
          exact h.symm
        · intro hc
          rw [if_neg hc] at h
          exact h
      have HST := Lib.hid hstep
      clear hc hx hdrop hstep
      have hkk : x.kind = 3 ∨ x.kind = 4 ∨ ((x.kind < 3 ∨ 4 < x.kind)) := by omega
      rcases hkk with hk3 | hk4 | hko
      · have h1 := HST.out (d + 1) (by unfold step; rw [if_pos hk3])
        rw [hk3] at g0
        by_cases hdd : d + 1 = 0
        · have hRf := h1.1 hdd
          clear h1
          subst hRf
          obtain rfl : d = -1 := by omega
          go_wp2
          go_ret
          exact ⟨rfl, rfl⟩
        · have HN := h1.2 hdd
          clear h1
          have ez : (d + 1 == 0) = false := by simp; omega
          go_wp2
          go_round
          case rel => exact ⟨k + 1, d + 1, by omega, by omega, by omega, HN, rfl, by go_num⟩
          case measure => simp [intOf]; omega
      · have h1 := HST.out (d - 1) (by unfold step; rw [if_neg (by omega), if_pos hk4])
        rw [hk4] at g0
        by_cases hdd : d - 1 = 0
        · have hRf := h1.1 hdd
          clear h1
          subst hRf
          obtain rfl : d = 1 := by omega
          go_wp2
          go_ret
          exact ⟨rfl, rfl⟩
        · have HN := h1.2 hdd
          clear h1
          have ez : (d - 1 == 0) = false := by simp; omega
          go_wp2
          go_round
          case rel => exact ⟨k + 1, d - 1, by omega, by omega, by omega, HN, rfl, by go_num⟩
          case measure => simp [intOf]; omega
      · have h1 := HST.out d (by unfold step; rw [if_neg (by omega), if_neg (by omega)])
        have e3 : (x.kind == 3) = false := by simp; omega
        have e4 : (x.kind == 4) = false := by simp; omega
        by_cases hdd : d = 0
        · have hRf := h1.1 hdd
          clear h1
          subst hRf
          subst hdd
          go_wp2
          go_ret
          exact ⟨rfl, rfl⟩
        · have HN := h1.2 hdd
          clear h1
          have ez : (d == 0) = false := by simpa using hdd
          go_wp2
          go_round
          case rel => exact ⟨k + 1, d, by omega, by omega, by omega, HN, rfl, by go_num⟩
          case measure => simp [intOf]; omega
    · obtain rfl : k = l.length := by omega
      rw [List.drop_length] at HF
      have hRf : R = l.length := HF.out.symm
      subst hRf
      go_wp2
      go_ret
      exact ⟨rfl, rfl⟩
end Go.Proofs.Yteelknmafnoccaa
