/-
  THE DOCUMENT s Right: a list of items is a record just if "rightB" says so.
-/
import Derived.Test.YtjkibgnkkienbaaShape
namespace Go.Proofs.Ytjkibgnkkienbaa
open Go.RowKit

/-- How an item turns the depth. -/
def step (x : It) (d : Int) : Int := if x.kind = 3 then d + 1 else if x.kind = 4 then d - 1 else d
def rightFrom : Int → List It → Bool
  | d, [] => d == 0
  | d, x :: l => shapeB x && decide (0 ≤ step x d ∧ step x d ≤ 8) && rightFrom (step x d) l
def rightB (l : List It) : Bool := rightFrom 0 l

set_option maxHeartbeats 4000000 in
set_option maxRecDepth 100000 in
theorem right_any (a : Option Addr) (cap : Nat) (l : List It) (hlen : l.length ≤ 140737488351232) (w : World) (hr : RdI w.heap.size w a l) :
    Calls Try.prog 35 #[.slice a l.length cap] w fun e w' => e = .returned (.bool (rightB l)) ∧ Below w.heap.size w w' := by
  have HR := Lib.hid hr
  clear hr
  obtain ⟨R, hR⟩ : ∃ R, rightB l = R := ⟨_, rfl⟩
  rw [hR]
  have HRR : Hid (rightFrom 0 l = R) := hR
  clear hR
  go_enter Try.func35, Try.ntmps35
  go_wp2
  go_loopw [3, 4] (fun dv iv wr => ∃ (k : Nat) (d : Int), k ≤ l.length ∧ 0 ≤ d ∧ d ≤ 8 ∧ Hid (rightFrom d (l.drop k) = R) ∧ dv = .int .i64 d ∧ iv = .int .i64 k ∧ Below w.heap.size w wr) (fun _ iv _ => l.length - (intOf iv).toNat)
  case atStart => exact ⟨0, 0, Nat.zero_le _, by omega, by omega, HRR, rfl, rfl, Below.refl _ _⟩
  case round =>
    obtain ⟨k, d, hk, hd0, hd8, HF, rfl, rfl, hbel⟩ := hrel
    by_cases hlt : k < l.length
    · obtain ⟨b, off, rfl, hb, hc⟩ := HR.out (by omega)
      obtain ⟨x, hx⟩ : ∃ x, l[k]? = some x := ⟨_, List.getElem?_eq_getElem hlt⟩
      obtain ⟨c0, c1, c2, A, c, c3, hxc, hcm, _⟩ := hc k x hx
      have g0 := (hbel.cell (p := ⟨b, off + k * 4, none⟩) hb).trans c0
      have g1 := (hbel.cell (p := ⟨b, off + k * 4 + 1, none⟩) hb).trans c1
      have g2 := (hbel.cell (p := ⟨b, off + k * 4 + 2, none⟩) hb).trans c2
      have g3 := (hbel.cell (p := ⟨b, off + k * 4 + 3, none⟩) hb).trans c3
      have hbs := hbel.size
      have HB := Lib.hid hbel
      have hdrop : l.drop k = x :: l.drop (k + 1) := by
        rw [List.drop_eq_getElem_cons hlt]
        rw [List.getElem?_eq_getElem hlt] at hx
        injection hx with hx
        rw [hx]
      have hxm : x.bs.length ≤ 9223372036854775807 := by unfold maxLen at hcm; omega
      have hsh := shape_any x A c hxm wr
      clear hc c0 c1 c2 c3 hbel hx
      have HD := Lib.hid hdrop
      clear hdrop
      by_cases hs : shapeB x = true
      · rw [hs] at hsh
        have hkk : x.kind = 3 ∨ x.kind = 4 ∨ ((x.kind < 3 ∨ 4 < x.kind)) := by omega
        have hstep : ∀ d', step x d = d' → (0 ≤ d' ∧ d' ≤ 8 → Hid (rightFrom d' (l.drop (k + 1)) = R)) ∧ (¬ (0 ≤ d' ∧ d' ≤ 8) → R = false) := by
          intro d' hd'
          have h := HF.out
          rw [HD.out, rightFrom, hs, hd'] at h
          constructor
          · intro hc
            rw [decide_eq_true hc] at h
            show rightFrom d' (l.drop (k + 1)) = R
            simpa using h
          · intro hc
            rw [decide_eq_false hc] at h
            simpa using h.symm
        have HST := Lib.hid hstep
        have HS := Lib.hid hs
        clear hstep hs
        rcases hkk with hk3 | hk4 | hko
        · have h1 := HST.out (d + 1) (by unfold step; rw [if_pos hk3])
          rw [hk3] at g0 hsh
          by_cases hdd : d + 1 ≤ 8
          · have HN := h1.1 ⟨by omega, hdd⟩
            clear h1
            go_wp2_with (go_at_call 58; refine hsh.mono ?_; rintro e w1 ⟨rfl, hb1⟩; have f0 := (hb1.cell (p := ⟨b, off + k * 4, none⟩) (Nat.lt_of_lt_of_le hb hbs)).trans g0; have H1 := Lib.hid (HB.out.trans (hb1.mono HB.out.size)); clear hb1)
            go_roundw
            case rel => exact ⟨k + 1, d + 1, by omega, by omega, by omega, HN, rfl, by go_num, H1.out⟩
            case measure => simp [intOf]; omega
          · have hRf := h1.2 (by omega)
            clear h1
            subst hRf
            go_wp2_with (go_at_call 58; refine hsh.mono ?_; rintro e w1 ⟨rfl, hb1⟩; have f0 := (hb1.cell (p := ⟨b, off + k * 4, none⟩) (Nat.lt_of_lt_of_le hb hbs)).trans g0; have H1 := Lib.hid (HB.out.trans (hb1.mono HB.out.size)); clear hb1)
            go_ret
            exact ⟨rfl, H1.out⟩
        · have h1 := HST.out (d - 1) (by unfold step; rw [if_neg (by omega), if_pos hk4])
          rw [hk4] at g0 hsh
          by_cases hdd : 0 ≤ d - 1
          · have HN := h1.1 ⟨hdd, by omega⟩
            clear h1
            go_wp2_with (go_at_call 58; refine hsh.mono ?_; rintro e w1 ⟨rfl, hb1⟩; have f0 := (hb1.cell (p := ⟨b, off + k * 4, none⟩) (Nat.lt_of_lt_of_le hb hbs)).trans g0; have H1 := Lib.hid (HB.out.trans (hb1.mono HB.out.size)); clear hb1)
            go_roundw
            case rel => exact ⟨k + 1, d - 1, by omega, by omega, by omega, HN, rfl, by go_num, H1.out⟩
            case measure => simp [intOf]; omega
          · have hRf := h1.2 (by omega)
            clear h1
            subst hRf
            go_wp2_with (go_at_call 58; refine hsh.mono ?_; rintro e w1 ⟨rfl, hb1⟩; have f0 := (hb1.cell (p := ⟨b, off + k * 4, none⟩) (Nat.lt_of_lt_of_le hb hbs)).trans g0; have H1 := Lib.hid (HB.out.trans (hb1.mono HB.out.size)); clear hb1)
            go_ret
            exact ⟨rfl, H1.out⟩
        · have h1 := HST.out d (by unfold step; rw [if_neg (by omega), if_neg (by omega)])
          have HN := h1.1 ⟨hd0, hd8⟩
          clear h1
          have e3 : (x.kind == 3) = false := by simp; omega
          have e4 : (x.kind == 4) = false := by simp; omega
          go_wp2_with (go_at_call 58; refine hsh.mono ?_; rintro e w1 ⟨rfl, hb1⟩; have f0 := (hb1.cell (p := ⟨b, off + k * 4, none⟩) (Nat.lt_of_lt_of_le hb hbs)).trans g0; have H1 := Lib.hid (HB.out.trans (hb1.mono HB.out.size)); clear hb1)
          go_roundw
          case rel => exact ⟨k + 1, d, by omega, by omega, by omega, HN, rfl, by go_num, H1.out⟩
          case measure => simp [intOf]; omega
      · have hs' : shapeB x = false := by simpa using hs
        have hRf : R = false := by
          have h := HF.out
          rw [HD.out, rightFrom, hs'] at h
          simpa using h.symm
        subst hRf
        rw [hs'] at hsh
        clear hs hs'
        go_wp2_with (go_at_call 58; refine hsh.mono ?_; rintro e w1 ⟨rfl, hb1⟩; have f0 := (hb1.cell (p := ⟨b, off + k * 4, none⟩) (Nat.lt_of_lt_of_le hb hbs)).trans g0; have H1 := Lib.hid (HB.out.trans (hb1.mono HB.out.size)); clear hb1)
        go_ret
        exact ⟨rfl, H1.out⟩
    · obtain rfl : k = l.length := by omega
      rw [List.drop_length] at HF
      go_wp2
      go_ret
      exact ⟨by rw [← HF.out]; rfl, hbel⟩
end Go.Proofs.Ytjkibgnkkienbaa
