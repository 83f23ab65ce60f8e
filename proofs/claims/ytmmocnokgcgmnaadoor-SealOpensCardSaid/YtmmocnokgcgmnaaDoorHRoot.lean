/-
  THE DOCUMENT: the first 32 bits of the fractional part of a root.
-/
import Derived.Test.YtmmocnokgcgmnaaDoorHAbove
namespace Go.Proofs.YtmmocnokgcgmnaaDoor
open Go.RowKit
/-- The root, before its whole part is cut off. -/
def IsRoot (p pw x : Nat) : Prop := x ^ pw ≤ p * 65536 ^ (2 * pw) ∧ p * 65536 ^ (2 * pw) < (x + 1) ^ pw
theorem val3 {y : Nat} (_ : y < 137438953472) : val [y % 65536, y / 65536 % 65536, y / 65536 / 65536] = y := by
  simp only [val]
  omega
set_option maxHeartbeats 1600000 in
set_option maxRecDepth 100000 in
theorem root_any (p pw : Nat) (hp : p ≤ 311) (hpw : pw = 2 ∨ pw = 3) (w : World) :
    Calls Tryd.prog 43 #[.int .i64 p, .int .i64 pw] w fun e w' => (∃ x, IsRoot p pw x ∧ e = .returned (.int .u32 (x % 4294967296 : Nat))) ∧ Below w.heap.size w w' := by
  obtain ⟨PP, hPP⟩ : ∃ PP, p * 65536 ^ (2 * pw) = PP := ⟨_, rfl⟩
  have hst : PP < (0 + 2 ^ 37) ^ pw := by
    rw [← hPP]
    rcases hpw with rfl | rfl
    · have : p * 65536 ^ (2 * 2) ≤ 311 * 65536 ^ (2 * 2) := Nat.mul_le_mul_right _ hp
      exact Nat.lt_of_le_of_lt this (by decide)
    · have : p * 65536 ^ (2 * 3) ≤ 311 * 65536 ^ (2 * 3) := Nat.mul_le_mul_right _ hp
      exact Nat.lt_of_le_of_lt this (by decide)
  have hs0 : 0 ^ pw ≤ PP := by rcases hpw with rfl | rfl <;> simp
  have HPP := Lib.hid hPP
  have HST := Lib.hid hst
  have HS0 := Lib.hid hs0
  clear hPP hst hs0
  go_enter Tryd.func43, Tryd.ntmps43
  go_wp2
  go_loopw [5, 6] (fun xv bv wr => ∃ (x j : Nat), j ≤ 37 ∧ xv = .int .i64 x ∧ bv = .int .i64 ((j : Int) - 1) ∧ x + 2 ^ j ≤ 137438953472 ∧ Hid (x ^ pw ≤ PP ∧ PP < (x + 2 ^ j) ^ pw) ∧ Hid (Below w.heap.size w wr)) (fun _ bv _ => (intOf bv + 1).toNat)
  case atStart => exact ⟨0, 37, by omega, rfl, rfl, by decide, ⟨HS0.out, HST.out⟩, Below.refl _ _⟩
  case round =>
    obtain ⟨x, j, hj, rfl, rfl, hx, HX, HB⟩ := hrel
    by_cases hj0 : 0 < j
    · obtain ⟨m, rfl⟩ : ∃ m, j = m + 1 := ⟨j - 1, by omega⟩
      obtain ⟨q, hq⟩ : ∃ q, 2 ^ m = q := ⟨_, rfl⟩
      have hq2 : 2 ^ (m + 1) = 2 * q := by rw [Nat.pow_succ, hq]; omega
      rw [hq2] at hx HX
      have hqi : (2 : Int) ^ m = (q : Int) := by rw [← hq]; exact (Int.natCast_pow 2 m).symm
      rw [show (((m + 1 : Nat) : Int) - 1) = (m : Int) by omega]
      have HQ := Lib.hid hq
      clear hq hq2
      go_wp2
      obtain ⟨D, hD⟩ : ∃ D, wr.heap.size = D := ⟨_, rfl⟩
      obtain ⟨y, hy⟩ : ∃ y, x + q = y := ⟨_, rfl⟩
      have hy37 : y < 137438953472 := by have hq0 : 0 < q := by rw [← HQ.out]; exact Nat.pow_pos (by decide)
                                         omega
      have hyi : (x : Int) + (q : Int) = (y : Int) := by omega
      obtain ⟨dg, hdg⟩ : ∃ dg, [y % 65536, y / 65536 % 65536, y / 65536 / 65536] = dg := ⟨_, rfl⟩
      have hdv : val dg = y := by rw [← hdg]; exact val3 hy37
      have hdl : dg.length = 3 := by rw [← hdg]; rfl
      have hdb : ∀ d ∈ dg, d < 65536 := by
        rw [← hdg]
        intro d hd
        simp only [List.mem_cons, List.not_mem_nil, or_false] at hd
        omega
      have ADG : Hid (Arr (wr.alloc (.cells #[.int .i64 ((y : Int) % 65536), .int .i64 ((y : Int) / 65536 % 65536), .int .i64 ((y : Int) / 65536 / 65536)] 3)) D 3 (i64s dg)) := by
        rw [← hD, ← hdg]
        have h := Arr.new wr 3 (i64s [y % 65536, y / 65536 % 65536, y / 65536 / 65536])
        simpa [i64s, Hid] using h
      have hszD := HB.out.size
      have BD := Lib.hid (HB.out.alloc HB.out.size (.cells #[.int .i64 ((y : Int) % 65536), .int .i64 ((y : Int) / 65536 % 65536), .int .i64 ((y : Int) / 65536 / 65536)] 3))
      rw [hyi]
      obtain ⟨WD, hWD⟩ : ∃ WD, wr.alloc (.cells #[.int .i64 ((y : Int) % 65536), .int .i64 ((y : Int) / 65536 % 65536), .int .i64 ((y : Int) / 65536 / 65536)] 3) = WD := ⟨_, rfl⟩
      rw [hWD] at ADG BD ⊢
      rw [hD] at hszD ⊢
      clear hWD hdg
      go_loopw [9, 10] (fun av kv wr => ∃ (k g c : Nat) (o : List Nat), 1 ≤ k ∧ k ≤ pw ∧ kv = .int .i64 k ∧ av = .slice (some ⟨g, 0, none⟩) (4 * k - 1) c ∧ Hid (Arr wr g 3 (i64s o)) ∧ Hid ((∀ d ∈ o, d < 65536) ∧ val o = y ^ k ∧ o.length = 4 * k - 1) ∧ Hid (Arr wr D 3 (i64s dg)) ∧ Hid (Below w.heap.size w wr)) (fun _ kv _ => pw - (intOf kv).toNat)
      case atStart => exact ⟨1, D, 3, dg, by omega, by omega, rfl, rfl, ADG, ⟨hdb, by rw [hdv, Nat.pow_one], hdl⟩, ADG, BD⟩
      case round =>
        obtain ⟨k, g, c, o, hk1, hkp, rfl, rfl, HO, HV, HD, HB2⟩ := hrel
        by_cases hlt : k < pw
        · have hA : Arr wr g 3 (i64s (o ++ [])) := by simpa using HO.out
          have hB : Arr wr D 3 (i64s (dg ++ [])) := by simpa using HD.out
          have ht := times_any g c D 3 o dg HV.out.1 hdb (by have := HV.out.2.2; omega) (by omega) wr 3 3 [] [] hA hB
          rw [HV.out.2.2, hdl] at ht
          clear hA hB
          go_wp2_with (go_at_call 45; refine ht.mono ?_; rintro e w3 ⟨⟨g3, o3, rfl, hg3, hA3, hl3, hb3, hv3⟩, hbl⟩)
          have hDl := HD.out.lt
          refine ⟨⟨k + 1, g3, 4 * k - 1 + 3 + 1, o3, by omega, by omega, by go_num, by rw [show 4 * (k + 1) - 1 = 4 * k - 1 + 3 + 1 by omega], hA3, ⟨hb3, by rw [hv3, HV.out.2.1, hdv, Nat.pow_succ], by omega⟩, HD.out.below hbl hDl, HB2.out.trans (hbl.mono HB2.out.size)⟩, by simp [intOf]; omega⟩
        · obtain rfl : k = pw := by omega
          have hol := HV.out.2.2
          have hab := above_any g c o HV.out.1 (by omega) p (2 * k) (by omega) (by omega) wr 3 [] (by simpa using HO.out)
          rw [hol, show ((2 * k : Nat) : Int) = 2 * (k : Int) by omega] at hab
          by_cases hbig : PP < y ^ k
          · have hN : aboveN o p (2 * k) = true := by unfold aboveN; rw [HPP.out, HV.out.2.1]; exact decide_eq_true hbig
            rw [hN] at hab
            have HBIG := Lib.hid hbig
            clear hN hbig
            go_wp2_with (go_at_call 46; refine hab.mono ?_; rintro e w3 ⟨rfl, rfl⟩)
            go_roundw
            case rel => exact ⟨x, m, by omega, rfl, by go_num, by rw [HQ.out]; omega, ⟨HX.out.1, by rw [HQ.out, hy]; exact HBIG.out⟩, HB2⟩
            case measure => simp [intOf]
          · have hN : aboveN o p (2 * k) = false := by unfold aboveN; rw [HPP.out, HV.out.2.1]; exact decide_eq_false hbig
            rw [hN] at hab
            have HBIG := Lib.hid (Nat.le_of_not_lt hbig)
            clear hN hbig
            go_wp2_with (go_at_call 46; refine hab.mono ?_; rintro e w3 ⟨rfl, rfl⟩)
            go_roundw
            case rel => exact ⟨y, m, by omega, rfl, by go_num, by rw [HQ.out]; omega, ⟨HBIG.out, by rw [HQ.out, ← hy, show x + q + q = x + 2 * q by omega]; exact HX.out.2⟩, HB2⟩
            case measure => simp [intOf]
    · obtain rfl : j = 0 := by omega
      rw [show (((0 : Nat) : Int) - 1) = -1 from rfl]
      have hr : IsRoot p pw x := by unfold IsRoot; rw [HPP.out]; exact ⟨HX.out.1, by simpa using HX.out.2⟩
      have hxl : x < 137438953472 := by simp at hx; omega
      go_wp2
      go_ret
      refine ⟨⟨x, hr, ?_⟩, HB.out⟩
      rw [Int.natCast_emod]
      rfl
theorem root_one {p pw x y : Nat} (hp : 0 < pw) (hx : IsRoot p pw x) (hy : IsRoot p pw y) : x = y := by
  have h1 : x < y + 1 := (Nat.pow_lt_pow_iff_left (by omega)).1 (Nat.lt_of_le_of_lt hx.1 hy.2)
  have h2 : y < x + 1 := (Nat.pow_lt_pow_iff_left (by omega)).1 (Nat.lt_of_le_of_lt hy.1 hx.2)
  omega
end Go.Proofs.YtmmocnokgcgmnaaDoor
