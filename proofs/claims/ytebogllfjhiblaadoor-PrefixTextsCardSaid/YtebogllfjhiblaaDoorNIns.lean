/-
  PREFIXES: the library's insertion sort: what the row holds behind it.
-/
import Derived.Test.YtebogllfjhiblaaDoorNSort
namespace Go.Proofs.YtebogllfjhiblaaDoor
set_option linter.unusedVariables false
open Go.RowKit Go.Sort
/-- The two functions that the sort works by. -/
noncomputable abbrev lessF (Bs : Nat) : Value := .func (.func 48) #[] #[.pointer (some ⟨Bs, 0, none⟩)]
noncomputable abbrev swapF (g c n : Nat) : Value := .func (.func 79) #[] #[.slice (some ⟨g, 0, none⟩) n c, typeHandle Tryd.prog 24]
theorem less_at {w0 : World} {base g c n Bs : Nat} {d : Array (Nat × Int)} {wr : World} (h : Srt w0 base g c n Bs d wr) (hn : n ≤ 1000) {i j : Nat} (hi : i < n) (hj : j < n) :
    Calls Tryd.prog 48 #[.int .i64 i, .int .i64 j, .pointer (some ⟨Bs, 0, none⟩)] wr fun e w' => e = .returned (.bool (ltP d[i]! d[j]!)) ∧ Go.RowKit.Below wr.heap.size wr w' :=
  less_any base g c Bs n d.toList (by simpa using h.size) hn i j _ _ (getBang (by have := h.size; omega)) (getBang (by have := h.size; omega)) wr h.own h.box
set_option maxHeartbeats 4000000 in
set_option maxRecDepth 100000 in
theorem ins_any (base g c n Bs a b : Nat) (d : Array (Nat × Int)) (w0 w : World) (hS : Srt w0 base g c n Bs d w) (hgw : g < w.heap.size) (hn : n ≤ 1000) (hab : a ≤ b) (hb : b ≤ n) :
    Calls Tryd.prog 82 #[.agg #[lessF Bs, swapF g c n], .int .i64 a, .int .i64 b] w fun e w' =>
      e = .returned (.tuple #[]) ∧ Srt w0 base g c n Bs (Sort.insertionSort ltP d a b) w' ∧ w.grownBy w' (some g) := by
  have hS1 : Srt w0 base g c n Bs d (w.alloc (.cells #[lessF Bs, swapF g c n] 83)) := hS.step ((Go.RowKit.Below.refl _ _).alloc (Nat.le_refl _) _)
  have hB1 : Bk (w.alloc (.cells #[lessF Bs, swapF g c n] 83)) w.heap.size (.cells #[lessF Bs, swapF g c n] 83 (0, 0)) := heap_alloc_new w _
  have hG1 : w.grownBy (w.alloc (.cells #[lessF Bs, swapF g c n] 83)) (some g) := ⟨rfl, rfl, rfl, by simp, fun k hk _ => heap_alloc_old w _ hk⟩
  have HS1 := Lib.hid hS1
  have HB1 := Lib.hid hB1
  have HG1 := Lib.hid hG1
  have hsw := swap_run g c n
  clear hS hS1 hB1 hG1
  go_enter Tryd.func82, Tryd.ntmps82
  go_wp2
  go_loopw [6] (fun vi wr => ∃ (i : Nat) (dk : Array (Nat × Int)), vi = .int .i64 i ∧ Hid (a < i ∧ i ≤ b + 1) ∧ Hid (Srt w0 base g c n Bs dk wr) ∧ Hid (Bk wr w.heap.size (.cells #[lessF Bs, swapF g c n] 83 (0, 0))) ∧ Hid (w.grownBy wr (some g)) ∧
      Hid (insOuter ltP a b i dk = insOuter ltP a b (a + 1) d)) (fun vi _ => b + 1 - (intOf vi).toNat)
  case atStart => exact ⟨a + 1, d, by go_num, ⟨by omega, by omega⟩, HS1, HB1, HG1, rfl⟩
  case round =>
    obtain ⟨i, dk, rfl, HI, HS, HB, HG, HO⟩ := hrel
    clear HS1 HB1 HG1
    obtain ⟨W0, hW0⟩ : ∃ W0, W0 = wr := ⟨_, rfl⟩
    subst hW0
    have hi1 := HI.out.1
    have hi2 : (i : Int) ≤ 1001 := by have := HI.out.2; omega
    by_cases hlt : i < b
    · go_wp2
      go_loopw [7] (fun vj wr2 => ∃ (j : Nat) (dj : Array (Nat × Int)), vj = .int .i64 j ∧ Hid (a ≤ j ∧ j ≤ i) ∧ Hid (Srt w0 base g c n Bs dj wr2) ∧ Hid (Bk wr2 w.heap.size (.cells #[lessF Bs, swapF g c n] 83 (0, 0))) ∧ Hid (w.grownBy wr2 (some g)) ∧
          Hid (insInner ltP a j dj = insInner ltP a i dk)) (fun vj _ => (intOf vj).toNat)
      case atStart => exact ⟨i, dk, rfl, ⟨by omega, Nat.le_refl _⟩, HS, HB, HG, rfl⟩
      case round =>
        obtain ⟨j, dj, rfl, HJ, HS2, HB2, HG2, HI2⟩ := hrel
        have hj2 : (j : Int) ≤ 1001 := by have := HJ.out.2; omega
        obtain ⟨k0, k1⟩ := HB2.out.two
        have out : (j ≤ a ∨ ltP dj[j]! dj[j - 1]! = false) → ∀ W2, Hid (Srt w0 base g c n Bs dj W2) → Hid (Bk W2 w.heap.size (.cells #[lessF Bs, swapF g c n] 83 (0, 0))) → Hid (w.grownBy W2 (some g)) →
            ∃ (i' : Nat) (dk' : Array (Nat × Int)), Value.int .i64 ((i : Int) + 1) = .int .i64 i' ∧ Hid (a < i' ∧ i' ≤ b + 1) ∧ Hid (Srt w0 base g c n Bs dk' W2) ∧ Hid (Bk W2 w.heap.size (.cells #[lessF Bs, swapF g c n] 83 (0, 0))) ∧ Hid (w.grownBy W2 (some g)) ∧ Hid (insOuter ltP a b i' dk' = insOuter ltP a b (a + 1) d) := fun hs W2 A B C =>
          ⟨i + 1, dj, by go_num, ⟨by omega, by omega⟩, A, B, C, by unfold Hid; rw [← HO.out, insOuter_go _ _ _ _ _ hlt, ← HI2.out, insInner_stop _ _ _ _ hs]⟩
        have OUT : Hid _ := out
        clear out
        by_cases hja : a < j
        · have hl := less_at HS2.out hn (i := j) (j := j - 1) (by have := HJ.out.2; omega) (by have := HJ.out.2; omega)
          rw [show (((j - 1 : Nat) : Int)) = (j : Int) - 1 by omega] at hl
          have hj1 : (1 : Int) ≤ j := by omega
          cases hlv : ltP dj[j]! dj[j - 1]! with
          | true =>
            rw [hlv] at hl
            have HLV := Lib.hid hlv
            clear hlv
            go_wp2_with (go_at_call 48; refine hl.mono ?_; rintro e w2 ⟨rfl, hb2⟩; have HS3 := Lib.hid (HS2.out.step hb2); have HB3 := Lib.hid (HB2.out.keep hb2 HB2.out.lt); have HG3 := Lib.hid (grownBy_below HG2.out hb2); obtain ⟨l0, l1⟩ := HB3.out.two; clear hb2)
            have hsr := hsw w2 dj HS3.out.holds HS3.out.size j (j - 1) (by have := HJ.out.2; omega) (by have := HJ.out.2; omega)
            rw [show (((j - 1 : Nat) : Int)) = (j : Int) - 1 by omega] at hsr
            have hsp := HS3.out.swap (i := j) (j := j - 1) (by have := HJ.out.2; omega) (by have := HJ.out.2; omega)
            obtain ⟨w3, hw3⟩ : ∃ w3, ((w2.setCells g (0 + j * 2) (cellsP dj[j - 1]!)).setCells g (0 + (j - 1) * 2) (cellsP dj[j]!)) = w3 := ⟨_, rfl⟩
            rw [hw3] at hsr hsp
            have hsr2 : (callFunc 79 #[.int .i64 j, .int .i64 ((j : Int) - 1), .slice (some ⟨g, 0, none⟩) n c, typeHandle Tryd.prog 24]).run Tryd.prog w2 = .ok (.value (.tuple #[])) w3 := hsr
            have HSP := Lib.hid hsp.1
            have HGP := Lib.hid (grownBy_trans HG3.out hsp.2)
            have HBP := Lib.hid (HB3.out.grown hsp.2 (fun e => by injection e with e; omega))
            clear hsp hw3 hsr
            rw [hsr2, Oper.upon_value]
            clear hsr2
            go_wp2
            go_roundw
            case rel => exact ⟨j - 1, swp dj j (j - 1), by congr 1; omega, ⟨by omega, by have := HJ.out.2; omega⟩, HSP, HBP, HGP, by unfold Hid; rw [← HI2.out, insInner_go ltP a j dj hja HLV.out]⟩
            case measure => simp [intOf]; omega
          | false =>
            rw [hlv] at hl
            have HLV := Lib.hid hlv
            clear hlv
            go_wp2_with (go_at_call 48; refine hl.mono ?_; rintro e w2 ⟨rfl, hb2⟩; have HS3 := Lib.hid (HS2.out.step hb2); have HB3 := Lib.hid (HB2.out.keep hb2 HB2.out.lt); have HG3 := Lib.hid (grownBy_below HG2.out hb2); clear hb2)
            go_roundw
            case rel => exact OUT.out (Or.inr HLV.out) _ HS3 HB3 HG3
            case measure => simp [intOf]; omega
        · go_wp2
          go_roundw
          case rel => exact OUT.out (Or.inl (by omega)) _ HS2 HB2 HG2
          case measure => simp [intOf]; omega
    · go_wp2
      go_end0
      have e := HO.out
      rw [insOuter_stop _ _ _ _ _ hlt] at e
      exact ⟨rfl, by unfold Sort.insertionSort; rw [← e]; exact HS.out, HG.out⟩
end Go.Proofs.YtebogllfjhiblaaDoor
