/-
  THE PROGRAM's requested: a function value that captures a table of the Ids that are asked for; what it answers.
-/
import Derived.Test.YteelknmafnoccaaFields
namespace Go.Proofs.Yteelknmafnoccaa
open Go.RowKit
set_option linter.unusedVariables false

theorem Try.info63 : (Try.prog.info? 63).map (fun i => (i.zero, i.size, i.bytes)) = some (some (.agg (Array.replicate 1001 (.bool false))), 1001, 1001) := by kernel_rfl
theorem zero63 (W : World) : (zeroValue 63).run Try.prog W = .ok (.agg (Array.replicate 1001 (.bool false))) W := by
  obtain ⟨i, hi, hz, _, _⟩ := info_parts Try.info63
  simp [zeroValue, typeInfo, hi, hz]

/-- A table of bools in a block of one's own. -/
def ArrB (W : World) (B : Nat) (f : Nat → Bool) : Prop := ∃ cs, W.heap[B]? = some (.cells cs 63 (0, 0)) ∧ cs.size = 1001 ∧ ∀ i, i < 1001 → cs[i]? = some (.bool (f i))
theorem ArrB.lt {W : World} {B : Nat} {f : Nat → Bool} (h : ArrB W B f) : B < W.heap.size := by
  obtain ⟨cs, h, _⟩ := h
  exact (Array.getElem?_eq_some_iff.1 h).1
theorem ArrB.cell {W : World} {B : Nat} {f : Nat → Bool} (h : ArrB W B f) {i : Nat} (hi : i < 1001) : W.cell? ⟨B, i, none⟩ = some (.bool (f i)) := by
  obtain ⟨cs, hh, _, hc⟩ := h
  rw [cell_of_row W B i cs 63 (0, 0) hh]
  exact hc i hi
theorem ArrB.frozen {W : World} {B : Nat} {f : Nat → Bool} (h : ArrB W B f) (i : Nat) : W.frozen? ⟨B, i, none⟩ = false := by
  obtain ⟨cs, hh, _, hc⟩ := h
  simp [World.frozen?, hh]
theorem ArrB.below {W W' : World} {B n₀ : Nat} {f : Nat → Bool} (h : ArrB W B f) (hb : Below n₀ W W') (hB : B < n₀) : ArrB W' B f := by
  obtain ⟨cs, hh, hs, hc⟩ := h
  exact ⟨cs, (hb.block B hB).trans hh, hs, hc⟩
theorem ArrB.kept {W W' : World} {B : Nat} {f : Nat → Bool} {row : Option Nat} (h : ArrB W B f) (hg : W.grownBy W' row) (hne : some B ≠ row) : ArrB W' B f := by
  have hlt := h.lt
  obtain ⟨cs, hh, hs, hc⟩ := h
  exact ⟨cs, (hg.block B hlt hne).trans hh, hs, hc⟩
theorem ArrB.start (W : World) : ArrB (W.alloc (.cells (Array.replicate 1001 (.bool false)) 63)) W.heap.size (fun _ => false) :=
  ⟨_, heap_alloc_new W _, by simp, fun i hi => by simp [hi]⟩
theorem ArrB.set {W : World} {B : Nat} {f : Nat → Bool} (h : ArrB W B f) {i : Nat} (hi : i < 1001) : ArrB (W.setCell ⟨B, i, none⟩ (.bool true)) B (fun j => f j || j == i) := by
  obtain ⟨cs, hh, hs, hc⟩ := h
  refine ⟨cs.setIfInBounds i (.bool true), by simp [World.setCell, Array.getElem?_modify, hh], by simpa using hs, fun j hj => ?_⟩
  rw [Array.getElem?_setIfInBounds]
  by_cases e : i = j
  · subst e
    rw [if_pos rfl, if_pos (by omega)]
    simp
  · rw [if_neg e, hc j hj]
    have : (j == i) = false := by simp; omega
    simp [this]
theorem ArrB.congr {W : World} {B : Nat} {f g : Nat → Bool} (h : ArrB W B f) (hfg : ∀ i, i < 1001 → f i = g i) : ArrB W B g := by
  obtain ⟨cs, hh, hs, hc⟩ := h
  exact ⟨cs, hh, hs, fun i hi => by rw [hc i hi, hfg i hi]⟩

/-- Which Ids are asked for: of those that may be. -/
def askedB (zs : List Int) (i : Nat) : Bool := decide (1 ≤ i) && zs.any fun z => z == (i : Int)

theorem ask_out {z : Int} (h : z < 1 ∨ 1000 < z) {i : Nat} (hi : i < 1001) : (decide (1 ≤ i) && (z == (i : Int))) = false := by
  by_cases h1 : 1 ≤ i
  · have h2 : (z == (i : Int)) = false := by simp; omega
    rw [h2, Bool.and_false]
  · simp [h1]
theorem ask_in {m i : Nat} (hm : 1 ≤ m) : (decide (1 ≤ i) && ((m : Int) == (i : Int))) = (i == m) := by
  rw [Bool.eq_iff_iff]
  simp
  omega

set_option maxRecDepth 100000 in
set_option maxHeartbeats 2000000 in
theorem requested_any (a : Option Addr) (cap : Nat) (zs : List Int) (hlen : zs.length ≤ 140737488351232) (hz : Ints64 zs) (w : World) (hr : Rd .i64 w.heap.size w a zs) :
    Calls Try.prog 33 #[.slice a zs.length cap] w fun e w' => e = .returned (.func (.func 42) #[] #[.pointer (some ⟨w.heap.size, 0, none⟩)]) ∧ ArrB w' w.heap.size (askedB zs) ∧ Below w.heap.size w w' := by
  have HR := Lib.hid hr
  have z63 := zero63
  clear hr
  go_enter Try.func33, Try.ntmps33
  go_wp2
  have AR0 := Lib.hid (ArrB.start w)
  have HB0 := Lib.hid ((Below.refl w.heap.size w).alloc (Nat.le_refl _) (.cells (Array.replicate 1001 (.bool false)) 63))
  go_loopw [8] (fun i wr => ∃ k : Nat, k ≤ zs.length ∧ i = .int .i64 k ∧ ArrB wr w.heap.size (askedB (zs.take k)) ∧ Below w.heap.size w wr) (fun i _ => zs.length - (intOf i).toNat)
  case atStart => exact ⟨0, Nat.zero_le _, rfl, AR0.out.congr (fun i hi => by simp [askedB]), HB0.out⟩
  case round =>
    obtain ⟨k, hk, rfl, har, hbel⟩ := hrel
    have HA := Lib.hid har
    have HB := Lib.hid hbel
    clear har hbel
    by_cases hlt : k < zs.length
    · obtain ⟨b, off, rfl, hb, hc⟩ := HR.out (by omega)
      have hc1 := (HB.out.cell (p := ⟨b, off + k, none⟩) hb).trans (hc k hlt)
      have hz0 := (hz k).1
      have hz1 := (hz k).2
      obtain ⟨z, hzk⟩ : ∃ z, zs[k]?.getD 0 = z := ⟨_, rfl⟩
      rw [hzk] at hc1 hz0 hz1
      have htake : zs.take (k + 1) = zs.take k ++ [z] := by
        rw [List.take_add_one, List.getElem?_eq_getElem hlt]
        rw [List.getElem?_eq_getElem hlt] at hzk
        simp at hzk
        simp [hzk]
      have hask : ∀ i, askedB (zs.take (k + 1)) i = (askedB (zs.take k) i || (decide (1 ≤ i) && (z == (i : Int)))) := fun i => by
        rw [htake]
        unfold askedB
        rw [List.any_append]
        cases decide (1 ≤ i) <;> simp
      have HASK := Lib.hid hask
      clear hc hzk htake hask
      have h3 : z < 1 ∨ 1000 < z ∨ (1 ≤ z ∧ z ≤ 1000) := by omega
      rcases h3 with h3 | h3 | ⟨h3, h4⟩
      · go_wp2
        go_roundw
        case rel => exact ⟨k + 1, by omega, by go_num, HA.out.congr (fun i hi => by rw [HASK.out, ask_out (.inl h3) hi, Bool.or_false]), HB.out⟩
        case measure => simp [intOf]; omega
      · go_wp2
        go_roundw
        case rel => exact ⟨k + 1, by omega, by go_num, HA.out.congr (fun i hi => by rw [HASK.out, ask_out (.inr h3) hi, Bool.or_false]), HB.out⟩
        case measure => simp [intOf]; omega
      · obtain ⟨m, rfl⟩ : ∃ m : Nat, z = m := ⟨z.toNat, by omega⟩
        have hm : m < 1001 := by omega
        have hcell := HA.out.cell hm
        have hfz := HA.out.frozen m
        have i0 : (0 : Int) ≤ (m : Int) := by omega
        have i1 : (m : Int) < 1001 := by omega
        go_wp2
        go_roundw
        case rel => exact ⟨k + 1, by omega, by go_num, (HA.out.set hm).congr (fun i hi => by rw [HASK.out, ask_in (by omega)]), HB.out.setCell (p := ⟨w.heap.size, m, none⟩) (Nat.le_refl _) _⟩
        case measure => simp [intOf]; omega
    · obtain rfl : k = zs.length := by omega
      rw [List.take_of_length_le (Nat.le_refl _)] at HA
      go_wp2
      go_ret
      exact ⟨rfl, HA.out, HB.out⟩

/-- What the function value answers. -/
theorem wanted_any (B : Nat) (f : Nat → Bool) (i : Nat) (hi : i ≤ 1000) (W : World) (h : ArrB W B f) :
    Calls Try.prog 42 #[.int .i64 i, .pointer (some ⟨B, 0, none⟩)] W fun e w' => e = .returned (.bool (f i)) ∧ W = w' := by
  have hc := h.cell (i := i) (by omega)
  have i0 : (0 : Int) ≤ (i : Int) := by omega
  have i1 : (i : Int) < 1001 := by omega
  clear h
  go_enter Try.func42, Try.ntmps42
  go_wp2
  go_ret
  exact ⟨rfl, rfl⟩
end Go.Proofs.Yteelknmafnoccaa
