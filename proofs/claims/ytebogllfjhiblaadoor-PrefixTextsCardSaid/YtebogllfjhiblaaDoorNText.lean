/-
  PREFIXES: a prefix as text.
-/
import Derived.Test.YtebogllfjhiblaaDoorNPdq
import Derived.Test.YtebogllfjhiblaaDoorNRef2
import Derived.Lib.AppendIntMem
namespace Go.Proofs.YtebogllfjhiblaaDoor
set_option linter.unusedVariables false
open Go.RowKit
/-- The string of some bytes. -/
def strL (l : List UInt8) : ByteArray := ⟨l.toArray⟩
theorem strL_append (a b : List UInt8) : strL a ++ strL b = strL (a ++ b) := by unfold strL; rw [ByteArray.mk_append_mk]
theorem strL_size (a : List UInt8) : (strL a).size = a.length := by simp [strL, ByteArray.size]
theorem strL_le {a : List UInt8} (h : a.length ≤ 8388608) : ((strL a).size : Int) ≤ 8388608 := by rw [strL_size]; omega
theorem digits_len {x : Nat} (h : x < 1000) : (Lib.decDigits x).length ≤ 3 := by
  rw [Lib.decDigits]
  split
  · simp
  · rw [Lib.decDigits]
    split
    · simp
    · rw [Lib.decDigits]
      split
      · simp
      · omega
attribute [local go_sem] strL_append
def byteP (n i : Nat) : Nat := n / 2 ^ (24 - 8 * i) % 256
def textUp (n : Nat) : Nat → List UInt8
  | 0 => []
  | i + 1 => textUp n i ++ (Lib.decDigits (byteP n i) ++ [if i = 3 then 47 else 46])
theorem byteP_lt (n i : Nat) : byteP n i < 256 := Nat.mod_lt _ (by decide)
theorem textUp_len (n : Nat) : ∀ k, (textUp n k).length ≤ 4 * k
  | 0 => by simp [textUp]
  | k + 1 => by
    have h1 := textUp_len n k
    have h2 := digits_len (Nat.lt_of_lt_of_le (byteP_lt n k) (by decide) : byteP n k < 1000)
    simp [textUp]
    omega
def textP (p : Nat × Int) : List UInt8 := if rightP p = true then textUp p.1 4 ++ Lib.decDigits p.2.toNat else []
/-- The table of the library's decimal numerals lies as the text lays it, whatever is done from block B on. -/
def TabP (B : Nat) (w : World) : Prop := Lib.TabBelow Tryd.prog B w "internal/strconv.uint64pow10" .u64 Lib.pow10Tab
theorem itoa_any (x : Nat) (hx : x < 1000) (B : Nat) (w : World) (hT : TabP B w) (hB : B ≤ w.heap.size) : Calls Tryd.prog 30 #[.int .i64 x] w fun e w' => e = .returned (.string (strL (Lib.decDigits x))) ∧ Below w.heap.size w w' := by
  refine (Tryd.strconv_Itoa x (by omega) (by omega) w hT.here).mono ?_
  rintro e w' ⟨rfl, k, os, rfl⟩
  refine ⟨by unfold Lib.itoa; rw [if_neg (by omega)]; rfl, ⟨rfl, rfl, rfl, by simp [Sort.grow], fun j hj => Sort.heap_grow_old _ os hj⟩⟩
theorem endOf_any (i : Nat) (w : World) : Calls Tryd.prog 31 #[.int .i64 i] w fun e w' => e = .returned (.string (strL [if i = 3 then 47 else 46])) ∧ w' = w := by
  by_cases h : i = 3
  · subst h
    go_enter Tryd.func31, Tryd.ntmps31
    go_wp2
    go_ret
    exact ⟨rfl, rfl⟩
  · rw [if_neg h]
    have hd : ((i : Int) == 3) = false := by simp; omega
    go_enter Tryd.func31, Tryd.ntmps31
    go_wp2
    go_ret
    exact ⟨rfl, rfl⟩
set_option maxHeartbeats 1600000 in
set_option maxRecDepth 100000 in
theorem text_any (n : Nat) (hn : n < 4294967296) (b : Int) (w : World) (hT : TabP w.heap.size w) : Calls Tryd.prog 14 #[.agg #[.int .u32 n, .int .i64 b]] w fun e w' => e = .returned (.string (strL (textP (n, b)))) ∧ Below w.heap.size w w' := by
  have hr := right_any n hn b
  unfold textP
  by_cases hp : rightP (n, b) = true
  · have h01 := (rightP_bits hp).1
    rw [if_pos hp]
    rw [hp] at hr
    obtain ⟨bb, hbb⟩ : ∃ bb : Nat, b = bb := ⟨b.toNat, by omega⟩
    subst hbb
    have hb2 : bb ≤ 32 := by omega
    rw [show ((n, (bb : Int)) : Nat × Int).2.toNat = bb from rfl]
    have HT := Lib.hid hT
    clear hp h01 hT
    have B0 := Lib.hid ((Below.refl w.heap.size w).alloc (Nat.le_refl _) (.cells #[.int .u32 n, .int .i64 bb] 24))
    have b0 := Bx.new w (.int .u32 n) (.int .i64 bb)
    have BX := Lib.hid b0
    clear b0
    go_enter Tryd.func14, Tryd.ntmps14
    go_wp2_with (go_at_call 16; refine (hr _).mono ?_; rintro e w1 ⟨rfl, hb1⟩; have HB1 := Lib.hid (B0.out.trans (hb1.mono (by simp))); have BX1 := Lib.hid (BX.out.keep hb1 BX.out.lt); clear hb1)
    go_loopw [3, 9] (fun s i wr => ∃ k : Nat, Hid (k ≤ 4) ∧ i = .int .i64 k ∧ s = .string (strL (textUp n k)) ∧ Hid (Below w.heap.size w wr) ∧ Hid (Bx wr w.heap.size (.int .u32 n) (.int .i64 bb))) (fun _ i _ => 4 - (intOf i).toNat)
    case atStart => exact ⟨0, by unfold Hid; omega, rfl, rfl, HB1, BX1⟩
    case round =>
      obtain ⟨k, HK, rfl, rfl, HB, HX⟩ := hrel
      clear HB1 BX1
      obtain ⟨c0, c1, _, _⟩ := HX.out.cells
      have h4 : k = 0 ∨ k = 1 ∨ k = 2 ∨ k = 3 ∨ k = 4 := by have := HK.out; omega
      rcases h4 with hk | hk | hk | hk | hk
      · subst hk
        have hit := itoa_any (byteP n 0) (Nat.lt_of_lt_of_le (byteP_lt n 0) (by decide)) w.heap.size wr (HT.out.on HB.out) HB.out.size
        rw [show ((byteP n 0 : Nat) : Int) = (n : Int) / 16777216 by unfold byteP; omega] at hit
        have hen := endOf_any 0
        have HU : Hid (textUp n 1 = textUp n 0 ++ (Lib.decDigits (byteP n 0) ++ [46])) := rfl
        have z1 := strL_le (a := textUp n 0) (by have := textUp_len n 0; omega)
        have hdl := digits_len (Nat.lt_of_lt_of_le (byteP_lt n 0) (by decide) : byteP n 0 < 1000)
        generalize textUp n 0 = U at *
        generalize Lib.decDigits (byteP n 0) = D at *
        have z2 := strL_le (a := D) (by omega)
        have z3 := strL_le (a := [46]) (by simp)
        have z4 := strL_le (a := D ++ [46]) (by simp; omega)
        clear hdl
        go_wp2_with (first
          | (go_at_call 30; refine hit.mono ?_; rintro e w2 ⟨rfl, hb2⟩; have HB2 := Lib.hid (HB.out.trans (hb2.mono HB.out.size)); have HX2 := Lib.hid (HX.out.keep hb2 HX.out.lt); clear hb2)
          | (go_at_call 31; refine (hen _).mono ?_; rintro e w3 ⟨rfl, rfl⟩))
        go_roundw
        case rel => exact ⟨1, by unfold Hid; omega, rfl, by rw [HU.out], HB2, HX2⟩
        case measure => simp [intOf]
      · subst hk
        have hit := itoa_any (byteP n 1) (Nat.lt_of_lt_of_le (byteP_lt n 1) (by decide)) w.heap.size wr (HT.out.on HB.out) HB.out.size
        rw [show ((byteP n 1 : Nat) : Int) = (n : Int) / 65536 % 256 by unfold byteP; omega] at hit
        have hen := endOf_any 1
        have HU : Hid (textUp n 2 = textUp n 1 ++ (Lib.decDigits (byteP n 1) ++ [46])) := rfl
        have z1 := strL_le (a := textUp n 1) (by have := textUp_len n 1; omega)
        have hdl := digits_len (Nat.lt_of_lt_of_le (byteP_lt n 1) (by decide) : byteP n 1 < 1000)
        generalize textUp n 1 = U at *
        generalize Lib.decDigits (byteP n 1) = D at *
        have z2 := strL_le (a := D) (by omega)
        have z3 := strL_le (a := [46]) (by simp)
        have z4 := strL_le (a := D ++ [46]) (by simp; omega)
        clear hdl
        go_wp2_with (first
          | (go_at_call 30; refine hit.mono ?_; rintro e w2 ⟨rfl, hb2⟩; have HB2 := Lib.hid (HB.out.trans (hb2.mono HB.out.size)); have HX2 := Lib.hid (HX.out.keep hb2 HX.out.lt); clear hb2)
          | (go_at_call 31; refine (hen _).mono ?_; rintro e w3 ⟨rfl, rfl⟩))
        go_roundw
        case rel => exact ⟨2, by unfold Hid; omega, rfl, by rw [HU.out], HB2, HX2⟩
        case measure => simp [intOf]
      · subst hk
        have hit := itoa_any (byteP n 2) (Nat.lt_of_lt_of_le (byteP_lt n 2) (by decide)) w.heap.size wr (HT.out.on HB.out) HB.out.size
        rw [show ((byteP n 2 : Nat) : Int) = (n : Int) / 256 % 256 by unfold byteP; omega] at hit
        have hen := endOf_any 2
        have HU : Hid (textUp n 3 = textUp n 2 ++ (Lib.decDigits (byteP n 2) ++ [46])) := rfl
        have z1 := strL_le (a := textUp n 2) (by have := textUp_len n 2; omega)
        have hdl := digits_len (Nat.lt_of_lt_of_le (byteP_lt n 2) (by decide) : byteP n 2 < 1000)
        generalize textUp n 2 = U at *
        generalize Lib.decDigits (byteP n 2) = D at *
        have z2 := strL_le (a := D) (by omega)
        have z3 := strL_le (a := [46]) (by simp)
        have z4 := strL_le (a := D ++ [46]) (by simp; omega)
        clear hdl
        go_wp2_with (first
          | (go_at_call 30; refine hit.mono ?_; rintro e w2 ⟨rfl, hb2⟩; have HB2 := Lib.hid (HB.out.trans (hb2.mono HB.out.size)); have HX2 := Lib.hid (HX.out.keep hb2 HX.out.lt); clear hb2)
          | (go_at_call 31; refine (hen _).mono ?_; rintro e w3 ⟨rfl, rfl⟩))
        go_roundw
        case rel => exact ⟨3, by unfold Hid; omega, rfl, by rw [HU.out], HB2, HX2⟩
        case measure => simp [intOf]
      · subst hk
        have hit := itoa_any (byteP n 3) (Nat.lt_of_lt_of_le (byteP_lt n 3) (by decide)) w.heap.size wr (HT.out.on HB.out) HB.out.size
        rw [show ((byteP n 3 : Nat) : Int) = (n : Int) % 256 by unfold byteP; omega] at hit
        have hen := endOf_any 3
        have HU : Hid (textUp n 4 = textUp n 3 ++ (Lib.decDigits (byteP n 3) ++ [47])) := rfl
        have z1 := strL_le (a := textUp n 3) (by have := textUp_len n 3; omega)
        have hdl := digits_len (Nat.lt_of_lt_of_le (byteP_lt n 3) (by decide) : byteP n 3 < 1000)
        generalize textUp n 3 = U at *
        generalize Lib.decDigits (byteP n 3) = D at *
        have z2 := strL_le (a := D) (by omega)
        have z3 := strL_le (a := [47]) (by simp)
        have z4 := strL_le (a := D ++ [47]) (by simp; omega)
        clear hdl
        go_wp2_with (first
          | (go_at_call 30; refine hit.mono ?_; rintro e w2 ⟨rfl, hb2⟩; have HB2 := Lib.hid (HB.out.trans (hb2.mono HB.out.size)); have HX2 := Lib.hid (HX.out.keep hb2 HX.out.lt); clear hb2)
          | (go_at_call 31; refine (hen _).mono ?_; rintro e w3 ⟨rfl, rfl⟩))
        go_roundw
        case rel => exact ⟨4, by unfold Hid; omega, rfl, by rw [HU.out], HB2, HX2⟩
        case measure => simp [intOf]
      · subst hk
        have hit := itoa_any bb (by omega) w.heap.size wr (HT.out.on HB.out) HB.out.size
        have z1 := strL_le (a := textUp n 4) (by have := textUp_len n 4; omega)
        have hdl := digits_len (x := bb) (by omega)
        have z2 := strL_le (a := Lib.decDigits bb) (by omega)
        clear hdl
        go_wp2_with (go_at_call 30; refine hit.mono ?_; rintro e w2 ⟨rfl, hb2⟩; have HB2 := Lib.hid (HB.out.trans (hb2.mono HB.out.size)); clear hb2)
        go_ret
        exact ⟨rfl, HB2.out⟩
  · rw [if_neg hp]
    have hp : rightP (n, b) = false := by simpa using hp
    rw [hp] at hr
    clear hp hT
    have B0 := Lib.hid ((Below.refl w.heap.size w).alloc (Nat.le_refl _) (.cells #[.int .u32 n, .int .i64 b] 24))
    go_enter Tryd.func14, Tryd.ntmps14
    go_wp2_with (go_at_call 16; refine (hr _).mono ?_; rintro e w1 ⟨rfl, hb1⟩; have HB1 := Lib.hid (B0.out.trans (hb1.mono (by simp))); clear hb1)
    go_ret
    exact ⟨rfl, HB1.out⟩
end Go.Proofs.YtebogllfjhiblaaDoor
