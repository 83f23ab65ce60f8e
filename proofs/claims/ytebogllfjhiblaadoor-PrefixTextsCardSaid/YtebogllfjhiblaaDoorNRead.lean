/-
  PREFIXES: the numbers of a text.
-/
import Derived.Test.YtebogllfjhiblaaDoorNLib
namespace Go.Proofs.YtebogllfjhiblaaDoor
set_option linter.unusedVariables false
open Go.RowKit
def sepP (k : Nat) : UInt8 := if k = 3 then 47 else 46
/-- The number that some digits are. -/
def puO (l : List UInt8) : Option Nat := match Lib.parseUintB 8 l with
  | .ok u => some u
  | _ => none
theorem puO_some {l : List UInt8} {u : Nat} (h : puO l = some u) : Lib.parseUintB 8 l = .ok u ∧ u ≤ 255 := by
  unfold puO at h
  split at h
  · rename_i v hv
    injection h with h
    subst h
    exact ⟨hv, by have := Lib.parseUintB_le hv; simpa using this⟩
  · cases h
theorem puO_none {l : List UInt8} (h : puO l = none) : ∀ u, Lib.parseUintB 8 l ≠ .ok u := by
  intro u hu
  unfold puO at h
  rw [hu] at h
  cases h
def readN (l : List UInt8) : Nat → Option (Nat × List UInt8)
  | 0 => some (0, l)
  | k + 1 => match readN l k with
    | none => none
    | some x => match puO (Lib.cut x.2 [sepP k]).1 with
      | none => none
      | some u => some (x.1 * 256 + u, (Lib.cut x.2 [sepP k]).2.1)
def readS (l : List UInt8) : Option (Nat × Int) := match readN l 4 with
  | none => none
  | some x => match puO x.2 with
    | none => none
    | some u => some (x.1, (u : Int))
theorem readN_none {l : List UInt8} {k : Nat} (h : readN l k = none) : readN l (k + 1) = none := by unfold readN; rw [h]
theorem readS_none {l : List UInt8} {k : Nat} (hk : k ≤ 4) (h : readN l k = none) : readS l = none := by
  have : readN l 4 = none := by
    have key : ∀ j, readN l (k + j) = none := fun j => by
      induction j with
      | zero => exact h
      | succ j ih => exact readN_none ih
    have := key (4 - k)
    rwa [show k + (4 - k) = 4 by omega] at this
  unfold readS
  rw [this]
theorem cut_len (l sep : List UInt8) : (Lib.cut l sep).1.length ≤ l.length ∧ (Lib.cut l sep).2.1.length ≤ l.length := by
  unfold Lib.cut
  split
  · exact ⟨by simp; omega, by simp⟩
  · exact ⟨Nat.le_refl _, by simp⟩
/-- What read answers. -/
def ReadSays (r : Option (Nat × Int)) (e : Ending) : Prop := match r with
  | none => e = .returned (.tuple #[.agg #[.int .u32 0, .int .i64 0], .bool false])
  | some p => e = .returned (.tuple #[.agg #[.int .u32 p.1, .int .i64 p.2], .bool true])
theorem ReadSays.no {r : Option (Nat × Int)} (h : r = none) : ReadSays r (.returned (.tuple #[.agg #[.int .u32 0, .int .i64 0], .bool false])) := by subst h; rfl
theorem ReadSays.yes {r : Option (Nat × Int)} {n : Nat} {b : Int} (h : r = some (n, b)) : ReadSays r (.returned (.tuple #[.agg #[.int .u32 n, .int .i64 b], .bool true])) := by subst h; rfl
theorem or_byte {n u : Nat} (hn : n < 16777216) (hu : u ≤ 255) : bits .or .u32 ((n : Int) * 256) (u : Int) = ((n * 256 + u : Nat) : Int) := by
  have h1 : n * 256 ||| u = n * 256 + u := by
    have := Nat.shiftLeft_add_eq_or_of_lt (i := 8) (b := u) (by omega) n
    rw [Nat.shiftLeft_eq] at this
    exact this.symm
  have h2 := u32_or_nat (n * 256) u (by omega) (by omega)
  rw [h1] at h2
  rw [← h2]
  congr 1
theorem readN_lt {l : List UInt8} : ∀ (k : Nat) (x : Nat × List UInt8), readN l k = some x → x.1 < 256 ^ k ∧ x.2.length ≤ l.length
  | 0, x, h => by
    unfold readN at h
    injection h with h
    subst h
    exact ⟨by simp, Nat.le_refl _⟩
  | k + 1, x, h => by
    unfold readN at h
    split at h
    · cases h
    · rename_i y hy
      have ih := readN_lt k y hy
      split at h
      · cases h
      · rename_i u hu
        injection h with h
        subst h
        have hu2 := (puO_some hu).2
        refine ⟨?_, Nat.le_trans (cut_len _ _).2 ih.2⟩
        show y.1 * 256 + u < 256 ^ (k + 1)
        rw [Nat.pow_succ]
        have := ih.1
        omega
set_option maxHeartbeats 1600000 in
set_option maxRecDepth 100000 in
theorem read_any (l : List UInt8) (hl : l.length ≤ 100000) (w : World) (hL : LibP w) : Calls Tryd.prog 29 #[.string (strL l)] w fun e w' => ReadSays (readS l) e ∧ Below w.heap.size w w' := by
  have B0 := Lib.hid ((Below.refl w.heap.size w).alloc (Nat.le_refl _) (.cells #[.int .u32 0, .int .i64 0] 24))
  have X0 := Lib.hid (Bx.new w (.int .u32 0) (.int .i64 0))
  have HL := Lib.hid hL
  have HLEN := Lib.hid hl
  clear hL hl
  go_enter Tryd.func29, Tryd.ntmps29
  go_wp2
  go_loopw [0, 4, 13] (fun s n i wr => ∃ (k : Nat) (x : Nat × List UInt8), Hid (k ≤ 4) ∧ s = .string (strL x.2) ∧ n = .int .u32 x.1 ∧ i = .int .i64 k ∧ Hid (readN l k = some x) ∧ Hid (Below w.heap.size w wr) ∧ Hid (Bx wr w.heap.size (.int .u32 0) (.int .i64 0))) (fun _ _ i _ => 4 - (intOf i).toNat)
  case atStart => exact ⟨0, (0, l), by unfold Hid; omega, rfl, rfl, rfl, rfl, B0, X0⟩
  case round =>
    obtain ⟨k, ⟨X, r⟩, HK, rfl, rfl, rfl, HR, HB, HX⟩ := hrel
    clear B0 X0
    obtain ⟨c0, c1, f0, f1⟩ := HX.out.cells
    have hz := HX.out.lt
    have hlt := readN_lt k (X, r) HR.out
    by_cases hk : k < 4
    · have hn : X < 16777216 := Nat.lt_of_lt_of_le (show X < 256 ^ k from hlt.1) (by have := Nat.pow_le_pow_right (n := 256) (by decide) (show k ≤ 3 by omega); simpa using this)
      have hlen : r.length ≤ l.length := hlt.2
      have hen := endOf_any k
      rw [show (if k = 3 then (47 : UInt8) else 46) = sepP k from rfl] at hen
      have hct := cut_any r [sepP k] (by have := HLEN.out; omega)
      have hcl := cut_len r [sepP k]
      have hrn : readN l (k + 1) = match puO (Lib.cut r [sepP k]).1 with
          | none => none
          | some u => some (X * 256 + u, (Lib.cut r [sepP k]).2.1) := by
        rw [readN, HR.out]
      obtain ⟨D, hD⟩ : ∃ D, (Lib.cut r [sepP k]).1 = D := ⟨_, rfl⟩
      obtain ⟨S, hS⟩ : ∃ S, (Lib.cut r [sepP k]).2.1 = S := ⟨_, rfl⟩
      obtain ⟨F, hF⟩ : ∃ F, (Lib.cut r [sepP k]).2.2 = F := ⟨_, rfl⟩
      rw [hD, hS, hF] at hct
      rw [hD, hS] at hrn
      rw [hD] at hcl
      have hDl : D.length ≤ 100000 := by have := HLEN.out; omega
      have HK1 : Hid (k + 1 ≤ 4) := by unfold Hid; omega
      have HDL := Lib.hid hDl
      have HN0 := Lib.hid hn
      clear hD hS hF hcl hlen hlt hDl hn
      cases hp : puO D with
      | none =>
        rw [hp] at hrn
        have HN := Lib.hid (readS_none (by omega) hrn)
        have HPN := Lib.hid (puO_none hp)
        clear hp hrn
        go_wp2_with (first
          | (go_at_call 31; refine (hen _).mono ?_; rintro e w1 ⟨rfl, rfl⟩)
          | (go_at_call 42; refine (hct _ (HL.out.below HB.out)).mono ?_; rintro e w2 ⟨rfl, hb2⟩; have HB2 := Lib.hid (HB.out.trans (hb2.mono HB.out.size)); have X2 := Lib.hid (HX.out.keep hb2 HX.out.lt); clear hb2)
          | (go_at_call 43; refine (pu_err D HDL.out HPN.out _ (HL.out.below HB2.out)).mono ?_; rintro e w3 ⟨⟨y, N, rfl⟩, hb3⟩; have HB3 := Lib.hid (HB2.out.trans (hb3.mono HB2.out.size)); have X3 := Lib.hid (X2.out.keep hb3 X2.out.lt); obtain ⟨d0, d1, g0, g1⟩ := X3.out.cells; clear hb3))
        exact bodyPost_ret (results_bx rfl rfl (X3.out.set _ _)) rfl ⟨.no HN.out, (HB3.out.setCell (p := ⟨w.heap.size, 0, none⟩) (Nat.le_refl _) _).setCell (p := ⟨w.heap.size, 1, none⟩) (Nat.le_refl _) _⟩
      | some u =>
        rw [hp] at hrn
        have hu := (puO_some hp).2
        have hu2 : (u : Int) ≤ 255 := by omega
        have HPO := Lib.hid (puO_some hp).1
        have HRN := Lib.hid hrn
        have HOR : Hid (bits .or .u32 ((X : Int) * 256 % 4294967296) (u : Int) = ((X * 256 + u : Nat) : Int)) := by
          unfold Hid
          rw [show (X : Int) * 256 % 4294967296 = (X : Int) * 256 by have := HN0.out; omega]
          exact or_byte HN0.out hu
        clear hp hrn
        go_wp2_with (first
          | (go_at_call 31; refine (hen _).mono ?_; rintro e w1 ⟨rfl, rfl⟩)
          | (go_at_call 42; refine (hct _ (HL.out.below HB.out)).mono ?_; rintro e w2 ⟨rfl, hb2⟩; have HB2 := Lib.hid (HB.out.trans (hb2.mono HB.out.size)); have X2 := Lib.hid (HX.out.keep hb2 HX.out.lt); clear hb2)
          | (go_at_call 43; refine (pu_ok D HDL.out u HPO.out _).mono ?_; rintro e w3 ⟨rfl, hb3⟩; have HB3 := Lib.hid (HB2.out.trans (hb3.mono HB2.out.size)); have X3 := Lib.hid (X2.out.keep hb3 X2.out.lt); clear hb3))
        go_roundw
        case rel => exact ⟨k + 1, (X * 256 + u, S), HK1, rfl, by rw [HOR.out], by go_num, HRN, HB3, X3⟩
        case measure => simp [intOf]; omega
    · obtain rfl : k = 4 := by have := HK.out; omega
      have hlen : r.length ≤ l.length := hlt.2
      have HDL : Hid (r.length ≤ 100000) := by unfold Hid; have := HLEN.out; omega
      have hrs : readS l = match puO r with
          | none => none
          | some u => some (X, (u : Int)) := by
        unfold readS
        rw [HR.out]
      clear hlt hlen
      cases hp : puO r with
      | none =>
        rw [hp] at hrs
        have HN : Hid (readS l = none) := hrs
        have HPN := Lib.hid (puO_none hp)
        clear hp hrs
        go_wp2_with (first
          | (go_at_call 43; refine (pu_err r HDL.out HPN.out _ (HL.out.below HB.out)).mono ?_; rintro e w3 ⟨⟨y, N, rfl⟩, hb3⟩; have HB3 := Lib.hid (HB.out.trans (hb3.mono HB.out.size)); have X3 := Lib.hid (HX.out.keep hb3 HX.out.lt); obtain ⟨d0, d1, g0, g1⟩ := X3.out.cells; clear hb3))
        exact bodyPost_ret (results_bx rfl rfl (X3.out.set _ _)) rfl ⟨.no HN.out, (HB3.out.setCell (p := ⟨w.heap.size, 0, none⟩) (Nat.le_refl _) _).setCell (p := ⟨w.heap.size, 1, none⟩) (Nat.le_refl _) _⟩
      | some u =>
        rw [hp] at hrs
        have hu2 : (u : Int) ≤ 255 := by have := (puO_some hp).2; omega
        have HN : Hid (readS l = some (X, (u : Int))) := hrs
        have HPO := Lib.hid (puO_some hp).1
        clear hp hrs
        go_wp2_with (first
          | (go_at_call 43; refine (pu_ok r HDL.out u HPO.out _).mono ?_; rintro e w3 ⟨rfl, hb3⟩; have HB3 := Lib.hid (HB.out.trans (hb3.mono HB.out.size)); have X3 := Lib.hid (HX.out.keep hb3 HX.out.lt); obtain ⟨d0, d1, g0, g1⟩ := X3.out.cells; clear hb3))
        exact bodyPost_ret (results_bx rfl rfl (X3.out.set _ _)) rfl ⟨.yes HN.out, (HB3.out.setCell (p := ⟨w.heap.size, 0, none⟩) (Nat.le_refl _) _).setCell (p := ⟨w.heap.size, 1, none⟩) (Nat.le_refl _) _⟩
end Go.Proofs.YtebogllfjhiblaaDoor
