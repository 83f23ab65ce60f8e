/-
  WHAT STANDS AHEAD OF THE FINGERPRINT: numbers as bytes, the most significant one first.
-/
import Derived.Test.YtmmocnokgcgmnaaDoorSLeaf
import Derived.Test.YtmmocnokgcgmnaaDoorHRMac
namespace Go.Proofs.YtmmocnokgcgmnaaDoor
open Go.RowKit
def beN (n s : Nat) : List Nat := (List.range s).map fun j => n / 256 ^ (s - 1 - j) % 256
theorem beN_len (n s : Nat) : (beN n s).length = s := by simp [beN]
theorem beN_take {n s k : Nat} (hk : k < s) : (beN n s).take (k + 1) = (beN n s).take k ++ [n / 256 ^ (s - 1 - k) % 256] := by
  rw [List.take_add_one]
  congr 1
  simp [beN, hk]
set_option maxHeartbeats 1600000 in
set_option maxRecDepth 100000 in
theorem appnum_any (n s : Nat) (_ : n < 9223372036854775808) (hs : s ≤ 8) (base : Nat) (v : Value) (l : List Nat) (hl : l.length ≤ 100) (w : World) (hb : base ≤ w.heap.size) (hown : w.ownsRow base 5 1 v l.length (u8s l)) :
    Calls Tryd.prog 28 #[v, .int .i64 n, .int .i64 s] w fun e w' => (∃ v', e = .returned v' ∧ Hid (w'.ownsRow base 5 1 v' (l ++ beN n s).length (u8s (l ++ beN n s)))) ∧ Below base w w' := by
  obtain ⟨i0, hi, hz0, hz1, hz2⟩ := info_parts Tryd.info5
  have HO0 := Lib.hid hown
  have HB0 := Lib.hid hb
  clear hown hb
  go_enter Tryd.func28, Tryd.ntmps28
  go_wp2
  go_loopw [0, 7] (fun bv iv wr => ∃ (bv' : Value) (k : Nat), bv' = bv ∧ k ≤ s ∧ iv = .int .i64 ((s : Int) - 1 - k) ∧ Hid (wr.ownsRow base 5 1 bv (l ++ (beN n s).take k).length (u8s (l ++ (beN n s).take k))) ∧ Hid (Below base w wr)) (fun _ iv _ => (intOf iv + 1).toNat)
  case atStart => exact ⟨_, 0, rfl, by omega, by go_num, by simpa [Hid] using HO0.out, Below.refl _ _⟩
  case round =>
    obtain ⟨bv, k, rfl, hk, rfl, HO, HB⟩ := hrel
    by_cases hlt : k < s
    · have HN := Lib.hid (beN_take (n := n) hlt)
      obtain ⟨j, hj⟩ : ∃ j : Nat, s - 1 - k = j := ⟨_, rfl⟩
      have hji : (s : Int) - 1 - (k : Int) = (j : Int) := by omega
      have hval : ((n : Int) / 2 ^ (8 * j)) % 256 = ((n / 256 ^ j % 256 : Nat) : Int) := by
        rw [show (256 : Nat) ^ j = 2 ^ (8 * j) by rw [Nat.pow_mul], Int.natCast_emod, Int.natCast_ediv, Int.natCast_pow]; rfl
      rw [hj] at HN
      rw [hji]
      have hj7 : j ≤ 7 := by omega
      have HJ8 : Hid (s = k + 1 + j) := by unfold Hid; omega
      have hll : (l ++ (beN n s).take k).length ≤ 108 := by simp [List.length_append, List.length_take, beN_len]; omega
      obtain ⟨L, hL⟩ : ∃ L, l ++ (beN n s).take k = L := ⟨_, rfl⟩
      have HN2 : Hid (l ++ (beN n s).take (k + 1) = L ++ [n / 256 ^ j % 256]) := by unfold Hid; rw [HN.out, ← hL, List.append_assoc]
      rw [hL] at HO hll
      have hsz : base ≤ wr.heap.size := by have := HB.out.size; have := HB0.out; omega
      clear hL HN hj hji
      go_wp2_with (at_builtin; refine wpList_append_bytes (bs := [n / 256 ^ j % 256]) (n₀ := wr.heap.size + 1) hi hz0 hz1 hz2 rfl _ _ rfl base _ L rfl (HO.out.alloc _) rfl rfl ?c1 ?c2 ?c3 ?c4)
      case c1 => exact RdN.arr (Arr.new wr 5 (u8s [n / 256 ^ j % 256])) (by omega)
      case c2 => simp only [List.length_singleton]; omega
      case c3 => simp; omega
      intro v' w1 HO1 HB1
      go_wp2
      go_roundw
      case rel =>
        have h8 := HJ8.out
        exact ⟨_, k + 1, rfl, by omega, by go_num, by rw [HN2.out]; simpa using HO1, (HB.out.alloc hsz _).trans HB1.out⟩
      case measure => simp [intOf]
    · obtain rfl : k = s := by omega
      have e : (beN n k).take k = beN n k := List.take_of_length_le (by rw [beN_len]; omega)
      rw [e] at HO
      rw [show ((k : Int) - 1 - (k : Int)) = -1 by omega]
      go_wp2
      go_ret
      exact ⟨⟨_, rfl, HO⟩, HB.out⟩
theorem own_lit (W : World) (base : Nat) (hb : base ≤ W.heap.size) (L : List Nat) (hL : L.length ≤ 1000) : (W.alloc (.cells (u8s L).toArray 5)).ownsRow base 5 1 (.slice (some ⟨W.heap.size, 0, none⟩) L.length L.length) L.length (u8s L) :=
  ⟨by rw [u8s_len, Nat.mul_one], .inr ⟨W.heap.size, L.length, (u8s L).toArray, rfl, hb, heap_alloc_new W _, Nat.le_refl _, by unfold maxLen; omega, by simp [u8s_len], by simp [u8s_len, List.take_of_length_le]⟩⟩
def headL (k l r f : Nat) : List Nat := (([161, 247, k % 256] ++ beN l 2) ++ beN r 2) ++ beN f 4
theorem headL_len (k l r f : Nat) : (headL k l r f).length = 11 := by simp [headL, beN_len]
set_option maxHeartbeats 1600000 in
set_option maxRecDepth 100000 in
theorem headOf_any (k l r f : Nat) (hl : l < 9223372036854775808) (hr : r < 9223372036854775808) (hf : f < 9223372036854775808) (w : World) :
    Calls Tryd.prog 18 #[.agg #[.int .i64 k, .int .i64 l, .int .i64 r, .int .i64 f]] w fun e w' => (∃ v', e = .returned v' ∧ Hid (w'.ownsRow w.heap.size 5 1 v' (headL k l r f).length (u8s (headL k l r f)))) ∧ Below w.heap.size w w' := by
  unfold headL
  obtain ⟨K8, hK8⟩ : ∃ K8, k % 256 = K8 := ⟨_, rfl⟩
  have hk8 : (k : Int) % 256 = (K8 : Int) := by omega
  rw [hK8]
  clear hK8
  obtain ⟨X, hX⟩ : ∃ X, w.alloc (.cells #[.int .i64 k, .int .i64 l, .int .i64 r, .int .i64 f] 28) = X := ⟨_, rfl⟩
  have hXs : X.heap.size = w.heap.size + 1 := by rw [← hX]; simp
  have HBX : Hid (Below w.heap.size w X) := by rw [← hX]; exact (Below.refl w.heap.size w).alloc (Nat.le_refl _) _
  have hcx : ∀ (i : Nat) (v : Value), [Value.int .i64 k, .int .i64 l, .int .i64 r, .int .i64 f][i]? = some v → ∀ W, Below X.heap.size X W → W.cell? ⟨w.heap.size, i, none⟩ = some v := fun i v hv W hW =>
    (hW.cell (p := ⟨w.heap.size, i, none⟩) (show w.heap.size < X.heap.size by omega)).trans (by rw [← hX]; exact (Arr.cell (Arr.new w 28 [.int .i64 k, .int .i64 l, .int .i64 r, .int .i64 f]) i).trans hv)
  have HCX := Lib.hid hcx
  have O0 := Lib.hid (own_lit X X.heap.size (Nat.le_refl _) [161, 247, K8] (by simp))
  have B0 := Lib.hid ((Below.refl X.heap.size X).alloc (Nat.le_refl _) (.cells (u8s [161, 247, K8]).toArray 5))
  have cl : (X.alloc (.cells #[.int .u8 161, .int .u8 247, .int .u8 (K8 : Int)] 5)).cell? ⟨w.heap.size, 1, none⟩ = some (.int .i64 l) := HCX.out 1 _ rfl _ B0.out
  have ck : X.cell? ⟨w.heap.size, 0, none⟩ = some (.int .i64 k) := HCX.out 0 _ rfl _ (Below.refl _ _)
  have HXS := Lib.hid hXs
  clear hcx hXs
  have T1 : True := trivial
  have T2 : True := trivial
  go_enter Tryd.func18, Tryd.ntmps18
  go_wp2_with (first
    | (go_at_call 28; have tt := T1; clear T1 tt; refine (appnum_any l 2 hl (by decide) X.heap.size _ _ (by simp) _ B0.out.size O0.out).mono ?_; rintro e w2 ⟨⟨v2, rfl, O2⟩, hb2⟩; have B2 := Lib.hid (B0.out.trans hb2); have c2 := HCX.out 2 _ rfl _ B2.out; clear hb2 cl ck)
    | (go_at_call 28; have tt := T2; clear T2 tt; refine (appnum_any r 2 hr (by decide) X.heap.size _ _ (by simp [beN_len]) _ B2.out.size O2.out).mono ?_; rintro e w3 ⟨⟨v3, rfl, O3⟩, hb3⟩; have B3 := Lib.hid (B2.out.trans (hb3)); have c3 := HCX.out 3 _ rfl _ B3.out; clear hb3 c2)
    | (go_at_call 28; refine (appnum_any f 4 hf (by decide) X.heap.size _ _ (by simp [beN_len]) _ B3.out.size O3.out).mono ?_; rintro e w4 ⟨⟨v4, rfl, O4⟩, hb4⟩; have B4 := Lib.hid (B3.out.trans (hb4)); clear hb4 c3))
  go_ret
  have hs := HXS.out
  exact ⟨⟨_, rfl, own_base O4.out (by omega)⟩, HBX.out.trans (B4.out.mono (by omega))⟩
end Go.Proofs.YtmmocnokgcgmnaaDoor