/-
  OPEN BY ONE KEY, OR BY NONE.
-/
import Derived.Test.YthdlcpnmldhllaaDoorGH
import Derived.Lib.AppendZeros
import Derived.ArgAppend
import Derived.StillTailTactics
import Derived.Deep.AppendLies
import Derived.Deep.Slices
import Derived.Lib.Bytes

/-
  THE ENVELOPE's small functions: what may be; nonces.
-/
namespace Go.Proofs.YthdlcpnmldhllaaDoor.sl
open Go.RowKit

def okIn (n m : Int) : Prop := 0 ≤ n ∧ n ≤ m
def okO (k l r f : Int) : Prop := okIn k 255 ∧ okIn l 65535 ∧ okIn r 65535 ∧ okIn f 604800
def okK (id : Int) (n : Nat) : Prop := 1 ≤ id ∧ id ≤ 255 ∧ 1 ≤ n ∧ n ≤ 64
/-- What ends so answers whether. -/
def Says (e : Ending) (p : Prop) : Prop := ∃ b : Bool, e = .returned (.bool b) ∧ (b = true ↔ p)
theorem Says.of {b : Bool} {p : Prop} (h : b = true ↔ p) : Says (.returned (.bool b)) p := ⟨b, rfl, h⟩
theorem Says.yes {p : Prop} (h : p) : Says (.returned (.bool true)) p := ⟨true, rfl, by simp [h]⟩
theorem Says.no {p : Prop} (h : ¬ p) : Says (.returned (.bool false)) p := ⟨false, rfl, by simp [h]⟩

set_option maxHeartbeats 800000 in
set_option maxRecDepth 100000 in
theorem within_any (n m : Int) (w : World) : Calls Tryd.prog 33 #[.int .i64 n, .int .i64 m] w fun e w' => Says e (okIn n m) ∧ w' = w := by
  go_enter Tryd.func33, Tryd.ntmps33
  go_wp2
  all_goals go_ret
  all_goals refine ⟨Says.of ?_, rfl⟩
  all_goals unfold okIn
  all_goals first
    | (simp; done)
    | (simp; omega)
set_option maxHeartbeats 1600000 in
set_option maxRecDepth 100000 in
theorem okO_any (k l r f : Int) (w : World) : Calls Tryd.prog 12 #[.agg #[.int .i64 k, .int .i64 l, .int .i64 r, .int .i64 f]] w fun e w' => Says e (okO k l r f) ∧ Below w.heap.size w w' := by
  have hw := within_any
  go_enter Tryd.func12, Tryd.ntmps12
  go_wp2_with (go_at_call 33; refine (hw _ _ _).mono ?_; rintro e w1 ⟨⟨x, rfl, hx⟩, rfl⟩; have HX := Lib.hid hx; clear hx)
  all_goals go_ret
  all_goals refine ⟨?_, (Below.refl _ w).alloc (Nat.le_refl _) _⟩
  all_goals refine Says.of ?_
  all_goals simp_all [Hid, okO]
set_option maxHeartbeats 1600000 in
set_option maxRecDepth 100000 in
theorem okK_any (id : Int) (s : Option Addr) (n c : Nat) (hn : n ≤ 9223372036854775807) (w : World) : Calls Tryd.prog 13 #[.agg #[.int .i64 id, .slice s n c]] w fun e w' => Says e (okK id n) ∧ Below w.heap.size w w' := by
  go_enter Tryd.func13, Tryd.ntmps13
  go_wp2
  all_goals go_ret
  all_goals refine ⟨?_, (Below.refl _ w).alloc (Nat.le_refl _) _⟩
  all_goals refine Says.of ?_
  all_goals unfold okK
  all_goals first
    | (simp; done)
    | (simp; omega)
/-- The nonce behind one. -/
def nextN (n : Int) : Int := if 1 ≤ n ∧ n < 65535 then n + 1 else 1
/-- What ends so answers that number. -/
def Tells (e : Ending) (n : Int) : Prop := e = .returned (.int .i64 n)
end Go.Proofs.YthdlcpnmldhllaaDoor.sl

/-
  WHAT STANDS AHEAD OF THE FINGERPRINT: numbers as bytes, the most significant one first.
-/
namespace Go.Proofs.YthdlcpnmldhllaaDoor.sl
open Go.RowKit
def beN (n s : Nat) : List Nat := (List.range s).map fun j => n / 256 ^ (s - 1 - j) % 256
theorem beN_len (n s : Nat) : (beN n s).length = s := by simp [beN]
theorem beN_take {n s k : Nat} (hk : k < s) : (beN n s).take (k + 1) = (beN n s).take k ++ [n / 256 ^ (s - 1 - k) % 256] := by
  rw [List.take_add_one]
  congr 1
  simp [beN, hk]
set_option maxHeartbeats 1600000 in
set_option maxRecDepth 100000 in
theorem appnum_any (n s : Nat) (_ : n < 9223372036854775808) (hs : s ≤ 8) (base : Nat) (v : Value) (l : List Nat) (hl : l.length ≤ 100) (w : World) (hb : base ≤ w.heap.size) (hown : w.ownsRow base 5 1 v l.length (u8s l)) :
    Calls Tryd.prog 34 #[v, .int .i64 n, .int .i64 s] w fun e w' => (∃ v', e = .returned v' ∧ Hid (w'.ownsRow base 5 1 v' (l ++ beN n s).length (u8s (l ++ beN n s)))) ∧ Below base w w' := by
  obtain ⟨i0, hi, hz0, hz1, hz2⟩ := info_parts Tryd.info5
  have HO0 := Lib.hid hown
  have HB0 := Lib.hid hb
  clear hown hb
  go_enter Tryd.func34, Tryd.ntmps34
  go_wp2
  go_loopw [0, 7] (fun bv iv wr => ∃ (bv' : Value) (k : Nat), bv' = bv ∧ k ≤ s ∧ iv = .int .i64 ((s : Int) - 1 - k) ∧ Hid (wr.ownsRow base 5 1 bv (l ++ (beN n s).take k).length (u8s (l ++ (beN n s).take k))) ∧ Hid (Below base w wr)) (fun _ iv _ => (intOf iv + 1).toNat)
  case atStart => exact ⟨_, 0, rfl, by omega, by go_num, by simpa [Hid] using HO0.out, Below.refl _ _⟩
  case round =>
    obtain ⟨bv, k, rfl, hk, rfl, HO, HB⟩ := hrel
    by_cases hlt : k < s
    · have HN := Lib.hid (beN_take (n := n) hlt)
      obtain ⟨j, hj⟩ : ∃ j : Nat, s - 1 - k = j := ⟨_, rfl⟩
      have hji : (s : Int) - 1 - (k : Int) = (j : Int) := by omega
      have hval : ((n : Int) / 2 ^ (8 * j)) % 256 = ((n / 256 ^ j % 256 : Nat) : Int) := by
        rw [show (256 : Nat) ^ j = 2 ^ (8 * j) by rw [Nat.pow_mul], Int.natCast_emod, Int.natCast_ediv, Int.natCast_pow]; rfl
      rw [hj] at HN
      rw [hji]
      have hj7 : j ≤ 7 := by omega
      have HJ8 : Hid (s = k + 1 + j) := by unfold Hid; omega
      have hll : (l ++ (beN n s).take k).length ≤ 108 := by simp [List.length_append, List.length_take, beN_len]; omega
      obtain ⟨L, hL⟩ : ∃ L, l ++ (beN n s).take k = L := ⟨_, rfl⟩
      have HN2 : Hid (l ++ (beN n s).take (k + 1) = L ++ [n / 256 ^ j % 256]) := by unfold Hid; rw [HN.out, ← hL, List.append_assoc]
      rw [hL] at HO hll
      have hsz : base ≤ wr.heap.size := by have := HB.out.size; have := HB0.out; omega
      clear hL HN hj hji
      go_wp2_with (at_builtin; refine wpList_append_bytes (bs := [n / 256 ^ j % 256]) (n₀ := wr.heap.size + 1) hi hz0 hz1 hz2 rfl _ _ rfl base _ L rfl (HO.out.alloc _) rfl rfl ?c1 ?c2 ?c3 ?c4)
      case c1 => exact RdN.arr (Arr.new wr 5 (u8s [n / 256 ^ j % 256])) (by omega)
      case c2 => simp only [List.length_singleton]; omega
      case c3 => simp; omega
      intro v' w1 HO1 HB1
      go_wp2
      go_roundw
      case rel =>
        have h8 := HJ8.out
        exact ⟨_, k + 1, rfl, by omega, by go_num, by rw [HN2.out]; simpa using HO1, (HB.out.alloc hsz _).trans HB1.out⟩
      case measure => simp [intOf]
    · obtain rfl : k = s := by omega
      have e : (beN n k).take k = beN n k := List.take_of_length_le (by rw [beN_len]; omega)
      rw [e] at HO
      rw [show ((k : Int) - 1 - (k : Int)) = -1 by omega]
      go_wp2
      go_ret
      exact ⟨⟨_, rfl, HO⟩, HB.out⟩
theorem own_lit (W : World) (base : Nat) (hb : base ≤ W.heap.size) (L : List Nat) (hL : L.length ≤ 1000) : (W.alloc (.cells (u8s L).toArray 5)).ownsRow base 5 1 (.slice (some ⟨W.heap.size, 0, none⟩) L.length L.length) L.length (u8s L) :=
  ⟨by rw [u8s_len, Nat.mul_one], .inr ⟨W.heap.size, L.length, (u8s L).toArray, rfl, hb, heap_alloc_new W _, Nat.le_refl _, by unfold maxLen; omega, by simp [u8s_len], by simp [u8s_len, List.take_of_length_le]⟩⟩
def headL (k l r f : Nat) : List Nat := (([161, 247, k % 256] ++ beN l 2) ++ beN r 2) ++ beN f 4
theorem headL_len (k l r f : Nat) : (headL k l r f).length = 11 := by simp [headL, beN_len]
set_option maxHeartbeats 1600000 in
set_option maxRecDepth 100000 in
theorem headOf_any (k l r f : Nat) (hl : l < 9223372036854775808) (hr : r < 9223372036854775808) (hf : f < 9223372036854775808) (w : World) :
    Calls Tryd.prog 14 #[.agg #[.int .i64 k, .int .i64 l, .int .i64 r, .int .i64 f]] w fun e w' => (∃ v', e = .returned v' ∧ Hid (w'.ownsRow w.heap.size 5 1 v' (headL k l r f).length (u8s (headL k l r f)))) ∧ Below w.heap.size w w' := by
  unfold headL
  obtain ⟨K8, hK8⟩ : ∃ K8, k % 256 = K8 := ⟨_, rfl⟩
  have hk8 : (k : Int) % 256 = (K8 : Int) := by omega
  rw [hK8]
  clear hK8
  obtain ⟨X, hX⟩ : ∃ X, w.alloc (.cells #[.int .i64 k, .int .i64 l, .int .i64 r, .int .i64 f] 39) = X := ⟨_, rfl⟩
  have hXs : X.heap.size = w.heap.size + 1 := by rw [← hX]; simp
  have HBX : Hid (Below w.heap.size w X) := by rw [← hX]; exact (Below.refl w.heap.size w).alloc (Nat.le_refl _) _
  have hcx : ∀ (i : Nat) (v : Value), [Value.int .i64 k, .int .i64 l, .int .i64 r, .int .i64 f][i]? = some v → ∀ W, Below X.heap.size X W → W.cell? ⟨w.heap.size, i, none⟩ = some v := fun i v hv W hW =>
    (hW.cell (p := ⟨w.heap.size, i, none⟩) (show w.heap.size < X.heap.size by omega)).trans (by rw [← hX]; exact (Arr.cell (Arr.new w 39 [.int .i64 k, .int .i64 l, .int .i64 r, .int .i64 f]) i).trans hv)
  have HCX := Lib.hid hcx
  have O0 := Lib.hid (own_lit X X.heap.size (Nat.le_refl _) [161, 247, K8] (by simp))
  have B0 := Lib.hid ((Below.refl X.heap.size X).alloc (Nat.le_refl _) (.cells (u8s [161, 247, K8]).toArray 5))
  have cl : (X.alloc (.cells #[.int .u8 161, .int .u8 247, .int .u8 (K8 : Int)] 5)).cell? ⟨w.heap.size, 1, none⟩ = some (.int .i64 l) := HCX.out 1 _ rfl _ B0.out
  have ck : X.cell? ⟨w.heap.size, 0, none⟩ = some (.int .i64 k) := HCX.out 0 _ rfl _ (Below.refl _ _)
  have HXS := Lib.hid hXs
  clear hcx hXs
  have T1 : True := trivial
  have T2 : True := trivial
  go_enter Tryd.func14, Tryd.ntmps14
  go_wp2_with (first
    | (go_at_call 34; have tt := T1; clear T1 tt; refine (appnum_any l 2 hl (by decide) X.heap.size _ _ (by simp) _ B0.out.size O0.out).mono ?_; rintro e w2 ⟨⟨v2, rfl, O2⟩, hb2⟩; have B2 := Lib.hid (B0.out.trans hb2); have c2 := HCX.out 2 _ rfl _ B2.out; clear hb2 cl ck)
    | (go_at_call 34; have tt := T2; clear T2 tt; refine (appnum_any r 2 hr (by decide) X.heap.size _ _ (by simp [beN_len]) _ B2.out.size O2.out).mono ?_; rintro e w3 ⟨⟨v3, rfl, O3⟩, hb3⟩; have B3 := Lib.hid (B2.out.trans (hb3)); have c3 := HCX.out 3 _ rfl _ B3.out; clear hb3 c2)
    | (go_at_call 34; refine (appnum_any f 4 hf (by decide) X.heap.size _ _ (by simp [beN_len]) _ B3.out.size O3.out).mono ?_; rintro e w4 ⟨⟨v4, rfl, O4⟩, hb4⟩; have B4 := Lib.hid (B3.out.trans (hb4)); clear hb4 c3))
  go_ret
  have hs := HXS.out
  exact ⟨⟨_, rfl, own_base O4.out (by omega)⟩, HBX.out.trans (B4.out.mono (by omega))⟩
end Go.Proofs.YthdlcpnmldhllaaDoor.sl

/-
  ROWS OF BYTES PUT TOGETHER (slices.Concat, slices.Grow).
-/
namespace Go.Proofs.YthdlcpnmldhllaaDoor.sl
open Go.RowKit
set_option maxHeartbeats 1600000 in
set_option maxRecDepth 100000 in
theorem grow_any (n : Nat) (h1 : 1 ≤ n) (h2 : n ≤ 100000) (w : World) :
    Calls Tryd.prog 35 #[.slice none 0 0, .int .i64 n] w fun e w' => (∃ v', e = .returned v' ∧ Hid (w'.ownsRow w.heap.size 5 1 v' 0 [])) ∧ Below w.heap.size w w' := by
  obtain ⟨i0, hi, hz0, hz1, hz2⟩ := info_parts Tryd.info5
  have hrun := fun ty => Lib.run_append_nil_zeros (P := Tryd.prog) w 35 3 ty 5 i0 (.int .u8 0) .i64 .i64 Tryd.underlying35 Tryd.underlying3 hi hz0 n (by omega) (by omega) (by omega) (by rw [hz2]; omega)
  have hge := grownCap_ge w n 0 5
  have hcm := grownCap_le_maxLen w n 0 5 (by unfold maxLen; omega)
  have hpos : (0 : Int) < (n : Int) := by omega
  obtain ⟨C, hC⟩ : ∃ C, grownCap w n 0 5 = C := ⟨_, rfl⟩
  rw [hC] at hge hcm
  simp only [hC] at hrun
  have HOW : Hid ((w.drew.alloc (.cells (Builtin.zeroCells (Value.int .u8 0).cells n ++ Builtin.zeroCells (Value.int .u8 0).cells (C - n)) 5)).ownsRow w.heap.size 5 1 (.slice (some ⟨w.heap.size, 0, none⟩) 0 C) 0 []) :=
    ⟨rfl, .inr ⟨w.heap.size, C, _, rfl, Nat.le_refl _, heap_alloc_new w.drew _, Nat.zero_le _, hcm, by simp [Builtin.zeroCells, Value.cells]; omega, rfl⟩⟩
  have HBW := Lib.hid ((Below.refl w.heap.size w).drew.alloc (Nat.le_refl _) (.cells (Builtin.zeroCells (Value.int .u8 0).cells n ++ Builtin.zeroCells (Value.int .u8 0).cells (C - n)) 5))
  obtain ⟨W1, hW1⟩ : ∃ W1, w.drew.alloc (.cells (Builtin.zeroCells (Value.int .u8 0).cells n ++ Builtin.zeroCells (Value.int .u8 0).cells (C - n)) 5) = W1 := ⟨_, rfl⟩
  rw [hW1] at HOW HBW
  simp only [hW1] at hrun
  have HR := Lib.hid hrun
  clear hC hW1 hrun hi hz0 hz1 hz2
  go_enter Tryd.func35, Tryd.ntmps35
  go_wp2_with (at_builtin; refine Lib.wpList_append_run _ rfl _ _ _ _ rfl _ _ rfl rfl _ _ (HR.out _) ?_)
  go_ret
  exact ⟨⟨_, rfl, HOW⟩, HBW.out⟩
structure Prt where
  a : Option Addr
  c : Nat
  l : List Nat
def catL (ps : List Prt) : List Nat := ps.flatMap (·.l)
theorem catL_take {ps : List Prt} {k : Nat} {p : Prt} (h : ps[k]? = some p) : catL (ps.take (k + 1)) = catL (ps.take k) ++ p.l := by
  unfold catL
  rw [List.take_add_one, h, List.flatMap_append]; simp
theorem catL_le (ps : List Prt) (k : Nat) : (catL (ps.take k)).length ≤ (catL ps).length := by
  have h : catL ps = catL (ps.take k) ++ catL (ps.drop k) := by unfold catL; rw [← List.flatMap_append, List.take_append_drop]
  rw [h, List.length_append]; omega
set_option maxHeartbeats 1600000 in
set_option maxRecDepth 100000 in
theorem concat_any (ps : List Prt) (g : Nat) (w : World) (hg : g < w.heap.size) (hc : ∀ k p, ps[k]? = some p → w.cell? ⟨g, k, none⟩ = some (.slice p.a p.l.length p.c) ∧ RdN w.heap.size w p.a p.l) (hm : ps.length ≤ 10) (h1 : 1 ≤ (catL ps).length) (h2 : (catL ps).length ≤ 100000) :
    Calls Tryd.prog 15 #[.slice (some ⟨g, 0, none⟩) ps.length ps.length] w fun e w' => (∃ v', e = .returned v' ∧ Hid (w'.ownsRow w.heap.size 5 1 v' (catL ps).length (u8s (catL ps)))) ∧ Below w.heap.size w w' := by
  obtain ⟨i0, hi, hz0, hz1, hz2⟩ := info_parts Tryd.info5
  have HC := Lib.hid hc
  have HG := Lib.hid hg
  obtain ⟨m, hmm⟩ : ∃ m, ps.length = m := ⟨_, rfl⟩
  have HM := Lib.hid hmm
  rw [hmm] at hm ⊢
  obtain ⟨T, hT⟩ : ∃ T, (catL ps).length = T := ⟨_, rfl⟩
  have HT : Hid (Unit → (catL ps).length = T) := fun _ => hT
  rw [hT] at h1 h2
  clear hc hg hmm hT
  go_enter Tryd.func15, Tryd.ntmps15
  go_wp2
  go_loopw [3, 11] (fun sv iv wr => ∃ k : Nat, k ≤ m ∧ sv = .int .i64 (catL (ps.take k)).length ∧ iv = .int .i64 k ∧ wr = w) (fun _ iv _ => m - (intOf iv).toNat)
  case atStart => exact ⟨0, by omega, rfl, rfl, rfl⟩
  case round =>
    obtain ⟨k, hk, rfl, rfl, rfl⟩ := hrel
    by_cases hlt : k < m
    · obtain ⟨p, hp⟩ : ∃ p, ps[k]? = some p := ⟨_, List.getElem?_eq_getElem (by have := HM.out; omega)⟩
      obtain ⟨hcell, _⟩ := HC.out k p hp
      have hle := catL_le ps (k + 1)
      have HN : Hid ((catL (ps.take (k + 1))).length = (catL (ps.take k)).length + p.l.length) := by unfold Hid; rw [catL_take hp, List.length_append]
      have hb : (catL (ps.take k)).length + p.l.length ≤ 100000 := by rw [← HN.out]; have := HT.out (); omega
      obtain ⟨s, hs⟩ : ∃ s, (catL (ps.take k)).length = s := ⟨_, rfl⟩
      rw [hs] at HN hb ⊢
      clear hs hp hle
      go_wp2
      go_roundw
      case rel => exact ⟨k + 1, by omega, by rw [HN.out]; go_num, by go_num, by first | rfl | trivial⟩
      case measure => simp [intOf]; omega
    · obtain rfl : k = m := by omega
      obtain ⟨W0, rfl⟩ : ∃ W0, W0 = wr := ⟨_, rfl⟩
      have hft : ps.take k = ps := List.take_of_length_le (by have := HM.out; omega)
      rw [hft, HT.out ()]
      clear hft
      go_wp2_with (go_at_call 35; refine (grow_any T h1 h2 _).mono ?_; rintro e w1 ⟨⟨v1, rfl, HO1⟩, hb1⟩; have HB1 := Lib.hid hb1; clear hb1)
      go_loopw [6, 27] (fun sv iv w2 => ∃ (sv' : Value) (j : Nat), sv' = sv ∧ j ≤ k ∧ iv = .int .i64 j ∧ Hid (w2.ownsRow W0.heap.size 5 1 sv (catL (ps.take j)).length (u8s (catL (ps.take j)))) ∧ Hid (Below W0.heap.size W0 w2)) (fun _ iv _ => k - (intOf iv).toNat)
      case atStart => exact ⟨_, 0, rfl, by omega, rfl, by simpa [catL, u8s, Hid] using HO1.out, HB1⟩
      case round =>
        obtain ⟨sv, j, rfl, hj, rfl, HO, HB⟩ := hrel
        clear HO1 HB1
        by_cases hlt2 : j < k
        · obtain ⟨p, hp⟩ : ∃ p, ps[j]? = some p := ⟨_, List.getElem?_eq_getElem (by have := HM.out; omega)⟩
          obtain ⟨hcell, hrd⟩ := HC.out j p hp
          have hcell2 := (HB.out.cell (p := ⟨g, j, none⟩) HG.out).trans hcell
          have hrd2 := hrd.below HB.out (Nat.le_refl _)
          have hle := catL_le ps (j + 1)
          have HN := Lib.hid (catL_take hp)
          have hb : (catL (ps.take j)).length + p.l.length ≤ 100000 := by rw [← List.length_append, ← HN.out]; have := HT.out (); omega
          obtain ⟨L, hL⟩ : ∃ L, catL (ps.take j) = L := ⟨_, rfl⟩
          rw [hL] at HN hb HO
          have hsz := HB.out.size
          clear hL hp hle hcell
          go_wp2_with (at_builtin; refine wpList_append_bytes (bs := p.l) (n₀ := W0.heap.size) hi hz0 hz1 hz2 rfl _ _ rfl W0.heap.size _ L rfl HO.out rfl rfl hrd2 (by omega) hsz ?_; intro v3 w3 HO3 HB3; have HO4 : Hid (w3.ownsRow W0.heap.size 5 1 v3 (L ++ p.l).length (u8s (L ++ p.l))) := (by first | exact HO3 | (rw [List.length_append]; exact HO3)); have HB4 := HB3; clear HO3 HB3)
          go_roundw
          case rel => exact ⟨_, j + 1, rfl, by omega, by go_num, by rw [HN.out]; exact HO4, HB.out.trans HB4.out⟩
          case measure => simp [intOf]; omega
        · obtain rfl : j = k := by omega
          have hft : ps.take j = ps := List.take_of_length_le (by have := HM.out; omega)
          rw [hft] at HO
          go_wp2
          go_ret
          exact ⟨⟨_, rfl, HO⟩, HB.out⟩
end Go.Proofs.YthdlcpnmldhllaaDoor.sl

/-
  THE FINGERPRINT: the program's and the document's.
-/
namespace Go.Proofs.YthdlcpnmldhllaaDoor.sl
open Go.RowKit
/-- Bytes put behind a slice without room: what came in is left alone. -/
theorem wpList_append_full {w : World} {ops : Array Oper} {rest : List Oper} {o : Oper} {a : Act} {Q : Exit → Act → World → Prop} {i0 : TypeInfo} (hi : Tryd.prog.info? 5 = some i0) (hz0 : i0.zero = some (.int .u8 0)) (hz1 : i0.size = 1) (hz2 : i0.bytes = 1) (hgd : o.guard = none) (s x : Operand)
    (ho : o.op = .call { callee := .builtin .append, args := #[s, x], argTypes := #[35, 35] }) {b off n : Nat} {l : List Nat} (hs : a.eval s = .slice (some ⟨b, off, none⟩) n n) (hl : l.length = n) (hrl : RdN w.heap.size w (some ⟨b, off, none⟩) l)
    {m c : Nat} {ad : Option Addr} {bs : List Nat} (hx : a.eval x = .slice ad m c) (hm : bs.length = m) (hr : RdN w.heap.size w ad bs) (hlen : l.length + bs.length ≤ 140737488355328)
    (h : ∀ ad' c' w', Hid (RdN w'.heap.size w' ad' (l ++ bs)) → Hid (Below w.heap.size w w') → wpList Tryd.prog ops Q rest (a.put o.dst (.slice ad' (l.length + bs.length) c')) w') : wpList Tryd.prog ops Q (o :: rest) a w := by
  have cells : ∀ {b0 o0 : Nat} {l0 : List Nat}, RdN w.heap.size w (some ⟨b0, o0, none⟩) l0 → ∀ j u, (u8s l0)[j]? = some u → w.cell? ((⟨b0, o0, none⟩ : Addr).add j) = some u := by
    intro b0 o0 l0 hr0 j u hu
    have hj' : (l0[j]?).map (fun n : Nat => Value.int .u8 (n : Int)) = some u := by rw [← hu]; simp [u8s]
    cases hx2 : l0[j]? with
    | none => rw [hx2] at hj'; cases hj'
    | some y =>
      rw [hx2] at hj'
      cases hj'
      obtain ⟨b', o', e, _, hc⟩ := hr0 (by have := (List.getElem?_eq_some_iff.1 hx2).1; omega)
      simp only [Option.some.injEq, Addr.mk.injEq] at e
      obtain ⟨rfl, rfl, _⟩ := e
      have := hc j y hx2
      rwa [show (⟨b0, o0, none⟩ : Addr).add j = ⟨b0, o0 + j, none⟩ by unfold Addr.add; split <;> simp_all]
  subst hm
  subst hl
  by_cases h0 : bs = []
  · subst h0
    refine wpList_plain hgd fun K hK => ?_
    have hrun : (Builtin.append_ #[35, 35] o.type #[.slice (some ⟨b, off, none⟩) l.length l.length, .slice ad ([] : List Nat).length c]).run Tryd.prog w = .ok (.slice (some ⟨b, off, none⟩) l.length l.length) w := by
      cases ad with
      | none => simp [Builtin.append_, run_underlying Tryd.underlying35, sizeOf, typeInfo, hi, Builtin.lenOf, Builtin.firstCells, storeCells]
      | some ad' => simp [Builtin.append_, run_underlying Tryd.underlying35, sizeOf, typeInfo, hi, Builtin.lenOf, Builtin.firstCells, storeCells, loadCells, loadCellsFrom]
    unfold Oper.wp
    simp [execOp, ho, resolve, invoke, builtin, hs, hx, Result.andThen]
    simp at hrun
    simp [hrun]
    refine hK _ _ ?_
    have hh := h (some ⟨b, off, none⟩) l.length w (by simpa [Hid] using hrl) (Below.refl _ _)
    simpa using hh
  · obtain ⟨bb, oo, rfl, _, _⟩ := hr (List.length_pos_iff.2 h0)
    have hp := List.length_pos_iff.2 h0
    obtain ⟨v', w', hrun, hown, hgr⟩ := run_append_arg_grows (P := Tryd.prog) w 35 o.type 5 i0 (.int .u8 0) 1 1 Tryd.underlying35 hi hz0 hz1 hz2 rfl (by decide) ⟨b, off, none⟩ l.length l.length (u8s l) (by rw [u8s_len, Nat.mul_one]) (cells hrl) ⟨bb, oo, none⟩ bs.length c (u8s bs) (by rw [u8s_len, Nat.mul_one]) (cells hr) (by omega) (by unfold maxLen; omega) (by omega)
    rw [← u8s_append, ← List.length_append] at hown
    obtain ⟨g, c', rfl, _, _, _, hrd⟩ := own_rd hown (by rw [List.length_append]; omega)
    refine Lib.wpList_append_run w hgd s x _ _ ho _ _ hs hx _ w' hrun ?_
    rw [List.length_append]
    exact h _ _ w' hrd ((Below.refl w.heap.size w).grown hgr (Nat.le_refl _) (fun k hk => by cases hk))
/-- The fingerprint, in numbers. -/
def printL (id : Int) (sec hd pk : List Nat) : List Nat := if id = 0 then List.replicate 16 0 else (macL sec (hd ++ pk)).take 16
theorem printL_len (id : Int) (sec hd pk : List Nat) : (printL id sec hd pk).length = 16 := by
  unfold printL
  split
  · simp
  · rw [List.length_take, show (macL sec (hd ++ pk)).length = 32 from rfl]; rfl
set_option maxHeartbeats 1600000 in
set_option maxRecDepth 100000 in
theorem fprint_any (id : Int) (sA : Option Addr) (sc : Nat) (sec : List Nat) (hsb : ∀ x ∈ sec, x < 256) (hsc : sec.length ≤ sc) (hsl : sec.length ≤ 1000000) (hb off : Nat) (hc : Nat) (hd : List Nat) (hdb : ∀ x ∈ hd, x < 256) (hdl : hd.length = 11) (hdc : 11 ≤ hc) (_ : hc ≤ 9223372036854775807)
    (pA : Option Addr) (pc : Nat) (pk : List Nat) (hpb : ∀ x ∈ pk, x < 256) (hpl : pk.length ≤ 900000) (w : World) (hrs : RdN w.heap.size w sA sec) (hrh : RdN w.heap.size w (some ⟨hb, off, none⟩) hd) (hrp : RdN w.heap.size w pA pk) (hT : Tabs w) :
    Calls Tryd.prog 16 #[.agg #[.int .i64 id, .slice sA sec.length sc], .slice (some ⟨hb, off, none⟩) 11 hc, .slice pA pk.length pc] w fun e w' => (∃ g c, e = .returned (.slice (some ⟨g, 0, none⟩) 16 c) ∧ 16 ≤ c ∧ RdN w'.heap.size w' (some ⟨g, 0, none⟩) (printL id sec hd pk)) ∧ Below w.heap.size w w' := by
  obtain ⟨i0, hi, hz0, hz1, hz2⟩ := info_parts Tryd.info5
  obtain ⟨X, hX⟩ : ∃ X, w.alloc (.cells #[.int .i64 id, .slice sA sec.length sc] 37) = X := ⟨_, rfl⟩
  have hBX : Below w.heap.size w X := by rw [← hX]; exact (Below.refl w.heap.size w).alloc (Nat.le_refl _) _
  have HBX := Lib.hid hBX
  have hXs : X.heap.size = w.heap.size + 1 := by rw [← hX]; simp
  have hcx : ∀ (i : Nat) (v : Value), [Value.int .i64 id, .slice sA sec.length sc][i]? = some v → ∀ W, Below X.heap.size X W → W.cell? ⟨w.heap.size, i, none⟩ = some v := fun i v hv W hW =>
    (hW.cell (p := ⟨w.heap.size, i, none⟩) (show w.heap.size < X.heap.size by omega)).trans (by rw [← hX]; exact (Arr.cell (Arr.new w 37 [.int .i64 id, .slice sA sec.length sc]) i).trans hv)
  have HCX := Lib.hid hcx
  have ci : X.cell? ⟨w.heap.size, 0, none⟩ = some (.int .i64 id) := HCX.out 0 _ rfl _ (Below.refl _ _)
  have hrsX := Lib.hid ((hrs.below hBX (Nat.le_refl _)).mono hBX.size)
  have hrhX := Lib.hid ((hrh.below hBX (Nat.le_refl _)).mono hBX.size)
  have hrpX := Lib.hid ((hrp.below hBX (Nat.le_refl _)).mono hBX.size)
  have hTX := Lib.hid (hT.below hBX hT.pos)
  have HLE : Hid (w.heap.size ≤ X.heap.size) := by unfold Hid; omega
  clear hcx hBX hXs hrs hrh hrp
  by_cases h0 : id = 0
  · have hmk : ∀ W, (Instr.makeSlice 35 (.int .i64 16) (.int .i64 16)).run Tryd.prog W = .ok (.slice (some ⟨W.heap.size, 0, none⟩) 16 16) (W.alloc (.cells (u8s (List.replicate 16 0)).toArray 5)) := fun W => run_make_u8 (P := Tryd.prog) Tryd.underlying35 hi hz0 hz1 hz2 (Nat.le_refl 16) (by omega) W
    subst h0
    go_enter Tryd.func16, Tryd.ntmps16
    go_wp2
    go_ret
    exact ⟨⟨X.heap.size, 16, rfl, Nat.le_refl _, RdN.arr (Arr.new X 5 (u8s (List.replicate 16 0))) (by simp)⟩, HBX.out.trans (((Below.refl X.heap.size X).alloc (Nat.le_refl _) _).mono HLE.out)⟩
  · have hhc : ¬ hc < 11 := by omega
    obtain ⟨M, hM⟩ : ∃ M, macL sec (hd ++ pk) = M := ⟨_, rfl⟩
    have hpr : printL id sec hd pk = M.take 16 := by unfold printL; rw [if_neg h0, hM]
    have hMl : M.length = 32 := by rw [← hM]; rfl
    have hmac := fun ad c W h1 h2 h3 => pmac_any sA sc sec hsb hsc hsl ad c (hd ++ pk) (fun x hx => (List.mem_append.1 hx).elim (hdb x) (hpb x)) (by rw [List.length_append, hdl]; omega) W h1 h2 h3
    rw [List.length_append, hdl, hM] at hmac
    rw [hpr]
    clear hM hpr
    go_enter Tryd.func16, Tryd.ntmps16
    go_wp2_with (at_builtin; refine wpList_append_full (l := hd) (bs := pk) hi hz0 hz1 hz2 rfl _ _ rfl rfl hdl hrhX.out rfl rfl hrpX.out (by omega) ?_)
    intro ad c1 w1 HR1 HB1
    have cs : w1.cell? ⟨w.heap.size, 1, none⟩ = some (.slice sA sec.length sc) := HCX.out 1 _ rfl _ HB1.out
    have hs1 := hmac ad c1 w1 ((hrsX.out.below HB1.out (Nat.le_refl _)).mono HB1.out.size) HR1.out (hTX.out.below HB1.out hTX.out.pos)
    clear hmac
    go_wp2_with (first
      | (go_at_call 36; refine hs1.mono ?_; rintro e w2 ⟨rfl, hb2⟩; have HB2 := Lib.hid (HB1.out.trans (hb2.mono HB1.out.size)); clear hb2)
      | (refine wpList_store_arr rfl 90 (.tmp 8) (.tmp 20) rfl w2.heap.size rfl rfl (show Arr _ w2.heap.size 90 (u8s (List.replicate 32 0)) from Arr.new w2 90 (u8s (List.replicate 32 0))) Tryd.size90 (by rw [u8s_len, hMl]) rfl (u8s_one _) ?_; intro W3 A3 B3 hsz3 O3; have HB3 := Lib.hid ((HB2.out.alloc HB2.out.size _).trans (B3.out.mono HB2.out.size)); have A4 := A3; clear A3 B3 O3 hsz3))
    go_ret
    have hr := (RdN.arr A4.out A4.out.lt).part 0 16
    rw [List.drop_zero] at hr
    exact ⟨⟨_, 32, rfl, by decide, hr⟩, HBX.out.trans (HB3.out.mono HLE.out)⟩
/-- What the document puts ahead: the same bytes. -/
theorem top_cells (k l r f : Nat) (h1 : k < 256) (h2 : l < 65536) (h3 : r < 65536) (h4 : f < 4294967296) : (u8s (headL k l r f)).toArray = #[.int .u8 161, .int .u8 247, .int .u8 (k : Nat), .int .u8 (l / 256 : Nat), .int .u8 (l % 256 : Nat), .int .u8 (r / 256 : Nat), .int .u8 (r % 256 : Nat), .int .u8 (f / 16777216 : Nat), .int .u8 (f / 65536 % 256 : Nat), .int .u8 (f / 256 % 256 : Nat), .int .u8 (f % 256 : Nat)] := by
  have e1 : k % 256 = k := by omega
  have e2 : l / 256 % 256 = l / 256 := by omega
  have e3 : r / 256 % 256 = r / 256 := by omega
  have e4 : f / 16777216 % 256 = f / 16777216 := by omega
  simp [headL, beN, u8s, List.range_succ, e1, e2, e3, e4]
theorem headL_lt (k l r f : Nat) : ∀ x ∈ headL k l r f, x < 256 := by
  intro x hx
  simp [headL, beN, List.range_succ] at hx
  omega
end Go.Proofs.YthdlcpnmldhllaaDoor.sl

/-
  AN ENVELOPE IS MADE: the program's Wrap.
-/
namespace Go.Proofs.YthdlcpnmldhllaaDoor.sl
open Go.RowKit
theorem sizeO : (Tryd.prog.info? 39).map (·.size) = some 4 := by kernel_rfl
theorem sizeK : (Tryd.prog.info? 37).map (·.size) = some 2 := by kernel_rfl
def wrapL (k l r f : Nat) (sec b : List Nat) : List Nat := headL k l r f ++ (printL k sec (headL k l r f) b ++ b)
theorem wrapL_len (k l r f : Nat) (sec b : List Nat) : (wrapL k l r f sec b).length = 27 + b.length := by
  unfold wrapL; rw [List.length_append, List.length_append, headL_len, printL_len]; omega
/-- What makes an envelope with this key: without one any; else it is right, and its own. -/
def okW (id : Int) (n : Nat) (k : Int) : Prop := k = 0 ∨ (okK id n ∧ id = k)
set_option maxHeartbeats 1600000 in
set_option maxRecDepth 100000 in
theorem wrap_bad (id : Int) (sA : Option Addr) (n sc : Nat) (hn : n ≤ 1000000) (k l r f : Int) (hbad : ¬ (okO k l r f ∧ okW id n k)) (b : Value) (w : World) :
    Calls Tryd.prog 6 #[.agg #[.int .i64 id, .slice sA n sc], .agg #[.int .i64 k, .int .i64 l, .int .i64 r, .int .i64 f], b] w fun e w' => e = .returned (.tuple #[.slice none 0 0, .int .i64 1]) ∧ Below w.heap.size w w' := by
  have hO := okO_any k l r f
  have hK := fun W => okK_any id sA n sc (by omega) W
  obtain ⟨Y, hY⟩ : ∃ Y, (w.alloc (.cells #[.int .i64 id, .slice sA n sc] 37)).alloc (.cells #[.int .i64 k, .int .i64 l, .int .i64 r, .int .i64 f] 39) = Y := ⟨_, rfl⟩
  have hBY : Below w.heap.size w Y := by rw [← hY]; exact ((Below.refl w.heap.size w).alloc (Nat.le_refl _) _).alloc (by simp) _
  have hYs : Y.heap.size = w.heap.size + 2 := by rw [← hY]; simp
  have hak : Arr Y w.heap.size 37 [.int .i64 id, .slice sA n sc] := by rw [← hY]; exact (Arr.new w 37 [.int .i64 id, .slice sA n sc]).alloc _
  have hao : Arr Y (w.heap.size + 1) 39 [.int .i64 k, .int .i64 l, .int .i64 r, .int .i64 f] := by rw [← hY]; exact Arr.new2 w (.cells #[.int .i64 id, .slice sA n sc] 37) 39 [.int .i64 k, .int .i64 l, .int .i64 r, .int .i64 f]
  have HAK : Hid (∀ W, Below Y.heap.size Y W → Arr W w.heap.size 37 [.int .i64 id, .slice sA n sc]) := fun W h => hak.below h (by omega)
  have HAO : Hid (∀ W, Below Y.heap.size Y W → Arr W (w.heap.size + 1) 39 [.int .i64 k, .int .i64 l, .int .i64 r, .int .i64 f]) := fun W h => hao.below h (by omega)
  have HBY := Lib.hid hBY
  have HLE : Hid (w.heap.size ≤ Y.heap.size) := by unfold Hid; omega
  have B0 := Lib.hid (Below.refl Y.heap.size Y)
  clear hBY hYs hak hao
  by_cases h1 : okO k l r f
  · have h2 : ¬ (k = 0 ∨ (okK id n ∧ id = k)) := fun h => hbad ⟨h1, h⟩
    have hk0 : ¬ k = 0 := fun h => h2 (.inl h)
    have H1 := Lib.hid h1
    have H2 := Lib.hid h2
    clear h1 h2 hbad
    by_cases h3 : id = k
    · have H3 : Hid (¬ okK id n) := fun h => H2.out (.inr ⟨h, h3⟩)
      have h3' : (id == k) = true := by simpa using h3
      subst h3
      go_enter Tryd.func6, Tryd.ntmps6
      go_wp2_with (first
        | (refine wpList_load_arr rfl 39 (.tmp 4) rfl (w.heap.size + 1) rfl (HAO.out _ B0.out) Tryd.underlying39 rfl sizeO rfl ?_)
        | (go_at_call 12; refine (hO Y).mono ?_; rintro e w1 ⟨⟨x, rfl, hx⟩, hb1⟩; obtain rfl : x = true := hx.2 H1.out; have B1 := Lib.hid (B0.out.trans hb1); have co1 := (HAO.out _ B1.out).cell 0; simp only [List.getElem?_cons_zero] at co1; clear hx hb1)
        | (refine wpList_load_arr rfl 37 (.tmp 3) rfl w.heap.size rfl (HAK.out _ B1.out) Tryd.underlying37 rfl sizeK rfl ?_)
        | (go_at_call 13; refine (hK w1).mono ?_; rintro e w2 ⟨⟨x, rfl, hx⟩, hb2⟩; obtain rfl : x = false := (by cases x; rfl; exact absurd (hx.1 rfl) H3.out); have B2 := Lib.hid (B1.out.trans (hb2.mono B1.out.size)); have co2 := (HAO.out _ B2.out).cell 0; have ck2 := (HAK.out _ B2.out).cell 0; simp only [List.getElem?_cons_zero] at co2 ck2; clear hx hb2 co1))
      go_ret2
      exact ⟨rfl, HBY.out.trans (B2.out.mono HLE.out)⟩
    · go_enter Tryd.func6, Tryd.ntmps6
      go_wp2_with (first
        | (refine wpList_load_arr rfl 39 (.tmp 4) rfl (w.heap.size + 1) rfl (HAO.out _ B0.out) Tryd.underlying39 rfl sizeO rfl ?_)
        | (go_at_call 12; refine (hO Y).mono ?_; rintro e w1 ⟨⟨x, rfl, hx⟩, hb1⟩; obtain rfl : x = true := hx.2 H1.out; have B1 := Lib.hid (B0.out.trans hb1); have co1 := (HAO.out _ B1.out).cell 0; simp only [List.getElem?_cons_zero] at co1; clear hx hb1)
        | (refine wpList_load_arr rfl 37 (.tmp 3) rfl w.heap.size rfl (HAK.out _ B1.out) Tryd.underlying37 rfl sizeK rfl ?_)
        | (go_at_call 13; refine (hK w1).mono ?_; rintro e w2 ⟨⟨x, rfl, hx⟩, hb2⟩;  have B2 := Lib.hid (B1.out.trans (hb2.mono B1.out.size)); have co2 := (HAO.out _ B2.out).cell 0; have ck2 := (HAK.out _ B2.out).cell 0; simp only [List.getElem?_cons_zero] at co2 ck2; clear hx hb2 co1))
      all_goals go_ret2
      all_goals exact ⟨rfl, HBY.out.trans (B2.out.mono HLE.out)⟩
  · have H1 := Lib.hid h1
    clear h1 hbad
    go_enter Tryd.func6, Tryd.ntmps6
    go_wp2_with (first
      | (refine wpList_load_arr rfl 39 (.tmp 4) rfl (w.heap.size + 1) rfl (HAO.out _ B0.out) Tryd.underlying39 rfl sizeO rfl ?_)
      | (go_at_call 12; refine (hO Y).mono ?_; rintro e w1 ⟨⟨x, rfl, hx⟩, hb1⟩; obtain rfl : x = false := (by cases x; rfl; exact absurd (hx.1 rfl) H1.out); have B1 := Lib.hid (B0.out.trans hb1); have co1 := (HAO.out _ B1.out).cell 0; simp only [List.getElem?_cons_zero] at co1; clear hx hb1))
    go_ret2
    exact ⟨rfl, HBY.out.trans (B1.out.mono HLE.out)⟩
/-- The envelope in three rows. -/
theorem wrap_concat (k l r f : Nat) (sec b : List Nat) (pA : Option Addr) (pc : Nat) (hlen : b.length ≤ 90000) (g3 c3 g4 c4 : Nat) (w4 : World) (h3 : RdN w4.heap.size w4 (some ⟨g3, 0, none⟩) (headL k l r f)) (h4 : RdN w4.heap.size w4 (some ⟨g4, 0, none⟩) (printL k sec (headL k l r f) b)) (h5 : RdN w4.heap.size w4 pA b) :
    Calls Tryd.prog 15 #[.slice (some ⟨w4.heap.size, 0, none⟩) 3 3] (w4.alloc (.cells #[.slice (some ⟨g3, 0, none⟩) 11 c3, .slice (some ⟨g4, 0, none⟩) 16 c4, .slice pA b.length pc] 35)) fun e w' => (∃ v', e = .returned v' ∧ Hid (w'.ownsRow w4.heap.size 5 1 v' (wrapL k l r f sec b).length (u8s (wrapL k l r f sec b)))) ∧ Below w4.heap.size w4 w' := by
  have hcat : catL [⟨some ⟨g3, 0, none⟩, c3, headL k l r f⟩, ⟨some ⟨g4, 0, none⟩, c4, printL k sec (headL k l r f) b⟩, ⟨pA, pc, b⟩] = wrapL k l r f sec b := by simp [catL, wrapL]
  obtain ⟨V, hV⟩ : ∃ V, w4.alloc (.cells #[.slice (some ⟨g3, 0, none⟩) 11 c3, .slice (some ⟨g4, 0, none⟩) 16 c4, .slice pA b.length pc] 35) = V := ⟨_, rfl⟩
  have hB : Below w4.heap.size w4 V := by rw [← hV]; exact (Below.refl _ w4).alloc (Nat.le_refl _) _
  have hA : Arr V w4.heap.size 35 [.slice (some ⟨g3, 0, none⟩) 11 c3, .slice (some ⟨g4, 0, none⟩) 16 c4, .slice pA b.length pc] := by rw [← hV]; exact Arr.new w4 _ _
  have h := concat_any [⟨some ⟨g3, 0, none⟩, c3, headL k l r f⟩, ⟨some ⟨g4, 0, none⟩, c4, printL k sec (headL k l r f) b⟩, ⟨pA, pc, b⟩] w4.heap.size V hA.lt (fun i p hp => by
    match i, hp with
    | 0, hp => cases hp; exact ⟨by rw [hA.cell, headL_len]; rfl, (h3.below hB (Nat.le_refl _)).mono hB.size⟩
    | 1, hp => cases hp; exact ⟨by rw [hA.cell, printL_len]; rfl, (h4.below hB (Nat.le_refl _)).mono hB.size⟩
    | 2, hp => cases hp; exact ⟨by rw [hA.cell]; rfl, (h5.below hB (Nat.le_refl _)).mono hB.size⟩) (by simp) (by rw [hcat, wrapL_len]; omega) (by rw [hcat, wrapL_len]; omega)
  rw [hcat] at h
  rw [hV]
  exact h.mono fun e w' ⟨⟨v', he, ho⟩, hb⟩ => ⟨⟨v', he, own_base ho hB.size⟩, hB.trans (hb.mono hB.size)⟩
set_option maxHeartbeats 3200000 in
set_option maxRecDepth 100000 in
theorem wrap_ok (id : Int) (sA : Option Addr) (sc : Nat) (sec : List Nat) (hsb : ∀ x ∈ sec, x < 256) (hsc : sec.length ≤ sc) (hsl : sec.length ≤ 1000000) (k l r f : Nat) (ho : okO k l r f) (hw : okW id sec.length k) (pA : Option Addr) (pc : Nat) (b : List Nat) (hpb : ∀ x ∈ b, x < 256) (hpl : b.length ≤ 4096) (w : World)
    (hrs : RdN w.heap.size w sA sec) (hrp : RdN w.heap.size w pA b) (hT : Tabs w) :
    Calls Tryd.prog 6 #[.agg #[.int .i64 id, .slice sA sec.length sc], .agg #[.int .i64 k, .int .i64 l, .int .i64 r, .int .i64 f], .slice pA b.length pc] w fun e w' => (∃ v', e = .returned (.tuple #[v', .int .i64 0]) ∧ Hid (w'.ownsRow w.heap.size 5 1 v' (wrapL k l r f sec b).length (u8s (wrapL k l r f sec b)))) ∧ Below w.heap.size w w' := by
  have hO := okO_any k l r f
  have hK := fun W => okK_any id sA sec.length sc (by omega) W
  have hH := fun W => headOf_any k l r f (by unfold okO okIn at ho; omega) (by unfold okO okIn at ho; omega) (by unfold okO okIn at ho; omega) W
  have hHDl := headL_len k l r f
  have hHDb := headL_lt k l r f
  have hC := wrap_concat k l r f sec b pA pc (by omega)
  obtain ⟨Y, hY⟩ : ∃ Y, (w.alloc (.cells #[.int .i64 id, .slice sA sec.length sc] 37)).alloc (.cells #[.int .i64 k, .int .i64 l, .int .i64 r, .int .i64 f] 39) = Y := ⟨_, rfl⟩
  have hBY : Below w.heap.size w Y := by rw [← hY]; exact ((Below.refl w.heap.size w).alloc (Nat.le_refl _) _).alloc (by simp) _
  have hYs : Y.heap.size = w.heap.size + 2 := by rw [← hY]; simp
  have hak : Arr Y w.heap.size 37 [.int .i64 id, .slice sA sec.length sc] := by rw [← hY]; exact (Arr.new w 37 [.int .i64 id, .slice sA sec.length sc]).alloc _
  have hao : Arr Y (w.heap.size + 1) 39 [.int .i64 k, .int .i64 l, .int .i64 r, .int .i64 f] := by rw [← hY]; exact Arr.new2 w (.cells #[.int .i64 id, .slice sA sec.length sc] 37) 39 [.int .i64 k, .int .i64 l, .int .i64 r, .int .i64 f]
  have HAO : Hid (∀ W, Below Y.heap.size Y W → Arr W (w.heap.size + 1) 39 [.int .i64 k, .int .i64 l, .int .i64 r, .int .i64 f]) := fun W h => hao.below h (by omega)
  have HRS : Hid (∀ W, Below Y.heap.size Y W → RdN W.heap.size W sA sec) := fun W h => ((hrs.below hBY (Nat.le_refl _)).below h (by omega)).mono (by have := h.size; omega)
  have HRP : Hid (∀ W, Below Y.heap.size Y W → RdN W.heap.size W pA b) := fun W h => ((hrp.below hBY (Nat.le_refl _)).below h (by omega)).mono (by have := h.size; omega)
  have HTY := Lib.hid (hT.below hBY hT.pos)
  have HPO : Hid (2 < Y.heap.size) := by have := hT.pos; unfold Hid; omega
  have HBY := Lib.hid hBY
  have HLE : Hid (w.heap.size ≤ Y.heap.size) := by unfold Hid; omega
  have B0 := Lib.hid (Below.refl Y.heap.size Y)
  have H1 := Lib.hid ho
  by_cases hk0 : k = 0
  · subst hk0
    have hF := fun g c (hc : 11 ≤ c) (hm : c ≤ 9223372036854775807) W hs hh hp ht => fprint_any 0 none 0 [] (by simp) (Nat.le_refl _) (by decide) g 0 c (headL 0 l r f) hHDb hHDl hc hm pA pc b hpb (by omega) W hs hh hp ht
    rw [show printL 0 [] (headL 0 l r f) b = printL ((0 : Nat) : Int) sec (headL 0 l r f) b by unfold printL; rw [if_pos rfl, if_pos (show ((0 : Nat) : Int) = 0 from rfl)]] at hF
    obtain ⟨HD, hHD⟩ : ∃ HD, headL 0 l r f = HD := ⟨_, rfl⟩
    obtain ⟨FP, hFP⟩ : ∃ FP, printL ((0 : Nat) : Int) sec HD b = FP := ⟨_, rfl⟩
    obtain ⟨WL, hWL⟩ : ∃ WL, wrapL 0 l r f sec b = WL := ⟨_, rfl⟩
    rw [hWL] at hC ⊢
    rw [hHD] at hH hHDl hHDb hC hF
    rw [hFP] at hC hF
    have z0 : ((0 : Nat) : Int) = 0 := rfl
    rw [z0] at hO hH hY H1 HAO ⊢
    clear hHD hFP hWL ho hw hK hHDb z0
    obtain ⟨LY, hLY⟩ : ∃ LY, Y.heap.size = LY := ⟨_, rfl⟩
    clear hBY hYs hao hLY LY
    have HAKY := Lib.hid hak
    have HLT : Hid (w.heap.size < Y.heap.size) := hak.lt
    clear hak
    go_enter Tryd.func6, Tryd.ntmps6
    go_wp2_with (first
      | (refine wpList_load_arr rfl 39 (.tmp 4) rfl (w.heap.size + 1) rfl (HAO.out _ B0.out) Tryd.underlying39 rfl sizeO rfl ?_)
      | (go_at_call 12; refine (hO Y).mono ?_; rintro e w1 ⟨⟨x, rfl, hx⟩, hb1⟩; obtain rfl : x = true := hx.2 H1.out; have B1 := Lib.hid (B0.out.trans hb1); have co1 := (HAO.out _ B1.out).cell 0; simp only [List.getElem?_cons_zero] at co1; clear hx hb1)
      | (refine wpList_store_arr rfl 37 (.tmp 3) (.tmp 15) rfl w.heap.size rfl (vs := [.int .i64 0, .slice none 0 0]) rfl (HAKY.out.below B1.out HLT.out) sizeK rfl rfl (by simp [Value.oneCell']) ?_; intro W2 A2 B2 hsz2 O2; have HW2 := Lib.hid ((HBY.out.trans (B1.out.mono HLE.out)).trans B2.out); have hz2 : w.heap.size < W2.heap.size := (by have := A2.out.lt; omega); have HAO2 := Lib.hid (show ∀ W, Below W2.heap.size W2 W → Arr W (w.heap.size + 1) 39 _ from fun W h => ((HAO.out _ B1.out).same O2.out (by omega)).below h (((HAO.out _ B1.out).same O2.out (by omega)).lt)); have HAK := Lib.hid (show ∀ W, Below W2.heap.size W2 W → Arr W w.heap.size 37 _ from fun W h => A2.out.below h A2.out.lt); have HRS := Lib.hid (show ∀ W, Below W2.heap.size W2 W → RdN W.heap.size W none [] from fun W h => RdN.nil _ _ _); have HRP2 := Lib.hid (show ∀ W, Below W2.heap.size W2 W → RdN W.heap.size W pA b from fun W h => ((hrp.below HW2.out (Nat.le_refl _)).below h (by omega)).mono (by have := h.size; omega)); have HT2 := Lib.hid (hT.below HW2.out hT.pos); have BX := Lib.hid (Below.refl W2.heap.size W2); clear HAO HRP HTY HPO HAKY A2 B2 O2 hsz2 B1 co1; have HAO := HAO2; have HRP := HRP2; have HTY := HT2; have HPO : Hid (2 < W2.heap.size) := (by have := hT.pos; unfold Hid; omega); clear HAO2 HRP2 HT2)
      | (refine wpList_load_arr rfl 39 (.tmp 4) rfl (w.heap.size + 1) rfl (HAO.out _ BX.out) Tryd.underlying39 rfl sizeO rfl ?_)
      | (go_at_call 14; refine (hH W2).mono ?_; rintro e w3 ⟨⟨v3, rfl, HO3⟩, hb3⟩; have HO4 := (show World.ownsRow w3 W2.heap.size 5 1 v3 HD.length (u8s HD) from HO3.out); obtain ⟨g3, c3, rfl, hc3, hm3, hg3, hr3⟩ := own_rd HO4 (by rw [hHDl]; decide); rw [hHDl] at hc3; have B3 := Lib.hid (BX.out.trans (hb3.mono BX.out.size)); have HR3 := Lib.hid hr3; rw [hHDl]; clear HO3 HO4 hb3 hr3)
      | (refine wpList_load_arr rfl 37 (.tmp 3) rfl w.heap.size rfl (HAK.out _ B3.out) Tryd.underlying37 rfl sizeK rfl ?_)
      | (go_at_call 16; refine (hF g3 c3 hc3 (by unfold maxLen at hm3; omega) w3 (HRS.out _ B3.out) HR3.out (HRP.out _ B3.out) (HTY.out.below B3.out HPO.out)).mono ?_; rintro e w4 ⟨⟨g4, c4, rfl, hc4, hr4⟩, hb4⟩; have B4 := Lib.hid (B3.out.trans (hb4.mono B3.out.size)); have HR4 := Lib.hid hr4; have HR34 := Lib.hid ((HR3.out.below hb4 (Nat.le_refl _)).mono hb4.size); clear hb4 hr4 HR3)
      | (go_at_call 15; refine (hC g3 c3 g4 c4 w4 HR34.out HR4.out (HRP.out _ B4.out)).mono ?_; rintro e w5 ⟨⟨v5, rfl, HO5⟩, hb5⟩; have B5 := Lib.hid (B4.out.trans (hb5.mono B4.out.size)); have HO6 := (show Hid (w5.ownsRow w4.heap.size 5 1 v5 WL.length (u8s WL)) from HO5); have S4 := Lib.hid B4.out.size; clear hb5 HO5))
    go_ret2
    exact ⟨⟨_, rfl, own_base HO6.out (Nat.le_trans HW2.out.size S4.out)⟩, HW2.out.trans (B5.out.mono HW2.out.size)⟩
  · have hwk : okK id sec.length ∧ id = (k : Int) := (by rcases hw with h | h; exact absurd h (by omega); exact h)
    obtain ⟨hw1, rfl⟩ := hwk
    have hF := fun g c (hc : 11 ≤ c) (hm : c ≤ 9223372036854775807) W hs hh hp ht => fprint_any k sA sc sec hsb hsc (by omega) g 0 c (headL k l r f) hHDb hHDl hc hm pA pc b hpb (by omega) W hs hh hp ht
    obtain ⟨HD, hHD⟩ : ∃ HD, headL k l r f = HD := ⟨_, rfl⟩
    obtain ⟨FP, hFP⟩ : ∃ FP, printL (k : Int) sec HD b = FP := ⟨_, rfl⟩
    obtain ⟨WL, hWL⟩ : ∃ WL, wrapL k l r f sec b = WL := ⟨_, rfl⟩
    rw [hWL] at hC ⊢
    rw [hHD] at hH hHDl hHDb hC hF
    rw [hFP] at hC hF
    have H3 := Lib.hid hw1
    have HAK : Hid (∀ W, Below Y.heap.size Y W → Arr W w.heap.size 37 [.int .i64 k, .slice sA sec.length sc]) := fun W h => hak.below h (by omega)
    have hk0i : ¬ (k : Int) = 0 := by omega
    clear hHD hFP hWL ho hw hw1 hHDb hBY hYs hao hak
    go_enter Tryd.func6, Tryd.ntmps6
    go_wp2_with (first
      | (refine wpList_load_arr rfl 39 (.tmp 4) rfl (w.heap.size + 1) rfl (HAO.out _ B0.out) Tryd.underlying39 rfl sizeO rfl ?_)
      | (go_at_call 12; refine (hO Y).mono ?_; rintro e w1 ⟨⟨x, rfl, hx⟩, hb1⟩; obtain rfl : x = true := hx.2 H1.out; have B1 := Lib.hid (B0.out.trans hb1); have co1 := (HAO.out _ B1.out).cell 0; simp only [List.getElem?_cons_zero] at co1; clear hx hb1)
      | (refine wpList_load_arr rfl 37 (.tmp 3) rfl w.heap.size rfl (HAK.out _ B1.out) Tryd.underlying37 rfl sizeK rfl ?_)
      | (go_at_call 13; refine (hK w1).mono ?_; rintro e w2 ⟨⟨x, rfl, hx⟩, hb2⟩; obtain rfl : x = true := hx.2 H3.out; have BX := Lib.hid (B1.out.trans (hb2.mono B1.out.size)); have co2 := (HAO.out _ BX.out).cell 0; have ck2 := (HAK.out _ BX.out).cell 0; simp only [List.getElem?_cons_zero] at co2 ck2; clear hx hb2 co1)
      | (refine wpList_load_arr rfl 39 (.tmp 4) rfl (w.heap.size + 1) rfl (HAO.out _ BX.out) Tryd.underlying39 rfl sizeO rfl ?_)
      | (go_at_call 14; refine (hH w2).mono ?_; rintro e w3 ⟨⟨v3, rfl, HO3⟩, hb3⟩; have HO4 := (show World.ownsRow w3 w2.heap.size 5 1 v3 HD.length (u8s HD) from HO3.out); obtain ⟨g3, c3, rfl, hc3, hm3, hg3, hr3⟩ := own_rd HO4 (by rw [hHDl]; decide); rw [hHDl] at hc3; have B3 := Lib.hid (BX.out.trans (hb3.mono BX.out.size)); have HR3 := Lib.hid hr3; rw [hHDl]; clear HO3 HO4 hb3 hr3)
      | (refine wpList_load_arr rfl 37 (.tmp 3) rfl w.heap.size rfl (HAK.out _ B3.out) Tryd.underlying37 rfl sizeK rfl ?_)
      | (go_at_call 16; refine (hF g3 c3 hc3 (by unfold maxLen at hm3; omega) w3 (HRS.out _ B3.out) HR3.out (HRP.out _ B3.out) (HTY.out.below B3.out HPO.out)).mono ?_; rintro e w4 ⟨⟨g4, c4, rfl, hc4, hr4⟩, hb4⟩; have B4 := Lib.hid (B3.out.trans (hb4.mono B3.out.size)); have HR4 := Lib.hid hr4; have HR34 := Lib.hid ((HR3.out.below hb4 (Nat.le_refl _)).mono hb4.size); clear hb4 hr4 HR3)
      | (go_at_call 15; refine (hC g3 c3 g4 c4 w4 HR34.out HR4.out (HRP.out _ B4.out)).mono ?_; rintro e w5 ⟨⟨v5, rfl, HO5⟩, hb5⟩; have B5 := Lib.hid (B4.out.trans (hb5.mono B4.out.size)); have HO6 := (show Hid (w5.ownsRow w4.heap.size 5 1 v5 WL.length (u8s WL)) from HO5); have S4 := Lib.hid B4.out.size; clear hb5 HO5))
    go_ret2
    exact ⟨⟨_, rfl, own_base HO6.out (Nat.le_trans HLE.out S4.out)⟩, HBY.out.trans (B5.out.mono HLE.out)⟩
end Go.Proofs.YthdlcpnmldhllaaDoor.sl

/-
  WHAT EVERY LAW OF THE ENVELOPE BEGINS WITH: 'awake'; the laws of nonces.
-/
namespace Go.Proofs.YthdlcpnmldhllaaDoor.sl
open Go.RowKit
theorem RdN.at0 {n₀ g : Nat} {W : World} {l : List Nat} (h : RdN n₀ W (some ⟨g, 0, none⟩) l) {j x : Nat} (hx : l[j]? = some x) : W.cell? ⟨g, j, none⟩ = some (.int .u8 x) := by
  obtain ⟨b, o, e, _, hc⟩ := h (by have := (List.getElem?_eq_some_iff.1 hx).1; omega)
  simp only [Option.some.injEq, Addr.mk.injEq] at e
  obtain ⟨rfl, rfl, _⟩ := e
  have := hc j x hx
  rwa [Nat.zero_add] at this
theorem wrap_seven : wrapL 0 258 0 0 [] [7] = [161, 247, 0, 1, 2, 0, 0, 0, 0, 0, 0, 0, 0, 0, 0, 0, 0, 0, 0, 0, 0, 0, 0, 0, 0, 0, 0, 7] := by
  unfold wrapL printL
  rw [if_pos (show ((0 : Nat) : Int) = 0 from rfl)]
  decide
end Go.Proofs.YthdlcpnmldhllaaDoor.sl

/-
  A KEY AND AN OUTER THAT CAME IN AS ARGUMENTS; bytes as a string, written out.
-/
namespace Go.Proofs.YthdlcpnmldhllaaDoor.sl
open Go.RowKit Go.ChangeShapes Go.WideShapes
set_option linter.unusedVariables false
section
variable {H : Type} {enc : TypeId × Value → H} {P : Program} {w : World} {held : Bool}
/-- Some cells read at a type. -/
def Rdq (enc : TypeId × Value → H) (P : Program) (w : World) (held : Bool) (t : TypeId) (cs : List Value) : Prop := ∃ fuel x, DataW.trod enc P w 0 (fun _ => true) held fuel t cs = some x
theorem rdq_struct {t : TypeId} {fs : Array Field} {cs : List Value} (ht : P.underlying t = some (.struct fs)) (h : Rdq enc P w held t cs) : cs.length = P.cellsOf t ∧ ∀ (i : Nat) (f : Field), fs[i]? = some f → Rdq enc P w held f.type ((cs.drop f.offset).take (P.cellsOf f.type)) := by
  obtain ⟨fuel, x, hx⟩ := h
  obtain ⟨xs, n, _, rfl, hl, hlen, hf⟩ := DataW.trod_struct ht hx
  refine ⟨hl, fun i f hif => ?_⟩
  have hi : i < xs.length := by
    rw [hlen]
    exact (Array.getElem?_eq_some_iff.1 hif).1
  exact ⟨n, xs[i], by rw [hf i f hif, List.getElem?_eq_getElem hi]⟩
theorem rdq_int {t : TypeId} {k : IntKind} {cs : List Value} (ht : P.underlying t = some (.int k)) (h : Rdq enc P w held t cs) : ∃ n, cs = [.int k n] ∧ (Lit.int k n).wf = true := by
  obtain ⟨fuel, x, hx⟩ := h
  obtain ⟨n, e, _, hw⟩ := DataW.trod_int ht hx
  exact ⟨n, e, hw⟩
end
set_option maxRecDepth 100000 in
theorem rdq_bytes {H : Type} {enc : TypeId × Value → H} {W : World} {held : Bool} {v : Value} (h : Rdq enc Tryd.prog W held 35 [v]) : ∃ a cap b, v = .slice a b.length cap ∧ InB W a b.length cap b := by
  obtain ⟨fuel, x, hf⟩ := h
  have hf2 := hf
  rcases open_ints Tryd.underlying35 Tryd.underlying5 (by kernel_rfl) hf with ⟨hcs, _⟩ | ⟨x, l, c, zs, hcs, _⟩
  · simp at hcs
    subst hcs
    obtain ⟨b, hb⟩ := inB_of hf2
    obtain rfl : b = [] := List.eq_nil_of_length_eq_zero hb.1
    exact ⟨none, 0, [], rfl, hb⟩
  · simp at hcs
    subst hcs
    obtain ⟨b, hb⟩ := inB_of hf2
    obtain rfl : b.length = l := hb.1
    exact ⟨_, c, b, rfl, hb⟩
set_option maxRecDepth 100000 in
theorem rdq_key {H : Type} {enc : TypeId × Value → H} {W : World} {held : Bool} {cs : List Value} (h : Rdq enc Tryd.prog W held 37 cs) : ∃ id sA sc sec, cs = [.int .i64 id, .slice sA sec.length sc] ∧ (-9223372036854775808 ≤ id ∧ id ≤ 9223372036854775807) ∧ InB W sA sec.length sc sec := by
  obtain ⟨hl, hf⟩ := rdq_struct Tryd.underlying37 h
  rw [show Tryd.prog.cellsOf 37 = 2 from by kernel_rfl] at hl
  obtain ⟨c0, c1, rfl⟩ : ∃ c0 c1, cs = [c0, c1] := by
    match cs, hl with
    | [c0, c1], _ => exact ⟨c0, c1, rfl⟩
  have h0 : Rdq enc Tryd.prog W held 3 [c0] := by
    have this : Rdq enc Tryd.prog W held 3 (List.take (Tryd.prog.cellsOf 3) (List.drop 0 [c0, c1])) := hf 0 _ rfl
    rw [show Tryd.prog.cellsOf 3 = 1 from by kernel_rfl] at this
    exact this
  have h1 : Rdq enc Tryd.prog W held 35 [c1] := by
    have this : Rdq enc Tryd.prog W held 35 (List.take (Tryd.prog.cellsOf 35) (List.drop 1 [c0, c1])) := hf 1 _ rfl
    rw [show Tryd.prog.cellsOf 35 = 1 from by kernel_rfl] at this
    exact this
  obtain ⟨n0, e0, hw⟩ := rdq_int Tryd.underlying3 h0
  simp only [List.cons.injEq, and_true] at e0
  subst e0
  obtain ⟨a, cap, b, rfl, hb⟩ := rdq_bytes h1
  exact ⟨n0, a, cap, b, rfl, by simpa [Lit.wf, IntKind.min, IntKind.max, IntKind.signed, IntKind.bits] using hw, hb⟩
set_option maxRecDepth 100000 in
theorem rdq_outer {H : Type} {enc : TypeId × Value → H} {W : World} {held : Bool} {cs : List Value} (h : Rdq enc Tryd.prog W held 39 cs) : ∃ k l r f : Int, cs = [.int .i64 k, .int .i64 l, .int .i64 r, .int .i64 f] := by
  obtain ⟨hl, hf⟩ := rdq_struct Tryd.underlying39 h
  rw [show Tryd.prog.cellsOf 39 = 4 from by kernel_rfl] at hl
  obtain ⟨c0, c1, c2, c3, rfl⟩ : ∃ c0 c1 c2 c3, cs = [c0, c1, c2, c3] := by
    match cs, hl with
    | [c0, c1, c2, c3], _ => exact ⟨c0, c1, c2, c3, rfl⟩
  have h0 : Rdq enc Tryd.prog W held 3 [c0] := by
    have this : Rdq enc Tryd.prog W held 3 (List.take (Tryd.prog.cellsOf 3) (List.drop 0 [c0, c1, c2, c3])) := hf 0 _ rfl
    rw [show Tryd.prog.cellsOf 3 = 1 from by kernel_rfl] at this
    exact this
  have h1 : Rdq enc Tryd.prog W held 3 [c1] := by
    have this : Rdq enc Tryd.prog W held 3 (List.take (Tryd.prog.cellsOf 3) (List.drop 1 [c0, c1, c2, c3])) := hf 1 _ rfl
    rw [show Tryd.prog.cellsOf 3 = 1 from by kernel_rfl] at this
    exact this
  have h2 : Rdq enc Tryd.prog W held 3 [c2] := by
    have this : Rdq enc Tryd.prog W held 3 (List.take (Tryd.prog.cellsOf 3) (List.drop 2 [c0, c1, c2, c3])) := hf 2 _ rfl
    rw [show Tryd.prog.cellsOf 3 = 1 from by kernel_rfl] at this
    exact this
  have h3 : Rdq enc Tryd.prog W held 3 [c3] := by
    have this : Rdq enc Tryd.prog W held 3 (List.take (Tryd.prog.cellsOf 3) (List.drop 3 [c0, c1, c2, c3])) := hf 3 _ rfl
    rw [show Tryd.prog.cellsOf 3 = 1 from by kernel_rfl] at this
    exact this
  obtain ⟨n0, e0, _⟩ := rdq_int Tryd.underlying3 h0
  obtain ⟨n1, e1, _⟩ := rdq_int Tryd.underlying3 h1
  obtain ⟨n2, e2, _⟩ := rdq_int Tryd.underlying3 h2
  obtain ⟨n3, e3, _⟩ := rdq_int Tryd.underlying3 h3
  simp only [List.cons.injEq, and_true] at e0 e1 e2 e3
  subst e0 e1 e2 e3
  exact ⟨n0, n1, n2, n3, rfl⟩
set_option maxRecDepth 100000 in
theorem key_of {H : Type} {enc : TypeId × Value → H} {W : World} {held : Bool} {cs : Array Value} {d : DataW H} {ps : List MemPlace} (h : DataW.Trod enc Tryd.prog W 0 (fun _ => true) held 37 (.agg cs) d ps) : ∃ id sA sc sec, cs = #[.int .i64 id, .slice sA sec.length sc] ∧ (-9223372036854775808 ≤ id ∧ id ≤ 9223372036854775807) ∧ InB W sA sec.length sc sec := by
  obtain ⟨fuel, hf⟩ := h
  have hf' : DataW.trod enc Tryd.prog W 0 (fun _ => true) held fuel 37 cs.toList = some (d, ps) := hf
  obtain ⟨id, sA, sc, sec, e, hb⟩ := rdq_key ⟨fuel, (d, ps), hf'⟩
  exact ⟨id, sA, sc, sec, by rw [← e], hb⟩
set_option maxRecDepth 100000 in
theorem outer_of {H : Type} {enc : TypeId × Value → H} {W : World} {held : Bool} {cs : Array Value} {d : DataW H} {ps : List MemPlace} (h : DataW.Trod enc Tryd.prog W 0 (fun _ => true) held 39 (.agg cs) d ps) : ∃ k l r f : Int, cs = #[.int .i64 k, .int .i64 l, .int .i64 r, .int .i64 f] := by
  obtain ⟨fuel, hf⟩ := h
  have hf' : DataW.trod enc Tryd.prog W 0 (fun _ => true) held fuel 39 cs.toList = some (d, ps) := hf
  obtain ⟨k, l, r, f, e⟩ := rdq_outer ⟨fuel, (d, ps), hf'⟩
  exact ⟨k, l, r, f, by rw [← e]⟩
/-- The string that these bytes are. -/
def strB (b : List Nat) := strOfNums (b.map fun n : Nat => (n : Int))
theorem conv_rdE {n₀ : Nat} {W : World} {a : Option Addr} {b : List Nat} (h : RdN n₀ W a b) {len : Nat} (hl : b.length = len) (cap : Nat) : (convert 35 9 (.slice a len cap)).run Tryd.prog W = .ok (.string (strB b)) W := by
  subst hl
  by_cases hz : 0 < b.length
  · obtain ⟨bb, off, rfl, hbb, hc⟩ := h hz
    exact run_convert_bytes_arg W 35 5 Tryd.underlying35 Tryd.underlying5 bb off b.length cap (b.map fun n : Nat => (n : Int)) (by simp) (fun i hi => by
      have hi' : i < b.length := by simpa using hi
      rw [hc i b[i] (List.getElem?_eq_getElem hi'), List.getD_eq_getElem?_getD, List.getElem?_map, List.getElem?_eq_getElem hi']
      rfl) 9 Tryd.underlying9
  · obtain rfl : b = [] := List.eq_nil_of_length_eq_zero (by omega)
    cases a with
    | none => exact run_convert_bytes_nil W 35 5 Tryd.underlying35 Tryd.underlying5 _ cap 9 Tryd.underlying9
    | some x =>
      rw [List.length_nil, run_convert_bytes_string W 35 9 5 _ _ cap Tryd.underlying35 Tryd.underlying5 Tryd.underlying9]
      exact run_bytesToString W x 0 cap [] (by simp [loadCells, loadCellsFrom, Sem.run_pure])
end Go.Proofs.YthdlcpnmldhllaaDoor.sl

/-
  AN ENVELOPE IS NOT MADE: too many bytes.
-/
namespace Go.Proofs.YthdlcpnmldhllaaDoor.sl
open Go.RowKit
set_option maxHeartbeats 1600000 in
set_option maxRecDepth 100000 in
theorem wrap_big (id : Int) (sA : Option Addr) (n sc : Nat) (hn : n ≤ 1000000) (k l r f : Int) (ho : okO k l r f) (hw : okW id n k) (pA : Option Addr) (m pc : Nat) (hbig : 4096 < m) (hm : m ≤ 1000000) (w : World) :
    Calls Tryd.prog 6 #[.agg #[.int .i64 id, .slice sA n sc], .agg #[.int .i64 k, .int .i64 l, .int .i64 r, .int .i64 f], .slice pA m pc] w fun e w' => e = .returned (.tuple #[.slice none 0 0, .int .i64 3]) ∧ Below w.heap.size w w' := by
  have hO := okO_any k l r f
  have hK := fun W => okK_any id sA n sc (by omega) W
  obtain ⟨Y, hY⟩ : ∃ Y, (w.alloc (.cells #[.int .i64 id, .slice sA n sc] 37)).alloc (.cells #[.int .i64 k, .int .i64 l, .int .i64 r, .int .i64 f] 39) = Y := ⟨_, rfl⟩
  have hBY : Below w.heap.size w Y := by rw [← hY]; exact ((Below.refl w.heap.size w).alloc (Nat.le_refl _) _).alloc (by simp) _
  have hYs : Y.heap.size = w.heap.size + 2 := by rw [← hY]; simp
  have hak : Arr Y w.heap.size 37 [.int .i64 id, .slice sA n sc] := by rw [← hY]; exact (Arr.new w 37 [.int .i64 id, .slice sA n sc]).alloc _
  have hao : Arr Y (w.heap.size + 1) 39 [.int .i64 k, .int .i64 l, .int .i64 r, .int .i64 f] := by rw [← hY]; exact Arr.new2 w (.cells #[.int .i64 id, .slice sA n sc] 37) 39 [.int .i64 k, .int .i64 l, .int .i64 r, .int .i64 f]
  have HAK : Hid (∀ W, Below Y.heap.size Y W → Arr W w.heap.size 37 [.int .i64 id, .slice sA n sc]) := fun W h => hak.below h (by omega)
  have HAO : Hid (∀ W, Below Y.heap.size Y W → Arr W (w.heap.size + 1) 39 [.int .i64 k, .int .i64 l, .int .i64 r, .int .i64 f]) := fun W h => hao.below h (by omega)
  have HBY := Lib.hid hBY
  have HLE : Hid (w.heap.size ≤ Y.heap.size) := by unfold Hid; omega
  have HLT : Hid (w.heap.size < Y.heap.size) := by unfold Hid; omega
  have B0 := Lib.hid (Below.refl Y.heap.size Y)
  have H1 := Lib.hid ho
  clear hBY hYs hak hao ho
  by_cases hk0 : k = 0
  · subst hk0
    go_enter Tryd.func6, Tryd.ntmps6
    go_wp2_with (first
      | (refine wpList_load_arr rfl 39 (.tmp 4) rfl (w.heap.size + 1) rfl (HAO.out _ B0.out) Tryd.underlying39 rfl sizeO rfl ?_)
      | (go_at_call 12; refine (hO Y).mono ?_; rintro e w1 ⟨⟨x, rfl, hx⟩, hb1⟩; obtain rfl : x = true := hx.2 H1.out; have B1 := Lib.hid (B0.out.trans hb1); have co1 := (HAO.out _ B1.out).cell 0; simp only [List.getElem?_cons_zero] at co1; clear hx hb1)
      | (refine wpList_store_arr rfl 37 (.tmp 3) (.tmp 15) rfl w.heap.size rfl (vs := [.int .i64 0, .slice none 0 0]) rfl ((HAK.out _ B1.out)) sizeK rfl rfl (by simp [Value.oneCell']) ?_; intro W2 A2 B2 hsz2 O2))
    go_ret2
    exact ⟨rfl, (HBY.out.trans (B1.out.mono HLE.out)).trans B2.out⟩
  · have hwk : okK id n ∧ id = k := by rcases hw with h | h; exact absurd h hk0; exact h
    obtain ⟨hw1, rfl⟩ := hwk
    have H3 := Lib.hid hw1
    clear hw hw1
    go_enter Tryd.func6, Tryd.ntmps6
    go_wp2_with (first
      | (refine wpList_load_arr rfl 39 (.tmp 4) rfl (w.heap.size + 1) rfl (HAO.out _ B0.out) Tryd.underlying39 rfl sizeO rfl ?_)
      | (go_at_call 12; refine (hO Y).mono ?_; rintro e w1 ⟨⟨x, rfl, hx⟩, hb1⟩; obtain rfl : x = true := hx.2 H1.out; have B1 := Lib.hid (B0.out.trans hb1); have co1 := (HAO.out _ B1.out).cell 0; simp only [List.getElem?_cons_zero] at co1; clear hx hb1)
      | (refine wpList_load_arr rfl 37 (.tmp 3) rfl w.heap.size rfl (HAK.out _ B1.out) Tryd.underlying37 rfl sizeK rfl ?_)
      | (go_at_call 13; refine (hK w1).mono ?_; rintro e w2 ⟨⟨x, rfl, hx⟩, hb2⟩; obtain rfl : x = true := hx.2 H3.out; have BX := Lib.hid (B1.out.trans (hb2.mono B1.out.size)); have co2 := (HAO.out _ BX.out).cell 0; have ck2 := (HAK.out _ BX.out).cell 0; simp only [List.getElem?_cons_zero] at co2 ck2; clear hx hb2 co1))
    go_ret2
    exact ⟨rfl, HBY.out.trans (BX.out.mono HLE.out)⟩
end Go.Proofs.YthdlcpnmldhllaaDoor.sl

/-
  WHAT AN ENVELOPE's HEAD TELLS.
-/
namespace Go.Proofs.YthdlcpnmldhllaaDoor.sl
open Go.RowKit
theorem i64_or_nat (a b : Nat) (ha : a < 9223372036854775808) (hb : b < 9223372036854775808) : bits .or .i64 (a : Int) (b : Int) = ((a ||| b : Nat) : Int) := by
  have hx : a ||| b < 2 ^ 63 := Nat.or_lt_two_pow (by omega) (by omega)
  show IntKind.i64.wrap ((BitVec.ofInt 64 (a : Int) ||| BitVec.ofInt 64 (b : Int)).toNat : Int) = _
  rw [BitVec.toNat_or, ofInt_u64 a (by omega), ofInt_u64 b (by omega), IntKind.wrap_i64]
  omega
theorem or_byte64 {p x : Nat} (hp : p < 16777216) (hx : x < 256) : bits .or .i64 ((p : Int) * 256) (x : Int) = ((p * 256 + x : Nat) : Int) := by
  have h1 : p * 256 ||| x = p * 256 + x := by
    have := Nat.shiftLeft_add_eq_or_of_lt (i := 8) (b := x) (by simpa using hx) p
    rw [Nat.shiftLeft_eq] at this
    exact this.symm
  have h2 := i64_or_nat (p * 256) x (by omega) (by omega)
  rw [h1] at h2
  rw [← h2]
  congr 1
theorem word_take {l : List Nat} {k x : Nat} (h : l[k]? = some x) : word (l.take (k + 1)) = word (l.take k) * 256 + x := by
  rw [List.take_add_one, h, Option.toList_some, word_snoc]
set_option maxHeartbeats 1600000 in
set_option maxRecDepth 100000 in
theorem number_any (a : Option Addr) (c : Nat) (l : List Nat) (hb : ∀ x ∈ l, x < 256) (hl : l.length ≤ 4) (n : Nat) (hn : l.length = n) (w : World) (hr : RdN w.heap.size w a l) : Calls Tryd.prog 37 #[.slice a n c] w fun e w' => Tells e (word l) ∧ w' = w := by
  subst hn
  have HR := Lib.hid hr
  clear hr
  go_enter Tryd.func37, Tryd.ntmps37
  go_wp2
  go_loopw [3, 8] (fun nv iv wr => ∃ k : Nat, k ≤ l.length ∧ nv = .int .i64 (word (l.take k)) ∧ iv = .int .i64 k ∧ wr = w) (fun _ iv _ => l.length - (intOf iv).toNat)
  case atStart => exact ⟨0, by omega, rfl, rfl, rfl⟩
  case round =>
    obtain ⟨k, hk, rfl, rfl, rfl⟩ := hrel
    by_cases hlt : k < l.length
    · obtain ⟨x, hx⟩ : ∃ x, l[k]? = some x := ⟨_, List.getElem?_eq_getElem hlt⟩
      have hx8 := hb x (List.mem_of_getElem? hx)
      obtain ⟨b, off, e, _, hc⟩ := HR.out (by omega)
      subst e
      have hco := hc k x hx
      have HW := Lib.hid (word_take hx)
      have hp : word (l.take k) < 16777216 := by
        have h := word_lt (l.take k) fun y hy => hb y (List.mem_of_mem_take hy)
        have h2 : 256 ^ (l.take k).length ≤ 256 ^ 3 := Nat.pow_le_pow_right (by decide) (by rw [List.length_take]; omega)
        have e : (256 : Nat) ^ 3 = 16777216 := by decide
        omega
      have hor := or_byte64 hp hx8
      obtain ⟨P, hP⟩ : ∃ P, word (l.take k) = P := ⟨_, rfl⟩
      rw [hP] at hp hor HW ⊢
      clear hx hc hP
      go_wp2
      go_roundw
      case rel => exact ⟨k + 1, by omega, by rw [HW.out]; go_num, by go_num, by first | rfl | trivial⟩
      case measure => simp [intOf]; omega
    · obtain rfl : k = l.length := by omega
      rw [List.take_length]
      go_wp2
      go_ret
      exact ⟨rfl, by first | rfl | trivial⟩
set_option maxHeartbeats 1600000 in
set_option maxRecDepth 100000 in
theorem equal_any (a : Option Addr) (c : Nat) (l : List Nat) (n : Nat) (hn : l.length = n) (a2 : Option Addr) (c2 : Nat) (l2 : List Nat) (n2 : Nat) (hn2 : l2.length = n2) (w : World) (hr : RdN w.heap.size w a l) (hr2 : RdN w.heap.size w a2 l2) :
    Calls Tryd.prog 19 #[.slice a n c, .slice a2 n2 c2] w fun e w' => e = .returned (.bool ((strB l).toList == (strB l2).toList)) ∧ w' = w := by
  have v1 := conv_rdE hr hn c
  have v2 := conv_rdE hr2 hn2 c2
  obtain ⟨s1, hs1⟩ : ∃ s, strB l = s := ⟨_, rfl⟩
  obtain ⟨s2, hs2⟩ : ∃ s, strB l2 = s := ⟨_, rfl⟩
  rw [hs1] at v1 ⊢
  rw [hs2] at v2 ⊢
  go_enter Tryd.func19, Tryd.ntmps19
  go_wp2
  go_ret
  exact ⟨rfl, rfl⟩
set_option maxHeartbeats 1600000 in
set_option maxRecDepth 100000 in
theorem outerOf_any (a : Option Addr) (c : Nat) (l : List Nat) (hb : ∀ x ∈ l, x < 256) (hl : l.length = 11) (hc : 11 ≤ c) (w : World) (hr : RdN w.heap.size w a l) :
    Calls Tryd.prog 17 #[.slice a 11 c] w fun e w' => e = .returned (.agg #[.int .i64 (word ((l.drop 2).take 1)), .int .i64 (word ((l.drop 3).take 2)), .int .i64 (word ((l.drop 5).take 2)), .int .i64 (word ((l.drop 7).take 4))]) ∧ Below w.heap.size w w' := by
  obtain ⟨b, off, rfl, hbw, hcc⟩ := hr (by omega)
  have h1 := fun W (h : RdN (World.heap W).size W (some ⟨b, off + 2, none⟩) ((l.drop 2).take 1)) cc => number_any (some ⟨b, off + 2, none⟩) cc ((l.drop 2).take 1) (fun x hx => hb x (List.mem_of_mem_drop (List.mem_of_mem_take hx))) (by simp; omega) 1 (by simp; omega) W h
  have h2 := fun W (h : RdN (World.heap W).size W (some ⟨b, off + 3, none⟩) ((l.drop 3).take 2)) cc => number_any (some ⟨b, off + 3, none⟩) cc ((l.drop 3).take 2) (fun x hx => hb x (List.mem_of_mem_drop (List.mem_of_mem_take hx))) (by simp; omega) 2 (by simp; omega) W h
  have h3 := fun W (h : RdN (World.heap W).size W (some ⟨b, off + 5, none⟩) ((l.drop 5).take 2)) cc => number_any (some ⟨b, off + 5, none⟩) cc ((l.drop 5).take 2) (fun x hx => hb x (List.mem_of_mem_drop (List.mem_of_mem_take hx))) (by simp; omega) 2 (by simp; omega) W h
  have h4 := fun W (h : RdN (World.heap W).size W (some ⟨b, off + 7, none⟩) ((l.drop 7).take 4)) cc => number_any (some ⟨b, off + 7, none⟩) cc ((l.drop 7).take 4) (fun x hx => hb x (List.mem_of_mem_drop (List.mem_of_mem_take hx))) (by simp; omega) 4 (by simp; omega) W h
  have hrX : RdN (w.alloc (.cells #[.int .i64 0, .int .i64 0, .int .i64 0, .int .i64 0] 39)).heap.size (w.alloc (.cells #[.int .i64 0, .int .i64 0, .int .i64 0, .int .i64 0] 39)).drew (some ⟨b, off, none⟩) l :=
    (hr.below ((Below.refl w.heap.size w).alloc (Nat.le_refl _) (.cells #[.int .i64 0, .int .i64 0, .int .i64 0, .int .i64 0] 39)) (Nat.le_refl _)).mono (by simp)
  have n1 := h1 (w.alloc (.cells #[.int .i64 0, .int .i64 0, .int .i64 0, .int .i64 0] 39)).drew (hrX.part 2 1) (c - 2)
  have n2 := h2 (w.alloc (.cells #[.int .i64 0, .int .i64 0, .int .i64 0, .int .i64 0] 39)).drew (hrX.part 3 2) (c - 3)
  have n3 := h3 (w.alloc (.cells #[.int .i64 0, .int .i64 0, .int .i64 0, .int .i64 0] 39)).drew (hrX.part 5 2) (c - 5)
  have n4 := h4 (w.alloc (.cells #[.int .i64 0, .int .i64 0, .int .i64 0, .int .i64 0] 39)).drew (hrX.part 7 4) (c - 7)
  have k0 : ¬ c < 3 := by omega
  have k1 : ¬ c < 5 := by omega
  have k2 : ¬ c < 7 := by omega
  have k3 : ¬ c < 11 := by omega
  have kp3 : (3 : Int) ≤ (c : Int) := by omega
  have kp5 : (5 : Int) ≤ (c : Int) := by omega
  have kp7 : (7 : Int) ≤ (c : Int) := by omega
  have kp11 : (11 : Int) ≤ (c : Int) := by omega
  have m2 : ¬ c = 2 := by omega
  have m3 : ¬ c = 3 := by omega
  have m5 : ¬ c = 5 := by omega
  have m7 : ¬ c = 7 := by omega
  obtain ⟨A, hA⟩ : ∃ A, word ((l.drop 2).take 1) = A := ⟨_, rfl⟩
  obtain ⟨B, hB⟩ : ∃ B, word ((l.drop 3).take 2) = B := ⟨_, rfl⟩
  obtain ⟨C, hC⟩ : ∃ C, word ((l.drop 5).take 2) = C := ⟨_, rfl⟩
  obtain ⟨D, hD⟩ : ∃ D, word ((l.drop 7).take 4) = D := ⟨_, rfl⟩
  rw [hA] at n1 ⊢
  rw [hB] at n2 ⊢
  rw [hC] at n3 ⊢
  rw [hD] at n4 ⊢
  clear h1 h2 h3 h4 hA hB hC hD hrX hcc
  obtain ⟨o2, ho2⟩ : ∃ o, off + 2 = o := ⟨_, rfl⟩
  rw [ho2] at n1
  obtain ⟨o3, ho3⟩ : ∃ o, off + 3 = o := ⟨_, rfl⟩
  rw [ho3] at n2
  obtain ⟨o5, ho5⟩ : ∃ o, off + 5 = o := ⟨_, rfl⟩
  rw [ho5] at n3
  obtain ⟨o7, ho7⟩ : ∃ o, off + 7 = o := ⟨_, rfl⟩
  rw [ho7] at n4
  go_enter Tryd.func17, Tryd.ntmps17
  go_wp2
  have q1 := n1.mono fun e w' (h : Tells e A ∧ w' = _) => (show e = .returned (.int .i64 A) ∧ w' = _ from h)
  have q2 := n2.mono fun e w' (h : Tells e B ∧ w' = _) => (show e = .returned (.int .i64 B) ∧ w' = _ from h)
  have q3 := n3.mono fun e w' (h : Tells e C ∧ w' = _) => (show e = .returned (.int .i64 C) ∧ w' = _ from h)
  have q4 := n4.mono fun e w' (h : Tells e D ∧ w' = _) => (show e = .returned (.int .i64 D) ∧ w' = _ from h)
  clear n1 n2 n3 n4
  refine wp_region_still_tail 13 (by kernel_rfl) (by kernel_rfl) ?_
  simp only [List.take_succ_cons, List.take_zero, List.drop_succ_cons, List.drop_zero]
  still_step
  still_step
  still_call q1
  still_step
  still_step
  still_call q2
  still_step
  still_step
  still_call q3
  still_step
  still_step
  still_call q4
  still_step
  refine wpStill_nil ?_
  change wpList _ _ _ _ _ (w.alloc (.cells #[.int .i64 0, .int .i64 0, .int .i64 0, .int .i64 0] 39)).drew
  have AX : Arr (w.alloc (.cells #[.int .i64 0, .int .i64 0, .int .i64 0, .int .i64 0] 39)).drew w.heap.size 39 [.int .i64 0, .int .i64 0, .int .i64 0, .int .i64 0] := Arr.new w 39 [.int .i64 0, .int .i64 0, .int .i64 0, .int .i64 0]
  have BX := Lib.hid ((Below.refl w.heap.size w).alloc (Nat.le_refl _) (.cells #[.int .i64 0, .int .i64 0, .int .i64 0, .int .i64 0] 39)).drew
  generalize (w.alloc (.cells #[.int .i64 0, .int .i64 0, .int .i64 0, .int .i64 0] 39)).drew = w2 at AX BX ⊢
  have HAX := Lib.hid AX
  clear AX q1 q2 q3 q4
  go_wp2_with (refine wpList_store_arr rfl 39 (.tmp 2) (.tmp 15) rfl w.heap.size rfl (vs := [.int .i64 A, .int .i64 B, .int .i64 C, .int .i64 D]) rfl HAX.out sizeO rfl rfl (by simp [Value.oneCell']) ?_; intro W3 A3 B3 hsz3 O3)
  refine bodyPost_ret (results_arr rfl rfl A3.out Tryd.underlying39 rfl sizeO rfl) rfl ?_
  exact ⟨rfl, BX.out.trans B3.out⟩
end Go.Proofs.YthdlcpnmldhllaaDoor.sl

/-
  AN ENVELOPE WITHOUT A KEY IS OPENED: the program's Open.
-/
namespace Go.Proofs.YthdlcpnmldhllaaDoor.sl
open Go.RowKit
theorem results_cell2 {P : Program} {fn : Func} {tmps : Array Value} {w : World} {a t s g : Nat} {vs : List Value} {d : TypeDesc} {T : TypeId} (hf : fn.results = #[.cell a t, .tmp s]) (ha : tmps.getD a undef = .pointer (some ⟨g, 0, none⟩)) (hc : Arr w g T vs)
    (hu : P.underlying t = some d) (hd : d.isRow = true) (hi : (P.info? t).map (·.size) = some vs.length) : (results fn tmps).run P w = .ok (.tuple #[.agg vs.toArray, tmps.getD s undef]) w := by
  unfold results
  rw [hf]
  have h0 := run_loadVar_mid w g 0 t vs d hc.range hu hd hi
  have ha' : tmps[a]?.getD undef = .pointer (some ⟨g, 0, none⟩) := by simpa using ha
  simp [ha', asAddr, h0, Result.andThen_ok]
theorem results_cell3 {P : Program} {fn : Func} {tmps : Array Value} {w : World} {a t s u g : Nat} {vs : List Value} {d : TypeDesc} {T : TypeId} (hf : fn.results = #[.cell a t, .tmp s, .tmp u]) (ha : tmps.getD a undef = .pointer (some ⟨g, 0, none⟩)) (hc : Arr w g T vs)
    (hu : P.underlying t = some d) (hd : d.isRow = true) (hi : (P.info? t).map (·.size) = some vs.length) : (results fn tmps).run P w = .ok (.tuple #[.agg vs.toArray, tmps.getD s undef, tmps.getD u undef]) w := by
  unfold results
  rw [hf]
  have h0 := run_loadVar_mid w g 0 t vs d hc.range hu hd hi
  have ha' : tmps[a]?.getD undef = .pointer (some ⟨g, 0, none⟩) := by simpa using ha
  simp [ha', asAddr, h0, Result.andThen_ok]
theorem step_of {P : Program} {w : World} {ops : Array Oper} {o : Oper} {a : Act} {K : Act → World → Prop} {Q : Exit → Act → World → Prop} {E : Prop} (hgd : o.guard = none) (h : Oper.wp P o a w K Q) : if Region.wanted o (yielded ops a.tmps) = true then Oper.wp P o a w K Q else E := by
  rw [if_pos (by simp [Region.wanted, hgd])]; exact h
theorem own_row_other {w : World} {g base n : Nat} {v : Value} {xs : List Value} {cells : Array Value} (h : w.ownsRow base 5 1 v n xs) (hg : g < base) : (w.setRow g cells).ownsRow base 5 1 v n xs :=
  h.kept (row := some g) ⟨rfl, rfl, rfl, by simp [World.setRow], fun k _ hne => setRow_other w g k _ (fun e => hne (by rw [e]))⟩ (by
    cases hb : v.ownBlock with
    | none => exact .inl rfl
    | some k =>
      right
      intro e
      have := (h.lt k hb).1
      cases e
      omega)
/-- Bytes put behind nothing, at a step of a region that draws. -/
theorem step_append_nil {w : World} {ops : Array Oper} {o : Oper} {a : Act} {K : Act → World → Prop} {Q : Exit → Act → World → Prop} {E : Prop} {i0 : TypeInfo} (hi : Tryd.prog.info? 5 = some i0) (hz0 : i0.zero = some (.int .u8 0)) (hz1 : i0.size = 1) (hz2 : i0.bytes = 1) (hgd : o.guard = none) (s x : Operand)
    (ho : o.op = .call { callee := .builtin .append, args := #[s, x], argTypes := #[35, 35] }) (hs : a.eval s = .slice none 0 0)
    {m c : Nat} {ad : Option Addr} {bs : List Nat} (hx : a.eval x = .slice ad m c) (hm : bs.length = m) (hr : RdN w.heap.size w ad bs) (hlen : bs.length ≤ 100000)
    (h : ∀ v' w', Hid (w'.ownsRow w.heap.size 5 1 v' bs.length (u8s bs)) → Hid (Below w.heap.size w w') → K (a.put o.dst v') w') : if Region.wanted o (yielded ops a.tmps) = true then Oper.wp Tryd.prog o a w K Q else E := by
  have hw : Region.wanted o (yielded ops a.tmps) = true := by simp [Region.wanted, hgd]
  rw [if_pos hw]
  have own0 : w.ownsRow w.heap.size 5 1 (.slice none 0 0) 0 (u8s []) := World.ownsRow_nil _ _ _ _
  subst hm
  by_cases h0 : bs = []
  · subst h0
    unfold Oper.wp
    cases ad with
    | none =>
      have hrun := run_append_nil0 (P := Tryd.prog) (w := w) w.heap.size 35 o.type 5 i0 1 Tryd.underlying35 hi own0 c
      simp only [List.length_nil] at hx
      simp [execOp, ho, resolve, invoke, builtin, hs, hx, hrun, Result.andThen]
      exact h _ w own0 (Below.refl _ _)
    | some ad' =>
      have hrun : (Builtin.append_ #[35, 35] o.type #[.slice none 0 0, .slice (some ad') ([] : List Nat).length c]).run Tryd.prog w = .ok (.slice none 0 0) w := by simp [Builtin.append_, run_underlying Tryd.underlying35, sizeOf, typeInfo, hi, Builtin.lenOf, Builtin.firstCells, loadCells, loadCellsFrom]
      simp only [List.length_nil] at hx hrun
      simp [execOp, ho, resolve, invoke, builtin, hs, hx, hrun, Result.andThen]
      exact h _ w own0 (Below.refl _ _)
  · have hp := List.length_pos_iff.2 h0
    obtain ⟨bb, oo, rfl, _, hcc⟩ := hr hp
    refine wp_append_lies w s x 35 ho w.heap.size 5 i0 (.int .u8 0) 1 1 Tryd.underlying35 hi hz0 hz1 hz2 rfl (by decide) (.slice none 0 0) 0 [] hs own0 ⟨bb, oo, none⟩ bs.length c (u8s bs) hx (by rw [u8s_len, Nat.mul_one]) (fun j u hu => ?_) u8s_mem hp (by unfold maxLen; omega) (by omega) (Nat.le_refl _) _ rfl ?_
    · have hj' : (bs[j]?).map (fun n : Nat => Value.int .u8 (n : Int)) = some u := by rw [← hu]; simp [u8s]
      cases hx2 : bs[j]? with
      | none => rw [hx2] at hj'; cases hj'
      | some y =>
        rw [hx2] at hj'
        cases hj'
        rw [show (⟨bb, oo, none⟩ : Addr).add j = ⟨bb, oo + j, none⟩ by unfold Addr.add; split <;> simp_all]
        exact hcc j y hx2
    · intro g cap w' h2 h3 _ _
      refine h _ w' ?_ ((Below.refl w.heap.size w).grown h3 (Nat.le_refl _) (fun k hk => by cases hk))
      simpa [Hid] using h2
set_option maxHeartbeats 1600000 in
set_option maxRecDepth 100000 in
theorem find_zero (ks : Value) (w : World) : Calls Tryd.prog 18 #[ks, .int .i64 0] w fun e w' => e = .returned (.tuple #[.agg #[.int .i64 0, .slice none 0 0], .bool true]) ∧ Below w.heap.size w w' := by
  obtain ⟨Y, hY⟩ : ∃ Y, (w.alloc (.cells #[.int .i64 0] 3)).alloc (.cells #[.int .i64 0, .slice none 0 0] 37) = Y := ⟨_, rfl⟩
  have AK : Hid (Arr Y (w.heap.size + 1) 37 [.int .i64 0, .slice none 0 0]) := by rw [← hY]; exact Arr.new2 w (.cells #[.int .i64 0] 3) 37 [.int .i64 0, .slice none 0 0]
  have ci : Y.cell? ⟨w.heap.size, 0, none⟩ = some (.int .i64 0) := by rw [← hY]; exact ((Arr.new w 3 [.int .i64 0]).alloc _).cell 0
  have HB : Hid (Below w.heap.size w Y) := by rw [← hY]; exact ((Below.refl w.heap.size w).alloc (Nat.le_refl _) _).alloc (by simp) _
  go_enter Tryd.func18, Tryd.ntmps18
  go_wp2_with (refine wpList_store_arr rfl 37 (.tmp 4) (.tmp 9) rfl (w.heap.size + 1) rfl (vs := [.int .i64 0, .slice none 0 0]) rfl AK.out sizeK rfl rfl (by simp [Value.oneCell']) ?_; intro W2 A2 B2 hsz2 O2)
  refine bodyPost_ret (results_cell2 rfl rfl A2.out Tryd.underlying37 rfl sizeK) rfl ?_
  exact ⟨rfl, HB.out.trans (B2.out.mono (by omega))⟩
theorem head_words (k l r f : Nat) (h1 : k < 256) (h2 : l < 65536) (h3 : r < 65536) (h4 : f < 4294967296) : word (((headL k l r f).drop 2).take 1) = k ∧ word (((headL k l r f).drop 3).take 2) = l ∧ word (((headL k l r f).drop 5).take 2) = r ∧ word (((headL k l r f).drop 7).take 4) = f := by
  have hd : headL k l r f = [161, 247, k % 256, l / 256 % 256, l % 256, r / 256 % 256, r % 256, f / 16777216 % 256, f / 65536 % 256, f / 256 % 256, f % 256] := by simp [headL, beN, List.range_succ]
  rw [hd]
  refine ⟨?_, ?_, ?_, ?_⟩ <;> simp [word] <;> omega
set_option maxHeartbeats 3200000 in
set_option maxRecDepth 100000 in
theorem open_plain (ks : Value) (g c : Nat) (l r f : Nat) (ho : okO (0 : Nat) l r f) (sec pk : List Nat) (hpb : ∀ x ∈ pk, x < 256) (hpl : pk.length ≤ 4096) (w : World) (hc : 27 + pk.length ≤ c) (hcm : c ≤ 9223372036854775807) (hr : RdN w.heap.size w (some ⟨g, 0, none⟩) (wrapL 0 l r f sec pk)) (hT : Tabs w) :
    Calls Tryd.prog 7 #[ks, .slice (some ⟨g, 0, none⟩) (27 + pk.length) c] w fun e w' => (∃ v', e = .returned (.tuple #[.agg #[.int .i64 0, .int .i64 l, .int .i64 r, .int .i64 f], v', .int .i64 0]) ∧ Hid (w'.ownsRow w.heap.size 5 1 v' pk.length (u8s pk))) ∧ Below w.heap.size w w' := by
  obtain ⟨i0, hi, hz0, hz1, hz2⟩ := info_parts Tryd.info5
  have ho2 := ho
  unfold okO okIn at ho2
  have hO := okO_any (0 : Nat) l r f
  have hwd := head_words 0 l r f (by omega) (by omega) (by omega) (by omega)
  have hHl := headL_len 0 l r f
  have hHb := headL_lt 0 l r f
  have hWn := wrapL_len 0 l r f sec pk
  have hp0 : (wrapL 0 l r f sec pk)[0]? = some 161 := by unfold wrapL headL; rfl
  have hp1 : (wrapL 0 l r f sec pk)[1]? = some 247 := by unfold wrapL headL; rfl
  have ht1 : ((wrapL 0 l r f sec pk).drop 0).take 11 = headL 0 l r f := by rw [List.drop_zero]; unfold wrapL; exact List.take_left' hHl
  have ht2 : ((wrapL 0 l r f sec pk).drop 11).take 16 = printL (0 : Nat) sec (headL 0 l r f) pk := by unfold wrapL; rw [List.drop_left' hHl]; exact List.take_left' (printL_len _ _ _ _)
  have ht3 : (wrapL 0 l r f sec pk).drop 27 = pk := by
    unfold wrapL
    rw [← List.append_assoc]
    exact List.drop_left' (by rw [List.length_append, headL_len, printL_len])
  obtain ⟨HD, hHD⟩ : ∃ HD, headL 0 l r f = HD := ⟨_, rfl⟩
  have hF := fun pA pc W (hm : c ≤ 9223372036854775807) hs hh hp ht => fprint_any 0 none 0 [] (by simp) (Nat.le_refl _) (by decide) g 0 c HD (by rw [← hHD]; exact hHb) (by rw [← hHD]; exact hHl) (by omega) hm pA pc pk hpb (by omega) W hs hh hp ht
  obtain ⟨FP, hFP⟩ : ∃ FP, printL 0 [] HD pk = FP := ⟨_, rfl⟩
  have hFP2 : printL (0 : Nat) sec HD pk = FP := by rw [← hFP]; unfold printL; rw [if_pos (show ((0 : Nat) : Int) = 0 from rfl), if_pos rfl]
  have hFl : FP.length = 16 := by rw [← hFP]; exact printL_len _ _ _ _
  rw [hHD] at ht1 ht2 hwd hHl hHb
  rw [hFP] at hF
  rw [hFP2] at ht2
  obtain ⟨WL, hWL⟩ : ∃ WL, wrapL 0 l r f sec pk = WL := ⟨_, rfl⟩
  rw [hWL] at hr hWn hp0 hp1 ht1 ht2 ht3
  have z0 : ((0 : Nat) : Int) = 0 := rfl
  rw [z0] at hO ho
  obtain ⟨hw0, hw1, hw2, hw3⟩ := hwd
  have hU := fun W h => outerOf_any (some ⟨g, 0, none⟩) c HD hHb hHl (by omega) W h
  rw [hw0, hw1, hw2, hw3, z0] at hU
  have hE := fun (W : World) a1 c1 a2 c2 (h1 : RdN W.heap.size W a1 FP) (h2 : RdN W.heap.size W a2 FP) => (equal_any a1 c1 FP 16 hFl a2 c2 FP 16 hFl W h1 h2).mono fun e w' (h : e = .returned (.bool ((strB FP).toList == (strB FP).toList)) ∧ w' = W) => (show e = .returned (.bool true) ∧ w' = W from ⟨by rw [h.1, beq_self_eq_true], h.2⟩)
  -- memory
  obtain ⟨Y, hY⟩ : ∃ Y, w.alloc (.cells #[.int .i64 0, .int .i64 0, .int .i64 0, .int .i64 0] 39) = Y := ⟨_, rfl⟩
  have hBY : Below w.heap.size w Y := by rw [← hY]; exact (Below.refl w.heap.size w).alloc (Nat.le_refl _) _
  have hYs : Y.heap.size = w.heap.size + 1 := by rw [← hY]; simp
  have haz : Arr Y w.heap.size 39 [.int .i64 0, .int .i64 0, .int .i64 0, .int .i64 0] := by rw [← hY]; exact Arr.new w 39 [.int .i64 0, .int .i64 0, .int .i64 0, .int .i64 0]
  have HAZ : Hid (∀ W, Below Y.heap.size Y W → Arr W w.heap.size 39 [.int .i64 0, .int .i64 0, .int .i64 0, .int .i64 0]) := fun W h => haz.below h (by omega)
  have HWL : Hid (∀ W, Below Y.heap.size Y W → RdN W.heap.size W (some ⟨g, 0, none⟩) WL) := fun W h => ((hr.below hBY (Nat.le_refl _)).below h (by omega)).mono (by have := h.size; omega)
  have HTY := Lib.hid (hT.below hBY hT.pos)
  have HPO : Hid (2 < Y.heap.size) := by have := hT.pos; unfold Hid; omega
  have HBY := Lib.hid hBY
  have HLE : Hid (w.heap.size ≤ Y.heap.size) := by unfold Hid; omega
  have HLT : Hid (w.heap.size < Y.heap.size) := by unfold Hid; omega
  have B0 := Lib.hid (Below.refl Y.heap.size Y)
  have d0 := (HWL.out _ B0.out).at0 hp0
  have d1 := (HWL.out _ B0.out).at0 hp1
  obtain ⟨pA, hpA⟩ : ∃ pA, (if c = 27 then some (⟨g, 0, none⟩ : Addr) else some ⟨g, 27, none⟩) = pA := ⟨_, rfl⟩
  have HPK : Hid (∀ W, Below Y.heap.size Y W → RdN W.heap.size W pA pk) := fun W h => by
    rw [← hpA]
    split
    · have h0 : pk = [] := List.eq_nil_of_length_eq_zero (by omega)
      rw [h0]
      exact RdN.nil _ _ _
    · have := (HWL.out W h).part 27 pk.length
      rw [ht3, List.take_length, Nat.zero_add] at this
      exact this
  have HHD : Hid (∀ W, Below Y.heap.size Y W → RdN W.heap.size W (some ⟨g, 0, none⟩) HD) := fun W h => by
    have := (HWL.out W h).part 0 11
    rw [ht1] at this
    exact this
  have HFD : Hid (∀ W, Below Y.heap.size Y W → RdN W.heap.size W (some ⟨g, 11, none⟩) FP) := fun W h => by
    have := (HWL.out W h).part 11 16
    rw [ht2, Nat.zero_add] at this
    exact this
  have x1 : ¬ c < 11 := by omega
  have x2 : ¬ c < 27 := by omega
  have x3 : ¬ c = 11 := by omega
  have x4 : (11 : Int) ≤ (c : Int) := by omega
  have x5 : (27 : Int) ≤ (c : Int) := by omega
  have x6 : (27 : Int) + (pk.length : Int) ≤ (c : Int) := by omega
  have x7 : ¬ c < 27 + pk.length := by omega
  have HO1 := Lib.hid ho
  clear hHD hFP hFP2 hWL hHl hHb hWn hp0 hp1 ht1 ht2 ht3 hw0 hw1 hw2 hw3 hBY hYs haz hr ho ho2 hT
  go_enter Tryd.func7, Tryd.ntmps7
  go_wp2
  go_quiet (fail)
  go_wp2_with (first
    | (go_at_call 17; refine (hU _ (HHD.out _ (below_drewN B0.out _))).mono ?_; rintro e w1 ⟨rfl, hb1⟩; have B1 := Lib.hid ((below_drewN B0.out _).trans hb1); clear hb1)
    | (refine wpList_store_arr rfl 39 (.tmp 10) (.tmp 41) rfl w1.heap.size rfl (vs := [.int .i64 0, .int .i64 l, .int .i64 r, .int .i64 f]) rfl (show Arr _ w1.heap.size 39 [.int .i64 0, .int .i64 0, .int .i64 0, .int .i64 0] from Arr.new w1 39 [.int .i64 0, .int .i64 0, .int .i64 0, .int .i64 0]) sizeO rfl rfl (by simp [Value.oneCell']) ?_; intro W2 A2 B2 hsz2 O2; have BB2 := Lib.hid ((B1.out.alloc B1.out.size _).trans (B2.out.mono B1.out.size)); have LW1 := Lib.hid B1.out.size; clear B2 hsz2 O2)
    | (refine wpList_load_arr rfl 39 (.tmp 10) rfl w1.heap.size rfl A2.out Tryd.underlying39 rfl sizeO rfl ?_)
    | (go_at_call 12; refine (hO W2).mono ?_; rintro e w3 ⟨⟨x, rfl, hx⟩, hb3⟩; obtain rfl : x = true := hx.2 HO1.out; have A3 := Lib.hid (A2.out.below hb3 A2.out.lt); have co := A3.out.cell 0; simp only [List.getElem?_cons_zero] at co; have B3 := Lib.hid (BB2.out.trans (hb3.mono BB2.out.size)); clear hx hb3 A2)
    | (go_at_call 18; refine (find_zero ks w3).mono ?_; rintro e w4 ⟨rfl, hb4⟩; have A4 := Lib.hid (A3.out.below hb4 A3.out.lt); have B4 := Lib.hid (B3.out.trans (hb4.mono B3.out.size)); clear hb4 A3 co)
    | (refine wpList_store_arr rfl 37 (.tmp 11) (.tmp 51) rfl w4.heap.size rfl (vs := [.int .i64 0, .slice none 0 0]) rfl (show Arr _ w4.heap.size 37 [.int .i64 0, .slice none 0 0] from Arr.new w4 37 [.int .i64 0, .slice none 0 0]) sizeK rfl rfl (by simp [Value.oneCell']) ?_; intro W5 A5 B5 hsz5 O5; have A45 := Lib.hid (A4.out.below (((Below.refl w4.heap.size w4).alloc (Nat.le_refl _) _).trans B5.out) A4.out.lt); have BB5 := Lib.hid ((B4.out.alloc B4.out.size _).trans (B5.out.mono B4.out.size)); clear B5 hsz5 O5 A4)
    | (refine wpList_load_arr rfl 37 (.tmp 11) rfl w4.heap.size rfl A5.out Tryd.underlying37 rfl sizeK rfl ?_)
    | (go_at_call 16; refine (hF pA (c - 27) W5 hcm (RdN.nil _ _ _) (HHD.out _ BB5.out) (HPK.out _ BB5.out) (HTY.out.below BB5.out HPO.out)).mono ?_; rintro e w6 ⟨⟨g6, c6, rfl, hc6, hr6⟩, hb6⟩; have HR6 := Lib.hid hr6; have A6 := Lib.hid (A45.out.below hb6 A45.out.lt); have B6 := Lib.hid (BB5.out.trans (hb6.mono BB5.out.size)); clear hr6 hb6 hc6 A45 A5)
    | (go_at_call 19; refine (hE w6 _ _ _ _ (HFD.out _ B6.out) HR6.out).mono ?_; rintro e w7 ⟨rfl, rfl⟩))
  refine wp_region_any (by kernel_rfl) ?_
  change wpAny _ _ _ _ _ _ _ (World.drew _)
  refine wpAny_ready (rs := [0, 1]) (by kernel_rfl) (by simp) ?_
  refine AllReady.cons rfl (fun K hK => ?_) (AllReady.cons rfl (fun K hK => ?_) AllReady.nil)
  · refine step_of rfl (wp_load_mid 39 (.tmp 10) rfl w1.heap.size 0 rfl [.int .i64 0, .int .i64 l, .int .i64 r, .int .i64 f] _ (show Arr (World.drew w7) w1.heap.size 39 _ from A6.out).range Tryd.underlying39 rfl sizeO ?_)
    refine hK _ _ ?_
    clear hK K
    refine wpAny_ready (rs := [1]) (by kernel_rfl) (by simp) ?_
    refine AllReady.cons rfl (fun K hK => ?_) AllReady.nil
    go_simp
    refine hK _ _ ?_
    clear hK K
    refine wpAny_ready (rs := [2]) (by kernel_rfl) (by simp) ?_
    refine AllReady.cons rfl (fun K hK => ?_) AllReady.nil
    refine step_append_nil hi hz0 hz1 hz2 rfl _ _ rfl rfl rfl rfl (show RdN (World.heap (World.drew w7)).size (World.drew w7) pA pk from HPK.out _ B6.out.drew) (by omega) ?_
    intro v8 w8 HO8 HB8
    have B8 := Lib.hid (B6.out.drew.trans (HB8.out.mono B6.out.size))
    refine hK _ _ ?_
    clear hK K
    refine wpAny_ready (rs := [3]) (by kernel_rfl) (by simp) ?_
    refine AllReady.cons rfl (fun K hK => ?_) AllReady.nil
    refine step_of rfl (wp_store_row 39 (.tmp 4) (.tmp 64) rfl w.heap.size #[.int .i64 0, .int .i64 l, .int .i64 r, .int .i64 f] rfl rfl 39 #[.int .i64 0, .int .i64 0, .int .i64 0, .int .i64 0] (HAZ.out _ B8.out) sizeO rfl (by simp [Value.oneCell']) ?_)
    refine hK _ _ ?_
    clear hK K
    refine wpAny_ready (rs := [4]) (by kernel_rfl) (by simp) ?_
    refine AllReady.cons rfl (fun K hK => ?_) AllReady.nil
    go_simp
    refine hK _ _ ?_
    clear hK K
    refine wpAny_ready (rs := [5]) (by kernel_rfl) (by simp) ?_
    refine AllReady.cons rfl (fun K hK => ?_) AllReady.nil
    go_simp
    refine hK _ _ ?_
    clear hK K
    refine wpAny_done (by kernel_rfl) ?_ _
    go_wp2
    have A9 := Arr.row (HAZ.out _ B8.out) [.int .i64 0, .int .i64 l, .int .i64 r, .int .i64 f]
    refine bodyPost_ret (results_cell3 rfl rfl A9 Tryd.underlying39 rfl sizeO) rfl ?_
    exact ⟨⟨_, rfl, own_base (own_row_other HO8.out (Nat.lt_of_lt_of_le HLT.out B6.out.size)) (Nat.le_trans HLE.out B6.out.size)⟩, (HBY.out.trans (B8.out.mono HLE.out)).trans (below_setRow (Below.refl _ _) (Nat.le_refl _) _)⟩
  · go_simp
    refine hK _ _ ?_
    clear hK K
    refine wpAny_ready (rs := [0, 2]) (by kernel_rfl) (by simp) ?_
    refine AllReady.cons rfl (fun K hK => ?_) (AllReady.cons rfl (fun K hK => ?_) AllReady.nil)
    · refine step_of rfl (wp_load_mid 39 (.tmp 10) rfl w1.heap.size 0 rfl [.int .i64 0, .int .i64 l, .int .i64 r, .int .i64 f] _ (show Arr (World.drew w7) w1.heap.size 39 _ from A6.out).range Tryd.underlying39 rfl sizeO ?_)
      refine hK _ _ ?_
      clear hK K
      refine wpAny_ready (rs := [2]) (by kernel_rfl) (by simp) ?_
      refine AllReady.cons rfl (fun K hK => ?_) AllReady.nil
      refine step_append_nil hi hz0 hz1 hz2 rfl _ _ rfl rfl rfl rfl (show RdN (World.heap (World.drew w7)).size (World.drew w7) pA pk from HPK.out _ B6.out.drew) (by omega) ?_
      intro v8 w8 HO8 HB8
      have B8 := Lib.hid (B6.out.drew.trans (HB8.out.mono B6.out.size))
      refine hK _ _ ?_
      clear hK K
      refine wpAny_ready (rs := [3]) (by kernel_rfl) (by simp) ?_
      refine AllReady.cons rfl (fun K hK => ?_) AllReady.nil
      refine step_of rfl (wp_store_row 39 (.tmp 4) (.tmp 64) rfl w.heap.size #[.int .i64 0, .int .i64 l, .int .i64 r, .int .i64 f] rfl rfl 39 #[.int .i64 0, .int .i64 0, .int .i64 0, .int .i64 0] (HAZ.out _ B8.out) sizeO rfl (by simp [Value.oneCell']) ?_)
      refine hK _ _ ?_
      clear hK K
      refine wpAny_ready (rs := [4]) (by kernel_rfl) (by simp) ?_
      refine AllReady.cons rfl (fun K hK => ?_) AllReady.nil
      go_simp
      refine hK _ _ ?_
      clear hK K
      refine wpAny_ready (rs := [5]) (by kernel_rfl) (by simp) ?_
      refine AllReady.cons rfl (fun K hK => ?_) AllReady.nil
      go_simp
      refine hK _ _ ?_
      clear hK K
      refine wpAny_done (by kernel_rfl) ?_ _
      go_wp2
      have A9 := Arr.row (HAZ.out _ B8.out) [.int .i64 0, .int .i64 l, .int .i64 r, .int .i64 f]
      refine bodyPost_ret (results_cell3 rfl rfl A9 Tryd.underlying39 rfl sizeO) rfl ?_
      exact ⟨⟨_, rfl, own_base (own_row_other HO8.out (Nat.lt_of_lt_of_le HLT.out B6.out.size)) (Nat.le_trans HLE.out B6.out.size)⟩, (HBY.out.trans (B8.out.mono HLE.out)).trans (below_setRow (Below.refl _ _) (Nat.le_refl _) _)⟩
    · refine step_append_nil hi hz0 hz1 hz2 rfl _ _ rfl rfl rfl rfl (show RdN (World.heap (World.drew w7)).size (World.drew w7) pA pk from HPK.out _ B6.out.drew) (by omega) ?_
      intro v8 w8 HO8 HB8
      have B8 := Lib.hid (B6.out.drew.trans (HB8.out.mono B6.out.size))
      refine hK _ _ ?_
      clear hK K
      refine wpAny_ready (rs := [0]) (by kernel_rfl) (by simp) ?_
      refine AllReady.cons rfl (fun K hK => ?_) AllReady.nil
      refine step_of rfl (wp_load_mid 39 (.tmp 10) rfl w1.heap.size 0 rfl [.int .i64 0, .int .i64 l, .int .i64 r, .int .i64 f] _ (show Arr w8 w1.heap.size 39 _ from (show Arr (World.drew w7) w1.heap.size _ _ from A6.out).below HB8.out A6.out.lt).range Tryd.underlying39 rfl sizeO ?_)
      refine hK _ _ ?_
      clear hK K
      refine wpAny_ready (rs := [3]) (by kernel_rfl) (by simp) ?_
      refine AllReady.cons rfl (fun K hK => ?_) AllReady.nil
      refine step_of rfl (wp_store_row 39 (.tmp 4) (.tmp 64) rfl w.heap.size #[.int .i64 0, .int .i64 l, .int .i64 r, .int .i64 f] rfl rfl 39 #[.int .i64 0, .int .i64 0, .int .i64 0, .int .i64 0] (HAZ.out _ B8.out) sizeO rfl (by simp [Value.oneCell']) ?_)
      refine hK _ _ ?_
      clear hK K
      refine wpAny_ready (rs := [4]) (by kernel_rfl) (by simp) ?_
      refine AllReady.cons rfl (fun K hK => ?_) AllReady.nil
      go_simp
      refine hK _ _ ?_
      clear hK K
      refine wpAny_ready (rs := [5]) (by kernel_rfl) (by simp) ?_
      refine AllReady.cons rfl (fun K hK => ?_) AllReady.nil
      go_simp
      refine hK _ _ ?_
      clear hK K
      refine wpAny_done (by kernel_rfl) ?_ _
      go_wp2
      have A9 := Arr.row (HAZ.out _ B8.out) [.int .i64 0, .int .i64 l, .int .i64 r, .int .i64 f]
      refine bodyPost_ret (results_cell3 rfl rfl A9 Tryd.underlying39 rfl sizeO) rfl ?_
      exact ⟨⟨_, rfl, own_base (own_row_other HO8.out (Nat.lt_of_lt_of_le HLT.out B6.out.size)) (Nat.le_trans HLE.out B6.out.size)⟩, (HBY.out.trans (B8.out.mono HLE.out)).trans (below_setRow (Below.refl _ _) (Nat.le_refl _) _)⟩
  end Go.Proofs.YthdlcpnmldhllaaDoor.sl

/-
  SealPlain: the walk of the law.
-/
namespace Go.Proofs.YthdlcpnmldhllaaDoor.sl
open Go.RowKit
theorem cutG {A G : Prop} (h : G → A) (g : G) : A := h g
/-- A key in a row of keys. -/
structure KeyD where
  id : Int
  a : Option Addr
  n : Nat
  c : Nat
/-- A row of keys, read. -/
def RdK (n₀ : Nat) (W : World) (kA : Option Addr) (ks : List KeyD) : Prop := ∀ (j : Nat) (kd : KeyD), ks[j]? = some kd → kd.n ≤ 9223372036854775807 ∧ ∃ B off, kA = some ⟨B, off, none⟩ ∧ B < n₀ ∧ W.cell? ⟨B, off + j * 2, none⟩ = some (.int .i64 kd.id) ∧ W.cell? ⟨B, off + j * 2 + 1, none⟩ = some (.slice kd.a kd.n kd.c)
end Go.Proofs.YthdlcpnmldhllaaDoor.sl

/-
  KEYS THAT CAME IN AS AN ARGUMENT.
-/
namespace Go.Proofs.YthdlcpnmldhllaaDoor.sl
open Go.RowKit Go.ChangeShapes Go.WideShapes
set_option linter.unusedVariables false
instance : Inhabited KeyD := ⟨⟨0, none, 0, 0⟩⟩
set_option maxRecDepth 100000 in
theorem keys_of {H : Type} {enc : TypeId × Value → H} {W : World} {held : Bool} {a : Option Addr} {len cap : Nat} {d : DataW H} {ps : List MemPlace} (h : DataW.Trod enc Tryd.prog W 0 (fun _ => true) held 47 (.slice a len cap) d ps) :
    ∃ ks : List KeyD, ks.length = len ∧ ks.length ≤ 9223372036854775807 ∧ RdK W.heap.size W a ks := by
  obtain ⟨fuel, hf⟩ := h
  have hf' : DataW.trod enc Tryd.prog W 0 (fun _ => true) held fuel 47 [.slice a len cap] = some (d, ps) := hf
  rcases Go.Deep.open_slice Tryd.underlying47 hf' with ⟨hcs, _⟩ | ⟨A, l, c, m, n, D, Pl, hcs, _, hl, hm, hmm, _, hall⟩
  · simp at hcs
    obtain ⟨rfl, rfl, rfl⟩ := hcs
    exact ⟨[], rfl, Nat.zero_le _, fun j kd hj => by simp at hj⟩
  · simp at hcs
    obtain ⟨rfl, rfl, rfl⟩ := hcs
    simp only [if_true] at hmm
    subst hmm
    rw [show Tryd.prog.cellsOf 37 = 2 from by kernel_rfl] at hall
    have hall2 : ∀ i', i' < m → ∃ q : KeyD, W.cells? 0 (A.add (i' * 2)) 2 = some [.int .i64 q.id, .slice q.a q.n q.c] ∧ q.n ≤ 9223372036854775807 := by
      intro i' hi'
      obtain ⟨cs, hcs, htr⟩ := hall i' hi'
      obtain ⟨id, sA, sc, sec, e1, _, hb⟩ := rdq_key ⟨_, _, htr⟩
      subst e1
      have hbm := hb.2.1
      have hbc := hb.2.2.1
      exact ⟨⟨id, sA, sec.length, sc⟩, hcs, by show sec.length ≤ _; unfold maxLen at hbc; omega⟩
    obtain ⟨f, hf2⟩ := Go.Deep.choose_lt hall2
    refine ⟨(List.range len).map f, by simp, by simp; unfold maxLen at hm; omega, fun j kd hj => ?_⟩
    have hjl : j < len := by
      rcases Nat.lt_or_ge j len with h1 | h1
      · exact h1
      · rw [List.getElem?_eq_none (by simpa using h1)] at hj; cases hj
    obtain rfl : f j = kd := by simpa [hjl] using hj
    have cell : ∀ k, k < 2 → W.cell? (A.add (j * 2 + k)) = [Value.int .i64 (f j).id, .slice (f j).a (f j).n (f j).c][k]? := fun k hk => by
      have := (World.cells?_some (hf2 j (by omega)).1).2.2 k hk
      rwa [Go.Deep.add_add] at this
    obtain ⟨b, off, spot⟩ := A
    have h0 := cell 0 (by decide)
    have h1 := cell 1 (by decide)
    have h00 : W.cell? ((⟨b, off, spot⟩ : Addr).add (0 * 2 + 0)) = some (Value.int .i64 (f 0).id) := by
      have := (World.cells?_some (hf2 0 (by omega)).1).2.2 0 (by decide)
      rwa [Go.Deep.add_add] at this
    have hspot : spot = none := by simpa [Addr.add] using World.cell?_spot h00
    subst hspot
    have plain : ∀ k, (⟨b, off, none⟩ : Addr).add k = ⟨b, off + k, none⟩ := fun k => by unfold Addr.add; split <;> simp_all
    rw [plain] at h0 h1
    exact ⟨(hf2 j (by omega)).2, b, off, rfl, World.block_lt_of_cell? W _ (h0.trans rfl), by simpa using h0, by simpa [Nat.add_assoc] using h1⟩
end Go.Proofs.YthdlcpnmldhllaaDoor.sl

/-
  THE KEY IS FOUND: the closure, slices.IndexFunc, find.
-/
namespace Go.Proofs.YthdlcpnmldhllaaDoor.sl
open Go.RowKit
set_option maxHeartbeats 1600000 in
set_option maxRecDepth 100000 in
theorem match_any (id : Int) (B : Nat) (kid : Int) (sA : Option Addr) (n sc : Nat) (hn : n ≤ 9223372036854775807) (w : World) (hc : w.cell? ⟨B, 0, none⟩ = some (.int .i64 id)) (hB : B < w.heap.size) :
    Calls Tryd.prog 39 #[.agg #[.int .i64 kid, .slice sA n sc], .pointer (some ⟨B, 0, none⟩)] w fun e w' => Says e (kid = id ∧ okK kid n) ∧ Below w.heap.size w w' := by
  have hK := fun W => okK_any kid sA n sc hn W
  have BX := (Below.refl w.heap.size w).alloc (Nat.le_refl _) (.cells #[.int .i64 kid, .slice sA n sc] 37)
  have hcx := (BX.cell (p := ⟨B, 0, none⟩) hB).trans hc
  have HBX := Lib.hid BX
  have HLE : Hid (w.heap.size ≤ (w.alloc (.cells #[.int .i64 kid, .slice sA n sc] 37)).heap.size) := by unfold Hid; simp
  clear BX hc
  by_cases h : kid = id
  · subst h
    go_enter Tryd.func39, Tryd.ntmps39
    go_wp2_with (go_at_call 13; refine (hK _).mono ?_; rintro e w2 ⟨⟨x, rfl, hx⟩, hb2⟩; have HX := Lib.hid hx; have B2 := Lib.hid (HBX.out.trans (hb2.mono HLE.out)); clear hx hb2)
    go_ret
    exact ⟨Says.of (by rw [HX.out]; simp), B2.out⟩
  · have h2 : (kid == id) = false := by simpa using h
    go_enter Tryd.func39, Tryd.ntmps39
    go_wp2
    go_ret
    exact ⟨Says.no (fun hh => h hh.1), HBX.out⟩
/-- Which key of a row it is, if any. -/
def FirstK (id : Int) (ks : List KeyD) (i : Int) : Prop :=
  (i = -1 ∧ ∀ kd ∈ ks, ¬ (kd.id = id ∧ okK kd.id kd.n)) ∨ ∃ (j : Nat) (kd : KeyD), i = j ∧ ks[j]? = some kd ∧ (kd.id = id ∧ okK kd.id kd.n) ∧ ∀ (j' : Nat) (kd' : KeyD), j' < j → ks[j']? = some kd' → ¬ (kd'.id = id ∧ okK kd'.id kd'.n)
set_option maxHeartbeats 1600000 in
set_option maxRecDepth 100000 in
theorem index_any (id : Int) (B : Nat) (kA : Option Addr) (kc : Nat) (ks : List KeyD) (hkl : ks.length ≤ 9223372036854775807) (w : World) (hc : w.cell? ⟨B, 0, none⟩ = some (.int .i64 id)) (hB : B < w.heap.size) (hk : RdK w.heap.size w kA ks) :
    Calls Tryd.prog 38 #[.slice kA ks.length kc, .func (.func 39) #[] #[.pointer (some ⟨B, 0, none⟩)]] w fun e w' => (∃ i, Tells e i ∧ FirstK id ks i) ∧ Below w.heap.size w w' := by
  have HC := Lib.hid hc
  have HB0 := Lib.hid hB
  have HK := Lib.hid hk
  obtain ⟨m, hm⟩ : ∃ m, ks.length = m := ⟨_, rfl⟩
  have HM := Lib.hid hm
  rw [hm] at hkl ⊢
  clear hm hc hB hk
  go_enter Tryd.func38, Tryd.ntmps38
  go_wp2
  go_loopw [8] (fun iv wr => ∃ i : Nat, i ≤ m ∧ iv = .int .i64 i ∧ Hid (∀ (j : Nat) (kd : KeyD), j < i → ks[j]? = some kd → ¬ (kd.id = id ∧ okK kd.id kd.n)) ∧ Hid (Below w.heap.size w wr)) (fun iv _ => m - (intOf iv).toNat)
  case atStart => exact ⟨0, by omega, rfl, fun j kd hj => absurd hj (by omega), Below.refl _ _⟩
  case round =>
    obtain ⟨i, him, rfl, HN, HB⟩ := hrel
    by_cases hlt : i < m
    · obtain ⟨kd, hkd⟩ : ∃ kd, ks[i]? = some kd := ⟨_, List.getElem?_eq_getElem (by have := HM.out; omega)⟩
      obtain ⟨hn, Bk, off, rfl, hBk, hc0, hc1⟩ := HK.out i kd hkd
      have hd0 := (HB.out.cell (p := ⟨Bk, off + i * 2, none⟩) hBk).trans hc0
      have hd1 := (HB.out.cell (p := ⟨Bk, off + i * 2 + 1, none⟩) hBk).trans hc1
      have hcb := (HB.out.cell (p := ⟨B, 0, none⟩) HB0.out).trans HC.out
      have hma := match_any id B kd.id kd.a kd.n kd.c hn wr hcb (by have := HB.out.size; have := HB0.out; omega)
      have HKD := Lib.hid hkd
      clear hc0 hc1 hkd hcb
      go_wp2_with (go_at_call 39; refine hma.mono ?_; rintro e w2 ⟨⟨x, rfl, hx⟩, hb2⟩; have HX := Lib.hid hx; have B2 := Lib.hid (HB.out.trans (hb2.mono HB.out.size)); clear hx hb2)
      · rename_i hxt
        go_ret
        exact ⟨⟨_, rfl, .inr ⟨i, kd, rfl, HKD.out, HX.out.1 hxt, fun j' kd' h1 h2 => HN.out j' kd' h1 h2⟩⟩, B2.out⟩
      · rename_i hxt
        refine ⟨⟨i + 1, by omega, by go_num, fun j kd' hj hk => ?_, B2⟩, by simp [intOf]; omega⟩
        rcases Nat.lt_or_ge j i with h1 | h1
        · exact HN.out j kd' h1 hk
        · obtain rfl : j = i := by omega
          rw [HKD.out] at hk
          obtain rfl := Option.some.inj hk
          exact fun hh => by have h3 := HX.out.2 hh; rw [hxt] at h3; cases h3
    · obtain rfl : i = m := by omega
      go_wp2
      go_ret
      refine ⟨⟨-1, rfl, .inl ⟨rfl, fun kd hkd => ?_⟩⟩, HB.out⟩
      obtain ⟨j, hj⟩ := List.getElem?_of_mem hkd
      exact HN.out j kd (by have := (List.getElem?_eq_some_iff.1 hj).1; have := HM.out; omega) hj
theorem first_none {id : Int} {ks : List KeyD} {i : Int} (h : FirstK id ks i) (hn : ∀ kd ∈ ks, ¬ (kd.id = id ∧ okK kd.id kd.n)) : i = -1 := by
  rcases h with h | ⟨j, kd, _, hj, hm, _⟩
  · exact h.1
  · exact absurd hm (hn kd (List.mem_of_getElem? hj))
theorem first_some {id : Int} {ks : List KeyD} {i : Int} (h : FirstK id ks i) {j : Nat} {kd : KeyD} (hj : ks[j]? = some kd) (hm : kd.id = id ∧ okK kd.id kd.n) (hf : ∀ (j' : Nat) (kd' : KeyD), j' < j → ks[j']? = some kd' → ¬ (kd'.id = id ∧ okK kd'.id kd'.n)) : i = j := by
  rcases h with h | ⟨j2, kd2, rfl, hj2, hm2, hf2⟩
  · exact absurd hm (h.2 kd (List.mem_of_getElem? hj))
  · rcases Nat.lt_trichotomy j j2 with h1 | h1 | h1
    · exact absurd hm (hf2 j kd h1 hj)
    · rw [h1]
    · exact absurd hm2 (hf j2 kd2 h1 hj2)
set_option maxHeartbeats 1600000 in
set_option maxRecDepth 100000 in
theorem find_none (id : Int) (h0 : ¬ id = 0) (kA : Option Addr) (kc : Nat) (ks : List KeyD) (hkl : ks.length ≤ 9223372036854775807) (hno : ∀ kd ∈ ks, ¬ (kd.id = id ∧ okK kd.id kd.n)) (w : World) (hk : RdK w.heap.size w kA ks) :
    Calls Tryd.prog 18 #[.slice kA ks.length kc, .int .i64 id] w fun e w' => e = .returned (.tuple #[.agg #[.int .i64 0, .slice none 0 0], .bool false]) ∧ Below w.heap.size w w' := by
  obtain ⟨Y, hY⟩ : ∃ Y, (w.alloc (.cells #[.int .i64 id] 3)).alloc (.cells #[.int .i64 0, .slice none 0 0] 37) = Y := ⟨_, rfl⟩
  have AK : Hid (Arr Y (w.heap.size + 1) 37 [.int .i64 0, .slice none 0 0]) := by rw [← hY]; exact Arr.new2 w (.cells #[.int .i64 id] 3) 37 [.int .i64 0, .slice none 0 0]
  have ci : Y.cell? ⟨w.heap.size, 0, none⟩ = some (.int .i64 id) := by rw [← hY]; exact ((Arr.new w 3 [.int .i64 id]).alloc _).cell 0
  have hYs : Y.heap.size = w.heap.size + 2 := by rw [← hY]; simp
  have hBY : Below w.heap.size w Y := by rw [← hY]; exact ((Below.refl w.heap.size w).alloc (Nat.le_refl _) _).alloc (by simp) _
  have hkY : ∀ (j : Nat) (kd : KeyD), ks[j]? = some kd → kd.n ≤ 9223372036854775807 ∧ ∃ B off, kA = some ⟨B, off, none⟩ ∧ B < Y.heap.size ∧ Y.cell? ⟨B, off + j * 2, none⟩ = some (.int .i64 kd.id) ∧ Y.cell? ⟨B, off + j * 2 + 1, none⟩ = some (.slice kd.a kd.n kd.c) := fun j kd hj => by
    obtain ⟨h1, B, off, e, h2, h3, h4⟩ := hk j kd hj
    exact ⟨h1, B, off, e, by omega, (hBY.cell (p := ⟨B, _, none⟩) h2).trans h3, (hBY.cell (p := ⟨B, _, none⟩) h2).trans h4⟩
  have hix := index_any id w.heap.size kA kc ks hkl Y ci (by omega) hkY
  have HB := Lib.hid hBY
  have HKY := Lib.hid hkY
  have HLE : Hid (w.heap.size ≤ Y.heap.size) := by unfold Hid; omega
  have HL1 : Hid (w.heap.size + 1 < Y.heap.size) := by unfold Hid; omega
  clear hkY hBY hYs hk
  have HNO := Lib.hid hno
  clear hno
  go_enter Tryd.func18, Tryd.ntmps18
  go_wp2_with (first
    | (go_at_call 38; refine hix.mono ?_; rintro e w2 ⟨⟨i, he, hfi⟩, hb2⟩; unfold Tells at he; subst he; obtain rfl := first_none hfi HNO.out; have B2 := Lib.hid hb2; have A2 := Lib.hid (AK.out.below hb2 HL1.out); clear hfi hb2)
    | (refine wpList_store_arr rfl 37 (.tmp 4) (.tmp 15) rfl (w.heap.size + 1) rfl (vs := [.int .i64 0, .slice none 0 0]) rfl A2.out sizeK rfl rfl (by simp [Value.oneCell']) ?_; intro W3 A3 B3 hsz3 O3))
  refine bodyPost_ret (results_cell2 rfl rfl A3.out Tryd.underlying37 rfl sizeK) rfl ?_
  exact ⟨rfl, (HB.out.trans (B2.out.mono HLE.out)).trans (B3.out.mono (by omega))⟩
set_option maxHeartbeats 1600000 in
set_option maxRecDepth 100000 in
theorem find_some (id : Int) (h0 : ¬ id = 0) (kA : Option Addr) (kc : Nat) (ks : List KeyD) (hkl : ks.length ≤ 9223372036854775807) (j : Nat) (kd : KeyD) (hj : ks[j]? = some kd) (hm : kd.id = id ∧ okK kd.id kd.n) (hfst : ∀ (j' : Nat) (kd' : KeyD), j' < j → ks[j']? = some kd' → ¬ (kd'.id = id ∧ okK kd'.id kd'.n)) (w : World) (hk : RdK w.heap.size w kA ks) :
    Calls Tryd.prog 18 #[.slice kA ks.length kc, .int .i64 id] w fun e w' => e = .returned (.tuple #[.agg #[.int .i64 kd.id, .slice kd.a kd.n kd.c], .bool true]) ∧ Below w.heap.size w w' := by
  obtain ⟨Y, hY⟩ : ∃ Y, (w.alloc (.cells #[.int .i64 id] 3)).alloc (.cells #[.int .i64 0, .slice none 0 0] 37) = Y := ⟨_, rfl⟩
  have AK : Hid (Arr Y (w.heap.size + 1) 37 [.int .i64 0, .slice none 0 0]) := by rw [← hY]; exact Arr.new2 w (.cells #[.int .i64 id] 3) 37 [.int .i64 0, .slice none 0 0]
  have ci : Y.cell? ⟨w.heap.size, 0, none⟩ = some (.int .i64 id) := by rw [← hY]; exact ((Arr.new w 3 [.int .i64 id]).alloc _).cell 0
  have hYs : Y.heap.size = w.heap.size + 2 := by rw [← hY]; simp
  have hBY : Below w.heap.size w Y := by rw [← hY]; exact ((Below.refl w.heap.size w).alloc (Nat.le_refl _) _).alloc (by simp) _
  have hkY : ∀ (j : Nat) (kd : KeyD), ks[j]? = some kd → kd.n ≤ 9223372036854775807 ∧ ∃ B off, kA = some ⟨B, off, none⟩ ∧ B < Y.heap.size ∧ Y.cell? ⟨B, off + j * 2, none⟩ = some (.int .i64 kd.id) ∧ Y.cell? ⟨B, off + j * 2 + 1, none⟩ = some (.slice kd.a kd.n kd.c) := fun j kd hj => by
    obtain ⟨h1, B, off, e, h2, h3, h4⟩ := hk j kd hj
    exact ⟨h1, B, off, e, by omega, (hBY.cell (p := ⟨B, _, none⟩) h2).trans h3, (hBY.cell (p := ⟨B, _, none⟩) h2).trans h4⟩
  have hix := index_any id w.heap.size kA kc ks hkl Y ci (by omega) hkY
  have HB := Lib.hid hBY
  have HKY := Lib.hid hkY
  have HLE : Hid (w.heap.size ≤ Y.heap.size) := by unfold Hid; omega
  have HL1 : Hid (w.heap.size + 1 < Y.heap.size) := by unfold Hid; omega
  clear hkY hBY hYs hk
  have hjl : j < ks.length := (List.getElem?_eq_some_iff.1 hj).1
  obtain ⟨_, Bk, off, rfl, hBk, hc0, hc1⟩ := HKY.out j kd hj
  have HC0 := Lib.hid hc0
  have HC1 := Lib.hid hc1
  have HBK := Lib.hid hBk
  have HFS := Lib.hid (fun i (h : FirstK id ks i) => first_some h hj hm hfst)
  clear hj hm hfst hc0 hc1 hBk HKY
  go_enter Tryd.func18, Tryd.ntmps18
  go_wp2_with (first
    | (go_at_call 38; refine hix.mono ?_; rintro e w2 ⟨⟨i, he, hfi⟩, hb2⟩; unfold Tells at he; subst he; obtain rfl := HFS.out _ hfi; have B2 := Lib.hid hb2; have A2 := Lib.hid (AK.out.below hb2 HL1.out); have d0 := (hb2.cell (p := ⟨Bk, off + j * 2, none⟩) HBK.out).trans HC0.out; have d1 := (hb2.cell (p := ⟨Bk, off + j * 2 + 1, none⟩) HBK.out).trans HC1.out; clear hfi hb2)
    | (refine wpList_store_arr rfl 37 (.tmp 4) (.tmp 19) rfl (w.heap.size + 1) rfl (vs := [.int .i64 kd.id, .slice kd.a kd.n kd.c]) rfl A2.out sizeK rfl rfl (by simp [Value.oneCell']) ?_; intro W3 A3 B3 hsz3 O3))
  refine bodyPost_ret (results_cell2 rfl rfl A3.out Tryd.underlying37 rfl sizeK) rfl ?_
  exact ⟨rfl, (HB.out.trans (B2.out.mono HLE.out)).trans (B3.out.mono (by omega))⟩
end Go.Proofs.YthdlcpnmldhllaaDoor.sl

/-
  AN ENVELOPE IS OPENED whose key is found: the program's Open.
-/
namespace Go.Proofs.YthdlcpnmldhllaaDoor.sl
open Go.RowKit
set_option maxHeartbeats 3200000 in
set_option maxRecDepth 100000 in
theorem open_gen (kv : Value) (K : Nat) (sA : Option Addr) (sc : Nat) (sec : List Nat) (hsb : ∀ x ∈ sec, x < 256) (hsc : sec.length ≤ sc) (hsl : sec.length ≤ 1000000) (g c : Nat) (l r f : Nat) (ho : okO K l r f) (pk : List Nat) (hpb : ∀ x ∈ pk, x < 256) (hpl : pk.length ≤ 4096) (w : World) (hc : 27 + pk.length ≤ c) (hcm : c ≤ 9223372036854775807) (hr : RdN w.heap.size w (some ⟨g, 0, none⟩) (wrapL K l r f sec pk)) (hrs : RdN w.heap.size w sA sec) (hT : Tabs w)
    (hfind : ∀ W, Below w.heap.size w W → Calls Tryd.prog 18 #[kv, .int .i64 K] W fun e w' => e = .returned (.tuple #[.agg #[.int .i64 K, .slice sA sec.length sc], .bool true]) ∧ Below W.heap.size W w') :
    Calls Tryd.prog 7 #[kv, .slice (some ⟨g, 0, none⟩) (27 + pk.length) c] w fun e w' => (∃ v', e = .returned (.tuple #[.agg #[.int .i64 K, .int .i64 l, .int .i64 r, .int .i64 f], v', .int .i64 0]) ∧ Hid (w'.ownsRow w.heap.size 5 1 v' pk.length (u8s pk))) ∧ Below w.heap.size w w' := by
  obtain ⟨i0, hi, hz0, hz1, hz2⟩ := info_parts Tryd.info5
  have ho2 := ho
  unfold okO okIn at ho2
  have hO := okO_any K l r f
  have hwd := head_words K l r f (by omega) (by omega) (by omega) (by omega)
  have hHl := headL_len K l r f
  have hHb := headL_lt K l r f
  have hWn := wrapL_len K l r f sec pk
  have hp0 : (wrapL K l r f sec pk)[0]? = some 161 := by unfold wrapL headL; rfl
  have hp1 : (wrapL K l r f sec pk)[1]? = some 247 := by unfold wrapL headL; rfl
  have ht1 : ((wrapL K l r f sec pk).drop 0).take 11 = headL K l r f := by rw [List.drop_zero]; unfold wrapL; exact List.take_left' hHl
  have ht2 : ((wrapL K l r f sec pk).drop 11).take 16 = printL K sec (headL K l r f) pk := by unfold wrapL; rw [List.drop_left' hHl]; exact List.take_left' (printL_len _ _ _ _)
  have ht3 : (wrapL K l r f sec pk).drop 27 = pk := by
    unfold wrapL
    rw [← List.append_assoc]
    exact List.drop_left' (by rw [List.length_append, headL_len, printL_len])
  obtain ⟨HD, hHD⟩ : ∃ HD, headL K l r f = HD := ⟨_, rfl⟩
  have hF := fun pA pc W (hm : c ≤ 9223372036854775807) hs hh hp ht => fprint_any K sA sc sec hsb hsc hsl g 0 c HD (by rw [← hHD]; exact hHb) (by rw [← hHD]; exact hHl) (by omega) hm pA pc pk hpb (by omega) W hs hh hp ht
  obtain ⟨FP, hFP⟩ : ∃ FP, printL K sec HD pk = FP := ⟨_, rfl⟩
  have hFl : FP.length = 16 := by rw [← hFP]; exact printL_len _ _ _ _
  rw [hHD] at ht1 ht2 hwd hHl hHb
  rw [hFP] at hF
  rw [hFP] at ht2
  obtain ⟨WL, hWL⟩ : ∃ WL, wrapL K l r f sec pk = WL := ⟨_, rfl⟩
  rw [hWL] at hr hWn hp0 hp1 ht1 ht2 ht3
  obtain ⟨hw0, hw1, hw2, hw3⟩ := hwd
  have hU := fun W h => outerOf_any (some ⟨g, 0, none⟩) c HD hHb hHl (by omega) W h
  rw [hw0, hw1, hw2, hw3] at hU
  have hE := fun (W : World) a1 c1 a2 c2 (h1 : RdN W.heap.size W a1 FP) (h2 : RdN W.heap.size W a2 FP) => (equal_any a1 c1 FP 16 hFl a2 c2 FP 16 hFl W h1 h2).mono fun e w' (h : e = .returned (.bool ((strB FP).toList == (strB FP).toList)) ∧ w' = W) => (show e = .returned (.bool true) ∧ w' = W from ⟨by rw [h.1, beq_self_eq_true], h.2⟩)
  -- memory
  obtain ⟨Y, hY⟩ : ∃ Y, w.alloc (.cells #[.int .i64 0, .int .i64 0, .int .i64 0, .int .i64 0] 39) = Y := ⟨_, rfl⟩
  have hBY : Below w.heap.size w Y := by rw [← hY]; exact (Below.refl w.heap.size w).alloc (Nat.le_refl _) _
  have hYs : Y.heap.size = w.heap.size + 1 := by rw [← hY]; simp
  have haz : Arr Y w.heap.size 39 [.int .i64 0, .int .i64 0, .int .i64 0, .int .i64 0] := by rw [← hY]; exact Arr.new w 39 [.int .i64 0, .int .i64 0, .int .i64 0, .int .i64 0]
  have HAZ : Hid (∀ W, Below Y.heap.size Y W → Arr W w.heap.size 39 [.int .i64 0, .int .i64 0, .int .i64 0, .int .i64 0]) := fun W h => haz.below h (by omega)
  have HWL : Hid (∀ W, Below Y.heap.size Y W → RdN W.heap.size W (some ⟨g, 0, none⟩) WL) := fun W h => ((hr.below hBY (Nat.le_refl _)).below h (by omega)).mono (by have := h.size; omega)
  have HTY := Lib.hid (hT.below hBY hT.pos)
  have HRS : Hid (∀ W, Below Y.heap.size Y W → RdN W.heap.size W sA sec) := fun W h => ((hrs.below hBY (Nat.le_refl _)).below h (by omega)).mono (by have := h.size; omega)
  have HPO : Hid (2 < Y.heap.size) := by have := hT.pos; unfold Hid; omega
  have HBY := Lib.hid hBY
  have HLE : Hid (w.heap.size ≤ Y.heap.size) := by unfold Hid; omega
  have HLT : Hid (w.heap.size < Y.heap.size) := by unfold Hid; omega
  have B0 := Lib.hid (Below.refl Y.heap.size Y)
  have d0 := (HWL.out _ B0.out).at0 hp0
  have d1 := (HWL.out _ B0.out).at0 hp1
  obtain ⟨pA, hpA⟩ : ∃ pA, (if c = 27 then some (⟨g, 0, none⟩ : Addr) else some ⟨g, 27, none⟩) = pA := ⟨_, rfl⟩
  have HPK : Hid (∀ W, Below Y.heap.size Y W → RdN W.heap.size W pA pk) := fun W h => by
    rw [← hpA]
    split
    · have h0 : pk = [] := List.eq_nil_of_length_eq_zero (by omega)
      rw [h0]
      exact RdN.nil _ _ _
    · have := (HWL.out W h).part 27 pk.length
      rw [ht3, List.take_length, Nat.zero_add] at this
      exact this
  have HHD : Hid (∀ W, Below Y.heap.size Y W → RdN W.heap.size W (some ⟨g, 0, none⟩) HD) := fun W h => by
    have := (HWL.out W h).part 0 11
    rw [ht1] at this
    exact this
  have HFD : Hid (∀ W, Below Y.heap.size Y W → RdN W.heap.size W (some ⟨g, 11, none⟩) FP) := fun W h => by
    have := (HWL.out W h).part 11 16
    rw [ht2, Nat.zero_add] at this
    exact this
  have x1 : ¬ c < 11 := by omega
  have x2 : ¬ c < 27 := by omega
  have x3 : ¬ c = 11 := by omega
  have x4 : (11 : Int) ≤ (c : Int) := by omega
  have x5 : (27 : Int) ≤ (c : Int) := by omega
  have x6 : (27 : Int) + (pk.length : Int) ≤ (c : Int) := by omega
  have x7 : ¬ c < 27 + pk.length := by omega
  have HO1 := Lib.hid ho
  clear hHD hFP hWL hHl hHb hWn hp0 hp1 ht1 ht2 ht3 hw0 hw1 hw2 hw3 hBY hYs haz hr ho ho2 hT hrs
  go_enter Tryd.func7, Tryd.ntmps7
  go_wp2
  go_quiet (fail)
  go_wp2_with (first
    | (go_at_call 17; refine (hU _ (HHD.out _ (below_drewN B0.out _))).mono ?_; rintro e w1 ⟨rfl, hb1⟩; have B1 := Lib.hid ((below_drewN B0.out _).trans hb1); clear hb1)
    | (refine wpList_store_arr rfl 39 (.tmp 10) (.tmp 41) rfl w1.heap.size rfl (vs := [.int .i64 K, .int .i64 l, .int .i64 r, .int .i64 f]) rfl (show Arr _ w1.heap.size 39 [.int .i64 0, .int .i64 0, .int .i64 0, .int .i64 0] from Arr.new w1 39 [.int .i64 0, .int .i64 0, .int .i64 0, .int .i64 0]) sizeO rfl rfl (by simp [Value.oneCell']) ?_; intro W2 A2 B2 hsz2 O2; have BB2 := Lib.hid ((B1.out.alloc B1.out.size _).trans (B2.out.mono B1.out.size)); have LW1 := Lib.hid B1.out.size; clear B2 hsz2 O2)
    | (refine wpList_load_arr rfl 39 (.tmp 10) rfl w1.heap.size rfl A2.out Tryd.underlying39 rfl sizeO rfl ?_)
    | (go_at_call 12; refine (hO W2).mono ?_; rintro e w3 ⟨⟨x, rfl, hx⟩, hb3⟩; obtain rfl : x = true := hx.2 HO1.out; have A3 := Lib.hid (A2.out.below hb3 A2.out.lt); have co := A3.out.cell 0; simp only [List.getElem?_cons_zero] at co; have B3 := Lib.hid (BB2.out.trans (hb3.mono BB2.out.size)); clear hx hb3 A2)
    | (go_at_call 18; refine (hfind w3 (HBY.out.trans (B3.out.mono HLE.out))).mono ?_; rintro e w4 ⟨rfl, hb4⟩; have A4 := Lib.hid (A3.out.below hb4 A3.out.lt); have B4 := Lib.hid (B3.out.trans (hb4.mono B3.out.size)); clear hb4 A3 co)
    | (refine wpList_store_arr rfl 37 (.tmp 11) (.tmp 51) rfl w4.heap.size rfl (vs := [.int .i64 K, .slice sA sec.length sc]) rfl (show Arr _ w4.heap.size 37 [.int .i64 0, .slice none 0 0] from Arr.new w4 37 [.int .i64 0, .slice none 0 0]) sizeK rfl rfl (by simp [Value.oneCell']) ?_; intro W5 A5 B5 hsz5 O5; have A45 := Lib.hid (A4.out.below (((Below.refl w4.heap.size w4).alloc (Nat.le_refl _) _).trans B5.out) A4.out.lt); have BB5 := Lib.hid ((B4.out.alloc B4.out.size _).trans (B5.out.mono B4.out.size)); clear B5 hsz5 O5 A4)
    | (refine wpList_load_arr rfl 37 (.tmp 11) rfl w4.heap.size rfl A5.out Tryd.underlying37 rfl sizeK rfl ?_)
    | (go_at_call 16; refine (hF pA (c - 27) W5 hcm (HRS.out _ BB5.out) (HHD.out _ BB5.out) (HPK.out _ BB5.out) (HTY.out.below BB5.out HPO.out)).mono ?_; rintro e w6 ⟨⟨g6, c6, rfl, hc6, hr6⟩, hb6⟩; have HR6 := Lib.hid hr6; have A6 := Lib.hid (A45.out.below hb6 A45.out.lt); have B6 := Lib.hid (BB5.out.trans (hb6.mono BB5.out.size)); clear hr6 hb6 hc6 A45 A5)
    | (go_at_call 19; refine (hE w6 _ _ _ _ (HFD.out _ B6.out) HR6.out).mono ?_; rintro e w7 ⟨rfl, rfl⟩))
  refine wp_region_any (by kernel_rfl) ?_
  change wpAny _ _ _ _ _ _ _ (World.drew _)
  refine wpAny_ready (rs := [0, 1]) (by kernel_rfl) (by simp) ?_
  refine AllReady.cons rfl (fun KC hKC => ?_) (AllReady.cons rfl (fun KC hKC => ?_) AllReady.nil)
  · refine step_of rfl (wp_load_mid 39 (.tmp 10) rfl w1.heap.size 0 rfl [.int .i64 K, .int .i64 l, .int .i64 r, .int .i64 f] _ (show Arr (World.drew w7) w1.heap.size 39 _ from A6.out).range Tryd.underlying39 rfl sizeO ?_)
    refine hKC _ _ ?_
    clear hKC KC
    refine wpAny_ready (rs := [1]) (by kernel_rfl) (by simp) ?_
    refine AllReady.cons rfl (fun KC hKC => ?_) AllReady.nil
    go_simp
    refine hKC _ _ ?_
    clear hKC KC
    refine wpAny_ready (rs := [2]) (by kernel_rfl) (by simp) ?_
    refine AllReady.cons rfl (fun KC hKC => ?_) AllReady.nil
    refine step_append_nil hi hz0 hz1 hz2 rfl _ _ rfl rfl rfl rfl (show RdN (World.heap (World.drew w7)).size (World.drew w7) pA pk from HPK.out _ B6.out.drew) (by omega) ?_
    intro v8 w8 HO8 HB8
    have B8 := Lib.hid (B6.out.drew.trans (HB8.out.mono B6.out.size))
    refine hKC _ _ ?_
    clear hKC KC
    refine wpAny_ready (rs := [3]) (by kernel_rfl) (by simp) ?_
    refine AllReady.cons rfl (fun KC hKC => ?_) AllReady.nil
    refine step_of rfl (wp_store_row 39 (.tmp 4) (.tmp 64) rfl w.heap.size #[.int .i64 K, .int .i64 l, .int .i64 r, .int .i64 f] rfl rfl 39 #[.int .i64 0, .int .i64 0, .int .i64 0, .int .i64 0] (HAZ.out _ B8.out) sizeO rfl (by simp [Value.oneCell']) ?_)
    refine hKC _ _ ?_
    clear hKC KC
    refine wpAny_ready (rs := [4]) (by kernel_rfl) (by simp) ?_
    refine AllReady.cons rfl (fun KC hKC => ?_) AllReady.nil
    go_simp
    refine hKC _ _ ?_
    clear hKC KC
    refine wpAny_ready (rs := [5]) (by kernel_rfl) (by simp) ?_
    refine AllReady.cons rfl (fun KC hKC => ?_) AllReady.nil
    go_simp
    refine hKC _ _ ?_
    clear hKC KC
    refine wpAny_done (by kernel_rfl) ?_ _
    go_wp2
    have A9 := Arr.row (HAZ.out _ B8.out) [.int .i64 K, .int .i64 l, .int .i64 r, .int .i64 f]
    refine bodyPost_ret (results_cell3 rfl rfl A9 Tryd.underlying39 rfl sizeO) rfl ?_
    exact ⟨⟨_, rfl, own_base (own_row_other HO8.out (Nat.lt_of_lt_of_le HLT.out B6.out.size)) (Nat.le_trans HLE.out B6.out.size)⟩, (HBY.out.trans (B8.out.mono HLE.out)).trans (below_setRow (Below.refl _ _) (Nat.le_refl _) _)⟩
  · go_simp
    refine hKC _ _ ?_
    clear hKC KC
    refine wpAny_ready (rs := [0, 2]) (by kernel_rfl) (by simp) ?_
    refine AllReady.cons rfl (fun KC hKC => ?_) (AllReady.cons rfl (fun KC hKC => ?_) AllReady.nil)
    · refine step_of rfl (wp_load_mid 39 (.tmp 10) rfl w1.heap.size 0 rfl [.int .i64 K, .int .i64 l, .int .i64 r, .int .i64 f] _ (show Arr (World.drew w7) w1.heap.size 39 _ from A6.out).range Tryd.underlying39 rfl sizeO ?_)
      refine hKC _ _ ?_
      clear hKC KC
      refine wpAny_ready (rs := [2]) (by kernel_rfl) (by simp) ?_
      refine AllReady.cons rfl (fun KC hKC => ?_) AllReady.nil
      refine step_append_nil hi hz0 hz1 hz2 rfl _ _ rfl rfl rfl rfl (show RdN (World.heap (World.drew w7)).size (World.drew w7) pA pk from HPK.out _ B6.out.drew) (by omega) ?_
      intro v8 w8 HO8 HB8
      have B8 := Lib.hid (B6.out.drew.trans (HB8.out.mono B6.out.size))
      refine hKC _ _ ?_
      clear hKC KC
      refine wpAny_ready (rs := [3]) (by kernel_rfl) (by simp) ?_
      refine AllReady.cons rfl (fun KC hKC => ?_) AllReady.nil
      refine step_of rfl (wp_store_row 39 (.tmp 4) (.tmp 64) rfl w.heap.size #[.int .i64 K, .int .i64 l, .int .i64 r, .int .i64 f] rfl rfl 39 #[.int .i64 0, .int .i64 0, .int .i64 0, .int .i64 0] (HAZ.out _ B8.out) sizeO rfl (by simp [Value.oneCell']) ?_)
      refine hKC _ _ ?_
      clear hKC KC
      refine wpAny_ready (rs := [4]) (by kernel_rfl) (by simp) ?_
      refine AllReady.cons rfl (fun KC hKC => ?_) AllReady.nil
      go_simp
      refine hKC _ _ ?_
      clear hKC KC
      refine wpAny_ready (rs := [5]) (by kernel_rfl) (by simp) ?_
      refine AllReady.cons rfl (fun KC hKC => ?_) AllReady.nil
      go_simp
      refine hKC _ _ ?_
      clear hKC KC
      refine wpAny_done (by kernel_rfl) ?_ _
      go_wp2
      have A9 := Arr.row (HAZ.out _ B8.out) [.int .i64 K, .int .i64 l, .int .i64 r, .int .i64 f]
      refine bodyPost_ret (results_cell3 rfl rfl A9 Tryd.underlying39 rfl sizeO) rfl ?_
      exact ⟨⟨_, rfl, own_base (own_row_other HO8.out (Nat.lt_of_lt_of_le HLT.out B6.out.size)) (Nat.le_trans HLE.out B6.out.size)⟩, (HBY.out.trans (B8.out.mono HLE.out)).trans (below_setRow (Below.refl _ _) (Nat.le_refl _) _)⟩
    · refine step_append_nil hi hz0 hz1 hz2 rfl _ _ rfl rfl rfl rfl (show RdN (World.heap (World.drew w7)).size (World.drew w7) pA pk from HPK.out _ B6.out.drew) (by omega) ?_
      intro v8 w8 HO8 HB8
      have B8 := Lib.hid (B6.out.drew.trans (HB8.out.mono B6.out.size))
      refine hKC _ _ ?_
      clear hKC KC
      refine wpAny_ready (rs := [0]) (by kernel_rfl) (by simp) ?_
      refine AllReady.cons rfl (fun KC hKC => ?_) AllReady.nil
      refine step_of rfl (wp_load_mid 39 (.tmp 10) rfl w1.heap.size 0 rfl [.int .i64 K, .int .i64 l, .int .i64 r, .int .i64 f] _ (show Arr w8 w1.heap.size 39 _ from (show Arr (World.drew w7) w1.heap.size _ _ from A6.out).below HB8.out A6.out.lt).range Tryd.underlying39 rfl sizeO ?_)
      refine hKC _ _ ?_
      clear hKC KC
      refine wpAny_ready (rs := [3]) (by kernel_rfl) (by simp) ?_
      refine AllReady.cons rfl (fun KC hKC => ?_) AllReady.nil
      refine step_of rfl (wp_store_row 39 (.tmp 4) (.tmp 64) rfl w.heap.size #[.int .i64 K, .int .i64 l, .int .i64 r, .int .i64 f] rfl rfl 39 #[.int .i64 0, .int .i64 0, .int .i64 0, .int .i64 0] (HAZ.out _ B8.out) sizeO rfl (by simp [Value.oneCell']) ?_)
      refine hKC _ _ ?_
      clear hKC KC
      refine wpAny_ready (rs := [4]) (by kernel_rfl) (by simp) ?_
      refine AllReady.cons rfl (fun KC hKC => ?_) AllReady.nil
      go_simp
      refine hKC _ _ ?_
      clear hKC KC
      refine wpAny_ready (rs := [5]) (by kernel_rfl) (by simp) ?_
      refine AllReady.cons rfl (fun KC hKC => ?_) AllReady.nil
      go_simp
      refine hKC _ _ ?_
      clear hKC KC
      refine wpAny_done (by kernel_rfl) ?_ _
      go_wp2
      have A9 := Arr.row (HAZ.out _ B8.out) [.int .i64 K, .int .i64 l, .int .i64 r, .int .i64 f]
      refine bodyPost_ret (results_cell3 rfl rfl A9 Tryd.underlying39 rfl sizeO) rfl ?_
      exact ⟨⟨_, rfl, own_base (own_row_other HO8.out (Nat.lt_of_lt_of_le HLT.out B6.out.size)) (Nat.le_trans HLE.out B6.out.size)⟩, (HBY.out.trans (B8.out.mono HLE.out)).trans (below_setRow (Below.refl _ _) (Nat.le_refl _) _)⟩
  end Go.Proofs.YthdlcpnmldhllaaDoor.sl

/-
  AN ENVELOPE IS NOT OPENED whose key is not there: the program's Open.
-/
namespace Go.Proofs.YthdlcpnmldhllaaDoor.sl
open Go.RowKit
set_option maxHeartbeats 3200000 in
set_option maxRecDepth 100000 in
theorem open_none (kv : Value) (K : Nat) (sec : List Nat) (g c : Nat) (l r f : Nat) (ho : okO K l r f) (pk : List Nat) (hpl : pk.length ≤ 4096) (w : World) (hc : 27 + pk.length ≤ c) (hr : RdN w.heap.size w (some ⟨g, 0, none⟩) (wrapL K l r f sec pk))
    (hfind : ∀ W, Below w.heap.size w W → Calls Tryd.prog 18 #[kv, .int .i64 K] W fun e w' => e = .returned (.tuple #[.agg #[.int .i64 0, .slice none 0 0], .bool false]) ∧ Below W.heap.size W w') :
    Calls Tryd.prog 7 #[kv, .slice (some ⟨g, 0, none⟩) (27 + pk.length) c] w fun e w' => e = .returned (.tuple #[.agg #[.int .i64 0, .int .i64 0, .int .i64 0, .int .i64 0], .slice none 0 0, .int .i64 4]) ∧ Below w.heap.size w w' := by
  have ho2 := ho
  unfold okO okIn at ho2
  have hO := okO_any K l r f
  have hwd := head_words K l r f (by omega) (by omega) (by omega) (by omega)
  have hHl := headL_len K l r f
  have hHb := headL_lt K l r f
  have hWn := wrapL_len K l r f sec pk
  have hp0 : (wrapL K l r f sec pk)[0]? = some 161 := by unfold wrapL headL; rfl
  have hp1 : (wrapL K l r f sec pk)[1]? = some 247 := by unfold wrapL headL; rfl
  have ht1 : ((wrapL K l r f sec pk).drop 0).take 11 = headL K l r f := by rw [List.drop_zero]; unfold wrapL; exact List.take_left' hHl
  have ht2 : ((wrapL K l r f sec pk).drop 11).take 16 = printL K sec (headL K l r f) pk := by unfold wrapL; rw [List.drop_left' hHl]; exact List.take_left' (printL_len _ _ _ _)
  have ht3 : (wrapL K l r f sec pk).drop 27 = pk := by
    unfold wrapL
    rw [← List.append_assoc]
    exact List.drop_left' (by rw [List.length_append, headL_len, printL_len])
  obtain ⟨HD, hHD⟩ : ∃ HD, headL K l r f = HD := ⟨_, rfl⟩
  obtain ⟨FP, hFP⟩ : ∃ FP, printL K sec HD pk = FP := ⟨_, rfl⟩
  have hFl : FP.length = 16 := by rw [← hFP]; exact printL_len _ _ _ _
  rw [hHD] at ht1 ht2 hwd hHl hHb
  rw [hFP] at ht2
  obtain ⟨WL, hWL⟩ : ∃ WL, wrapL K l r f sec pk = WL := ⟨_, rfl⟩
  rw [hWL] at hr hWn hp0 hp1 ht1 ht2 ht3
  obtain ⟨hw0, hw1, hw2, hw3⟩ := hwd
  have hU := fun W h => outerOf_any (some ⟨g, 0, none⟩) c HD hHb hHl (by omega) W h
  rw [hw0, hw1, hw2, hw3] at hU
  -- memory
  obtain ⟨Y, hY⟩ : ∃ Y, w.alloc (.cells #[.int .i64 0, .int .i64 0, .int .i64 0, .int .i64 0] 39) = Y := ⟨_, rfl⟩
  have hBY : Below w.heap.size w Y := by rw [← hY]; exact (Below.refl w.heap.size w).alloc (Nat.le_refl _) _
  have hYs : Y.heap.size = w.heap.size + 1 := by rw [← hY]; simp
  have haz : Arr Y w.heap.size 39 [.int .i64 0, .int .i64 0, .int .i64 0, .int .i64 0] := by rw [← hY]; exact Arr.new w 39 [.int .i64 0, .int .i64 0, .int .i64 0, .int .i64 0]
  have HAZ : Hid (∀ W, Below Y.heap.size Y W → Arr W w.heap.size 39 [.int .i64 0, .int .i64 0, .int .i64 0, .int .i64 0]) := fun W h => haz.below h (by omega)
  have HWL : Hid (∀ W, Below Y.heap.size Y W → RdN W.heap.size W (some ⟨g, 0, none⟩) WL) := fun W h => ((hr.below hBY (Nat.le_refl _)).below h (by omega)).mono (by have := h.size; omega)
  have HBY := Lib.hid hBY
  have HLE : Hid (w.heap.size ≤ Y.heap.size) := by unfold Hid; omega
  have HLT : Hid (w.heap.size < Y.heap.size) := by unfold Hid; omega
  have B0 := Lib.hid (Below.refl Y.heap.size Y)
  have d0 := (HWL.out _ B0.out).at0 hp0
  have d1 := (HWL.out _ B0.out).at0 hp1
  obtain ⟨pA, hpA⟩ : ∃ pA, (if c = 27 then some (⟨g, 0, none⟩ : Addr) else some ⟨g, 27, none⟩) = pA := ⟨_, rfl⟩
  have HPK : Hid (∀ W, Below Y.heap.size Y W → RdN W.heap.size W pA pk) := fun W h => by
    rw [← hpA]
    split
    · have h0 : pk = [] := List.eq_nil_of_length_eq_zero (by omega)
      rw [h0]
      exact RdN.nil _ _ _
    · have := (HWL.out W h).part 27 pk.length
      rw [ht3, List.take_length, Nat.zero_add] at this
      exact this
  have HHD : Hid (∀ W, Below Y.heap.size Y W → RdN W.heap.size W (some ⟨g, 0, none⟩) HD) := fun W h => by
    have := (HWL.out W h).part 0 11
    rw [ht1] at this
    exact this
  have HFD : Hid (∀ W, Below Y.heap.size Y W → RdN W.heap.size W (some ⟨g, 11, none⟩) FP) := fun W h => by
    have := (HWL.out W h).part 11 16
    rw [ht2, Nat.zero_add] at this
    exact this
  have x1 : ¬ c < 11 := by omega
  have x2 : ¬ c < 27 := by omega
  have x3 : ¬ c = 11 := by omega
  have x4 : (11 : Int) ≤ (c : Int) := by omega
  have x5 : (27 : Int) ≤ (c : Int) := by omega
  have x6 : (27 : Int) + (pk.length : Int) ≤ (c : Int) := by omega
  have x7 : ¬ c < 27 + pk.length := by omega
  have HO1 := Lib.hid ho
  clear hHD hFP hWL hHl hHb hWn hp0 hp1 ht1 ht2 ht3 hw0 hw1 hw2 hw3 hBY hYs haz hr ho ho2
  go_enter Tryd.func7, Tryd.ntmps7
  go_wp2
  go_quiet (fail)
  go_wp2_with (first
    | (go_at_call 17; refine (hU _ (HHD.out _ (below_drewN B0.out _))).mono ?_; rintro e w1 ⟨rfl, hb1⟩; have B1 := Lib.hid ((below_drewN B0.out _).trans hb1); clear hb1)
    | (refine wpList_store_arr rfl 39 (.tmp 10) (.tmp 41) rfl w1.heap.size rfl (vs := [.int .i64 K, .int .i64 l, .int .i64 r, .int .i64 f]) rfl (show Arr _ w1.heap.size 39 [.int .i64 0, .int .i64 0, .int .i64 0, .int .i64 0] from Arr.new w1 39 [.int .i64 0, .int .i64 0, .int .i64 0, .int .i64 0]) sizeO rfl rfl (by simp [Value.oneCell']) ?_; intro W2 A2 B2 hsz2 O2; have BB2 := Lib.hid ((B1.out.alloc B1.out.size _).trans (B2.out.mono B1.out.size)); have LW1 := Lib.hid B1.out.size; clear B2 hsz2 O2)
    | (refine wpList_load_arr rfl 39 (.tmp 10) rfl w1.heap.size rfl A2.out Tryd.underlying39 rfl sizeO rfl ?_)
    | (go_at_call 12; refine (hO W2).mono ?_; rintro e w3 ⟨⟨x, rfl, hx⟩, hb3⟩; obtain rfl : x = true := hx.2 HO1.out; have A3 := Lib.hid (A2.out.below hb3 A2.out.lt); have co := A3.out.cell 0; simp only [List.getElem?_cons_zero] at co; have B3 := Lib.hid (BB2.out.trans (hb3.mono BB2.out.size)); clear hx hb3 A2)
    | (go_at_call 18; refine (hfind w3 (HBY.out.trans (B3.out.mono HLE.out))).mono ?_; rintro e w4 ⟨rfl, hb4⟩; have A4 := Lib.hid (A3.out.below hb4 A3.out.lt); have B4 := Lib.hid (B3.out.trans (hb4.mono B3.out.size)); clear hb4 A3 co)
    | (refine wpList_store_arr rfl 37 (.tmp 11) (.tmp 51) rfl w4.heap.size rfl (vs := [.int .i64 0, .slice none 0 0]) rfl (show Arr _ w4.heap.size 37 [.int .i64 0, .slice none 0 0] from Arr.new w4 37 [.int .i64 0, .slice none 0 0]) sizeK rfl rfl (by simp [Value.oneCell']) ?_; intro W5 A5 B5 hsz5 O5; have BB5 := Lib.hid ((B4.out.alloc B4.out.size _).trans (B5.out.mono B4.out.size)); clear B5 hsz5 O5 A4 A5)
    | (refine wpList_store_arr rfl 39 (.tmp 4) (.tmp 55) rfl w.heap.size rfl (vs := [.int .i64 0, .int .i64 0, .int .i64 0, .int .i64 0]) rfl (HAZ.out _ BB5.out) sizeO rfl rfl (by simp [Value.oneCell']) ?_; intro W6 A6 B6 hsz6 O6))
  refine bodyPost_ret (results_cell3 rfl rfl A6.out Tryd.underlying39 rfl sizeO) rfl ?_
  exact ⟨rfl, (HBY.out.trans (BB5.out.mono HLE.out)).trans B6.out⟩
end Go.Proofs.YthdlcpnmldhllaaDoor.sl

/-
  UNLIKE BYTES ARE UNLIKE STRINGS.
-/
namespace Go.Proofs.YthdlcpnmldhllaaDoor.sl
open Go.RowKit
theorem map_back {l : List Nat} (h : ∀ x ∈ l, x < 256) : ((l.map fun n : Nat => (n : Int)).map fun n => UInt8.ofNat n.toNat).map UInt8.toNat = l := by
  induction l with
  | nil => rfl
  | cons x l ih =>
    have hx := h x (by simp)
    have e : (UInt8.ofNat x).toNat = x := by simp [UInt8.ofNat, UInt8.toNat]; omega
    simp only [List.map_cons, Int.toNat_natCast, e]
    rw [ih fun y hy => h y (by simp [hy])]
theorem strB_inj {l l2 : List Nat} (h1 : ∀ x ∈ l, x < 256) (h2 : ∀ x ∈ l2, x < 256) (e : strB l = strB l2) : l = l2 := by
  unfold strB at e
  have e2 := congrArg (fun s : ByteArray => s.data.toList.map UInt8.toNat) e
  simp only [strOfNums_data] at e2
  rwa [map_back h1, map_back h2] at e2
theorem strOfNums_data_bytes (xs : List Int) : (strOfNums xs).data.toList = Lib.bytesOf xs := rfl
theorem strB_inj2 {l l2 : List Nat} (h1 : ∀ x ∈ l, x < 256) (h2 : ∀ x ∈ l2, x < 256) (e : (strB l).toList = (strB l2).toList) : l = l2 := by
  unfold strB at e
  rw [Lib.strOfNums_toList, Lib.strOfNums_toList, ← strOfNums_data_bytes, ← strOfNums_data_bytes] at e
  have e2 := congrArg (List.map UInt8.toNat) e
  simp only [strOfNums_data] at e2
  rwa [map_back h1, map_back h2] at e2
end Go.Proofs.YthdlcpnmldhllaaDoor.sl

/-
  AN ENVELOPE IS NOT OPENED whose fingerprint is wrong: the program's Open.
-/
namespace Go.Proofs.YthdlcpnmldhllaaDoor.sl
open Go.RowKit
set_option maxHeartbeats 3200000 in
set_option maxRecDepth 100000 in
theorem open_bad (kv : Value) (K : Nat) (sA : Option Addr) (sc : Nat) (sec : List Nat) (hsb : ∀ x ∈ sec, x < 256) (hsc : sec.length ≤ sc) (hsl : sec.length ≤ 1000000) (g c : Nat) (l r f : Nat) (ho : okO K l r f) (pk : List Nat) (hpb : ∀ x ∈ pk, x < 256) (hpl : pk.length ≤ 4096) (FQ : List Nat) (hQl : FQ.length = 16) (hQb : ∀ x ∈ FQ, x < 256) (hQn : FQ ≠ printL K sec (headL K l r f) pk) (w : World) (hc : 27 + pk.length ≤ c) (hcm : c ≤ 9223372036854775807) (hr : RdN w.heap.size w (some ⟨g, 0, none⟩) (headL K l r f ++ (FQ ++ pk))) (hrs : RdN w.heap.size w sA sec) (hT : Tabs w)
    (hfind : ∀ W, Below w.heap.size w W → Calls Tryd.prog 18 #[kv, .int .i64 K] W fun e w' => e = .returned (.tuple #[.agg #[.int .i64 K, .slice sA sec.length sc], .bool true]) ∧ Below W.heap.size W w') :
    Calls Tryd.prog 7 #[kv, .slice (some ⟨g, 0, none⟩) (27 + pk.length) c] w fun e w' => e = .returned (.tuple #[.agg #[.int .i64 0, .int .i64 0, .int .i64 0, .int .i64 0], .slice none 0 0, .int .i64 7]) ∧ Below w.heap.size w w' := by
  have ho2 := ho
  unfold okO okIn at ho2
  have hO := okO_any K l r f
  have hwd := head_words K l r f (by omega) (by omega) (by omega) (by omega)
  have hHl := headL_len K l r f
  have hHb := headL_lt K l r f
  have hp0 : (headL K l r f ++ (FQ ++ pk))[0]? = some 161 := by unfold headL; rfl
  have hp1 : (headL K l r f ++ (FQ ++ pk))[1]? = some 247 := by unfold headL; rfl
  have ht1 : ((headL K l r f ++ (FQ ++ pk)).drop 0).take 11 = headL K l r f := by rw [List.drop_zero]; exact List.take_left' hHl
  have ht2 : ((headL K l r f ++ (FQ ++ pk)).drop 11).take 16 = FQ := by rw [List.drop_left' hHl]; exact List.take_left' hQl
  have ht3 : (headL K l r f ++ (FQ ++ pk)).drop 27 = pk := by
    rw [← List.append_assoc]
    exact List.drop_left' (by rw [List.length_append, hHl, hQl])
  obtain ⟨HD, hHD⟩ : ∃ HD, headL K l r f = HD := ⟨_, rfl⟩
  have hF := fun pA pc W (hm : c ≤ 9223372036854775807) hs hh hp ht => fprint_any K sA sc sec hsb hsc hsl g 0 c HD (by rw [← hHD]; exact hHb) (by rw [← hHD]; exact hHl) (by omega) hm pA pc pk hpb (by omega) W hs hh hp ht
  obtain ⟨FP, hFP⟩ : ∃ FP, printL K sec HD pk = FP := ⟨_, rfl⟩
  have hFl : FP.length = 16 := by rw [← hFP]; exact printL_len _ _ _ _
  rw [hHD] at ht1 hQn hwd hHl hHb
  rw [hFP] at hF
  rw [hFP] at hQn
  have hFb : ∀ x ∈ FP, x < 256 := by
    rw [← hFP]
    unfold printL
    split
    · intro x hx; rw [(List.mem_replicate.1 hx).2]; decide
    · exact fun x hx => outV_lt _ x (List.mem_of_mem_take hx)
  obtain ⟨WL, hWL⟩ : ∃ WL, HD ++ (FQ ++ pk) = WL := ⟨_, rfl⟩
  rw [hHD] at hr hp0 hp1 ht2 ht3
  rw [hWL] at hr hp0 hp1 ht1 ht2 ht3
  obtain ⟨hw0, hw1, hw2, hw3⟩ := hwd
  have hU := fun W h => outerOf_any (some ⟨g, 0, none⟩) c HD hHb hHl (by omega) W h
  rw [hw0, hw1, hw2, hw3] at hU
  have hne : ((strB FQ).toList == (strB FP).toList) = false := by
    rw [beq_eq_false_iff_ne]
    exact fun e => hQn (strB_inj2 hQb hFb e)
  have hE := fun (W : World) a1 c1 a2 c2 (h1 : RdN W.heap.size W a1 FQ) (h2 : RdN W.heap.size W a2 FP) => (equal_any a1 c1 FQ 16 hQl a2 c2 FP 16 hFl W h1 h2).mono fun e w' (h : e = .returned (.bool ((strB FQ).toList == (strB FP).toList)) ∧ w' = W) => (show e = .returned (.bool false) ∧ w' = W from ⟨by rw [h.1, hne], h.2⟩)
  -- memory
  obtain ⟨Y, hY⟩ : ∃ Y, w.alloc (.cells #[.int .i64 0, .int .i64 0, .int .i64 0, .int .i64 0] 39) = Y := ⟨_, rfl⟩
  have hBY : Below w.heap.size w Y := by rw [← hY]; exact (Below.refl w.heap.size w).alloc (Nat.le_refl _) _
  have hYs : Y.heap.size = w.heap.size + 1 := by rw [← hY]; simp
  have haz : Arr Y w.heap.size 39 [.int .i64 0, .int .i64 0, .int .i64 0, .int .i64 0] := by rw [← hY]; exact Arr.new w 39 [.int .i64 0, .int .i64 0, .int .i64 0, .int .i64 0]
  have HAZ : Hid (∀ W, Below Y.heap.size Y W → Arr W w.heap.size 39 [.int .i64 0, .int .i64 0, .int .i64 0, .int .i64 0]) := fun W h => haz.below h (by omega)
  have HWL : Hid (∀ W, Below Y.heap.size Y W → RdN W.heap.size W (some ⟨g, 0, none⟩) WL) := fun W h => ((hr.below hBY (Nat.le_refl _)).below h (by omega)).mono (by have := h.size; omega)
  have HTY := Lib.hid (hT.below hBY hT.pos)
  have HRS : Hid (∀ W, Below Y.heap.size Y W → RdN W.heap.size W sA sec) := fun W h => ((hrs.below hBY (Nat.le_refl _)).below h (by omega)).mono (by have := h.size; omega)
  have HPO : Hid (2 < Y.heap.size) := by have := hT.pos; unfold Hid; omega
  have HBY := Lib.hid hBY
  have HLE : Hid (w.heap.size ≤ Y.heap.size) := by unfold Hid; omega
  have HLT : Hid (w.heap.size < Y.heap.size) := by unfold Hid; omega
  have B0 := Lib.hid (Below.refl Y.heap.size Y)
  have d0 := (HWL.out _ B0.out).at0 hp0
  have d1 := (HWL.out _ B0.out).at0 hp1
  obtain ⟨pA, hpA⟩ : ∃ pA, (if c = 27 then some (⟨g, 0, none⟩ : Addr) else some ⟨g, 27, none⟩) = pA := ⟨_, rfl⟩
  have HPK : Hid (∀ W, Below Y.heap.size Y W → RdN W.heap.size W pA pk) := fun W h => by
    rw [← hpA]
    split
    · have h0 : pk = [] := List.eq_nil_of_length_eq_zero (by omega)
      rw [h0]
      exact RdN.nil _ _ _
    · have := (HWL.out W h).part 27 pk.length
      rw [ht3, List.take_length, Nat.zero_add] at this
      exact this
  have HHD : Hid (∀ W, Below Y.heap.size Y W → RdN W.heap.size W (some ⟨g, 0, none⟩) HD) := fun W h => by
    have := (HWL.out W h).part 0 11
    rw [ht1] at this
    exact this
  have HFD : Hid (∀ W, Below Y.heap.size Y W → RdN W.heap.size W (some ⟨g, 11, none⟩) FQ) := fun W h => by
    have := (HWL.out W h).part 11 16
    rw [ht2, Nat.zero_add] at this
    exact this
  have x1 : ¬ c < 11 := by omega
  have x2 : ¬ c < 27 := by omega
  have x3 : ¬ c = 11 := by omega
  have x4 : (11 : Int) ≤ (c : Int) := by omega
  have x5 : (27 : Int) ≤ (c : Int) := by omega
  have x6 : (27 : Int) + (pk.length : Int) ≤ (c : Int) := by omega
  have x7 : ¬ c < 27 + pk.length := by omega
  have HO1 := Lib.hid ho
  clear hHD hFP hWL hHl hHb hp0 hp1 ht1 ht2 ht3 hw0 hw1 hw2 hw3 hBY hYs haz hr ho ho2 hT hrs hne hQn hQb hFb hFl hQl
  go_enter Tryd.func7, Tryd.ntmps7
  go_wp2
  go_quiet (fail)
  go_wp2_with (first
    | (go_at_call 17; refine (hU _ (HHD.out _ (below_drewN B0.out _))).mono ?_; rintro e w1 ⟨rfl, hb1⟩; have B1 := Lib.hid ((below_drewN B0.out _).trans hb1); clear hb1)
    | (refine wpList_store_arr rfl 39 (.tmp 10) (.tmp 41) rfl w1.heap.size rfl (vs := [.int .i64 K, .int .i64 l, .int .i64 r, .int .i64 f]) rfl (show Arr _ w1.heap.size 39 [.int .i64 0, .int .i64 0, .int .i64 0, .int .i64 0] from Arr.new w1 39 [.int .i64 0, .int .i64 0, .int .i64 0, .int .i64 0]) sizeO rfl rfl (by simp [Value.oneCell']) ?_; intro W2 A2 B2 hsz2 O2; have BB2 := Lib.hid ((B1.out.alloc B1.out.size _).trans (B2.out.mono B1.out.size)); have LW1 := Lib.hid B1.out.size; clear B2 hsz2 O2)
    | (refine wpList_load_arr rfl 39 (.tmp 10) rfl w1.heap.size rfl A2.out Tryd.underlying39 rfl sizeO rfl ?_)
    | (go_at_call 12; refine (hO W2).mono ?_; rintro e w3 ⟨⟨x, rfl, hx⟩, hb3⟩; obtain rfl : x = true := hx.2 HO1.out; have A3 := Lib.hid (A2.out.below hb3 A2.out.lt); have co := A3.out.cell 0; simp only [List.getElem?_cons_zero] at co; have B3 := Lib.hid (BB2.out.trans (hb3.mono BB2.out.size)); clear hx hb3 A2)
    | (go_at_call 18; refine (hfind w3 (HBY.out.trans (B3.out.mono HLE.out))).mono ?_; rintro e w4 ⟨rfl, hb4⟩; have A4 := Lib.hid (A3.out.below hb4 A3.out.lt); have B4 := Lib.hid (B3.out.trans (hb4.mono B3.out.size)); clear hb4 A3 co)
    | (refine wpList_store_arr rfl 37 (.tmp 11) (.tmp 51) rfl w4.heap.size rfl (vs := [.int .i64 K, .slice sA sec.length sc]) rfl (show Arr _ w4.heap.size 37 [.int .i64 0, .slice none 0 0] from Arr.new w4 37 [.int .i64 0, .slice none 0 0]) sizeK rfl rfl (by simp [Value.oneCell']) ?_; intro W5 A5 B5 hsz5 O5; have A45 := Lib.hid (A4.out.below (((Below.refl w4.heap.size w4).alloc (Nat.le_refl _) _).trans B5.out) A4.out.lt); have BB5 := Lib.hid ((B4.out.alloc B4.out.size _).trans (B5.out.mono B4.out.size)); clear B5 hsz5 O5 A4)
    | (refine wpList_load_arr rfl 37 (.tmp 11) rfl w4.heap.size rfl A5.out Tryd.underlying37 rfl sizeK rfl ?_)
    | (go_at_call 16; refine (hF pA (c - 27) W5 hcm (HRS.out _ BB5.out) (HHD.out _ BB5.out) (HPK.out _ BB5.out) (HTY.out.below BB5.out HPO.out)).mono ?_; rintro e w6 ⟨⟨g6, c6, rfl, hc6, hr6⟩, hb6⟩; have HR6 := Lib.hid hr6; have A6 := Lib.hid (A45.out.below hb6 A45.out.lt); have B6 := Lib.hid (BB5.out.trans (hb6.mono BB5.out.size)); clear hr6 hb6 hc6 A45 A5)
    | (go_at_call 19; refine (hE w6 _ _ _ _ (HFD.out _ B6.out) HR6.out).mono ?_; rintro e w7 ⟨rfl, rfl⟩)
    | (refine wpList_store_arr rfl 39 (.tmp 4) (.tmp 63) rfl w.heap.size rfl (vs := [.int .i64 0, .int .i64 0, .int .i64 0, .int .i64 0]) rfl (HAZ.out _ B6.out) sizeO rfl rfl (by simp [Value.oneCell']) ?_; intro W8 A8 B8 hsz8 O8))
  refine bodyPost_ret (results_cell3 rfl rfl A8.out Tryd.underlying39 rfl sizeO) rfl ?_
  exact ⟨rfl, (HBY.out.trans (B6.out.mono HLE.out)).trans B8.out⟩
end Go.Proofs.YthdlcpnmldhllaaDoor.sl

namespace Go.Proofs.YthdlcpnmldhllaaDoor.sl
open Go.RowKit
theorem wrapL_zero (l r f : Nat) (s1 s2 b : List Nat) : wrapL 0 l r f s1 b = wrapL 0 l r f s2 b := by
  unfold wrapL printL
  rw [if_pos (show ((0 : Nat) : Int) = 0 from rfl), if_pos (show ((0 : Nat) : Int) = 0 from rfl)]
theorem RdK.one {n₀ : Nat} {W : World} {G : Nat} {id : Int} {a : Option Addr} {n c : Nat} (h : Arr W G 37 [.int .i64 id, .slice a n c]) (hn : n ≤ 9223372036854775807) (hG : G < n₀) : RdK n₀ W (some ⟨G, 0, none⟩) [⟨id, a, n, c⟩] := fun j kd hj => by
  have hj0 : j = 0 := by have := (List.getElem?_eq_some_iff.1 hj).1; simp at this; omega
  subst hj0
  simp only [List.getElem?_cons_zero, Option.some.injEq] at hj
  subst hj
  exact ⟨hn, G, 0, rfl, hG, h.cell 0, h.cell 1⟩
theorem RdK.below {n₀ : Nat} {W W' : World} {kA : Option Addr} {ks : List KeyD} (h : RdK n₀ W kA ks) (hb : Below n₀ W W') : RdK n₀ W' kA ks := fun j kd hj => by
  obtain ⟨h1, B, off, e, h2, h3, h4⟩ := h j kd hj
  exact ⟨h1, B, off, e, h2, (hb.cell (p := ⟨B, _, none⟩) h2).trans h3, (hb.cell (p := ⟨B, _, none⟩) h2).trans h4⟩
theorem RdK.mono {n₀ n₁ : Nat} {W : World} {kA : Option Addr} {ks : List KeyD} (h : RdK n₀ W kA ks) (hn : n₀ ≤ n₁) : RdK n₁ W kA ks := fun j kd hj => by
  obtain ⟨h1, B, off, e, h2, h3⟩ := h j kd hj
  exact ⟨h1, B, off, e, by omega, h3⟩
theorem find_one (K : Nat) (hK : ¬ (K : Int) = 0) (sA : Option Addr) (n sc : Nat) (hk : okK K n) (kA : Option Addr) (kc : Nat) (w : World) (hr : RdK w.heap.size w kA [⟨K, sA, n, sc⟩]) :
    ∀ W, Below w.heap.size w W → Calls Tryd.prog 18 #[.slice kA 1 kc, .int .i64 K] W fun e w' => e = .returned (.tuple #[.agg #[.int .i64 K, .slice sA n sc], .bool true]) ∧ Below W.heap.size W w' := fun W hW =>
  find_some K hK kA kc [⟨K, sA, n, sc⟩] (by simp) 0 ⟨K, sA, n, sc⟩ rfl ⟨rfl, hk⟩ (fun j' _ h => absurd h (by omega)) W ((hr.below hW).mono hW.size)
theorem find_nil (K : Nat) (hK : ¬ (K : Int) = 0) : ∀ W : World, Calls Tryd.prog 18 #[.slice none 0 0, .int .i64 K] W fun e w' => e = .returned (.tuple #[.agg #[.int .i64 0, .slice none 0 0], .bool false]) ∧ Below W.heap.size W w' := fun W =>
  find_none K hK none 0 [] (by decide) (fun kd h => by cases h) W (fun j kd hj => by simp at hj)
end Go.Proofs.YthdlcpnmldhllaaDoor.sl
