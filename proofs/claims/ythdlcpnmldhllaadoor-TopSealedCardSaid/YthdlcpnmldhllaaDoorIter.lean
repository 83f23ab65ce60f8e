/-
  THE ITERATOR: the function that the program ranges over yields just the numbers of "scan", each with the number of its bytes, at every slice of bytes; a round may stop it.
-/
import Derived.Test.YthdlcpnmldhllaaDoorZig
import Derived.RangeFuncNested
import Derived.RangeFuncBound
import Derived.RangeFuncCalls
import Derived.RangeFuncLeaves
import Derived.RangeFuncBox
import Derived.Shelf.Abstract
import Derived.Shelf.RegionOpen
import Derived.WalkKit
import Derived.OwnWalkIn
import Derived.TacticsInMore
import Derived.LoopNIn
import Derived.LoopIn
namespace Go.Proofs.YthdlcpnmldhllaaDoor
open Go.RowKit Go.Shelf
attribute [local go_sem] Oper.semAt_some

/-- WHAT A SLICE OF INTEGERS READS AS: below block n₀ the cells are zs; nil, or empty, where there are none. -/
def Rd (k : IntKind) (n₀ : Nat) (W : World) (a : Option Addr) (zs : List Int) : Prop :=
  0 < zs.length → ∃ b off, a = some ⟨b, off, none⟩ ∧ b < n₀ ∧ ∀ j, j < zs.length → W.cell? ⟨b, off + j, none⟩ = some (.int k (zs[j]?.getD 0))
theorem Rd.below {k : IntKind} {n₀ : Nat} {A B : World} {a : Option Addr} {zs : List Int} (r : Rd k n₀ A a zs) (h : Below n₀ A B) : Rd k n₀ B a zs := fun hp => by
  obtain ⟨b, off, e, hb, hc⟩ := r hp
  exact ⟨b, off, e, hb, fun j hj => (h.cell (p := ⟨b, off + j, none⟩) hb).trans (hc j hj)⟩
theorem Rd.mono {k : IntKind} {n₀ n₁ : Nat} {A : World} {a : Option Addr} {zs : List Int} (r : Rd k n₀ A a zs) (h : n₀ ≤ n₁) : Rd k n₁ A a zs := fun hp => by
  obtain ⟨b, off, e, hb, hc⟩ := r hp
  exact ⟨b, off, e, by omega, hc⟩

/-- The bytes of a slice are bytes. -/
def Bytes (zs : List Int) : Prop := ∀ j : Nat, 0 ≤ zs[j]?.getD 0 ∧ zs[j]?.getD 0 ≤ 255

theorem step_bits {n p : Nat} {x : Int} (hw : Way n p) (hm : may x p = true) (h0 : 0 ≤ x) (h1 : x ≤ 255) :
    bits BinOp.or IntKind.u64 (↑n) (IntKind.u64.wrap (IntKind.u64.wrap (bits BinOp.andNot IntKind.u8 x 128) * 2 ^ (7 * p))) = ((n + (x % 128).toNat * 128 ^ p : Nat) : Int) := by
  have hfit := way_fit hw hm
  obtain ⟨hp, hn⟩ := hw
  obtain ⟨y, rfl⟩ : ∃ y : Nat, x = y := ⟨x.toNat, by omega⟩
  have e1 : bits BinOp.andNot IntKind.u8 (y : Int) 128 = ((y % 128 : Nat) : Int) := by
    have h := u8_andNot_nat y 128 (by omega) (by decide)
    refine h.trans ?_
    rw [show 255 - 128 = 2 ^ 7 - 1 by decide, Nat.and_two_pow_sub_one_eq_mod]
  rw [e1]
  have e2 : ((y : Int) % 128).toNat = y % 128 := by omega
  rw [e2] at hfit ⊢
  have e3 : (2 : Int) ^ (7 * p) = ((128 ^ p : Nat) : Int) := by
    rw [Int.pow_mul]
    simp
  have e4 : IntKind.u64.wrap (((y % 128 : Nat)) : Int) = ((y % 128 : Nat) : Int) := by
    rw [IntKind.wrap_u64]; omega
  rw [e4, e3, ← Int.natCast_mul]
  have e5 : IntKind.u64.wrap ((y % 128 * 128 ^ p : Nat) : Int) = ((y % 128 * 128 ^ p : Nat) : Int) := by
    rw [IntKind.wrap_u64]; omega
  rw [e5, u64_or_nat _ _ (by omega) (by omega)]
  have e6 : 128 ^ p = 2 ^ (7 * p) := by rw [Nat.pow_mul]
  rw [e6] at hn ⊢
  have h := Nat.shiftLeft_add_eq_or_of_lt hn (y % 128)
  rw [Nat.shiftLeft_eq] at h
  rw [Nat.or_comm, ← h, Nat.add_comm]

set_option maxRecDepth 100000 in
set_option maxHeartbeats 2000000 in
theorem nums1_in (l Bs n₀ : Nat) (a : Option Addr) (cap : Nat) (zs : List Int) (hlen : zs.length ≤ 140737488351232) (hbs : Bytes zs) (J Jx : List Num → World → Prop)
    (hY : ∀ pre x W, J pre W → pre.length < zs.length → YieldAt Fence.wide 1 Tryd.prog l #[.int .u64 (x.n : Int), .int .i64 (x.k : Int)] W fun e W' =>
      (e = .returned (.bool true) ∧ J (pre ++ [x]) W' ∧ Below n₀ W W') ∨ (e = .returned (.bool false) ∧ Jx (pre ++ [x]) W'))
    (W : World) (hBs : W.cell? ⟨Bs, 0, none⟩ = some (.slice a zs.length cap)) (hr : Rd .u8 n₀ W a zs) (h0 : J [] W) :
    CallsIn Fence.wide 2 Tryd.prog 87 #[.func (.yield l) #[] #[], .pointer (some ⟨Bs, 0, none⟩)] W fun e W' => (∃ v, e = .returned v) ∧
      ((∃ ys, ys = scan 0 0 zs ∧ J ys W') ∨ (∃ pre, pre <+: scan 0 0 zs ∧ Jx pre W')) := by
  refine callsIn_of_wp Tryd.func87 rfl trivial ?_ rfl
  simp only [Tryd.ntmps87, List.size_toArray, List.length_cons, List.length_nil, Nat.reduceAdd, Nat.reduceSub, Array.replicate_succ, Array.replicate_zero, List.push_toArray, List.append_toArray, List.nil_append, List.cons_append]
  gi_wp2
  gi_loopw [3, 4, 9] (fun sn sp i wr => ∃ (k n p : Nat) (pre : List Num), k ≤ zs.length ∧ Way n p ∧ sn = .int .u64 n ∧ sp = .int .i64 p ∧ i = .int .i64 k ∧ pre.length ≤ k ∧ Hid (scan 0 0 zs = pre ++ scan n p (zs.drop k)) ∧ J pre wr ∧ Below n₀ W wr)
    (fun _ _ i _ => zs.length - (intOf i).toNat)
  case atStart => exact ⟨0, 0, 0, [], Nat.zero_le _, way0, rfl, rfl, rfl, Nat.zero_le _, rfl, h0, Below.refl _ _⟩
  case round =>
    obtain ⟨k, n, p, pre, hk, hway, rfl, rfl, rfl, hpk, HS, hJs, hnx⟩ := hrel
    by_cases hlt : k < zs.length
    · obtain ⟨b, off, rfl, hb, hc⟩ := hr (by omega)
      have hc1 := (hnx.cell (p := ⟨b, off + k, none⟩) hb).trans (hc k hlt)
      have hx0 := (hbs k).1
      have hx1 := (hbs k).2
      have hp9 := hway.1
      clear hc hr
      obtain ⟨x, hx⟩ : ∃ x, zs[k]?.getD 0 = x := ⟨_, rfl⟩
      rw [hx] at hc1 hx0 hx1
      have HX := Lib.hid hx
      clear hx
      have hd : zs.drop k = x :: zs.drop (k + 1) := by
        rw [List.drop_eq_getElem_cons hlt]
        have := HX.out
        rw [List.getElem?_eq_getElem hlt] at this
        simp at this
        rw [this]
      by_cases hm : may x p = true
      · have hbits := step_bits hway hm hx0 hx1
        have hfit := way_fit hway hm
        by_cases h128 : 128 ≤ x
        · have hs : scan n p (zs.drop k) = scan (n + (x % 128).toNat * 128 ^ p) (p + 1) (zs.drop (k + 1)) := by
            rw [hd, scan, if_pos hm, if_pos h128]
          have hnext := way_next hway hm h128
          have HS' : Hid (scan 0 0 zs = pre ++ scan (n + (x % 128).toNat * 128 ^ p) (p + 1) (zs.drop (k + 1))) := by rw [Hid, HS.out, hs]
          obtain ⟨N, hN⟩ : ∃ N, n + (x % 128).toNat * 128 ^ p = N := ⟨_, rfl⟩
          rw [hN] at hbits hnext HS'
          clear hs hd hN hfit
          gi_wp2_with (refine ⟨trivial, ?_⟩; gi_at_call 88; refine (callsIn_wide.2 (may_any x p hx0 hx1 _)).mono ?_; rintro e w' ⟨rfl, rfl⟩)
          go_roundw
          case rel => exact ⟨k + 1, N, p + 1, pre, by omega, hnext, by simp, by simp, by simp, by omega, HS', hJs, hnx⟩
          case measure => simp [intOf]; omega
        · have hs : scan n p (zs.drop k) = Num.of (n + (x % 128).toNat * 128 ^ p) (p + 1) :: scan 0 0 (zs.drop (k + 1)) := by
            rw [hd, scan, if_pos hm, if_neg h128]
          have e1 := Num.of_n (k := p + 1) hfit
          have e2 := Num.of_k (n := n + (x % 128).toNat * 128 ^ p) (k := p + 1) (by omega)
          obtain ⟨q, hq⟩ : ∃ q, Num.of (n + (x % 128).toNat * 128 ^ p) (p + 1) = q := ⟨_, rfl⟩
          rw [hq] at hs e1 e2
          rw [← e1] at hbits
          have e3 : (p : Int) + 1 = (q.k : Int) := by omega
          have HS' : Hid (scan 0 0 zs = (pre ++ [q]) ++ scan 0 0 (zs.drop (k + 1))) := by rw [Hid, HS.out, hs]; simp
          clear hs hd hq e1 e2 hfit
          obtain ⟨fn, tmps, assign, body, hy, hR⟩ := hY pre q wr hJs (by omega)
          gi_wp2_with (refine ⟨trivial, ?_⟩; gi_at_call 88; refine (callsIn_wide.2 (may_any x p hx0 hx1 _)).mono ?_; rintro e w' ⟨rfl, rfl⟩)
          refine hR.mono ?_
          rintro e W3 (⟨rfl, hJ3, hk3⟩ | ⟨rfl, hJx3⟩)
          · gi_wp2
            go_roundw
            case rel => exact ⟨k + 1, 0, 0, pre ++ [q], by omega, way0, rfl, rfl, by simp, by simp; omega, HS', hJ3, hnx.trans hk3⟩
            case measure => simp [intOf]; omega
          · gi_wp2
            refine bodyPost_ret (results_none rfl _ _ _) rfl ?_
            exact ⟨⟨_, rfl⟩, .inr ⟨_, ⟨_, HS'.out.symm⟩, hJx3⟩⟩
      · have hs : scan n p (zs.drop k) = [] := by
          rw [hd, scan, if_neg hm]
        have hm' : may x p = false := by simpa using hm
        have HS' : Hid (scan 0 0 zs = pre) := by rw [Hid, HS.out, hs]; simp
        clear hs hd hm
        gi_wp2_with (refine ⟨trivial, ?_⟩; gi_at_call 88; refine (callsIn_wide.2 (may_any x p hx0 hx1 _)).mono ?_; rintro e w' ⟨rfl, rfl⟩)
        refine bodyPost_ret (results_none rfl _ _ _) rfl ?_
        exact ⟨⟨_, rfl⟩, .inl ⟨_, HS'.out.symm, hJs⟩⟩
    · obtain rfl : k = zs.length := by omega
      gi_wp2
      go_end0
      exact ⟨⟨_, rfl⟩, .inl ⟨_, by rw [HS.out]; simp [scan], hJs⟩⟩

/-- The iterator's maker: the slice is boxed; the function value captures the box. -/
theorem numbers_any (a : Option Addr) (len cap : Nat) (w : World) :
    Calls Tryd.prog 81 #[.slice a len cap] w fun e w' => e = .returned (.func (.func 87) #[] #[.pointer (some ⟨w.heap.size, 0, none⟩)]) ∧ w.alloc (.cells #[.slice a len cap] 35) = w' := by
  go_enter Tryd.func81, Tryd.ntmps81
  go_wp2
  go_ret
  exact ⟨rfl, rfl⟩

/-- WHAT numbers HANDS BACK STOPS: all numbers of 'scan', in order, or a part of them, a round having said 'no more'. -/
theorem nums_stops (Bs n₀ : Nat) (a : Option Addr) (cap : Nat) (zs : List Int) (hlen : zs.length ≤ 140737488351232) (hbs : Bytes zs) (w : World) (hBl : Bs < w.heap.size) (hn₀ : n₀ ≤ w.heap.size)
    (hc : w.cell? ⟨Bs, 0, none⟩ = some (.slice a zs.length cap)) (hr : Rd .u8 n₀ w a zs) :
    SeqStopsK Fence.wide 2 Tryd.prog 87 #[.pointer (some ⟨Bs, 0, none⟩)] (fun x : Num => #[Value.int .u64 (x.n : Int), .int .i64 (x.k : Int)]) (Below n₀) (fun ys => ys = scan 0 0 zs) (fun pre => pre <+: scan 0 0 zs) zs.length w := fun l J Jx W hW _ _ hY h0 =>
  nums1_in l Bs n₀ a cap zs hlen hbs J Jx hY W ((hW.cell (p := ⟨Bs, 0, none⟩) hBl).trans hc) (hr.below (hW.mono hn₀)) h0
end Go.Proofs.YthdlcpnmldhllaaDoor
