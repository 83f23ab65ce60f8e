/-
  THE DOCUMENT's tests of numbers (selvageref03): within, rightId, RightHead, rightLie, rightEdge, zeroTie, RightPrefix.
-/
import Derived.Test.YtjkibgnkkienbaaWCode
namespace Go.Proofs.Ytjkibgnkkienbaa
open Go.RowKit Go.Shelf
set_option linter.unusedVariables false

theorem rwithin_any (n lo hi : Int) (w : World) : Calls Try.prog 39 #[.int .i64 n, .int .i64 lo, .int .i64 hi] w fun e w' => e = .returned (.bool (rgB lo hi n)) ∧ w = w' := by
  go_enter Try.func39, Try.ntmps39
  go_wp2
  all_goals go_ret
  all_goals exact ⟨ret_bool (by unfold rgB; first | (simp [*]; done) | (simp; omega)), rfl⟩

set_option maxRecDepth 100000 in
set_option maxHeartbeats 8000000 in
theorem rrightId_any (x : IdT) (w : World) : Calls Try.prog 26 #[.agg #[.int .i64 x.dir, .int .i64 x.orig, .int .i64 x.kind, .int .i64 x.nr]] w fun e w' => e = .returned (.bool (idR x)) ∧ Below w.heap.size w w' := by
  go_enter Try.func26, Try.ntmps26
  go_wp2_with (first
    | (go_at_call 39; refine (rwithin_any _ _ _ _).mono ?_; rintro e w' ⟨rfl, rfl⟩))
  all_goals go_ret
  all_goals exact ⟨ret_bool (by simp [idR, *]), (Below.refl _ _).alloc (Nat.le_refl _) _⟩

set_option maxRecDepth 100000 in
set_option maxHeartbeats 8000000 in
theorem rrightEdge_any (x : EdgeT) (w : World) : Calls Try.prog 40 #[.agg #[.int .i64 x.node, .int .i64 x.level, .int .i64 x.cost]] w fun e w' => e = .returned (.bool (edgeR x)) ∧ Below w.heap.size w w' := by
  go_enter Try.func40, Try.ntmps40
  go_wp2_with (first
    | (go_at_call 39; refine (rwithin_any _ _ _ _).mono ?_; rintro e w' ⟨rfl, rfl⟩))
  all_goals go_ret
  all_goals exact ⟨ret_bool (by simp [edgeR, *]), (Below.refl _ _).alloc (Nat.le_refl _) _⟩

set_option maxRecDepth 100000 in
set_option maxHeartbeats 8000000 in
theorem rrightLie_any (x : LieT) (w : World) : Calls Try.prog 24 #[.agg #[.int .i64 x.node, .int .i64 x.level, .int .i64 x.pod, .int .i64 x.mtu, .int .i64 x.link, .int .i64 x.nonce, .int .i64 x.seen, .int .i64 x.seenLink, .int .i64 x.seenNonce, .int .i64 x.hold, .bool x.rep, .bool x.noOffer]] w fun e w' => e = .returned (.bool (lieR x)) ∧ Below w.heap.size w w' := by
  go_enter Try.func24, Try.ntmps24
  go_wp2_with (first
    | (go_at_call 39; refine (rwithin_any _ _ _ _).mono ?_; rintro e w' ⟨rfl, rfl⟩))
  all_goals go_ret
  all_goals exact ⟨ret_bool (by simp [lieR, *]), (Below.refl _ _).alloc (Nat.le_refl _) _⟩

set_option maxRecDepth 100000 in
set_option maxHeartbeats 8000000 in
theorem rRightHead_any (x : HeadT) (w : World) : Calls Try.prog 23 #[.agg #[.int .i64 x.id.dir, .int .i64 x.id.orig, .int .i64 x.id.kind, .int .i64 x.id.nr, .int .i64 x.seq, .int .i64 x.life]] w fun e w' => e = .returned (.bool (headR x)) ∧ Below w.heap.size w w' := by
  have A0 := Lib.hid (At.new w.heap.size w (Nat.le_refl _) [.int .i64 x.id.dir, .int .i64 x.id.orig, .int .i64 x.id.kind, .int .i64 x.id.nr, .int .i64 x.seq, .int .i64 x.life] 27 rfl)
  have HB := Lib.hid ((Below.refl w.heap.size w).alloc (Nat.le_refl _) (.cells #[.int .i64 x.id.dir, .int .i64 x.id.orig, .int .i64 x.id.kind, .int .i64 x.id.nr, .int .i64 x.seq, .int .i64 x.life] 27))
  go_enter Try.func23, Try.ntmps23
  go_wp2_with (first
    | (go_at_call 26; refine (rrightId_any x.id _).mono ?_; rintro e w1 ⟨rfl, hb⟩; have d4 : w1.cell? ⟨w.heap.size, 4, none⟩ = some _ := (hb.cell (p := ⟨w.heap.size, 4, none⟩) (by simp)).trans (A0.out.cellZ 4 rfl); have d5 : w1.cell? ⟨w.heap.size, 5, none⟩ = some _ := (hb.cell (p := ⟨w.heap.size, 5, none⟩) (by simp)).trans (A0.out.cellZ 5 rfl); have HB1 := Lib.hid (HB.out.trans (hb.mono (by simp))); clear hb)
    | (go_at_call 39; refine (rwithin_any _ _ _ _).mono ?_; rintro e w' ⟨rfl, rfl⟩))
  all_goals go_ret
  all_goals exact ⟨ret_bool (by simp [headR, *]), HB1.out⟩

set_option maxRecDepth 100000 in
set_option maxHeartbeats 4000000 in
theorem rzeroTie_any (x : TieT) (ae ar : Option Addr) (ce cr : Nat) (W : World) :
    Calls Try.prog 22 #[.agg #[.int .i64 x.head.id.dir, .int .i64 x.head.id.orig, .int .i64 x.head.id.kind, .int .i64 x.head.id.nr, .int .i64 x.head.seq, .int .i64 x.head.life, .int .i64 x.level, .bool x.over, .slice ae x.edges.length ce, .slice ar x.reaches.length cr]] W fun e w' => e = .returned (.bool x.nil) ∧ Below W.heap.size W w' := by
  go_enter Try.func22, Try.ntmps22
  go_wp2
  all_goals go_ret
  all_goals exact ⟨ret_bool (by simp [TieT.nil, HeadT.nil, IdT.nil, len_beq, *]), (Below.refl _ _).alloc (Nat.le_refl _) _⟩

theorem pow_pos (k : Nat) : (0 : Int) < 2 ^ k := Int.pow_pos (by decide)
/-- No bits are set behind those that count, just where the rest is nought. -/
theorem shl_rem {net : Int} {k : Nat} (h0 : 0 ≤ net) (h1 : net < 4294967296) (hk : k ≤ 32) : shlB net k = decide (net % 2 ^ (32 - k) = 0) := by
  have e1 : ((k : Int) % 18446744073709551616).toNat = k := by omega
  have e2 : (4294967296 : Int) = 2 ^ (32 - k) * 2 ^ k := by
    rw [← Int.pow_add, show 32 - k + k = 32 by omega]
    rfl
  unfold shlB
  rw [e1, Nat.min_eq_left hk, e2, Int.mul_comm net, Int.mul_comm (2 ^ (32 - k)) (2 ^ k), Int.mul_emod_mul_of_pos _ _ (pow_pos k)]
  have hp := pow_pos k
  rw [Bool.eq_iff_iff]
  simp only [beq_iff_eq, decide_eq_true_eq]
  constructor
  · intro h
    rcases Int.mul_eq_zero.1 h with h | h
    · omega
    · exact h
  · intro h
    rw [h]
    simp
set_option maxRecDepth 100000 in
set_option maxHeartbeats 4000000 in
theorem rRightPrefix_any (net bits : Int) (h0 : 0 ≤ net) (h1 : net < 4294967296) (W : World) :
    Calls Try.prog 41 #[.agg #[.int .u32 net, .int .i64 bits]] W fun e w' => e = .returned (.bool (rgB 0 32 bits && shlB net bits)) ∧ Below W.heap.size W w' := by
  by_cases hb : 0 ≤ bits ∧ bits ≤ 32
  rotate_left
  · have HB := Lib.hid hb
    have hr : rgB 0 32 bits = false := by unfold rgB; exact decide_eq_false hb
    have HR := Lib.hid hr
    have hc : bits < 0 ∨ 32 < bits := by omega
    clear hb hr
    rcases hc with hc | hc
    all_goals
      go_enter Try.func41, Try.ntmps41
      go_wp2
    all_goals go_ret
    all_goals exact ⟨ret_bool (by rw [HR.out]; rfl), (Below.refl _ _).alloc (Nat.le_refl _) _⟩
  · obtain ⟨k, rfl⟩ : ∃ k : Nat, bits = k := ⟨bits.toNat, by omega⟩
    have hk : k ≤ 32 := by omega
    have hr : rgB 0 32 (k : Int) = true := by unfold rgB; exact decide_eq_true hb
    have HR := Lib.hid hr
    have HS := Lib.hid (shl_rem h0 h1 hk)
    clear hb hr
    have k0 : (0 : Int) ≤ (k : Int) := Int.natCast_nonneg _
    have k1 : (k : Int) ≤ 32 := by omega
    go_enter Try.func41, Try.ntmps41
    go_wp2
    go_loop [4, 5] (fun z i => ∃ (j : Nat) (u : Int), k ≤ j ∧ j ≤ 32 ∧ z = .int .i64 u ∧ i = .int .i64 j ∧ RowKit.Hid (u = 2 ^ (j - k)) ∧ 0 < u ∧ u ≤ 4294967296) (fun _ i => 32 - (intOf i).toNat)
    case atStart => exact ⟨k, 1, Nat.le_refl _, hk, rfl, rfl, Lib.hid (by simp), by omega, by omega⟩
    case round =>
      obtain ⟨j, u, hj, hj2, rfl, rfl, hu, hu0, hu1⟩ := hrel
      by_cases hlt : j < 32
      · have hu2 : u * 2 ≤ 4294967296 := by
          rw [hu.out, ← Int.pow_succ]
          calc (2 : Int) ^ (j - k + 1) ≤ 2 ^ 32 := by
                have : (2 : Nat) ^ (j - k + 1) ≤ 2 ^ 32 := Nat.pow_le_pow_right (by decide) (by omega)
                exact_mod_cast this
            _ = 4294967296 := by rfl
        have j0 : (j : Int) < 32 := by omega
        have hnx : RowKit.Hid (u * 2 = 2 ^ (j + 1 - k)) := by
          have h := hu.out
          show u * 2 = 2 ^ (j + 1 - k)
          rw [h, show j + 1 - k = (j - k) + 1 by omega, Int.pow_succ]
        go_wp2
        go_round
        case rel => exact ⟨j + 1, u * 2, by omega, by omega, by go_num, by go_num, hnx, by omega, hu2⟩
        case measure => simp [intOf]; omega
      · obtain rfl : j = 32 := by omega
        have hne : ¬ u = 0 := by omega
        go_wp2
        go_ret
        exact ⟨ret_bool (by rw [HR.out, HS.out, hu.out]; rfl), (Below.refl _ _).alloc (Nat.le_refl _) _⟩
end Go.Proofs.Ytjkibgnkkienbaa
