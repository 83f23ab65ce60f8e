/-
  THE PROGRAM's padding of the last part.
-/
import Derived.Test.YtmmocnokgcgmnaaDoorHMake
import Derived.Test.YtmmocnokgcgmnaaDoorHSched
namespace Go.Proofs.YtmmocnokgcgmnaaDoor
open Go.RowKit
theorem Tryd.size5 : (Tryd.prog.info? 5).map (·.size) = some 1 := by kernel_rfl
set_option maxHeartbeats 1600000 in
set_option maxRecDepth 100000 in
theorem padded_any (a : Option Addr) (cap : Nat) (b : List Nat) (hl : b.length < 64) (hb : ∀ x ∈ b, x < 256) (n : Nat) (hn : n < 1152921504606846976) (w : World) (hr : RdN w.heap.size w a b) :
    Calls Tryd.prog 40 #[.slice a b.length cap, .int .i64 n] w fun e w' => (∃ g, e = .returned (.slice (some ⟨g, 0, none⟩) (padL b n).length (padL b n).length) ∧ w.heap.size ≤ g ∧ Arr w' g 5 (u8s (padL b n))) ∧ Below w.heap.size w w' := by
  obtain ⟨i0, hi, hz0, hz1, hz2⟩ := info_parts Tryd.info5
  by_cases h9 : 64 < b.length + 9
  · obtain ⟨Zs, hZs⟩ : ∃ Zs : List Nat, List.replicate 128 0 = Zs := ⟨_, rfl⟩
    have HZs : Hid (Unit → Zs = List.replicate 128 0) := fun _ => hZs.symm
    have hZl : (u8s Zs).length = 128 := by rw [← hZs, u8s_len, List.length_replicate]
    have hmk : ∀ W : World, (Instr.makeSlice 23 (.int .i64 128) (.int .i64 128)).run Tryd.prog W = .ok (.slice (some ⟨W.heap.size, 0, none⟩) 128 128) (W.alloc (.cells (u8s Zs).toArray 5)) := fun W => by rw [← hZs]; exact run_make_u8 (l := 128) (c := 128) Tryd.underlying23 hi hz0 hz1 hz2 (by decide) (by decide) W
    obtain ⟨Z, hZ⟩ : ∃ Z, padZ b.length = Z := ⟨_, rfl⟩
    have hZS : b.length + 1 + Z + 8 = 128 := by rw [← hZ]; unfold padZ; omega
    obtain ⟨m, hm⟩ : ∃ m, b.length = m := ⟨_, rfl⟩
    rw [padL_eq, hZ]
    have HB := Lib.hid hb
    have HBL := Lib.hid hm
    rw [hm] at hZS hl h9 ⊢
    clear hZ hm hb hZs
    go_enter Tryd.func40, Tryd.ntmps40
    have A0 := Arr.new w 5 (u8s Zs)
    obtain ⟨w1, hcopy, hA1, hB1, _⟩ := run_copy_u8 (P := Tryd.prog) (dCap := 128) (sCap := cap) (dLen := 128) Tryd.underlying23 Tryd.size5 3 A0 (hr.below ((Below.refl w.heap.size w).alloc (Nat.le_refl _) (.cells (u8s Zs).toArray 5)) (Nat.le_refl _)) (by rw [HZs.out (), HBL.out, List.length_replicate]; omega) (by rw [HBL.out]; omega)
    rw [HBL.out] at hcopy hA1
    have A1 : Hid (Arr w1 w.heap.size 5 (u8s (b ++ List.replicate (128 - m) 0))) := by
      rw [HZs.out (), List.drop_replicate] at hA1
      exact hA1
    have HB1 := Lib.hid (((Below.refl w.heap.size w).alloc (Nat.le_refl _) (.cells (u8s Zs).toArray 5)).trans hB1)
    clear hA1 hB1 A0
    have cm : w1.cell? ⟨w.heap.size, m, none⟩ = some (.int .u8 (0 : Nat)) := by
      rw [A1.out.cell]
      refine u8s_get ?_
      rw [List.getElem?_append_right (by rw [HBL.out]; omega), HBL.out, List.getElem?_replicate, if_pos (by omega)]
    have fm := A1.out.frozen m
    go_wp2
    have e2 : (b ++ List.replicate (128 - m) 0).set m 128 = (b ++ 128 :: List.replicate Z 0) ++ beJ 0 (8 * n) := by
      rw [List.set_append_right _ _ (by rw [HBL.out]; omega), HBL.out, Nat.sub_self, show 128 - m = (Z + 8) + 1 by omega, List.replicate_succ, List.set_cons_zero, ← List.replicate_append_replicate, beJ_zero]
      simp
    have A2 : Hid (Arr (w1.setCell ⟨w.heap.size, m, none⟩ (.int .u8 128)) w.heap.size 5 (u8s ((b ++ 128 :: List.replicate Z 0) ++ beJ 0 (8 * n)))) := by
      rw [← e2, u8s_set]
      exact A1.out.set m _
    have HB2 := Lib.hid (HB1.out.setCell (p := ⟨w.heap.size, m, none⟩) (Nat.le_refl _) (.int .u8 128))
    have hs2 : w.heap.size < (w1.setCell ⟨w.heap.size, m, none⟩ (.int .u8 128)).heap.size := A2.out.lt
    obtain ⟨W2, hW2⟩ : ∃ W2, w1.setCell ⟨w.heap.size, m, none⟩ (.int .u8 128) = W2 := ⟨_, rfl⟩
    rw [hW2] at A2 HB2 hs2 ⊢
    clear hW2 A1 HB1 cm fm e2
    obtain ⟨L, hL⟩ : ∃ L, b ++ 128 :: List.replicate Z 0 = L := ⟨_, rfl⟩
    have hLl : L.length = 128 - 8 := by rw [← hL]; simp [HBL.out]; omega
    have HLe : Hid (Unit → b ++ 128 :: List.replicate Z 0 = L) := fun _ => hL
    rw [hL] at A2
    clear hL
    go_loopw [7, 8] (fun bv iv wr => ∃ (j q : Nat), j ≤ 8 ∧ Hid (8 * n / 256 ^ j = q) ∧ q < 18446744073709551616 ∧ bv = .int .u64 q ∧ iv = .int .i64 (128 - 1 - (j : Int)) ∧ Hid (Arr wr w.heap.size 5 (u8s (L ++ beJ j (8 * n)))) ∧ Hid (Below w.heap.size w wr)) (fun bv _ _ => (intOf bv).toNat)
    case atStart => exact ⟨0, 8 * n, by omega, by simp [Hid], by omega, by go_num, by go_num, A2, HB2⟩
    case round =>
      obtain ⟨j, q, hj, hq, hql, rfl, rfl, AJ, BJ⟩ := hrel
      clear A2 HB2
      by_cases hpos : 0 < q
      · have hj8 : j < 8 := by
          rcases Nat.lt_or_ge j 8 with h | h
          · exact h
          · exfalso
            have e : j = 8 := by omega
            have := hq.out
            rw [e] at this
            have e2 : (256 : Nat) ^ 8 = 18446744073709551616 := by decide
            rw [e2] at this
            omega
        obtain ⟨p, hp⟩ : ∃ p, 128 - 1 - j = p := ⟨_, rfl⟩
        have hpi : (128 - 1 - (j : Int)) = (p : Int) := by omega
        have hb7 := beJ_step hj8 (8 * n)
        rw [hq.out] at hb7
        have hset : Hid ((L ++ beJ j (8 * n)).set p (q % 256) = L ++ beJ (j + 1) (8 * n)) := by
          unfold Hid
          rw [List.set_append_right _ _ (by omega), hLl, show p - (128 - 8) = 7 - j by omega, hb7]
        have hq2 : Hid (8 * n / 256 ^ (j + 1) = q / 256) := by
          unfold Hid
          rw [Nat.pow_succ, ← Nat.div_div_eq_div_mul, hq.out]
        obtain ⟨y, hy⟩ : ∃ y, (L ++ beJ j (8 * n))[p]? = some y := ⟨_, List.getElem?_eq_getElem (by rw [List.length_append, hLl, beJ_len hj]; omega)⟩
        have cp : wr.cell? ⟨w.heap.size, p, none⟩ = some (.int .u8 y) := by rw [AJ.out.cell]; exact u8s_get hy
        have fp := AJ.out.frozen p
        rw [hpi]
        have hp0 : p < 128 := by omega
        clear hb7 hy hq
        go_wp2
        go_roundw
        case rel =>
          refine ⟨j + 1, q / 256, by omega, hq2, by omega, by go_num, by congr 1; omega, ?_, BJ.out.setCell (p := ⟨w.heap.size, p, none⟩) (Nat.le_refl _) _⟩
          have e : ((q % 256 : Nat) : Int) = (q : Int) % 256 := by omega
          unfold Hid
          rw [← hset.out, u8s_set, e]
          exact AJ.out.set p _
        case measure => simp [intOf]; omega
      · obtain rfl : q = 0 := by omega
        have hbe := beJ_end hj hq.out
        rw [hbe] at AJ
        go_wp2
        go_ret
        have e : (L ++ be (8 * n)).length = 128 := by rw [List.length_append, hLl]; rfl
        rw [← HLe.out ()] at AJ e
        refine ⟨⟨w.heap.size, ?_, Nat.le_refl _, AJ.out⟩, BJ.out⟩
        exact congrArg (fun k => Ending.returned (.slice (some ⟨w.heap.size, 0, none⟩) k k)) e.symm
  · obtain ⟨Zs, hZs⟩ : ∃ Zs : List Nat, List.replicate 64 0 = Zs := ⟨_, rfl⟩
    have HZs : Hid (Unit → Zs = List.replicate 64 0) := fun _ => hZs.symm
    have hZl : (u8s Zs).length = 64 := by rw [← hZs, u8s_len, List.length_replicate]
    have hmk : ∀ W : World, (Instr.makeSlice 23 (.int .i64 64) (.int .i64 64)).run Tryd.prog W = .ok (.slice (some ⟨W.heap.size, 0, none⟩) 64 64) (W.alloc (.cells (u8s Zs).toArray 5)) := fun W => by rw [← hZs]; exact run_make_u8 (l := 64) (c := 64) Tryd.underlying23 hi hz0 hz1 hz2 (by decide) (by decide) W
    obtain ⟨Z, hZ⟩ : ∃ Z, padZ b.length = Z := ⟨_, rfl⟩
    have hZS : b.length + 1 + Z + 8 = 64 := by rw [← hZ]; unfold padZ; omega
    obtain ⟨m, hm⟩ : ∃ m, b.length = m := ⟨_, rfl⟩
    rw [padL_eq, hZ]
    have HB := Lib.hid hb
    have HBL := Lib.hid hm
    rw [hm] at hZS hl h9 ⊢
    clear hZ hm hb hZs
    go_enter Tryd.func40, Tryd.ntmps40
    have A0 := Arr.new w 5 (u8s Zs)
    obtain ⟨w1, hcopy, hA1, hB1, _⟩ := run_copy_u8 (P := Tryd.prog) (dCap := 64) (sCap := cap) (dLen := 64) Tryd.underlying23 Tryd.size5 3 A0 (hr.below ((Below.refl w.heap.size w).alloc (Nat.le_refl _) (.cells (u8s Zs).toArray 5)) (Nat.le_refl _)) (by rw [HZs.out (), HBL.out, List.length_replicate]; omega) (by rw [HBL.out]; omega)
    rw [HBL.out] at hcopy hA1
    have A1 : Hid (Arr w1 w.heap.size 5 (u8s (b ++ List.replicate (64 - m) 0))) := by
      rw [HZs.out (), List.drop_replicate] at hA1
      exact hA1
    have HB1 := Lib.hid (((Below.refl w.heap.size w).alloc (Nat.le_refl _) (.cells (u8s Zs).toArray 5)).trans hB1)
    clear hA1 hB1 A0
    have cm : w1.cell? ⟨w.heap.size, m, none⟩ = some (.int .u8 (0 : Nat)) := by
      rw [A1.out.cell]
      refine u8s_get ?_
      rw [List.getElem?_append_right (by rw [HBL.out]; omega), HBL.out, List.getElem?_replicate, if_pos (by omega)]
    have fm := A1.out.frozen m
    go_wp2
    have e2 : (b ++ List.replicate (64 - m) 0).set m 128 = (b ++ 128 :: List.replicate Z 0) ++ beJ 0 (8 * n) := by
      rw [List.set_append_right _ _ (by rw [HBL.out]; omega), HBL.out, Nat.sub_self, show 64 - m = (Z + 8) + 1 by omega, List.replicate_succ, List.set_cons_zero, ← List.replicate_append_replicate, beJ_zero]
      simp
    have A2 : Hid (Arr (w1.setCell ⟨w.heap.size, m, none⟩ (.int .u8 128)) w.heap.size 5 (u8s ((b ++ 128 :: List.replicate Z 0) ++ beJ 0 (8 * n)))) := by
      rw [← e2, u8s_set]
      exact A1.out.set m _
    have HB2 := Lib.hid (HB1.out.setCell (p := ⟨w.heap.size, m, none⟩) (Nat.le_refl _) (.int .u8 128))
    have hs2 : w.heap.size < (w1.setCell ⟨w.heap.size, m, none⟩ (.int .u8 128)).heap.size := A2.out.lt
    obtain ⟨W2, hW2⟩ : ∃ W2, w1.setCell ⟨w.heap.size, m, none⟩ (.int .u8 128) = W2 := ⟨_, rfl⟩
    rw [hW2] at A2 HB2 hs2 ⊢
    clear hW2 A1 HB1 cm fm e2
    obtain ⟨L, hL⟩ : ∃ L, b ++ 128 :: List.replicate Z 0 = L := ⟨_, rfl⟩
    have hLl : L.length = 64 - 8 := by rw [← hL]; simp [HBL.out]; omega
    have HLe : Hid (Unit → b ++ 128 :: List.replicate Z 0 = L) := fun _ => hL
    rw [hL] at A2
    clear hL
    go_loopw [7, 8] (fun bv iv wr => ∃ (j q : Nat), j ≤ 8 ∧ Hid (8 * n / 256 ^ j = q) ∧ q < 18446744073709551616 ∧ bv = .int .u64 q ∧ iv = .int .i64 (64 - 1 - (j : Int)) ∧ Hid (Arr wr w.heap.size 5 (u8s (L ++ beJ j (8 * n)))) ∧ Hid (Below w.heap.size w wr)) (fun bv _ _ => (intOf bv).toNat)
    case atStart => exact ⟨0, 8 * n, by omega, by simp [Hid], by omega, by go_num, by go_num, A2, HB2⟩
    case round =>
      obtain ⟨j, q, hj, hq, hql, rfl, rfl, AJ, BJ⟩ := hrel
      clear A2 HB2
      by_cases hpos : 0 < q
      · have hj8 : j < 8 := by
          rcases Nat.lt_or_ge j 8 with h | h
          · exact h
          · exfalso
            have e : j = 8 := by omega
            have := hq.out
            rw [e] at this
            have e2 : (256 : Nat) ^ 8 = 18446744073709551616 := by decide
            rw [e2] at this
            omega
        obtain ⟨p, hp⟩ : ∃ p, 64 - 1 - j = p := ⟨_, rfl⟩
        have hpi : (64 - 1 - (j : Int)) = (p : Int) := by omega
        have hb7 := beJ_step hj8 (8 * n)
        rw [hq.out] at hb7
        have hset : Hid ((L ++ beJ j (8 * n)).set p (q % 256) = L ++ beJ (j + 1) (8 * n)) := by
          unfold Hid
          rw [List.set_append_right _ _ (by omega), hLl, show p - (64 - 8) = 7 - j by omega, hb7]
        have hq2 : Hid (8 * n / 256 ^ (j + 1) = q / 256) := by
          unfold Hid
          rw [Nat.pow_succ, ← Nat.div_div_eq_div_mul, hq.out]
        obtain ⟨y, hy⟩ : ∃ y, (L ++ beJ j (8 * n))[p]? = some y := ⟨_, List.getElem?_eq_getElem (by rw [List.length_append, hLl, beJ_len hj]; omega)⟩
        have cp : wr.cell? ⟨w.heap.size, p, none⟩ = some (.int .u8 y) := by rw [AJ.out.cell]; exact u8s_get hy
        have fp := AJ.out.frozen p
        rw [hpi]
        have hp0 : p < 64 := by omega
        clear hb7 hy hq
        go_wp2
        go_roundw
        case rel =>
          refine ⟨j + 1, q / 256, by omega, hq2, by omega, by go_num, by congr 1; omega, ?_, BJ.out.setCell (p := ⟨w.heap.size, p, none⟩) (Nat.le_refl _) _⟩
          have e : ((q % 256 : Nat) : Int) = (q : Int) % 256 := by omega
          unfold Hid
          rw [← hset.out, u8s_set, e]
          exact AJ.out.set p _
        case measure => simp [intOf]; omega
      · obtain rfl : q = 0 := by omega
        have hbe := beJ_end hj hq.out
        rw [hbe] at AJ
        go_wp2
        go_ret
        have e : (L ++ be (8 * n)).length = 64 := by rw [List.length_append, hLl]; rfl
        rw [← HLe.out ()] at AJ e
        refine ⟨⟨w.heap.size, ?_, Nat.le_refl _, AJ.out⟩, BJ.out⟩
        exact congrArg (fun k => Ending.returned (.slice (some ⟨w.heap.size, 0, none⟩) k k)) e.symm
end Go.Proofs.YtmmocnokgcgmnaaDoor
