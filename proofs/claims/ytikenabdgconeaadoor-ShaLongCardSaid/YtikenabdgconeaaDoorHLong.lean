/-
  ShaLong: the walk of the law.
-/
import Derived.Test.YtikenabdgconeaaDoorHEq
import Derived.Test.YtikenabdgconeaaDoorHBegin
namespace Go.Proofs.YtikenabdgconeaaDoor
open Go.RowKit
set_option maxHeartbeats 1600000 in
set_option maxRecDepth 100000 in
theorem long_walk (c : Int) (hc : 0 ≤ c ∧ c ≤ 255) (n : Int) (hn : -9223372036854775808 ≤ n ∧ n ≤ 9223372036854775807) (w : World) (hT : Tabs w) :
    Calls Tryd.prog 7 #[.int .u8 c, .int .i64 n] w fun e w' => e = .returned (.bool true) ∧ Below w.heap.size w w' := by
  have haw := awake_any w hT
  by_cases c1 : n < 0
  · go_enter Tryd.func7, Tryd.ntmps7
    go_wp2_with (go_at_call 9; refine haw.mono ?_; rintro e w1 ⟨rfl, hb1⟩)
    go_ret
    exact ⟨rfl, hb1⟩
  by_cases c2 : 400 < n
  · go_enter Tryd.func7, Tryd.ntmps7
    go_wp2_with (go_at_call 9; refine haw.mono ?_; rintro e w1 ⟨rfl, hb1⟩)
    go_ret
    exact ⟨rfl, hb1⟩
  obtain ⟨m, rfl⟩ : ∃ m : Nat, n = m := ⟨n.toNat, by omega⟩
  obtain ⟨C, rfl⟩ : ∃ C : Nat, c = C := ⟨c.toNat, by omega⟩
  have hm : m ≤ 400 := by omega
  have hC : C < 256 := by omega
  obtain ⟨i0, hi, hz0, hz1, hz2⟩ := info_parts Tryd.info5
  have hmk := fun W : World => run_make_u8 (P := Tryd.prog) Tryd.underlying22 hi hz0 hz1 hz2 (Nat.le_refl m) (by omega) W
  have hpb : ∀ x ∈ List.replicate m C, x < 256 := fun x hx => by rw [(List.mem_replicate.1 hx).2]; exact hC
  have hp := fun ad W h t => psum_any ad m (List.replicate m C) hpb (by simp) (by simp; omega) W h t
  have hr := fun ad W h => rsum_any begin_ok ad m (List.replicate m C) hpb (by simp; omega) W h
  obtain ⟨R, hR⟩ : ∃ R, sumL (List.replicate m C) = R := ⟨_, rfl⟩
  have hRl : R.length = 32 := by rw [← hR]; rfl
  have hRb : ∀ x ∈ R, x < 256 := by rw [← hR]; exact outV_lt _
  have heq := fun W => eq24 hRl hRb W
  rw [hR, List.length_replicate] at hp hr
  have hpos := hT.pos
  clear hR hRl hRb hpb
  go_enter Tryd.func7, Tryd.ntmps7
  go_wp2_with (go_at_call 9; refine haw.mono ?_; rintro e w1 ⟨rfl, hb1⟩; have HB1 := Lib.hid hb1; clear hb1)
  have AN := Lib.hid (Arr.new w1 5 (u8s (List.replicate m 0)))
  have BN := Lib.hid (HB1.out.alloc HB1.out.size (.cells (u8s (List.replicate m 0)).toArray 5))
  have hsz1 := HB1.out.size
  obtain ⟨g, hg⟩ : ∃ g, w1.heap.size = g := ⟨_, rfl⟩
  obtain ⟨WN, hWN⟩ : ∃ WN, w1.alloc (.cells (u8s (List.replicate m 0)).toArray 5) = WN := ⟨_, rfl⟩
  rw [hWN] at AN BN ⊢
  rw [hg] at AN hsz1 ⊢
  clear hWN hmk HB1 haw
  go_loopw [7] (fun iv wr => ∃ i : Nat, i ≤ m ∧ iv = .int .i64 i ∧ Hid (Arr wr g 5 (u8s ((List.replicate m C).take i ++ (List.replicate m 0).drop i))) ∧ Hid (Below w.heap.size w wr)) (fun iv _ => m - (intOf iv).toNat)
  case atStart => exact ⟨0, by omega, rfl, AN, BN⟩
  case round =>
    obtain ⟨i, hi2, rfl, HA, HB⟩ := hrel
    clear AN BN
    by_cases hlt : i < m
    · have hx : (List.replicate m C)[i]? = some C := by rw [List.getElem?_replicate, if_pos hlt]
      have e := Lib.hid (set_step (A := List.replicate m C) (B := List.replicate m 0) (by simp) hx)
      obtain ⟨z, hz⟩ : ∃ z, ((List.replicate m C).take i ++ (List.replicate m 0).drop i)[i]? = some z := ⟨_, List.getElem?_eq_getElem (by simp; omega)⟩
      have co : wr.cell? ⟨g, i, none⟩ = some (.int .u8 z) := by rw [HA.out.cell]; exact u8s_get hz
      have fo := HA.out.frozen i
      clear hx hz
      go_wp2
      go_roundw
      case rel =>
        refine ⟨i + 1, by omega, by go_num, ?_, HB.out.setCell (p := ⟨g, i, none⟩) (by simp; omega) _⟩
        unfold Hid
        rw [← e.out, u8s_set]
        exact HA.out.set i _
      case measure => simp [intOf]; omega
    · obtain rfl : i = m := by omega
      have hf : (List.replicate i C).take i ++ (List.replicate i 0).drop i = List.replicate i C := by simp
      rw [hf] at HA
      have hrd : RdN wr.heap.size wr (some ⟨g, 0, none⟩) (List.replicate i C) := RdN.arr HA.out HA.out.lt
      go_wp2_with (first
        | (go_at_call 10; refine (hp (some ⟨g, 0, none⟩) wr hrd (hT.below HB.out hpos)).mono ?_; rintro e w2 ⟨rfl, hb2⟩; have HB2 := Lib.hid hb2; clear hb2)
        | (go_at_call 11; refine (hr (some ⟨g, 0, none⟩) w2 ((hrd.below HB2.out (Nat.le_refl _)).mono HB2.out.size)).mono ?_; rintro e w3 ⟨rfl, hb3⟩; have HB3 := Lib.hid (HB2.out.trans (hb3.mono HB2.out.size)); clear hb3))
      go_ret
      exact ⟨rfl, HB.out.trans (HB3.out.mono HB.out.size)⟩
end Go.Proofs.YtikenabdgconeaaDoor
