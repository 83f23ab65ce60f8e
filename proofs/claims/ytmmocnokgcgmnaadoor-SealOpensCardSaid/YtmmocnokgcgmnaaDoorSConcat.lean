/-
  ROWS OF BYTES PUT TOGETHER (slices.Concat, slices.Grow).
-/
import Derived.Test.YtmmocnokgcgmnaaDoorHRMac
import Derived.Lib.AppendZeros
namespace Go.Proofs.YtmmocnokgcgmnaaDoor
open Go.RowKit
set_option maxHeartbeats 1600000 in
set_option maxRecDepth 100000 in
theorem grow_any (n : Nat) (h1 : 1 ≤ n) (h2 : n ≤ 100000) (w : World) :
    Calls Tryd.prog 29 #[.slice none 0 0, .int .i64 n] w fun e w' => (∃ v', e = .returned v' ∧ Hid (w'.ownsRow w.heap.size 5 1 v' 0 [])) ∧ Below w.heap.size w w' := by
  obtain ⟨i0, hi, hz0, hz1, hz2⟩ := info_parts Tryd.info5
  have hrun := fun ty => Lib.run_append_nil_zeros (P := Tryd.prog) w 23 3 ty 5 i0 (.int .u8 0) .i64 .i64 Tryd.underlying23 Tryd.underlying3 hi hz0 n (by omega) (by omega) (by omega) (by rw [hz2]; omega)
  have hge := grownCap_ge w n 0 5
  have hcm := grownCap_le_maxLen w n 0 5 (by unfold maxLen; omega)
  have hpos : (0 : Int) < (n : Int) := by omega
  obtain ⟨C, hC⟩ : ∃ C, grownCap w n 0 5 = C := ⟨_, rfl⟩
  rw [hC] at hge hcm
  simp only [hC] at hrun
  have HOW : Hid ((w.drew.alloc (.cells (Builtin.zeroCells (Value.int .u8 0).cells n ++ Builtin.zeroCells (Value.int .u8 0).cells (C - n)) 5)).ownsRow w.heap.size 5 1 (.slice (some ⟨w.heap.size, 0, none⟩) 0 C) 0 []) :=
    ⟨rfl, .inr ⟨w.heap.size, C, _, rfl, Nat.le_refl _, heap_alloc_new w.drew _, Nat.zero_le _, hcm, by simp [Builtin.zeroCells, Value.cells]; omega, rfl⟩⟩
  have HBW := Lib.hid ((Below.refl w.heap.size w).drew.alloc (Nat.le_refl _) (.cells (Builtin.zeroCells (Value.int .u8 0).cells n ++ Builtin.zeroCells (Value.int .u8 0).cells (C - n)) 5))
  obtain ⟨W1, hW1⟩ : ∃ W1, w.drew.alloc (.cells (Builtin.zeroCells (Value.int .u8 0).cells n ++ Builtin.zeroCells (Value.int .u8 0).cells (C - n)) 5) = W1 := ⟨_, rfl⟩
  rw [hW1] at HOW HBW
  simp only [hW1] at hrun
  have HR := Lib.hid hrun
  clear hC hW1 hrun hi hz0 hz1 hz2
  go_enter Tryd.func29, Tryd.ntmps29
  go_wp2_with (at_builtin; refine Lib.wpList_append_run _ rfl _ _ _ _ rfl _ _ rfl rfl _ _ (HR.out _) ?_)
  go_ret
  exact ⟨⟨_, rfl, HOW⟩, HBW.out⟩
structure Prt where
  a : Option Addr
  c : Nat
  l : List Nat
def catL (ps : List Prt) : List Nat := ps.flatMap (·.l)
theorem catL_take {ps : List Prt} {k : Nat} {p : Prt} (h : ps[k]? = some p) : catL (ps.take (k + 1)) = catL (ps.take k) ++ p.l := by
  unfold catL
  rw [List.take_add_one, h, List.flatMap_append]; simp
theorem catL_le (ps : List Prt) (k : Nat) : (catL (ps.take k)).length ≤ (catL ps).length := by
  have h : catL ps = catL (ps.take k) ++ catL (ps.drop k) := by unfold catL; rw [← List.flatMap_append, List.take_append_drop]
  rw [h, List.length_append]; omega
set_option maxHeartbeats 1600000 in
set_option maxRecDepth 100000 in
theorem concat_any (ps : List Prt) (g : Nat) (w : World) (hg : g < w.heap.size) (hc : ∀ k p, ps[k]? = some p → w.cell? ⟨g, k, none⟩ = some (.slice p.a p.l.length p.c) ∧ RdN w.heap.size w p.a p.l) (hm : ps.length ≤ 10) (h1 : 1 ≤ (catL ps).length) (h2 : (catL ps).length ≤ 100000) :
    Calls Tryd.prog 19 #[.slice (some ⟨g, 0, none⟩) ps.length ps.length] w fun e w' => (∃ v', e = .returned v' ∧ Hid (w'.ownsRow w.heap.size 5 1 v' (catL ps).length (u8s (catL ps)))) ∧ Below w.heap.size w w' := by
  obtain ⟨i0, hi, hz0, hz1, hz2⟩ := info_parts Tryd.info5
  have HC := Lib.hid hc
  have HG := Lib.hid hg
  obtain ⟨m, hmm⟩ : ∃ m, ps.length = m := ⟨_, rfl⟩
  have HM := Lib.hid hmm
  rw [hmm] at hm ⊢
  obtain ⟨T, hT⟩ : ∃ T, (catL ps).length = T := ⟨_, rfl⟩
  have HT : Hid (Unit → (catL ps).length = T) := fun _ => hT
  rw [hT] at h1 h2
  clear hc hg hmm hT
  go_enter Tryd.func19, Tryd.ntmps19
  go_wp2
  go_loopw [3, 11] (fun sv iv wr => ∃ k : Nat, k ≤ m ∧ sv = .int .i64 (catL (ps.take k)).length ∧ iv = .int .i64 k ∧ wr = w) (fun _ iv _ => m - (intOf iv).toNat)
  case atStart => exact ⟨0, by omega, rfl, rfl, rfl⟩
  case round =>
    obtain ⟨k, hk, rfl, rfl, rfl⟩ := hrel
    by_cases hlt : k < m
    · obtain ⟨p, hp⟩ : ∃ p, ps[k]? = some p := ⟨_, List.getElem?_eq_getElem (by have := HM.out; omega)⟩
      obtain ⟨hcell, _⟩ := HC.out k p hp
      have hle := catL_le ps (k + 1)
      have HN : Hid ((catL (ps.take (k + 1))).length = (catL (ps.take k)).length + p.l.length) := by unfold Hid; rw [catL_take hp, List.length_append]
      have hb : (catL (ps.take k)).length + p.l.length ≤ 100000 := by rw [← HN.out]; have := HT.out (); omega
      obtain ⟨s, hs⟩ : ∃ s, (catL (ps.take k)).length = s := ⟨_, rfl⟩
      rw [hs] at HN hb ⊢
      clear hs hp hle
      go_wp2
      go_roundw
      case rel => exact ⟨k + 1, by omega, by rw [HN.out]; go_num, by go_num, by first | rfl | trivial⟩
      case measure => simp [intOf]; omega
    · obtain rfl : k = m := by omega
      obtain ⟨W0, rfl⟩ : ∃ W0, W0 = wr := ⟨_, rfl⟩
      have hft : ps.take k = ps := List.take_of_length_le (by have := HM.out; omega)
      rw [hft, HT.out ()]
      clear hft
      go_wp2_with (go_at_call 29; refine (grow_any T h1 h2 _).mono ?_; rintro e w1 ⟨⟨v1, rfl, HO1⟩, hb1⟩; have HB1 := Lib.hid hb1; clear hb1)
      go_loopw [6, 27] (fun sv iv w2 => ∃ (sv' : Value) (j : Nat), sv' = sv ∧ j ≤ k ∧ iv = .int .i64 j ∧ Hid (w2.ownsRow W0.heap.size 5 1 sv (catL (ps.take j)).length (u8s (catL (ps.take j)))) ∧ Hid (Below W0.heap.size W0 w2)) (fun _ iv _ => k - (intOf iv).toNat)
      case atStart => exact ⟨_, 0, rfl, by omega, rfl, by simpa [catL, u8s, Hid] using HO1.out, HB1⟩
      case round =>
        obtain ⟨sv, j, rfl, hj, rfl, HO, HB⟩ := hrel
        clear HO1 HB1
        by_cases hlt2 : j < k
        · obtain ⟨p, hp⟩ : ∃ p, ps[j]? = some p := ⟨_, List.getElem?_eq_getElem (by have := HM.out; omega)⟩
          obtain ⟨hcell, hrd⟩ := HC.out j p hp
          have hcell2 := (HB.out.cell (p := ⟨g, j, none⟩) HG.out).trans hcell
          have hrd2 := hrd.below HB.out (Nat.le_refl _)
          have hle := catL_le ps (j + 1)
          have HN := Lib.hid (catL_take hp)
          have hb : (catL (ps.take j)).length + p.l.length ≤ 100000 := by rw [← List.length_append, ← HN.out]; have := HT.out (); omega
          obtain ⟨L, hL⟩ : ∃ L, catL (ps.take j) = L := ⟨_, rfl⟩
          rw [hL] at HN hb HO
          have hsz := HB.out.size
          clear hL hp hle hcell
          go_wp2_with (at_builtin; refine wpList_append_bytes (bs := p.l) (n₀ := W0.heap.size) hi hz0 hz1 hz2 rfl _ _ rfl W0.heap.size _ L rfl HO.out rfl rfl hrd2 (by omega) hsz ?_; intro v3 w3 HO3 HB3; have HO4 : Hid (w3.ownsRow W0.heap.size 5 1 v3 (L ++ p.l).length (u8s (L ++ p.l))) := (by first | exact HO3 | (rw [List.length_append]; exact HO3)); have HB4 := HB3; clear HO3 HB3)
          go_roundw
          case rel => exact ⟨_, j + 1, rfl, by omega, by go_num, by rw [HN.out]; exact HO4, HB.out.trans HB4.out⟩
          case measure => simp [intOf]; omega
        · obtain rfl : j = k := by omega
          have hft : ps.take j = ps := List.take_of_length_le (by have := HM.out; omega)
          rw [hft] at HO
          go_wp2
          go_ret
          exact ⟨⟨_, rfl, HO⟩, HB.out⟩
end Go.Proofs.YtmmocnokgcgmnaaDoor
