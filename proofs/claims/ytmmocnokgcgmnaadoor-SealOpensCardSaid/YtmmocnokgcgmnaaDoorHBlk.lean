/-
  THE DOCUMENT: what a block makes of H.
-/
import Derived.Test.YtmmocnokgcgmnaaDoorHMix
import Derived.Test.YtmmocnokgcgmnaaDoorHSched
import Derived.Deep.RegionHeld
import Derived.StillTailTactics
namespace Go.Proofs.YtmmocnokgcgmnaaDoor
open Go.RowKit
/-- The row of words behind so many of them. -/
def curW (b : List Nat) (t : Nat) : List Nat := if t < 16 then (words16 b).take t ++ (List.replicate 64 0).drop t else moreP (t - 16) b
theorem curW_zero (b : List Nat) : curW b 0 = List.replicate 64 0 := by simp [curW]
theorem curW_16 (b : List Nat) : (words16 b).take 16 ++ (List.replicate 64 0).drop 16 = moreP 0 b := by
  rw [List.take_of_length_le (by rw [words16_len]; decide)]; rfl
theorem curW_len (b : List Nat) {t : Nat} (ht : t ≤ 64) : (curW b t).length = 64 := by
  unfold curW
  split
  · simp [words16_len]; omega
  · exact moreP_len (by omega) b
theorem curW_low {b : List Nat} {t : Nat} (ht : t < 16) : (curW b t).set t (word ((b.drop (4 * t)).take 4)) = curW b (t + 1) := by
  have hx : (words16 b)[t]? = some (word ((b.drop (4 * t)).take 4)) := by simp [words16, ht]
  have h : ((words16 b).take t ++ (List.replicate 64 0).drop t).set t (word ((b.drop (4 * t)).take 4)) = (words16 b).take (t + 1) ++ (List.replicate 64 0).drop (t + 1) := by
    apply List.ext_getElem?
    intro i
    have hl : (words16 b).length = 16 := words16_len b
    rw [List.getElem?_set]
    by_cases hi : t = i
    · subst hi
      rw [if_pos rfl, if_pos (by simp; omega), List.getElem?_append_left (by simp; omega), List.getElem?_take, if_pos (by omega), hx]
    · rw [if_neg hi]
      by_cases hi2 : i < t
      · rw [List.getElem?_append_left (by simp; omega), List.getElem?_append_left (by simp; omega), List.getElem?_take, List.getElem?_take, if_pos hi2, if_pos (by omega)]
      · rw [List.getElem?_append_right (by simp; omega), List.getElem?_append_right (by simp; omega), List.getElem?_drop, List.getElem?_drop]
        congr 1
        simp
        omega
  unfold curW
  rw [if_pos ht, h]
  by_cases h15 : t + 1 < 16
  · rw [if_pos h15]
  · rw [if_neg h15, show t + 1 = 16 by omega]; exact curW_16 b
theorem curW_high {b : List Nat} {t : Nat} (ht : 16 ≤ t) : curW b t = moreP (t - 16) b := by unfold curW; rw [if_neg (by omega)]
theorem word4 {b : List Nat} {t x0 x1 x2 x3 : Nat} (h0 : b[4 * t]? = some x0) (h1 : b[4 * t + 1]? = some x1) (h2 : b[4 * t + 2]? = some x2) (h3 : b[4 * t + 3]? = some x3) : word ((b.drop (4 * t)).take 4) = x0 * 16777216 + x1 * 65536 + x2 * 256 + x3 := by
  have e : (b.drop (4 * t)).take 4 = [x0, x1, x2, x3] := by
    apply List.ext_getElem?
    intro i
    rw [List.getElem?_take]
    match i with
    | 0 => rw [if_pos (by decide), List.getElem?_drop]; exact h0
    | 1 => rw [if_pos (by decide), List.getElem?_drop]; exact h1
    | 2 => rw [if_pos (by decide), List.getElem?_drop]; exact h2
    | 3 => rw [if_pos (by decide), List.getElem?_drop]; exact h3
    | i + 4 => rw [if_neg (by omega)]; rfl
  rw [e]
  simp [word]
  omega
theorem cell_set_other {W : World} {g i j : Nat} {u v : Value} (h : W.cell? ⟨g, i, none⟩ = some v) (hne : ¬ i = j) : (W.setCell ⟨g, j, none⟩ u).cell? ⟨g, i, none⟩ = some v := by
  exact (World.cell?_setCell_other W ⟨g, j, none⟩ ⟨g, i, none⟩ u (by intro e; injection e with _ e; exact hne e.symm)).trans h
set_option maxHeartbeats 3200000 in
set_option maxRecDepth 100000 in
theorem rblock_any (s : V8) (hs : s.ok) (ks : List Nat) (hkl : ks.length = 64) (a : Option Addr) (cap : Nat) (b : List Nat) (hl : b.length = 64) (hb : ∀ x ∈ b, x < 256) (w : World) (hr : RdN w.heap.size w a b) :
    Calls Tryd.prog 38 #[.agg (u32s s.list).toArray, .agg (u32s ks).toArray, .slice a 64 cap] w fun e w' => e = .returned (.agg (u32s (mixV s ks (schedL b)).list).toArray) ∧ Below w.heap.size w w' := by
  obtain ⟨bb, off, rfl, hbb, hc⟩ := hr (by omega)
  obtain ⟨R, hR⟩ : ∃ R, mixV s ks (schedL b) = R := ⟨_, rfl⟩
  rw [hR]
  have HR : Hid (Unit → mixV s ks (schedL b) = R) := fun _ => hR
  clear hR
  go_enter Tryd.func38, Tryd.ntmps38
  go_wp2
  obtain ⟨W0, hW0⟩ : ∃ W0, (((w.alloc (.cells (u32s s.list).toArray 60)).alloc (.cells (u32s ks).toArray 64)).alloc (.cells (u32s (List.replicate 8 0)).toArray 60)).alloc (.cells (u32s (List.replicate 64 0)).toArray 64) = W0 := ⟨_, rfl⟩
  have B0 : Below w.heap.size w W0 := by rw [← hW0]; exact ((((Below.refl _ w).alloc (Nat.le_refl _) _).alloc (by simp) _).alloc (by simp; omega) _).alloc (by simp; omega) _
  have AH : Hid (Arr W0 w.heap.size 60 (u32s s.list)) := by rw [← hW0]; exact (((Arr.new w 60 (u32s s.list)).alloc _).alloc _).alloc _
  have AK : Hid (Arr W0 (w.heap.size + 1) 64 (u32s ks)) := by rw [← hW0]; exact ((Arr.new2 w _ 64 (u32s ks)).alloc _).alloc _
  have AR : Hid (Arr W0 (w.heap.size + 1 + 1) 60 (u32s (List.replicate 8 0))) := by
    rw [← hW0]
    have h := (Arr.new2 (w.alloc (.cells (u32s s.list).toArray 60)) (.cells (u32s ks).toArray 64) 60 (u32s (List.replicate 8 0))).alloc (.cells (u32s (List.replicate 64 0)).toArray 64)
    rw [World.size_alloc] at h
    exact h
  have AW : Hid (Arr W0 (w.heap.size + 1 + 1 + 1) 64 (u32s (curW b 0))) := by
    rw [← hW0, curW_zero]
    have h := Arr.new2 ((w.alloc (.cells (u32s s.list).toArray 60)).alloc (.cells (u32s ks).toArray 64)) (.cells (u32s (List.replicate 8 0)).toArray 60) 64 (u32s (List.replicate 64 0))
    rw [World.size_alloc, World.size_alloc] at h
    exact h
  have hsz : W0.heap.size = w.heap.size + 4 := by rw [← hW0]; simp
  have hc0 : ∀ (j x : Nat), b[j]? = some x → W0.cell? ⟨bb, off + j, none⟩ = some (.int .u8 x) := fun j x hx => (B0.cell (p := ⟨bb, off + j, none⟩) hbb).trans (hc j x hx)
  have BW := Lib.hid B0
  have hW2 : (((w.alloc (.cells (u32s s.list).toArray 60)).alloc (.cells (u32s ks).toArray 64)).alloc (.cells #[.int .u32 0, .int .u32 0, .int .u32 0, .int .u32 0, .int .u32 0, .int .u32 0, .int .u32 0, .int .u32 0] 60)).alloc (.cells #[.int .u32 0, .int .u32 0, .int .u32 0, .int .u32 0, .int .u32 0, .int .u32 0, .int .u32 0, .int .u32 0, .int .u32 0, .int .u32 0, .int .u32 0, .int .u32 0, .int .u32 0, .int .u32 0, .int .u32 0, .int .u32 0, .int .u32 0, .int .u32 0, .int .u32 0, .int .u32 0, .int .u32 0, .int .u32 0, .int .u32 0, .int .u32 0, .int .u32 0, .int .u32 0, .int .u32 0, .int .u32 0, .int .u32 0, .int .u32 0, .int .u32 0, .int .u32 0, .int .u32 0, .int .u32 0, .int .u32 0, .int .u32 0, .int .u32 0, .int .u32 0, .int .u32 0, .int .u32 0, .int .u32 0, .int .u32 0, .int .u32 0, .int .u32 0, .int .u32 0, .int .u32 0, .int .u32 0, .int .u32 0, .int .u32 0, .int .u32 0, .int .u32 0, .int .u32 0, .int .u32 0, .int .u32 0, .int .u32 0, .int .u32 0, .int .u32 0, .int .u32 0, .int .u32 0, .int .u32 0, .int .u32 0, .int .u32 0, .int .u32 0, .int .u32 0] 64) = W0 := hW0
  rw [hW2]
  clear hW0 hW2 B0 hc hr
  go_loopw [8] (fun tv wr => ∃ t : Nat, t ≤ 64 ∧ tv = .int .i64 t ∧ Hid (Arr wr (w.heap.size + 1 + 1 + 1) 64 (u32s (curW b t))) ∧ Hid (Below (w.heap.size + 3) W0 wr)) (fun tv _ => 64 - (intOf tv).toNat)
  case atStart => exact ⟨0, by omega, rfl, AW, Below.refl _ _⟩
  case round =>
    obtain ⟨t, ht, rfl, AT, BT⟩ := hrel
    clear AW
    by_cases hlo : t < 16
    · obtain ⟨x0, h0⟩ : ∃ x, b[4 * t]? = some x := ⟨_, List.getElem?_eq_getElem (by omega)⟩
      obtain ⟨x1, h1⟩ : ∃ x, b[4 * t + 1]? = some x := ⟨_, List.getElem?_eq_getElem (by omega)⟩
      obtain ⟨x2, h2⟩ : ∃ x, b[4 * t + 2]? = some x := ⟨_, List.getElem?_eq_getElem (by omega)⟩
      obtain ⟨x3, h3⟩ : ∃ x, b[4 * t + 3]? = some x := ⟨_, List.getElem?_eq_getElem (by omega)⟩
      have l0 := hb x0 (List.mem_of_getElem? h0)
      have l1 := hb x1 (List.mem_of_getElem? h1)
      have l2 := hb x2 (List.mem_of_getElem? h2)
      have l3 := hb x3 (List.mem_of_getElem? h3)
      have hst := Lib.hid (curW_low (b := b) hlo)
      have hwd := Lib.hid (word4 h0 h1 h2 h3)
      have k0 : wr.cell? ⟨bb, off + 4 * t, none⟩ = some (.int .u8 x0) := (BT.out.cell (p := ⟨bb, off + 4 * t, none⟩) (show bb < w.heap.size + 3 by omega)).trans (hc0 _ _ h0)
      have k1 : wr.cell? ⟨bb, off + (4 * t + 1), none⟩ = some (.int .u8 x1) := (BT.out.cell (p := ⟨bb, off + (4 * t + 1), none⟩) (show bb < w.heap.size + 3 by omega)).trans (hc0 _ _ h1)
      have k2 : wr.cell? ⟨bb, off + (4 * t + 2), none⟩ = some (.int .u8 x2) := (BT.out.cell (p := ⟨bb, off + (4 * t + 2), none⟩) (show bb < w.heap.size + 3 by omega)).trans (hc0 _ _ h2)
      have k3 : wr.cell? ⟨bb, off + (4 * t + 3), none⟩ = some (.int .u8 x3) := (BT.out.cell (p := ⟨bb, off + (4 * t + 3), none⟩) (show bb < w.heap.size + 3 by omega)).trans (hc0 _ _ h3)
      obtain ⟨y, hy⟩ : ∃ y, (curW b t)[t]? = some y := ⟨_, List.getElem?_eq_getElem (by rw [curW_len b ht]; omega)⟩
      have ct : wr.cell? ⟨w.heap.size + 1 + 1 + 1, t, none⟩ = some (.int .u32 y) := by rw [AT.out.cell]; exact u32s_get hy
      have ft := AT.out.frozen t
      clear h0 h1 h2 h3 hy hc0 hb
      go_wp2
      go_region
      go_wp2
      refine ⟨⟨t + 1, by omega, by go_num, ?_, ?_⟩, by simp [intOf]; omega⟩
      · have e : ((x0 * 16777216 + x1 * 65536 + x2 * 256 + x3 : Nat) : Int) = (x0 : Int) * 16777216 + (x1 : Int) * 65536 + (x2 : Int) * 256 + (x3 : Int) := by omega
        unfold Hid
        rw [← hst.out, hwd.out, u32s_set, e]
        exact (show Arr (World.drew _) _ _ _ from AT.out.set t _)
      · exact (BT.out.setCell (p := ⟨w.heap.size + 1 + 1 + 1, t, none⟩) (by simp) _).drew
    · by_cases hlt : t < 64
      · obtain ⟨n, rfl⟩ : ∃ n, t = 16 + n := ⟨t - 16, by omega⟩
        have hn : n < 48 := by omega
        rw [curW_high (by omega), show 16 + n - 16 = n by omega] at AT
        have hcn : curW b (16 + n + 1) = moreP (n + 1) b := by rw [curW_high (by omega)]; congr 1; omega
        obtain ⟨x2, g2⟩ : ∃ x, (moreP n b)[16 + n - 2]? = some x := ⟨_, List.getElem?_eq_getElem (by rw [moreP_len (by omega)]; omega)⟩
        obtain ⟨x7, g7⟩ : ∃ x, (moreP n b)[16 + n - 7]? = some x := ⟨_, List.getElem?_eq_getElem (by rw [moreP_len (by omega)]; omega)⟩
        obtain ⟨x15, g15⟩ : ∃ x, (moreP n b)[16 + n - 15]? = some x := ⟨_, List.getElem?_eq_getElem (by rw [moreP_len (by omega)]; omega)⟩
        obtain ⟨x16, g16⟩ : ∃ x, (moreP n b)[16 + n - 16]? = some x := ⟨_, List.getElem?_eq_getElem (by rw [moreP_len (by omega)]; omega)⟩
        obtain ⟨x0, g0⟩ : ∃ x, (moreP n b)[16 + n]? = some x := ⟨_, List.getElem?_eq_getElem (by rw [moreP_len (by omega)]; omega)⟩
        have hml := moreP_lt (n := n) (by omega) hb
        have l2 := hml x2 (List.mem_of_getElem? g2)
        have l15 := hml x15 (List.mem_of_getElem? g15)
        have hst := Lib.hid (moreP_step hn b g2 g7 g15 g16)
        have HCN := Lib.hid hcn
        obtain ⟨t, ht'⟩ : ∃ t, 16 + n = t := ⟨_, rfl⟩
        rw [ht'] at g0 g2 g7 g15 g16 hst ht HCN hlt
        rw [ht']
        have ht1 : 16 ≤ t := by omega
        have c2 : wr.cell? ⟨w.heap.size + 1 + 1 + 1, t - 2, none⟩ = some (.int .u32 x2) := by rw [AT.out.cell]; exact u32s_get g2
        have c7 : wr.cell? ⟨w.heap.size + 1 + 1 + 1, t - 7, none⟩ = some (.int .u32 x7) := by rw [AT.out.cell]; exact u32s_get g7
        have c15 : wr.cell? ⟨w.heap.size + 1 + 1 + 1, t - 15, none⟩ = some (.int .u32 x15) := by rw [AT.out.cell]; exact u32s_get g15
        have c16 : wr.cell? ⟨w.heap.size + 1 + 1 + 1, t - 16, none⟩ = some (.int .u32 x16) := by rw [AT.out.cell]; exact u32s_get g16
        have ct : wr.cell? ⟨w.heap.size + 1 + 1 + 1, t, none⟩ = some (.int .u32 x0) := by rw [AT.out.cell]; exact u32s_get g0
        have ft := AT.out.frozen t
        clear hml g0 g2 g7 g15 g16 hb hc0 hcn hlo
        have q1 := raw_lS0 l15
        have q2 := raw_lS1 l2
        have w7 : IntKind.i64.wrap ((t : Int) - 7) = (t : Int) - 7 := by rw [IntKind.wrap_i64]; omega
        have w16 : IntKind.i64.wrap ((t : Int) - 16) = (t : Int) - 16 := by rw [IntKind.wrap_i64]; omega
        have i7 : (0 : Int) ≤ (t : Int) - 7 := by omega
        have j7 : (t : Int) - 7 < 64 := by omega
        have i16 : (0 : Int) ≤ (t : Int) - 16 := by omega
        have j16 : (t : Int) - 16 < 64 := by omega
        have j0 : (t : Int) < 64 := by omega
        have R7 := fun W => rright_any x15 7 l15 (by decide) W
        have R18 := fun W => rright_any x15 18 l15 (by decide) W
        have R17 := fun W => rright_any x2 17 l2 (by decide) W
        have R19 := fun W => rright_any x2 19 l2 (by decide) W
        go_wp2
        have c16' : wr.cell? ⟨w.heap.size + 1 + 1 + 1, ((t : Int) - 16).toNat, none⟩ = some (.int .u32 x16) := by rw [show ((t : Int) - 16).toNat = t - 16 by omega]; exact c16
        have ne7 : ¬ t - 7 = t := by omega
        have n16 : ¬ ((t : Int) - 16).toNat = t := by omega
        go_region_held (fun W => (W.cell? ⟨w.heap.size + 1 + 1 + 1, t - 7, none⟩ = some (.int .u32 x7) ∧ W.cell? ⟨w.heap.size + 1 + 1 + 1, ((t : Int) - 16).toNat, none⟩ = some (.int .u32 x16))) (first | exact ⟨c7, c16'⟩ | exact ⟨cell_set_other c7 ne7, cell_set_other c16' n16⟩)
          (first
            | (go_at_call_of 44 (Value.int IntKind.i64 7); refine (R7 _).mono ?_; rintro e W ⟨rfl, m7, rfl⟩)
            | (go_at_call_of 44 (Value.int IntKind.i64 18); refine (R18 _).mono ?_; rintro e W ⟨rfl, m18, rfl⟩)
            | (go_at_call_of 44 (Value.int IntKind.i64 17); refine (R17 _).mono ?_; rintro e W ⟨rfl, m17, rfl⟩)
            | (go_at_call_of 44 (Value.int IntKind.i64 19); refine (R19 _).mono ?_; rintro e W ⟨rfl, m19, rfl⟩))
        all_goals
          go_wp2
          refine ⟨⟨t + 1, by omega, by go_num, ?_, ?_⟩, by simp [intOf]; omega⟩
          · have e : (((lS1 x2 + x7 + lS0 x15 + x16) % 4294967296 : Nat) : Int) = (((((lS1 x2 : Nat) : Int) + (x7 : Int)) % 4294967296 + (lS0 x15 : Nat)) % 4294967296 + (x16 : Int)) % 4294967296 := by omega
            unfold Hid
            rw [HCN.out, ← hst.out, u32s_set, e]
            exact (show Arr (wr.drewN _) _ _ _ from AT.out).set t _
          · exact (below_drewN BT.out _).setCell (p := ⟨w.heap.size + 1 + 1 + 1, t, none⟩) (by simp) _
      · obtain rfl : t = 64 := by omega
        rw [curW_high (by decide), show 64 - 16 = 48 from rfl, moreP_end] at AT
        have hwl := schedL_len b
        have hwb := schedL_lt hb
        obtain ⟨ws, hws⟩ : ∃ ws, schedL b = ws := ⟨_, rfl⟩
        rw [hws] at AT hwl hwb
        have HR2 : Hid (Unit → addV s (rnds s (ks.zip ws)) = R) := fun _ => by rw [← HR.out (), hws]; rfl
        have AH2 := Lib.hid (AH.out.below BT.out (by omega))
        have AK2 := Lib.hid (AK.out.below BT.out (by omega))
        have AR2 := Lib.hid (AR.out.below BT.out (by omega))
        have BW2 := Lib.hid (BW.out.trans (BT.out.mono (by omega)))
        have hG0 : w.heap.size + 4 ≤ wr.heap.size := by have := BT.out.size; omega
        clear HR AH AK AR BW BT hws hc0 hb hlo
        rw [show ((64 : Nat) : Int) = 64 from rfl]
        have AV0 := Arr.new wr 60 (u32s (List.replicate 8 0))
        go_wp2_with (first
          | (refine wpList_load_arr rfl 60 (.tmp 3) rfl w.heap.size rfl AH2.out Tryd.underlying60 rfl Tryd.size60 rfl ?_)
          | (refine wpList_store_arr rfl 60 (.tmp 11) (.tmp 94) rfl wr.heap.size rfl rfl AV0 Tryd.size60 rfl rfl (u32s_one _) ?_; intro W1 AV HB1 hsz1 HO1))
        obtain ⟨G, hG⟩ : ∃ G, wr.heap.size = G := ⟨_, rfl⟩
        have hsw : wr.heap.size ≤ W1.heap.size := by rw [hsz1]; simp
        have hsm : ∀ k, k < wr.heap.size → W1.heap[k]? = wr.heap[k]? := fun k hk => (HO1.out k (by omega)).trans (Below.heap_alloc _ _ _ hk)
        have AH3 := Lib.hid (show Arr W1 w.heap.size 60 (u32s s.list) from (hsm _ (by omega)).trans AH2.out)
        have AK3 := Lib.hid (show Arr W1 (w.heap.size + 1) 64 (u32s ks) from (hsm _ (by omega)).trans AK2.out)
        have AR3 := Lib.hid (show Arr W1 (w.heap.size + 1 + 1) 60 (u32s (List.replicate 8 0)) from (hsm _ (by omega)).trans AR2.out)
        have AT3 := Lib.hid (show Arr W1 (w.heap.size + 1 + 1 + 1) 64 (u32s ws) from (hsm _ (by omega)).trans AT.out)
        have BW3 := Lib.hid ((BW2.out.alloc (by omega) _).trans (HB1.out.mono (by omega)))
        rw [hG] at AV hG0
        try rw [hG]
        clear AH2 AK2 AR2 AT BW2 HB1 HO1 hsm AV0 hsz1 hsw
        go_loopw [12] (fun iv wr => ∃ k : Nat, k ≤ 64 ∧ iv = .int .i64 k ∧ Hid (Arr wr G 60 (u32s (rnds s ((ks.zip ws).take k)).list)) ∧ Hid (Below G W1 wr)) (fun iv _ => 64 - (intOf iv).toNat)
        case atStart => exact ⟨0, by omega, rfl, AV, Below.refl _ _⟩
        case round =>
          obtain ⟨k, hk, rfl, AQ, BQ⟩ := hrel
          clear AV
          by_cases hlt2 : k < 64
          · obtain ⟨x, hx⟩ : ∃ x, ws[k]? = some x := ⟨_, List.getElem?_eq_getElem (by omega)⟩
            obtain ⟨kk, hkk⟩ : ∃ x, ks[k]? = some x := ⟨_, List.getElem?_eq_getElem (by omega)⟩
            have hz : rnds s ((ks.zip ws).take (k + 1)) = rnd (rnds s ((ks.zip ws).take k)) kk x := by
              have e : (ks.zip ws)[k]? = some (kk, x) := by rw [List.getElem?_zip_eq_some]; exact ⟨hkk, hx⟩
              rw [List.take_add_one, e, Option.toList_some, rnds_snoc]
            have ht := rnds_ok hs ((ks.zip ws).take k)
            obtain ⟨t, htt⟩ : ∃ t, rnds s ((ks.zip ws).take k) = t := ⟨_, rfl⟩
            rw [htt] at AQ hz ht
            obtain ⟨la, lb, lc, ld, le, lf, lg, lh⟩ := ht
            have c0 := AQ.out.cell 0
            have c1 := AQ.out.cell 1
            have c2 := AQ.out.cell 2
            have c3 := AQ.out.cell 3
            have c4 := AQ.out.cell 4
            have c5 := AQ.out.cell 5
            have c6 := AQ.out.cell 6
            have c7 := AQ.out.cell 7
            simp only [u32s, V8.list, List.map_cons, List.map_nil, List.getElem?_cons_succ, List.getElem?_cons_zero] at c0 c1 c2 c3 c4 c5 c6 c7
            have ck : wr.cell? ⟨w.heap.size + 1, k, none⟩ = some (.int .u32 kk) := by rw [(AK3.out.below BQ.out (by omega)).cell]; exact u32s_get hkk
            have cw : wr.cell? ⟨w.heap.size + 1 + 1 + 1, k, none⟩ = some (.int .u32 x) := by rw [(AT3.out.below BQ.out (by omega)).cell]; exact u32s_get hx
            have HZ := Lib.hid hz
            have q1 := raw_bS1 le
            have q2 := raw_cho le lf lg
            have q3 := raw_addT t kk x
            have q4 := raw_bS0 la
            have q5 := raw_maj la lb lc
            have q6 := raw_addU t
            have q7 : (((t.d : Int) + (addT t kk x : Nat)) % 4294967296) = ((rnd t kk x).e : Nat) := by simp [rnd]
            have q8 : ((((addT t kk x : Nat) : Int) + (addU t : Nat)) % 4294967296) = ((rnd t kk x).a : Nat) := by simp [rnd]
            have R6 := fun W => rright_any t.e 6 le (by decide) W
            have R11 := fun W => rright_any t.e 11 le (by decide) W
            have R25 := fun W => rright_any t.e 25 le (by decide) W
            have R2 := fun W => rright_any t.a 2 la (by decide) W
            have R13 := fun W => rright_any t.a 13 la (by decide) W
            have R22 := fun W => rright_any t.a 22 la (by decide) W
            clear hx hkk hz htt hwb
            go_wp2
            go_quiet (first
              | (go_at_call_of 44 (Value.int IntKind.i64 6); exact Calls.quiet_of (R6 _))
              | (go_at_call_of 44 (Value.int IntKind.i64 11); exact Calls.quiet_of (R11 _))
              | (go_at_call_of 44 (Value.int IntKind.i64 25); exact Calls.quiet_of (R25 _)))
            obtain ⟨w2, hw2⟩ : ∃ w2, wr.drewN nq = w2 := ⟨_, rfl⟩
            have AQ2 : Hid (Arr w2 G 60 (u32s t.list)) := by rw [← hw2]; exact AQ
            have BQ2 : Hid (Below G W1 w2) := by rw [← hw2]; exact below_drewN BQ.out nq
            have d0 : w2.cell? ⟨G, 0, none⟩ = some (.int .u32 (t.a : Nat)) := by rw [← hw2]; exact c0
            have d1 : w2.cell? ⟨G, 1, none⟩ = some (.int .u32 (t.b : Nat)) := by rw [← hw2]; exact c1
            have d2 : w2.cell? ⟨G, 2, none⟩ = some (.int .u32 (t.c : Nat)) := by rw [← hw2]; exact c2
            have d3 : w2.cell? ⟨G, 3, none⟩ = some (.int .u32 (t.d : Nat)) := by rw [← hw2]; exact c3
            have d4 : w2.cell? ⟨G, 4, none⟩ = some (.int .u32 (t.e : Nat)) := by rw [← hw2]; exact c4
            have d5 : w2.cell? ⟨G, 5, none⟩ = some (.int .u32 (t.f : Nat)) := by rw [← hw2]; exact c5
            have d6 : w2.cell? ⟨G, 6, none⟩ = some (.int .u32 (t.g : Nat)) := by rw [← hw2]; exact c6
            rw [hw2]
            clear hw2 c0 c1 c2 c3 c4 c5 c6 c7 ck cw AQ BQ
            go_wp2
            go_quiet (first
              | (go_at_call_of 44 (Value.int IntKind.i64 2); exact Calls.quiet_of (R2 _))
              | (go_at_call_of 44 (Value.int IntKind.i64 13); exact Calls.quiet_of (R13 _))
              | (go_at_call_of 44 (Value.int IntKind.i64 22); exact Calls.quiet_of (R22 _)))
            go_wp2_with (first
              | (refine wpList_store_arr rfl 60 (.tmp 11) (.tmp 182) rfl G rfl rfl (show Arr (w2.drewN nq) G 60 _ from AQ2.out) Tryd.size60 rfl rfl (by simp [Value.oneCell']) ?_; intro w3 A3 B3 hsz3 HO3))
            go_roundw
            case rel =>
              refine ⟨k + 1, by omega, by go_num, ?_, (below_drewN BQ2.out _).trans B3.out⟩
              rw [HZ.out]
              exact A3
            case measure => simp [intOf]; omega
          · obtain rfl : k = 64 := by omega
            have hzl : (ks.zip ws).take 64 = ks.zip ws := List.take_of_length_le (by rw [List.length_zip, hkl, hwl]; decide)
            rw [hzl] at AQ
            obtain ⟨t, htt⟩ : ∃ t, rnds s (ks.zip ws) = t := ⟨_, rfl⟩
            rw [htt] at AQ HR2
            clear hzl htt hwb
            have AH4 := Lib.hid (AH3.out.below BQ.out (by omega))
            have AR4 := Lib.hid (AR3.out.below BQ.out (by omega))
            have BW4 := Lib.hid (BW3.out.trans (BQ.out.mono (by omega)))
            clear AH3 AK3 AR3 AT3 BW3 BQ
            rw [show ((64 : Nat) : Int) = 64 from rfl]
            go_wp2
            go_loopw [15] (fun iv wq => ∃ k : Nat, k ≤ 8 ∧ iv = .int .i64 k ∧ Hid (Arr wq G 60 (u32s ((addV s t).list.take k ++ t.list.drop k))) ∧ Hid (Arr wq w.heap.size 60 (u32s s.list)) ∧ Hid (Arr wq (w.heap.size + 1 + 1) 60 (u32s (List.replicate 8 0))) ∧ Hid (Below w.heap.size w wq)) (fun iv _ => 8 - (intOf iv).toNat)
            case atStart => exact ⟨0, by omega, rfl, AQ, AH4, AR4, BW4⟩
            case round =>
              obtain ⟨k, hk, rfl, AQ5, AH5, AR5, B5⟩ := hrel
              clear AH4 AR4 BW4 AQ
              by_cases hlt : k < 8
              · obtain ⟨y, hy⟩ : ∃ y, s.list[k]? = some y := ⟨_, List.getElem?_eq_getElem hlt⟩
                obtain ⟨z, hz⟩ : ∃ z, t.list[k]? = some z := ⟨_, List.getElem?_eq_getElem hlt⟩
                have hyz := addV_get hy hz
                have ch : wr.cell? ⟨w.heap.size, k, none⟩ = some (.int .u32 y) := by rw [AH5.out.cell]; exact u32s_get hy
                have cv : wr.cell? ⟨G, k, none⟩ = some (.int .u32 z) := by
                  rw [AQ5.out.cell k]
                  refine u32s_get ?_
                  rw [List.getElem?_append_right (by simp; omega), List.getElem?_drop, ← hz]
                  congr 1
                  have : (addV s t).list.length = 8 := rfl
                  simp [this]; omega
                have fv := AQ5.out.frozen k
                have HYZ := Lib.hid hyz
                have hgw : ¬ w.heap.size = G := by omega
                clear hyz hy hz
                go_wp2
                go_region
                go_wp2
                refine ⟨⟨k + 1, by omega, by go_num, ?_, (AH5.out.other (by omega) k _ : Arr (World.setCell _ _ _) _ _ _), (AR5.out.other (by omega) k _ : Arr (World.setCell _ _ _) _ _ _), (B5.out.setCell (p := ⟨G, k, none⟩) (by simp; omega) _).drew⟩, by simp [intOf]; omega⟩
                have e0 : (((y + z) % 4294967296 : Nat) : Int) = ((z : Int) + (y : Int)) % 4294967296 := by omega
                have e := set_step (A := (addV s t).list) (B := t.list) rfl HYZ.out
                unfold Hid
                rw [← e, u32s_set, e0]
                exact (show Arr (World.drew _) _ _ _ from AQ5.out.set k _)
              · obtain rfl : k = 8 := by omega
                have hl8 : (addV s t).list.take 8 ++ t.list.drop 8 = (addV s t).list := rfl
                rw [hl8, HR2.out ()] at AQ5
                go_wp2_with (first
                  | (refine wpList_load_arr rfl 60 (.tmp 11) rfl _ rfl AQ5.out Tryd.underlying60 rfl Tryd.size60 rfl ?_)
                  | (refine wpList_store_arr rfl 60 (.tmp 6) (.tmp 196) rfl _ rfl rfl AR5.out Tryd.size60 rfl (by rw [u32s_len, List.length_replicate]) (u32s_one _) ?_; intro W5 A5 B6 hsz5 HO5))
                refine bodyPost_ret (results_arr rfl rfl A5.out Tryd.underlying60 rfl Tryd.size60 rfl) rfl ?_
                exact ⟨rfl, B5.out.trans (B6.out.mono (by omega))⟩
end Go.Proofs.YtmmocnokgcgmnaaDoor
