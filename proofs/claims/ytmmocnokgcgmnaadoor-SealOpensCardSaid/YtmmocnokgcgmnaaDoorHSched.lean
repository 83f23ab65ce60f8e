/-
  THE PROGRAM's words of a block.
-/
import Derived.Test.YtmmocnokgcgmnaaDoorHBytes
import Derived.Test.YtmmocnokgcgmnaaDoorHMix
namespace Go.Proofs.YtmmocnokgcgmnaaDoor
open Go.RowKit
theorem Arr.new2 (w : World) (o : Obj) (t : TypeId) (vs : List Value) : Arr ((w.alloc o).alloc (.cells vs.toArray t)) (w.heap.size + 1) t vs := by simpa using Arr.new (w.alloc o) t vs
theorem u32s_set (l : List Nat) (i n : Nat) : u32s (l.set i n) = (u32s l).set i (.int .u32 n) := by simp [u32s, List.map_set]
theorem moreP_lt {n : Nat} (_ : n ≤ 48) {b : List Nat} (hb : ∀ x ∈ b, x < 256) : ∀ x ∈ moreP n b, x < 4294967296 := by
  intro x hx
  rcases List.mem_append.1 hx with h | h
  · exact more_lt n (words16_lt hb) x h
  · rw [(List.mem_replicate.1 h).2]; decide
set_option maxHeartbeats 1600000 in
set_option maxRecDepth 100000 in
theorem schedule_any (a : Option Addr) (cap : Nat) (b : List Nat) (hl : b.length = 64) (hb : ∀ x ∈ b, x < 256) (w : World) (hr : RdN w.heap.size w a b) :
    Calls Tryd.prog 35 #[.slice a 64 cap] w fun e w' => e = .returned (.agg (u32s (schedL b)).toArray) ∧ Below w.heap.size w w' := by
  obtain ⟨bb, off, rfl, hbb, hc⟩ := hr (by omega)
  obtain ⟨R, hR⟩ : ∃ R, schedL b = R := ⟨_, rfl⟩
  rw [hR]
  have HR : Hid (Unit → schedL b = R) := fun _ => hR
  clear hR
  go_enter Tryd.func35, Tryd.ntmps35
  go_wp2
  obtain ⟨W0, hW0⟩ : ∃ W0, (w.alloc (.cells (List.replicate 64 (.int .u32 0)).toArray 64)).alloc (.cells (List.replicate 64 (.int .u32 0)).toArray 64) = W0 := ⟨_, rfl⟩
  have AR : Hid (Arr W0 w.heap.size 64 (u32s (List.replicate 64 0))) := by rw [← hW0]; exact (Arr.new w 64 (u32s (List.replicate 64 0))).alloc _
  have AW : Hid (Arr W0 (w.heap.size + 1) 64 (u32s (partW b 0))) := by
    rw [← hW0, partW_zero]
    exact Arr.new2 w _ 64 (u32s (List.replicate 64 0))
  have BW : Hid (Below w.heap.size w W0) := by rw [← hW0]; exact ((Below.refl _ w).alloc (Nat.le_refl _) _).alloc (by simp) _
  have hsz : W0.heap.size = w.heap.size + 2 := by rw [← hW0]; simp
  simp only [List.replicate_succ, List.replicate_zero] at hW0
  rw [hW0]
  clear hW0
  go_loopw [13] (fun iv wr => ∃ k : Nat, k ≤ 64 ∧ iv = .int .i64 k ∧ Hid (Arr wr (w.heap.size + 1) 64 (u32s (partW b k))) ∧ Hid (Below (w.heap.size + 1) W0 wr)) (fun iv _ => 64 - (intOf iv).toNat)
  case atStart => exact ⟨0, by omega, rfl, AW, Below.refl _ _⟩
  case round =>
    obtain ⟨k, hk, rfl, AK, BK⟩ := hrel
    clear AW
    by_cases hlt : k < 64
    · obtain ⟨x, hx⟩ : ∃ x, b[k]? = some x := ⟨_, List.getElem?_eq_getElem (by omega)⟩
      have hx8 := hb x (List.mem_of_getElem? hx)
      obtain ⟨p, hp, hp3, hstep⟩ := partW_at hb hlt
      have hst := Lib.hid (hstep x hx)
      have c0 : wr.cell? ⟨bb, off + k, none⟩ = some (.int .u8 x) := (BW.out.trans (BK.out.mono (by omega))).cell (p := ⟨bb, off + k, none⟩) hbb |>.trans (hc k x hx)
      have c1 : wr.cell? ⟨w.heap.size + 1, k / 4, none⟩ = some (.int .u32 p) := by rw [AK.out.cell]; exact u32s_get hp
      have f1 := AK.out.frozen (k / 4)
      have ho : bits .or .u32 ((p : Int) * 256) (x : Int) = (p : Int) * 256 + x := by
        have h := or_byte hp3 hx8
        rw [Int.emod_eq_of_lt (by omega) (by omega)] at h
        rw [h]; omega
      clear hstep hp hc hx hb hr
      go_wp2
      go_roundw
      case rel =>
        refine ⟨k + 1, by omega, by go_num, ?_, BK.out.setCell (p := ⟨w.heap.size + 1, k / 4, none⟩) (by simp) _⟩
        have e : ((p * 256 + x : Nat) : Int) = (p : Int) * 256 + x := by omega
        unfold Hid
        rw [← hst.out, u32s_set, e]
        exact AK.out.set (k / 4) (.int .u32 ((p : Int) * 256 + x))
      case measure => simp [intOf]; omega
    · obtain rfl : k = 64 := by omega
      rw [partW_full] at AK
      have AR2 := Lib.hid (AR.out.below BK.out (by omega))
      have BW2 := Lib.hid (BW.out.trans (BK.out.mono (by omega)))
      have hsz2 : w.heap.size + 2 ≤ wr.heap.size := by have := BK.out.size; omega
      clear AR BW BK hsz hr
      rw [show ((64 : Nat) : Int) = 64 from rfl]
      go_wp2
      go_loopw [6] (fun tv wq => ∃ n : Nat, n ≤ 48 ∧ tv = .int .i64 (16 + n : Nat) ∧ Hid (Arr wq (w.heap.size + 1) 64 (u32s (moreP n b))) ∧ Hid (Arr wq w.heap.size 64 (u32s (List.replicate 64 0))) ∧ Hid (Below w.heap.size w wq)) (fun tv _ => 64 - (intOf tv).toNat)
      case atStart => exact ⟨0, by omega, rfl, AK, AR2, BW2⟩
      case round =>
        obtain ⟨n, hn, rfl, AM, AQ, BQ⟩ := hrel
        clear AK AR2 BW2 hsz2
        by_cases hlt : n < 48
        · obtain ⟨x2, g2⟩ : ∃ x, (moreP n b)[16 + n - 2]? = some x := ⟨_, List.getElem?_eq_getElem (by rw [moreP_len hn]; omega)⟩
          obtain ⟨x7, g7⟩ : ∃ x, (moreP n b)[16 + n - 7]? = some x := ⟨_, List.getElem?_eq_getElem (by rw [moreP_len hn]; omega)⟩
          obtain ⟨x15, g15⟩ : ∃ x, (moreP n b)[16 + n - 15]? = some x := ⟨_, List.getElem?_eq_getElem (by rw [moreP_len hn]; omega)⟩
          obtain ⟨x16, g16⟩ : ∃ x, (moreP n b)[16 + n - 16]? = some x := ⟨_, List.getElem?_eq_getElem (by rw [moreP_len hn]; omega)⟩
          obtain ⟨x0, g0⟩ : ∃ x, (moreP n b)[16 + n]? = some x := ⟨_, List.getElem?_eq_getElem (by rw [moreP_len hn]; omega)⟩
          have hml := moreP_lt hn hb
          have l2 := hml x2 (List.mem_of_getElem? g2)
          have l15 := hml x15 (List.mem_of_getElem? g15)
          have hst := Lib.hid (moreP_step hlt b g2 g7 g15 g16)
          obtain ⟨t, ht⟩ : ∃ t, 16 + n = t := ⟨_, rfl⟩
          rw [ht] at g0 g2 g7 g15 g16 hst
          rw [ht]
          have ht1 : 16 ≤ t := by omega
          have ht2 : t < 64 := by omega
          have c2 : wr.cell? ⟨w.heap.size + 1, t - 2, none⟩ = some (.int .u32 x2) := by rw [AM.out.cell]; exact u32s_get g2
          have c7 : wr.cell? ⟨w.heap.size + 1, t - 7, none⟩ = some (.int .u32 x7) := by rw [AM.out.cell]; exact u32s_get g7
          have c15 : wr.cell? ⟨w.heap.size + 1, t - 15, none⟩ = some (.int .u32 x15) := by rw [AM.out.cell]; exact u32s_get g15
          have c16 : wr.cell? ⟨w.heap.size + 1, t - 16, none⟩ = some (.int .u32 x16) := by rw [AM.out.cell]; exact u32s_get g16
          have ct : wr.cell? ⟨w.heap.size + 1, t, none⟩ = some (.int .u32 x0) := by rw [AM.out.cell]; exact u32s_get g0
          have ft := AM.out.frozen t
          clear hml g0 g2 g7 g15 g16 hb
          have q1 := raw_lS0 l15
          have q2 := raw_lS1 l2
          have R7 := fun W => right_any x15 7 l15 (by decide) W
          have R18 := fun W => right_any x15 18 l15 (by decide) W
          have R17 := fun W => right_any x2 17 l2 (by decide) W
          have R19 := fun W => right_any x2 19 l2 (by decide) W
          go_wp2
          go_quiet (fail)
          go_wp2_with (first
            | (go_at_call_of 41 (Value.int IntKind.i64 7); refine (R7 _).mono ?_; rintro e W ⟨rfl, m7, rfl⟩)
            | (go_at_call_of 41 (Value.int IntKind.i64 18); refine (R18 _).mono ?_; rintro e W ⟨rfl, m18, rfl⟩)
            | (go_at_call_of 41 (Value.int IntKind.i64 17); refine (R17 _).mono ?_; rintro e W ⟨rfl, m17, rfl⟩)
            | (go_at_call_of 41 (Value.int IntKind.i64 19); refine (R19 _).mono ?_; rintro e W ⟨rfl, m19, rfl⟩))
          clear R7 R18 R17 R19
          go_region
          go_wp2
          go_roundw
          case rel =>
            refine ⟨n + 1, by omega, by congr 1; omega, ?_, ((show Arr (wr.drewN _) _ _ _ from AQ.out).other (by omega) _ _), (below_drewN BQ.out _).setCell (p := ⟨w.heap.size + 1, t, none⟩) (by simp) _⟩
            have e : (((lS1 x2 + x7 + lS0 x15 + x16) % 4294967296 : Nat) : Int) = (((lS1 x2 : Nat) : Int) + (x7 : Int) + (lS0 x15 : Nat) + (x16 : Int)) % 4294967296 := by omega
            unfold Hid
            rw [← hst.out, u32s_set, e]
            exact (show Arr (wr.drewN _) _ _ _ from AM.out).set t _
          case measure => simp [intOf]; omega
        · obtain rfl : n = 48 := by omega
          rw [show ((16 + 48 : Nat) : Int) = 64 from rfl]
          rw [moreP_end, HR.out ()] at AM
          have hRl : R.length = 64 := by rw [← HR.out ()]; exact schedL_len b
          go_wp2_with (first
            | (refine wpList_load_arr rfl 64 (.tmp 3) rfl _ rfl AM.out Tryd.underlying64 rfl Tryd.size64 (by rw [u32s_len, hRl]) ?_)
            | (refine wpList_store_arr rfl 64 (.tmp 2) (.tmp 73) rfl _ rfl rfl AQ.out Tryd.size64 (by rw [u32s_len, hRl]) (by rw [u32s_len, List.length_replicate]) (u32s_one _) ?_; intro W5 A5 B5 hsz5 HO5))
          refine bodyPost_ret (results_arr rfl rfl A5.out Tryd.underlying64 rfl Tryd.size64 (by rw [u32s_len, hRl])) rfl ?_
          exact ⟨rfl, BQ.out.trans B5.out⟩
end Go.Proofs.YtmmocnokgcgmnaaDoor
