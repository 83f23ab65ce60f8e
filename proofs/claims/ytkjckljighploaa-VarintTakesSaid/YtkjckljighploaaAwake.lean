/-
  BEHIND awake: the bytes of a slice as a string; the first line of every law answers true and leaves all as it was.
-/
import Derived.Test.YtkjckljighploaaTake
import Derived.Laws.BytesArg
namespace Go.Proofs.Ytkjckljighploaa
open Go.RowKit Go.Shelf

theorem conv_rd {n₀ : Nat} {W : World} {a : Option Addr} {zs : List Int} (h : Rd .u8 n₀ W a zs) (cap : Nat) : (convert 24 9 (.slice a zs.length cap)).run Try.prog W = .ok (.string (strOfNums zs)) W := by
  by_cases hz : 0 < zs.length
  · obtain ⟨b, off, rfl, _, hc⟩ := h hz
    exact run_convert_bytes_arg W 24 5 Try.underlying24 Try.underlying5 b off _ cap zs rfl (fun i hi => by rw [List.getD_eq_getElem?_getD]; exact hc i hi) 9 Try.underlying9
  · obtain rfl : zs = [] := List.eq_nil_of_length_eq_zero (by omega)
    cases a with
    | none => exact run_convert_bytes_nil W 24 5 Try.underlying24 Try.underlying5 _ cap 9 Try.underlying9
    | some x =>
      rw [run_convert_bytes_string W 24 9 5 _ _ cap Try.underlying24 Try.underlying5 Try.underlying9]
      exact run_bytesToString W x 0 cap [] (by simp [loadCells, loadCellsFrom, Sem.run_pure])

theorem Rd.of_own {base : Nat} {e : TypeId} {k : IntKind} {W : World} {g n cap : Nat} {zs : List Int} (h : W.ownsRow base e 1 (.slice (some ⟨g, 0, none⟩) n cap) n (zs.map (Value.int k))) : Rd k W.heap.size W (some ⟨g, 0, none⟩) zs := fun _ => by
  refine ⟨g, 0, rfl, (h.lt g rfl).2, fun j hj => ?_⟩
  have h1 := h.cells (g := g) rfl j (.int k (zs[j]?.getD 0)) (by simp [hj])
  have hadd : (⟨g, 0, none⟩ : Addr).add j = ⟨g, 0 + j, none⟩ := by unfold Addr.add; split <;> simp_all
  rwa [hadd] at h1

theorem putL_300 : putL 300 = [172, 2] := by rw [putL_ge (by decide), putL_lt (by decide)]; rfl
theorem take_172 : takeS [172, 2, 9] = (300, 2, 0) := by rfl

set_option maxHeartbeats 800000 in
set_option maxRecDepth 100000 in
theorem awake_any (w : World) : Calls Try.prog 10 #[] w fun e w' => e = .returned (.bool true) ∧ Below w.heap.size w w' := by
  have ht := take_any (some ⟨w.heap.size, 0, none⟩) 3 [172, 2, 9] (by simp) (by intro j; match j with | 0 => simp | 1 => simp | 2 => simp | j + 3 => simp) (w.alloc (.cells #[.int .u8 172, .int .u8 2, .int .u8 9] 5)) (fun _ => ⟨w.heap.size, 0, rfl, by simp, fun j hj => by
    have e := cell_of_row (w.alloc (.cells #[.int .u8 172, .int .u8 2, .int .u8 9] 5)) w.heap.size (0 + j) _ 5 (0, 0) (heap_alloc_new w _)
    rw [e]
    match j, hj with
    | 0, _ => rfl
    | 1, _ => rfl
    | 2, _ => rfl⟩)
  rw [take_172] at ht
  go_enter Try.func10, Try.ntmps10
  have hz : ∀ w1 : World, Calls Try.prog 13 #[.int .i64 (-1)] w1 fun e w' => e = .returned (.int .u64 1) ∧ w1 = w' := fun w1 => zig_any (-1) (by decide) (by decide) w1
  have hp : ∀ w1 : World, Calls Try.prog 11 #[.int .u64 300] w1 (Made [172, 2] w1) := fun w1 => by have := put_any 300 (by decide) w1; rwa [putL_300] at this
  go_wp2_with (first
    | (go_at_call 17; refine ht.mono ?_; rintro e w1 ⟨rfl, hb⟩; have hb' := Lib.hid (((Below.refl w.heap.size w).alloc (Nat.le_refl _) (.cells #[.int .u8 172, .int .u8 2, .int .u8 9] 5)).trans (hb.mono (by simp))); clear hb)
    | (go_at_call 11; refine (hp _).mono ?_; rintro e w2 ⟨g, cap, rfl, ho, hb2⟩; have hcv : (convert 24 9 (.slice (some ⟨g, 0, none⟩) 2 cap)).run Try.prog w2 = .ok (.string ⟨#[172, 2]⟩) w2 := conv_rd (Rd.of_own ho) cap; have hb3 := Lib.hid hb2; clear ho hb2)
    | (go_at_call 13; refine (hz _).mono ?_; rintro e w3 ⟨rfl, rfl⟩))
  go_ret
  exact ⟨rfl, hb'.out.trans (hb3.out.mono hb'.out.size)⟩
end Go.Proofs.Ytkjckljighploaa
