/-
  AN ENVELOPE IS NOT MADE: too many bytes.
-/
import Derived.Test.YtmmocnokgcgmnaaDoorSArg
namespace Go.Proofs.YtmmocnokgcgmnaaDoor
open Go.RowKit
set_option maxHeartbeats 1600000 in
set_option maxRecDepth 100000 in
theorem wrap_big (id : Int) (sA : Option Addr) (n sc : Nat) (hn : n ≤ 1000000) (k l r f : Int) (ho : okO k l r f) (hw : okW id n k) (pA : Option Addr) (m pc : Nat) (hbig : 4096 < m) (hm : m ≤ 1000000) (w : World) :
    Calls Tryd.prog 7 #[.agg #[.int .i64 id, .slice sA n sc], .agg #[.int .i64 k, .int .i64 l, .int .i64 r, .int .i64 f], .slice pA m pc] w fun e w' => e = .returned (.tuple #[.slice none 0 0, .int .i64 3]) ∧ Below w.heap.size w w' := by
  have hO := okO_any k l r f
  have hK := fun W => okK_any id sA n sc (by omega) W
  obtain ⟨Y, hY⟩ : ∃ Y, (w.alloc (.cells #[.int .i64 id, .slice sA n sc] 26)).alloc (.cells #[.int .i64 k, .int .i64 l, .int .i64 r, .int .i64 f] 28) = Y := ⟨_, rfl⟩
  have hBY : Below w.heap.size w Y := by rw [← hY]; exact ((Below.refl w.heap.size w).alloc (Nat.le_refl _) _).alloc (by simp) _
  have hYs : Y.heap.size = w.heap.size + 2 := by rw [← hY]; simp
  have hak : Arr Y w.heap.size 26 [.int .i64 id, .slice sA n sc] := by rw [← hY]; exact (Arr.new w 26 [.int .i64 id, .slice sA n sc]).alloc _
  have hao : Arr Y (w.heap.size + 1) 28 [.int .i64 k, .int .i64 l, .int .i64 r, .int .i64 f] := by rw [← hY]; exact Arr.new2 w (.cells #[.int .i64 id, .slice sA n sc] 26) 28 [.int .i64 k, .int .i64 l, .int .i64 r, .int .i64 f]
  have HAK : Hid (∀ W, Below Y.heap.size Y W → Arr W w.heap.size 26 [.int .i64 id, .slice sA n sc]) := fun W h => hak.below h (by omega)
  have HAO : Hid (∀ W, Below Y.heap.size Y W → Arr W (w.heap.size + 1) 28 [.int .i64 k, .int .i64 l, .int .i64 r, .int .i64 f]) := fun W h => hao.below h (by omega)
  have HBY := Lib.hid hBY
  have HLE : Hid (w.heap.size ≤ Y.heap.size) := by unfold Hid; omega
  have HLT : Hid (w.heap.size < Y.heap.size) := by unfold Hid; omega
  have B0 := Lib.hid (Below.refl Y.heap.size Y)
  have H1 := Lib.hid ho
  clear hBY hYs hak hao ho
  by_cases hk0 : k = 0
  · subst hk0
    go_enter Tryd.func7, Tryd.ntmps7
    go_wp2_with (first
      | (refine wpList_load_arr rfl 28 (.tmp 4) rfl (w.heap.size + 1) rfl (HAO.out _ B0.out) Tryd.underlying28 rfl sizeO rfl ?_)
      | (go_at_call 10; refine (hO Y).mono ?_; rintro e w1 ⟨⟨x, rfl, hx⟩, hb1⟩; obtain rfl : x = true := hx.2 H1.out; have B1 := Lib.hid (B0.out.trans hb1); have co1 := (HAO.out _ B1.out).cell 0; simp only [List.getElem?_cons_zero] at co1; clear hx hb1)
      | (refine wpList_store_arr rfl 26 (.tmp 3) (.tmp 15) rfl w.heap.size rfl (vs := [.int .i64 0, .slice none 0 0]) rfl ((HAK.out _ B1.out)) sizeK rfl rfl (by simp [Value.oneCell']) ?_; intro W2 A2 B2 hsz2 O2))
    go_ret2
    exact ⟨rfl, (HBY.out.trans (B1.out.mono HLE.out)).trans B2.out⟩
  · have hwk : okK id n ∧ id = k := by rcases hw with h | h; exact absurd h hk0; exact h
    obtain ⟨hw1, rfl⟩ := hwk
    have H3 := Lib.hid hw1
    clear hw hw1
    go_enter Tryd.func7, Tryd.ntmps7
    go_wp2_with (first
      | (refine wpList_load_arr rfl 28 (.tmp 4) rfl (w.heap.size + 1) rfl (HAO.out _ B0.out) Tryd.underlying28 rfl sizeO rfl ?_)
      | (go_at_call 10; refine (hO Y).mono ?_; rintro e w1 ⟨⟨x, rfl, hx⟩, hb1⟩; obtain rfl : x = true := hx.2 H1.out; have B1 := Lib.hid (B0.out.trans hb1); have co1 := (HAO.out _ B1.out).cell 0; simp only [List.getElem?_cons_zero] at co1; clear hx hb1)
      | (refine wpList_load_arr rfl 26 (.tmp 3) rfl w.heap.size rfl (HAK.out _ B1.out) Tryd.underlying26 rfl sizeK rfl ?_)
      | (go_at_call 17; refine (hK w1).mono ?_; rintro e w2 ⟨⟨x, rfl, hx⟩, hb2⟩; obtain rfl : x = true := hx.2 H3.out; have BX := Lib.hid (B1.out.trans (hb2.mono B1.out.size)); have co2 := (HAO.out _ BX.out).cell 0; have ck2 := (HAK.out _ BX.out).cell 0; simp only [List.getElem?_cons_zero] at co2 ck2; clear hx hb2 co1))
    go_ret2
    exact ⟨rfl, HBY.out.trans (BX.out.mono HLE.out)⟩
end Go.Proofs.YtmmocnokgcgmnaaDoor
