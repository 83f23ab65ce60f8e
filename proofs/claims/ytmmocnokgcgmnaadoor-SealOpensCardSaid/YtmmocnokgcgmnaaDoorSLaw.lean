/-
  WHAT EVERY LAW OF THE ENVELOPE BEGINS WITH: 'awake'; the laws of nonces.
-/
import Derived.Test.YtmmocnokgcgmnaaDoorSWrap
namespace Go.Proofs.YtmmocnokgcgmnaaDoor
open Go.RowKit
theorem RdN.at0 {n₀ g : Nat} {W : World} {l : List Nat} (h : RdN n₀ W (some ⟨g, 0, none⟩) l) {j x : Nat} (hx : l[j]? = some x) : W.cell? ⟨g, j, none⟩ = some (.int .u8 x) := by
  obtain ⟨b, o, e, _, hc⟩ := h (by have := (List.getElem?_eq_some_iff.1 hx).1; omega)
  simp only [Option.some.injEq, Addr.mk.injEq] at e
  obtain ⟨rfl, rfl, _⟩ := e
  have := hc j x hx
  rwa [Nat.zero_add] at this
theorem wrap_seven : wrapL 0 258 0 0 [] [7] = [161, 247, 0, 1, 2, 0, 0, 0, 0, 0, 0, 0, 0, 0, 0, 0, 0, 0, 0, 0, 0, 0, 0, 0, 0, 0, 0, 7] := by
  unfold wrapL printL
  rw [if_pos (show ((0 : Nat) : Int) = 0 from rfl)]
  decide
set_option maxHeartbeats 1600000 in
set_option maxRecDepth 100000 in
theorem awake5_any (w : World) (hT : Tabs w) : Calls Tryd.prog 4 #[] w fun e w' => e = .returned (.bool true) ∧ Below w.heap.size w w' := by
  have B1 := (Below.refl w.heap.size w).alloc (Nat.le_refl _) (.cells #[.int .u8 7] 5)
  have hs := wrap_ok 0 none 0 [] (by simp) (Nat.le_refl _) (by decide) 0 258 0 0 (by unfold okO okIn; omega) (.inl rfl) (some ⟨w.heap.size, 0, none⟩) 1 [7] (by decide) (by decide) (w.alloc (.cells #[.int .u8 7] 5)) (RdN.nil _ _ _) (RdN.arr (Arr.new w 5 (u8s [7])) (by simp)) (hT.below B1 hT.pos)
  rw [wrap_seven, show ((0 : Nat) : Int) = 0 from rfl, show ((258 : Nat) : Int) = 258 from rfl] at hs
  have hn := next_any 5
  rw [show nextN 5 = 6 by decide] at hn
  have hb1 := Lib.hid B1
  have HLE : Hid (w.heap.size ≤ (w.alloc (.cells #[.int .u8 7] 5)).heap.size) := by unfold Hid; simp
  clear B1
  go_enter Tryd.func4, Tryd.ntmps4
  go_wp2_with (first
    | (go_at_call 7; refine hs.mono ?_; rintro e w1 ⟨⟨v1, rfl, HO1⟩, hb2⟩; obtain ⟨g, c, rfl, _, _, _, hr⟩ := own_rd HO1.out (by decide); have c0 := hr.at0 (j := 0) rfl; have c4 := hr.at0 (j := 4) rfl; have c27 := hr.at0 (j := 27) rfl; have HB2 := Lib.hid (hb1.out.trans (hb2.mono HLE.out)); clear hb2 HO1 hr)
    | (go_at_call 8; refine (hn _).mono ?_; rintro e w2 ⟨he, rfl⟩; unfold Tells at he; subst he))
  go_ret
  exact ⟨rfl, HB2.out⟩
end Go.Proofs.YtmmocnokgcgmnaaDoor
