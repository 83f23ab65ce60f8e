/-
  ShaMacs: the walk of the law.
-/
import Derived.Test.YtnhcopleepmcmaaDoorHRMac
namespace Go.Proofs.YtnhcopleepmcmaaDoor
open Go.RowKit
set_option maxHeartbeats 1600000 in
set_option maxRecDepth 100000 in
theorem macs_walk (kA : Option Addr) (kc : Nat) (key : List Nat) (a : Option Addr) (cap : Nat) (b : List Nat) (w : World) (hk : InB w kA key.length kc key) (hb : InB w a b.length cap b) (hT : Tabs w) :
    Calls Tryd.prog 3 #[.slice kA key.length kc, .slice a b.length cap] w fun e w' => e = .returned (.bool true) ∧ Below w.heap.size w w' := by
  obtain ⟨_, hkc, hkm, hkb, hkr⟩ := hk
  obtain ⟨_, hbc, hbm, hbb, hbr⟩ := hb
  have haw := awake_any w hT
  have hkl : key.length ≤ 9223372036854775807 := by unfold maxLen at hkm; omega
  have hbl : b.length ≤ 9223372036854775807 := by unfold maxLen at hbm; omega
  by_cases c1 : 500 < key.length
  · go_enter Tryd.func3, Tryd.ntmps3
    go_wp2_with (go_at_call 14; refine haw.mono ?_; rintro e w1 ⟨rfl, hb1⟩)
    go_ret
    exact ⟨rfl, hb1⟩
  by_cases c2 : 1000 < b.length
  · go_enter Tryd.func3, Tryd.ntmps3
    go_wp2_with (go_at_call 14; refine haw.mono ?_; rintro e w1 ⟨rfl, hb1⟩)
    go_ret
    exact ⟨rfl, hb1⟩
  have hp := fun W h1 h2 t => pmac_any kA kc key hkb hkc (by omega) a cap b hbb (by omega) W h1 h2 t
  have hr := fun W h1 h2 => rmac_any kA kc key hkb (by omega) a cap b hbb (by omega) W h1 h2
  obtain ⟨R, hR⟩ : ∃ R, macL key b = R := ⟨_, rfl⟩
  have hRl : R.length = 32 := by rw [← hR]; rfl
  have hRb : ∀ x ∈ R, x < 256 := by rw [← hR]; exact outV_lt _
  have heq := fun W => eq24 hRl hRb W
  rw [hR] at hp hr
  have hpos := hT.pos
  clear hR hRl hRb
  go_enter Tryd.func3, Tryd.ntmps3
  go_wp2_with (first
    | (go_at_call 14; refine haw.mono ?_; rintro e w1 ⟨rfl, hb1⟩; have HB1 := Lib.hid hb1; clear hb1)
    | (go_at_call 15; refine (hp w1 ((hkr.below HB1.out (Nat.le_refl _)).mono HB1.out.size) ((hbr.below HB1.out (Nat.le_refl _)).mono HB1.out.size) (hT.below HB1.out hpos)).mono ?_; rintro e w2 ⟨rfl, hb2⟩; have HB2 := Lib.hid (HB1.out.trans (hb2.mono HB1.out.size)); clear hb2)
    | (go_at_call 16; refine (hr w2 ((hkr.below HB2.out (Nat.le_refl _)).mono HB2.out.size) ((hbr.below HB2.out (Nat.le_refl _)).mono HB2.out.size)).mono ?_; rintro e w3 ⟨rfl, hb3⟩; have HB3 := Lib.hid (HB2.out.trans (hb3.mono HB2.out.size)); clear hb3))
  go_ret
  exact ⟨rfl, HB3.out⟩
end Go.Proofs.YtnhcopleepmcmaaDoor
