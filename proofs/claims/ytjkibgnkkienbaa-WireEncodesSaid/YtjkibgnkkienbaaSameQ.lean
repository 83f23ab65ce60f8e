/-
  THE DOCUMENT's Same over items answers true of two lists that read alike, and only draws.
-/
import Derived.Test.YtjkibgnkkienbaaSame
namespace Go.Proofs.Ytjkibgnkkienbaa
open Go.RowKit

set_option maxHeartbeats 8000000 in
set_option maxRecDepth 100000 in
/-- The document's Same answers true of two lists that read alike. -/
theorem same_quiet (a b : Option Addr) (c1 c2 : Nat) (l : List It) (hlen : l.length ≤ 140737488351232) (w : World) (hra : RdI w.heap.size w a l) (hrb : RdI w.heap.size w b l) :
    Calls Try.prog 8 #[.slice a l.length c1, .slice b l.length c2] w fun e w' => e = .returned (.bool true) ∧ ∃ n, w' = w.drewN n := by
  have HA := Lib.hid hra
  have HB := Lib.hid hrb
  clear hra hrb
  go_enter Try.func8, Try.ntmps8
  go_wp2
  go_loopw [5] (fun i wr => ∃ k : Nat, k ≤ l.length ∧ i = .int .i64 k ∧ ∃ n, wr = w.drewN n) (fun i _ => l.length - (intOf i).toNat)
  case atStart => exact ⟨0, Nat.zero_le _, rfl, 0, rfl⟩
  case round =>
    obtain ⟨k, hk, rfl, nn, hnn⟩ := hrel
    have HW := Lib.hid hnn
    have HBe := Lib.hid (show Below w.heap.size w wr by rw [hnn]; exact below_drewN (Below.refl w.heap.size w) nn)
    clear hnn
    by_cases hlt : k < l.length
    · obtain ⟨x, hx⟩ : ∃ x, l[k]? = some x := ⟨_, List.getElem?_eq_getElem hlt⟩
      obtain ⟨b1, o1, rfl, hb1, hc1⟩ := HA.out (by omega)
      obtain ⟨b2, o2, rfl, hb2, hc2⟩ := HB.out (by omega)
      obtain ⟨p0, p1, p2, A1, d1, p3, _, _, r1⟩ := hc1 k x hx
      obtain ⟨q0, q1, q2, A2, d2, q3, _, _, r2⟩ := hc2 k x hx
      have g0 := (HBe.out.cell (p := ⟨b1, o1 + k * 4, none⟩) hb1).trans p0
      have g1 := (HBe.out.cell (p := ⟨b1, o1 + k * 4 + 1, none⟩) hb1).trans p1
      have g2 := (HBe.out.cell (p := ⟨b1, o1 + k * 4 + 2, none⟩) hb1).trans p2
      have g3 := (HBe.out.cell (p := ⟨b1, o1 + k * 4 + 3, none⟩) hb1).trans p3
      have h0 := (HBe.out.cell (p := ⟨b2, o2 + k * 4, none⟩) hb2).trans q0
      have h1 := (HBe.out.cell (p := ⟨b2, o2 + k * 4 + 1, none⟩) hb2).trans q1
      have h2 := (HBe.out.cell (p := ⟨b2, o2 + k * 4 + 2, none⟩) hb2).trans q2
      have h3 := (HBe.out.cell (p := ⟨b2, o2 + k * 4 + 3, none⟩) hb2).trans q3
      have cv1 := conv_rdN (r1.below HBe.out) d1
      have cv2 := conv_rdN (r2.below HBe.out) d2
      have i0 : (0 : Int) ≤ (k : Int) := Int.natCast_nonneg _
      have i1 : (k : Int) < (l.length : Int) := by omega
      clear hc1 hc2 p0 p1 p2 p3 q0 q1 q2 q3 hx r1 r2
      go_wp2_with fail
      go_quiet (fail)
      go_wp2
      go_roundw
      case rel => exact ⟨k + 1, by omega, by go_num, _, by rw [HW.out, World.drewN_drewN]⟩
      case measure => simp [intOf]; omega
    · go_wp2
      go_ret
      exact ⟨rfl, nn, HW.out⟩
end Go.Proofs.Ytjkibgnkkienbaa
