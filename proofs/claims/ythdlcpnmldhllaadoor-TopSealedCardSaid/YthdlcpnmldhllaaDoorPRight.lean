/-
  THE PROGRAM's Right: a list of items is a record just if "rightB" says so.
-/
import Derived.Test.YthdlcpnmldhllaaDoorPItem
import Derived.Test.YthdlcpnmldhllaaDoorEnc
namespace Go.Proofs.YthdlcpnmldhllaaDoor
open Go.RowKit

theorem turn_range (x : It) : -1 ≤ turn x ∧ turn x ≤ 1 := by
  unfold turn
  by_cases h3 : x.kind = 3
  · rw [if_pos h3]; omega
  · rw [if_neg h3]
    by_cases h4 : x.kind = 4
    · rw [if_pos h4]; omega
    · rw [if_neg h4]; omega

set_option maxHeartbeats 4000000 in
set_option maxRecDepth 100000 in
theorem pright_any (a : Option Addr) (cap : Nat) (l : List It) (hlen : l.length ≤ 140737488351232) (w : World) (hr : RdI w.heap.size w a l) :
    Calls Tryd.prog 31 #[.slice a l.length cap] w fun e w' => e = .returned (.bool (rightB l)) ∧ Below w.heap.size w w' := by
  have HR := Lib.hid hr
  clear hr
  obtain ⟨R, hR⟩ : ∃ R, rightB l = R := ⟨_, rfl⟩
  rw [hR]
  have HRR : Hid (rightFrom 0 l = R) := hR
  clear hR
  go_enter Tryd.func31, Tryd.ntmps31
  go_wp2
  go_loopw [3, 8] (fun dv iv wr => ∃ (k : Nat) (d : Int), k ≤ l.length ∧ 0 ≤ d ∧ d ≤ 8 ∧ Hid (rightFrom d (l.drop k) = R) ∧ dv = .int .i64 d ∧ iv = .int .i64 k ∧ Below w.heap.size w wr) (fun _ iv _ => l.length - (intOf iv).toNat)
  case atStart => exact ⟨0, 0, Nat.zero_le _, by omega, by omega, HRR, rfl, rfl, Below.refl _ _⟩
  case round =>
    obtain ⟨k, d, hk, hd0, hd8, HF, rfl, rfl, hbel⟩ := hrel
    by_cases hlt : k < l.length
    · obtain ⟨b, off, rfl, hb, hc⟩ := HR.out (by omega)
      obtain ⟨x, hx⟩ : ∃ x, l[k]? = some x := ⟨_, List.getElem?_eq_getElem hlt⟩
      obtain ⟨c0, c1, c2, A, c, c3, hxc, hcm, _⟩ := hc k x hx
      have g0 := (hbel.cell (p := ⟨b, off + k * 4, none⟩) hb).trans c0
      have g1 := (hbel.cell (p := ⟨b, off + k * 4 + 1, none⟩) hb).trans c1
      have g2 := (hbel.cell (p := ⟨b, off + k * 4 + 2, none⟩) hb).trans c2
      have g3 := (hbel.cell (p := ⟨b, off + k * 4 + 3, none⟩) hb).trans c3
      have hbs := hbel.size
      have HB := Lib.hid hbel
      have hdrop : l.drop k = x :: l.drop (k + 1) := by
        rw [List.drop_eq_getElem_cons hlt]
        rw [List.getElem?_eq_getElem hlt] at hx
        injection hx with hx
        rw [hx]
      have hxm : x.bs.length ≤ 9223372036854775807 := by unfold maxLen at hcm; omega
      have hsh := ritem_any x A c hxm
      have hdp := deeper_any x A c x.bs.length
      obtain ⟨ht0, ht1⟩ := turn_range x
      have hst := step_turn x d
      obtain ⟨t, htt⟩ : ∃ t, turn x = t := ⟨_, rfl⟩
      rw [htt] at hdp ht0 ht1 hst
      clear hc c0 c1 c2 c3 hbel hx htt
      have HF2 := HF.out
      rw [hdrop, rightFrom, hst] at HF2
      obtain ⟨s, hs⟩ : ∃ s, shapeB x = s := ⟨_, rfl⟩
      rw [hs] at HF2 hsh
      clear hdrop hst hs HF
      cases s
      · have hRf : R = false := by simpa using HF2.symm
        subst hRf
        clear HF2
        go_wp2_with (first
          | (go_at_call 58; refine (hdp _).mono ?_; rintro e W1 ⟨rfl, hb1⟩; have BX1 := Lib.hid (Box.below (heap_alloc_new wr (.cells #[.int .i64 x.kind, .int .i64 x.id, .int .i64 x.n, .slice A x.bs.length c] 84)) hb1 (by simp)); have bc0 := BX1.out.cell 0; have bc1 := BX1.out.cell 1; have bc2 := BX1.out.cell 2; have bc3 := BX1.out.cell 3; have HB1 := Lib.hid (((HB.out.alloc HB.out.size _)).trans (hb1.mono (by simp; omega))); clear hb1)
          | (go_at_call 59; refine (hsh _).mono ?_; rintro e W2 ⟨rfl, hb2⟩; have HB2 := Lib.hid (HB1.out.trans (hb2.mono HB1.out.size)); clear hb2))
        go_ret
        exact ⟨rfl, HB2.out⟩
      · by_cases hdd : 0 ≤ d + t ∧ d + t ≤ 8
        · obtain ⟨hd1, hd2⟩ := hdd
          have HN : Hid (rightFrom (d + t) (l.drop (k + 1)) = R) := by
            unfold Hid
            rw [decide_eq_true ⟨hd1, hd2⟩] at HF2
            simpa using HF2
          clear HF2
          go_wp2_with (first
            | (go_at_call 58; refine (hdp _).mono ?_; rintro e W1 ⟨rfl, hb1⟩; have BX1 := Lib.hid (Box.below (heap_alloc_new wr (.cells #[.int .i64 x.kind, .int .i64 x.id, .int .i64 x.n, .slice A x.bs.length c] 84)) hb1 (by simp)); have bc0 := BX1.out.cell 0; have bc1 := BX1.out.cell 1; have bc2 := BX1.out.cell 2; have bc3 := BX1.out.cell 3; have HB1 := Lib.hid (((HB.out.alloc HB.out.size _)).trans (hb1.mono (by simp; omega))); clear hb1)
            | (go_at_call 59; refine (hsh _).mono ?_; rintro e W2 ⟨rfl, hb2⟩; have HB2 := Lib.hid (HB1.out.trans (hb2.mono HB1.out.size)); clear hb2))
          go_roundw
          case rel => exact ⟨k + 1, d + t, by omega, by omega, by omega, HN, rfl, by go_num, HB2.out⟩
          case measure => simp [intOf]; omega
        · have hRf : R = false := by
            rw [decide_eq_false hdd] at HF2
            simpa using HF2.symm
          subst hRf
          clear HF2
          have hdc : d + t < 0 ∨ 8 < d + t := by omega
          clear hdd
          rcases hdc with hdc | hdc
          all_goals
            go_wp2_with (first
              | (go_at_call 58; refine (hdp _).mono ?_; rintro e W1 ⟨rfl, hb1⟩; have BX1 := Lib.hid (Box.below (heap_alloc_new wr (.cells #[.int .i64 x.kind, .int .i64 x.id, .int .i64 x.n, .slice A x.bs.length c] 84)) hb1 (by simp)); have bc0 := BX1.out.cell 0; have bc1 := BX1.out.cell 1; have bc2 := BX1.out.cell 2; have bc3 := BX1.out.cell 3; have HB1 := Lib.hid (((HB.out.alloc HB.out.size _)).trans (hb1.mono (by simp; omega))); clear hb1)
              | (go_at_call 59; refine (hsh _).mono ?_; rintro e W2 ⟨rfl, hb2⟩; have HB2 := Lib.hid (HB1.out.trans (hb2.mono HB1.out.size)); clear hb2))
            go_ret
            exact ⟨rfl, HB2.out⟩
    · obtain rfl : k = l.length := by omega
      rw [List.drop_length] at HF
      go_wp2
      go_ret
      exact ⟨by rw [← HF.out]; rfl, hbel⟩
end Go.Proofs.YthdlcpnmldhllaaDoor
