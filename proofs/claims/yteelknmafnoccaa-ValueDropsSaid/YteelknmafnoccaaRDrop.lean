/-
  THE DOCUMENT's Drop, walked: what it leaves of a record.
-/
import Derived.Test.YteelknmafnoccaaFMath
import Derived.Test.YteelknmafnoccaaJoinI
import Derived.Deep.QuietTactic
import Derived.BigQuiet
import Derived.WalkSmall
namespace Go.Proofs.Yteelknmafnoccaa
open Go.RowKit
set_option linter.unusedVariables false

theorem OwnI.form_m {w : World} {base : Nat} {v : Value} {l : List It} (h : OwnI w base v l) : ∃ A n cap, v = .slice A n cap ∧ n = l.length ∧ n ≤ cap ∧ cap ≤ maxLen := by
  obtain ⟨xs, ho, _⟩ := h
  obtain ⟨A, cap, rfl, hc⟩ := own_form ho
  exact ⟨A, _, cap, rfl, rfl, hc, own_cap ho⟩
theorem OwnI.got {w w' : World} {v : Value} {l : List It} (h : OwnI w' w.heap.size v l) (hb : Below w.heap.size w w') : GotD l w (.returned v) w' := by
  obtain ⟨A, n, c, rfl, h1, h2, h3⟩ := h.form_m
  exact ⟨A, n, c, rfl, h1, h2, h3, h.rd hb.size (Nat.le_refl _), hb⟩
theorem any_take (zs : List Int) (id : Int) (k : Nat) (z : Int) (h : zs[k]? = some z) : ((zs.take (k + 1)).any fun z => z == id) = (((zs.take k).any fun z => z == id) || (z == id)) := by
  rw [List.take_add_one, h, List.any_append]
  simp

set_option maxHeartbeats 8000000 in
set_option maxRecDepth 100000 in
theorem rdrop_any (a : Option Addr) (cap : Nat) (l : List It) (b : Option Addr) (cb : Nat) (zs : List Int) (hlen : l.length ≤ 100000) (hcap : l.length ≤ cap) (hcm : cap ≤ 9223372036854775807) (hzl : zs.length ≤ 100000) (w : World) (hr : RdI w.heap.size w a l) (hrz : Rd .i64 w.heap.size w b zs) :
    Calls Try.prog 22 #[.slice a l.length cap, .slice b zs.length cb] w (GotD (rdropS l zs) w) := by
  rcases Bool.eq_false_or_eq_true (rightB l) with hR | hR
  · have hright := right_any a cap l (by omega) w hr
    rw [hR] at hright
    have hD : rdropS l zs = rdropGo l zs (l.length + 1) 0 := by unfold rdropS; rw [if_pos hR]
    obtain ⟨R, hRR⟩ : ∃ R, rdropS l zs = R := ⟨_, rfl⟩
    rw [hRR]
    have HD0 : Hid (R = [] ++ rdropGo l zs (l.length + 1) 0) := by rw [Hid, ← hRR, hD]; rfl
    have HR := Lib.hid hr
    have HZ := Lib.hid hrz
    clear hr hrz hD hRR hR
    go_enter Try.func22, Try.ntmps22
    go_wp2_with (go_at_call 15; refine hright.mono ?_; rintro e w1 ⟨rfl, hb1⟩; have H1 := Lib.hid hb1; clear hb1)
    go_loopw [5, 7] (fun ov iv wr => ∃ (f i : Nat) (pre : List It), i ≤ l.length ∧ l.length - i < f ∧ pre.length ≤ i ∧ iv = .int .i64 i ∧ OwnI wr w.heap.size ov pre ∧ Hid (R = pre ++ rdropGo l zs f i) ∧ Below w.heap.size w wr) (fun _ iv _ => l.length - (intOf iv).toNat)
    case atStart => exact ⟨l.length + 1, 0, [], Nat.zero_le _, by omega, Nat.le_refl _, rfl, OwnI.none _ _, HD0, H1.out⟩
    case round =>
      obtain ⟨f, i, pre, hi, hf, hpi, rfl, hown, HF, hbel⟩ := hrel
      have HO := Lib.hid hown
      have HB := Lib.hid hbel
      clear hown hbel
      obtain ⟨f, rfl⟩ : ∃ f', f = f' + 1 := ⟨f - 1, by omega⟩
      by_cases hlt : i < l.length
      · obtain ⟨bq, off, rfl, hb, hc⟩ := HR.out (by omega)
        obtain ⟨x, hx⟩ : ∃ x, l[i]? = some x := ⟨_, List.getElem?_eq_getElem hlt⟩
        obtain ⟨_, c1, _⟩ := hc i x hx
        have g1 := (HB.out.cell (p := ⟨bq, off + i * 4 + 1, none⟩) hb).trans c1
        have hgt := endAt_gt hlt
        have hend := fun W (hW : Below w.heap.size w W) => end_any (some ⟨bq, off, none⟩) cap l i hi (by omega) W ((HR.out.below hW).mono hW.size)
        have HE := Lib.hid hend
        have hF := HF.out
        rw [rdropGo, if_pos hlt] at hF
        have hk : keptR l zs i = if (zs.any fun z => z == x.id) = true then (l.drop i).take (endAt l i - i) else [] := by
          unfold keptR
          rw [hx]
          rfl
        have HK := Lib.hid hk
        have HF2 := Lib.hid hF
        obtain ⟨en, hen⟩ : ∃ en, endAt l i = en := ⟨_, rfl⟩
        rw [hen] at hgt HE HK HF2
        have hci : ¬ cap = i := by omega
        have i0 : (0 : Int) ≤ (i : Int) := Int.natCast_nonneg _
        have i1 : (i : Int) < (l.length : Int) := by omega
        clear hc hx hend hF hk hen HF
        obtain ⟨W1, hW1⟩ : ∃ W1, W1 = wr := ⟨_, rfl⟩
        subst hW1
        go_wp2
        go_loopw [8, 9] (fun nv kv wk => ∃ (k : Nat) (q : Bool), k ≤ zs.length ∧ kv = .int .i64 k ∧ nv = .bool q ∧ Hid (((zs.take k).any fun z => z == x.id) = q) ∧ ∃ n, wk = W1.drewN n) (fun _ kv _ => zs.length - (intOf kv).toNat)
        case atStart => exact ⟨0, false, Nat.zero_le _, rfl, rfl, rfl, 0, rfl⟩
        case round =>
          obtain ⟨k, q, hk, rfl, rfl, HQ, nn, hnn⟩ := hrel
          have HW := Lib.hid hnn
          have HBe := Lib.hid (show Below w.heap.size w wr by rw [hnn]; exact below_drewN HB.out nn)
          clear hnn
          by_cases hkl : k < zs.length
          · obtain ⟨bz, oz, rfl, hbz, hcz⟩ := HZ.out (by omega)
            obtain ⟨z, hzk⟩ : ∃ z, zs[k]? = some z := ⟨_, List.getElem?_eq_getElem hkl⟩
            have hz1 := (HBe.out.cell (p := ⟨bz, oz + k, none⟩) hbz).trans (hcz k hkl)
            rw [hzk, Option.getD_some] at hz1
            have hx1 := (HBe.out.cell (p := ⟨bq, off + i * 4 + 1, none⟩) hb).trans c1
            have hat := any_take zs x.id k z hzk
            rw [HQ.out] at hat
            have j0 : (0 : Int) ≤ (k : Int) := Int.natCast_nonneg _
            have j1 : (k : Int) < (zs.length : Int) := by omega
            have HAT := Lib.hid hat
            clear hcz hzk hat g1
            rcases q with _ | _
            · rcases hzx : (z == x.id) with _ | _
              · rw [hzx] at HAT
                go_wp2_with fail
                go_quiet (fail)
                go_wp2
                go_roundw
                case rel => exact ⟨k + 1, false, by omega, by go_num, rfl, HAT.out, _, by rw [HW.out, World.drewN_drewN]⟩
                case measure => simp [intOf]; omega
              · rw [hzx] at HAT
                go_wp2_with fail
                go_quiet (fail)
                go_wp2
                go_roundw
                case rel => exact ⟨k + 1, true, by omega, by go_num, rfl, HAT.out, _, by rw [HW.out, World.drewN_drewN]⟩
                case measure => simp [intOf]; omega
            · go_wp2_with fail
              go_quiet (fail)
              go_wp2
              go_roundw
              case rel => exact ⟨k + 1, true, by omega, by go_num, rfl, HAT.out, _, by rw [HW.out, World.drewN_drewN]⟩
              case measure => simp [intOf]; omega
          · obtain rfl : k = zs.length := by omega
            rw [List.take_of_length_le (Nat.le_refl _)] at HQ
            have HO2 := Lib.hid (show OwnI wr w.heap.size u5 pre by rw [HW.out]; exact HO.out.below (below_drewN (Below.refl _ _) nn) (.inl (Nat.le_refl _)) HB.out.size)
            rcases q with _ | _
            · have HF3 : Hid (R = pre ++ rdropGo l zs f en) := by rw [Hid, HF2.out, HK.out, HQ.out]; simp
              go_wp2_with (go_at_call 32; refine (HE.out _ HBe.out).mono ?_; rintro e w' ⟨rfl, rfl⟩)
              go_roundw
              case rel => exact ⟨f, en, pre, hgt.2, by omega, by omega, rfl, HO2.out, HF3, HBe.out⟩
              case measure => simp [intOf]; omega
            · have HF3 : Hid (R = (pre ++ (l.drop i).take (en - i)) ++ rdropGo l zs f en) := by rw [Hid, HF2.out, HK.out, HQ.out, if_pos rfl, List.append_assoc]
              obtain ⟨seg, hseg⟩ : ∃ seg, (l.drop i).take (en - i) = seg := ⟨_, rfl⟩
              have hsl : seg.length = en - i := by rw [← hseg, List.length_take, List.length_drop]; omega
              have hsr : SrcI w.heap.size wr (some ⟨bq, off + i * 4, none⟩) seg := by rw [← hseg]; exact ((HR.out.part i (en - i)).below HBe.out).src
              rw [hseg] at HF3
              have HSL := Lib.hid hsl
              have HSR := Lib.hid hsr
              clear hseg hsl hsr
              go_wp2_with (first
                | (go_at_call 32; refine (HE.out _ ?hb).mono ?_; (case hb => first | exact HBe.out | exact HX.out); rintro e w' ⟨rfl, rfl⟩)
                | (at_builtin; refine wpList_append_items rfl _ _ rfl w.heap.size _ pre rfl HO2.out (some ⟨bq, off + i * 4, none⟩) seg (en - i) (cap - i) rfl HSL.out.symm HSR.out (by have := HSL.out; omega) HBe.out.size ?_; intro v1 X1 ho hb1 _; have HO3 := Lib.hid ho; have HX := Lib.hid (HBe.out.trans hb1); clear ho hb1))
              go_roundw
              case rel => exact ⟨f, en, pre ++ seg, hgt.2, by omega, by have := HSL.out; rw [List.length_append]; omega, rfl, HO3.out, HF3, HX.out⟩
              case measure => simp [intOf]; omega
      · have hF := HF.out
        rw [rdropGo, if_neg hlt, List.append_nil] at hF
        have HF2 := Lib.hid hF
        clear hF
        obtain rfl : i = l.length := by omega
        obtain ⟨L1, ln1, lc1, rfl, -, -, -⟩ := HO.out.form_m
        go_wp2
        go_ret
        have h := HO.out.got HB.out
        rw [← HF2.out] at h
        exact h
  · have hright := right_any a cap l (by omega) w hr
    rw [hR] at hright
    have hD : rdropS l zs = [] := by unfold rdropS; rw [if_neg (by simp [hR])]
    rw [hD]
    clear hr hrz hD hR
    by_cases h0 : 0 < l.length
    all_goals
      go_enter Try.func22, Try.ntmps22
      go_wp2_with (go_at_call 15; refine hright.mono ?_; rintro e w1 ⟨rfl, hb1⟩; have H1 := Lib.hid hb1; clear hb1)
      refine wp_loop_rounds 1 ?_
      rw [rounds_succ]
      go_wp2
      go_ret
      exact OwnI.got (OwnI.none _ _) H1.out
end Go.Proofs.Yteelknmafnoccaa
