/-
  PREFIXES: the document's prefix of a text: the walk.
-/
import Derived.Test.YtebogllfjhiblaaDoorNRTxt
import Derived.Test.YtebogllfjhiblaaDoorNParD
namespace Go.Proofs.YtebogllfjhiblaaDoor
set_option linter.unusedVariables false
open Go.RowKit
attribute [local go_sem] strL_toList
set_option maxHeartbeats 4000000 in
set_option maxRecDepth 100000 in
theorem rparse_any (l : List UInt8) (w : World) : Calls Tryd.prog 13 #[.string (strL l)] w fun e w' => ParseSays (rparseS l) e ∧ Below w.heap.size w w' := by
  have hz := strL_size l
  have X0 := Lib.hid (Bx.new w (.int .u32 0) (.int .i64 0))
  have B0 := Lib.hid ((Below.refl w.heap.size w).alloc (Nat.le_refl _) (.cells #[.int .u32 0, .int .i64 0] 24))
  by_cases hlen : 18 < l.length
  · have HN : Hid (rparseS l = none) := by unfold Hid rparseS; rw [if_pos hlen]
    have hd : decide ((l.length : Int) > 18) = true := by simp; omega
    have hd2 : decide (18 < (l.length : Int)) = true := by simp; omega
    obtain ⟨c0, c1, f0, f1⟩ := X0.out.cells
    clear hlen
    go_enter Tryd.func13, Tryd.ntmps13
    go_wp2
    exact bodyPost_ret (results_bx rfl rfl X0.out) rfl ⟨.no HN.out, B0.out⟩
  have hl : l.length ≤ 18 := by omega
  clear hlen
  have hd : decide ((l.length : Int) > 18) = false := by simp; omega
  have hd2 : decide (18 < (l.length : Int)) = false := by simp; omega
  have HL := Lib.hid hl
  have X1 := Lib.hid (X0.out.alloc (.cells #[.int .i64 0, .int .i64 0, .int .i64 0, .int .i64 0, .int .i64 0] 46))
  have B1 := Lib.hid (B0.out.alloc (by simp) (.cells #[.int .i64 0, .int .i64 0, .int .i64 0, .int .i64 0, .int .i64 0] 46))
  have A0 := Lib.hid (Arr.new (w.alloc (.cells #[.int .u32 0, .int .i64 0] 24)))
  clear hl B0 X0
  go_enter Tryd.func13, Tryd.ntmps13
  go_wp2
  go_loopw [5, 6] (fun at_ pos wr => ∃ (k i : Nat) (f : Nat → Nat), Hid (k ≤ l.length ∧ i ≤ 4 ∧ (∀ j, j < 5 → f j ≤ 255) ∧ mach (l.drop k) f i = mach l zeroF 0) ∧ at_ = .int .i64 i ∧ pos = .int .i64 k ∧ Hid (Arr wr (w.heap.size + 1) f) ∧ Hid (Bx wr w.heap.size (.int .u32 0) (.int .i64 0)) ∧ Hid (Below w.heap.size w wr)) (fun _ pos _ => l.length - (intOf pos).toNat)
  case atStart => exact ⟨0, 0, zeroF, ⟨by omega, by omega, fun _ _ => by simp [zeroF], rfl⟩, rfl, rfl, by unfold Hid; have := A0.out; simpa using this, X1, B1⟩
  case round =>
    obtain ⟨k, i, f, HK, rfl, rfl, HA, HX, HB⟩ := hrel
    have hkl := HK.out.1
    clear X1 B1 A0
    by_cases hk : k < l.length
    · have hd3 : decide ((k : Int) < (l.length : Int)) = true := by simp; omega
      have hkz : k < (strL l).size := by rw [hz]; exact hk
      obtain ⟨x, hx⟩ : ∃ x, ((strL l)[k]'hkz).toNat = x := ⟨_, rfl⟩
      have hxl : l[k].toNat = x := by rw [← hx]; rfl
      have hi : i < 5 := by have := HK.out.2.1; omega
      have hm : mach (l.drop k) f i = if 48 ≤ x ∧ x ≤ 57 then (if 255 < f i * 10 + (x - 48) then none else mach (l.drop (k + 1)) (setF f i (f i * 10 + (x - 48))) i) else if 4 < i + 1 then none else mach (l.drop (k + 1)) f (i + 1) := by
        rw [List.drop_eq_getElem_cons hk]
        exact mach_step hxl _ _ _
      rw [HK.out.2.2.2] at hm
      have HBD := Lib.hid HK.out.2.2.1
      have HI := Lib.hid hi
      have HK1 : Hid (k + 1 ≤ l.length) := hk
      have e6 : decide ((i : Int) > 4) = false := by simp; omega
      have e7 : decide (4 < (i : Int)) = false := by simp; omega
      have e8 : min (i : Int) 4 = (i : Int) := by omega
      clear hxl
      by_cases hdig : 48 ≤ x ∧ x ≤ 57
      · rw [if_pos hdig] at hm
        obtain ⟨F, hF⟩ : ∃ F, f i = F := ⟨_, rfl⟩
        have hF2 : F ≤ 255 := by rw [← hF]; exact HBD.out i hi
        obtain ⟨c0, c1⟩ := HA.out.at hi
        rw [hF] at hm c0
        obtain ⟨y, hy⟩ : ∃ y, x - 48 = y := ⟨_, rfl⟩
        obtain ⟨V, hV⟩ : ∃ V, F * 10 + y = V := ⟨_, rfl⟩
        rw [hy, hV] at hm
        have e1 : decide ((x : Int) ≥ 48) = true := by simp; omega
        have e2 : decide (48 ≤ (x : Int)) = true := by simp; omega
        have e3 : decide ((x : Int) ≤ 57) = true := by simp; omega
        have e4 : ((x : Int) - 48) % 256 = (y : Int) := by omega
        have e5 : (F : Int) * 10 + (y : Int) = (V : Int) := by omega
        have c0' : wr.drew.cell? ⟨w.heap.size + 1, i, none⟩ = some (.int .i64 F) := c0
        have c1' : wr.drew.frozen? ⟨w.heap.size + 1, i, none⟩ = false := c1
        have X2 := Lib.hid (Bx.other (W := wr.drew) (p := ⟨w.heap.size + 1, i, none⟩) HX.out (by simp) (.int .i64 V))
        have X2 : Hid (Bx (wr.setCell ⟨w.heap.size + 1, i, none⟩ (.int .i64 V)).drew w.heap.size (.int .u32 0) (.int .i64 0)) := X2.out
        have A2 := Lib.hid (Arr.set (W := wr.drew) HA.out hi V)
        have HB2 := Lib.hid ((bel_drawn HB.out 1).setCell (p := ⟨w.heap.size + 1, i, none⟩) (Nat.le_succ _) (.int .i64 V))
        have hV3 : V < 100000 := by omega
        have hy3 : y < 10 := by omega
        by_cases hv : 255 < V
        · rw [if_pos hv] at hm
          have HM := Lib.hid (rparse_none hm)
          have e9 : decide ((V : Int) > 255) = true := by simp; omega
          have e10 : decide (255 < (V : Int)) = true := by simp; omega
          obtain ⟨p0, p1, g0, g1⟩ := X2.out.cells
          have X3 : Hid (Bx ((wr.setCell ⟨w.heap.size + 1, i, none⟩ (.int .i64 V)).setCell ⟨w.heap.size, 0, none⟩ (.int .u32 0)).drew w.heap.size (.int .u32 0) (.int .i64 0)) := X2.out.set0 (.int .u32 0)
          obtain ⟨p2, p3, g2, g3⟩ := X3.out.cells
          have X4 : Hid (Bx (((wr.setCell ⟨w.heap.size + 1, i, none⟩ (.int .i64 V)).setCell ⟨w.heap.size, 0, none⟩ (.int .u32 0)).setCell ⟨w.heap.size, 1, none⟩ (.int .i64 0)).drew w.heap.size (.int .u32 0) (.int .i64 0)) := X2.out.set (.int .u32 0) (.int .i64 0)
          have HB4 : Hid (Below w.heap.size w (((wr.setCell ⟨w.heap.size + 1, i, none⟩ (.int .i64 V)).setCell ⟨w.heap.size, 0, none⟩ (.int .u32 0)).setCell ⟨w.heap.size, 1, none⟩ (.int .i64 0)).drew) := (HB2.out.setCell (p := ⟨w.heap.size, 0, none⟩) (Nat.le_refl _) (.int .u32 0)).setCell (p := ⟨w.heap.size, 1, none⟩) (Nat.le_refl _) (.int .i64 0)
          have EK : Hid (wrap64 ((k : Int) + 1) = (k : Int) + 1) := by have := HL.out; have := HK1.out; unfold Hid wrap64; omega
          clear hdig hm hF hV hy hv HBD hkl
          go_wp2
          go_region
          go_wp2
          exact bodyPost_ret (results_bx rfl rfl X4.out) rfl ⟨.no HM.out, HB4.out⟩
        · rw [if_neg hv] at hm
          have HM := Lib.hid hm
          have e9 : decide ((V : Int) > 255) = false := by simp; omega
          have e10 : decide (255 < (V : Int)) = false := by simp; omega
          have HS := Lib.hid (setF_le HBD.out i V (by omega))
          have EK : Hid (wrap64 ((k : Int) + 1) = (k : Int) + 1) := by have := HL.out; have := HK1.out; unfold Hid wrap64; omega
          clear hdig hm hF hV hy hv HBD hkl
          go_wp2
          go_region
          go_wp2
          go_roundw
          case rel => exact ⟨k + 1, i, setF f i V, ⟨HK1.out, by have := HI.out; omega, HS.out, HM.out.symm⟩, rfl, by rw [EK.out]; go_num, A2, X2, HB2⟩
          case measure => rw [EK.out]; simp [intOf]; omega
      · rw [if_neg hdig] at hm
        have e1 : decide (48 ≤ (x : Int)) = true → decide ((x : Int) ≤ 57) = false := by simp; omega
        by_cases hi4 : i = 4
        · subst hi4
          rw [if_pos (by omega)] at hm
          have HM := Lib.hid (rparse_none hm)
          obtain ⟨p0, p1, g0, g1⟩ := HX.out.cells
          clear hm HBD hkl e6 e7 e8
          by_cases h48 : 48 ≤ x
          · have e2 : decide ((x : Int) ≥ 48) = true := by simp; omega
            have e3 : decide (48 ≤ (x : Int)) = true := by simp; omega
            have e4 : decide ((x : Int) ≤ 57) = false := by simp; omega
            clear hdig h48 e1
            go_wp2
            exact bodyPost_ret (results_bx rfl rfl (HX.out.set _ _)) rfl ⟨.no HM.out, (HB.out.setCell (p := ⟨w.heap.size, 0, none⟩) (Nat.le_refl _) _).setCell (p := ⟨w.heap.size, 1, none⟩) (Nat.le_refl _) _⟩
          · have e2 : decide ((x : Int) ≥ 48) = false := by simp; omega
            have e3 : decide (48 ≤ (x : Int)) = false := by simp; omega
            clear hdig h48 e1
            go_wp2
            exact bodyPost_ret (results_bx rfl rfl (HX.out.set _ _)) rfl ⟨.no HM.out, (HB.out.setCell (p := ⟨w.heap.size, 0, none⟩) (Nat.le_refl _) _).setCell (p := ⟨w.heap.size, 1, none⟩) (Nat.le_refl _) _⟩
        · have hi5 : i + 1 < 5 := by omega
          rw [if_neg (by omega)] at hm
          have HM := Lib.hid hm
          obtain ⟨I, hI⟩ : ∃ I, i + 1 = I := ⟨_, rfl⟩
          rw [hI] at HM hi5
          obtain ⟨c0, c1⟩ := HA.out.at hi5
          obtain ⟨F, hF⟩ : ∃ F, f I = F := ⟨_, rfl⟩
          have hF2 : F ≤ 255 := by rw [← hF]; exact HBD.out I hi5
          rw [hF] at c0
          have HS := Lib.hid HBD.out
          have e2 : (i : Int) + 1 = (I : Int) := by omega
          have e4 : decide ((I : Int) > 4) = false := by simp; omega
          have e5 : decide (4 < (I : Int)) = false := by simp; omega
          have e10 : min (I : Int) 4 = (I : Int) := by omega
          have e9 : decide ((F : Int) > 255) = false := by simp; omega
          have e11 : decide (255 < (F : Int)) = false := by simp; omega
          have HI5 := Lib.hid hi5
          have e3 : wrap64 (I : Int) = (I : Int) := by unfold wrap64; omega
          have EK : Hid (wrap64 ((k : Int) + 1) = (k : Int) + 1) := by have := HL.out; have := HK1.out; unfold Hid wrap64; omega
          clear hm HBD hkl e6 e7 e8 hI hF hi4
          by_cases h48 : 48 ≤ x
          · have e6 : decide ((x : Int) ≥ 48) = true := by simp; omega
            have e7 : decide (48 ≤ (x : Int)) = true := by simp; omega
            have e8 : decide ((x : Int) ≤ 57) = false := by simp; omega
            clear hdig h48 e1
            go_wp2
            go_roundw
            case rel => clear e3; exact ⟨k + 1, I, f, ⟨HK1.out, by have := HI5.out; omega, HS.out, HM.out.symm⟩, rfl, by rw [EK.out]; go_num, HA, HX, HB⟩
            case measure => clear e3; rw [EK.out]; simp [intOf]; omega
          · have e6 : decide ((x : Int) ≥ 48) = false := by simp; omega
            have e7 : decide (48 ≤ (x : Int)) = false := by simp; omega
            clear hdig h48 e1
            go_wp2
            go_roundw
            case rel => clear e3; exact ⟨k + 1, I, f, ⟨HK1.out, by have := HI5.out; omega, HS.out, HM.out.symm⟩, rfl, by rw [EK.out]; go_num, HA, HX, HB⟩
            case measure => clear e3; rw [EK.out]; simp [intOf]; omega
    · obtain rfl : k = l.length := by omega
      have hm : mach l zeroF 0 = some f := by
        have := HK.out.2.2.2
        rw [List.drop_length] at this
        exact this.symm
      have hrs : rparseS l = if l = [] ∨ textP (numF f, (f 4 : Int)) ≠ l then none else some (numF f, (f 4 : Int)) := by
        unfold rparseS
        rw [if_neg (by have := HL.out; omega), hm]
      obtain ⟨c0, x0⟩ := HA.out.at (j := 0) (by decide)
      obtain ⟨c1, x1⟩ := HA.out.at (j := 1) (by decide)
      obtain ⟨c2, x2⟩ := HA.out.at (j := 2) (by decide)
      obtain ⟨c3, x3⟩ := HA.out.at (j := 3) (by decide)
      obtain ⟨c4, x4⟩ := HA.out.at (j := 4) (by decide)
      have h0 := HK.out.2.2.1 0 (by decide)
      have h1 := HK.out.2.2.1 1 (by decide)
      have h2 := HK.out.2.2.1 2 (by decide)
      have h3 := HK.out.2.2.1 3 (by decide)
      have h4 := HK.out.2.2.1 4 (by decide)
      unfold numF at hrs
      generalize f 0 = F0 at *
      generalize f 1 = F1 at *
      generalize f 2 = F2 at *
      generalize f 3 = F3 at *
      generalize f 4 = F4 at *
      obtain ⟨N, hN⟩ : ∃ N, F0 * 16777216 + F1 * 65536 + F2 * 256 + F3 = N := ⟨_, rfl⟩
      rw [hN] at hrs
      have e1 : (F0 : Int) * 16777216 + (F1 : Int) * 65536 + (F2 : Int) * 256 + (F3 : Int) = (N : Int) := by omega
      have e2 : (N : Int) % 4294967296 = (N : Int) := by omega
      have hNN : N < 4294967296 := by omega
      have htx := rtext_any N hNN (F4 : Int)
      have HRS := Lib.hid hrs
      have d3 : decide ((l.length : Int) < (l.length : Int)) = false := by simp
      obtain ⟨p0, p1, g0, g1⟩ := HX.out.cells
      have XN : Hid (Bx (wr.alloc (.cells #[.int .u32 N, .int .i64 F4] 24)) w.heap.size (.int .u32 0) (.int .i64 0)) := HX.out.alloc _
      have BN : Hid (Below w.heap.size w (wr.alloc (.cells #[.int .u32 N, .int .i64 F4] 24))) := HB.out.alloc HB.out.size _
      have YN := Lib.hid (Bx.new wr (.int .u32 N) (.int .i64 F4))
      obtain ⟨q0, q1, k0, k1⟩ := XN.out.cells
      obtain ⟨r0, r1, _, _⟩ := YN.out.cells
      clear hrs hm hN hNN HK hkl
      by_cases hnil : l = []
      · have HP : Hid (rparseS l = none) := by unfold Hid; rw [HRS.out, if_pos (.inl hnil)]
        have d4 : (l == []) = true := by simpa using hnil
        have d5 : (strL l == { data := #[] }) = true := by rw [hnil]; rfl
        have d6 : l.isEmpty = true := by simpa using hnil
        clear HRS
        go_wp2
        exact bodyPost_ret (results_bx rfl rfl (XN.out.set _ _)) rfl ⟨.no HP.out, (BN.out.setCell (p := ⟨w.heap.size, 0, none⟩) (Nat.le_refl _) _).setCell (p := ⟨w.heap.size, 1, none⟩) (Nat.le_refl _) _⟩
      · have d4 : (l == []) = false := by simpa using hnil
        have d5 : (strL l == { data := #[] }) = false := by
          cases l with
          | nil => exact absurd rfl hnil
          | cons a t => rfl
        have d6 : l.isEmpty = false := by simpa using hnil
        by_cases ht : textP (N, (F4 : Int)) = l
        · have HP : Hid (rparseS l = some (N, (F4 : Int))) := by unfold Hid; rw [HRS.out, if_neg (by simp [hnil, ht])]
          rw [ht] at htx
          have d7 : (l == l) = true := by simp
          clear HRS ht hnil
          go_wp2_with (go_at_call 15; refine (htx _).mono ?_; rintro e w2 ⟨rfl, hb2⟩; have X2 := Lib.hid (XN.out.keep hb2 XN.out.lt); have Y2 := Lib.hid (YN.out.keep hb2 YN.out.lt); have B2 := Lib.hid (BN.out.trans (hb2.mono BN.out.size)); obtain ⟨u0, u1, v0, v1⟩ := X2.out.cells; obtain ⟨y0, y1, _, _⟩ := Y2.out.cells; clear hb2)
          exact bodyPost_ret (results_bx rfl rfl (X2.out.set _ _)) rfl ⟨.yes HP.out, (B2.out.setCell (p := ⟨w.heap.size, 0, none⟩) (Nat.le_refl _) _).setCell (p := ⟨w.heap.size, 1, none⟩) (Nat.le_refl _) _⟩
        · have HP : Hid (rparseS l = none) := by unfold Hid; rw [HRS.out, if_pos (.inr ht)]
          have d7 : (textP (N, (F4 : Int)) == l) = false := by simpa using ht
          generalize textP (N, (F4 : Int)) = TX at *
          clear HRS ht hnil
          go_wp2_with (go_at_call 15; refine (htx _).mono ?_; rintro e w2 ⟨rfl, hb2⟩; have X2 := Lib.hid (XN.out.keep hb2 XN.out.lt); have B2 := Lib.hid (BN.out.trans (hb2.mono BN.out.size)); obtain ⟨u0, u1, v0, v1⟩ := X2.out.cells; clear hb2)
          exact bodyPost_ret (results_bx rfl rfl (X2.out.set _ _)) rfl ⟨.no HP.out, (B2.out.setCell (p := ⟨w.heap.size, 0, none⟩) (Nat.le_refl _) _).setCell (p := ⟨w.heap.size, 1, none⟩) (Nat.le_refl _) _⟩
end Go.Proofs.YtebogllfjhiblaaDoor
