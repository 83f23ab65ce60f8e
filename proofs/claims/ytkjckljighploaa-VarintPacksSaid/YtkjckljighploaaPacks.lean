/-
  PROVED: for every slice of ints l and every slice of bytes b the law VarintPacks returns true: what Pack makes of l is unpacked as l; what Unpack makes of b is packed as b, or it is ErrForm and no list. Conditions: none; every l and b (nil, empty, any capacity, of shared memory too), every memory, schedule and order of evaluation.
-/
import Derived.Test.YtkjckljighploaaLists
import Derived.Test.YtkjckljighploaaRows
import Derived.Deep.RegionHeld
import Derived.WalkKit
import Derived.ProofKit
import Derived.OpenShut
import Derived.ShutString
import Derived.ChangeOld
import Derived.Below
namespace Go.Proofs.Ytkjckljighploaa.varintPacks
open Go.ChangeShapes Go.WideShapes Go.ChangeAt Go.RowKit
open Go.ChangeMaps (open_string shut_string)
set_option linter.unusedVariables false

theorem own : ownKnob Try.prog.godebug = none := by kernel_rfl
theorem laidOut : laidOutB Try.prog = true := by kernel_rfl

/-- Pack at a list whose bytes are known. -/
theorem pack_to {a : Option Addr} {len : Nat} (cap : Nat) (zs ys : List Int) (hl : zs.length = len) (hlen : len ≤ 100000) (hzs : Ints64 zs) {w : World} (hr : Rd .i64 w.heap.size w a zs) (hy : packL zs = ys) :
    Calls Try.prog 22 #[.slice a len cap] w fun e w' => ∃ A c, e = .returned (.slice A ys.length c) ∧ Rd .u8 w'.heap.size w' A ys ∧ Below w.heap.size w w' := by
  subst hl hy
  exact pack_rd a cap zs hlen hzs w hr

theorem walk_big1 (a0 a1 : Option Addr) (c0 c1 n0 n1 : Nat) (w : World) (h : 500 < n0) :
    Calls Try.prog 6 #[.slice a0 n0 c0, .slice a1 n1 c1] w fun e w' => e = .returned (.bool true) ∧ Below w.heap.size w w' := by
  go_enter Try.func6, Try.ntmps6
  go_wp2_with (go_at_call 10; refine (awake_any _).mono ?_; rintro e W1 ⟨rfl, hb⟩; have hb' := Lib.hid hb; clear hb)
  go_ret
  exact ⟨rfl, hb'.out⟩
theorem walk_big2 (a0 a1 : Option Addr) (c0 c1 n0 n1 : Nat) (w : World) (h0 : n0 ≤ 500) (h : 2000 < n1) :
    Calls Try.prog 6 #[.slice a0 n0 c0, .slice a1 n1 c1] w fun e w' => e = .returned (.bool true) ∧ Below w.heap.size w w' := by
  go_enter Try.func6, Try.ntmps6
  go_wp2_with (go_at_call 10; refine (awake_any _).mono ?_; rintro e W1 ⟨rfl, hb⟩; have hb' := Lib.hid hb; clear hb)
  go_ret
  exact ⟨rfl, hb'.out⟩

set_option maxHeartbeats 4000000 in
theorem walk_no (a0 a1 : Option Addr) (c0 c1 : Nat) (ls zs : List Int) (w : World) (hl5 : ls.length ≤ 500) (hz2 : zs.length ≤ 2000) (hwf : ∀ x ∈ ls, (Lit.int .i64 x).wf = true) (hbz : ∀ x ∈ zs, 0 ≤ x ∧ x ≤ 255)
    (HL : Hid (Rd .i64 w.heap.size w a0 ls)) (HB : Hid (Rd .u8 w.heap.size w a1 zs)) (hused : used (scan 0 0 zs) ≠ zs.length) :
    Calls Try.prog 6 #[.slice a0 ls.length c0, .slice a1 zs.length c1] w fun e w' => e = .returned (.bool true) ∧ Below w.heap.size w w' := by
  have T1 : True := trivial
  have T2 : True := trivial
  have T3 : True := trivial
  have hints := ints_of hwf
  have hpl : (packL ls).length ≤ 100000 := by have := packL_len ls.length ls hints; rw [List.take_of_length_le (Nat.le_refl _)] at this; omega
  obtain ⟨hsz, hsu⟩ := scan_pack ls hwf
  go_enter Try.func6, Try.ntmps6
  go_wp2_with (first
    | (go_at_call 10; refine (awake_any _).mono ?_; rintro e W1 ⟨rfl, hb⟩; have hb' := Lib.hid hb; clear hb)
    | (go_at_call 22; have _t1 := T1; (with_reducible refine (pack_to c0 ls (packL ls) rfl (by omega) hints ((HL.out.below hb'.out).mono hb'.out.size) rfl).mono ?_); rintro e W2 ⟨A2, c2, rfl, hr2, hb2⟩; have H2 := Lib.hid (hb'.out.trans (hb2.mono hb'.out.size)); have R2 := Lib.hid hr2; clear hr2 hb2 T1)
    | (go_at_call 19; have _t2 := T2; (with_reducible refine (unpack_yes A2 c2 (packL ls) hpl (packL_bytes ls) _ R2.out hsu hsz).mono ?_); rintro e W3 ⟨A3, c3, rfl, hr3, hb3⟩; have H3 := Lib.hid (H2.out.trans (hb3.mono H2.out.size)); have R3 := Lib.hid hr3; clear hr3 hb3 T2)
    | (go_at_call 19; have _t3 := T3; (with_reducible refine (unpack_no a1 c1 zs (by omega) hbz _ ((HB.out.below H3.out).mono H3.out.size) hused).mono ?_); rintro e W4 ⟨rfl, hb4⟩; have H4 := Lib.hid (H3.out.trans (hb4.mono H3.out.size)); have R3' := Lib.hid ((R3.out.below hb4).mono hb4.size); clear hb4 T3)
    | (go_at_call 21; refine (same_any a0 A3 c0 c3 ls (by omega) _ ((HL.out.below H4.out).mono H4.out.size) R3'.out).mono ?_; rintro e W5 ⟨rfl, hb5⟩; have H5 := Lib.hid (H4.out.trans (hb5.mono H4.out.size)); clear hb5))
  go_quiet (fail)
  go_wp2
  go_ret
  exact ⟨rfl, below_drewN H5.out _⟩

set_option maxHeartbeats 8000000 in
theorem walk_yes (a0 a1 : Option Addr) (c0 c1 : Nat) (ls zs : List Int) (w : World) (hl5 : ls.length ≤ 500) (hz2 : zs.length ≤ 2000) (hwf : ∀ x ∈ ls, (Lit.int .i64 x).wf = true) (hbz : ∀ x ∈ zs, 0 ≤ x ∧ x ≤ 255)
    (HL : Hid (Rd .i64 w.heap.size w a0 ls)) (HB : Hid (Rd .u8 w.heap.size w a1 zs)) (hused : used (scan 0 0 zs) = zs.length) (os : List Int) (hos : zags (scan 0 0 zs) = os) (hol : os.length ≤ 2000) (hoi : Ints64 os) (hop : packL os = zs) :
    Calls Try.prog 6 #[.slice a0 ls.length c0, .slice a1 zs.length c1] w fun e w' => e = .returned (.bool true) ∧ Below w.heap.size w w' := by
  have T1 : True := trivial
  have T2 : True := trivial
  have T3 : True := trivial
  have hints := ints_of hwf
  have hpl : (packL ls).length ≤ 100000 := by have := packL_len ls.length ls hints; rw [List.take_of_length_le (Nat.le_refl _)] at this; omega
  obtain ⟨hsz, hsu⟩ := scan_pack ls hwf
  go_enter Try.func6, Try.ntmps6
  go_wp2_with (first
    | (go_at_call 10; refine (awake_any _).mono ?_; rintro e W1 ⟨rfl, hb⟩; have hb' := Lib.hid hb; clear hb)
    | (go_at_call 22; have _t1 := T1; (with_reducible refine (pack_to c0 ls (packL ls) rfl (by omega) hints ((HL.out.below hb'.out).mono hb'.out.size) rfl).mono ?_); rintro e W2 ⟨A2, c2, rfl, hr2, hb2⟩; have H2 := Lib.hid (hb'.out.trans (hb2.mono hb'.out.size)); have R2 := Lib.hid hr2; clear hr2 hb2 T1)
    | (go_at_call 19; have _t2 := T2; (with_reducible refine (unpack_yes A2 c2 (packL ls) hpl (packL_bytes ls) _ R2.out hsu hsz).mono ?_); rintro e W3 ⟨A3, c3, rfl, hr3, hb3⟩; have H3 := Lib.hid (H2.out.trans (hb3.mono H2.out.size)); have R3 := Lib.hid hr3; clear hr3 hb3 T2)
    | (go_at_call 19; have _t3 := T3; (with_reducible refine (unpack_yes a1 c1 zs (by omega) hbz _ ((HB.out.below H3.out).mono H3.out.size) hused hos).mono ?_); rintro e W4 ⟨A4, c4, rfl, hr4, hb4⟩; have H4 := Lib.hid (H3.out.trans (hb4.mono H3.out.size)); have R3' := Lib.hid ((R3.out.below hb4).mono hb4.size); have R4 := Lib.hid hr4; clear hr4 hb4 T3)
    | (go_at_call 21; refine (same_any a0 A3 c0 c3 ls (by omega) _ ((HL.out.below H4.out).mono H4.out.size) R3'.out).mono ?_; rintro e W5 ⟨rfl, hb5⟩; have H5 := Lib.hid (H4.out.trans (hb5.mono H4.out.size)); have R5 := Lib.hid ((R4.out.below hb5).mono hb5.size); clear hb5))
  have hcv0 := conv_rd (HB.out.below H5.out.drew) c1
  have R5d : Hid (Rd .i64 W5.drew.heap.size W5.drew A4 os) := R5.out.below ((Below.refl W5.heap.size W5).drew)
  first
  | (go_region_held (fun _ => True) (trivial)
    (first
      | (go_at_call 22; refine (pack_to c4 os zs rfl (by omega) hoi R5d.out hop).mono ?_; rintro e W7 ⟨A7, c7, rfl, hr7, hb7⟩; have hcv1 := conv_rd hr7 c7; have hcv2 := conv_rd ((HB.out.below H5.out.drew).below (hb7.mono H5.out.size)) c1; have H7 := Lib.hid (H5.out.drew.trans (hb7.mono H5.out.size)); clear hb7 hr7)))
  | fail
  all_goals go_wp2
  all_goals go_ret
  all_goals exact ⟨rfl, H7.out⟩


theorem walk (a0 : Option Addr) (len0 cap0 : Nat) (z0 : List Int) (a1 : Option Addr) (len1 cap1 : Nat) (z1 : List Int) (w : World) (w0 : IsRow .i64 w a0 len0 cap0 z0) (w1 : IsRow .u8 w a1 len1 cap1 z1) :
    Calls Try.prog 6 #[.slice a0 len0 cap0, .slice a1 len1 cap1] w fun e w' => e = .returned (.bool true) ∧ Below w.heap.size w w' := by
  obtain ⟨ls, hl0, _, _, hr0, hwf0⟩ := w0.read
  obtain ⟨zs, hl1, _, _, hr1, hwf1⟩ := w1.read
  have hbz : ∀ x ∈ zs, 0 ≤ x ∧ x ≤ 255 := fun x hx => wf_u8 (hwf1 x hx)
  rcases Nat.lt_or_ge 500 len0 with h0 | h0
  · exact walk_big1 a0 a1 cap0 cap1 len0 len1 w h0
  rcases Nat.lt_or_ge 2000 len1 with h1 | h1
  · exact walk_big2 a0 a1 cap0 cap1 len0 len1 w h0 h1
  subst hl0 hl1
  by_cases hu : used (scan 0 0 zs) = zs.length
  · exact walk_yes a0 a1 cap0 cap1 ls zs w h0 h1 hwf0 hbz hr0 hr1 hu _ rfl (by have := scan_len zs.length zs (Nat.le_refl _) hbz; rw [zags_len]; omega) (zags_ints _) (pack_scan zs.length zs (Nat.le_refl _) hbz hu)
  · exact walk_no a0 a1 cap0 cap1 ls zs w h0 h1 hwf0 hbz hr0 hr1 hu


set_option maxRecDepth 100000 in
theorem lifted (os : Os) (started : os.Started) (H : Type) (enc : TypeId × Value → H) :
    ReturnsInHanded {} Try.checked os 6 .any (Rows.varintPacksSpec.pre6 enc Try.prog Try.f6 Rows.varintPacksRow.domain false) (Rows.varintPacksSpec.post enc Try.prog Try.f6 false true false false) := by
  refine returnsInHanded_of_change (C := Try.checked) own started (by kernel_rfl) Try.func6
    (ChangeSpec.witness6 (enc := enc) (C := Try.checked) false ⟨#[], #[.slice none 0 0, .slice none 0 0], []⟩ 8 (by kernel_rfl) (by kernel_rfl) (by kernel_rfl) (by kernel_rfl)) ?_
  intro W base args ds gs before hval0 hW hcnd _
  have hval : ∀ (j : Nat) t v, Try.f6.params[j]? = some t → args[j]? = some v → Value.okWide Try.prog W .any base t v := hval0
  have hW' := hW
  obtain ⟨p, q, hA0, hV, rfl, hfz, hnd⟩ := hW
  have hA : DataW.TrodAll enc Try.prog W 0 (fun _ => true) true Try.f6.params.toList args.toList ds p := hA0
  rw [Try.params6] at hA hval
  obtain ⟨v0, vs0, d0, ds0, p0, q0, hargs, rfl, rfl, h0, r0⟩ := trodAll_cons hA
  obtain ⟨v1, vs1, d1, ds1, p1, q1, rfl, rfl, rfl, h1, r1⟩ := trodAll_cons r0
  obtain ⟨rfl, rfl, rfl⟩ := trodAll_nil r1
  obtain rfl : args = #[v0, v1] := by cases args; simp_all
  obtain ⟨rfl, rfl⟩ := trodVars_none hV
  obtain ⟨a0, len0, cap0, rfl⟩ := okWide_slice Try.underlying32 (hval 0 32 v0 rfl rfl)
  have k0 := h0
  have lt0 : ∀ x ∈ p0, x.block < W.heap.size := by obtain ⟨m, hm⟩ := k0; exact DataW.trod_lt m _ _ _ hm
  obtain ⟨z0, w0⟩ : ∃ zs, IsRow .i64 W a0 len0 cap0 zs := by
    obtain ⟨fuel, hf⟩ := h0
    rcases open_ints Try.underlying32 Try.underlying3 (by kernel_rfl) hf with ⟨hcs, _⟩ | ⟨x, l, c, zs, hcs, _, hl, hm, hz, _, hcell, hwz⟩
    · simp [Value.cells] at hcs
      obtain ⟨rfl, rfl, rfl⟩ := hcs
      exact ⟨[], .inl ⟨rfl, rfl, rfl, rfl⟩⟩
    · simp [Value.cells] at hcs
      obtain ⟨rfl, rfl, rfl⟩ := hcs
      exact ⟨zs, .inr ⟨_, rfl, hl, hm, by simpa using hz, hcell, hwz⟩⟩
  obtain ⟨a1, len1, cap1, rfl⟩ := okWide_slice Try.underlying24 (hval 1 24 v1 rfl rfl)
  have k1 := h1
  have lt1 : ∀ x ∈ p1, x.block < W.heap.size := by obtain ⟨m, hm⟩ := k1; exact DataW.trod_lt m _ _ _ hm
  obtain ⟨z1, w1⟩ : ∃ zs, IsRow .u8 W a1 len1 cap1 zs := by
    obtain ⟨fuel, hf⟩ := h1
    rcases open_ints Try.underlying24 Try.underlying5 (by kernel_rfl) hf with ⟨hcs, _⟩ | ⟨x, l, c, zs, hcs, _, hl, hm, hz, _, hcell, hwz⟩
    · simp [Value.cells] at hcs
      obtain ⟨rfl, rfl, rfl⟩ := hcs
      exact ⟨[], .inl ⟨rfl, rfl, rfl, rfl⟩⟩
    · simp [Value.cells] at hcs
      obtain ⟨rfl, rfl, rfl⟩ := hcs
      exact ⟨zs, .inr ⟨_, rfl, hl, hm, by simpa using hz, hcell, hwz⟩⟩
  clear hA0 hval0
  refine (walk a0 len0 cap0 z0 a1 len1 cap1 z1 W w0 w1).mono fun e W' ⟨he, bel⟩ => ?_
  subst he
  exact ⟨_, rfl, _, _, _, [], _, [], hW', trodAll_mk1 (shut_bool Try.underlying4 _), (trodAll_cons_mk (Below.trod laidOut (by kernel_rfl) (of_decide_eq_true (by kernel_rfl)) k0 bel lt0) (trodAll_cons_mk (Below.trod laidOut (by kernel_rfl) (of_decide_eq_true (by kernel_rfl)) k1 bel lt1) trodAll_mk0)), rfl, bel.frame _, fun h => by cases h⟩

theorem over : Rows.varintPacksRow.holds Try.pinned (OpenSpec.ofChange Rows.varintPacksSpec) :=
  OpenClaim.holds_of_wide 6 Try.f6 rfl rfl rfl rfl rfl rfl rfl ⟨rfl, rfl, rfl, rfl, rfl⟩ rfl rfl rfl rfl rfl (by kernel_rfl) Try.func6 (by kernel_rfl)
    (of_decide_eq_true (by kernel_rfl)) (by unfold Func.isWrapper; first | (rw [if_pos (by decide +kernel)]; kernel_rfl) | (rw [if_neg (by decide +kernel)]; exact ⟨rfl, rfl⟩))
    (fun os started H enc _ => lifted os started H enc)

theorem proved : Rows.VarintPacksSaid := over
#print axioms proved
end Go.Proofs.Ytkjckljighploaa.varintPacks
