/-
  PROVED: for every slice of bytes b the law VarintTakes returns true: the program's Take and Unpack return what the document's return: the same number, length and error, and the same list and error. Conditions: none; every b (nil, empty, any capacity), every memory, schedule and order of evaluation.
-/
import Derived.Test.YtkjckljighploaaRefUnpack
import Derived.Test.YtkjckljighploaaRows
import Derived.WalkKit
import Derived.ProofKit
import Derived.OpenShut
import Derived.ShutString
import Derived.ChangeOld
import Derived.Below
namespace Go.Proofs.Ytkjckljighploaa.varintTakes
open Go.ChangeShapes Go.WideShapes Go.ChangeAt Go.RowKit
open Go.ChangeMaps (open_string shut_string)
set_option linter.unusedVariables false

theorem own : ownKnob Try.prog.godebug = none := by kernel_rfl
theorem laidOut : laidOutB Try.prog = true := by kernel_rfl

theorem runpack_yes (a : Option Addr) (cap : Nat) (zs : List Int) (hlen : zs.length ≤ 2000) (hcap : zs.length ≤ cap) (hcm : cap ≤ 9223372036854775807) (hb : ∀ x ∈ zs, 0 ≤ x ∧ x ≤ 255) (w : World) (hr : Rd .u8 w.heap.size w a zs) (hu : used (scan 0 0 zs) = zs.length) {l : List Int} (hl : zags (scan 0 0 zs) = l) :
    Calls Try.prog 20 #[.slice a zs.length cap] w fun e w' => ∃ A c, e = .returned (.tuple #[.slice A l.length c, .int .i64 0]) ∧ Rd .i64 w'.heap.size w' A l ∧ Below w.heap.size w w' := by
  subst hl
  refine (runpack_any a cap zs hlen hcap hcm hb w hr).mono ?_
  rintro e w' ⟨h, hbel⟩
  rw [if_pos hu] at h
  obtain ⟨v, rfl, ho⟩ := h
  obtain ⟨A, c, rfl, _⟩ := own_form ho
  exact ⟨A, c, rfl, rd_of_row ho, hbel⟩
theorem runpack_no (a : Option Addr) (cap : Nat) (zs : List Int) (hlen : zs.length ≤ 2000) (hcap : zs.length ≤ cap) (hcm : cap ≤ 9223372036854775807) (hb : ∀ x ∈ zs, 0 ≤ x ∧ x ≤ 255) (w : World) (hr : Rd .u8 w.heap.size w a zs) (hu : used (scan 0 0 zs) ≠ zs.length) :
    Calls Try.prog 20 #[.slice a zs.length cap] w fun e w' => e = .returned (.tuple #[.slice none 0 0, .int .i64 2]) ∧ Below w.heap.size w w' := by
  refine (runpack_any a cap zs hlen hcap hcm hb w hr).mono ?_
  rintro e w' ⟨h, hbel⟩
  rw [if_neg hu] at h
  exact ⟨h, hbel⟩
theorem same_nil (w : World) : Calls Try.prog 21 #[.slice none 0 0, .slice none 0 0] w fun e w' => e = .returned (.bool true) ∧ Below w.heap.size w w' :=
  same_any none none 0 0 [] (by decide) w (fun hp => absurd hp (by simp)) (fun hp => absurd hp (by simp))

theorem walk_big (a : Option Addr) (cap len : Nat) (w : World) (h : 2000 < len) :
    Calls Try.prog 4 #[.slice a len cap] w fun e w' => e = .returned (.bool true) ∧ Below w.heap.size w w' := by
  go_enter Try.func4, Try.ntmps4
  go_wp2_with (go_at_call 10; refine (awake_any _).mono ?_; rintro e W1 ⟨rfl, hb⟩; have hb' := Lib.hid hb; clear hb)
  go_ret
  exact ⟨rfl, hb'.out⟩

set_option maxHeartbeats 4000000 in
theorem walk_no (a : Option Addr) (cap : Nat) (zs : List Int) (w : World) (hz2 : zs.length ≤ 2000) (hcap : zs.length ≤ cap) (hcm : cap ≤ 9223372036854775807) (hbz : ∀ x ∈ zs, 0 ≤ x ∧ x ≤ 255)
    (HB : Hid (Rd .u8 w.heap.size w a zs)) (r1 r2 r3 : Int) (hres : takeS zs = (r1, r2, r3)) (hu : used (scan 0 0 zs) ≠ zs.length) :
    Calls Try.prog 4 #[.slice a zs.length cap] w fun e w' => e = .returned (.bool true) ∧ Below w.heap.size w w' := by
  have HRES := Lib.hid hres
  clear hres
  go_enter Try.func4, Try.ntmps4
  go_wp2_with (first
    | (go_at_call 10; refine (awake_any _).mono ?_; rintro e W1 ⟨rfl, hb⟩; have H1 := Lib.hid hb; clear hb)
    | (go_at_call 17; (with_reducible refine (take_len cap zs rfl (by omega) hbz ((HB.out.below H1.out).mono H1.out.size) HRES.out).mono ?_); rintro e W2 ⟨rfl, hb2⟩; have H2 := Lib.hid (H1.out.trans (hb2.mono H1.out.size)); clear hb2)
    | (go_at_call 18; (with_reducible refine (rtake_len cap zs rfl (by omega) hcap hbz ((HB.out.below H2.out).mono H2.out.size) HRES.out).mono ?_); rintro e W3 ⟨rfl, hb3⟩; have H3 := Lib.hid (H2.out.trans (hb3.mono H2.out.size)); clear hb3)
    | (go_at_call 19; (with_reducible refine (unpack_no a cap zs (by omega) hbz _ ((HB.out.below H3.out).mono H3.out.size) hu).mono ?_); rintro e W4 ⟨rfl, hb4⟩; have H4 := Lib.hid (H3.out.trans (hb4.mono H3.out.size)); clear hb4)
    | (go_at_call 20; (with_reducible refine (runpack_no a cap zs hz2 hcap hcm hbz _ ((HB.out.below H4.out).mono H4.out.size) hu).mono ?_); rintro e W5 ⟨rfl, hb5⟩; have H5 := Lib.hid (H4.out.trans (hb5.mono H4.out.size)); clear hb5)
    | (go_at_call 21; refine (same_nil _).mono ?_; rintro e W6 ⟨rfl, hb6⟩; have H6 := Lib.hid (H5.out.trans (hb6.mono H5.out.size)); clear hb6))
  go_ret
  exact ⟨rfl, H6.out⟩

set_option maxHeartbeats 4000000 in
theorem walk_yes (a : Option Addr) (cap : Nat) (zs : List Int) (w : World) (hz2 : zs.length ≤ 2000) (hcap : zs.length ≤ cap) (hcm : cap ≤ 9223372036854775807) (hbz : ∀ x ∈ zs, 0 ≤ x ∧ x ≤ 255)
    (HB : Hid (Rd .u8 w.heap.size w a zs)) (r1 r2 r3 : Int) (hres : takeS zs = (r1, r2, r3)) (HU : Hid (used (scan 0 0 zs) = zs.length)) (os : List Int) (HL : Hid (zags (scan 0 0 zs) = os)) (hol : os.length ≤ 100000) :
    Calls Try.prog 4 #[.slice a zs.length cap] w fun e w' => e = .returned (.bool true) ∧ Below w.heap.size w w' := by
  have HRES := Lib.hid hres
  clear hres
  go_enter Try.func4, Try.ntmps4
  go_wp2_with (first
    | (go_at_call 10; refine (awake_any _).mono ?_; rintro e W1 ⟨rfl, hb⟩; have H1 := Lib.hid hb; clear hb)
    | (go_at_call 17; (with_reducible refine (take_len cap zs rfl (by omega) hbz ((HB.out.below H1.out).mono H1.out.size) HRES.out).mono ?_); rintro e W2 ⟨rfl, hb2⟩; have H2 := Lib.hid (H1.out.trans (hb2.mono H1.out.size)); clear hb2)
    | (go_at_call 18; (with_reducible refine (rtake_len cap zs rfl (by omega) hcap hbz ((HB.out.below H2.out).mono H2.out.size) HRES.out).mono ?_); rintro e W3 ⟨rfl, hb3⟩; have H3 := Lib.hid (H2.out.trans (hb3.mono H2.out.size)); clear hb3)
    | (go_at_call 19; (with_reducible refine (unpack_yes a cap zs (by omega) hbz _ ((HB.out.below H3.out).mono H3.out.size) HU.out HL.out).mono ?_); rintro e W4 ⟨A4, c4, rfl, hr4, hb4⟩; have H4 := Lib.hid (H3.out.trans (hb4.mono H3.out.size)); have R4 := Lib.hid hr4; clear hr4 hb4)
    | (go_at_call 20; (with_reducible refine (runpack_yes a cap zs hz2 hcap hcm hbz _ ((HB.out.below H4.out).mono H4.out.size) HU.out HL.out).mono ?_); rintro e W5 ⟨A5, c5, rfl, hr5, hb5⟩; have H5 := Lib.hid (H4.out.trans (hb5.mono H4.out.size)); have R4' := Lib.hid ((R4.out.below hb5).mono hb5.size); have R5 := Lib.hid hr5; clear hr5 hb5)
    | (go_at_call 21; refine (same_any A4 A5 c4 c5 os hol _ R4'.out R5.out).mono ?_; rintro e W6 ⟨rfl, hb6⟩; have H6 := Lib.hid (H5.out.trans (hb6.mono H5.out.size)); clear hb6))
  go_ret
  exact ⟨rfl, H6.out⟩


theorem walk (a0 : Option Addr) (len0 cap0 : Nat) (z0 : List Int) (w : World) (w0 : IsRow .u8 w a0 len0 cap0 z0) :
    Calls Try.prog 4 #[.slice a0 len0 cap0] w fun e w' => e = .returned (.bool true) ∧ Below w.heap.size w w' := by
  obtain ⟨zs, hl, hlc, hcm, hr, hwf⟩ := w0.read
  have hbz : ∀ x ∈ zs, 0 ≤ x ∧ x ≤ 255 := fun x hx => wf_u8 (hwf x hx)
  rcases Nat.lt_or_ge 2000 len0 with h | h
  · exact walk_big a0 cap0 len0 w h
  subst hl
  unfold maxLen at hcm
  by_cases hu : used (scan 0 0 zs) = zs.length
  · exact walk_yes a0 cap0 zs w h hlc (by omega) hbz hr _ _ _ rfl hu _ rfl (by have := scan_len zs.length zs (Nat.le_refl _) hbz; rw [zags_len]; omega)
  · exact walk_no a0 cap0 zs w h hlc (by omega) hbz hr _ _ _ rfl hu


set_option maxRecDepth 100000 in
theorem lifted (os : Os) (started : os.Started) (H : Type) (enc : TypeId × Value → H) :
    ReturnsInHanded {} Try.checked os 4 .any (Rows.varintTakesSpec.pre6 enc Try.prog Try.f4 Rows.varintTakesRow.domain false) (Rows.varintTakesSpec.post enc Try.prog Try.f4 false true false false) := by
  refine returnsInHanded_of_change (C := Try.checked) own started (by kernel_rfl) Try.func4
    (ChangeSpec.witness6 (enc := enc) (C := Try.checked) false ⟨#[], #[.slice none 0 0], []⟩ 8 (by kernel_rfl) (by kernel_rfl) (by kernel_rfl) (by kernel_rfl)) ?_
  intro W base args ds gs before hval0 hW hcnd _
  have hval : ∀ (j : Nat) t v, Try.f4.params[j]? = some t → args[j]? = some v → Value.okWide Try.prog W .any base t v := hval0
  have hW' := hW
  obtain ⟨p, q, hA0, hV, rfl, hfz, hnd⟩ := hW
  have hA : DataW.TrodAll enc Try.prog W 0 (fun _ => true) true Try.f4.params.toList args.toList ds p := hA0
  rw [Try.params4] at hA hval
  obtain ⟨v0, vs0, d0, ds0, p0, q0, hargs, rfl, rfl, h0, r0⟩ := trodAll_cons hA
  obtain ⟨rfl, rfl, rfl⟩ := trodAll_nil r0
  obtain rfl : args = #[v0] := by cases args; simp_all
  obtain ⟨rfl, rfl⟩ := trodVars_none hV
  obtain ⟨a0, len0, cap0, rfl⟩ := okWide_slice Try.underlying24 (hval 0 24 v0 rfl rfl)
  have k0 := h0
  have lt0 : ∀ x ∈ p0, x.block < W.heap.size := by obtain ⟨m, hm⟩ := k0; exact DataW.trod_lt m _ _ _ hm
  obtain ⟨z0, w0⟩ : ∃ zs, IsRow .u8 W a0 len0 cap0 zs := by
    obtain ⟨fuel, hf⟩ := h0
    rcases open_ints Try.underlying24 Try.underlying5 (by kernel_rfl) hf with ⟨hcs, _⟩ | ⟨x, l, c, zs, hcs, _, hl, hm, hz, _, hcell, hwz⟩
    · simp [Value.cells] at hcs
      obtain ⟨rfl, rfl, rfl⟩ := hcs
      exact ⟨[], .inl ⟨rfl, rfl, rfl, rfl⟩⟩
    · simp [Value.cells] at hcs
      obtain ⟨rfl, rfl, rfl⟩ := hcs
      exact ⟨zs, .inr ⟨_, rfl, hl, hm, by simpa using hz, hcell, hwz⟩⟩
  clear hA0 hval0
  refine (walk a0 len0 cap0 z0 W w0).mono fun e W' ⟨he, bel⟩ => ?_
  subst he
  exact ⟨_, rfl, _, _, _, [], _, [], hW', trodAll_mk1 (shut_bool Try.underlying4 _), (trodAll_cons_mk (Below.trod laidOut (by kernel_rfl) (of_decide_eq_true (by kernel_rfl)) k0 bel lt0) trodAll_mk0), rfl, bel.frame _, fun h => by cases h⟩

theorem over : Rows.varintTakesRow.holds Try.pinned (OpenSpec.ofChange Rows.varintTakesSpec) :=
  OpenClaim.holds_of_wide 4 Try.f4 rfl rfl rfl rfl rfl rfl rfl ⟨rfl, rfl, rfl, rfl, rfl⟩ rfl rfl rfl rfl rfl (by kernel_rfl) Try.func4 (by kernel_rfl)
    (of_decide_eq_true (by kernel_rfl)) (by unfold Func.isWrapper; first | (rw [if_pos (by decide +kernel)]; kernel_rfl) | (rw [if_neg (by decide +kernel)]; exact ⟨rfl, rfl⟩))
    (fun os started H enc _ => lifted os started H enc)

theorem proved : Rows.VarintTakesSaid := over
#print axioms proved
end Go.Proofs.Ytkjckljighploaa.varintTakes
