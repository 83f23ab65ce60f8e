/-
  PROVED: for every list l of items the law ValueEncodes returns true: the program's Encode and Right return what the document's return: the same bytes and error, and the same bool. Conditions: none; every l (nil, empty, any capacity), every memory, schedule and order of evaluation.
-/
import Derived.Test.YteelknmafnoccaaFrame
import Derived.WalkKit
import Derived.ProofKit
import Derived.OpenShut
import Derived.ShutString
import Derived.ChangeOld
import Derived.Below
namespace Go.Proofs.Yteelknmafnoccaa.valueEncodes
open Go.ChangeShapes Go.WideShapes Go.ChangeAt Go.RowKit
set_option linter.unusedVariables false

theorem own : ownKnob Try.prog.godebug = none := by kernel_rfl
theorem laidOut : laidOutB Try.prog = true := by kernel_rfl

theorem walk_many (a : Option Addr) (cap : Nat) (l : List It) (w : World) (hc : Came w a cap l) (hf : fewB l = false) : Calls Try.prog 3 #[.slice a l.length cap] w fun e w' => e = .returned (.bool true) ∧ Below w.heap.size w w' := by
  have HF : Hid (∀ W, Below w.heap.size w W → Calls Try.prog 11 #[.slice a l.length cap] W fun e w' => e = .returned (.bool false) ∧ W = w') := Lib.hid fun W hW => by
    have h := few_any a cap l (by have := hc.le; have := hc.cap; omega) hc.bs W ((hc.rd.below hW).mono hW.size)
    rwa [hf] at h
  clear hf hc
  go_enter Try.func3, Try.ntmps3
  go_wp2_with (first
    | (go_at_call 10; refine (awakev_any _).mono ?_; rintro e W1 ⟨rfl, hb⟩; have H1 := Lib.hid hb; clear hb)
    | (go_at_call 11; (with_reducible refine (HF.out _ H1.out).mono ?_); rintro e W1' ⟨rfl, rfl⟩))
  go_ret
  exact ⟨rfl, H1.out⟩

set_option maxHeartbeats 1600000 in
set_option maxRecDepth 100000 in
theorem walk_arg (a : Option Addr) (cap : Nat) (l : List It) (w : World) (hc : Came w a cap l) (hf : fewB l = true) (hr : rightB l = false) : Calls Try.prog 3 #[.slice a l.length cap] w fun e w' => e = .returned (.bool true) ∧ Below w.heap.size w w' := by
  obtain ⟨hl, hbs⟩ := few_small hf
  have HF : Hid (∀ W, Below w.heap.size w W → Calls Try.prog 11 #[.slice a l.length cap] W fun e w' => e = .returned (.bool true) ∧ W = w') := Lib.hid fun W hW => by
    have h := few_any a cap l (by omega) hc.bs W ((hc.rd.below hW).mono hW.size)
    rwa [hf] at h
  have HR : Hid (∀ W, Below w.heap.size w W → Calls Try.prog 14 #[.slice a l.length cap] W fun e w' => e = .returned (.bool false) ∧ Below W.heap.size W w') := Lib.hid fun W hW => by
    have h := pright_any a cap l (by omega) W ((hc.rd.below hW).mono hW.size)
    rwa [hr] at h
  have HS : Hid (∀ W, Below w.heap.size w W → Calls Try.prog 15 #[.slice a l.length cap] W fun e w' => e = .returned (.bool false) ∧ Below W.heap.size W w') := Lib.hid fun W hW => by
    have h := right_any a cap l (by omega) W ((hc.rd.below hW).mono hW.size)
    rwa [hr] at h
  have HE12 : Hid (∀ W, Below w.heap.size w W → Calls Try.prog 12 #[.slice a l.length cap] W (fun e w' => e = .returned (.tuple #[.slice none 0 0, .int .i64 1]) ∧ Below W.heap.size W w')) := Lib.hid fun W hW =>
    (pencode_any a cap l (by omega) (fun x hx => by have := hbs x hx; omega) hc.ok W ((hc.rd.below hW).mono hW.size)).mono fun e w' h => h.arg hr
  have HE13 : Hid (∀ W, Below w.heap.size w W → Calls Try.prog 13 #[.slice a l.length cap] W (fun e w' => e = .returned (.tuple #[.slice none 0 0, .int .i64 1]) ∧ Below W.heap.size W w')) := Lib.hid fun W hW =>
    (rencode_any a cap l hl hbs hc.ok W ((hc.rd.below hW).mono hW.size)).mono fun e w' h => h.arg hr
  have cv := conv_nil
  clear hf hc hr hl hbs
  go_enter Try.func3, Try.ntmps3
  go_wp2_with (first
    | (go_at_call 10; refine (awakev_any _).mono ?_; rintro e W1 ⟨rfl, hb⟩; have H1 := Lib.hid hb; clear hb)
    | (go_at_call 11; (with_reducible refine (HF.out _ H1.out).mono ?_); rintro e W1' ⟨rfl, rfl⟩)
    | (go_at_call 12; (with_reducible refine (HE12.out _ H1.out).mono ?_); rintro e W2 ⟨rfl, hb⟩; have H2 := Lib.hid (H1.out.trans (hb.mono H1.out.size)); clear hb)
    | (go_at_call 13; (with_reducible refine (HE13.out _ H2.out).mono ?_); rintro e W3 ⟨rfl, hb⟩; have H3 := Lib.hid (H2.out.trans (hb.mono H2.out.size)); clear hb)
    | (go_at_call 14; (with_reducible refine (HR.out _ H3.out).mono ?_); rintro e W4 ⟨rfl, hb4⟩; have H4 := Lib.hid (H3.out.trans (hb4.mono H3.out.size)); clear hb4)
    | (go_at_call 15; (with_reducible refine (HS.out _ H4.out).mono ?_); rintro e W5 ⟨rfl, hb5⟩; have H5 := Lib.hid (H4.out.trans (hb5.mono H4.out.size)); clear hb5))
  go_ret
  exact ⟨rfl, H5.out⟩

set_option maxHeartbeats 1600000 in
set_option maxRecDepth 100000 in
theorem walk_full (a : Option Addr) (cap : Nat) (l : List It) (w : World) (hc : Came w a cap l) (hf : fewB l = true) (hr : rightB l = true) (hx : 4096 < (encL l).length) : Calls Try.prog 3 #[.slice a l.length cap] w fun e w' => e = .returned (.bool true) ∧ Below w.heap.size w w' := by
  obtain ⟨hl, hbs⟩ := few_small hf
  have HF : Hid (∀ W, Below w.heap.size w W → Calls Try.prog 11 #[.slice a l.length cap] W fun e w' => e = .returned (.bool true) ∧ W = w') := Lib.hid fun W hW => by
    have h := few_any a cap l (by omega) hc.bs W ((hc.rd.below hW).mono hW.size)
    rwa [hf] at h
  have HR : Hid (∀ W, Below w.heap.size w W → Calls Try.prog 14 #[.slice a l.length cap] W fun e w' => e = .returned (.bool true) ∧ Below W.heap.size W w') := Lib.hid fun W hW => by
    have h := pright_any a cap l (by omega) W ((hc.rd.below hW).mono hW.size)
    rwa [hr] at h
  have HS : Hid (∀ W, Below w.heap.size w W → Calls Try.prog 15 #[.slice a l.length cap] W fun e w' => e = .returned (.bool true) ∧ Below W.heap.size W w') := Lib.hid fun W hW => by
    have h := right_any a cap l (by omega) W ((hc.rd.below hW).mono hW.size)
    rwa [hr] at h
  have HE12 : Hid (∀ W, Below w.heap.size w W → Calls Try.prog 12 #[.slice a l.length cap] W (fun e w' => e = .returned (.tuple #[.slice none 0 0, .int .i64 3]) ∧ Below W.heap.size W w')) := Lib.hid fun W hW =>
    (pencode_any a cap l (by omega) (fun x hx => by have := hbs x hx; omega) hc.ok W ((hc.rd.below hW).mono hW.size)).mono fun e w' h => h.full hr hx
  have HE13 : Hid (∀ W, Below w.heap.size w W → Calls Try.prog 13 #[.slice a l.length cap] W (fun e w' => e = .returned (.tuple #[.slice none 0 0, .int .i64 3]) ∧ Below W.heap.size W w')) := Lib.hid fun W hW =>
    (rencode_any a cap l hl hbs hc.ok W ((hc.rd.below hW).mono hW.size)).mono fun e w' h => h.full hr hx
  have cv := conv_nil
  clear hf hc hr hl hbs hx
  go_enter Try.func3, Try.ntmps3
  go_wp2_with (first
    | (go_at_call 10; refine (awakev_any _).mono ?_; rintro e W1 ⟨rfl, hb⟩; have H1 := Lib.hid hb; clear hb)
    | (go_at_call 11; (with_reducible refine (HF.out _ H1.out).mono ?_); rintro e W1' ⟨rfl, rfl⟩)
    | (go_at_call 12; (with_reducible refine (HE12.out _ H1.out).mono ?_); rintro e W2 ⟨rfl, hb⟩; have H2 := Lib.hid (H1.out.trans (hb.mono H1.out.size)); clear hb)
    | (go_at_call 13; (with_reducible refine (HE13.out _ H2.out).mono ?_); rintro e W3 ⟨rfl, hb⟩; have H3 := Lib.hid (H2.out.trans (hb.mono H2.out.size)); clear hb)
    | (go_at_call 14; (with_reducible refine (HR.out _ H3.out).mono ?_); rintro e W4 ⟨rfl, hb4⟩; have H4 := Lib.hid (H3.out.trans (hb4.mono H3.out.size)); clear hb4)
    | (go_at_call 15; (with_reducible refine (HS.out _ H4.out).mono ?_); rintro e W5 ⟨rfl, hb5⟩; have H5 := Lib.hid (H4.out.trans (hb5.mono H4.out.size)); clear hb5))
  go_ret
  exact ⟨rfl, H5.out⟩

set_option maxHeartbeats 1600000 in
set_option maxRecDepth 100000 in
theorem walk_ok (a : Option Addr) (cap : Nat) (l : List It) (w : World) (hc : Came w a cap l) (hf : fewB l = true) (hr : rightB l = true) (hx : ¬ 4096 < (encL l).length) (zs : List Int) (hz : encL l = zs) : Calls Try.prog 3 #[.slice a l.length cap] w fun e w' => e = .returned (.bool true) ∧ Below w.heap.size w w' := by
  obtain ⟨hl, hbs⟩ := few_small hf
  have HF : Hid (∀ W, Below w.heap.size w W → Calls Try.prog 11 #[.slice a l.length cap] W fun e w' => e = .returned (.bool true) ∧ W = w') := Lib.hid fun W hW => by
    have h := few_any a cap l (by omega) hc.bs W ((hc.rd.below hW).mono hW.size)
    rwa [hf] at h
  have HR : Hid (∀ W, Below w.heap.size w W → Calls Try.prog 14 #[.slice a l.length cap] W fun e w' => e = .returned (.bool true) ∧ Below W.heap.size W w') := Lib.hid fun W hW => by
    have h := pright_any a cap l (by omega) W ((hc.rd.below hW).mono hW.size)
    rwa [hr] at h
  have HS : Hid (∀ W, Below w.heap.size w W → Calls Try.prog 15 #[.slice a l.length cap] W fun e w' => e = .returned (.bool true) ∧ Below W.heap.size W w') := Lib.hid fun W hW => by
    have h := right_any a cap l (by omega) W ((hc.rd.below hW).mono hW.size)
    rwa [hr] at h
  have HE12 : Hid (∀ W, Below w.heap.size w W → Calls Try.prog 12 #[.slice a l.length cap] W (GotB zs W)) := Lib.hid fun W hW =>
    (pencode_any a cap l (by omega) (fun x hx => by have := hbs x hx; omega) hc.ok W ((hc.rd.below hW).mono hW.size)).mono fun e w' h => h.ok hr hx hz
  have HE13 : Hid (∀ W, Below w.heap.size w W → Calls Try.prog 13 #[.slice a l.length cap] W (GotB zs W)) := Lib.hid fun W hW =>
    (rencode_any a cap l hl hbs hc.ok W ((hc.rd.below hW).mono hW.size)).mono fun e w' h => h.ok hr hx hz
  clear hf hc hr hl hbs hx hz
  go_enter Try.func3, Try.ntmps3
  go_wp2_with (first
    | (go_at_call 10; refine (awakev_any _).mono ?_; rintro e W1 ⟨rfl, hb⟩; have H1 := Lib.hid hb; clear hb)
    | (go_at_call 11; (with_reducible refine (HF.out _ H1.out).mono ?_); rintro e W1' ⟨rfl, rfl⟩)
    | (go_at_call 12; (with_reducible refine (HE12.out _ H1.out).mono ?_); rintro e W2 ⟨A2, c2, rfl, _, _, hrd2, hb⟩; have R2 := Lib.hid hrd2; have H2 := Lib.hid (H1.out.trans (hb.mono H1.out.size)); clear hb hrd2)
    | (go_at_call 13; (with_reducible refine (HE13.out _ H2.out).mono ?_); rintro e W3 ⟨A3, c3, rfl, _, _, hrd3, hb⟩; have cv2 := conv_rd (R2.out.below hb) c2; have cv3 := conv_rd hrd3 c3; have H3 := Lib.hid (H2.out.trans (hb.mono H2.out.size)); clear hb hrd3)
    | (go_at_call 14; (with_reducible refine (HR.out _ H3.out).mono ?_); rintro e W4 ⟨rfl, hb4⟩; have H4 := Lib.hid (H3.out.trans (hb4.mono H3.out.size)); clear hb4)
    | (go_at_call 15; (with_reducible refine (HS.out _ H4.out).mono ?_); rintro e W5 ⟨rfl, hb5⟩; have H5 := Lib.hid (H4.out.trans (hb5.mono H4.out.size)); clear hb5))
  go_ret
  exact ⟨rfl, H5.out⟩

theorem walk (a : Option Addr) (cap : Nat) (l : List It) (w : World) (hc : Came w a cap l) : Calls Try.prog 3 #[.slice a l.length cap] w fun e w' => e = .returned (.bool true) ∧ Below w.heap.size w w' := by
  rcases Bool.eq_false_or_eq_true (fewB l) with hf | hf
  · rcases Bool.eq_false_or_eq_true (rightB l) with hr | hr
    · by_cases hx : 4096 < (encL l).length
      · exact walk_full a cap l w hc hf hr hx
      · exact walk_ok a cap l w hc hf hr hx _ rfl
    · exact walk_arg a cap l w hc hf hr
  · exact walk_many a cap l w hc hf


set_option maxRecDepth 100000 in
theorem lifted (os : Os) (started : os.Started) (H : Type) (enc : TypeId × Value → H) :
    ReturnsInHanded {} Try.checked os 3 .any (Rows.valueEncodesSpec.pre6 enc Try.prog Try.f3 Rows.valueEncodesRow.domain false) (Rows.valueEncodesSpec.post enc Try.prog Try.f3 false true false false) := by
  refine returnsInHanded_of_change_sized (C := Try.checked) own started (by kernel_rfl) Try.func3
    (ChangeSpec.witness6 (enc := enc) (C := Try.checked) false ⟨#[], #[.slice none 0 0], []⟩ 8 (by kernel_rfl) (by kernel_rfl) (by kernel_rfl) (by kernel_rfl)) ?_
  intro W base args ds gs before hval0 hW hcnd hsz0 _
  have hval : ∀ (j : Nat) t v, Try.f3.params[j]? = some t → args[j]? = some v → Value.okWide Try.prog W .any base t v := hval0
  have hW' := hW
  obtain ⟨p, q, hA0, hV, rfl, hfz, hnd⟩ := hW
  have hA : DataW.TrodAll enc Try.prog W 0 (fun _ => true) true Try.f3.params.toList args.toList ds p := hA0
  have hsz : (DataW.weightsEach Try.prog (Try.f3.params.toList ++ Rows.valueEncodesSpec.plain.varTypes Try.prog) (ds ++ gs)).all (· ≤ reachBytes) = true := hsz0
  rw [Try.params3] at hA hval hsz
  obtain ⟨v0, vs0, d0, ds0, p0, q0, hargs, rfl, rfl, h0, r0⟩ := trodAll_cons hA
  obtain ⟨rfl, rfl, rfl⟩ := trodAll_nil r0
  obtain rfl : args = #[v0] := by cases args; simp_all
  obtain ⟨rfl, rfl⟩ := trodVars_none hV
  obtain ⟨a0, len0, cap0, rfl⟩ := okWide_slice Try.underlying22 (hval 0 22 v0 rfl rfl)
  have k0 := h0
  have lt0 : ∀ x ∈ p0, x.block < W.heap.size := by obtain ⟨m, hm⟩ := k0; exact DataW.trod_lt m _ _ _ hm
  obtain ⟨l0, rfl, w0⟩ := came_of h0 (fun n hn => by simpa using List.all_eq_true.1 hsz n (DataW.weights_mem_each (j := 0) rfl rfl n hn))
  clear hA0 hval0
  refine (walk a0 cap0 l0 W w0).mono fun e W' ⟨he, bel⟩ => ?_
  subst he
  exact ⟨_, rfl, _, _, _, [], _, [], hW', trodAll_mk1 (shut_bool Try.underlying4 _), (trodAll_cons_mk (Below.trod laidOut (by kernel_rfl) (of_decide_eq_true (by kernel_rfl)) k0 bel lt0) trodAll_mk0), rfl, bel.frame _, fun h => by cases h⟩

theorem over : Rows.valueEncodesRow.holds Try.pinned (OpenSpec.ofChange Rows.valueEncodesSpec) :=
  OpenClaim.holds_of_wide 3 Try.f3 rfl rfl rfl rfl rfl rfl rfl ⟨rfl, rfl, rfl, rfl, rfl⟩ rfl rfl rfl rfl rfl (by kernel_rfl) Try.func3 (by kernel_rfl)
    (of_decide_eq_true (by kernel_rfl)) (by unfold Func.isWrapper; first | (rw [if_pos (by decide +kernel)]; kernel_rfl) | (rw [if_neg (by decide +kernel)]; exact ⟨rfl, rfl⟩))
    (fun os started H enc _ => lifted os started H enc)

theorem proved : Rows.ValueEncodesSaid := over
#print axioms proved
end Go.Proofs.Yteelknmafnoccaa.valueEncodes
