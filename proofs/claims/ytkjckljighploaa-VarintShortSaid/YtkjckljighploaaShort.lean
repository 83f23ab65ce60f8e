/-
  PROVED: for every two ints m and n the law VarintShort returns true: of two numbers the one whose Zig is no greater has no more bytes, and a number nearer to 0 on the same side has no greater Zig. Conditions: none; every m, every n, every memory and schedule.
-/
import Derived.Test.YtkjckljighploaaAwake
import Derived.Test.YtkjckljighploaaRows
import Derived.WalkKit
import Derived.ProofKit
import Derived.OpenShut
import Derived.ShutString
import Derived.ChangeOld
import Derived.Below
namespace Go.Proofs.Ytkjckljighploaa.varintShort
open Go.ChangeShapes Go.WideShapes Go.ChangeAt Go.RowKit
open Go.ChangeMaps (open_string shut_string)
set_option linter.unusedVariables false

theorem own : ownKnob Try.prog.godebug = none := by kernel_rfl
theorem laidOut : laidOutB Try.prog = true := by kernel_rfl

/-- A slice of integers as it came in. -/
def IsRow (k : IntKind) (w : World) (a : Option Addr) (len cap : Nat) (zs : List Int) : Prop :=
  (a = none ∧ len = 0 ∧ cap = 0 ∧ zs = []) ∨
  ∃ x, a = some x ∧ len ≤ cap ∧ cap ≤ maxLen ∧ zs.length = cap ∧ (∀ i, i < zs.length → w.cell? (x.add i) = some (.int k (zs.getD i 0))) ∧ ∀ n ∈ zs, (Lit.int k n).wf = true


set_option maxHeartbeats 4000000 in
/-- Where the first number has the greater Zig: the lengths are not asked. -/
theorem walk_gt (a0 a1 : Int) (u v : Nat) (w : World) (b0 : -9223372036854775808 ≤ a0 ∧ a0 ≤ 9223372036854775807) (b1 : -9223372036854775808 ≤ a1 ∧ a1 ≤ 9223372036854775807)
    (hu : zigI a0 = u) (hv : zigI a1 = v) (hc : (v : Int) < u)
    (hs : (a0 < 0 ∧ a0 < a1) ∨ (0 ≤ a0 ∧ a1 < a0)) :
    Calls Try.prog 7 #[.int .i64 a0, .int .i64 a1] w fun e w' => e = .returned (.bool true) ∧ Below w.heap.size w w' := by
  have aw := awake_any
  rcases hs with ⟨h1, h2⟩ | ⟨h1, h2⟩
  · go_enter Try.func7, Try.ntmps7
    go_wp2_with (first
      | (go_at_call 10; refine (aw _).mono ?_; rintro e w' ⟨rfl, hb⟩; have hb' := Lib.hid hb; clear hb)
      | (go_at_call 13; refine (zig_any _ (by omega) (by omega) _).mono ?_; rintro e w' ⟨rfl, rfl⟩))
    go_ret
    exact ⟨rfl, hb'.out⟩
  · go_enter Try.func7, Try.ntmps7
    go_wp2_with (first
      | (go_at_call 10; refine (aw _).mono ?_; rintro e w' ⟨rfl, hb⟩; have hb' := Lib.hid hb; clear hb)
      | (go_at_call 13; refine (zig_any _ (by omega) (by omega) _).mono ?_; rintro e w' ⟨rfl, rfl⟩))
    go_ret
    exact ⟨rfl, hb'.out⟩

set_option maxHeartbeats 8000000 in
/-- Where it has not: the lengths are those of the groups. -/
theorem walk_le (a0 a1 : Int) (u v : Nat) (w : World) (b0 : -9223372036854775808 ≤ a0 ∧ a0 ≤ 9223372036854775807) (b1 : -9223372036854775808 ≤ a1 ∧ a1 ≤ 9223372036854775807)
    (hu : zigI a0 = u) (hv : zigI a1 = v) (hu64 : u < 18446744073709551616) (hv64 : v < 18446744073709551616) (hc : (u : Int) ≤ v) (hl : (putL u).length ≤ (putL v).length)
    (hs : (a0 < 0 ∧ a0 < a1) ∨ (a0 < 0 ∧ a1 ≤ a0) ∨ (0 ≤ a0 ∧ a1 < a0) ∨ (0 ≤ a0 ∧ a0 ≤ a1)) :
    Calls Try.prog 7 #[.int .i64 a0, .int .i64 a1] w fun e w' => e = .returned (.bool true) ∧ Below w.heap.size w w' := by
  have aw := awake_any
  rcases hs with ⟨h1, h2⟩ | ⟨h1, h2⟩ | ⟨h1, h2⟩ | ⟨h1, h2⟩
  · go_enter Try.func7, Try.ntmps7
    go_wp2_with (first
      | (go_at_call 10; refine (aw _).mono ?_; rintro e w' ⟨rfl, hb⟩; have hb' := Lib.hid hb; clear hb)
      | (go_at_call 13; refine (zig_any _ (by omega) (by omega) _).mono ?_; rintro e w' ⟨rfl, rfl⟩)
      | (go_at_call 11; refine (put_any _ (by omega) _).mono ?_; rintro e w' ⟨g, cap, rfl, _, hb2⟩; have hb' := Lib.hid (hb'.out.trans (hb2.mono hb'.out.size)); clear hb2))
    go_ret
    exact ⟨rfl, hb'.out⟩
  · go_enter Try.func7, Try.ntmps7
    go_wp2_with (first
      | (go_at_call 10; refine (aw _).mono ?_; rintro e w' ⟨rfl, hb⟩; have hb' := Lib.hid hb; clear hb)
      | (go_at_call 13; refine (zig_any _ (by omega) (by omega) _).mono ?_; rintro e w' ⟨rfl, rfl⟩)
      | (go_at_call 11; refine (put_any _ (by omega) _).mono ?_; rintro e w' ⟨g, cap, rfl, _, hb2⟩; have hb' := Lib.hid (hb'.out.trans (hb2.mono hb'.out.size)); clear hb2))
    go_ret
    exact ⟨rfl, hb'.out⟩
  · go_enter Try.func7, Try.ntmps7
    go_wp2_with (first
      | (go_at_call 10; refine (aw _).mono ?_; rintro e w' ⟨rfl, hb⟩; have hb' := Lib.hid hb; clear hb)
      | (go_at_call 13; refine (zig_any _ (by omega) (by omega) _).mono ?_; rintro e w' ⟨rfl, rfl⟩)
      | (go_at_call 11; refine (put_any _ (by omega) _).mono ?_; rintro e w' ⟨g, cap, rfl, _, hb2⟩; have hb' := Lib.hid (hb'.out.trans (hb2.mono hb'.out.size)); clear hb2))
    go_ret
    exact ⟨rfl, hb'.out⟩
  · go_enter Try.func7, Try.ntmps7
    go_wp2_with (first
      | (go_at_call 10; refine (aw _).mono ?_; rintro e w' ⟨rfl, hb⟩; have hb' := Lib.hid hb; clear hb)
      | (go_at_call 13; refine (zig_any _ (by omega) (by omega) _).mono ?_; rintro e w' ⟨rfl, rfl⟩)
      | (go_at_call 11; refine (put_any _ (by omega) _).mono ?_; rintro e w' ⟨g, cap, rfl, _, hb2⟩; have hb' := Lib.hid (hb'.out.trans (hb2.mono hb'.out.size)); clear hb2))
    go_ret
    exact ⟨rfl, hb'.out⟩

theorem walk (a0 : Int) (a1 : Int) (w : World) (w0 : (Lit.int .i64 a0).wf = true) (w1 : (Lit.int .i64 a1).wf = true) :
    Calls Try.prog 7 #[.int .i64 a0, .int .i64 a1] w fun e w' => e = .returned (.bool true) ∧ Below w.heap.size w w' := by
  have b0 : -9223372036854775808 ≤ a0 ∧ a0 ≤ 9223372036854775807 := by simpa [Lit.wf, IntKind.min, IntKind.max, IntKind.signed, IntKind.bits] using w0
  have b1 : -9223372036854775808 ≤ a1 ∧ a1 ≤ 9223372036854775807 := by simpa [Lit.wf, IntKind.min, IntKind.max, IntKind.signed, IntKind.bits] using w1
  obtain ⟨u, hu, huz⟩ : ∃ u : Nat, u < 18446744073709551616 ∧ zigI a0 = u := by have := zig_range b0.1 b0.2; exact ⟨(zigI a0).toNat, by omega, by omega⟩
  obtain ⟨v, hv, hvz⟩ : ∃ v : Nat, v < 18446744073709551616 ∧ zigI a1 = v := by have := zig_range b1.1 b1.2; exact ⟨(zigI a1).toNat, by omega, by omega⟩
  have d0 : (0 ≤ a0 ∧ (u : Int) = 2 * a0) ∨ (a0 < 0 ∧ (u : Int) = -2 * a0 - 1) := by rw [← huz]; unfold zigI; split <;> omega
  have d1 : (0 ≤ a1 ∧ (v : Int) = 2 * a1) ∨ (a1 < 0 ∧ (v : Int) = -2 * a1 - 1) := by rw [← hvz]; unfold zigI; split <;> omega
  rcases Nat.lt_or_ge v u with hgt | hle
  · exact walk_gt a0 a1 u v w b0 b1 huz hvz (by omega) (by omega)
  · exact walk_le a0 a1 u v w b0 b1 huz hvz hu hv (by omega) (putL_mono u v hle) (by omega)

set_option maxRecDepth 100000 in
theorem lifted (os : Os) (started : os.Started) (H : Type) (enc : TypeId × Value → H) :
    ReturnsInHanded {} Try.checked os 7 .any (Rows.varintShortSpec.pre6 enc Try.prog Try.f7 Rows.varintShortRow.domain false) (Rows.varintShortSpec.post enc Try.prog Try.f7 false true false false) := by
  refine returnsInHanded_of_change (C := Try.checked) own started (by kernel_rfl) Try.func7
    (ChangeSpec.witness6 (enc := enc) (C := Try.checked) false ⟨#[], #[.int .i64 0, .int .i64 0], []⟩ 8 (by kernel_rfl) (by kernel_rfl) (by kernel_rfl) (by kernel_rfl)) ?_
  intro W base args ds gs before hval0 hW hcnd _
  have hval : ∀ (j : Nat) t v, Try.f7.params[j]? = some t → args[j]? = some v → Value.okWide Try.prog W .any base t v := hval0
  have hW' := hW
  obtain ⟨p, q, hA0, hV, rfl, hfz, hnd⟩ := hW
  have hA : DataW.TrodAll enc Try.prog W 0 (fun _ => true) true Try.f7.params.toList args.toList ds p := hA0
  rw [Try.params7] at hA hval
  obtain ⟨v0, vs0, d0, ds0, p0, q0, hargs, rfl, rfl, h0, r0⟩ := trodAll_cons hA
  obtain ⟨v1, vs1, d1, ds1, p1, q1, rfl, rfl, rfl, h1, r1⟩ := trodAll_cons r0
  obtain ⟨rfl, rfl, rfl⟩ := trodAll_nil r1
  obtain rfl : args = #[v0, v1] := by cases args; simp_all
  obtain ⟨rfl, rfl⟩ := trodVars_none hV
  obtain ⟨a0, rfl, rfl, rfl, w0⟩ := open_int Try.underlying3 (hval 0 3 v0 rfl rfl) h0
  obtain ⟨a1, rfl, rfl, rfl, w1⟩ := open_int Try.underlying3 (hval 1 3 v1 rfl rfl) h1
  clear hA0 hval0
  refine (walk a0 a1 W w0 w1).mono fun e W' ⟨he, bel⟩ => ?_
  subst he
  exact ⟨_, rfl, _, _, _, [], _, [], hW', trodAll_mk1 (shut_bool Try.underlying4 _), (trodAll_cons_mk (shut_int Try.underlying3 w0) (trodAll_cons_mk (shut_int Try.underlying3 w1) trodAll_mk0)), rfl, bel.frame _, fun h => by cases h⟩

theorem over : Rows.varintShortRow.holds Try.pinned (OpenSpec.ofChange Rows.varintShortSpec) :=
  OpenClaim.holds_of_wide 7 Try.f7 rfl rfl rfl rfl rfl rfl rfl ⟨rfl, rfl, rfl, rfl, rfl⟩ rfl rfl rfl rfl rfl (by kernel_rfl) Try.func7 (by kernel_rfl)
    (of_decide_eq_true (by kernel_rfl)) (by unfold Func.isWrapper; first | (rw [if_pos (by decide +kernel)]; kernel_rfl) | (rw [if_neg (by decide +kernel)]; exact ⟨rfl, rfl⟩))
    (fun os started H enc _ => lifted os started H enc)

theorem proved : Rows.VarintShortSaid := over
#print axioms proved
end Go.Proofs.Ytkjckljighploaa.varintShort
