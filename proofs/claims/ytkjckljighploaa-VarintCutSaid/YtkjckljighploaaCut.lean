/-
  PROVED: for every three ints m, n, at the law VarintCut returns true: of the bytes of m and n in a row Take tells m and the number of its bytes, and of m's bytes that are cut off it tells ErrForm. Conditions: none; every m, n, at, every memory and schedule.
-/
import Derived.Test.YtkjckljighploaaAids
import Derived.Test.YtkjckljighploaaRows
import Derived.WalkKit
import Derived.ProofKit
import Derived.OpenShut
import Derived.ShutString
import Derived.ChangeOld
import Derived.Below
namespace Go.Proofs.Ytkjckljighploaa.varintCut
open Go.ChangeShapes Go.WideShapes Go.ChangeAt Go.RowKit
open Go.ChangeMaps (open_string shut_string)
set_option linter.unusedVariables false

theorem own : ownKnob Try.prog.godebug = none := by kernel_rfl
theorem laidOut : laidOutB Try.prog = true := by kernel_rfl

/-- A slice of integers as it came in. -/
def IsRow (k : IntKind) (w : World) (a : Option Addr) (len cap : Nat) (zs : List Int) : Prop :=
  (a = none ∧ len = 0 ∧ cap = 0 ∧ zs = []) ∨
  ∃ x, a = some x ∧ len ≤ cap ∧ cap ≤ maxLen ∧ zs.length = cap ∧ (∀ i, i < zs.length → w.cell? (x.add i) = some (.int k (zs.getD i 0))) ∧ ∀ n ∈ zs, (Lit.int k n).wf = true

theorem walk (a0 : Int) (a1 : Int) (a2 : Int) (w : World) (w0 : (Lit.int .i64 a0).wf = true) (w1 : (Lit.int .i64 a1).wf = true) (w2 : (Lit.int .i64 a2).wf = true) :
    Calls Try.prog 9 #[.int .i64 a0, .int .i64 a1, .int .i64 a2] w fun e w' => e = .returned (.bool true) ∧ Below w.heap.size w w' := by
  have b0 : -9223372036854775808 ≤ a0 ∧ a0 ≤ 9223372036854775807 := by simpa [Lit.wf, IntKind.min, IntKind.max, IntKind.signed, IntKind.bits] using w0
  have b1 : -9223372036854775808 ≤ a1 ∧ a1 ≤ 9223372036854775807 := by simpa [Lit.wf, IntKind.min, IntKind.max, IntKind.signed, IntKind.bits] using w1
  obtain ⟨u, hu, huz⟩ : ∃ u : Nat, u < 18446744073709551616 ∧ zigI a0 = u := by have := zig_range b0.1 b0.2; exact ⟨(zigI a0).toNat, by omega, by omega⟩
  obtain ⟨v, hv, hvz⟩ : ∃ v : Nat, v < 18446744073709551616 ∧ zigI a1 = v := by have := zig_range b1.1 b1.2; exact ⟨(zigI a1).toNat, by omega, by omega⟩
  have hz := zig_any a0 b0.1 b0.2
  rw [huz] at hz
  have hB : packL [a0, a1] = putL u ++ putL v := by simp [packL, huz, hvz]
  have aw := awake_any
  have l1 := putL_len10 hu
  have l2 := putL_len10 hv
  have l3 := putL_pos u
  have l4 := putL_pos v
  have hpk : ∀ w1 : World, Calls Try.prog 22 #[.slice (some ⟨w1.heap.size, 0, none⟩) 2 2] (w1.alloc (.cells #[.int .i64 a0, .int .i64 a1] 3)) fun e w' => ∃ g c, e = .returned (.slice (some ⟨g, 0, none⟩) ((putL u).length + (putL v).length) c) ∧ (putL u).length + (putL v).length ≤ c ∧ Rd .u8 w'.heap.size w' (some ⟨g, 0, none⟩) (putL u ++ putL v) ∧ Below w1.heap.size w1 w' := by
    intro w1
    have h := pack_any (some ⟨w1.heap.size, 0, none⟩) 2 [a0, a1] (by simp) (by intro j; match j with | 0 => simpa using b0 | 1 => simpa using b1 | j + 2 => simp) (w1.alloc (.cells #[.int .i64 a0, .int .i64 a1] 3)) (fun _ => ⟨w1.heap.size, 0, rfl, by simp, fun j hj => by
      have e := cell_of_row (w1.alloc (.cells #[.int .i64 a0, .int .i64 a1] 3)) w1.heap.size (0 + j) _ 3 (0, 0) (heap_alloc_new w1 _)
      rw [e]
      match j, hj with
      | 0, _ => rfl
      | 1, _ => rfl⟩)
    rw [hB] at h
    refine h.mono ?_
    rintro e w' ⟨v', rfl, ho, hb⟩
    have hpos : 0 < (putL u ++ putL v).length := by simp; omega
    obtain ⟨g, c, rfl, _, _⟩ := ho.form hpos
    obtain ⟨A, c', hA, hc'⟩ := own_form ho
    injection hA with _ _ hcc
    subst hcc
    refine ⟨g, c, by simp, by simpa using hc', Rd.of_own ho, ((Below.refl w1.heap.size w1).alloc (Nat.le_refl _) _).trans (hb.mono (by simp))⟩
  have htk : takeS (putL u ++ putL v) = ((u : Int), ((putL u).length : Int), 0) := by
    unfold takeS
    rw [scan_put0 hu]
    simp only [Num.of_n hu, Num.of_k l1]
  have hbu : ∀ x ∈ putL u ++ putL v, 0 ≤ x ∧ x ≤ 255 := fun x hx => (List.mem_append.1 hx).elim (putL_range u x) (putL_range v x)
  have b2 : -9223372036854775808 ≤ a2 ∧ a2 ≤ 9223372036854775807 := by simpa [Lit.wf, IntKind.min, IntKind.max, IntKind.signed, IntKind.bits] using w2
  clear w0 w1 w2 b1 hvz hB
  by_cases hat : a2 < 0
  · clear htk hbu
    have hdec : decide (((putL u).length : Int) ≤ ((putL u).length : Int) + ((putL v).length : Int)) = true := decide_eq_true (by omega)
    go_enter Try.func9, Try.ntmps9
    go_wp2_with (first
      | (go_at_call 10; refine (aw _).mono ?_; rintro e W1 ⟨rfl, hb⟩; have hb' := Lib.hid hb; clear hb)
      | (go_at_call 22; refine (hpk _).mono ?_; rintro e W2 ⟨g, c, rfl, hgc, hrd, hb2⟩; have H2 := Lib.hid (hb'.out.trans (hb2.mono hb'.out.size)); clear hb2 hrd)
      | (go_at_call 13; refine (hz _).mono ?_; rintro e w' ⟨rfl, rfl⟩)
      | (go_at_call 11; refine (put_any _ (by omega) _).mono ?_; rintro e W3 ⟨g3, c3, rfl, ho, hb3⟩; have H3 := Lib.hid (H2.out.trans (hb3.mono H2.out.size)); clear ho hb3))
    go_ret
    exact ⟨rfl, H3.out⟩
  · obtain ⟨r, hr, hrl⟩ : ∃ r : Nat, a2 % ((putL u).length : Int) = r ∧ r < (putL u).length := by
      have h1 := Int.emod_nonneg a2 (b := ((putL u).length : Int)) (by omega)
      have h2 := Int.emod_lt_of_pos a2 (b := ((putL u).length : Int)) (by omega)
      exact ⟨(a2 % ((putL u).length : Int)).toNat, by omega, by omega⟩
    have hzag := zag_any u hu
    have hzz : zagI u = a0 := by rw [← huz, zag_zig]
    rw [hzz] at hzag
    clear hzz huz
    have T1 : True := trivial
    have T2 : True := trivial
    have hrt : ((putL u).take r).length = r := by rw [List.length_take]; omega
    have hbr : ∀ x ∈ (putL u).take r, 0 ≤ x ∧ x ≤ 255 := fun x hx => putL_range u x (List.mem_of_mem_take hx)
    have hno := take_none hrl
    go_enter Try.func9, Try.ntmps9
    go_wp2_with (first
      | (go_at_call 10; refine (aw _).mono ?_; rintro e W1 ⟨rfl, hb⟩; have hb' := Lib.hid hb; clear hb)
      | (go_at_call 17; have _t := T1; (with_reducible refine (take_len c (putL u ++ putL v) (List.length_append ..) (by omega) hbu (R3.out.mono hs3) htk).mono ?_); rintro e W4 ⟨rfl, hb4⟩; have H4 := Lib.hid (H3.out.trans (hb4.mono H3.out.size)); have S4 := Lib.hid (S3.out.below hb4); have hs4 := hb4.size; clear hb4 T1 R3)
      | (go_at_call 22; refine (hpk _).mono ?_; rintro e W2 ⟨g, c, rfl, hgc, hrd, hb2⟩; have H2 := Lib.hid (hb'.out.trans (hb2.mono hb'.out.size)); have R2 := Lib.hid hrd; clear hb2 hrd)
      | (go_at_call 13; refine (hz _).mono ?_; rintro e w' ⟨rfl, rfl⟩)
      | (go_at_call 11; refine (put_any _ (by omega) _).mono ?_; rintro e W3 ⟨g3, c3, rfl, ho, hb3⟩; have H3 := Lib.hid (H2.out.trans (hb3.mono H2.out.size)); have R3 := Lib.hid (R2.out.below hb3); have S3 := Lib.hid (Rd.of_own ho); have hs3 := hb3.size; have hle := own_le ho; clear ho hb3)
      | (go_at_call 17; have _t2 := T2; (with_reducible refine (take_len c3 ((putL u).take r) hrt (by omega) hbr ((S4.out.take r).mono hs4) hno).mono ?_); rintro e W5 ⟨rfl, hb5⟩; have H5 := Lib.hid (H4.out.trans (hb5.mono H4.out.size)); clear hb5 T2)
      | (go_at_call 15; refine (hzag _).mono ?_; rintro e w' ⟨rfl, rfl⟩))
    go_ret
    exact ⟨rfl, H5.out⟩

set_option maxRecDepth 100000 in
theorem lifted (os : Os) (started : os.Started) (H : Type) (enc : TypeId × Value → H) :
    ReturnsInHanded {} Try.checked os 9 .any (Rows.varintCutSpec.pre6 enc Try.prog Try.f9 Rows.varintCutRow.domain false) (Rows.varintCutSpec.post enc Try.prog Try.f9 false true false false) := by
  refine returnsInHanded_of_change (C := Try.checked) own started (by kernel_rfl) Try.func9
    (ChangeSpec.witness6 (enc := enc) (C := Try.checked) false ⟨#[], #[.int .i64 0, .int .i64 0, .int .i64 0], []⟩ 8 (by kernel_rfl) (by kernel_rfl) (by kernel_rfl) (by kernel_rfl)) ?_
  intro W base args ds gs before hval0 hW hcnd _
  have hval : ∀ (j : Nat) t v, Try.f9.params[j]? = some t → args[j]? = some v → Value.okWide Try.prog W .any base t v := hval0
  have hW' := hW
  obtain ⟨p, q, hA0, hV, rfl, hfz, hnd⟩ := hW
  have hA : DataW.TrodAll enc Try.prog W 0 (fun _ => true) true Try.f9.params.toList args.toList ds p := hA0
  rw [Try.params9] at hA hval
  obtain ⟨v0, vs0, d0, ds0, p0, q0, hargs, rfl, rfl, h0, r0⟩ := trodAll_cons hA
  obtain ⟨v1, vs1, d1, ds1, p1, q1, rfl, rfl, rfl, h1, r1⟩ := trodAll_cons r0
  obtain ⟨v2, vs2, d2, ds2, p2, q2, rfl, rfl, rfl, h2, r2⟩ := trodAll_cons r1
  obtain ⟨rfl, rfl, rfl⟩ := trodAll_nil r2
  obtain rfl : args = #[v0, v1, v2] := by cases args; simp_all
  obtain ⟨rfl, rfl⟩ := trodVars_none hV
  obtain ⟨a0, rfl, rfl, rfl, w0⟩ := open_int Try.underlying3 (hval 0 3 v0 rfl rfl) h0
  obtain ⟨a1, rfl, rfl, rfl, w1⟩ := open_int Try.underlying3 (hval 1 3 v1 rfl rfl) h1
  obtain ⟨a2, rfl, rfl, rfl, w2⟩ := open_int Try.underlying3 (hval 2 3 v2 rfl rfl) h2
  clear hA0 hval0
  refine (walk a0 a1 a2 W w0 w1 w2).mono fun e W' ⟨he, bel⟩ => ?_
  subst he
  exact ⟨_, rfl, _, _, _, [], _, [], hW', trodAll_mk1 (shut_bool Try.underlying4 _), (trodAll_cons_mk (shut_int Try.underlying3 w0) (trodAll_cons_mk (shut_int Try.underlying3 w1) (trodAll_cons_mk (shut_int Try.underlying3 w2) trodAll_mk0))), rfl, bel.frame _, fun h => by cases h⟩

theorem over : Rows.varintCutRow.holds Try.pinned (OpenSpec.ofChange Rows.varintCutSpec) :=
  OpenClaim.holds_of_wide 9 Try.f9 rfl rfl rfl rfl rfl rfl rfl ⟨rfl, rfl, rfl, rfl, rfl⟩ rfl rfl rfl rfl rfl (by kernel_rfl) Try.func9 (by kernel_rfl)
    (of_decide_eq_true (by kernel_rfl)) (by unfold Func.isWrapper; first | (rw [if_pos (by decide +kernel)]; kernel_rfl) | (rw [if_neg (by decide +kernel)]; exact ⟨rfl, rfl⟩))
    (fun os started H enc _ => lifted os started H enc)

theorem proved : Rows.VarintCutSaid := over
#print axioms proved
end Go.Proofs.Ytkjckljighploaa.varintCut
