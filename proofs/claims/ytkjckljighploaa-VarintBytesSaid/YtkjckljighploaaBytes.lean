/-
  PROVED: for every uint64 u the law VarintBytes returns true: Put(u) has one byte for each group of seven bits, and all of its bytes but the last one are 128 or above. Conditions: none; every u, every memory and schedule.
-/
import Derived.Test.YtkjckljighploaaAwake
import Derived.Test.YtkjckljighploaaRows
import Derived.WalkKit
import Derived.ProofKit
import Derived.OpenShut
import Derived.ShutString
import Derived.ChangeOld
import Derived.Below
namespace Go.Proofs.Ytkjckljighploaa.varintBytes
open Go.ChangeShapes Go.WideShapes Go.ChangeAt Go.RowKit
open Go.ChangeMaps (open_string shut_string)
set_option linter.unusedVariables false

theorem own : ownKnob Try.prog.godebug = none := by kernel_rfl
theorem laidOut : laidOutB Try.prog = true := by kernel_rfl

/-- A slice of integers as it came in. -/
def IsRow (k : IntKind) (w : World) (a : Option Addr) (len cap : Nat) (zs : List Int) : Prop :=
  (a = none ∧ len = 0 ∧ cap = 0 ∧ zs = []) ∨
  ∃ x, a = some x ∧ len ≤ cap ∧ cap ≤ maxLen ∧ zs.length = cap ∧ (∀ i, i < zs.length → w.cell? (x.add i) = some (.int k (zs.getD i 0))) ∧ ∀ n ∈ zs, (Lit.int k n).wf = true

/-- Of a number's bytes all but the last one are 128 or above. -/
theorem putL_hi (n : Nat) : ∀ j : Nat, j < (putL n).length → (128 ≤ (putL n)[j]?.getD 0 ↔ j + 1 < (putL n).length) := by
  induction n using Nat.strongRecOn with
  | ind n ih =>
    intro j hj
    by_cases hn : n < 128
    · rw [putL_lt hn] at hj ⊢
      simp at hj ⊢
      subst hj
      simp
      omega
    · have hp := putL_pos (n / 128)
      rw [putL_ge (by omega)] at hj ⊢
      match j, hj with
      | 0, _ => simp; omega
      | j + 1, hj =>
        have h := ih (n / 128) (by omega) j (by simpa using hj)
        simp only [List.getElem?_cons_succ, List.length_cons]
        omega

/-- How many bytes are still to be counted. -/
def rest (m : Nat) : Nat := if m = 0 then 0 else (putL m).length
theorem rest_start (u : Nat) : 1 + rest (u / 128) = (putL u).length := by
  unfold rest
  by_cases h : u < 128
  · rw [if_pos (by omega), putL_lt h]; rfl
  · rw [if_neg (by omega), putL_ge (n := u) (by omega)]; simp; omega
theorem rest_next {m : Nat} (h : m ≠ 0) : 1 + rest (m / 128) = rest m := by
  rw [rest_start, rest, if_neg h]

theorem walk (a0 : Int) (w : World) (w0 : (Lit.int .u64 a0).wf = true) :
    Calls Try.prog 8 #[.int .u64 a0] w fun e w' => e = .returned (.bool true) ∧ Below w.heap.size w w' := by
  have b0 : 0 ≤ a0 ∧ a0 ≤ 18446744073709551615 := by simpa [Lit.wf, IntKind.min, IntKind.max, IntKind.signed, IntKind.bits] using w0
  obtain ⟨u, rfl⟩ : ∃ u : Nat, a0 = u := ⟨a0.toNat, by omega⟩
  have hu : u < 18446744073709551616 := by omega
  have aw := awake_any
  have hl10 := putL_len10 hu
  have hl0 := putL_pos u
  have hst := Lib.hid (rest_start u)
  clear w0 b0
  go_enter Try.func8, Try.ntmps8
  go_wp2_with (first
      | (go_at_call 10; refine (aw _).mono ?_; rintro e w' ⟨rfl, hb⟩; have hb' := Lib.hid hb; clear hb)
      | (go_at_call 11; refine (put_any _ (by omega) _).mono ?_; rintro e W1 ⟨g, cap, rfl, ho, hb2⟩; have hb3 := Lib.hid (hb'.out.trans (hb2.mono hb'.out.size)); have hrd := Lib.hid (Rd.of_own ho); clear hb2 hb' ho))
  obtain ⟨b, off, hbo, _, hc⟩ := hrd.out hl0
  obtain ⟨rfl, rfl⟩ : b = g ∧ off = 0 := by simpa [eq_comm] using hbo
  have hhi := putL_hi u
  have hrg : ∀ j : Nat, j < (putL u).length → 0 ≤ (putL u)[j]?.getD 0 ∧ (putL u)[j]?.getD 0 ≤ 255 := fun j hj => by
    rw [List.getElem?_eq_getElem hj]
    exact putL_range u _ (List.getElem_mem hj)
  clear hbo hrd
  obtain ⟨L, hL⟩ : ∃ L, putL u = L := ⟨_, rfl⟩
  rw [hL] at hst hc hhi hrg hl0 hl10
  rw [hL]
  have HC := Lib.hid hc
  have HH := Lib.hid hhi
  have HR := Lib.hid hrg
  clear hc hhi hrg hL
  go_loop [5, 6] (fun s n => ∃ c m : Nat, c + rest m = L.length ∧ m < 18446744073709551616 ∧ s = .int .i64 c ∧ n = .int .u64 m) (fun _ n => (intOf n).toNat)
  case atStart => exact ⟨1, u / 128, hst.out, by omega, rfl, by simp⟩
  case round =>
    obtain ⟨c, m, hcm, hm, rfl, rfl⟩ := hrel
    by_cases hm0 : m = 0
    · subst hm0
      have hcl : c = L.length := by simpa [rest] using hcm
      subst hcl
      clear hcm hst
      go_wp2_with fail
      go_loop [7] (fun i => ∃ k : Nat, k ≤ L.length ∧ i = .int .i64 k) (fun i => L.length - (intOf i).toNat)
      case atStart => exact ⟨0, Nat.zero_le _, rfl⟩
      case round =>
        obtain ⟨k, hk, rfl⟩ := hrel
        by_cases hlt : k < L.length
        · have hcell := HC.out k hlt
          rw [Nat.zero_add] at hcell
          have hx := HR.out k hlt
          have hiff := HH.out k hlt
          obtain ⟨x, hxe⟩ : ∃ x, L[k]?.getD 0 = x := ⟨_, rfl⟩
          rw [hxe] at hcell hx hiff
          clear hxe
          by_cases h128 : 128 ≤ x
          · have hlast : k + 1 < L.length := hiff.1 h128
            have hdec : decide ((k : Int) < (L.length : Int) - 1) = true := decide_eq_true (by omega)
            clear hiff
            go_wp2
            go_round
            case rel => exact ⟨k + 1, by omega, by go_num⟩
            case measure => simp [intOf]; omega
          · have hlast : ¬ k + 1 < L.length := fun h => h128 (hiff.2 h)
            have hdec : decide ((k : Int) < (L.length : Int) - 1) = false := decide_eq_false (by omega)
            clear hiff
            go_wp2
            go_round
            case rel => exact ⟨k + 1, by omega, by go_num⟩
            case measure => simp [intOf]; omega
        · go_wp2
          go_ret
          exact ⟨rfl, hb3.out⟩
    · have hr := rest_next hm0
      clear hst
      go_wp2
      go_round
      case rel => exact ⟨c + 1, m / 128, by omega, by omega, by go_num, by simp⟩
      case measure => simp [intOf]; omega

set_option maxRecDepth 100000 in
theorem lifted (os : Os) (started : os.Started) (H : Type) (enc : TypeId × Value → H) :
    ReturnsInHanded {} Try.checked os 8 .any (Rows.varintBytesSpec.pre6 enc Try.prog Try.f8 Rows.varintBytesRow.domain false) (Rows.varintBytesSpec.post enc Try.prog Try.f8 false true false false) := by
  refine returnsInHanded_of_change (C := Try.checked) own started (by kernel_rfl) Try.func8
    (ChangeSpec.witness6 (enc := enc) (C := Try.checked) false ⟨#[], #[.int .u64 0], []⟩ 8 (by kernel_rfl) (by kernel_rfl) (by kernel_rfl) (by kernel_rfl)) ?_
  intro W base args ds gs before hval0 hW hcnd _
  have hval : ∀ (j : Nat) t v, Try.f8.params[j]? = some t → args[j]? = some v → Value.okWide Try.prog W .any base t v := hval0
  have hW' := hW
  obtain ⟨p, q, hA0, hV, rfl, hfz, hnd⟩ := hW
  have hA : DataW.TrodAll enc Try.prog W 0 (fun _ => true) true Try.f8.params.toList args.toList ds p := hA0
  rw [Try.params8] at hA hval
  obtain ⟨v0, vs0, d0, ds0, p0, q0, hargs, rfl, rfl, h0, r0⟩ := trodAll_cons hA
  obtain ⟨rfl, rfl, rfl⟩ := trodAll_nil r0
  obtain rfl : args = #[v0] := by cases args; simp_all
  obtain ⟨rfl, rfl⟩ := trodVars_none hV
  obtain ⟨a0, rfl, rfl, rfl, w0⟩ := open_int Try.underlying22 (hval 0 22 v0 rfl rfl) h0
  clear hA0 hval0
  refine (walk a0 W w0).mono fun e W' ⟨he, bel⟩ => ?_
  subst he
  exact ⟨_, rfl, _, _, _, [], _, [], hW', trodAll_mk1 (shut_bool Try.underlying4 _), (trodAll_cons_mk (shut_int Try.underlying22 w0) trodAll_mk0), rfl, bel.frame _, fun h => by cases h⟩

theorem over : Rows.varintBytesRow.holds Try.pinned (OpenSpec.ofChange Rows.varintBytesSpec) :=
  OpenClaim.holds_of_wide 8 Try.f8 rfl rfl rfl rfl rfl rfl rfl ⟨rfl, rfl, rfl, rfl, rfl⟩ rfl rfl rfl rfl rfl (by kernel_rfl) Try.func8 (by kernel_rfl)
    (of_decide_eq_true (by kernel_rfl)) (by unfold Func.isWrapper; first | (rw [if_pos (by decide +kernel)]; kernel_rfl) | (rw [if_neg (by decide +kernel)]; exact ⟨rfl, rfl⟩))
    (fun os started H enc _ => lifted os started H enc)

theorem proved : Rows.VarintBytesSaid := over
#print axioms proved
end Go.Proofs.Ytkjckljighploaa.varintBytes
