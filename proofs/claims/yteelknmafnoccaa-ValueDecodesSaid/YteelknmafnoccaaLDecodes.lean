/-
  PROVED: for every slice b of bytes the law ValueDecodes returns true: the program's Decode returns what the document's returns: the same items and the same error. Conditions: none; every b (nil, empty, any capacity), every memory, schedule and order of evaluation.
-/
import Derived.Test.YteelknmafnoccaaJoinI
import Derived.Test.YteelknmafnoccaaRDec
import Derived.Test.YteelknmafnoccaaSame
import Derived.WalkKit
import Derived.ProofKit
import Derived.OpenShut
import Derived.ShutString
import Derived.ChangeOld
import Derived.Below
namespace Go.Proofs.Yteelknmafnoccaa.valueDecodes
open Go.ChangeShapes Go.WideShapes Go.ChangeAt Go.RowKit
set_option linter.unusedVariables false

theorem own : ownKnob Try.prog.godebug = none := by kernel_rfl
theorem laidOut : laidOutB Try.prog = true := by kernel_rfl

/-- Items came out, in memory of their own. -/
def GotI (l : List It) (w : World) (e : Ending) (w' : World) : Prop :=
  ∃ A n c, e = .returned (.tuple #[.slice A n c, .int .i64 0]) ∧ n = l.length ∧ n ≤ c ∧ c ≤ maxLen ∧ RdI w'.heap.size w' A l ∧ Below w.heap.size w w'
theorem decoded_some {r : Option (List It)} {l : List It} (hr : r = some l) {w w' : World} {e : Ending} (h : Decoded r w e w') : GotI l w e w' := by
  subst hr
  exact h
theorem decoded_none {r : Option (List It)} (hr : r = none) {w w' : World} {e : Ending} (h : Decoded r w e w') : e = .returned (.tuple #[.slice none 0 0, .int .i64 2]) ∧ Below w.heap.size w w' := by
  subst hr
  exact h
theorem same_n {a b : Option Addr} {n m c1 c2 : Nat} {l : List It} (hn : n = l.length) (hm : m = l.length) (hlen : l.length ≤ 140737488351232) {w : World} (hra : RdI w.heap.size w a l) (hrb : RdI w.heap.size w b l) :
    Calls Try.prog 18 #[.slice a n c1, .slice b m c2] w fun e w' => e = .returned (.bool true) ∧ Below w.heap.size w w' := by
  subst hn hm
  exact same_items a b c1 c2 l hlen w hra hrb
theorem same_nil (w : World) : Calls Try.prog 18 #[.slice none 0 0, .slice none 0 0] w fun e w' => e = .returned (.bool true) ∧ Below w.heap.size w w' :=
  same_items none none 0 0 [] (by simp) w (fun hp => by simp at hp) (fun hp => by simp at hp)

set_option maxHeartbeats 4000000 in
set_option maxRecDepth 100000 in
theorem walk_long (b : Option Addr) (cbp : Nat) (zb : List Int) (w : World) (hzc : zb.length ≤ cbp) (hzm : cbp ≤ 9223372036854775807) (hbz : ∀ x ∈ zb, 0 ≤ x ∧ x ≤ 255) (hrb : Rd .u8 w.heap.size w b zb) (hlong : 6000 < zb.length) : Calls Try.prog 4 #[.slice b zb.length cbp] w fun e w' => e = .returned (.bool true) ∧ Below w.heap.size w w' := by
  clear hbz hrb
  go_enter Try.func4, Try.ntmps4
  go_wp2_with (go_at_call 10; refine (awakev_any _).mono ?_; rintro e W1 ⟨rfl, hb⟩; have H1 := Lib.hid hb; clear hb)
  go_ret
  exact ⟨rfl, H1.out⟩

set_option maxHeartbeats 4000000 in
set_option maxRecDepth 100000 in
theorem walk_no (b : Option Addr) (cbp : Nat) (zb : List Int) (w : World) (hzc : zb.length ≤ cbp) (hzm : cbp ≤ 9223372036854775807) (hbz : ∀ x ∈ zb, 0 ≤ x ∧ x ≤ 255) (hrb : Rd .u8 w.heap.size w b zb) (hb6 : zb.length ≤ 6000) (hdb : decB zb = none) : Calls Try.prog 4 #[.slice b zb.length cbp] w fun e w' => e = .returned (.bool true) ∧ Below w.heap.size w w' := by
  have HD16 : Hid (∀ W, Below w.heap.size w W → Calls Try.prog 16 #[.slice b zb.length cbp] W (fun e w' => e = .returned (.tuple #[.slice none 0 0, .int .i64 2]) ∧ Below W.heap.size W w')) := Lib.hid fun W hW =>
    (pdecode_any b cbp zb (by omega) hzc hzm hbz W ((hrb.below hW).mono hW.size)).mono fun e w' h => decoded_none hdb h
  have HD17 : Hid (∀ W, Below w.heap.size w W → Calls Try.prog 17 #[.slice b zb.length cbp] W (fun e w' => e = .returned (.tuple #[.slice none 0 0, .int .i64 2]) ∧ Below W.heap.size W w')) := Lib.hid fun W hW =>
    (rdecode_any b cbp zb (by omega) hzc hzm hbz W ((hrb.below hW).mono hW.size)).mono fun e w' h => decoded_none hdb h
  clear hbz hrb hdb
  go_enter Try.func4, Try.ntmps4
  go_wp2_with (first
    | (go_at_call 10; refine (awakev_any _).mono ?_; rintro e W1 ⟨rfl, hb⟩; have H1 := Lib.hid hb; clear hb)
    | (go_at_call 16; (with_reducible refine (HD16.out _ H1.out).mono ?_); rintro e W2 ⟨rfl, hb⟩; have H2 := Lib.hid (H1.out.trans (hb.mono H1.out.size)); clear hb)
    | (go_at_call 17; (with_reducible refine (HD17.out _ H2.out).mono ?_); rintro e W3 ⟨rfl, hb⟩; have H3 := Lib.hid (H2.out.trans (hb.mono H2.out.size)); clear hb)
    | (go_at_call 18; refine (same_nil _).mono ?_; rintro e W4 ⟨rfl, hb⟩; have H4 := Lib.hid (H3.out.trans (hb.mono H3.out.size)); clear hb))
  go_ret
  exact ⟨rfl, H4.out⟩

set_option maxHeartbeats 4000000 in
set_option maxRecDepth 100000 in
theorem walk_yes (b : Option Addr) (cbp : Nat) (zb : List Int) (w : World) (hzc : zb.length ≤ cbp) (hzm : cbp ≤ 9223372036854775807) (hbz : ∀ x ∈ zb, 0 ≤ x ∧ x ≤ 255) (hrb : Rd .u8 w.heap.size w b zb) (hb6 : zb.length ≤ 6000) (m : List It) (hdb : decB zb = some m) : Calls Try.prog 4 #[.slice b zb.length cbp] w fun e w' => e = .returned (.bool true) ∧ Below w.heap.size w w' := by
  have HD16 : Hid (∀ W, Below w.heap.size w W → Calls Try.prog 16 #[.slice b zb.length cbp] W (GotI m W)) := Lib.hid fun W hW =>
    (pdecode_any b cbp zb (by omega) hzc hzm hbz W ((hrb.below hW).mono hW.size)).mono fun e w' h => decoded_some hdb h
  have HD17 : Hid (∀ W, Below w.heap.size w W → Calls Try.prog 17 #[.slice b zb.length cbp] W (GotI m W)) := Lib.hid fun W hW =>
    (rdecode_any b cbp zb (by omega) hzc hzm hbz W ((hrb.below hW).mono hW.size)).mono fun e w' h => decoded_some hdb h
  obtain ⟨_, _, _, hm4, _⟩ := decB_props hbz hdb
  clear hbz hrb hdb
  go_enter Try.func4, Try.ntmps4
  go_wp2_with (first
    | (go_at_call 10; refine (awakev_any _).mono ?_; rintro e W1 ⟨rfl, hb⟩; have H1 := Lib.hid hb; clear hb)
    | (go_at_call 16; (with_reducible refine (HD16.out _ H1.out).mono ?_); rintro e W2 ⟨A2, n2, c2, rfl, hn2, _, _, hrd2, hb⟩; have R2 := Lib.hid hrd2; have N2 := Lib.hid hn2; have H2 := Lib.hid (H1.out.trans (hb.mono H1.out.size)); clear hb hrd2 hn2)
    | (go_at_call 17; (with_reducible refine (HD17.out _ H2.out).mono ?_); rintro e W3 ⟨A3, n3, c3, rfl, hn3, _, _, hrd3, hb⟩; have R3 := Lib.hid hrd3; have N3 := Lib.hid hn3; have R2' := Lib.hid ((R2.out.below hb).mono hb.size); have H3 := Lib.hid (H2.out.trans (hb.mono H2.out.size)); clear hb hrd3 hn3)
    | (go_at_call 18; (with_reducible refine (same_n N2.out N3.out (by omega) R2'.out R3.out).mono ?_); rintro e W4 ⟨rfl, hb⟩; have H4 := Lib.hid (H3.out.trans (hb.mono H3.out.size)); clear hb))
  go_ret
  exact ⟨rfl, H4.out⟩

theorem walk (a1 : Option Addr) (len1 cap1 : Nat) (z1 : List Int) (w : World) (w1 : IsRow .u8 w a1 len1 cap1 z1) :
    Calls Try.prog 4 #[.slice a1 len1 cap1] w fun e w' => e = .returned (.bool true) ∧ Below w.heap.size w w' := by
  obtain ⟨zs, rfl, hlc, hcm, hr, hwf⟩ := w1.read
  have hbz : ∀ x ∈ zs, 0 ≤ x ∧ x ≤ 255 := fun x hx => wf_u8 (hwf x hx)
  unfold maxLen at hcm
  have hcm' : cap1 ≤ 9223372036854775807 := by omega
  rcases Nat.lt_or_ge 6000 zs.length with h6 | h6
  · exact walk_long a1 cap1 zs w hlc hcm' hbz hr h6
  · rcases hd : decB zs with _ | m
    · exact walk_no a1 cap1 zs w hlc hcm' hbz hr h6 hd
    · exact walk_yes a1 cap1 zs w hlc hcm' hbz hr h6 m hd


set_option maxRecDepth 100000 in
theorem lifted (os : Os) (started : os.Started) (H : Type) (enc : TypeId × Value → H) :
    ReturnsInHanded {} Try.checked os 4 .any (Rows.valueDecodesSpec.pre6 enc Try.prog Try.f4 Rows.valueDecodesRow.domain false) (Rows.valueDecodesSpec.post enc Try.prog Try.f4 false true false false) := by
  refine returnsInHanded_of_change_sized (C := Try.checked) own started (by kernel_rfl) Try.func4
    (ChangeSpec.witness6 (enc := enc) (C := Try.checked) false ⟨#[], #[.slice none 0 0], []⟩ 8 (by kernel_rfl) (by kernel_rfl) (by kernel_rfl) (by kernel_rfl)) ?_
  intro W base args ds gs before hval0 hW hcnd hsz0 _
  have hval : ∀ (j : Nat) t v, Try.f4.params[j]? = some t → args[j]? = some v → Value.okWide Try.prog W .any base t v := hval0
  have hW' := hW
  obtain ⟨p, q, hA0, hV, rfl, hfz, hnd⟩ := hW
  have hA : DataW.TrodAll enc Try.prog W 0 (fun _ => true) true Try.f4.params.toList args.toList ds p := hA0
  have hsz : (DataW.weightsEach Try.prog (Try.f4.params.toList ++ Rows.valueDecodesSpec.plain.varTypes Try.prog) (ds ++ gs)).all (· ≤ reachBytes) = true := hsz0
  rw [Try.params4] at hA hval hsz
  obtain ⟨v0, vs0, d0, ds0, p0, q0, hargs, rfl, rfl, h0, r0⟩ := trodAll_cons hA
  obtain ⟨rfl, rfl, rfl⟩ := trodAll_nil r0
  obtain rfl : args = #[v0] := by cases args; simp_all
  obtain ⟨rfl, rfl⟩ := trodVars_none hV
  obtain ⟨a0, len0, cap0, rfl⟩ := okWide_slice Try.underlying25 (hval 0 25 v0 rfl rfl)
  have k0 := h0
  have lt0 : ∀ x ∈ p0, x.block < W.heap.size := by obtain ⟨m, hm⟩ := k0; exact DataW.trod_lt m _ _ _ hm
  obtain ⟨z0, w0⟩ : ∃ zs, IsRow .u8 W a0 len0 cap0 zs := by
    obtain ⟨fuel, hf⟩ := h0
    rcases open_ints Try.underlying25 Try.underlying5 (by kernel_rfl) hf with ⟨hcs, _⟩ | ⟨x, l, c, zs, hcs, _, hl, hm, hz, _, hcell, hwz⟩
    · simp [Value.cells] at hcs
      obtain ⟨rfl, rfl, rfl⟩ := hcs
      exact ⟨[], .inl ⟨rfl, rfl, rfl, rfl⟩⟩
    · simp [Value.cells] at hcs
      obtain ⟨rfl, rfl, rfl⟩ := hcs
      exact ⟨zs, .inr ⟨_, rfl, hl, hm, by simpa using hz, hcell, hwz⟩⟩
  clear hA0 hval0
  refine (walk a0 len0 cap0 z0 W w0).mono fun e W' ⟨he, bel⟩ => ?_
  subst he
  exact ⟨_, rfl, _, _, _, [], _, [], hW', trodAll_mk1 (shut_bool Try.underlying4 _), (trodAll_cons_mk (Below.trod laidOut (by kernel_rfl) (of_decide_eq_true (by kernel_rfl)) k0 bel lt0) trodAll_mk0), rfl, bel.frame _, fun h => by cases h⟩

theorem over : Rows.valueDecodesRow.holds Try.pinned (OpenSpec.ofChange Rows.valueDecodesSpec) :=
  OpenClaim.holds_of_wide 4 Try.f4 rfl rfl rfl rfl rfl rfl rfl ⟨rfl, rfl, rfl, rfl, rfl⟩ rfl rfl rfl rfl rfl (by kernel_rfl) Try.func4 (by kernel_rfl)
    (of_decide_eq_true (by kernel_rfl)) (by unfold Func.isWrapper; first | (rw [if_pos (by decide +kernel)]; kernel_rfl) | (rw [if_neg (by decide +kernel)]; exact ⟨rfl, rfl⟩))
    (fun os started H enc _ => lifted os started H enc)

theorem proved : Rows.ValueDecodesSaid := over
#print axioms proved
end Go.Proofs.Yteelknmafnoccaa.valueDecodes
