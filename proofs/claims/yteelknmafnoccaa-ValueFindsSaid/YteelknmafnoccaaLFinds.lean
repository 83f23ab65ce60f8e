/-
  PROVED: for every list l of items, every Id and every list ids the law ValueFinds returns true: the program's Find and Drop return what the document's return: the same places, the same bool, the same items. Conditions: none; all l, id and ids (nil, empty, any capacity, sharing memory), every memory, schedule and order of evaluation.
-/
import Derived.Test.YteelknmafnoccaaRDrop
import Derived.Test.YteelknmafnoccaaSame
import Derived.WalkKit
import Derived.ProofKit
import Derived.OpenShut
import Derived.ShutString
import Derived.ChangeOld
import Derived.Below
namespace Go.Proofs.Yteelknmafnoccaa.valueFinds
open Go.ChangeShapes Go.WideShapes Go.ChangeAt Go.RowKit
set_option linter.unusedVariables false

theorem own : ownKnob Try.prog.godebug = none := by kernel_rfl
theorem laidOut : laidOutB Try.prog = true := by kernel_rfl

theorem pfind_any (a : Option Addr) (cap : Nat) (l : List It) (id : Int) (hlen : l.length ≤ 140737488351232) (w : World) (hr : RdI w.heap.size w a l) {r1 r2 : Int} {r3 : Bool} (hres : pfindS l id = (r1, r2, r3)) :
    Calls Try.prog 19 #[.slice a l.length cap, .int .i64 id] w fun e w' => e = .returned (.tuple #[.int .i64 r1, .int .i64 r2, .bool r3]) ∧ Below w.heap.size w w' := by
  rcases Bool.eq_false_or_eq_true (rightB l) with hR | hR
  · exact pfind_yes a cap l id hlen w hr hR r1 r2 r3 hres
  · have h := pfind_not a cap l id hlen w hr hR
    unfold pfindS at hres
    rw [if_neg (by simp [hR])] at hres
    injection hres with h1 h2
    injection h2 with h2 h3
    subst h1 h2 h3
    exact h
theorem rfind_res (a : Option Addr) (cap : Nat) (l : List It) (id : Int) (hlen : l.length ≤ 1000000) (w : World) (hr : RdI w.heap.size w a l) {r1 r2 : Int} {r3 : Bool} (hres : pfindS l id = (r1, r2, r3)) :
    Calls Try.prog 20 #[.slice a l.length cap, .int .i64 id] w fun e w' => e = .returned (.tuple #[.int .i64 r1, .int .i64 r2, .bool r3]) ∧ Below w.heap.size w w' := by
  have h := rfind_any a cap l id hlen w hr
  rw [← find_same, hres] at h
  exact h
theorem same_n {a b : Option Addr} {n m c1 c2 : Nat} {l : List It} (hn : n = l.length) (hm : m = l.length) (hlen : l.length ≤ 140737488351232) {w : World} (hra : RdI w.heap.size w a l) (hrb : RdI w.heap.size w b l) :
    Calls Try.prog 18 #[.slice a n c1, .slice b m c2] w fun e w' => e = .returned (.bool true) ∧ Below w.heap.size w w' := by
  subst hn hm
  exact same_items a b c1 c2 l hlen w hra hrb
theorem rdrop_len (l : List It) (zs : List Int) : ∀ (f i : Nat), i ≤ l.length → (rdropGo l zs f i).length + i ≤ l.length := by
  intro f
  induction f with
  | zero => intro i hi; simpa [rdropGo] using hi
  | succ f ih =>
    intro i hi
    rw [rdropGo]
    by_cases hlt : i < l.length
    · rw [if_pos hlt, List.length_append]
      have hgt := endAt_gt hlt
      have h := ih (endAt l i) hgt.2
      have hk : (keptR l zs i).length ≤ endAt l i - i := by
        unfold keptR
        split
        · rw [List.length_take]; omega
        · simp
      omega
    · rw [if_neg hlt]
      simpa using hi

set_option maxHeartbeats 4000000 in
set_option maxRecDepth 100000 in
theorem walk_many (a : Option Addr) (cap : Nat) (l : List It) (id : Int) (b : Option Addr) (cbp : Nat) (zs : List Int) (w : World) (hcl : Came w a cap l) (hz : Ints64 zs) (hrz : Rd .i64 w.heap.size w b zs) (hfl : fewB l = false) : Calls Try.prog 5 #[.slice a l.length cap, .int .i64 id, .slice b zs.length cbp] w fun e w' => e = .returned (.bool true) ∧ Below w.heap.size w w' := by
  have HFL : Hid (∀ W, Below w.heap.size w W → Calls Try.prog 11 #[.slice a l.length cap] W fun e w' => e = .returned (.bool false) ∧ W = w') := Lib.hid fun W hW => by
    have h := few_any a cap l (by have := hcl.le; have := hcl.cap; omega) hcl.bs W ((hcl.rd.below hW).mono hW.size)
    rwa [hfl] at h
  clear hcl hfl hz hrz
  go_enter Try.func5, Try.ntmps5
  go_wp2_with (first
    | (go_at_call 10; refine (awakev_any _).mono ?_; rintro e W1 ⟨rfl, hb⟩; have H1 := Lib.hid hb; clear hb)
    | (go_at_call 11; (with_reducible refine (HFL.out _ H1.out).mono ?_); rintro e W1' ⟨rfl, rfl⟩))
  go_ret
  exact ⟨rfl, H1.out⟩

set_option maxHeartbeats 4000000 in
set_option maxRecDepth 100000 in
theorem walk_long (a : Option Addr) (cap : Nat) (l : List It) (id : Int) (b : Option Addr) (cbp : Nat) (zs : List Int) (w : World) (hcl : Came w a cap l) (hz : Ints64 zs) (hrz : Rd .i64 w.heap.size w b zs) (hfl : fewB l = true) (hlong : 100 < zs.length) : Calls Try.prog 5 #[.slice a l.length cap, .int .i64 id, .slice b zs.length cbp] w fun e w' => e = .returned (.bool true) ∧ Below w.heap.size w w' := by
  have HFL : Hid (∀ W, Below w.heap.size w W → Calls Try.prog 11 #[.slice a l.length cap] W fun e w' => e = .returned (.bool true) ∧ W = w') := Lib.hid fun W hW => by
    have h := few_any a cap l (by have := hcl.le; have := hcl.cap; omega) hcl.bs W ((hcl.rd.below hW).mono hW.size)
    rwa [hfl] at h
  clear hcl hfl hz hrz
  go_enter Try.func5, Try.ntmps5
  go_wp2_with (first
    | (go_at_call 10; refine (awakev_any _).mono ?_; rintro e W1 ⟨rfl, hb⟩; have H1 := Lib.hid hb; clear hb)
    | (go_at_call 11; (with_reducible refine (HFL.out _ H1.out).mono ?_); rintro e W1' ⟨rfl, rfl⟩))
  go_ret
  exact ⟨rfl, H1.out⟩

set_option maxHeartbeats 4000000 in
set_option maxRecDepth 100000 in
theorem walk_all (a : Option Addr) (cap : Nat) (l : List It) (id : Int) (b : Option Addr) (cbp : Nat) (zs : List Int) (w : World) (hcl : Came w a cap l) (hzc : zs.length ≤ 140737488351232) (hz : Ints64 zs) (hrz : Rd .i64 w.heap.size w b zs) (hfl : fewB l = true) (h100 : zs.length ≤ 100) (r1 r2 : Int) (r3 : Bool) (hres : pfindS l id = (r1, r2, r3)) (m : List It) (hm : pdropS l zs = m) (hml : m.length ≤ 140737488351232) : Calls Try.prog 5 #[.slice a l.length cap, .int .i64 id, .slice b zs.length cbp] w fun e w' => e = .returned (.bool true) ∧ Below w.heap.size w w' := by
  obtain ⟨hl, hbs⟩ := few_small hfl
  have HFL : Hid (∀ W, Below w.heap.size w W → Calls Try.prog 11 #[.slice a l.length cap] W fun e w' => e = .returned (.bool true) ∧ W = w') := Lib.hid fun W hW => by
    have h := few_any a cap l (by have := hcl.le; have := hcl.cap; omega) hcl.bs W ((hcl.rd.below hW).mono hW.size)
    rwa [hfl] at h
  have H19 : Hid (∀ W, Below w.heap.size w W → Calls Try.prog 19 #[.slice a l.length cap, .int .i64 id] W fun e w' => e = .returned (.tuple #[.int .i64 r1, .int .i64 r2, .bool r3]) ∧ Below W.heap.size W w') := Lib.hid fun W hW =>
    pfind_any a cap l id (by omega) W ((hcl.rd.below hW).mono hW.size) hres
  have H20 : Hid (∀ W, Below w.heap.size w W → Calls Try.prog 20 #[.slice a l.length cap, .int .i64 id] W fun e w' => e = .returned (.tuple #[.int .i64 r1, .int .i64 r2, .bool r3]) ∧ Below W.heap.size W w') := Lib.hid fun W hW =>
    rfind_res a cap l id (by omega) W ((hcl.rd.below hW).mono hW.size) hres
  have H21 : Hid (∀ W, Below w.heap.size w W → Calls Try.prog 21 #[.slice a l.length cap, .slice b zs.length cbp] W (GotD m W)) := Lib.hid fun W hW => by
    have h := pdrop_any (a := a) (cap := cap) (b := b) (cb := cbp) rfl rfl (by omega) hcl.le (by have := hcl.cap; omega) (fun x hx => by have := hbs x hx; omega) hzc hz ((hcl.rd.below hW).mono hW.size) ((hrz.below hW).mono hW.size)
    rwa [hm] at h
  have H22 : Hid (∀ W, Below w.heap.size w W → Calls Try.prog 22 #[.slice a l.length cap, .slice b zs.length cbp] W (GotD m W)) := Lib.hid fun W hW => by
    have h := rdrop_any a cap l b cbp zs (by omega) hcl.le (by have := hcl.cap; omega) (by omega) W ((hcl.rd.below hW).mono hW.size) ((hrz.below hW).mono hW.size)
    rwa [← drop_same, hm] at h
  clear hcl hfl hz hrz hbs hres hm
  go_enter Try.func5, Try.ntmps5
  go_wp2_with (first
    | (go_at_call 10; refine (awakev_any _).mono ?_; rintro e W1 ⟨rfl, hb⟩; have H1 := Lib.hid hb; clear hb)
    | (go_at_call 11; (with_reducible refine (HFL.out _ H1.out).mono ?_); rintro e W1' ⟨rfl, rfl⟩)
    | (go_at_call 19; (with_reducible refine (H19.out _ H1.out).mono ?_); rintro e W2 ⟨rfl, hb⟩; have H2 := Lib.hid (H1.out.trans (hb.mono H1.out.size)); clear hb)
    | (go_at_call 20; (with_reducible refine (H20.out _ H2.out).mono ?_); rintro e W3 ⟨rfl, hb⟩; have H3 := Lib.hid (H2.out.trans (hb.mono H2.out.size)); clear hb)
    | (go_at_call 21; (with_reducible refine (H21.out _ H3.out).mono ?_); rintro e W4 ⟨A4, n4, c4, rfl, hn4, -, -, hr4, hb⟩; have H4 := Lib.hid (H3.out.trans (hb.mono H3.out.size)); have N4 := Lib.hid hn4; have R4 := Lib.hid hr4; clear hb hn4 hr4)
    | (go_at_call 22; (with_reducible refine (H22.out _ H4.out).mono ?_); rintro e W5 ⟨A5, n5, c5, rfl, hn5, -, -, hr5, hb⟩; have H5 := Lib.hid (H4.out.trans (hb.mono H4.out.size)); have N5 := Lib.hid hn5; have R5 := Lib.hid hr5; have R4' := Lib.hid ((R4.out.below hb).mono hb.size); clear hb hn5 hr5)
    | (go_at_call 18; (with_reducible refine (same_n N4.out N5.out hml R4'.out R5.out).mono ?_); rintro e W6 ⟨rfl, hb⟩; have H6 := Lib.hid (H5.out.trans (hb.mono H5.out.size)); clear hb))
  go_ret
  exact ⟨rfl, H6.out⟩

theorem walk (a0 : Option Addr) (cap0 : Nat) (l0 : List It) (a1 : Int) (a2 : Option Addr) (len2 cap2 : Nat) (z2 : List Int) (w : World) (w0 : Came w a0 cap0 l0) (w1 : (Lit.int .i64 a1).wf = true) (w2 : IsRow .i64 w a2 len2 cap2 z2) :
    Calls Try.prog 5 #[.slice a0 l0.length cap0, .int .i64 a1, .slice a2 len2 cap2] w fun e w' => e = .returned (.bool true) ∧ Below w.heap.size w w' := by
  obtain ⟨zs, rfl, hlc, hcm, hr, hwf⟩ := w2.read
  have hz := ints_of hwf
  rcases Bool.eq_false_or_eq_true (fewB l0) with hfl | hfl
  · rcases Nat.lt_or_ge 100 zs.length with h | h
    · exact walk_long a0 cap0 l0 a1 a2 cap2 zs w w0 hz hr hfl h
    · have hm : (pdropS l0 zs).length ≤ l0.length := by
        rw [drop_same]
        unfold rdropS
        split
        · have := rdrop_len l0 zs (l0.length + 1) 0 (Nat.zero_le _)
          omega
        · simp
      have := w0.le
      have := w0.cap
      exact walk_all a0 cap0 l0 a1 a2 cap2 zs w w0 (by omega) hz hr hfl h _ _ _ rfl _ rfl (by omega)
  · exact walk_many a0 cap0 l0 a1 a2 cap2 zs w w0 hz hr hfl


set_option maxRecDepth 100000 in
theorem lifted (os : Os) (started : os.Started) (H : Type) (enc : TypeId × Value → H) :
    ReturnsInHanded {} Try.checked os 5 .any (Rows.valueFindsSpec.pre6 enc Try.prog Try.f5 Rows.valueFindsRow.domain false) (Rows.valueFindsSpec.post enc Try.prog Try.f5 false true false false) := by
  refine returnsInHanded_of_change_sized (C := Try.checked) own started (by kernel_rfl) Try.func5
    (ChangeSpec.witness6 (enc := enc) (C := Try.checked) false ⟨#[], #[.slice none 0 0, .int .i64 0, .slice none 0 0], []⟩ 8 (by kernel_rfl) (by kernel_rfl) (by kernel_rfl) (by kernel_rfl)) ?_
  intro W base args ds gs before hval0 hW hcnd hsz0 _
  have hval : ∀ (j : Nat) t v, Try.f5.params[j]? = some t → args[j]? = some v → Value.okWide Try.prog W .any base t v := hval0
  have hW' := hW
  obtain ⟨p, q, hA0, hV, rfl, hfz, hnd⟩ := hW
  have hA : DataW.TrodAll enc Try.prog W 0 (fun _ => true) true Try.f5.params.toList args.toList ds p := hA0
  have hsz : (DataW.weightsEach Try.prog (Try.f5.params.toList ++ Rows.valueFindsSpec.plain.varTypes Try.prog) (ds ++ gs)).all (· ≤ reachBytes) = true := hsz0
  rw [Try.params5] at hA hval hsz
  obtain ⟨v0, vs0, d0, ds0, p0, q0, hargs, rfl, rfl, h0, r0⟩ := trodAll_cons hA
  obtain ⟨v1, vs1, d1, ds1, p1, q1, rfl, rfl, rfl, h1, r1⟩ := trodAll_cons r0
  obtain ⟨v2, vs2, d2, ds2, p2, q2, rfl, rfl, rfl, h2, r2⟩ := trodAll_cons r1
  obtain ⟨rfl, rfl, rfl⟩ := trodAll_nil r2
  obtain rfl : args = #[v0, v1, v2] := by cases args; simp_all
  obtain ⟨rfl, rfl⟩ := trodVars_none hV
  obtain ⟨a0, len0, cap0, rfl⟩ := okWide_slice Try.underlying22 (hval 0 22 v0 rfl rfl)
  have k0 := h0
  have lt0 : ∀ x ∈ p0, x.block < W.heap.size := by obtain ⟨m, hm⟩ := k0; exact DataW.trod_lt m _ _ _ hm
  obtain ⟨l0, rfl, w0⟩ := came_of h0 (fun n hn => by simpa using List.all_eq_true.1 hsz n (DataW.weights_mem_each (j := 0) rfl rfl n hn))
  obtain ⟨a1, rfl, rfl, rfl, w1⟩ := open_int Try.underlying3 (hval 1 3 v1 rfl rfl) h1
  obtain ⟨a2, len2, cap2, rfl⟩ := okWide_slice Try.underlying33 (hval 2 33 v2 rfl rfl)
  have k2 := h2
  have lt2 : ∀ x ∈ p2, x.block < W.heap.size := by obtain ⟨m, hm⟩ := k2; exact DataW.trod_lt m _ _ _ hm
  obtain ⟨z2, w2⟩ : ∃ zs, IsRow .i64 W a2 len2 cap2 zs := by
    obtain ⟨fuel, hf⟩ := h2
    rcases open_ints Try.underlying33 Try.underlying3 (by kernel_rfl) hf with ⟨hcs, _⟩ | ⟨x, l, c, zs, hcs, _, hl, hm, hz, _, hcell, hwz⟩
    · simp [Value.cells] at hcs
      obtain ⟨rfl, rfl, rfl⟩ := hcs
      exact ⟨[], .inl ⟨rfl, rfl, rfl, rfl⟩⟩
    · simp [Value.cells] at hcs
      obtain ⟨rfl, rfl, rfl⟩ := hcs
      exact ⟨zs, .inr ⟨_, rfl, hl, hm, by simpa using hz, hcell, hwz⟩⟩
  clear hA0 hval0
  refine (walk a0 cap0 l0 a1 a2 len2 cap2 z2 W w0 w1 w2).mono fun e W' ⟨he, bel⟩ => ?_
  subst he
  exact ⟨_, rfl, _, _, _, [], _, [], hW', trodAll_mk1 (shut_bool Try.underlying4 _), (trodAll_cons_mk (Below.trod laidOut (by kernel_rfl) (of_decide_eq_true (by kernel_rfl)) k0 bel lt0) (trodAll_cons_mk (shut_int Try.underlying3 w1) (trodAll_cons_mk (Below.trod laidOut (by kernel_rfl) (of_decide_eq_true (by kernel_rfl)) k2 bel lt2) trodAll_mk0))), rfl, bel.frame _, fun h => by cases h⟩

theorem over : Rows.valueFindsRow.holds Try.pinned (OpenSpec.ofChange Rows.valueFindsSpec) :=
  OpenClaim.holds_of_wide 5 Try.f5 rfl rfl rfl rfl rfl rfl rfl ⟨rfl, rfl, rfl, rfl, rfl⟩ rfl rfl rfl rfl rfl (by kernel_rfl) Try.func5 (by kernel_rfl)
    (of_decide_eq_true (by kernel_rfl)) (by unfold Func.isWrapper; first | (rw [if_pos (by decide +kernel)]; kernel_rfl) | (rw [if_neg (by decide +kernel)]; exact ⟨rfl, rfl⟩))
    (fun os started H enc _ => lifted os started H enc)

theorem proved : Rows.ValueFindsSaid := over
#print axioms proved
end Go.Proofs.Yteelknmafnoccaa.valueFinds
