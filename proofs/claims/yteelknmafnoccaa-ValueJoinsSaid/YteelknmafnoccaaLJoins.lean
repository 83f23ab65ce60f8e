/-
  PROVED: for all lists l and m of items the law ValueJoins returns true: if both have bytes, the bytes of one behind the other are those of both, or there are more than 4096 and the error is ErrFull. Conditions: none; all l and m (nil, empty, any capacity, sharing memory), every memory, schedule and order of evaluation.
-/
import Derived.Test.YteelknmafnoccaaJoinI
import Derived.WalkKit
import Derived.ProofKit
import Derived.OpenShut
import Derived.ShutString
import Derived.ChangeOld
import Derived.Below
namespace Go.Proofs.Yteelknmafnoccaa.valueJoins
open Go.ChangeShapes Go.WideShapes Go.ChangeAt Go.RowKit
set_option linter.unusedVariables false

theorem own : ownKnob Try.prog.godebug = none := by kernel_rfl
theorem laidOut : laidOutB Try.prog = true := by kernel_rfl

/-- What Encode returns, whatever it is. -/
def EncAny (w : World) (e : Ending) (w' : World) : Prop := ∃ v r, e = .returned (.tuple #[v, .int .i64 r]) ∧ Below w.heap.size w w'
theorem encoded_any {l : List It} {w w' : World} {e : Ending} (h : Encoded l w e w') : EncAny w e w' := by
  rcases Bool.eq_false_or_eq_true (rightB l) with hr | hr
  · by_cases hf : 4096 < (encL l).length
    · obtain ⟨rfl, hb⟩ := h.full hr hf
      exact ⟨_, _, rfl, hb⟩
    · obtain ⟨A, c, rfl, _, _, _, hb⟩ := h.ok hr hf rfl
      exact ⟨_, _, rfl, hb⟩
  · obtain ⟨rfl, hb⟩ := h.arg hr
    exact ⟨_, _, rfl, hb⟩
theorem strOfNums_size (a : List Int) : (strOfNums a).size = a.length := by
  simp [strOfNums, ByteArray.size]
theorem strOfNums_join (a b : List Int) : strOfNums (a ++ b) = strOfNums a ++ strOfNums b := by
  apply ByteArray.ext
  simp [strOfNums, ByteArray.data_append]

set_option maxHeartbeats 4000000 in
set_option maxRecDepth 100000 in
theorem walk_many1 (a : Option Addr) (cap : Nat) (l : List It) (b : Option Addr) (cbp : Nat) (m : List It) (w : World) (hcl : Came w a cap l) (hcm : Came w b cbp m) (fm : Bool) (hfl : fewB l = false) (hfm : fewB m = fm) : Calls Try.prog 9 #[.slice a l.length cap, .slice b m.length cbp] w fun e w' => e = .returned (.bool true) ∧ Below w.heap.size w w' := by
  have T1 : True := trivial
  have T2 : True := trivial
  have HFL : Hid (∀ W, Below w.heap.size w W → Calls Try.prog 11 #[.slice a l.length cap] W fun e w' => e = .returned (.bool false) ∧ W = w') := Lib.hid fun W hW => by
    have h := few_any a cap l (by have := hcl.le; have := hcl.cap; omega) hcl.bs W ((hcl.rd.below hW).mono hW.size)
    rwa [hfl] at h
  have HFM : Hid (∀ W, Below w.heap.size w W → Calls Try.prog 11 #[.slice b m.length cbp] W fun e w' => e = .returned (.bool fm) ∧ W = w') := Lib.hid fun W hW => by
    have h := few_any b cbp m (by have := hcm.le; have := hcm.cap; omega) hcm.bs W ((hcm.rd.below hW).mono hW.size)
    rwa [hfm] at h
  clear hcl hcm hfl hfm
  go_enter Try.func9, Try.ntmps9
  go_wp2_with (first
    | (go_at_call 10; refine (awakev_any _).mono ?_; rintro e W1 ⟨rfl, hb⟩; have H1 := Lib.hid hb; clear hb)
    | (go_at_call 11; have _t := T1; (with_reducible refine (HFL.out _ H1.out).mono ?_); rintro e W1' ⟨rfl, rfl⟩; clear T1)
    | (go_at_call 11; have _t := T2; (with_reducible refine (HFM.out _ H1.out).mono ?_); rintro e W1' ⟨rfl, rfl⟩; clear T2))
  go_ret
  exact ⟨rfl, H1.out⟩

set_option maxHeartbeats 4000000 in
set_option maxRecDepth 100000 in
theorem walk_many2 (a : Option Addr) (cap : Nat) (l : List It) (b : Option Addr) (cbp : Nat) (m : List It) (w : World) (hcl : Came w a cap l) (hcm : Came w b cbp m) (hfl : fewB l = true) (hfm : fewB m = false) : Calls Try.prog 9 #[.slice a l.length cap, .slice b m.length cbp] w fun e w' => e = .returned (.bool true) ∧ Below w.heap.size w w' := by
  have T1 : True := trivial
  have T2 : True := trivial
  have HFL : Hid (∀ W, Below w.heap.size w W → Calls Try.prog 11 #[.slice a l.length cap] W fun e w' => e = .returned (.bool true) ∧ W = w') := Lib.hid fun W hW => by
    have h := few_any a cap l (by have := hcl.le; have := hcl.cap; omega) hcl.bs W ((hcl.rd.below hW).mono hW.size)
    rwa [hfl] at h
  have HFM : Hid (∀ W, Below w.heap.size w W → Calls Try.prog 11 #[.slice b m.length cbp] W fun e w' => e = .returned (.bool false) ∧ W = w') := Lib.hid fun W hW => by
    have h := few_any b cbp m (by have := hcm.le; have := hcm.cap; omega) hcm.bs W ((hcm.rd.below hW).mono hW.size)
    rwa [hfm] at h
  clear hcl hcm hfl hfm
  go_enter Try.func9, Try.ntmps9
  go_wp2_with (first
    | (go_at_call 10; refine (awakev_any _).mono ?_; rintro e W1 ⟨rfl, hb⟩; have H1 := Lib.hid hb; clear hb)
    | (go_at_call 11; have _t := T1; (with_reducible refine (HFL.out _ H1.out).mono ?_); rintro e W1' ⟨rfl, rfl⟩; clear T1)
    | (go_at_call 11; have _t := T2; (with_reducible refine (HFM.out _ H1.out).mono ?_); rintro e W1' ⟨rfl, rfl⟩; clear T2))
  go_ret
  exact ⟨rfl, H1.out⟩

set_option maxHeartbeats 4000000 in
set_option maxRecDepth 100000 in
theorem walk_l_arg (a : Option Addr) (cap : Nat) (l : List It) (b : Option Addr) (cbp : Nat) (m : List It) (w : World) (hcl : Came w a cap l) (hcm : Came w b cbp m) (hfl : fewB l = true) (hfm : fewB m = true) (hr : rightB l = false) : Calls Try.prog 9 #[.slice a l.length cap, .slice b m.length cbp] w fun e w' => e = .returned (.bool true) ∧ Below w.heap.size w w' := by
  have T1 : True := trivial
  have T2 : True := trivial
  have HFL : Hid (∀ W, Below w.heap.size w W → Calls Try.prog 11 #[.slice a l.length cap] W fun e w' => e = .returned (.bool true) ∧ W = w') := Lib.hid fun W hW => by
    have h := few_any a cap l (by have := hcl.le; have := hcl.cap; omega) hcl.bs W ((hcl.rd.below hW).mono hW.size)
    rwa [hfl] at h
  have HFM : Hid (∀ W, Below w.heap.size w W → Calls Try.prog 11 #[.slice b m.length cbp] W fun e w' => e = .returned (.bool true) ∧ W = w') := Lib.hid fun W hW => by
    have h := few_any b cbp m (by have := hcm.le; have := hcm.cap; omega) hcm.bs W ((hcm.rd.below hW).mono hW.size)
    rwa [hfm] at h
  obtain ⟨hl, hbL⟩ := few_small hfl
  obtain ⟨hm, hbM⟩ := few_small hfm
  have HEL : Hid (∀ W, Below w.heap.size w W → Calls Try.prog 12 #[.slice a l.length cap] W (fun e w' => e = .returned (.tuple #[.slice none 0 0, .int .i64 1]) ∧ Below W.heap.size W w')) := Lib.hid fun W hW =>
    (pencode_any a cap l (by omega) (fun x hx => by have := hbL x hx; omega) hcl.ok W ((hcl.rd.below hW).mono hW.size)).mono fun e w' h => h.arg hr
  have EL : True := trivial
  have HEM : Hid (∀ W, Below w.heap.size w W → Calls Try.prog 12 #[.slice b m.length cbp] W (EncAny W)) := Lib.hid fun W hW =>
    (pencode_any b cbp m (by omega) (fun x hx => by have := hbM x hx; omega) hcm.ok W ((hcm.rd.below hW).mono hW.size)).mono fun e w' h => encoded_any h
  have EM : True := trivial
  clear hcl hcm hfl hfm hr hl hm hbL hbM
  go_enter Try.func9, Try.ntmps9
  go_wp2_with (first
    | (go_at_call 10; refine (awakev_any _).mono ?_; rintro e W1 ⟨rfl, hb⟩; have H1 := Lib.hid hb; clear hb)
    | (go_at_call 11; have _t := T1; (with_reducible refine (HFL.out _ H1.out).mono ?_); rintro e W1' ⟨rfl, rfl⟩; clear T1)
    | (go_at_call 11; have _t := T2; (with_reducible refine (HFM.out _ H1.out).mono ?_); rintro e W1' ⟨rfl, rfl⟩; clear T2)
    | (go_at_call 12; have _t := EL; (with_reducible refine (HEL.out _ H1.out).mono ?_); rintro e W2 ⟨rfl, hb⟩; have H2 := Lib.hid (H1.out.trans (hb.mono H1.out.size)); clear hb EL)
    | (go_at_call 12; have _t := EM; (with_reducible refine (HEM.out _ H2.out).mono ?_); rintro e W3 ⟨v3, r3, rfl, hb⟩; have H3 := Lib.hid (H2.out.trans (hb.mono H2.out.size)); clear hb EM))
  go_ret
  exact ⟨rfl, H3.out⟩

set_option maxHeartbeats 4000000 in
set_option maxRecDepth 100000 in
theorem walk_l_full (a : Option Addr) (cap : Nat) (l : List It) (b : Option Addr) (cbp : Nat) (m : List It) (w : World) (hcl : Came w a cap l) (hcm : Came w b cbp m) (hfl : fewB l = true) (hfm : fewB m = true) (hr : rightB l = true) (hx : 4096 < (encL l).length) : Calls Try.prog 9 #[.slice a l.length cap, .slice b m.length cbp] w fun e w' => e = .returned (.bool true) ∧ Below w.heap.size w w' := by
  have T1 : True := trivial
  have T2 : True := trivial
  have HFL : Hid (∀ W, Below w.heap.size w W → Calls Try.prog 11 #[.slice a l.length cap] W fun e w' => e = .returned (.bool true) ∧ W = w') := Lib.hid fun W hW => by
    have h := few_any a cap l (by have := hcl.le; have := hcl.cap; omega) hcl.bs W ((hcl.rd.below hW).mono hW.size)
    rwa [hfl] at h
  have HFM : Hid (∀ W, Below w.heap.size w W → Calls Try.prog 11 #[.slice b m.length cbp] W fun e w' => e = .returned (.bool true) ∧ W = w') := Lib.hid fun W hW => by
    have h := few_any b cbp m (by have := hcm.le; have := hcm.cap; omega) hcm.bs W ((hcm.rd.below hW).mono hW.size)
    rwa [hfm] at h
  obtain ⟨hl, hbL⟩ := few_small hfl
  obtain ⟨hm, hbM⟩ := few_small hfm
  have HEL : Hid (∀ W, Below w.heap.size w W → Calls Try.prog 12 #[.slice a l.length cap] W (fun e w' => e = .returned (.tuple #[.slice none 0 0, .int .i64 3]) ∧ Below W.heap.size W w')) := Lib.hid fun W hW =>
    (pencode_any a cap l (by omega) (fun x hx => by have := hbL x hx; omega) hcl.ok W ((hcl.rd.below hW).mono hW.size)).mono fun e w' h => h.full hr hx
  have EL : True := trivial
  have HEM : Hid (∀ W, Below w.heap.size w W → Calls Try.prog 12 #[.slice b m.length cbp] W (EncAny W)) := Lib.hid fun W hW =>
    (pencode_any b cbp m (by omega) (fun x hx => by have := hbM x hx; omega) hcm.ok W ((hcm.rd.below hW).mono hW.size)).mono fun e w' h => encoded_any h
  have EM : True := trivial
  clear hcl hcm hfl hfm hr hl hm hbL hbM hx
  go_enter Try.func9, Try.ntmps9
  go_wp2_with (first
    | (go_at_call 10; refine (awakev_any _).mono ?_; rintro e W1 ⟨rfl, hb⟩; have H1 := Lib.hid hb; clear hb)
    | (go_at_call 11; have _t := T1; (with_reducible refine (HFL.out _ H1.out).mono ?_); rintro e W1' ⟨rfl, rfl⟩; clear T1)
    | (go_at_call 11; have _t := T2; (with_reducible refine (HFM.out _ H1.out).mono ?_); rintro e W1' ⟨rfl, rfl⟩; clear T2)
    | (go_at_call 12; have _t := EL; (with_reducible refine (HEL.out _ H1.out).mono ?_); rintro e W2 ⟨rfl, hb⟩; have H2 := Lib.hid (H1.out.trans (hb.mono H1.out.size)); clear hb EL)
    | (go_at_call 12; have _t := EM; (with_reducible refine (HEM.out _ H2.out).mono ?_); rintro e W3 ⟨v3, r3, rfl, hb⟩; have H3 := Lib.hid (H2.out.trans (hb.mono H2.out.size)); clear hb EM))
  go_ret
  exact ⟨rfl, H3.out⟩

set_option maxHeartbeats 4000000 in
set_option maxRecDepth 100000 in
theorem walk_m_arg (a : Option Addr) (cap : Nat) (l : List It) (b : Option Addr) (cbp : Nat) (m : List It) (w : World) (hcl : Came w a cap l) (hcm : Came w b cbp m) (hfl : fewB l = true) (hfm : fewB m = true) (hr : rightB l = true) (hx : ¬ 4096 < (encL l).length) (zl : List Int) (hzl : encL l = zl) (hr2 : rightB m = false) : Calls Try.prog 9 #[.slice a l.length cap, .slice b m.length cbp] w fun e w' => e = .returned (.bool true) ∧ Below w.heap.size w w' := by
  have T1 : True := trivial
  have T2 : True := trivial
  have HFL : Hid (∀ W, Below w.heap.size w W → Calls Try.prog 11 #[.slice a l.length cap] W fun e w' => e = .returned (.bool true) ∧ W = w') := Lib.hid fun W hW => by
    have h := few_any a cap l (by have := hcl.le; have := hcl.cap; omega) hcl.bs W ((hcl.rd.below hW).mono hW.size)
    rwa [hfl] at h
  have HFM : Hid (∀ W, Below w.heap.size w W → Calls Try.prog 11 #[.slice b m.length cbp] W fun e w' => e = .returned (.bool true) ∧ W = w') := Lib.hid fun W hW => by
    have h := few_any b cbp m (by have := hcm.le; have := hcm.cap; omega) hcm.bs W ((hcm.rd.below hW).mono hW.size)
    rwa [hfm] at h
  obtain ⟨hl, hbL⟩ := few_small hfl
  obtain ⟨hm, hbM⟩ := few_small hfm
  have HEL : Hid (∀ W, Below w.heap.size w W → Calls Try.prog 12 #[.slice a l.length cap] W (GotB zl W)) := Lib.hid fun W hW =>
    (pencode_any a cap l (by omega) (fun x hx => by have := hbL x hx; omega) hcl.ok W ((hcl.rd.below hW).mono hW.size)).mono fun e w' h => h.ok hr hx hzl
  have EL : True := trivial
  have HEM : Hid (∀ W, Below w.heap.size w W → Calls Try.prog 12 #[.slice b m.length cbp] W (fun e w' => e = .returned (.tuple #[.slice none 0 0, .int .i64 1]) ∧ Below W.heap.size W w')) := Lib.hid fun W hW =>
    (pencode_any b cbp m (by omega) (fun x hx => by have := hbM x hx; omega) hcm.ok W ((hcm.rd.below hW).mono hW.size)).mono fun e w' h => h.arg hr2
  have EM : True := trivial
  clear hcl hcm hfl hfm hr hl hm hbL hbM hx hr2 hzl
  go_enter Try.func9, Try.ntmps9
  go_wp2_with (first
    | (go_at_call 10; refine (awakev_any _).mono ?_; rintro e W1 ⟨rfl, hb⟩; have H1 := Lib.hid hb; clear hb)
    | (go_at_call 11; have _t := T1; (with_reducible refine (HFL.out _ H1.out).mono ?_); rintro e W1' ⟨rfl, rfl⟩; clear T1)
    | (go_at_call 11; have _t := T2; (with_reducible refine (HFM.out _ H1.out).mono ?_); rintro e W1' ⟨rfl, rfl⟩; clear T2)
    | (go_at_call 12; have _t := EL; (with_reducible refine (HEL.out _ H1.out).mono ?_); rintro e W2 ⟨A2, c2, rfl, _, _, hrd2, hb⟩; have R2 := Lib.hid hrd2; have H2 := Lib.hid (H1.out.trans (hb.mono H1.out.size)); clear hb hrd2 EL)
    | (go_at_call 12; have _t := EM; (with_reducible refine (HEM.out _ H2.out).mono ?_); rintro e W3 ⟨rfl, hb⟩; have H3 := Lib.hid (H2.out.trans (hb.mono H2.out.size)); clear hb EM))
  go_ret
  exact ⟨rfl, H3.out⟩

set_option maxHeartbeats 4000000 in
set_option maxRecDepth 100000 in
theorem walk_m_full (a : Option Addr) (cap : Nat) (l : List It) (b : Option Addr) (cbp : Nat) (m : List It) (w : World) (hcl : Came w a cap l) (hcm : Came w b cbp m) (hfl : fewB l = true) (hfm : fewB m = true) (hr : rightB l = true) (hx : ¬ 4096 < (encL l).length) (zl : List Int) (hzl : encL l = zl) (hr2 : rightB m = true) (hx2 : 4096 < (encL m).length) : Calls Try.prog 9 #[.slice a l.length cap, .slice b m.length cbp] w fun e w' => e = .returned (.bool true) ∧ Below w.heap.size w w' := by
  have T1 : True := trivial
  have T2 : True := trivial
  have HFL : Hid (∀ W, Below w.heap.size w W → Calls Try.prog 11 #[.slice a l.length cap] W fun e w' => e = .returned (.bool true) ∧ W = w') := Lib.hid fun W hW => by
    have h := few_any a cap l (by have := hcl.le; have := hcl.cap; omega) hcl.bs W ((hcl.rd.below hW).mono hW.size)
    rwa [hfl] at h
  have HFM : Hid (∀ W, Below w.heap.size w W → Calls Try.prog 11 #[.slice b m.length cbp] W fun e w' => e = .returned (.bool true) ∧ W = w') := Lib.hid fun W hW => by
    have h := few_any b cbp m (by have := hcm.le; have := hcm.cap; omega) hcm.bs W ((hcm.rd.below hW).mono hW.size)
    rwa [hfm] at h
  obtain ⟨hl, hbL⟩ := few_small hfl
  obtain ⟨hm, hbM⟩ := few_small hfm
  have HEL : Hid (∀ W, Below w.heap.size w W → Calls Try.prog 12 #[.slice a l.length cap] W (GotB zl W)) := Lib.hid fun W hW =>
    (pencode_any a cap l (by omega) (fun x hx => by have := hbL x hx; omega) hcl.ok W ((hcl.rd.below hW).mono hW.size)).mono fun e w' h => h.ok hr hx hzl
  have EL : True := trivial
  have HEM : Hid (∀ W, Below w.heap.size w W → Calls Try.prog 12 #[.slice b m.length cbp] W (fun e w' => e = .returned (.tuple #[.slice none 0 0, .int .i64 3]) ∧ Below W.heap.size W w')) := Lib.hid fun W hW =>
    (pencode_any b cbp m (by omega) (fun x hx => by have := hbM x hx; omega) hcm.ok W ((hcm.rd.below hW).mono hW.size)).mono fun e w' h => h.full hr2 hx2
  have EM : True := trivial
  clear hcl hcm hfl hfm hr hl hm hbL hbM hx hr2 hx2 hzl
  go_enter Try.func9, Try.ntmps9
  go_wp2_with (first
    | (go_at_call 10; refine (awakev_any _).mono ?_; rintro e W1 ⟨rfl, hb⟩; have H1 := Lib.hid hb; clear hb)
    | (go_at_call 11; have _t := T1; (with_reducible refine (HFL.out _ H1.out).mono ?_); rintro e W1' ⟨rfl, rfl⟩; clear T1)
    | (go_at_call 11; have _t := T2; (with_reducible refine (HFM.out _ H1.out).mono ?_); rintro e W1' ⟨rfl, rfl⟩; clear T2)
    | (go_at_call 12; have _t := EL; (with_reducible refine (HEL.out _ H1.out).mono ?_); rintro e W2 ⟨A2, c2, rfl, _, _, hrd2, hb⟩; have R2 := Lib.hid hrd2; have H2 := Lib.hid (H1.out.trans (hb.mono H1.out.size)); clear hb hrd2 EL)
    | (go_at_call 12; have _t := EM; (with_reducible refine (HEM.out _ H2.out).mono ?_); rintro e W3 ⟨rfl, hb⟩; have H3 := Lib.hid (H2.out.trans (hb.mono H2.out.size)); clear hb EM))
  go_ret
  exact ⟨rfl, H3.out⟩

set_option maxHeartbeats 4000000 in
set_option maxRecDepth 100000 in
theorem walk_long (a : Option Addr) (cap : Nat) (l : List It) (b : Option Addr) (cbp : Nat) (m : List It) (w : World) (hcl : Came w a cap l) (hcm : Came w b cbp m) (hfl : fewB l = true) (hfm : fewB m = true) (hr : rightB l = true) (hx : ¬ 4096 < (encL l).length) (zl : List Int) (hzl : encL l = zl) (hr2 : rightB m = true) (hx2 : ¬ 4096 < (encL m).length) (zm : List Int) (hzm : encL m = zm) (hj : 4096 < zl.length + zm.length) : Calls Try.prog 9 #[.slice a l.length cap, .slice b m.length cbp] w fun e w' => e = .returned (.bool true) ∧ Below w.heap.size w w' := by
  have T1 : True := trivial
  have T2 : True := trivial
  have HFL : Hid (∀ W, Below w.heap.size w W → Calls Try.prog 11 #[.slice a l.length cap] W fun e w' => e = .returned (.bool true) ∧ W = w') := Lib.hid fun W hW => by
    have h := few_any a cap l (by have := hcl.le; have := hcl.cap; omega) hcl.bs W ((hcl.rd.below hW).mono hW.size)
    rwa [hfl] at h
  have HFM : Hid (∀ W, Below w.heap.size w W → Calls Try.prog 11 #[.slice b m.length cbp] W fun e w' => e = .returned (.bool true) ∧ W = w') := Lib.hid fun W hW => by
    have h := few_any b cbp m (by have := hcm.le; have := hcm.cap; omega) hcm.bs W ((hcm.rd.below hW).mono hW.size)
    rwa [hfm] at h
  obtain ⟨hl, hbL⟩ := few_small hfl
  obtain ⟨hm, hbM⟩ := few_small hfm
  have HEL : Hid (∀ W, Below w.heap.size w W → Calls Try.prog 12 #[.slice a l.length cap] W (GotB zl W)) := Lib.hid fun W hW =>
    (pencode_any a cap l (by omega) (fun x hx => by have := hbL x hx; omega) hcl.ok W ((hcl.rd.below hW).mono hW.size)).mono fun e w' h => h.ok hr hx hzl
  have EL : True := trivial
  have HEM : Hid (∀ W, Below w.heap.size w W → Calls Try.prog 12 #[.slice b m.length cbp] W (GotB zm W)) := Lib.hid fun W hW =>
    (pencode_any b cbp m (by omega) (fun x hx => by have := hbM x hx; omega) hcm.ok W ((hcm.rd.below hW).mono hW.size)).mono fun e w' h => h.ok hr2 hx2 hzm
  have EM : True := trivial
  have RL := Lib.hid hcl.rd
  have RM := Lib.hid hcm.rd
  have P1 : True := trivial
  have P2 : True := trivial
  have hJ : ∀ W (c n : Nat) (A : Option Addr), n = (([] ++ l) ++ m).length → RdI W.heap.size W A (([] ++ l) ++ m) → Calls Try.prog 12 #[.slice A n c] W (fun e w' => e = .returned (.tuple #[.slice none 0 0, .int .i64 3]) ∧ Below W.heap.size W w') := fun W c n A hn hrd => by
    subst hn
    refine (pencode_any A c (([] ++ l) ++ m) (by simp; omega) (fun x hx => ?_) (fun x hx => ?_) W hrd).mono fun e w' h => h.full (show rightB (([] ++ l) ++ m) = true from right_both hr hr2) (by have e := encL_join l m; show 4096 < (encL (l ++ m)).length; rw [e, hzl, hzm, List.length_append]; exact hj)
    · rcases List.mem_append.1 hx with h | h
      · have := hbL x h; omega
      · have := hbM x h; omega
    · rcases List.mem_append.1 hx with h | h
      · exact hcl.ok x h
      · exact hcm.ok x h
  have HJ := Lib.hid hJ
  rw [hzl] at hx
  rw [hzm] at hx2
  clear hJ hbL hbM
  clear hcl hcm hfl hfm hr hr2 hzl hzm
  go_enter Try.func9, Try.ntmps9
  go_wp2_with (first
    | (go_at_call 10; refine (awakev_any _).mono ?_; rintro e W1 ⟨rfl, hb⟩; have H1 := Lib.hid hb; clear hb)
    | (go_at_call 11; have _t := T1; (with_reducible refine (HFL.out _ H1.out).mono ?_); rintro e W1' ⟨rfl, rfl⟩; clear T1)
    | (go_at_call 11; have _t := T2; (with_reducible refine (HFM.out _ H1.out).mono ?_); rintro e W1' ⟨rfl, rfl⟩; clear T2)
    | (go_at_call 12; have _t := EL; (with_reducible refine (HEL.out _ H1.out).mono ?_); rintro e W2 ⟨A2, c2, rfl, _, _, hrd2, hb⟩; have R2 := Lib.hid hrd2; have H2 := Lib.hid (H1.out.trans (hb.mono H1.out.size)); clear hb hrd2 EL)
    | (go_at_call 12; have _t := EM; (with_reducible refine (HEM.out _ H2.out).mono ?_); rintro e W3 ⟨A3, c3, rfl, _, _, hrd3, hb⟩; have R2' := Lib.hid ((R2.out.below hb).mono hb.size); have R3 := Lib.hid hrd3; have H3 := Lib.hid (H2.out.trans (hb.mono H2.out.size)); clear hb hrd3 EM)
    | (at_builtin; have _t := P1; refine wpList_append_items rfl _ _ rfl W3.heap.size _ [] rfl (OwnI.empty W3) a l l.length cap rfl rfl ((RL.out.below (H3.out.alloc H3.out.size _)).mono H3.out.size).src (by simp; omega) ?hb1 ?_; (case hb1 => exact (by simp)); intro v1 Y1 ho hb _; obtain ⟨V1, n1, c1, rfl, hn', hc'⟩ := ho.form_n; have H4 := Lib.hid ((H3.out.alloc H3.out.size _).trans (hb.mono H3.out.size)); have O1 := Lib.hid ho; have K1 := Lib.hid (((Below.refl W3.heap.size W3).alloc (Nat.le_refl _) _).trans hb); clear ho hb hn' hc' P1)
    | (at_builtin; have _t := P2; refine wpList_append_items rfl _ _ rfl W3.heap.size _ ([] ++ l) rfl O1.out b m m.length cbp rfl rfl ((RM.out.below H4.out).mono H3.out.size).src (by simp; omega) ?hb2 ?_; (case hb2 => exact K1.out.size); intro v2 Y2 ho hb _; obtain ⟨V2, n2, c2', rfl, hn', hc'⟩ := ho.form_n; have H5 := Lib.hid (H4.out.trans (hb.mono H3.out.size)); have K2 := Lib.hid (K1.out.trans hb); have RB := Lib.hid (ho.rd (n₁ := Y2.heap.size) K2.out.size (Nat.le_refl _)); have HN := Lib.hid hn'; clear ho hb hn' hc' P2)
    | (go_at_call 12; (with_reducible refine (HJ.out _ _ _ _ HN.out RB.out).mono ?_); rintro e W6 ⟨rfl, hb⟩; have H6 := Lib.hid (H5.out.trans (hb.mono H5.out.size)); clear hb))
  go_ret
  exact ⟨rfl, H6.out⟩

set_option maxHeartbeats 4000000 in
set_option maxRecDepth 100000 in
theorem walk_short (a : Option Addr) (cap : Nat) (l : List It) (b : Option Addr) (cbp : Nat) (m : List It) (w : World) (hcl : Came w a cap l) (hcm : Came w b cbp m) (hfl : fewB l = true) (hfm : fewB m = true) (hr : rightB l = true) (hx : ¬ 4096 < (encL l).length) (zl : List Int) (hzl : encL l = zl) (hr2 : rightB m = true) (hx2 : ¬ 4096 < (encL m).length) (zm : List Int) (hzm : encL m = zm) (hj : ¬ 4096 < zl.length + zm.length) : Calls Try.prog 9 #[.slice a l.length cap, .slice b m.length cbp] w fun e w' => e = .returned (.bool true) ∧ Below w.heap.size w w' := by
  have T1 : True := trivial
  have T2 : True := trivial
  have HFL : Hid (∀ W, Below w.heap.size w W → Calls Try.prog 11 #[.slice a l.length cap] W fun e w' => e = .returned (.bool true) ∧ W = w') := Lib.hid fun W hW => by
    have h := few_any a cap l (by have := hcl.le; have := hcl.cap; omega) hcl.bs W ((hcl.rd.below hW).mono hW.size)
    rwa [hfl] at h
  have HFM : Hid (∀ W, Below w.heap.size w W → Calls Try.prog 11 #[.slice b m.length cbp] W fun e w' => e = .returned (.bool true) ∧ W = w') := Lib.hid fun W hW => by
    have h := few_any b cbp m (by have := hcm.le; have := hcm.cap; omega) hcm.bs W ((hcm.rd.below hW).mono hW.size)
    rwa [hfm] at h
  obtain ⟨hl, hbL⟩ := few_small hfl
  obtain ⟨hm, hbM⟩ := few_small hfm
  have HEL : Hid (∀ W, Below w.heap.size w W → Calls Try.prog 12 #[.slice a l.length cap] W (GotB zl W)) := Lib.hid fun W hW =>
    (pencode_any a cap l (by omega) (fun x hx => by have := hbL x hx; omega) hcl.ok W ((hcl.rd.below hW).mono hW.size)).mono fun e w' h => h.ok hr hx hzl
  have EL : True := trivial
  have HEM : Hid (∀ W, Below w.heap.size w W → Calls Try.prog 12 #[.slice b m.length cbp] W (GotB zm W)) := Lib.hid fun W hW =>
    (pencode_any b cbp m (by omega) (fun x hx => by have := hbM x hx; omega) hcm.ok W ((hcm.rd.below hW).mono hW.size)).mono fun e w' h => h.ok hr2 hx2 hzm
  have EM : True := trivial
  have RL := Lib.hid hcl.rd
  have RM := Lib.hid hcm.rd
  have P1 : True := trivial
  have P2 : True := trivial
  have hJ : ∀ W (c n : Nat) (A : Option Addr), n = (([] ++ l) ++ m).length → RdI W.heap.size W A (([] ++ l) ++ m) → Calls Try.prog 12 #[.slice A n c] W (GotB (zl ++ zm) W) := fun W c n A hn hrd => by
    subst hn
    refine (pencode_any A c (([] ++ l) ++ m) (by simp; omega) (fun x hx => ?_) (fun x hx => ?_) W hrd).mono fun e w' h => h.ok (show rightB (([] ++ l) ++ m) = true from right_both hr hr2) (by have e := encL_join l m; show ¬ 4096 < (encL (l ++ m)).length; rw [e, hzl, hzm, List.length_append]; exact hj) (by have e := encL_join l m; show encL (l ++ m) = _; rw [e, hzl, hzm])
    · rcases List.mem_append.1 hx with h | h
      · have := hbL x h; omega
      · have := hbM x h; omega
    · rcases List.mem_append.1 hx with h | h
      · exact hcl.ok x h
      · exact hcm.ok x h
  have HJ := Lib.hid hJ
  rw [hzl] at hx
  rw [hzm] at hx2
  have hss : (strOfNums zl).size + (strOfNums zm).size ≤ 4096 := by rw [strOfNums_size, strOfNums_size]; omega
  clear hJ hbL hbM
  clear hcl hcm hfl hfm hr hr2 hzl hzm
  go_enter Try.func9, Try.ntmps9
  go_wp2_with (first
    | (go_at_call 10; refine (awakev_any _).mono ?_; rintro e W1 ⟨rfl, hb⟩; have H1 := Lib.hid hb; clear hb)
    | (go_at_call 11; have _t := T1; (with_reducible refine (HFL.out _ H1.out).mono ?_); rintro e W1' ⟨rfl, rfl⟩; clear T1)
    | (go_at_call 11; have _t := T2; (with_reducible refine (HFM.out _ H1.out).mono ?_); rintro e W1' ⟨rfl, rfl⟩; clear T2)
    | (go_at_call 12; have _t := EL; (with_reducible refine (HEL.out _ H1.out).mono ?_); rintro e W2 ⟨A2, c2, rfl, _, _, hrd2, hb⟩; have R2 := Lib.hid hrd2; have H2 := Lib.hid (H1.out.trans (hb.mono H1.out.size)); clear hb hrd2 EL)
    | (go_at_call 12; have _t := EM; (with_reducible refine (HEM.out _ H2.out).mono ?_); rintro e W3 ⟨A3, c3, rfl, _, _, hrd3, hb⟩; have R2' := Lib.hid ((R2.out.below hb).mono hb.size); have R3 := Lib.hid hrd3; have H3 := Lib.hid (H2.out.trans (hb.mono H2.out.size)); clear hb hrd3 EM)
    | (at_builtin; have _t := P1; refine wpList_append_items rfl _ _ rfl W3.heap.size _ [] rfl (OwnI.empty W3) a l l.length cap rfl rfl ((RL.out.below (H3.out.alloc H3.out.size _)).mono H3.out.size).src (by simp; omega) ?hb1 ?_; (case hb1 => exact (by simp)); intro v1 Y1 ho hb _; obtain ⟨V1, n1, c1, rfl, hn', hc'⟩ := ho.form_n; have H4 := Lib.hid ((H3.out.alloc H3.out.size _).trans (hb.mono H3.out.size)); have O1 := Lib.hid ho; have K1 := Lib.hid (((Below.refl W3.heap.size W3).alloc (Nat.le_refl _) _).trans hb); clear ho hb hn' hc' P1)
    | (at_builtin; have _t := P2; refine wpList_append_items rfl _ _ rfl W3.heap.size _ ([] ++ l) rfl O1.out b m m.length cbp rfl rfl ((RM.out.below H4.out).mono H3.out.size).src (by simp; omega) ?hb2 ?_; (case hb2 => exact K1.out.size); intro v2 Y2 ho hb _; obtain ⟨V2, n2, c2', rfl, hn', hc'⟩ := ho.form_n; have H5 := Lib.hid (H4.out.trans (hb.mono H3.out.size)); have K2 := Lib.hid (K1.out.trans hb); have RB := Lib.hid (ho.rd (n₁ := Y2.heap.size) K2.out.size (Nat.le_refl _)); have HN := Lib.hid hn'; clear ho hb hn' hc' P2)
    | (go_at_call 12; (with_reducible refine (HJ.out _ _ _ _ HN.out RB.out).mono ?_); rintro e W6 ⟨A6, c6, rfl, _, _, hrd6, hb⟩; have H6 := Lib.hid (H5.out.trans (hb.mono H5.out.size)); have cv6 := conv_rd hrd6 c6; rw [strOfNums_join, List.length_append] at cv6; have K6 := K2.out.trans (hb.mono K2.out.size); have cva := conv_rd (R2'.out.below K6) c2; have cvb := conv_rd (R3.out.below K6) c3; clear hb hrd6 K6))
  go_ret
  exact ⟨rfl, H6.out⟩

theorem walk (a : Option Addr) (cap : Nat) (l : List It) (b : Option Addr) (cbp : Nat) (m : List It) (w : World) (hcl : Came w a cap l) (hcm : Came w b cbp m) : Calls Try.prog 9 #[.slice a l.length cap, .slice b m.length cbp] w fun e w' => e = .returned (.bool true) ∧ Below w.heap.size w w' := by
  rcases Bool.eq_false_or_eq_true (fewB l) with hfl | hfl
  · rcases Bool.eq_false_or_eq_true (fewB m) with hfm | hfm
    · rcases Bool.eq_false_or_eq_true (rightB l) with hr | hr
      · by_cases hx : 4096 < (encL l).length
        · exact walk_l_full a cap l b cbp m w hcl hcm hfl hfm hr hx
        · rcases Bool.eq_false_or_eq_true (rightB m) with hr2 | hr2
          · by_cases hx2 : 4096 < (encL m).length
            · exact walk_m_full a cap l b cbp m w hcl hcm hfl hfm hr hx _ rfl hr2 hx2
            · by_cases hj : 4096 < (encL l).length + (encL m).length
              · exact walk_long a cap l b cbp m w hcl hcm hfl hfm hr hx _ rfl hr2 hx2 _ rfl hj
              · exact walk_short a cap l b cbp m w hcl hcm hfl hfm hr hx _ rfl hr2 hx2 _ rfl hj
          · exact walk_m_arg a cap l b cbp m w hcl hcm hfl hfm hr hx _ rfl hr2
      · exact walk_l_arg a cap l b cbp m w hcl hcm hfl hfm hr
    · exact walk_many2 a cap l b cbp m w hcl hcm hfl hfm
  · exact walk_many1 a cap l b cbp m w hcl hcm _ hfl rfl


set_option maxRecDepth 100000 in
theorem lifted (os : Os) (started : os.Started) (H : Type) (enc : TypeId × Value → H) :
    ReturnsInHanded {} Try.checked os 9 .any (Rows.valueJoinsSpec.pre6 enc Try.prog Try.f9 Rows.valueJoinsRow.domain false) (Rows.valueJoinsSpec.post enc Try.prog Try.f9 false true false false) := by
  refine returnsInHanded_of_change_sized (C := Try.checked) own started (by kernel_rfl) Try.func9
    (ChangeSpec.witness6 (enc := enc) (C := Try.checked) false ⟨#[], #[.slice none 0 0, .slice none 0 0], []⟩ 8 (by kernel_rfl) (by kernel_rfl) (by kernel_rfl) (by kernel_rfl)) ?_
  intro W base args ds gs before hval0 hW hcnd hsz0 _
  have hval : ∀ (j : Nat) t v, Try.f9.params[j]? = some t → args[j]? = some v → Value.okWide Try.prog W .any base t v := hval0
  have hW' := hW
  obtain ⟨p, q, hA0, hV, rfl, hfz, hnd⟩ := hW
  have hA : DataW.TrodAll enc Try.prog W 0 (fun _ => true) true Try.f9.params.toList args.toList ds p := hA0
  have hsz : (DataW.weightsEach Try.prog (Try.f9.params.toList ++ Rows.valueJoinsSpec.plain.varTypes Try.prog) (ds ++ gs)).all (· ≤ reachBytes) = true := hsz0
  rw [Try.params9] at hA hval hsz
  obtain ⟨v0, vs0, d0, ds0, p0, q0, hargs, rfl, rfl, h0, r0⟩ := trodAll_cons hA
  obtain ⟨v1, vs1, d1, ds1, p1, q1, rfl, rfl, rfl, h1, r1⟩ := trodAll_cons r0
  obtain ⟨rfl, rfl, rfl⟩ := trodAll_nil r1
  obtain rfl : args = #[v0, v1] := by cases args; simp_all
  obtain ⟨rfl, rfl⟩ := trodVars_none hV
  obtain ⟨a0, len0, cap0, rfl⟩ := okWide_slice Try.underlying22 (hval 0 22 v0 rfl rfl)
  have k0 := h0
  have lt0 : ∀ x ∈ p0, x.block < W.heap.size := by obtain ⟨m, hm⟩ := k0; exact DataW.trod_lt m _ _ _ hm
  obtain ⟨l0, rfl, w0⟩ := came_of h0 (fun n hn => by simpa using List.all_eq_true.1 hsz n (DataW.weights_mem_each (j := 0) rfl rfl n hn))
  obtain ⟨a1, len1, cap1, rfl⟩ := okWide_slice Try.underlying22 (hval 1 22 v1 rfl rfl)
  have k1 := h1
  have lt1 : ∀ x ∈ p1, x.block < W.heap.size := by obtain ⟨m, hm⟩ := k1; exact DataW.trod_lt m _ _ _ hm
  obtain ⟨l1, rfl, w1⟩ := came_of h1 (fun n hn => by simpa using List.all_eq_true.1 hsz n (DataW.weights_mem_each (j := 1) rfl rfl n hn))
  clear hA0 hval0
  refine (walk a0 cap0 l0 a1 cap1 l1 W w0 w1).mono fun e W' ⟨he, bel⟩ => ?_
  subst he
  exact ⟨_, rfl, _, _, _, [], _, [], hW', trodAll_mk1 (shut_bool Try.underlying4 _), (trodAll_cons_mk (Below.trod laidOut (by kernel_rfl) (of_decide_eq_true (by kernel_rfl)) k0 bel lt0) (trodAll_cons_mk (Below.trod laidOut (by kernel_rfl) (of_decide_eq_true (by kernel_rfl)) k1 bel lt1) trodAll_mk0)), rfl, bel.frame _, fun h => by cases h⟩

theorem over : Rows.valueJoinsRow.holds Try.pinned (OpenSpec.ofChange Rows.valueJoinsSpec) :=
  OpenClaim.holds_of_wide 9 Try.f9 rfl rfl rfl rfl rfl rfl rfl ⟨rfl, rfl, rfl, rfl, rfl⟩ rfl rfl rfl rfl rfl (by kernel_rfl) Try.func9 (by kernel_rfl)
    (of_decide_eq_true (by kernel_rfl)) (by unfold Func.isWrapper; first | (rw [if_pos (by decide +kernel)]; kernel_rfl) | (rw [if_neg (by decide +kernel)]; exact ⟨rfl, rfl⟩))
    (fun os started H enc _ => lifted os started H enc)

theorem proved : Rows.ValueJoinsSaid := over
#print axioms proved
end Go.Proofs.Yteelknmafnoccaa.valueJoins
