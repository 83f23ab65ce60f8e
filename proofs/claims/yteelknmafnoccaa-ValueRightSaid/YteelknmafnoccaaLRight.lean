/-
  PROVED: for all lists l and m of items the law ValueRight returns true: of two records the first one within an opened item without its end, or with an end too many, is none; one behind the other is one; within an item it is one just if the document says so. Conditions: none; all l and m (nil, empty, any capacity, sharing memory), every memory, schedule and order of evaluation.
-/
import Derived.Test.YteelknmafnoccaaJoinI
import Derived.WalkKit
import Derived.ProofKit
import Derived.OpenShut
import Derived.ShutString
import Derived.ChangeOld
import Derived.Below
namespace Go.Proofs.Yteelknmafnoccaa.valueRight
open Go.ChangeShapes Go.WideShapes Go.ChangeAt Go.RowKit
set_option linter.unusedVariables false

theorem own : ownKnob Try.prog.godebug = none := by kernel_rfl
theorem laidOut : laidOutB Try.prog = true := by kernel_rfl

set_option maxHeartbeats 4000000 in
set_option maxRecDepth 100000 in
theorem walk_many1 (a : Option Addr) (cap : Nat) (l : List It) (b : Option Addr) (cbp : Nat) (m : List It) (w : World) (hcl : Came w a cap l) (hcm : Came w b cbp m) (fm : Bool) (hfl : fewB l = false) (hfm : fewB m = fm) : Calls Try.prog 8 #[.slice a l.length cap, .slice b m.length cbp] w fun e w' => e = .returned (.bool true) ∧ Below w.heap.size w w' := by
  have T1 : True := trivial
  have T2 : True := trivial
  have HFL : Hid (∀ W, Below w.heap.size w W → Calls Try.prog 11 #[.slice a l.length cap] W fun e w' => e = .returned (.bool false) ∧ W = w') := Lib.hid fun W hW => by
    have h := few_any a cap l (by have := hcl.le; have := hcl.cap; omega) hcl.bs W ((hcl.rd.below hW).mono hW.size)
    rwa [hfl] at h
  have HFM : Hid (∀ W, Below w.heap.size w W → Calls Try.prog 11 #[.slice b m.length cbp] W fun e w' => e = .returned (.bool fm) ∧ W = w') := Lib.hid fun W hW => by
    have h := few_any b cbp m (by have := hcm.le; have := hcm.cap; omega) hcm.bs W ((hcm.rd.below hW).mono hW.size)
    rwa [hfm] at h
  clear hcl hcm hfl hfm
  go_enter Try.func8, Try.ntmps8
  go_wp2_with (first
    | (go_at_call 10; refine (awakev_any _).mono ?_; rintro e W1 ⟨rfl, hb⟩; have H1 := Lib.hid hb; clear hb)
    | (go_at_call 11; have _t := T1; (with_reducible refine (HFL.out _ H1.out).mono ?_); rintro e W1' ⟨rfl, rfl⟩; clear T1)
    | (go_at_call 11; have _t := T2; (with_reducible refine (HFM.out _ H1.out).mono ?_); rintro e W1' ⟨rfl, rfl⟩; clear T2))
  go_ret
  exact ⟨rfl, H1.out⟩

set_option maxHeartbeats 4000000 in
set_option maxRecDepth 100000 in
theorem walk_many2 (a : Option Addr) (cap : Nat) (l : List It) (b : Option Addr) (cbp : Nat) (m : List It) (w : World) (hcl : Came w a cap l) (hcm : Came w b cbp m) (hfl : fewB l = true) (hfm : fewB m = false) : Calls Try.prog 8 #[.slice a l.length cap, .slice b m.length cbp] w fun e w' => e = .returned (.bool true) ∧ Below w.heap.size w w' := by
  have T1 : True := trivial
  have T2 : True := trivial
  have HFL : Hid (∀ W, Below w.heap.size w W → Calls Try.prog 11 #[.slice a l.length cap] W fun e w' => e = .returned (.bool true) ∧ W = w') := Lib.hid fun W hW => by
    have h := few_any a cap l (by have := hcl.le; have := hcl.cap; omega) hcl.bs W ((hcl.rd.below hW).mono hW.size)
    rwa [hfl] at h
  have HFM : Hid (∀ W, Below w.heap.size w W → Calls Try.prog 11 #[.slice b m.length cbp] W fun e w' => e = .returned (.bool false) ∧ W = w') := Lib.hid fun W hW => by
    have h := few_any b cbp m (by have := hcm.le; have := hcm.cap; omega) hcm.bs W ((hcm.rd.below hW).mono hW.size)
    rwa [hfm] at h
  clear hcl hcm hfl hfm
  go_enter Try.func8, Try.ntmps8
  go_wp2_with (first
    | (go_at_call 10; refine (awakev_any _).mono ?_; rintro e W1 ⟨rfl, hb⟩; have H1 := Lib.hid hb; clear hb)
    | (go_at_call 11; have _t := T1; (with_reducible refine (HFL.out _ H1.out).mono ?_); rintro e W1' ⟨rfl, rfl⟩; clear T1)
    | (go_at_call 11; have _t := T2; (with_reducible refine (HFM.out _ H1.out).mono ?_); rintro e W1' ⟨rfl, rfl⟩; clear T2))
  go_ret
  exact ⟨rfl, H1.out⟩

set_option maxHeartbeats 4000000 in
set_option maxRecDepth 100000 in
theorem walk_not1 (a : Option Addr) (cap : Nat) (l : List It) (b : Option Addr) (cbp : Nat) (m : List It) (w : World) (hcl : Came w a cap l) (hcm : Came w b cbp m) (hfl : fewB l = true) (hfm : fewB m = true) (hrl : rightB l = false) : Calls Try.prog 8 #[.slice a l.length cap, .slice b m.length cbp] w fun e w' => e = .returned (.bool true) ∧ Below w.heap.size w w' := by
  have T1 : True := trivial
  have T2 : True := trivial
  have HFL : Hid (∀ W, Below w.heap.size w W → Calls Try.prog 11 #[.slice a l.length cap] W fun e w' => e = .returned (.bool true) ∧ W = w') := Lib.hid fun W hW => by
    have h := few_any a cap l (by have := hcl.le; have := hcl.cap; omega) hcl.bs W ((hcl.rd.below hW).mono hW.size)
    rwa [hfl] at h
  have HFM : Hid (∀ W, Below w.heap.size w W → Calls Try.prog 11 #[.slice b m.length cbp] W fun e w' => e = .returned (.bool true) ∧ W = w') := Lib.hid fun W hW => by
    have h := few_any b cbp m (by have := hcm.le; have := hcm.cap; omega) hcm.bs W ((hcm.rd.below hW).mono hW.size)
    rwa [hfm] at h
  have HRL : Hid (∀ W, Below w.heap.size w W → Calls Try.prog 14 #[.slice a l.length cap] W fun e w' => e = .returned (.bool false) ∧ Below W.heap.size W w') := Lib.hid fun W hW => by
    have h := pright_any a cap l (by have := hcl.le; have := hcl.cap; omega) W ((hcl.rd.below hW).mono hW.size)
    rwa [hrl] at h
  have T3 : True := trivial
  clear hcl hcm hfl hfm hrl
  go_enter Try.func8, Try.ntmps8
  go_wp2_with (first
    | (go_at_call 10; refine (awakev_any _).mono ?_; rintro e W1 ⟨rfl, hb⟩; have H1 := Lib.hid hb; clear hb)
    | (go_at_call 11; have _t := T1; (with_reducible refine (HFL.out _ H1.out).mono ?_); rintro e W1' ⟨rfl, rfl⟩; clear T1)
    | (go_at_call 11; have _t := T2; (with_reducible refine (HFM.out _ H1.out).mono ?_); rintro e W1' ⟨rfl, rfl⟩; clear T2)
    | (go_at_call 14; have _t := T3; (with_reducible refine (HRL.out _ H1.out).mono ?_); rintro e W2 ⟨rfl, hb⟩; have H2 := Lib.hid (H1.out.trans (hb.mono H1.out.size)); clear hb T3))
  go_ret
  exact ⟨rfl, H2.out⟩

set_option maxHeartbeats 4000000 in
set_option maxRecDepth 100000 in
theorem walk_not2 (a : Option Addr) (cap : Nat) (l : List It) (b : Option Addr) (cbp : Nat) (m : List It) (w : World) (hcl : Came w a cap l) (hcm : Came w b cbp m) (hfl : fewB l = true) (hfm : fewB m = true) (hrl : rightB l = true) (hrm : rightB m = false) : Calls Try.prog 8 #[.slice a l.length cap, .slice b m.length cbp] w fun e w' => e = .returned (.bool true) ∧ Below w.heap.size w w' := by
  have T1 : True := trivial
  have T2 : True := trivial
  have HFL : Hid (∀ W, Below w.heap.size w W → Calls Try.prog 11 #[.slice a l.length cap] W fun e w' => e = .returned (.bool true) ∧ W = w') := Lib.hid fun W hW => by
    have h := few_any a cap l (by have := hcl.le; have := hcl.cap; omega) hcl.bs W ((hcl.rd.below hW).mono hW.size)
    rwa [hfl] at h
  have HFM : Hid (∀ W, Below w.heap.size w W → Calls Try.prog 11 #[.slice b m.length cbp] W fun e w' => e = .returned (.bool true) ∧ W = w') := Lib.hid fun W hW => by
    have h := few_any b cbp m (by have := hcm.le; have := hcm.cap; omega) hcm.bs W ((hcm.rd.below hW).mono hW.size)
    rwa [hfm] at h
  have HRL : Hid (∀ W, Below w.heap.size w W → Calls Try.prog 14 #[.slice a l.length cap] W fun e w' => e = .returned (.bool true) ∧ Below W.heap.size W w') := Lib.hid fun W hW => by
    have h := pright_any a cap l (by have := hcl.le; have := hcl.cap; omega) W ((hcl.rd.below hW).mono hW.size)
    rwa [hrl] at h
  have T3 : True := trivial
  have HRM : Hid (∀ W, Below w.heap.size w W → Calls Try.prog 14 #[.slice b m.length cbp] W fun e w' => e = .returned (.bool false) ∧ Below W.heap.size W w') := Lib.hid fun W hW => by
    have h := pright_any b cbp m (by have := hcm.le; have := hcm.cap; omega) W ((hcm.rd.below hW).mono hW.size)
    rwa [hrm] at h
  have T4 : True := trivial
  clear hcl hcm hfl hfm hrl hrm
  go_enter Try.func8, Try.ntmps8
  go_wp2_with (first
    | (go_at_call 10; refine (awakev_any _).mono ?_; rintro e W1 ⟨rfl, hb⟩; have H1 := Lib.hid hb; clear hb)
    | (go_at_call 11; have _t := T1; (with_reducible refine (HFL.out _ H1.out).mono ?_); rintro e W1' ⟨rfl, rfl⟩; clear T1)
    | (go_at_call 11; have _t := T2; (with_reducible refine (HFM.out _ H1.out).mono ?_); rintro e W1' ⟨rfl, rfl⟩; clear T2)
    | (go_at_call 14; have _t := T3; (with_reducible refine (HRL.out _ H1.out).mono ?_); rintro e W2 ⟨rfl, hb⟩; have H2 := Lib.hid (H1.out.trans (hb.mono H1.out.size)); clear hb T3)
    | (go_at_call 14; have _t := T4; (with_reducible refine (HRM.out _ H2.out).mono ?_); rintro e W3 ⟨rfl, hb⟩; have H3 := Lib.hid (H2.out.trans (hb.mono H2.out.size)); clear hb T4))
  go_ret
  exact ⟨rfl, H3.out⟩

set_option maxHeartbeats 4000000 in
set_option maxRecDepth 100000 in
theorem walk_both (a : Option Addr) (cap : Nat) (l : List It) (b : Option Addr) (cbp : Nat) (m : List It) (w : World) (hcl : Came w a cap l) (hcm : Came w b cbp m) (hfl : fewB l = true) (hfm : fewB m = true) (hrl : rightB l = true) (hrm : rightB m = true) (R : Bool) (hR : rightB (([] ++ ([(⟨3, 1, 0, []⟩ : It)] ++ l)) ++ [(⟨4, 0, 0, []⟩ : It)]) = R) : Calls Try.prog 8 #[.slice a l.length cap, .slice b m.length cbp] w fun e w' => e = .returned (.bool true) ∧ Below w.heap.size w w' := by
  obtain ⟨hl, _⟩ := few_small hfl
  obtain ⟨hm, _⟩ := few_small hfm
  have T1 : True := trivial
  have T2 : True := trivial
  have HFL : Hid (∀ W, Below w.heap.size w W → Calls Try.prog 11 #[.slice a l.length cap] W fun e w' => e = .returned (.bool true) ∧ W = w') := Lib.hid fun W hW => by
    have h := few_any a cap l (by have := hcl.le; have := hcl.cap; omega) hcl.bs W ((hcl.rd.below hW).mono hW.size)
    rwa [hfl] at h
  have HFM : Hid (∀ W, Below w.heap.size w W → Calls Try.prog 11 #[.slice b m.length cbp] W fun e w' => e = .returned (.bool true) ∧ W = w') := Lib.hid fun W hW => by
    have h := few_any b cbp m (by have := hcm.le; have := hcm.cap; omega) hcm.bs W ((hcm.rd.below hW).mono hW.size)
    rwa [hfm] at h
  have HRL : Hid (∀ W, Below w.heap.size w W → Calls Try.prog 14 #[.slice a l.length cap] W fun e w' => e = .returned (.bool true) ∧ Below W.heap.size W w') := Lib.hid fun W hW => by
    have h := pright_any a cap l (by have := hcl.le; have := hcl.cap; omega) W ((hcl.rd.below hW).mono hW.size)
    rwa [hrl] at h
  have T3 : True := trivial
  have HRM : Hid (∀ W, Below w.heap.size w W → Calls Try.prog 14 #[.slice b m.length cbp] W fun e w' => e = .returned (.bool true) ∧ Below W.heap.size W w') := Lib.hid fun W hW => by
    have h := pright_any b cbp m (by have := hcm.le; have := hcm.cap; omega) W ((hcm.rd.below hW).mono hW.size)
    rwa [hrm] at h
  have T4 : True := trivial
  have RL := Lib.hid hcl.rd
  have RM := Lib.hid hcm.rd
  have HB1 := Lib.hid (right_open hrl)
  have HB3 := Lib.hid (show rightB (([] ++ l) ++ [(⟨4, 0, 0, []⟩ : It)]) = false from right_closed hrl)
  have HB5 := Lib.hid (show rightB (([] ++ l) ++ m) = true from right_both hrl hrm)
  have HB7 := Lib.hid hR
  have A1 : True := trivial
  have A2 : True := trivial
  have A3 : True := trivial
  have A4 : True := trivial
  have A5 : True := trivial
  have A6 : True := trivial
  have A7 : True := trivial
  have C1 : True := trivial
  have C2 : True := trivial
  have C3 : True := trivial
  have C4 : True := trivial
  have C5 : True := trivial
  clear hcl hcm hfl hfm hrl hrm hR
  go_enter Try.func8, Try.ntmps8
  go_wp2_with (first
    | (go_at_call 10; refine (awakev_any _).mono ?_; rintro e W1 ⟨rfl, hb⟩; have H1 := Lib.hid hb; clear hb)
    | (go_at_call 11; have _t := T1; (with_reducible refine (HFL.out _ H1.out).mono ?_); rintro e W1' ⟨rfl, rfl⟩; clear T1)
    | (go_at_call 11; have _t := T2; (with_reducible refine (HFM.out _ H1.out).mono ?_); rintro e W1' ⟨rfl, rfl⟩; clear T2)
    | (go_at_call 14; have _t := T3; (with_reducible refine (HRL.out _ H1.out).mono ?_); rintro e W2 ⟨rfl, hb⟩; have H2 := Lib.hid (H1.out.trans (hb.mono H1.out.size)); clear hb T3)
    | (go_at_call 14; have _t := T4; (with_reducible refine (HRM.out _ H2.out).mono ?_); rintro e W3 ⟨rfl, hb⟩; have H3 := Lib.hid (H2.out.trans (hb.mono H2.out.size)); clear hb T4)
    | (at_builtin; have _t := A1; refine wpList_append_items rfl _ _ rfl W3.heap.size _ [(⟨3, 1, 0, []⟩ : It)] rfl (OwnI.one W3 (⟨3, 1, 0, []⟩ : It) (A := none) (cap := 0) (Nat.le_refl _) (Nat.zero_le _) (fun hp => by simp at hp)) a l l.length cap rfl rfl ((RL.out.below (H3.out.alloc H3.out.size _)).mono H3.out.size).src (by simp; omega) ?hb1 ?_; (case hb1 => exact (by simp)); intro v1 Y1 ho hb _; obtain ⟨V1, n1, c1, rfl, hn', hc'⟩ := ho.form_n; have S := hb.size; have H4 := Lib.hid ((H3.out.alloc H3.out.size _).trans (hb.mono H3.out.size)); have HN1 := Lib.hid hn'; have R1 := Lib.hid (ho.rd (n₁ := Y1.heap.size) (by simp at S; omega) (Nat.le_refl _)); clear S; clear ho hb hn' hc' A1)
    | (at_builtin; have _t := A2; refine wpList_append_items rfl _ _ rfl Y1.heap.size _ [] rfl (OwnI.empty Y1) a l l.length cap rfl rfl ((RL.out.below (H4.out.alloc H4.out.size _)).mono H4.out.size).src (by simp; omega) ?hb2 ?_; (case hb2 => exact (by simp)); intro v2 Y2 ho hb _; obtain ⟨V2, n2, c2, rfl, hn', hc'⟩ := ho.form_n; have H5 := Lib.hid ((H4.out.alloc H4.out.size _).trans (hb.mono H4.out.size)); have HN2 := Lib.hid hn'; have O2 := Lib.hid ho; have K1 := Lib.hid (((Below.refl Y1.heap.size Y1).alloc (Nat.le_refl _) _).trans hb); clear ho hb hn' hc' A2)
    | (at_builtin; have _t := A3; refine wpList_append_items rfl _ _ rfl Y1.heap.size _ ([] ++ l) rfl (O2.out.below ((Below.refl Y2.heap.size Y2).alloc (Nat.le_refl _) (.cells #[.int .i64 4, .int .i64 0, .int .i64 0, .slice none 0 0] 41)) (.inl (Nat.le_refl _)) K1.out.size) (some ⟨Y2.heap.size, 0, none⟩) [(⟨4, 0, 0, []⟩ : It)] 1 1 rfl rfl (SrcI.one _ Y2 4 0 0) (by simp; omega) ?hb3 ?_; (case hb3 => exact (by have := K1.out.size; simp; omega)); intro v3 Y3 ho hb _; obtain ⟨V3, n3, c3, rfl, hn', hc'⟩ := ho.form_n; have S := hb.size; have H6 := Lib.hid ((H5.out.alloc H5.out.size _).trans (hb.mono H4.out.size)); have HN3 := Lib.hid hn'; have K2 := Lib.hid ((K1.out.alloc K1.out.size _).trans hb); have R3 := Lib.hid (ho.rd (n₁ := Y3.heap.size) (by have := K2.out.size; omega) (Nat.le_refl _)); clear S; clear ho hb hn' hc' A3)
    | (at_builtin; have _t := A4; refine wpList_append_items rfl _ _ rfl Y3.heap.size _ [] rfl (OwnI.empty Y3) a l l.length cap rfl rfl ((RL.out.below (H6.out.alloc H6.out.size _)).mono H6.out.size).src (by simp; omega) ?hb4 ?_; (case hb4 => exact (by simp)); intro v4 Y4 ho hb _; obtain ⟨V4, n4, c4, rfl, hn', hc'⟩ := ho.form_n; have H7 := Lib.hid ((H6.out.alloc H6.out.size _).trans (hb.mono H6.out.size)); have HN4 := Lib.hid hn'; have O4 := Lib.hid ho; have K3 := Lib.hid (((Below.refl Y3.heap.size Y3).alloc (Nat.le_refl _) _).trans hb); clear ho hb hn' hc' A4)
    | (at_builtin; have _t := A5; refine wpList_append_items rfl _ _ rfl Y3.heap.size _ ([] ++ l) rfl O4.out b m m.length cbp rfl rfl ((RM.out.below H7.out).mono H6.out.size).src (by simp; omega) ?hb5 ?_; (case hb5 => exact K3.out.size); intro v5 Y5 ho hb _; obtain ⟨V5, n5, c5, rfl, hn', hc'⟩ := ho.form_n; have H8 := Lib.hid (H7.out.trans (hb.mono H6.out.size)); have HN5 := Lib.hid hn'; have K4 := Lib.hid (K3.out.trans hb); have R5 := Lib.hid (ho.rd (n₁ := Y5.heap.size) (by have := K4.out.size; omega) (Nat.le_refl _)); clear ho hb hn' hc' A5)
    | (at_builtin; have _t := A6; refine wpList_append_items rfl _ _ rfl Y5.heap.size _ [] rfl (OwnI.empty Y5) V1 ([(⟨3, 1, 0, []⟩ : It)] ++ l) n1 c1 rfl HN1.out ((R1.out.below ((K2.out.trans (K4.out.mono K2.out.size)).alloc (by have := K2.out.size; have := K4.out.size; omega) _)).mono (by have := K2.out.size; have := K4.out.size; omega)).src (by simp; omega) ?hb6 ?_; (case hb6 => exact (by simp)); intro v6 Y6 ho hb _; obtain ⟨V6, n6, c6, rfl, hn', hc'⟩ := ho.form_n; have H9 := Lib.hid ((H8.out.alloc H8.out.size _).trans (hb.mono H8.out.size)); have HN6 := Lib.hid hn'; have O6 := Lib.hid ho; have K5 := Lib.hid (((Below.refl Y5.heap.size Y5).alloc (Nat.le_refl _) _).trans hb); clear ho hb hn' hc' A6)
    | (at_builtin; have _t := A7; refine wpList_append_items rfl _ _ rfl Y5.heap.size _ ([] ++ ([(⟨3, 1, 0, []⟩ : It)] ++ l)) rfl (O6.out.below ((Below.refl Y6.heap.size Y6).alloc (Nat.le_refl _) (.cells #[.int .i64 4, .int .i64 0, .int .i64 0, .slice none 0 0] 41)) (.inl (Nat.le_refl _)) K5.out.size) (some ⟨Y6.heap.size, 0, none⟩) [(⟨4, 0, 0, []⟩ : It)] 1 1 rfl rfl (SrcI.one _ Y6 4 0 0) (by simp; omega) ?hb7 ?_; (case hb7 => exact (by have := K5.out.size; simp; omega)); intro v7 Y7 ho hb _; obtain ⟨V7, n7, c7, rfl, hn', hc'⟩ := ho.form_n; have H10 := Lib.hid ((H9.out.alloc H9.out.size _).trans (hb.mono H8.out.size)); have HN7 := Lib.hid hn'; have K6 := Lib.hid ((K5.out.alloc K5.out.size _).trans hb); have R7 := Lib.hid (ho.rd (n₁ := Y7.heap.size) (by have := K6.out.size; omega) (Nat.le_refl _)); have Q5 := Lib.hid ((R5.out.below K6.out).mono K6.out.size); have Q3 := Lib.hid ((R3.out.below (K4.out.trans (K6.out.mono K4.out.size))).mono (K4.out.trans (K6.out.mono K4.out.size)).size); have KK := Lib.hid (K2.out.trans ((K4.out.trans (K6.out.mono K4.out.size)).mono K2.out.size)); have Q1 := Lib.hid ((R1.out.below KK.out).mono KK.out.size); have G0 := H10; have Qa0 := Q1; have Qb0 := Q3; have Qc0 := Q5; have Qd0 := R7; clear ho hb hn' hc' A7)
    | (go_at_call 14; have _t := C1; (with_reducible refine (pright_n HN1.out (by simp; omega) Qa0.out HB1.out).mono ?_); rintro e Z1 ⟨rfl, hb⟩; have G1 := Lib.hid (G0.out.trans (hb.mono G0.out.size)); have Qb1 := Lib.hid ((Qb0.out.below hb).mono hb.size); have Qc1 := Lib.hid ((Qc0.out.below hb).mono hb.size); have Qd1 := Lib.hid ((Qd0.out.below hb).mono hb.size); clear hb C1)
    | (go_at_call 14; have _t := C2; (with_reducible refine (pright_n HN3.out (by simp; omega) Qb1.out HB3.out).mono ?_); rintro e Z2 ⟨rfl, hb⟩; have G2 := Lib.hid (G1.out.trans (hb.mono G1.out.size)); have Qc2 := Lib.hid ((Qc1.out.below hb).mono hb.size); have Qd2 := Lib.hid ((Qd1.out.below hb).mono hb.size); clear hb C2)
    | (go_at_call 14; have _t := C3; (with_reducible refine (pright_n HN5.out (by simp; omega) Qc2.out HB5.out).mono ?_); rintro e Z3 ⟨rfl, hb⟩; have G3 := Lib.hid (G2.out.trans (hb.mono G2.out.size)); have Qd3 := Lib.hid ((Qd2.out.below hb).mono hb.size); clear hb C3)
    | (go_at_call 14; have _t := C4; (with_reducible refine (pright_n HN7.out (by simp; omega) Qd3.out HB7.out).mono ?_); rintro e Z4 ⟨rfl, hb⟩; have G4 := Lib.hid (G3.out.trans (hb.mono G3.out.size)); have Qd4 := Lib.hid ((Qd3.out.below hb).mono hb.size); clear hb C4)
    | (go_at_call 15; have _t := C5; (with_reducible refine (right_n HN7.out (by simp; omega) Qd4.out HB7.out).mono ?_); rintro e Z5 ⟨rfl, hb⟩; have G5 := Lib.hid (G4.out.trans (hb.mono G4.out.size)); clear hb C5))
  go_ret
  exact ⟨by simp, G5.out⟩

theorem walk (a : Option Addr) (cap : Nat) (l : List It) (b : Option Addr) (cbp : Nat) (m : List It) (w : World) (hcl : Came w a cap l) (hcm : Came w b cbp m) : Calls Try.prog 8 #[.slice a l.length cap, .slice b m.length cbp] w fun e w' => e = .returned (.bool true) ∧ Below w.heap.size w w' := by
  rcases Bool.eq_false_or_eq_true (fewB l) with hfl | hfl
  · rcases Bool.eq_false_or_eq_true (fewB m) with hfm | hfm
    · rcases Bool.eq_false_or_eq_true (rightB l) with hrl | hrl
      · rcases Bool.eq_false_or_eq_true (rightB m) with hrm | hrm
        · exact walk_both a cap l b cbp m w hcl hcm hfl hfm hrl hrm _ rfl
        · exact walk_not2 a cap l b cbp m w hcl hcm hfl hfm hrl hrm
      · exact walk_not1 a cap l b cbp m w hcl hcm hfl hfm hrl
    · exact walk_many2 a cap l b cbp m w hcl hcm hfl hfm
  · exact walk_many1 a cap l b cbp m w hcl hcm _ hfl rfl


set_option maxRecDepth 100000 in
theorem lifted (os : Os) (started : os.Started) (H : Type) (enc : TypeId × Value → H) :
    ReturnsInHanded {} Try.checked os 8 .any (Rows.valueRightSpec.pre6 enc Try.prog Try.f8 Rows.valueRightRow.domain false) (Rows.valueRightSpec.post enc Try.prog Try.f8 false true false false) := by
  refine returnsInHanded_of_change_sized (C := Try.checked) own started (by kernel_rfl) Try.func8
    (ChangeSpec.witness6 (enc := enc) (C := Try.checked) false ⟨#[], #[.slice none 0 0, .slice none 0 0], []⟩ 8 (by kernel_rfl) (by kernel_rfl) (by kernel_rfl) (by kernel_rfl)) ?_
  intro W base args ds gs before hval0 hW hcnd hsz0 _
  have hval : ∀ (j : Nat) t v, Try.f8.params[j]? = some t → args[j]? = some v → Value.okWide Try.prog W .any base t v := hval0
  have hW' := hW
  obtain ⟨p, q, hA0, hV, rfl, hfz, hnd⟩ := hW
  have hA : DataW.TrodAll enc Try.prog W 0 (fun _ => true) true Try.f8.params.toList args.toList ds p := hA0
  have hsz : (DataW.weightsEach Try.prog (Try.f8.params.toList ++ Rows.valueRightSpec.plain.varTypes Try.prog) (ds ++ gs)).all (· ≤ reachBytes) = true := hsz0
  rw [Try.params8] at hA hval hsz
  obtain ⟨v0, vs0, d0, ds0, p0, q0, hargs, rfl, rfl, h0, r0⟩ := trodAll_cons hA
  obtain ⟨v1, vs1, d1, ds1, p1, q1, rfl, rfl, rfl, h1, r1⟩ := trodAll_cons r0
  obtain ⟨rfl, rfl, rfl⟩ := trodAll_nil r1
  obtain rfl : args = #[v0, v1] := by cases args; simp_all
  obtain ⟨rfl, rfl⟩ := trodVars_none hV
  obtain ⟨a0, len0, cap0, rfl⟩ := okWide_slice Try.underlying22 (hval 0 22 v0 rfl rfl)
  have k0 := h0
  have lt0 : ∀ x ∈ p0, x.block < W.heap.size := by obtain ⟨m, hm⟩ := k0; exact DataW.trod_lt m _ _ _ hm
  obtain ⟨l0, rfl, w0⟩ := came_of h0 (fun n hn => by simpa using List.all_eq_true.1 hsz n (DataW.weights_mem_each (j := 0) rfl rfl n hn))
  obtain ⟨a1, len1, cap1, rfl⟩ := okWide_slice Try.underlying22 (hval 1 22 v1 rfl rfl)
  have k1 := h1
  have lt1 : ∀ x ∈ p1, x.block < W.heap.size := by obtain ⟨m, hm⟩ := k1; exact DataW.trod_lt m _ _ _ hm
  obtain ⟨l1, rfl, w1⟩ := came_of h1 (fun n hn => by simpa using List.all_eq_true.1 hsz n (DataW.weights_mem_each (j := 1) rfl rfl n hn))
  clear hA0 hval0
  refine (walk a0 cap0 l0 a1 cap1 l1 W w0 w1).mono fun e W' ⟨he, bel⟩ => ?_
  subst he
  exact ⟨_, rfl, _, _, _, [], _, [], hW', trodAll_mk1 (shut_bool Try.underlying4 _), (trodAll_cons_mk (Below.trod laidOut (by kernel_rfl) (of_decide_eq_true (by kernel_rfl)) k0 bel lt0) (trodAll_cons_mk (Below.trod laidOut (by kernel_rfl) (of_decide_eq_true (by kernel_rfl)) k1 bel lt1) trodAll_mk0)), rfl, bel.frame _, fun h => by cases h⟩

theorem over : Rows.valueRightRow.holds Try.pinned (OpenSpec.ofChange Rows.valueRightSpec) :=
  OpenClaim.holds_of_wide 8 Try.f8 rfl rfl rfl rfl rfl rfl rfl ⟨rfl, rfl, rfl, rfl, rfl⟩ rfl rfl rfl rfl rfl (by kernel_rfl) Try.func8 (by kernel_rfl)
    (of_decide_eq_true (by kernel_rfl)) (by unfold Func.isWrapper; first | (rw [if_pos (by decide +kernel)]; kernel_rfl) | (rw [if_neg (by decide +kernel)]; exact ⟨rfl, rfl⟩))
    (fun os started H enc _ => lifted os started H enc)

theorem proved : Rows.ValueRightSaid := over
#print axioms proved
end Go.Proofs.Yteelknmafnoccaa.valueRight
