/-
  PROVED: for every list l of items and every slice b of bytes the law ValueBack returns true: the bytes of a record are decoded as it; any bytes that are decoded are those of their record, and else the error is ErrForm and there are no items. Conditions: none; all l and b (nil, empty, any capacity, sharing memory), every memory, schedule and order of evaluation.
-/
import Derived.Test.YteelknmafnoccaaJoinI
import Derived.Test.YteelknmafnoccaaPDec2
import Derived.Test.YteelknmafnoccaaSame
import Derived.WalkKit
import Derived.ProofKit
import Derived.OpenShut
import Derived.ShutString
import Derived.ChangeOld
import Derived.Below
namespace Go.Proofs.Yteelknmafnoccaa.valueBack
open Go.ChangeShapes Go.WideShapes Go.ChangeAt Go.RowKit
set_option linter.unusedVariables false

theorem own : ownKnob Try.prog.godebug = none := by kernel_rfl
theorem laidOut : laidOutB Try.prog = true := by kernel_rfl

/-- Items came out, in memory of their own. -/
def GotI (l : List It) (w : World) (e : Ending) (w' : World) : Prop :=
  ∃ A n c, e = .returned (.tuple #[.slice A n c, .int .i64 0]) ∧ n = l.length ∧ n ≤ c ∧ c ≤ maxLen ∧ RdI w'.heap.size w' A l ∧ Below w.heap.size w w'
theorem decoded_some {r : Option (List It)} {l : List It} (hr : r = some l) {w w' : World} {e : Ending} (h : Decoded r w e w') : GotI l w e w' := by
  subst hr
  exact h
theorem decoded_none {r : Option (List It)} (hr : r = none) {w w' : World} {e : Ending} (h : Decoded r w e w') : e = .returned (.tuple #[.slice none 0 0, .int .i64 2]) ∧ Below w.heap.size w w' := by
  subst hr
  exact h
theorem same_n {a b : Option Addr} {n m c1 c2 : Nat} {l : List It} (hn : n = l.length) (hm : m = l.length) (hlen : l.length ≤ 140737488351232) {w : World} (hra : RdI w.heap.size w a l) (hrb : RdI w.heap.size w b l) :
    Calls Try.prog 18 #[.slice a n c1, .slice b m c2] w fun e w' => e = .returned (.bool true) ∧ Below w.heap.size w w' := by
  subst hn hm
  exact same_items a b c1 c2 l hlen w hra hrb
theorem encL_range {l : List It} (hok : ∀ x ∈ l, x.ok) : ∀ y ∈ encL l, 0 ≤ y ∧ y ≤ 255 := by
  intro y hy
  obtain ⟨x, hx, hy⟩ := List.mem_flatMap.1 hy
  unfold itemL at hy
  rcases List.mem_append.1 hy with h | h
  · exact putL_range _ y h
  · split at h
    · exact putL_range _ y h
    · split at h
      · rcases List.mem_append.1 h with h | h
        · exact putL_range _ y h
        · exact wf_u8 ((hok x hx).2.2.2 y h)
      · simp at h

set_option maxHeartbeats 4000000 in
set_option maxRecDepth 100000 in
theorem walk_many (a : Option Addr) (cap : Nat) (l : List It) (b : Option Addr) (cbp : Nat) (zb : List Int) (w : World) (hcl : Came w a cap l) (hzc : zb.length ≤ cbp) (hzm : cbp ≤ 9223372036854775807) (hbz : ∀ x ∈ zb, 0 ≤ x ∧ x ≤ 255) (hrb : Rd .u8 w.heap.size w b zb) (hfl : fewB l = false) : Calls Try.prog 6 #[.slice a l.length cap, .slice b zb.length cbp] w fun e w' => e = .returned (.bool true) ∧ Below w.heap.size w w' := by
  have HFL : Hid (∀ W, Below w.heap.size w W → Calls Try.prog 11 #[.slice a l.length cap] W fun e w' => e = .returned (.bool false) ∧ W = w') := Lib.hid fun W hW => by
    have h := few_any a cap l (by have := hcl.le; have := hcl.cap; omega) hcl.bs W ((hcl.rd.below hW).mono hW.size)
    rwa [hfl] at h
  clear hcl hfl hbz hrb
  go_enter Try.func6, Try.ntmps6
  go_wp2_with (first
    | (go_at_call 10; refine (awakev_any _).mono ?_; rintro e W1 ⟨rfl, hb⟩; have H1 := Lib.hid hb; clear hb)
    | (go_at_call 11; (with_reducible refine (HFL.out _ H1.out).mono ?_); rintro e W1' ⟨rfl, rfl⟩))
  go_ret
  exact ⟨rfl, H1.out⟩

set_option maxHeartbeats 4000000 in
set_option maxRecDepth 100000 in
theorem walk_long (a : Option Addr) (cap : Nat) (l : List It) (b : Option Addr) (cbp : Nat) (zb : List Int) (w : World) (hcl : Came w a cap l) (hzc : zb.length ≤ cbp) (hzm : cbp ≤ 9223372036854775807) (hbz : ∀ x ∈ zb, 0 ≤ x ∧ x ≤ 255) (hrb : Rd .u8 w.heap.size w b zb) (hfl : fewB l = true) (hlong : 6000 < zb.length) : Calls Try.prog 6 #[.slice a l.length cap, .slice b zb.length cbp] w fun e w' => e = .returned (.bool true) ∧ Below w.heap.size w w' := by
  have HFL : Hid (∀ W, Below w.heap.size w W → Calls Try.prog 11 #[.slice a l.length cap] W fun e w' => e = .returned (.bool true) ∧ W = w') := Lib.hid fun W hW => by
    have h := few_any a cap l (by have := hcl.le; have := hcl.cap; omega) hcl.bs W ((hcl.rd.below hW).mono hW.size)
    rwa [hfl] at h
  clear hcl hfl hbz hrb
  go_enter Try.func6, Try.ntmps6
  go_wp2_with (first
    | (go_at_call 10; refine (awakev_any _).mono ?_; rintro e W1 ⟨rfl, hb⟩; have H1 := Lib.hid hb; clear hb)
    | (go_at_call 11; (with_reducible refine (HFL.out _ H1.out).mono ?_); rintro e W1' ⟨rfl, rfl⟩))
  go_ret
  exact ⟨rfl, H1.out⟩

set_option maxHeartbeats 4000000 in
set_option maxRecDepth 100000 in
theorem walk_arg_no (a : Option Addr) (cap : Nat) (l : List It) (b : Option Addr) (cbp : Nat) (zb : List Int) (w : World) (hcl : Came w a cap l) (hzc : zb.length ≤ cbp) (hzm : cbp ≤ 9223372036854775807) (hbz : ∀ x ∈ zb, 0 ≤ x ∧ x ≤ 255) (hrb : Rd .u8 w.heap.size w b zb) (hfl : fewB l = true) (hb6 : zb.length ≤ 6000) (hr : rightB l = false) (hdb : decB zb = none) : Calls Try.prog 6 #[.slice a l.length cap, .slice b zb.length cbp] w fun e w' => e = .returned (.bool true) ∧ Below w.heap.size w w' := by
  have HFL : Hid (∀ W, Below w.heap.size w W → Calls Try.prog 11 #[.slice a l.length cap] W fun e w' => e = .returned (.bool true) ∧ W = w') := Lib.hid fun W hW => by
    have h := few_any a cap l (by have := hcl.le; have := hcl.cap; omega) hcl.bs W ((hcl.rd.below hW).mono hW.size)
    rwa [hfl] at h
  obtain ⟨hl, hbL⟩ := few_small hfl
  have HEL : Hid (∀ W, Below w.heap.size w W → Calls Try.prog 12 #[.slice a l.length cap] W (fun e w' => e = .returned (.tuple #[.slice none 0 0, .int .i64 1]) ∧ Below W.heap.size W w')) := Lib.hid fun W hW =>
    (pencode_any a cap l (by omega) (fun x hx => by have := hbL x hx; omega) hcl.ok W ((hcl.rd.below hW).mono hW.size)).mono fun e w' h => h.arg hr
  have EL : True := trivial
  have HD2 : Hid (∀ W, Below w.heap.size w W → Calls Try.prog 16 #[.slice b zb.length cbp] W (fun e w' => e = .returned (.tuple #[.slice none 0 0, .int .i64 2]) ∧ Below W.heap.size W w')) := Lib.hid fun W hW =>
    (pdecode_any b cbp zb (by omega) hzc hzm hbz W ((hrb.below hW).mono hW.size)).mono fun e w' h => decoded_none hdb h
  have D2 : True := trivial
  clear hcl hfl hbz hrb hr hdb hbL
  go_enter Try.func6, Try.ntmps6
  go_wp2_with (first
    | (go_at_call 10; refine (awakev_any _).mono ?_; rintro e W1 ⟨rfl, hb⟩; have H1 := Lib.hid hb; clear hb)
    | (go_at_call 11; (with_reducible refine (HFL.out _ H1.out).mono ?_); rintro e W1' ⟨rfl, rfl⟩)
    | (go_at_call 12; have _t := EL; (with_reducible refine (HEL.out _ H1.out).mono ?_); rintro e W2 ⟨rfl, hb⟩; have H4 := Lib.hid (H1.out.trans (hb.mono H1.out.size)); clear hb EL)
    | (go_at_call 16; have _t := D2; (with_reducible refine (HD2.out _ H4.out).mono ?_); rintro e W5 ⟨rfl, hb⟩; have H5 := Lib.hid (H4.out.trans (hb.mono H4.out.size)); clear hb D2))
  go_ret
  exact ⟨rfl, H5.out⟩

set_option maxHeartbeats 4000000 in
set_option maxRecDepth 100000 in
theorem walk_full_no (a : Option Addr) (cap : Nat) (l : List It) (b : Option Addr) (cbp : Nat) (zb : List Int) (w : World) (hcl : Came w a cap l) (hzc : zb.length ≤ cbp) (hzm : cbp ≤ 9223372036854775807) (hbz : ∀ x ∈ zb, 0 ≤ x ∧ x ≤ 255) (hrb : Rd .u8 w.heap.size w b zb) (hfl : fewB l = true) (hb6 : zb.length ≤ 6000) (hr : rightB l = true) (hx : 4096 < (encL l).length) (hdb : decB zb = none) : Calls Try.prog 6 #[.slice a l.length cap, .slice b zb.length cbp] w fun e w' => e = .returned (.bool true) ∧ Below w.heap.size w w' := by
  have HFL : Hid (∀ W, Below w.heap.size w W → Calls Try.prog 11 #[.slice a l.length cap] W fun e w' => e = .returned (.bool true) ∧ W = w') := Lib.hid fun W hW => by
    have h := few_any a cap l (by have := hcl.le; have := hcl.cap; omega) hcl.bs W ((hcl.rd.below hW).mono hW.size)
    rwa [hfl] at h
  obtain ⟨hl, hbL⟩ := few_small hfl
  have HEL : Hid (∀ W, Below w.heap.size w W → Calls Try.prog 12 #[.slice a l.length cap] W (fun e w' => e = .returned (.tuple #[.slice none 0 0, .int .i64 3]) ∧ Below W.heap.size W w')) := Lib.hid fun W hW =>
    (pencode_any a cap l (by omega) (fun x hx => by have := hbL x hx; omega) hcl.ok W ((hcl.rd.below hW).mono hW.size)).mono fun e w' h => h.full hr hx
  have EL : True := trivial
  have HD2 : Hid (∀ W, Below w.heap.size w W → Calls Try.prog 16 #[.slice b zb.length cbp] W (fun e w' => e = .returned (.tuple #[.slice none 0 0, .int .i64 2]) ∧ Below W.heap.size W w')) := Lib.hid fun W hW =>
    (pdecode_any b cbp zb (by omega) hzc hzm hbz W ((hrb.below hW).mono hW.size)).mono fun e w' h => decoded_none hdb h
  have D2 : True := trivial
  clear hcl hfl hbz hrb hr hdb hbL hx
  go_enter Try.func6, Try.ntmps6
  go_wp2_with (first
    | (go_at_call 10; refine (awakev_any _).mono ?_; rintro e W1 ⟨rfl, hb⟩; have H1 := Lib.hid hb; clear hb)
    | (go_at_call 11; (with_reducible refine (HFL.out _ H1.out).mono ?_); rintro e W1' ⟨rfl, rfl⟩)
    | (go_at_call 12; have _t := EL; (with_reducible refine (HEL.out _ H1.out).mono ?_); rintro e W2 ⟨rfl, hb⟩; have H4 := Lib.hid (H1.out.trans (hb.mono H1.out.size)); clear hb EL)
    | (go_at_call 16; have _t := D2; (with_reducible refine (HD2.out _ H4.out).mono ?_); rintro e W5 ⟨rfl, hb⟩; have H5 := Lib.hid (H4.out.trans (hb.mono H4.out.size)); clear hb D2))
  go_ret
  exact ⟨rfl, H5.out⟩

set_option maxHeartbeats 4000000 in
set_option maxRecDepth 100000 in
theorem walk_ok_no (a : Option Addr) (cap : Nat) (l : List It) (b : Option Addr) (cbp : Nat) (zb : List Int) (w : World) (hcl : Came w a cap l) (hzc : zb.length ≤ cbp) (hzm : cbp ≤ 9223372036854775807) (hbz : ∀ x ∈ zb, 0 ≤ x ∧ x ≤ 255) (hrb : Rd .u8 w.heap.size w b zb) (hfl : fewB l = true) (hb6 : zb.length ≤ 6000) (hr : rightB l = true) (hx : ¬ 4096 < (encL l).length) (zl : List Int) (hzl : encL l = zl) (hdb : decB zb = none) : Calls Try.prog 6 #[.slice a l.length cap, .slice b zb.length cbp] w fun e w' => e = .returned (.bool true) ∧ Below w.heap.size w w' := by
  have HFL : Hid (∀ W, Below w.heap.size w W → Calls Try.prog 11 #[.slice a l.length cap] W fun e w' => e = .returned (.bool true) ∧ W = w') := Lib.hid fun W hW => by
    have h := few_any a cap l (by have := hcl.le; have := hcl.cap; omega) hcl.bs W ((hcl.rd.below hW).mono hW.size)
    rwa [hfl] at h
  obtain ⟨hl, hbL⟩ := few_small hfl
  have HEL : Hid (∀ W, Below w.heap.size w W → Calls Try.prog 12 #[.slice a l.length cap] W (GotB zl W)) := Lib.hid fun W hW =>
    (pencode_any a cap l (by omega) (fun x hx => by have := hbL x hx; omega) hcl.ok W ((hcl.rd.below hW).mono hW.size)).mono fun e w' h => h.ok hr hx hzl
  have EL : True := trivial
  have HD1 : Hid (∀ (W : World) (A : Option Addr) (c : Nat), zl.length ≤ c → c ≤ maxLen → Rd .u8 W.heap.size W A zl → Calls Try.prog 16 #[.slice A zl.length c] W (GotI l W)) := Lib.hid fun W A c h1 h2 h3 =>
    (pdecode_any A c zl (by unfold maxLen at h2; omega) h1 (by unfold maxLen at h2; omega) (by rw [← hzl]; exact encL_range hcl.ok) W h3).mono fun e w' h => decoded_some (by rw [← hzl]; exact decB_enc hr hcl.ok (fun x hx => by have := hbL x hx; omega) hx) h
  have D1 : True := trivial
  have RL := Lib.hid hcl.rd
  have HD2 : Hid (∀ W, Below w.heap.size w W → Calls Try.prog 16 #[.slice b zb.length cbp] W (fun e w' => e = .returned (.tuple #[.slice none 0 0, .int .i64 2]) ∧ Below W.heap.size W w')) := Lib.hid fun W hW =>
    (pdecode_any b cbp zb (by omega) hzc hzm hbz W ((hrb.below hW).mono hW.size)).mono fun e w' h => decoded_none hdb h
  have D2 : True := trivial
  clear hcl hfl hbz hrb hr hdb hbL hx hzl
  go_enter Try.func6, Try.ntmps6
  go_wp2_with (first
    | (go_at_call 10; refine (awakev_any _).mono ?_; rintro e W1 ⟨rfl, hb⟩; have H1 := Lib.hid hb; clear hb)
    | (go_at_call 11; (with_reducible refine (HFL.out _ H1.out).mono ?_); rintro e W1' ⟨rfl, rfl⟩)
    | (go_at_call 12; have _t := EL; (with_reducible refine (HEL.out _ H1.out).mono ?_); rintro e W2 ⟨A2, c2, rfl, hc2, hc3, hrd2, hb⟩; have R2 := Lib.hid hrd2; have H2 := Lib.hid (H1.out.trans (hb.mono H1.out.size)); have C2 := Lib.hid hc2; have C3 := Lib.hid hc3; clear hb hrd2 EL hc2 hc3)
    | (go_at_call 16; have _t := D1; (with_reducible refine (HD1.out _ _ _ C2.out C3.out R2.out).mono ?_); rintro e W3 ⟨A3, n3, c3, rfl, hn3, hc4, hc5, hrd3, hb⟩; have R3 := Lib.hid hrd3; have H3 := Lib.hid (H2.out.trans (hb.mono H2.out.size)); have N3 := Lib.hid hn3; have hc6 := hc4; clear hb hrd3 D1 hn3 hc5)
    | (go_at_call 18; (with_reducible refine (same_n rfl N3.out (by omega) ((RL.out.below H3.out).mono H3.out.size) R3.out).mono ?_); rintro e W4 ⟨rfl, hb⟩; have H4 := Lib.hid (H3.out.trans (hb.mono H3.out.size)); clear hb)
    | (go_at_call 16; have _t := D2; (with_reducible refine (HD2.out _ H4.out).mono ?_); rintro e W5 ⟨rfl, hb⟩; have H5 := Lib.hid (H4.out.trans (hb.mono H4.out.size)); clear hb D2))
  go_ret
  exact ⟨rfl, H5.out⟩

set_option maxHeartbeats 4000000 in
set_option maxRecDepth 100000 in
theorem walk_arg_yes (a : Option Addr) (cap : Nat) (l : List It) (b : Option Addr) (cbp : Nat) (zb : List Int) (w : World) (hcl : Came w a cap l) (hzc : zb.length ≤ cbp) (hzm : cbp ≤ 9223372036854775807) (hbz : ∀ x ∈ zb, 0 ≤ x ∧ x ≤ 255) (hrb : Rd .u8 w.heap.size w b zb) (hfl : fewB l = true) (hb6 : zb.length ≤ 6000) (hr : rightB l = false) (m : List It) (hdb : decB zb = some m) : Calls Try.prog 6 #[.slice a l.length cap, .slice b zb.length cbp] w fun e w' => e = .returned (.bool true) ∧ Below w.heap.size w w' := by
  have HFL : Hid (∀ W, Below w.heap.size w W → Calls Try.prog 11 #[.slice a l.length cap] W fun e w' => e = .returned (.bool true) ∧ W = w') := Lib.hid fun W hW => by
    have h := few_any a cap l (by have := hcl.le; have := hcl.cap; omega) hcl.bs W ((hcl.rd.below hW).mono hW.size)
    rwa [hfl] at h
  obtain ⟨hl, hbL⟩ := few_small hfl
  have HEL : Hid (∀ W, Below w.heap.size w W → Calls Try.prog 12 #[.slice a l.length cap] W (fun e w' => e = .returned (.tuple #[.slice none 0 0, .int .i64 1]) ∧ Below W.heap.size W w')) := Lib.hid fun W hW =>
    (pencode_any a cap l (by omega) (fun x hx => by have := hbL x hx; omega) hcl.ok W ((hcl.rd.below hW).mono hW.size)).mono fun e w' h => h.arg hr
  have EL : True := trivial
  obtain ⟨hm1, hm2, hm3, hm4, hm5⟩ := decB_props hbz hdb
  have HD2 : Hid (∀ W, Below w.heap.size w W → Calls Try.prog 16 #[.slice b zb.length cbp] W (GotI m W)) := Lib.hid fun W hW =>
    (pdecode_any b cbp zb (by omega) hzc hzm hbz W ((hrb.below hW).mono hW.size)).mono fun e w' h => decoded_some hdb h
  have D2 : True := trivial
  have HE2 : Hid (∀ (W : World) (A : Option Addr) (n c : Nat), n = m.length → RdI W.heap.size W A m → Calls Try.prog 12 #[.slice A n c] W (GotB zb W)) := Lib.hid fun W A n c hn h3 => by
    subst hn
    exact (pencode_any A c m (by omega) (fun x hx => by have := (hm3 x hx).2; omega) (fun x hx => (hm3 x hx).1) W h3).mono fun e w' h => h.ok hm1 (by rw [hm2]; omega) hm2
  have E2 : True := trivial
  have RB := Lib.hid hrb
  clear hcl hfl hbz hrb hr hdb hbL hm1 hm2 hm3
  go_enter Try.func6, Try.ntmps6
  go_wp2_with (first
    | (go_at_call 10; refine (awakev_any _).mono ?_; rintro e W1 ⟨rfl, hb⟩; have H1 := Lib.hid hb; clear hb)
    | (go_at_call 11; (with_reducible refine (HFL.out _ H1.out).mono ?_); rintro e W1' ⟨rfl, rfl⟩)
    | (go_at_call 12; have _t := EL; (with_reducible refine (HEL.out _ H1.out).mono ?_); rintro e W2 ⟨rfl, hb⟩; have H4 := Lib.hid (H1.out.trans (hb.mono H1.out.size)); clear hb EL)
    | (go_at_call 16; have _t := D2; (with_reducible refine (HD2.out _ H4.out).mono ?_); rintro e W5 ⟨A5, n5, c5, rfl, hn5, hc7, hc8, hrd5, hb⟩; have R5 := Lib.hid hrd5; have H5 := Lib.hid (H4.out.trans (hb.mono H4.out.size)); have N5 := Lib.hid hn5; clear hb hrd5 D2 hn5 hc8)
    | (go_at_call 12; have _t := E2; (with_reducible refine (HE2.out _ _ _ _ N5.out R5.out).mono ?_); rintro e W6 ⟨A6, c6, rfl, hc9, hc10, hrd6, hb⟩; have H6 := Lib.hid (H5.out.trans (hb.mono H5.out.size)); have cv6 := conv_rd hrd6 c6; have cvb := conv_rd (RB.out.below H6.out) cbp; clear hb hrd6 E2 hc9 hc10))
  go_ret
  exact ⟨rfl, H6.out⟩

set_option maxHeartbeats 4000000 in
set_option maxRecDepth 100000 in
theorem walk_full_yes (a : Option Addr) (cap : Nat) (l : List It) (b : Option Addr) (cbp : Nat) (zb : List Int) (w : World) (hcl : Came w a cap l) (hzc : zb.length ≤ cbp) (hzm : cbp ≤ 9223372036854775807) (hbz : ∀ x ∈ zb, 0 ≤ x ∧ x ≤ 255) (hrb : Rd .u8 w.heap.size w b zb) (hfl : fewB l = true) (hb6 : zb.length ≤ 6000) (hr : rightB l = true) (hx : 4096 < (encL l).length) (m : List It) (hdb : decB zb = some m) : Calls Try.prog 6 #[.slice a l.length cap, .slice b zb.length cbp] w fun e w' => e = .returned (.bool true) ∧ Below w.heap.size w w' := by
  have HFL : Hid (∀ W, Below w.heap.size w W → Calls Try.prog 11 #[.slice a l.length cap] W fun e w' => e = .returned (.bool true) ∧ W = w') := Lib.hid fun W hW => by
    have h := few_any a cap l (by have := hcl.le; have := hcl.cap; omega) hcl.bs W ((hcl.rd.below hW).mono hW.size)
    rwa [hfl] at h
  obtain ⟨hl, hbL⟩ := few_small hfl
  have HEL : Hid (∀ W, Below w.heap.size w W → Calls Try.prog 12 #[.slice a l.length cap] W (fun e w' => e = .returned (.tuple #[.slice none 0 0, .int .i64 3]) ∧ Below W.heap.size W w')) := Lib.hid fun W hW =>
    (pencode_any a cap l (by omega) (fun x hx => by have := hbL x hx; omega) hcl.ok W ((hcl.rd.below hW).mono hW.size)).mono fun e w' h => h.full hr hx
  have EL : True := trivial
  obtain ⟨hm1, hm2, hm3, hm4, hm5⟩ := decB_props hbz hdb
  have HD2 : Hid (∀ W, Below w.heap.size w W → Calls Try.prog 16 #[.slice b zb.length cbp] W (GotI m W)) := Lib.hid fun W hW =>
    (pdecode_any b cbp zb (by omega) hzc hzm hbz W ((hrb.below hW).mono hW.size)).mono fun e w' h => decoded_some hdb h
  have D2 : True := trivial
  have HE2 : Hid (∀ (W : World) (A : Option Addr) (n c : Nat), n = m.length → RdI W.heap.size W A m → Calls Try.prog 12 #[.slice A n c] W (GotB zb W)) := Lib.hid fun W A n c hn h3 => by
    subst hn
    exact (pencode_any A c m (by omega) (fun x hx => by have := (hm3 x hx).2; omega) (fun x hx => (hm3 x hx).1) W h3).mono fun e w' h => h.ok hm1 (by rw [hm2]; omega) hm2
  have E2 : True := trivial
  have RB := Lib.hid hrb
  clear hcl hfl hbz hrb hr hdb hbL hx hm1 hm2 hm3
  go_enter Try.func6, Try.ntmps6
  go_wp2_with (first
    | (go_at_call 10; refine (awakev_any _).mono ?_; rintro e W1 ⟨rfl, hb⟩; have H1 := Lib.hid hb; clear hb)
    | (go_at_call 11; (with_reducible refine (HFL.out _ H1.out).mono ?_); rintro e W1' ⟨rfl, rfl⟩)
    | (go_at_call 12; have _t := EL; (with_reducible refine (HEL.out _ H1.out).mono ?_); rintro e W2 ⟨rfl, hb⟩; have H4 := Lib.hid (H1.out.trans (hb.mono H1.out.size)); clear hb EL)
    | (go_at_call 16; have _t := D2; (with_reducible refine (HD2.out _ H4.out).mono ?_); rintro e W5 ⟨A5, n5, c5, rfl, hn5, hc7, hc8, hrd5, hb⟩; have R5 := Lib.hid hrd5; have H5 := Lib.hid (H4.out.trans (hb.mono H4.out.size)); have N5 := Lib.hid hn5; clear hb hrd5 D2 hn5 hc8)
    | (go_at_call 12; have _t := E2; (with_reducible refine (HE2.out _ _ _ _ N5.out R5.out).mono ?_); rintro e W6 ⟨A6, c6, rfl, hc9, hc10, hrd6, hb⟩; have H6 := Lib.hid (H5.out.trans (hb.mono H5.out.size)); have cv6 := conv_rd hrd6 c6; have cvb := conv_rd (RB.out.below H6.out) cbp; clear hb hrd6 E2 hc9 hc10))
  go_ret
  exact ⟨rfl, H6.out⟩

set_option maxHeartbeats 4000000 in
set_option maxRecDepth 100000 in
theorem walk_ok_yes (a : Option Addr) (cap : Nat) (l : List It) (b : Option Addr) (cbp : Nat) (zb : List Int) (w : World) (hcl : Came w a cap l) (hzc : zb.length ≤ cbp) (hzm : cbp ≤ 9223372036854775807) (hbz : ∀ x ∈ zb, 0 ≤ x ∧ x ≤ 255) (hrb : Rd .u8 w.heap.size w b zb) (hfl : fewB l = true) (hb6 : zb.length ≤ 6000) (hr : rightB l = true) (hx : ¬ 4096 < (encL l).length) (zl : List Int) (hzl : encL l = zl) (m : List It) (hdb : decB zb = some m) : Calls Try.prog 6 #[.slice a l.length cap, .slice b zb.length cbp] w fun e w' => e = .returned (.bool true) ∧ Below w.heap.size w w' := by
  have HFL : Hid (∀ W, Below w.heap.size w W → Calls Try.prog 11 #[.slice a l.length cap] W fun e w' => e = .returned (.bool true) ∧ W = w') := Lib.hid fun W hW => by
    have h := few_any a cap l (by have := hcl.le; have := hcl.cap; omega) hcl.bs W ((hcl.rd.below hW).mono hW.size)
    rwa [hfl] at h
  obtain ⟨hl, hbL⟩ := few_small hfl
  have HEL : Hid (∀ W, Below w.heap.size w W → Calls Try.prog 12 #[.slice a l.length cap] W (GotB zl W)) := Lib.hid fun W hW =>
    (pencode_any a cap l (by omega) (fun x hx => by have := hbL x hx; omega) hcl.ok W ((hcl.rd.below hW).mono hW.size)).mono fun e w' h => h.ok hr hx hzl
  have EL : True := trivial
  have HD1 : Hid (∀ (W : World) (A : Option Addr) (c : Nat), zl.length ≤ c → c ≤ maxLen → Rd .u8 W.heap.size W A zl → Calls Try.prog 16 #[.slice A zl.length c] W (GotI l W)) := Lib.hid fun W A c h1 h2 h3 =>
    (pdecode_any A c zl (by unfold maxLen at h2; omega) h1 (by unfold maxLen at h2; omega) (by rw [← hzl]; exact encL_range hcl.ok) W h3).mono fun e w' h => decoded_some (by rw [← hzl]; exact decB_enc hr hcl.ok (fun x hx => by have := hbL x hx; omega) hx) h
  have D1 : True := trivial
  have RL := Lib.hid hcl.rd
  obtain ⟨hm1, hm2, hm3, hm4, hm5⟩ := decB_props hbz hdb
  have HD2 : Hid (∀ W, Below w.heap.size w W → Calls Try.prog 16 #[.slice b zb.length cbp] W (GotI m W)) := Lib.hid fun W hW =>
    (pdecode_any b cbp zb (by omega) hzc hzm hbz W ((hrb.below hW).mono hW.size)).mono fun e w' h => decoded_some hdb h
  have D2 : True := trivial
  have HE2 : Hid (∀ (W : World) (A : Option Addr) (n c : Nat), n = m.length → RdI W.heap.size W A m → Calls Try.prog 12 #[.slice A n c] W (GotB zb W)) := Lib.hid fun W A n c hn h3 => by
    subst hn
    exact (pencode_any A c m (by omega) (fun x hx => by have := (hm3 x hx).2; omega) (fun x hx => (hm3 x hx).1) W h3).mono fun e w' h => h.ok hm1 (by rw [hm2]; omega) hm2
  have E2 : True := trivial
  have RB := Lib.hid hrb
  clear hcl hfl hbz hrb hr hdb hbL hx hzl hm1 hm2 hm3
  go_enter Try.func6, Try.ntmps6
  go_wp2_with (first
    | (go_at_call 10; refine (awakev_any _).mono ?_; rintro e W1 ⟨rfl, hb⟩; have H1 := Lib.hid hb; clear hb)
    | (go_at_call 11; (with_reducible refine (HFL.out _ H1.out).mono ?_); rintro e W1' ⟨rfl, rfl⟩)
    | (go_at_call 12; have _t := EL; (with_reducible refine (HEL.out _ H1.out).mono ?_); rintro e W2 ⟨A2, c2, rfl, hc2, hc3, hrd2, hb⟩; have R2 := Lib.hid hrd2; have H2 := Lib.hid (H1.out.trans (hb.mono H1.out.size)); have C2 := Lib.hid hc2; have C3 := Lib.hid hc3; clear hb hrd2 EL hc2 hc3)
    | (go_at_call 16; have _t := D1; (with_reducible refine (HD1.out _ _ _ C2.out C3.out R2.out).mono ?_); rintro e W3 ⟨A3, n3, c3, rfl, hn3, hc4, hc5, hrd3, hb⟩; have R3 := Lib.hid hrd3; have H3 := Lib.hid (H2.out.trans (hb.mono H2.out.size)); have N3 := Lib.hid hn3; have hc6 := hc4; clear hb hrd3 D1 hn3 hc5)
    | (go_at_call 18; (with_reducible refine (same_n rfl N3.out (by omega) ((RL.out.below H3.out).mono H3.out.size) R3.out).mono ?_); rintro e W4 ⟨rfl, hb⟩; have H4 := Lib.hid (H3.out.trans (hb.mono H3.out.size)); clear hb)
    | (go_at_call 16; have _t := D2; (with_reducible refine (HD2.out _ H4.out).mono ?_); rintro e W5 ⟨A5, n5, c5, rfl, hn5, hc7, hc8, hrd5, hb⟩; have R5 := Lib.hid hrd5; have H5 := Lib.hid (H4.out.trans (hb.mono H4.out.size)); have N5 := Lib.hid hn5; clear hb hrd5 D2 hn5 hc8)
    | (go_at_call 12; have _t := E2; (with_reducible refine (HE2.out _ _ _ _ N5.out R5.out).mono ?_); rintro e W6 ⟨A6, c6, rfl, hc9, hc10, hrd6, hb⟩; have H6 := Lib.hid (H5.out.trans (hb.mono H5.out.size)); have cv6 := conv_rd hrd6 c6; have cvb := conv_rd (RB.out.below H6.out) cbp; clear hb hrd6 E2 hc9 hc10))
  go_ret
  exact ⟨rfl, H6.out⟩

theorem walk (a0 : Option Addr) (cap0 : Nat) (l0 : List It) (a1 : Option Addr) (len1 cap1 : Nat) (z1 : List Int) (w : World) (w0 : Came w a0 cap0 l0) (w1 : IsRow .u8 w a1 len1 cap1 z1) :
    Calls Try.prog 6 #[.slice a0 l0.length cap0, .slice a1 len1 cap1] w fun e w' => e = .returned (.bool true) ∧ Below w.heap.size w w' := by
  obtain ⟨zs, rfl, hlc, hcm, hr, hwf⟩ := w1.read
  have hbz : ∀ x ∈ zs, 0 ≤ x ∧ x ≤ 255 := fun x hx => wf_u8 (hwf x hx)
  unfold maxLen at hcm
  have hcm' : cap1 ≤ 9223372036854775807 := by omega
  rcases Bool.eq_false_or_eq_true (fewB l0) with hfl | hfl
  · rcases Nat.lt_or_ge 6000 zs.length with h6 | h6
    · exact walk_long a0 cap0 l0 a1 cap1 zs w w0 hlc hcm' hbz hr hfl h6
    · rcases hd : decB zs with _ | m
      · rcases Bool.eq_false_or_eq_true (rightB l0) with hrt | hrt
        · by_cases hx : 4096 < (encL l0).length
          · exact walk_full_no a0 cap0 l0 a1 cap1 zs w w0 hlc hcm' hbz hr hfl h6 hrt hx hd
          · exact walk_ok_no a0 cap0 l0 a1 cap1 zs w w0 hlc hcm' hbz hr hfl h6 hrt hx _ rfl hd
        · exact walk_arg_no a0 cap0 l0 a1 cap1 zs w w0 hlc hcm' hbz hr hfl h6 hrt hd
      · rcases Bool.eq_false_or_eq_true (rightB l0) with hrt | hrt
        · by_cases hx : 4096 < (encL l0).length
          · exact walk_full_yes a0 cap0 l0 a1 cap1 zs w w0 hlc hcm' hbz hr hfl h6 hrt hx m hd
          · exact walk_ok_yes a0 cap0 l0 a1 cap1 zs w w0 hlc hcm' hbz hr hfl h6 hrt hx _ rfl m hd
        · exact walk_arg_yes a0 cap0 l0 a1 cap1 zs w w0 hlc hcm' hbz hr hfl h6 hrt m hd
  · exact walk_many a0 cap0 l0 a1 cap1 zs w w0 hlc hcm' hbz hr hfl


set_option maxRecDepth 100000 in
theorem lifted (os : Os) (started : os.Started) (H : Type) (enc : TypeId × Value → H) :
    ReturnsInHanded {} Try.checked os 6 .any (Rows.valueBackSpec.pre6 enc Try.prog Try.f6 Rows.valueBackRow.domain false) (Rows.valueBackSpec.post enc Try.prog Try.f6 false true false false) := by
  refine returnsInHanded_of_change_sized (C := Try.checked) own started (by kernel_rfl) Try.func6
    (ChangeSpec.witness6 (enc := enc) (C := Try.checked) false ⟨#[], #[.slice none 0 0, .slice none 0 0], []⟩ 8 (by kernel_rfl) (by kernel_rfl) (by kernel_rfl) (by kernel_rfl)) ?_
  intro W base args ds gs before hval0 hW hcnd hsz0 _
  have hval : ∀ (j : Nat) t v, Try.f6.params[j]? = some t → args[j]? = some v → Value.okWide Try.prog W .any base t v := hval0
  have hW' := hW
  obtain ⟨p, q, hA0, hV, rfl, hfz, hnd⟩ := hW
  have hA : DataW.TrodAll enc Try.prog W 0 (fun _ => true) true Try.f6.params.toList args.toList ds p := hA0
  have hsz : (DataW.weightsEach Try.prog (Try.f6.params.toList ++ Rows.valueBackSpec.plain.varTypes Try.prog) (ds ++ gs)).all (· ≤ reachBytes) = true := hsz0
  rw [Try.params6] at hA hval hsz
  obtain ⟨v0, vs0, d0, ds0, p0, q0, hargs, rfl, rfl, h0, r0⟩ := trodAll_cons hA
  obtain ⟨v1, vs1, d1, ds1, p1, q1, rfl, rfl, rfl, h1, r1⟩ := trodAll_cons r0
  obtain ⟨rfl, rfl, rfl⟩ := trodAll_nil r1
  obtain rfl : args = #[v0, v1] := by cases args; simp_all
  obtain ⟨rfl, rfl⟩ := trodVars_none hV
  obtain ⟨a0, len0, cap0, rfl⟩ := okWide_slice Try.underlying22 (hval 0 22 v0 rfl rfl)
  have k0 := h0
  have lt0 : ∀ x ∈ p0, x.block < W.heap.size := by obtain ⟨m, hm⟩ := k0; exact DataW.trod_lt m _ _ _ hm
  obtain ⟨l0, rfl, w0⟩ := came_of h0 (fun n hn => by simpa using List.all_eq_true.1 hsz n (DataW.weights_mem_each (j := 0) rfl rfl n hn))
  obtain ⟨a1, len1, cap1, rfl⟩ := okWide_slice Try.underlying25 (hval 1 25 v1 rfl rfl)
  have k1 := h1
  have lt1 : ∀ x ∈ p1, x.block < W.heap.size := by obtain ⟨m, hm⟩ := k1; exact DataW.trod_lt m _ _ _ hm
  obtain ⟨z1, w1⟩ : ∃ zs, IsRow .u8 W a1 len1 cap1 zs := by
    obtain ⟨fuel, hf⟩ := h1
    rcases open_ints Try.underlying25 Try.underlying5 (by kernel_rfl) hf with ⟨hcs, _⟩ | ⟨x, l, c, zs, hcs, _, hl, hm, hz, _, hcell, hwz⟩
    · simp [Value.cells] at hcs
      obtain ⟨rfl, rfl, rfl⟩ := hcs
      exact ⟨[], .inl ⟨rfl, rfl, rfl, rfl⟩⟩
    · simp [Value.cells] at hcs
      obtain ⟨rfl, rfl, rfl⟩ := hcs
      exact ⟨zs, .inr ⟨_, rfl, hl, hm, by simpa using hz, hcell, hwz⟩⟩
  clear hA0 hval0
  refine (walk a0 cap0 l0 a1 len1 cap1 z1 W w0 w1).mono fun e W' ⟨he, bel⟩ => ?_
  subst he
  exact ⟨_, rfl, _, _, _, [], _, [], hW', trodAll_mk1 (shut_bool Try.underlying4 _), (trodAll_cons_mk (Below.trod laidOut (by kernel_rfl) (of_decide_eq_true (by kernel_rfl)) k0 bel lt0) (trodAll_cons_mk (Below.trod laidOut (by kernel_rfl) (of_decide_eq_true (by kernel_rfl)) k1 bel lt1) trodAll_mk0)), rfl, bel.frame _, fun h => by cases h⟩

theorem over : Rows.valueBackRow.holds Try.pinned (OpenSpec.ofChange Rows.valueBackSpec) :=
  OpenClaim.holds_of_wide 6 Try.f6 rfl rfl rfl rfl rfl rfl rfl ⟨rfl, rfl, rfl, rfl, rfl⟩ rfl rfl rfl rfl rfl (by kernel_rfl) Try.func6 (by kernel_rfl)
    (of_decide_eq_true (by kernel_rfl)) (by unfold Func.isWrapper; first | (rw [if_pos (by decide +kernel)]; kernel_rfl) | (rw [if_neg (by decide +kernel)]; exact ⟨rfl, rfl⟩))
    (fun os started H enc _ => lifted os started H enc)

theorem proved : Rows.ValueBackSaid := over
#print axioms proved
end Go.Proofs.Yteelknmafnoccaa.valueBack
