/-
  PROVED: for every list l of items, every list ids and every Id the law ValueDrops returns true: what Drop leaves of a record is a record, no longer than it; dropped again it is the same; each field that is asked for is found in it just if it was there, as it was. Conditions: none; all l, ids and id (nil, empty, any capacity, sharing memory), every memory, schedule and order of evaluation.
-/
import Derived.Test.YteelknmafnoccaaSegs
import Derived.Test.YteelknmafnoccaaRDrop
import Derived.Test.YteelknmafnoccaaSameQ
import Derived.Deep.QuietTactic
import Derived.BigQuiet
import Derived.WalkSmall
import Derived.WalkKit
import Derived.ProofKit
import Derived.OpenShut
import Derived.ShutString
import Derived.ChangeOld
import Derived.Below
namespace Go.Proofs.Yteelknmafnoccaa.valueDrops
open Go.ChangeShapes Go.WideShapes Go.ChangeAt Go.RowKit
set_option linter.unusedVariables false

theorem own : ownKnob Try.prog.godebug = none := by kernel_rfl
theorem laidOut : laidOutB Try.prog = true := by kernel_rfl

theorem pfind_n {a : Option Addr} {n cap : Nat} {l : List It} (hn : n = l.length) (id : Int) (hlen : l.length ≤ 140737488351232) {w : World} (hr : RdI w.heap.size w a l) {r1 r2 : Int} {r3 : Bool} (hres : pfindS l id = (r1, r2, r3)) :
    Calls Try.prog 19 #[.slice a n cap, .int .i64 id] w fun e w' => e = .returned (.tuple #[.int .i64 r1, .int .i64 r2, .bool r3]) ∧ Below w.heap.size w w' := by
  subst hn
  rcases Bool.eq_false_or_eq_true (rightB l) with hR | hR
  · exact pfind_yes a cap l id hlen w hr hR r1 r2 r3 hres
  · have h := pfind_not a cap l id hlen w hr hR
    unfold pfindS at hres
    rw [if_neg (by simp [hR])] at hres
    injection hres with h1 h2
    injection h2 with h2 h3
    subst h1 h2 h3
    exact h
theorem same_n {a b : Option Addr} {n m c1 c2 : Nat} {l : List It} (hn : n = l.length) (hm : m = l.length) (hlen : l.length ≤ 140737488351232) {w : World} (hra : RdI w.heap.size w a l) (hrb : RdI w.heap.size w b l) :
    Calls Try.prog 18 #[.slice a n c1, .slice b m c2] w fun e w' => e = .returned (.bool true) ∧ Below w.heap.size w w' := by
  subst hn hm
  exact same_items a b c1 c2 l hlen w hra hrb
theorem same_q {a b : Option Addr} {n m c1 c2 : Nat} {l : List It} (hn : n = l.length) (hm : m = l.length) (hlen : l.length ≤ 140737488351232) {w : World} (hra : RdI w.heap.size w a l) (hrb : RdI w.heap.size w b l) (k : Nat) :
    Calls Try.prog 18 #[.slice a n c1, .slice b m c2] (w.drewN k) fun e w' => e = .returned (.bool true) ∧ ∃ q, w' = (w.drewN k).drewN q := by
  subst hn hm
  have hb := below_drewN (Below.refl w.heap.size w) k
  exact same_quiet a b c1 c2 l hlen (w.drewN k) ((hra.below hb).mono hb.size) ((hrb.below hb).mono hb.size)

set_option maxHeartbeats 8000000 in
set_option maxRecDepth 100000 in
theorem walk_many (a : Option Addr) (cap : Nat) (l : List It) (b : Option Addr) (cbp : Nat) (zs : List Int) (id : Int) (w : World) (hcl : Came w a cap l) (hz : Ints64 zs) (hrz : Rd .i64 w.heap.size w b zs) (hfl : fewB l = false) : Calls Try.prog 7 #[.slice a l.length cap, .slice b zs.length cbp, .int .i64 id] w fun e w' => e = .returned (.bool true) ∧ Below w.heap.size w w' := by
  have HFL : Hid (∀ W, Below w.heap.size w W → Calls Try.prog 11 #[.slice a l.length cap] W fun e w' => e = .returned (.bool false) ∧ W = w') := Lib.hid fun W hW => by
    have h := few_any a cap l (by have := hcl.le; have := hcl.cap; omega) hcl.bs W ((hcl.rd.below hW).mono hW.size)
    rwa [hfl] at h
  clear hcl hfl hz hrz
  go_enter Try.func7, Try.ntmps7
  go_wp2_with (first
    | (go_at_call 10; refine (awakev_any _).mono ?_; rintro e W1 ⟨rfl, hb⟩; have H1 := Lib.hid hb; clear hb)
    | (go_at_call 11; (with_reducible refine (HFL.out _ H1.out).mono ?_); rintro e W1' ⟨rfl, rfl⟩))
  go_ret
  exact ⟨rfl, H1.out⟩

set_option maxHeartbeats 8000000 in
set_option maxRecDepth 100000 in
theorem walk_long (a : Option Addr) (cap : Nat) (l : List It) (b : Option Addr) (cbp : Nat) (zs : List Int) (id : Int) (w : World) (hcl : Came w a cap l) (hz : Ints64 zs) (hrz : Rd .i64 w.heap.size w b zs) (hfl : fewB l = true) (hlong : 100 < zs.length) : Calls Try.prog 7 #[.slice a l.length cap, .slice b zs.length cbp, .int .i64 id] w fun e w' => e = .returned (.bool true) ∧ Below w.heap.size w w' := by
  have HFL : Hid (∀ W, Below w.heap.size w W → Calls Try.prog 11 #[.slice a l.length cap] W fun e w' => e = .returned (.bool true) ∧ W = w') := Lib.hid fun W hW => by
    have h := few_any a cap l (by have := hcl.le; have := hcl.cap; omega) hcl.bs W ((hcl.rd.below hW).mono hW.size)
    rwa [hfl] at h
  clear hcl hfl hz hrz
  go_enter Try.func7, Try.ntmps7
  go_wp2_with (first
    | (go_at_call 10; refine (awakev_any _).mono ?_; rintro e W1 ⟨rfl, hb⟩; have H1 := Lib.hid hb; clear hb)
    | (go_at_call 11; (with_reducible refine (HFL.out _ H1.out).mono ?_); rintro e W1' ⟨rfl, rfl⟩))
  go_ret
  exact ⟨rfl, H1.out⟩

set_option maxHeartbeats 8000000 in
set_option maxRecDepth 100000 in
theorem walk_not (a : Option Addr) (cap : Nat) (l : List It) (b : Option Addr) (cbp : Nat) (zs : List Int) (id : Int) (w : World) (hcl : Came w a cap l) (hz : Ints64 zs) (hrz : Rd .i64 w.heap.size w b zs) (hfl : fewB l = true) (h100 : zs.length ≤ 100) (hR : rightB l = false) : Calls Try.prog 7 #[.slice a l.length cap, .slice b zs.length cbp, .int .i64 id] w fun e w' => e = .returned (.bool true) ∧ Below w.heap.size w w' := by
  obtain ⟨hl, hbs⟩ := few_small hfl
  have HFL : Hid (∀ W, Below w.heap.size w W → Calls Try.prog 11 #[.slice a l.length cap] W fun e w' => e = .returned (.bool true) ∧ W = w') := Lib.hid fun W hW => by
    have h := few_any a cap l (by have := hcl.le; have := hcl.cap; omega) hcl.bs W ((hcl.rd.below hW).mono hW.size)
    rwa [hfl] at h
  have H14 : Hid (∀ W, Below w.heap.size w W → Calls Try.prog 14 #[.slice a l.length cap] W fun e w' => e = .returned (.bool false) ∧ Below W.heap.size W w') := Lib.hid fun W hW => by
    have h := pright_any a cap l (by omega) W ((hcl.rd.below hW).mono hW.size)
    rwa [hR] at h
  have T1 : True := trivial
  clear hcl hfl hz hrz hR hbs
  go_enter Try.func7, Try.ntmps7
  go_wp2_with (first
    | (go_at_call 10; refine (awakev_any _).mono ?_; rintro e W1 ⟨rfl, hb⟩; have H1 := Lib.hid hb; clear hb)
    | (go_at_call 11; (with_reducible refine (HFL.out _ H1.out).mono ?_); rintro e W1' ⟨rfl, rfl⟩)
    | (go_at_call 14; have _t := T1; (with_reducible refine (H14.out _ H1.out).mono ?_); rintro e W2 ⟨rfl, hb⟩; have H2 := Lib.hid (H1.out.trans (hb.mono H1.out.size)); clear hb T1))
  go_ret
  exact ⟨rfl, H2.out⟩

set_option maxHeartbeats 8000000 in
set_option maxRecDepth 100000 in
theorem walk_ff (a : Option Addr) (cap : Nat) (l : List It) (b : Option Addr) (cbp : Nat) (zs : List Int) (id : Int) (w : World) (hcl : Came w a cap l) (hz : Ints64 zs) (hrz : Rd .i64 w.heap.size w b zs) (hfl : fewB l = true) (h100 : zs.length ≤ 100) (hR : rightB l = true) (m : List It) (hm : pdropS l zs = m) (p q c d : Nat) (any : Bool) (hany : (zs.any fun z => z == id) = any) (h19 : pfindS l id = (((p : Nat) : Int), ((q : Nat) : Int), false)) (h19m : pfindS m id = (((c : Nat) : Int), ((d : Nat) : Int), false))  : Calls Try.prog 7 #[.slice a l.length cap, .slice b zs.length cbp, .int .i64 id] w fun e w' => e = .returned (.bool true) ∧ Below w.heap.size w w' := by
  obtain ⟨hl, hbs⟩ := few_small hfl
  obtain ⟨dm1, dm2, dm3, dm4⟩ := drop_facts hR zs
  rw [hm] at dm1 dm2 dm3 dm4
  have hml : m.length ≤ 140737488351232 := by omega
  have hml2 : m.length ≤ l.length := dm3
  have HFL : Hid (∀ W, Below w.heap.size w W → Calls Try.prog 11 #[.slice a l.length cap] W fun e w' => e = .returned (.bool true) ∧ W = w') := Lib.hid fun W hW => by
    have h := few_any a cap l (by have := hcl.le; have := hcl.cap; omega) hcl.bs W ((hcl.rd.below hW).mono hW.size)
    rwa [hfl] at h
  have H14 : Hid (∀ W, Below w.heap.size w W → Calls Try.prog 14 #[.slice a l.length cap] W fun e w' => e = .returned (.bool true) ∧ Below W.heap.size W w') := Lib.hid fun W hW => by
    have h := pright_any a cap l (by omega) W ((hcl.rd.below hW).mono hW.size)
    rwa [hR] at h
  have T1 : True := trivial
  have H21 : Hid (∀ W, Below w.heap.size w W → Calls Try.prog 21 #[.slice a l.length cap, .slice b zs.length cbp] W (GotD m W)) := Lib.hid fun W hW => by
    have h := pdrop_any (a := a) (cap := cap) (b := b) (cb := cbp) rfl rfl (by omega) hcl.le (by have := hcl.cap; omega) (fun x hx => by have := hbs x hx; omega) (by omega) hz ((hcl.rd.below hW).mono hW.size) ((hrz.below hW).mono hW.size)
    rwa [hm] at h
  have H21m : Hid (∀ (W : World) (A : Option Addr) (n cc : Nat), Below w.heap.size w W → n = m.length → n ≤ cc → cc ≤ maxLen → RdI W.heap.size W A m → Calls Try.prog 21 #[.slice A n cc, .slice b zs.length cbp] W (GotD m W)) := Lib.hid fun W A n cc hW hn hnc hcm hr => by
    unfold maxLen at hcm
    have h := pdrop_any (b := b) (cb := cbp) hn rfl (by omega) hnc (by omega) (fun x hx => by have := hbs x (dm4 x hx); omega) (by omega) hz hr ((hrz.below hW).mono hW.size)
    rwa [dm2] at h
  have H19 : Hid (∀ W, Below w.heap.size w W → Calls Try.prog 19 #[.slice a l.length cap, .int .i64 id] W fun e w' => e = .returned (.tuple #[.int .i64 p, .int .i64 q, .bool false]) ∧ Below W.heap.size W w') := Lib.hid fun W hW =>
    pfind_n rfl id (by omega) ((hcl.rd.below hW).mono hW.size) h19
  have HM19 := Lib.hid h19m
  have HM14 := Lib.hid dm1
  have HZ := Lib.hid hrz
  have HANY := Lib.hid hany
  have HL := Lib.hid hcl.rd
  have hlc := hcl.le
  have T2 : True := trivial
  have T3 : True := trivial
  have T4 : True := trivial
  have T5 : True := trivial

  clear hcl hfl hz hrz hR hbs hm h19 h19m hany dm1 dm2 dm3 dm4
  go_enter Try.func7, Try.ntmps7
  go_wp2_with (first
    | (go_at_call 10; refine (awakev_any _).mono ?_; rintro e W1 ⟨rfl, hb⟩; have H1 := Lib.hid hb; clear hb)
    | (go_at_call 11; (with_reducible refine (HFL.out _ H1.out).mono ?_); rintro e W1' ⟨rfl, rfl⟩)
    | (go_at_call 14; have _t := T1; (with_reducible refine (H14.out _ H1.out).mono ?_); rintro e W2 ⟨rfl, hb⟩; have H2 := Lib.hid (H1.out.trans (hb.mono H1.out.size)); clear hb T1)
    | (go_at_call 21; have _t := T2; (with_reducible refine (H21.out _ H2.out).mono ?_); rintro e W3 ⟨A3, n3, c3, rfl, hn3, hnc3, hcm3, hr3, hb⟩; have H3 := Lib.hid (H2.out.trans (hb.mono H2.out.size)); have N3 := Lib.hid hn3; have C3 := Lib.hid hnc3; have M3 := Lib.hid hcm3; have R3 := Lib.hid hr3; clear hb hn3 hnc3 hcm3 hr3 T2)
    | (go_at_call 21; have _t := T3; (with_reducible refine (H21m.out _ _ _ _ H3.out N3.out C3.out M3.out R3.out).mono ?_); rintro e W4 ⟨A4, n4, c4, rfl, hn4, -, -, hr4, hb⟩; have H4 := Lib.hid (H3.out.trans (hb.mono H3.out.size)); have N4 := Lib.hid hn4; have R4 := Lib.hid hr4; have R3a := Lib.hid ((R3.out.below hb).mono hb.size); clear hb hn4 hr4 T3)
    | (go_at_call 18; (with_reducible refine (same_n N4.out N3.out hml R4.out R3a.out).mono ?_); rintro e W5 ⟨rfl, hb⟩; have H5 := Lib.hid (H4.out.trans (hb.mono H4.out.size)); have R3b := Lib.hid ((R3a.out.below hb).mono hb.size); clear hb))
  go_loop [11, 12] (fun nv kv => ∃ (k : Nat) (y : Bool), k ≤ zs.length ∧ kv = .int .i64 k ∧ nv = .bool y ∧ Hid (((zs.take k).any fun z => z == id) = y)) (fun _ kv => zs.length - (intOf kv).toNat)
  case atStart => exact ⟨0, false, Nat.zero_le _, rfl, rfl, rfl⟩
  case round =>
    obtain ⟨k, y, hk, rfl, rfl, HQ⟩ := hrel
    by_cases hkl : k < zs.length
    · obtain ⟨bz, oz, rfl, hbz, hcz⟩ := HZ.out (by omega)
      obtain ⟨z, hzk⟩ : ∃ z, zs[k]? = some z := ⟨_, List.getElem?_eq_getElem hkl⟩
      have hz1 := (H5.out.cell (p := ⟨bz, oz + k, none⟩) hbz).trans (hcz k hkl)
      rw [hzk, Option.getD_some] at hz1
      have hat := any_take zs id k z hzk
      rw [HQ.out] at hat
      have j0 : (0 : Int) ≤ (k : Int) := Int.natCast_nonneg _
      have j1 : (k : Int) < (zs.length : Int) := by omega
      clear hcz hzk
      rcases y with _ | _
      · rcases hzx : (z == id) with _ | _
        · rw [hzx] at hat
          have HAT := Lib.hid hat
          clear hat
          go_wp2
          go_round
          case rel => exact ⟨k + 1, false, by omega, by go_num, rfl, HAT.out⟩
          case measure => simp [intOf]; omega
        · rw [hzx] at hat
          have HAT := Lib.hid hat
          clear hat
          go_wp2
          go_round
          case rel => exact ⟨k + 1, true, by omega, by go_num, rfl, HAT.out⟩
          case measure => simp [intOf]; omega
      · have HAT := Lib.hid hat
        clear hat
        go_wp2
        go_round
        case rel => exact ⟨k + 1, true, by omega, by go_num, rfl, HAT.out⟩
        case measure => simp [intOf]; omega
    · obtain rfl : k = zs.length := by omega
      rw [List.take_of_length_le (Nat.le_refl _)] at HQ
      obtain rfl : y = any := HQ.out.symm.trans HANY.out
      have hn3 : n3 ≤ l.length := by have := N3.out; omega
      have hn3' : (n3 : Int) ≤ (l.length : Int) := by omega
      go_wp2_with (first
        | (go_at_call 19; have _t := T4; (with_reducible refine (H19.out _ H5.out).mono ?_); rintro e W6 ⟨rfl, hb⟩; have H6 := Lib.hid (H5.out.trans (hb.mono H5.out.size)); have R3c := Lib.hid ((R3b.out.below hb).mono hb.size); clear hb T4)
        | (go_at_call 19; have _t := T5; (with_reducible refine (pfind_n N3.out id hml R3c.out HM19.out).mono ?_); rintro e W7 ⟨rfl, hb⟩; have H7 := Lib.hid (H6.out.trans (hb.mono H6.out.size)); have R3d := Lib.hid ((R3c.out.below hb).mono hb.size); clear hb T5)
        | (go_at_call 14; (with_reducible refine (pright_n N3.out hml R3d.out HM14.out).mono ?_); rintro e W8 ⟨rfl, hb⟩; have H8 := Lib.hid (H7.out.trans (hb.mono H7.out.size)); have R3e := Lib.hid ((R3d.out.below hb).mono hb.size); clear hb))
      go_quiet (fail)
      go_wp2
      go_ret
      exact ⟨rfl, below_drewN H8.out _⟩

set_option maxHeartbeats 8000000 in
set_option maxRecDepth 100000 in
theorem walk_tf (a : Option Addr) (cap : Nat) (l : List It) (b : Option Addr) (cbp : Nat) (zs : List Int) (id : Int) (w : World) (hcl : Came w a cap l) (hz : Ints64 zs) (hrz : Rd .i64 w.heap.size w b zs) (hfl : fewB l = true) (h100 : zs.length ≤ 100) (hR : rightB l = true) (m : List It) (hm : pdropS l zs = m) (p q c d : Nat) (hany : (zs.any fun z => z == id) = false) (h19 : pfindS l id = (((p : Nat) : Int), ((q : Nat) : Int), true)) (h19m : pfindS m id = (((c : Nat) : Int), ((d : Nat) : Int), false))  : Calls Try.prog 7 #[.slice a l.length cap, .slice b zs.length cbp, .int .i64 id] w fun e w' => e = .returned (.bool true) ∧ Below w.heap.size w w' := by
  obtain ⟨hl, hbs⟩ := few_small hfl
  obtain ⟨dm1, dm2, dm3, dm4⟩ := drop_facts hR zs
  rw [hm] at dm1 dm2 dm3 dm4
  have hml : m.length ≤ 140737488351232 := by omega
  have hml2 : m.length ≤ l.length := dm3
  have HFL : Hid (∀ W, Below w.heap.size w W → Calls Try.prog 11 #[.slice a l.length cap] W fun e w' => e = .returned (.bool true) ∧ W = w') := Lib.hid fun W hW => by
    have h := few_any a cap l (by have := hcl.le; have := hcl.cap; omega) hcl.bs W ((hcl.rd.below hW).mono hW.size)
    rwa [hfl] at h
  have H14 : Hid (∀ W, Below w.heap.size w W → Calls Try.prog 14 #[.slice a l.length cap] W fun e w' => e = .returned (.bool true) ∧ Below W.heap.size W w') := Lib.hid fun W hW => by
    have h := pright_any a cap l (by omega) W ((hcl.rd.below hW).mono hW.size)
    rwa [hR] at h
  have T1 : True := trivial
  have H21 : Hid (∀ W, Below w.heap.size w W → Calls Try.prog 21 #[.slice a l.length cap, .slice b zs.length cbp] W (GotD m W)) := Lib.hid fun W hW => by
    have h := pdrop_any (a := a) (cap := cap) (b := b) (cb := cbp) rfl rfl (by omega) hcl.le (by have := hcl.cap; omega) (fun x hx => by have := hbs x hx; omega) (by omega) hz ((hcl.rd.below hW).mono hW.size) ((hrz.below hW).mono hW.size)
    rwa [hm] at h
  have H21m : Hid (∀ (W : World) (A : Option Addr) (n cc : Nat), Below w.heap.size w W → n = m.length → n ≤ cc → cc ≤ maxLen → RdI W.heap.size W A m → Calls Try.prog 21 #[.slice A n cc, .slice b zs.length cbp] W (GotD m W)) := Lib.hid fun W A n cc hW hn hnc hcm hr => by
    unfold maxLen at hcm
    have h := pdrop_any (b := b) (cb := cbp) hn rfl (by omega) hnc (by omega) (fun x hx => by have := hbs x (dm4 x hx); omega) (by omega) hz hr ((hrz.below hW).mono hW.size)
    rwa [dm2] at h
  have H19 : Hid (∀ W, Below w.heap.size w W → Calls Try.prog 19 #[.slice a l.length cap, .int .i64 id] W fun e w' => e = .returned (.tuple #[.int .i64 p, .int .i64 q, .bool true]) ∧ Below W.heap.size W w') := Lib.hid fun W hW =>
    pfind_n rfl id (by omega) ((hcl.rd.below hW).mono hW.size) h19
  have HM19 := Lib.hid h19m
  have HM14 := Lib.hid dm1
  have HZ := Lib.hid hrz
  have HANY := Lib.hid hany
  have HL := Lib.hid hcl.rd
  have hlc := hcl.le
  have T2 : True := trivial
  have T3 : True := trivial
  have T4 : True := trivial
  have T5 : True := trivial

  clear hcl hfl hz hrz hR hbs hm h19 h19m hany dm1 dm2 dm3 dm4
  go_enter Try.func7, Try.ntmps7
  go_wp2_with (first
    | (go_at_call 10; refine (awakev_any _).mono ?_; rintro e W1 ⟨rfl, hb⟩; have H1 := Lib.hid hb; clear hb)
    | (go_at_call 11; (with_reducible refine (HFL.out _ H1.out).mono ?_); rintro e W1' ⟨rfl, rfl⟩)
    | (go_at_call 14; have _t := T1; (with_reducible refine (H14.out _ H1.out).mono ?_); rintro e W2 ⟨rfl, hb⟩; have H2 := Lib.hid (H1.out.trans (hb.mono H1.out.size)); clear hb T1)
    | (go_at_call 21; have _t := T2; (with_reducible refine (H21.out _ H2.out).mono ?_); rintro e W3 ⟨A3, n3, c3, rfl, hn3, hnc3, hcm3, hr3, hb⟩; have H3 := Lib.hid (H2.out.trans (hb.mono H2.out.size)); have N3 := Lib.hid hn3; have C3 := Lib.hid hnc3; have M3 := Lib.hid hcm3; have R3 := Lib.hid hr3; clear hb hn3 hnc3 hcm3 hr3 T2)
    | (go_at_call 21; have _t := T3; (with_reducible refine (H21m.out _ _ _ _ H3.out N3.out C3.out M3.out R3.out).mono ?_); rintro e W4 ⟨A4, n4, c4, rfl, hn4, -, -, hr4, hb⟩; have H4 := Lib.hid (H3.out.trans (hb.mono H3.out.size)); have N4 := Lib.hid hn4; have R4 := Lib.hid hr4; have R3a := Lib.hid ((R3.out.below hb).mono hb.size); clear hb hn4 hr4 T3)
    | (go_at_call 18; (with_reducible refine (same_n N4.out N3.out hml R4.out R3a.out).mono ?_); rintro e W5 ⟨rfl, hb⟩; have H5 := Lib.hid (H4.out.trans (hb.mono H4.out.size)); have R3b := Lib.hid ((R3a.out.below hb).mono hb.size); clear hb))
  go_loop [11, 12] (fun nv kv => ∃ (k : Nat) (y : Bool), k ≤ zs.length ∧ kv = .int .i64 k ∧ nv = .bool y ∧ Hid (((zs.take k).any fun z => z == id) = y)) (fun _ kv => zs.length - (intOf kv).toNat)
  case atStart => exact ⟨0, false, Nat.zero_le _, rfl, rfl, rfl⟩
  case round =>
    obtain ⟨k, y, hk, rfl, rfl, HQ⟩ := hrel
    by_cases hkl : k < zs.length
    · obtain ⟨bz, oz, rfl, hbz, hcz⟩ := HZ.out (by omega)
      obtain ⟨z, hzk⟩ : ∃ z, zs[k]? = some z := ⟨_, List.getElem?_eq_getElem hkl⟩
      have hz1 := (H5.out.cell (p := ⟨bz, oz + k, none⟩) hbz).trans (hcz k hkl)
      rw [hzk, Option.getD_some] at hz1
      have hat := any_take zs id k z hzk
      rw [HQ.out] at hat
      have j0 : (0 : Int) ≤ (k : Int) := Int.natCast_nonneg _
      have j1 : (k : Int) < (zs.length : Int) := by omega
      clear hcz hzk
      rcases y with _ | _
      · rcases hzx : (z == id) with _ | _
        · rw [hzx] at hat
          have HAT := Lib.hid hat
          clear hat
          go_wp2
          go_round
          case rel => exact ⟨k + 1, false, by omega, by go_num, rfl, HAT.out⟩
          case measure => simp [intOf]; omega
        · rw [hzx] at hat
          have HAT := Lib.hid hat
          clear hat
          go_wp2
          go_round
          case rel => exact ⟨k + 1, true, by omega, by go_num, rfl, HAT.out⟩
          case measure => simp [intOf]; omega
      · have HAT := Lib.hid hat
        clear hat
        go_wp2
        go_round
        case rel => exact ⟨k + 1, true, by omega, by go_num, rfl, HAT.out⟩
        case measure => simp [intOf]; omega
    · obtain rfl : k = zs.length := by omega
      rw [List.take_of_length_le (Nat.le_refl _)] at HQ
      obtain rfl : y = false := HQ.out.symm.trans HANY.out
      have hn3 : n3 ≤ l.length := by have := N3.out; omega
      have hn3' : (n3 : Int) ≤ (l.length : Int) := by omega
      go_wp2_with (first
        | (go_at_call 19; have _t := T4; (with_reducible refine (H19.out _ H5.out).mono ?_); rintro e W6 ⟨rfl, hb⟩; have H6 := Lib.hid (H5.out.trans (hb.mono H5.out.size)); have R3c := Lib.hid ((R3b.out.below hb).mono hb.size); clear hb T4)
        | (go_at_call 19; have _t := T5; (with_reducible refine (pfind_n N3.out id hml R3c.out HM19.out).mono ?_); rintro e W7 ⟨rfl, hb⟩; have H7 := Lib.hid (H6.out.trans (hb.mono H6.out.size)); have R3d := Lib.hid ((R3c.out.below hb).mono hb.size); clear hb T5)
        | (go_at_call 14; (with_reducible refine (pright_n N3.out hml R3d.out HM14.out).mono ?_); rintro e W8 ⟨rfl, hb⟩; have H8 := Lib.hid (H7.out.trans (hb.mono H7.out.size)); have R3e := Lib.hid ((R3d.out.below hb).mono hb.size); clear hb))
      go_quiet (fail)
      go_wp2
      go_ret
      exact ⟨rfl, below_drewN H8.out _⟩

set_option maxHeartbeats 8000000 in
set_option maxRecDepth 100000 in
theorem walk_tt (a : Option Addr) (cap : Nat) (l : List It) (b : Option Addr) (cbp : Nat) (zs : List Int) (id : Int) (w : World) (hcl : Came w a cap l) (hz : Ints64 zs) (hrz : Rd .i64 w.heap.size w b zs) (hfl : fewB l = true) (h100 : zs.length ≤ 100) (hR : rightB l = true) (m : List It) (hm : pdropS l zs = m) (p q c d : Nat) (hany : (zs.any fun z => z == id) = true) (h19 : pfindS l id = (((p : Nat) : Int), ((q : Nat) : Int), true)) (h19m : pfindS m id = (((c : Nat) : Int), ((d : Nat) : Int), true)) (hpq : p < q) (hql : q ≤ l.length) (hcd : c < d) (hdm : d ≤ m.length) (hseg : (l.drop p).take (q - p) = (m.drop c).take (d - c)) : Calls Try.prog 7 #[.slice a l.length cap, .slice b zs.length cbp, .int .i64 id] w fun e w' => e = .returned (.bool true) ∧ Below w.heap.size w w' := by
  obtain ⟨hl, hbs⟩ := few_small hfl
  obtain ⟨dm1, dm2, dm3, dm4⟩ := drop_facts hR zs
  rw [hm] at dm1 dm2 dm3 dm4
  have hml : m.length ≤ 140737488351232 := by omega
  have hml2 : m.length ≤ l.length := dm3
  have HFL : Hid (∀ W, Below w.heap.size w W → Calls Try.prog 11 #[.slice a l.length cap] W fun e w' => e = .returned (.bool true) ∧ W = w') := Lib.hid fun W hW => by
    have h := few_any a cap l (by have := hcl.le; have := hcl.cap; omega) hcl.bs W ((hcl.rd.below hW).mono hW.size)
    rwa [hfl] at h
  have H14 : Hid (∀ W, Below w.heap.size w W → Calls Try.prog 14 #[.slice a l.length cap] W fun e w' => e = .returned (.bool true) ∧ Below W.heap.size W w') := Lib.hid fun W hW => by
    have h := pright_any a cap l (by omega) W ((hcl.rd.below hW).mono hW.size)
    rwa [hR] at h
  have T1 : True := trivial
  have H21 : Hid (∀ W, Below w.heap.size w W → Calls Try.prog 21 #[.slice a l.length cap, .slice b zs.length cbp] W (GotD m W)) := Lib.hid fun W hW => by
    have h := pdrop_any (a := a) (cap := cap) (b := b) (cb := cbp) rfl rfl (by omega) hcl.le (by have := hcl.cap; omega) (fun x hx => by have := hbs x hx; omega) (by omega) hz ((hcl.rd.below hW).mono hW.size) ((hrz.below hW).mono hW.size)
    rwa [hm] at h
  have H21m : Hid (∀ (W : World) (A : Option Addr) (n cc : Nat), Below w.heap.size w W → n = m.length → n ≤ cc → cc ≤ maxLen → RdI W.heap.size W A m → Calls Try.prog 21 #[.slice A n cc, .slice b zs.length cbp] W (GotD m W)) := Lib.hid fun W A n cc hW hn hnc hcm hr => by
    unfold maxLen at hcm
    have h := pdrop_any (b := b) (cb := cbp) hn rfl (by omega) hnc (by omega) (fun x hx => by have := hbs x (dm4 x hx); omega) (by omega) hz hr ((hrz.below hW).mono hW.size)
    rwa [dm2] at h
  have H19 : Hid (∀ W, Below w.heap.size w W → Calls Try.prog 19 #[.slice a l.length cap, .int .i64 id] W fun e w' => e = .returned (.tuple #[.int .i64 p, .int .i64 q, .bool true]) ∧ Below W.heap.size W w') := Lib.hid fun W hW =>
    pfind_n rfl id (by omega) ((hcl.rd.below hW).mono hW.size) h19
  have HM19 := Lib.hid h19m
  have HM14 := Lib.hid dm1
  have HZ := Lib.hid hrz
  have HANY := Lib.hid hany
  have HL := Lib.hid hcl.rd
  have hlc := hcl.le
  have T2 : True := trivial
  have T3 : True := trivial
  have T4 : True := trivial
  have T5 : True := trivial
  have HSEG := Lib.hid hseg
  clear hcl hfl hz hrz hR hbs hm h19 h19m hany dm1 dm2 dm3 dm4 hseg
  go_enter Try.func7, Try.ntmps7
  go_wp2_with (first
    | (go_at_call 10; refine (awakev_any _).mono ?_; rintro e W1 ⟨rfl, hb⟩; have H1 := Lib.hid hb; clear hb)
    | (go_at_call 11; (with_reducible refine (HFL.out _ H1.out).mono ?_); rintro e W1' ⟨rfl, rfl⟩)
    | (go_at_call 14; have _t := T1; (with_reducible refine (H14.out _ H1.out).mono ?_); rintro e W2 ⟨rfl, hb⟩; have H2 := Lib.hid (H1.out.trans (hb.mono H1.out.size)); clear hb T1)
    | (go_at_call 21; have _t := T2; (with_reducible refine (H21.out _ H2.out).mono ?_); rintro e W3 ⟨A3, n3, c3, rfl, hn3, hnc3, hcm3, hr3, hb⟩; have H3 := Lib.hid (H2.out.trans (hb.mono H2.out.size)); have N3 := Lib.hid hn3; have C3 := Lib.hid hnc3; have M3 := Lib.hid hcm3; have R3 := Lib.hid hr3; clear hb hn3 hnc3 hcm3 hr3 T2)
    | (go_at_call 21; have _t := T3; (with_reducible refine (H21m.out _ _ _ _ H3.out N3.out C3.out M3.out R3.out).mono ?_); rintro e W4 ⟨A4, n4, c4, rfl, hn4, -, -, hr4, hb⟩; have H4 := Lib.hid (H3.out.trans (hb.mono H3.out.size)); have N4 := Lib.hid hn4; have R4 := Lib.hid hr4; have R3a := Lib.hid ((R3.out.below hb).mono hb.size); clear hb hn4 hr4 T3)
    | (go_at_call 18; (with_reducible refine (same_n N4.out N3.out hml R4.out R3a.out).mono ?_); rintro e W5 ⟨rfl, hb⟩; have H5 := Lib.hid (H4.out.trans (hb.mono H4.out.size)); have R3b := Lib.hid ((R3a.out.below hb).mono hb.size); clear hb))
  go_loop [11, 12] (fun nv kv => ∃ (k : Nat) (y : Bool), k ≤ zs.length ∧ kv = .int .i64 k ∧ nv = .bool y ∧ Hid (((zs.take k).any fun z => z == id) = y)) (fun _ kv => zs.length - (intOf kv).toNat)
  case atStart => exact ⟨0, false, Nat.zero_le _, rfl, rfl, rfl⟩
  case round =>
    obtain ⟨k, y, hk, rfl, rfl, HQ⟩ := hrel
    by_cases hkl : k < zs.length
    · obtain ⟨bz, oz, rfl, hbz, hcz⟩ := HZ.out (by omega)
      obtain ⟨z, hzk⟩ : ∃ z, zs[k]? = some z := ⟨_, List.getElem?_eq_getElem hkl⟩
      have hz1 := (H5.out.cell (p := ⟨bz, oz + k, none⟩) hbz).trans (hcz k hkl)
      rw [hzk, Option.getD_some] at hz1
      have hat := any_take zs id k z hzk
      rw [HQ.out] at hat
      have j0 : (0 : Int) ≤ (k : Int) := Int.natCast_nonneg _
      have j1 : (k : Int) < (zs.length : Int) := by omega
      clear hcz hzk
      rcases y with _ | _
      · rcases hzx : (z == id) with _ | _
        · rw [hzx] at hat
          have HAT := Lib.hid hat
          clear hat
          go_wp2
          go_round
          case rel => exact ⟨k + 1, false, by omega, by go_num, rfl, HAT.out⟩
          case measure => simp [intOf]; omega
        · rw [hzx] at hat
          have HAT := Lib.hid hat
          clear hat
          go_wp2
          go_round
          case rel => exact ⟨k + 1, true, by omega, by go_num, rfl, HAT.out⟩
          case measure => simp [intOf]; omega
      · have HAT := Lib.hid hat
        clear hat
        go_wp2
        go_round
        case rel => exact ⟨k + 1, true, by omega, by go_num, rfl, HAT.out⟩
        case measure => simp [intOf]; omega
    · obtain rfl : k = zs.length := by omega
      rw [List.take_of_length_le (Nat.le_refl _)] at HQ
      obtain rfl : y = true := HQ.out.symm.trans HANY.out
      have hn3 : n3 ≤ l.length := by have := N3.out; omega
      have hn3' : (n3 : Int) ≤ (l.length : Int) := by omega
      obtain ⟨bq, off, rfl, hbq, _⟩ := HL.out (by omega)
      obtain ⟨b3, off3, rfl, hb3, _⟩ := R3.out (by omega)
      have hdn : d ≤ n3 := by have := N3.out; omega
      have q1 : (q : Int) ≤ (l.length : Int) := by omega
      have q2 : (p : Int) < (q : Int) := by omega
      have q3 : (d : Int) ≤ (n3 : Int) := by omega
      have q4 : (c : Int) < (d : Int) := by omega
      have q5 : (0 : Int) ≤ (p : Int) := Int.natCast_nonneg _
      have q6 : (0 : Int) ≤ (c : Int) := Int.natCast_nonneg _
      have hc1 : ¬ cap = p := by omega
      have hc2 : ¬ c3 = c := by have := C3.out; omega
      have hnc3 : n3 ≤ c3 := C3.out
      obtain ⟨seg, hsg⟩ : ∃ seg, (l.drop p).take (q - p) = seg := ⟨_, rfl⟩
      have hs2 : (m.drop c).take (d - c) = seg := by rw [← HSEG.out, hsg]
      have hsl : seg.length = q - p := by rw [← hsg, List.length_take, List.length_drop]; omega
      have hsl2 : seg.length = d - c := by rw [← hs2, List.length_take, List.length_drop]; omega
      have HSL := Lib.hid hsl.symm
      have HSL2 := Lib.hid hsl2.symm
      have hsm : seg.length ≤ 140737488351232 := by omega
      have hrl : ∀ W, Below w.heap.size w W → RdI W.heap.size W (some ⟨bq, off + p * 4, none⟩) seg := fun W hW => by rw [← hsg]; exact ((HL.out.part p (q - p)).below hW).mono hW.size
      have hrm : ∀ W, RdI W.heap.size W (some ⟨b3, off3, none⟩) m → RdI W.heap.size W (some ⟨b3, off3 + c * 4, none⟩) seg := fun W h => by rw [← hs2]; exact h.part c (d - c)
      have HRL := Lib.hid hrl
      have HRM := Lib.hid hrm
      clear hsg hs2 hsl hsl2 hrl hrm
      go_wp2_with (first
        | (go_at_call 19; have _t := T4; (with_reducible refine (H19.out _ H5.out).mono ?_); rintro e W6 ⟨rfl, hb⟩; have H6 := Lib.hid (H5.out.trans (hb.mono H5.out.size)); have R3c := Lib.hid ((R3b.out.below hb).mono hb.size); clear hb T4)
        | (go_at_call 19; have _t := T5; (with_reducible refine (pfind_n N3.out id hml R3c.out HM19.out).mono ?_); rintro e W7 ⟨rfl, hb⟩; have H7 := Lib.hid (H6.out.trans (hb.mono H6.out.size)); have R3d := Lib.hid ((R3c.out.below hb).mono hb.size); clear hb T5)
        | (go_at_call 14; (with_reducible refine (pright_n N3.out hml R3d.out HM14.out).mono ?_); rintro e W8 ⟨rfl, hb⟩; have H8 := Lib.hid (H7.out.trans (hb.mono H7.out.size)); have R3e := Lib.hid ((R3d.out.below hb).mono hb.size); clear hb))
      go_quiet ((go_at_call 18; exact Calls.quiet_of (same_q HSL.out HSL2.out hsm (HRL.out _ H8.out) (HRM.out _ R3e.out) _)))
      go_wp2
      go_ret
      exact ⟨rfl, below_drewN H8.out _⟩

theorem walk (a0 : Option Addr) (cap0 : Nat) (l0 : List It) (a1 : Option Addr) (len1 cap1 : Nat) (z1 : List Int) (a2 : Int) (w : World) (w0 : Came w a0 cap0 l0) (w1 : IsRow .i64 w a1 len1 cap1 z1) (w2 : (Lit.int .i64 a2).wf = true) :
    Calls Try.prog 7 #[.slice a0 l0.length cap0, .slice a1 len1 cap1, .int .i64 a2] w fun e w' => e = .returned (.bool true) ∧ Below w.heap.size w w' := by
  obtain ⟨zs, rfl, hlc, hcm, hr, hwf⟩ := w1.read
  have hz := ints_of hwf
  rcases Bool.eq_false_or_eq_true (fewB l0) with hfl | hfl
  · rcases Nat.lt_or_ge 100 zs.length with h | h
    · exact walk_long a0 cap0 l0 a1 cap1 zs a2 w w0 hz hr hfl h
    · rcases Bool.eq_false_or_eq_true (rightB l0) with hR | hR
      · obtain ⟨is, was, p, q, c, d, h1, h2, h3, h4⟩ := drop_find hR zs a2
        rcases is with _ | _
        · have hw : was = false := h3
          subst hw
          exact walk_ff a0 cap0 l0 a1 cap1 zs a2 w w0 hz hr hfl h hR _ rfl p q c d _ rfl h1 h2
        · rcases hany : (zs.any fun z => z == a2) with _ | _
          · rw [hany] at h3
            have hw : was = false := h3
            subst hw
            exact walk_tf a0 cap0 l0 a1 cap1 zs a2 w w0 hz hr hfl h hR _ rfl p q c d hany h1 h2
          · rw [hany] at h3
            have hw : was = true := h3
            subst hw
            obtain ⟨f1, f2, f3, f4, f5⟩ := h4 rfl
            exact walk_tt a0 cap0 l0 a1 cap1 zs a2 w w0 hz hr hfl h hR _ rfl p q c d hany h1 h2 f1 f2 f3 f4 f5
      · exact walk_not a0 cap0 l0 a1 cap1 zs a2 w w0 hz hr hfl h hR
  · exact walk_many a0 cap0 l0 a1 cap1 zs a2 w w0 hz hr hfl


set_option maxRecDepth 100000 in
theorem lifted (os : Os) (started : os.Started) (H : Type) (enc : TypeId × Value → H) :
    ReturnsInHanded {} Try.checked os 7 .any (Rows.valueDropsSpec.pre6 enc Try.prog Try.f7 Rows.valueDropsRow.domain false) (Rows.valueDropsSpec.post enc Try.prog Try.f7 false true false false) := by
  refine returnsInHanded_of_change_sized (C := Try.checked) own started (by kernel_rfl) Try.func7
    (ChangeSpec.witness6 (enc := enc) (C := Try.checked) false ⟨#[], #[.slice none 0 0, .slice none 0 0, .int .i64 0], []⟩ 8 (by kernel_rfl) (by kernel_rfl) (by kernel_rfl) (by kernel_rfl)) ?_
  intro W base args ds gs before hval0 hW hcnd hsz0 _
  have hval : ∀ (j : Nat) t v, Try.f7.params[j]? = some t → args[j]? = some v → Value.okWide Try.prog W .any base t v := hval0
  have hW' := hW
  obtain ⟨p, q, hA0, hV, rfl, hfz, hnd⟩ := hW
  have hA : DataW.TrodAll enc Try.prog W 0 (fun _ => true) true Try.f7.params.toList args.toList ds p := hA0
  have hsz : (DataW.weightsEach Try.prog (Try.f7.params.toList ++ Rows.valueDropsSpec.plain.varTypes Try.prog) (ds ++ gs)).all (· ≤ reachBytes) = true := hsz0
  rw [Try.params7] at hA hval hsz
  obtain ⟨v0, vs0, d0, ds0, p0, q0, hargs, rfl, rfl, h0, r0⟩ := trodAll_cons hA
  obtain ⟨v1, vs1, d1, ds1, p1, q1, rfl, rfl, rfl, h1, r1⟩ := trodAll_cons r0
  obtain ⟨v2, vs2, d2, ds2, p2, q2, rfl, rfl, rfl, h2, r2⟩ := trodAll_cons r1
  obtain ⟨rfl, rfl, rfl⟩ := trodAll_nil r2
  obtain rfl : args = #[v0, v1, v2] := by cases args; simp_all
  obtain ⟨rfl, rfl⟩ := trodVars_none hV
  obtain ⟨a0, len0, cap0, rfl⟩ := okWide_slice Try.underlying22 (hval 0 22 v0 rfl rfl)
  have k0 := h0
  have lt0 : ∀ x ∈ p0, x.block < W.heap.size := by obtain ⟨m, hm⟩ := k0; exact DataW.trod_lt m _ _ _ hm
  obtain ⟨l0, rfl, w0⟩ := came_of h0 (fun n hn => by simpa using List.all_eq_true.1 hsz n (DataW.weights_mem_each (j := 0) rfl rfl n hn))
  obtain ⟨a1, len1, cap1, rfl⟩ := okWide_slice Try.underlying33 (hval 1 33 v1 rfl rfl)
  have k1 := h1
  have lt1 : ∀ x ∈ p1, x.block < W.heap.size := by obtain ⟨m, hm⟩ := k1; exact DataW.trod_lt m _ _ _ hm
  obtain ⟨z1, w1⟩ : ∃ zs, IsRow .i64 W a1 len1 cap1 zs := by
    obtain ⟨fuel, hf⟩ := h1
    rcases open_ints Try.underlying33 Try.underlying3 (by kernel_rfl) hf with ⟨hcs, _⟩ | ⟨x, l, c, zs, hcs, _, hl, hm, hz, _, hcell, hwz⟩
    · simp [Value.cells] at hcs
      obtain ⟨rfl, rfl, rfl⟩ := hcs
      exact ⟨[], .inl ⟨rfl, rfl, rfl, rfl⟩⟩
    · simp [Value.cells] at hcs
      obtain ⟨rfl, rfl, rfl⟩ := hcs
      exact ⟨zs, .inr ⟨_, rfl, hl, hm, by simpa using hz, hcell, hwz⟩⟩
  obtain ⟨a2, rfl, rfl, rfl, w2⟩ := open_int Try.underlying3 (hval 2 3 v2 rfl rfl) h2
  clear hA0 hval0
  refine (walk a0 cap0 l0 a1 len1 cap1 z1 a2 W w0 w1 w2).mono fun e W' ⟨he, bel⟩ => ?_
  subst he
  exact ⟨_, rfl, _, _, _, [], _, [], hW', trodAll_mk1 (shut_bool Try.underlying4 _), (trodAll_cons_mk (Below.trod laidOut (by kernel_rfl) (of_decide_eq_true (by kernel_rfl)) k0 bel lt0) (trodAll_cons_mk (Below.trod laidOut (by kernel_rfl) (of_decide_eq_true (by kernel_rfl)) k1 bel lt1) (trodAll_cons_mk (shut_int Try.underlying3 w2) trodAll_mk0))), rfl, bel.frame _, fun h => by cases h⟩

theorem over : Rows.valueDropsRow.holds Try.pinned (OpenSpec.ofChange Rows.valueDropsSpec) :=
  OpenClaim.holds_of_wide 7 Try.f7 rfl rfl rfl rfl rfl rfl rfl ⟨rfl, rfl, rfl, rfl, rfl⟩ rfl rfl rfl rfl rfl (by kernel_rfl) Try.func7 (by kernel_rfl)
    (of_decide_eq_true (by kernel_rfl)) (by unfold Func.isWrapper; first | (rw [if_pos (by decide +kernel)]; kernel_rfl) | (rw [if_neg (by decide +kernel)]; exact ⟨rfl, rfl⟩))
    (fun os started H enc _ => lifted os started H enc)

theorem proved : Rows.ValueDropsSaid := over
#print axioms proved
end Go.Proofs.Yteelknmafnoccaa.valueDrops
