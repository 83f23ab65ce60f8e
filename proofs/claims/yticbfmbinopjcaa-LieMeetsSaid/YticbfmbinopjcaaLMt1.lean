/-
  LieMeets: the walks.
-/
import Derived.Test.YticbfmbinopjcaaLMt
import Derived.Deep.RegionHeld
namespace Go.Proofs.Yticbfmbinopjcaa
set_option linter.unusedSimpArgs false
set_option linter.unusedVariables false
open Go.RowKit
set_option maxHeartbeats 3200000 in
set_option maxRecDepth 100000 in
theorem meets_pq (p q : PortT) (r : Int) (hp : ¬ portB p) (hq : ¬ portB q)  (w : World) : Calls Try.prog 6 #[.agg #[.int .i64 p.node, .int .i64 p.level, .int .i64 p.pod, .int .i64 p.mtu, .int .i64 p.link, .int .i64 p.hold], .agg #[.int .i64 q.node, .int .i64 q.level, .int .i64 q.pod, .int .i64 q.mtu, .int .i64 q.link, .int .i64 q.hold], .int .i64 r] w fun e w' => e = .returned (.bool true) ∧ Below w.heap.size w w' := by
  obtain ⟨V, hV⟩ : ∃ V, (w.alloc (.cells #[.int .i64 p.node, .int .i64 p.level, .int .i64 p.pod, .int .i64 p.mtu, .int .i64 p.link, .int .i64 p.hold] 23)).alloc (.cells #[.int .i64 q.node, .int .i64 q.level, .int .i64 q.pod, .int .i64 q.mtu, .int .i64 q.link, .int .i64 q.hold] 23) = V := ⟨_, rfl⟩
  have hb := Boxes.new w p q
  rw [hV] at hb
  have HB := Lib.hid hb
  have HV := Lib.hid hV
  clear hb hV
  have HP := Lib.hid (new_none p hp)
  have HQ := Lib.hid (new_none q hq)
  have C1 : True := trivial
  clear hp hq
  go_enter Try.func6, Try.ntmps6
  go_wp2_with (first
    | (go_at_call 9; rw [HV.out]; refine (awake_any _).mono ?_; rintro e w1 ⟨rfl, hb1⟩; have hx := HB.out.below hb1; obtain ⟨xp0, xp1, xp2, xp3, xp4, xp5⟩ := hx.1.port; obtain ⟨xq0, xq1, xq2, xq3, xq4, xq5⟩ := hx.2.1.port; have B1 := Lib.hid hx; clear hb1 hx)
    | (go_at_call 12; have c1 := C1; clear C1 c1; (with_reducible refine (HP.out _).mono ?_); rintro e w2 ⟨rfl, hb2⟩; have hx := B1.out.below hb2; obtain ⟨yp0, yp1, yp2, yp3, yp4, yp5⟩ := hx.1.port; obtain ⟨yq0, yq1, yq2, yq3, yq4, yq5⟩ := hx.2.1.port; have B2 := Lib.hid hx; clear hb2 hx)
    | (go_at_call 12; (with_reducible refine (HQ.out _).mono ?_); rintro e w3 ⟨rfl, hb2⟩; have hx := B2.out.below hb2; obtain ⟨zp0, zp1, zp2, zp3, zp4, zp5⟩ := hx.1.port; obtain ⟨zq0, zq1, zq2, zq3, zq4, zq5⟩ := hx.2.1.port; have B3 := Lib.hid hx; clear hb2 hx))
  all_goals go_ret
  all_goals exact ⟨rfl, B3.out.2.2⟩
set_option maxHeartbeats 3200000 in
set_option maxRecDepth 100000 in
theorem meets_p (p q : PortT) (r : Int) (hp : ¬ portB p) (hq : portB q)  (w : World) : Calls Try.prog 6 #[.agg #[.int .i64 p.node, .int .i64 p.level, .int .i64 p.pod, .int .i64 p.mtu, .int .i64 p.link, .int .i64 p.hold], .agg #[.int .i64 q.node, .int .i64 q.level, .int .i64 q.pod, .int .i64 q.mtu, .int .i64 q.link, .int .i64 q.hold], .int .i64 r] w fun e w' => e = .returned (.bool true) ∧ Below w.heap.size w w' := by
  obtain ⟨V, hV⟩ : ∃ V, (w.alloc (.cells #[.int .i64 p.node, .int .i64 p.level, .int .i64 p.pod, .int .i64 p.mtu, .int .i64 p.link, .int .i64 p.hold] 23)).alloc (.cells #[.int .i64 q.node, .int .i64 q.level, .int .i64 q.pod, .int .i64 q.mtu, .int .i64 q.link, .int .i64 q.hold] 23) = V := ⟨_, rfl⟩
  have hb := Boxes.new w p q
  rw [hV] at hb
  have HB := Lib.hid hb
  have HV := Lib.hid hV
  clear hb hV
  have HP := Lib.hid (new_none p hp)
  have HQ := Lib.hid (new_one q hq)
  have C1 : True := trivial
  clear hp hq
  go_enter Try.func6, Try.ntmps6
  go_wp2_with (first
    | (go_at_call 9; rw [HV.out]; refine (awake_any _).mono ?_; rintro e w1 ⟨rfl, hb1⟩; have hx := HB.out.below hb1; obtain ⟨xp0, xp1, xp2, xp3, xp4, xp5⟩ := hx.1.port; obtain ⟨xq0, xq1, xq2, xq3, xq4, xq5⟩ := hx.2.1.port; have B1 := Lib.hid hx; clear hb1 hx)
    | (go_at_call 12; have c1 := C1; clear C1 c1; (with_reducible refine (HP.out _).mono ?_); rintro e w2 ⟨rfl, hb2⟩; have hx := B1.out.below hb2; obtain ⟨yp0, yp1, yp2, yp3, yp4, yp5⟩ := hx.1.port; obtain ⟨yq0, yq1, yq2, yq3, yq4, yq5⟩ := hx.2.1.port; have B2 := Lib.hid hx; clear hb2 hx)
    | (go_at_call 12; (with_reducible refine (HQ.out _).mono ?_); rintro e w3 ⟨bq, rfl, hb2⟩; have hx := B2.out.below hb2.bel; obtain ⟨zp0, zp1, zp2, zp3, zp4, zp5⟩ := hx.1.port; obtain ⟨zq0, zq1, zq2, zq3, zq4, zq5⟩ := hx.2.1.port; have B3 := Lib.hid hx; have OQ := Lib.hid hb2; clear hb2 hx))
  all_goals go_ret
  all_goals exact ⟨rfl, B3.out.2.2⟩
set_option maxHeartbeats 3200000 in
set_option maxRecDepth 100000 in
theorem meets_q (p q : PortT) (r : Int) (hp : portB p) (hq : ¬ portB q)  (w : World) : Calls Try.prog 6 #[.agg #[.int .i64 p.node, .int .i64 p.level, .int .i64 p.pod, .int .i64 p.mtu, .int .i64 p.link, .int .i64 p.hold], .agg #[.int .i64 q.node, .int .i64 q.level, .int .i64 q.pod, .int .i64 q.mtu, .int .i64 q.link, .int .i64 q.hold], .int .i64 r] w fun e w' => e = .returned (.bool true) ∧ Below w.heap.size w w' := by
  obtain ⟨V, hV⟩ : ∃ V, (w.alloc (.cells #[.int .i64 p.node, .int .i64 p.level, .int .i64 p.pod, .int .i64 p.mtu, .int .i64 p.link, .int .i64 p.hold] 23)).alloc (.cells #[.int .i64 q.node, .int .i64 q.level, .int .i64 q.pod, .int .i64 q.mtu, .int .i64 q.link, .int .i64 q.hold] 23) = V := ⟨_, rfl⟩
  have hb := Boxes.new w p q
  rw [hV] at hb
  have HB := Lib.hid hb
  have HV := Lib.hid hV
  clear hb hV
  have HP := Lib.hid (new_one p hp)
  have HQ := Lib.hid (new_none q hq)
  have C1 : True := trivial
  clear hp hq
  go_enter Try.func6, Try.ntmps6
  go_wp2_with (first
    | (go_at_call 9; rw [HV.out]; refine (awake_any _).mono ?_; rintro e w1 ⟨rfl, hb1⟩; have hx := HB.out.below hb1; obtain ⟨xp0, xp1, xp2, xp3, xp4, xp5⟩ := hx.1.port; obtain ⟨xq0, xq1, xq2, xq3, xq4, xq5⟩ := hx.2.1.port; have B1 := Lib.hid hx; clear hb1 hx)
    | (go_at_call 12; have c1 := C1; clear C1 c1; (with_reducible refine (HP.out _).mono ?_); rintro e w2 ⟨bp, rfl, hb2⟩; have hx := B1.out.below hb2.bel; obtain ⟨yp0, yp1, yp2, yp3, yp4, yp5⟩ := hx.1.port; obtain ⟨yq0, yq1, yq2, yq3, yq4, yq5⟩ := hx.2.1.port; have B2 := Lib.hid hx; have OP := Lib.hid hb2; clear hb2 hx)
    | (go_at_call 12; (with_reducible refine (HQ.out _).mono ?_); rintro e w3 ⟨rfl, hb2⟩; have hx := B2.out.below hb2; obtain ⟨zp0, zp1, zp2, zp3, zp4, zp5⟩ := hx.1.port; obtain ⟨zq0, zq1, zq2, zq3, zq4, zq5⟩ := hx.2.1.port; have B3 := Lib.hid hx; clear hb2 hx))
  all_goals go_ret
  all_goals exact ⟨rfl, B3.out.2.2⟩
set_option maxHeartbeats 3200000 in
set_option maxRecDepth 100000 in
theorem meets_r1 (p q : PortT) (r : Int) (hp : portB p) (hq : portB q) (hr : r < 2) (w : World) : Calls Try.prog 6 #[.agg #[.int .i64 p.node, .int .i64 p.level, .int .i64 p.pod, .int .i64 p.mtu, .int .i64 p.link, .int .i64 p.hold], .agg #[.int .i64 q.node, .int .i64 q.level, .int .i64 q.pod, .int .i64 q.mtu, .int .i64 q.link, .int .i64 q.hold], .int .i64 r] w fun e w' => e = .returned (.bool true) ∧ Below w.heap.size w w' := by
  obtain ⟨V, hV⟩ : ∃ V, (w.alloc (.cells #[.int .i64 p.node, .int .i64 p.level, .int .i64 p.pod, .int .i64 p.mtu, .int .i64 p.link, .int .i64 p.hold] 23)).alloc (.cells #[.int .i64 q.node, .int .i64 q.level, .int .i64 q.pod, .int .i64 q.mtu, .int .i64 q.link, .int .i64 q.hold] 23) = V := ⟨_, rfl⟩
  have hb := Boxes.new w p q
  rw [hV] at hb
  have HB := Lib.hid hb
  have HV := Lib.hid hV
  clear hb hV
  have HP := Lib.hid (new_one p hp)
  have HQ := Lib.hid (new_one q hq)
  have C1 : True := trivial
  clear hp hq
  go_enter Try.func6, Try.ntmps6
  go_wp2_with (first
    | (go_at_call 9; rw [HV.out]; refine (awake_any _).mono ?_; rintro e w1 ⟨rfl, hb1⟩; have hx := HB.out.below hb1; obtain ⟨xp0, xp1, xp2, xp3, xp4, xp5⟩ := hx.1.port; obtain ⟨xq0, xq1, xq2, xq3, xq4, xq5⟩ := hx.2.1.port; have B1 := Lib.hid hx; clear hb1 hx)
    | (go_at_call 12; have c1 := C1; clear C1 c1; (with_reducible refine (HP.out _).mono ?_); rintro e w2 ⟨bp, rfl, hb2⟩; have hx := B1.out.below hb2.bel; obtain ⟨yp0, yp1, yp2, yp3, yp4, yp5⟩ := hx.1.port; obtain ⟨yq0, yq1, yq2, yq3, yq4, yq5⟩ := hx.2.1.port; have B2 := Lib.hid hx; have OP := Lib.hid hb2; clear hb2 hx)
    | (go_at_call 12; (with_reducible refine (HQ.out _).mono ?_); rintro e w3 ⟨bq, rfl, hb2⟩; have hx := B2.out.below hb2.bel; obtain ⟨zp0, zp1, zp2, zp3, zp4, zp5⟩ := hx.1.port; obtain ⟨zq0, zq1, zq2, zq3, zq4, zq5⟩ := hx.2.1.port; have B3 := Lib.hid hx; have OQ := Lib.hid hb2; clear hb2 hx))
  all_goals go_ret
  all_goals exact ⟨rfl, B3.out.2.2⟩
set_option maxHeartbeats 3200000 in
set_option maxRecDepth 100000 in
theorem meets_r2 (p q : PortT) (r : Int) (hp : portB p) (hq : portB q) (hr0 : ¬ r < 2) (hr : 60 < r) (w : World) : Calls Try.prog 6 #[.agg #[.int .i64 p.node, .int .i64 p.level, .int .i64 p.pod, .int .i64 p.mtu, .int .i64 p.link, .int .i64 p.hold], .agg #[.int .i64 q.node, .int .i64 q.level, .int .i64 q.pod, .int .i64 q.mtu, .int .i64 q.link, .int .i64 q.hold], .int .i64 r] w fun e w' => e = .returned (.bool true) ∧ Below w.heap.size w w' := by
  obtain ⟨V, hV⟩ : ∃ V, (w.alloc (.cells #[.int .i64 p.node, .int .i64 p.level, .int .i64 p.pod, .int .i64 p.mtu, .int .i64 p.link, .int .i64 p.hold] 23)).alloc (.cells #[.int .i64 q.node, .int .i64 q.level, .int .i64 q.pod, .int .i64 q.mtu, .int .i64 q.link, .int .i64 q.hold] 23) = V := ⟨_, rfl⟩
  have hb := Boxes.new w p q
  rw [hV] at hb
  have HB := Lib.hid hb
  have HV := Lib.hid hV
  clear hb hV
  have HP := Lib.hid (new_one p hp)
  have HQ := Lib.hid (new_one q hq)
  have C1 : True := trivial
  clear hp hq
  go_enter Try.func6, Try.ntmps6
  go_wp2_with (first
    | (go_at_call 9; rw [HV.out]; refine (awake_any _).mono ?_; rintro e w1 ⟨rfl, hb1⟩; have hx := HB.out.below hb1; obtain ⟨xp0, xp1, xp2, xp3, xp4, xp5⟩ := hx.1.port; obtain ⟨xq0, xq1, xq2, xq3, xq4, xq5⟩ := hx.2.1.port; have B1 := Lib.hid hx; clear hb1 hx)
    | (go_at_call 12; have c1 := C1; clear C1 c1; (with_reducible refine (HP.out _).mono ?_); rintro e w2 ⟨bp, rfl, hb2⟩; have hx := B1.out.below hb2.bel; obtain ⟨yp0, yp1, yp2, yp3, yp4, yp5⟩ := hx.1.port; obtain ⟨yq0, yq1, yq2, yq3, yq4, yq5⟩ := hx.2.1.port; have B2 := Lib.hid hx; have OP := Lib.hid hb2; clear hb2 hx)
    | (go_at_call 12; (with_reducible refine (HQ.out _).mono ?_); rintro e w3 ⟨bq, rfl, hb2⟩; have hx := B2.out.below hb2.bel; obtain ⟨zp0, zp1, zp2, zp3, zp4, zp5⟩ := hx.1.port; obtain ⟨zq0, zq1, zq2, zq3, zq4, zq5⟩ := hx.2.1.port; have B3 := Lib.hid hx; have OQ := Lib.hid hb2; clear hb2 hx))
  all_goals go_ret
  all_goals exact ⟨rfl, B3.out.2.2⟩
set_option maxHeartbeats 3200000 in
set_option maxRecDepth 100000 in
theorem meets_h1 (p q : PortT) (r : Int) (hp : portB p) (hq : portB q) (hr0 : ¬ r < 2) (hr1 : ¬ 60 < r) (hh : p.hold < 2) (w : World) : Calls Try.prog 6 #[.agg #[.int .i64 p.node, .int .i64 p.level, .int .i64 p.pod, .int .i64 p.mtu, .int .i64 p.link, .int .i64 p.hold], .agg #[.int .i64 q.node, .int .i64 q.level, .int .i64 q.pod, .int .i64 q.mtu, .int .i64 q.link, .int .i64 q.hold], .int .i64 r] w fun e w' => e = .returned (.bool true) ∧ Below w.heap.size w w' := by
  obtain ⟨V, hV⟩ : ∃ V, (w.alloc (.cells #[.int .i64 p.node, .int .i64 p.level, .int .i64 p.pod, .int .i64 p.mtu, .int .i64 p.link, .int .i64 p.hold] 23)).alloc (.cells #[.int .i64 q.node, .int .i64 q.level, .int .i64 q.pod, .int .i64 q.mtu, .int .i64 q.link, .int .i64 q.hold] 23) = V := ⟨_, rfl⟩
  have hb := Boxes.new w p q
  rw [hV] at hb
  have HB := Lib.hid hb
  have HV := Lib.hid hV
  clear hb hV
  have HP := Lib.hid (new_one p hp)
  have HQ := Lib.hid (new_one q hq)
  have C1 : True := trivial
  clear hp hq
  go_enter Try.func6, Try.ntmps6
  go_wp2_with (first
    | (go_at_call 9; rw [HV.out]; refine (awake_any _).mono ?_; rintro e w1 ⟨rfl, hb1⟩; have hx := HB.out.below hb1; obtain ⟨xp0, xp1, xp2, xp3, xp4, xp5⟩ := hx.1.port; obtain ⟨xq0, xq1, xq2, xq3, xq4, xq5⟩ := hx.2.1.port; have B1 := Lib.hid hx; clear hb1 hx)
    | (go_at_call 12; have c1 := C1; clear C1 c1; (with_reducible refine (HP.out _).mono ?_); rintro e w2 ⟨bp, rfl, hb2⟩; have hx := B1.out.below hb2.bel; obtain ⟨yp0, yp1, yp2, yp3, yp4, yp5⟩ := hx.1.port; obtain ⟨yq0, yq1, yq2, yq3, yq4, yq5⟩ := hx.2.1.port; have B2 := Lib.hid hx; have OP := Lib.hid hb2; clear hb2 hx)
    | (go_at_call 12; (with_reducible refine (HQ.out _).mono ?_); rintro e w3 ⟨bq, rfl, hb2⟩; have hx := B2.out.below hb2.bel; obtain ⟨zp0, zp1, zp2, zp3, zp4, zp5⟩ := hx.1.port; obtain ⟨zq0, zq1, zq2, zq3, zq4, zq5⟩ := hx.2.1.port; have B3 := Lib.hid hx; have OQ := Lib.hid hb2; clear hb2 hx))
  all_goals go_ret
  all_goals exact ⟨rfl, B3.out.2.2⟩
set_option maxHeartbeats 3200000 in
set_option maxRecDepth 100000 in
theorem meets_h2 (p q : PortT) (r : Int) (hp : portB p) (hq : portB q) (hr0 : ¬ r < 2) (hr1 : ¬ 60 < r) (hh0 : ¬ p.hold < 2) (hh : q.hold < 2) (w : World) : Calls Try.prog 6 #[.agg #[.int .i64 p.node, .int .i64 p.level, .int .i64 p.pod, .int .i64 p.mtu, .int .i64 p.link, .int .i64 p.hold], .agg #[.int .i64 q.node, .int .i64 q.level, .int .i64 q.pod, .int .i64 q.mtu, .int .i64 q.link, .int .i64 q.hold], .int .i64 r] w fun e w' => e = .returned (.bool true) ∧ Below w.heap.size w w' := by
  obtain ⟨V, hV⟩ : ∃ V, (w.alloc (.cells #[.int .i64 p.node, .int .i64 p.level, .int .i64 p.pod, .int .i64 p.mtu, .int .i64 p.link, .int .i64 p.hold] 23)).alloc (.cells #[.int .i64 q.node, .int .i64 q.level, .int .i64 q.pod, .int .i64 q.mtu, .int .i64 q.link, .int .i64 q.hold] 23) = V := ⟨_, rfl⟩
  have hb := Boxes.new w p q
  rw [hV] at hb
  have HB := Lib.hid hb
  have HV := Lib.hid hV
  clear hb hV
  have HP := Lib.hid (new_one p hp)
  have HQ := Lib.hid (new_one q hq)
  have C1 : True := trivial
  clear hp hq
  go_enter Try.func6, Try.ntmps6
  go_wp2_with (first
    | (go_at_call 9; rw [HV.out]; refine (awake_any _).mono ?_; rintro e w1 ⟨rfl, hb1⟩; have hx := HB.out.below hb1; obtain ⟨xp0, xp1, xp2, xp3, xp4, xp5⟩ := hx.1.port; obtain ⟨xq0, xq1, xq2, xq3, xq4, xq5⟩ := hx.2.1.port; have B1 := Lib.hid hx; clear hb1 hx)
    | (go_at_call 12; have c1 := C1; clear C1 c1; (with_reducible refine (HP.out _).mono ?_); rintro e w2 ⟨bp, rfl, hb2⟩; have hx := B1.out.below hb2.bel; obtain ⟨yp0, yp1, yp2, yp3, yp4, yp5⟩ := hx.1.port; obtain ⟨yq0, yq1, yq2, yq3, yq4, yq5⟩ := hx.2.1.port; have B2 := Lib.hid hx; have OP := Lib.hid hb2; clear hb2 hx)
    | (go_at_call 12; (with_reducible refine (HQ.out _).mono ?_); rintro e w3 ⟨bq, rfl, hb2⟩; have hx := B2.out.below hb2.bel; obtain ⟨zp0, zp1, zp2, zp3, zp4, zp5⟩ := hx.1.port; obtain ⟨zq0, zq1, zq2, zq3, zq4, zq5⟩ := hx.2.1.port; have B3 := Lib.hid hx; have OQ := Lib.hid hb2; clear hb2 hx))
  all_goals go_ret
  all_goals exact ⟨rfl, B3.out.2.2⟩
end Go.Proofs.Yticbfmbinopjcaa
