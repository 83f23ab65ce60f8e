/-
  THE TRAVERSAL's tie.
-/
import Derived.Test.YtpaooddmgcekhaaGreatWEachE
import Derived.Test.YtpaooddmgcekhaaGreatWEachR
namespace Go.Proofs.YtpaooddmgcekhaaGreat
open Go.RowKit Go.Shelf
set_option linter.unusedVariables false
section
variable {σ : Type}
/-- A closure that goes through a tie's head. -/
theorem tie1_any {E : Env σ} (ok : E.Ok) (q1 q2 B off : Nat) (hq1 : q1 ≠ B) (hq2 : q2 ≠ B) (x : HeadT) {r : Nat} (t : σ × Bool) (W : World) (h : E.St (r + 8) t W)
    (h1 : At E.base W q1 0 [.pointer (some ⟨E.bt, 0, none⟩)]) (h2 : At E.base W q2 0 [.pointer (some ⟨B, off, none⟩)]) (ha : At E.base W B (off) (encHead x)) :
    Calls Tryz.prog 103 #[.pointer (some ⟨q1, 0, none⟩), .pointer (some ⟨q2, 0, none⟩)] W fun e w' =>
      e = .returned (.tuple #[]) ∧ E.St r (headM E.M x t).2 w' ∧ Chg E.base B (off) (off + 6) W w' ∧ At E.base w' B (off) (encHead (headM E.M x t).1) := by
  have c1 := h1.cell0 rfl
  have c2 := h2.cell0 rfl
  have hc := Lib.hid (head_any ok B (off) x t W.drew (h.drew ok) ha)
  have H1 := Lib.hid h1.drew
  have H2 := Lib.hid h2.drew
  clear h h1 h2 ha
  go_enter Tryz.func103, Tryz.ntmps103
  go_wp2
  go_region_held (fun w' => w'.cell? ⟨q1, 0, none⟩ = some (.pointer (some ⟨E.bt, 0, none⟩)) ∧ w'.cell? ⟨q2, 0, none⟩ = some (.pointer (some ⟨B, off, none⟩))) (first | go_keep | exact ⟨by assumption, by assumption⟩)
    (first
      | (go_at_call 93; refine hc.out.mono ?_; rintro e w1 ⟨rfl, hs1, hc1, ha1⟩; have d1 := (At.chg H1.out hc1 (.inl hq1)).cell0 rfl; have d2 := (At.chg H2.out hc1 (.inl hq2)).cell0 rfl; have S1 := Lib.hid hs1; have C1 := Lib.hid hc1.drawn; have A1 := Lib.hid ha1; clear hs1 hc1 ha1))
  go_wp2
  go_end0
  exact ⟨rfl, S1.out, C1.out, A1.out⟩

theorem row_form {n₀ : Nat} {W : World} {e : TypeId} {size n : Nat} {v : Value} {xs : List Value} (h : W.ownsRow n₀ e size v n xs) : ∃ A m c, v = .slice A m c ∧ m = n := by
  rcases h.2 with ⟨rfl, h0⟩ | ⟨g, cap, cur, rfl, _⟩
  · exact ⟨none, 0, 0, rfl, h0.symm⟩
  · exact ⟨_, _, _, rfl, rfl⟩
def encTie (x : TieT) (ve vr : Value) : List Value := encHead x.head ++ [.int .i64 x.level, .bool x.over, ve, vr]
/-- A tie, under limits that are given. -/
def tieN (M : Mac σ) (lv ov : Int) (n1 n2 : Nat) (x : TieT) (t : σ × Bool) : TieT × (σ × Bool) :=
  let a := inM M 1 (headM M x.head) t
  let b := btw M 2 0 lv x.level a.2
  let c := flagM M 3 ov x.over b.2
  let d := eachM M 4 (edgeM M) EdgeT.zero x.edges n1 [] c.2
  let e := eachM M 5 (reachM M) ReachT.zero x.reaches n2 [] d.2
  (⟨a.1, b.1, c.1, d.1, e.1⟩, e.2)
theorem tie_n (M : Mac σ) (x : TieT) (t : σ × Bool) (h : (inM M 1 (headM M x.head) t).1.id.kind = 1) : tieM M x t = tieN M 24 1 64 0 x t := by
  simp only [tieM, tieN, h, if_true]
theorem tie_o (M : Mac σ) (x : TieT) (t : σ × Bool) (h : ¬ (inM M 1 (headM M x.head) t).1.id.kind = 1) : tieM M x t = tieN M 0 0 0 64 x t := by
  simp only [tieM, tieN, h, if_false]
theorem tie_join {base : Nat} {W W' : World} {B off : Nat} {x : TieT} {y : HeadT} {ve vr : Value} (h : At base W B off (encTie x ve vr)) (k : Chg base B off (off + 6) W W') (h' : At base W' B off (encHead y)) : At base W' B off (encHead y ++ [.int .i64 x.level, .bool x.over, ve, vr]) :=
  At.join (a := []) (b := encHead x.head) (b' := encHead y) (c := [.int .i64 x.level, .bool x.over, ve, vr]) (i := 0) h rfl rfl k h'

set_option maxRecDepth 100000 in
set_option maxHeartbeats 8000000 in
theorem tie_core {E : Env σ} (ok : E.Ok) (B off : Nat) (x : TieT) (ae ar : Option Addr) (ce cr : Nat) (hle : x.edges.length ≤ 140737488351232) (hlr : x.reaches.length ≤ 140737488351232) (hok : ∀ y ∈ x.reaches, 0 ≤ y.net ∧ y.net < 4294967296)
    {r : Nat} (t : σ × Bool) (W : World) (h : E.St (r + 652) t W) (ha : At E.base W B off (encTie x (.slice ae x.edges.length ce) (.slice ar x.reaches.length cr))) (hre : RdR 3 encEdge E.base W ae x.edges) (hrr : RdR 3 encReach E.base W ar x.reaches)
    (y : HeadT × (σ × Bool)) (hy : headM E.M x.head (openM E.M 1 t) = y) (lv ov : Int) (n1 n2 : Nat) (hk : (y.1.id.kind = 1 ∧ lv = 24 ∧ ov = 1 ∧ n1 = 64 ∧ n2 = 0) ∨ (¬ y.1.id.kind = 1 ∧ lv = 0 ∧ ov = 0 ∧ n1 = 0 ∧ n2 = 64)) :
    Calls Tryz.prog 88 #[.pointer (some ⟨E.bt, 0, none⟩), .pointer (some ⟨B, off, none⟩)] W fun e w' =>
      ∃ ve vr, e = .returned (.tuple #[]) ∧ E.St r (tieN E.M lv ov n1 n2 x t).2 w' ∧ Chg E.base B off (off + 10) W w' ∧ At E.base w' B off (encTie (tieN E.M lv ov n1 n2 x t).1 ve vr) ∧
        w'.ownsRow W.heap.size 94 3 ve (tieN E.M lv ov n1 n2 x t).1.edges.length ((tieN E.M lv ov n1 n2 x t).1.edges.flatMap encEdge) ∧ w'.ownsRow W.heap.size 99 3 vr (tieN E.M lv ov n1 n2 x t).1.reaches.length ((tieN E.M lv ov n1 n2 x t).1.reaches.flatMap encReach) := by
  have hB := ha.lt
  have hBb := ha.1
  have TW := Lib.hid (Two.new ok h 153 rfl B off)
  have KK := two_keep ok h (.cells #[.pointer (some ⟨E.bt, 0, none⟩)] 147) (.cells #[.pointer (some ⟨B, off, none⟩)] 153)
  have S0 := Lib.hid ((h.alloc ok (.cells #[.pointer (some ⟨E.bt, 0, none⟩)] 147)).alloc ok (.cells #[.pointer (some ⟨B, off, none⟩)] 153))
  have A0 := Lib.hid (ha.keep KK)
  have K0 := Lib.hid KK
  have HRE := Lib.hid hre
  have HRR := Lib.hid hrr
  have HOK := Lib.hid hok
  have HY := Lib.hid hy
  have he : ∀ (args : Array Value) (w : World), (callFunc 103 args).run Tryz.prog w = .ok (.enter 103 args) w := enters_of Tryz.func103 (by kernel_rfl) rfl
  have HE := Lib.hid he
  have q1 := TW.out.c1
  have q2 := TW.out.c2
  clear h ha KK he hre hrr hok hy
  rcases hk with ⟨hk, rfl, rfl, rfl, rfl⟩ | ⟨hk, rfl, rfl, rfl, rfl⟩
  · go_enter Tryz.func88, Tryz.ntmps88
    go_wp2_with (first
      | (go_at_call 84; refine (within_any ok 1 _ HE.out _ _ B off (off + 6) (fun w => At E.base w B off (encHead (headM E.M x.head (openM E.M 1 t)).1)) (fun _ _ h k => h.keep k) t (headM E.M x.head (openM E.M 1 t)).2 _ S0.out (fun W1 hk hs => tie1_any ok _ _ B off (by omega) (by omega) x.head (openM E.M 1 t) W1 hs (TW.out.keep hk).b1 (TW.out.keep hk).b2 ((A0.out.part 0 6).keep hk))).mono ?_; rintro e w1 ⟨rfl, hs1, hc1, ha1⟩; rw [HY.out] at hs1 ha1; have S1 := Lib.hid (hs1.drew ok); have A1 := Lib.hid (tie_join A0.out hc1 ha1).drew; have TW1 := Lib.hid (TW.out.chg hc1 hB).drew; have C1 := Lib.hid ((K0.out.chg B off (off + 10)).trans (hc1.mono (Nat.le_refl _) (show off + 6 ≤ off + 10 by omega))); clear q1 q2; have q1 : w1.cell? ⟨W.heap.size, 0, none⟩ = some (.pointer (some ⟨E.bt, 0, none⟩)) := TW1.out.c1; have q2 : w1.cell? ⟨W.heap.size + 1, 0, none⟩ = some (.pointer (some ⟨B, off, none⟩)) := TW1.out.c2; have kc : w1.cell? ⟨B, off + 2, none⟩ = some (.int .i64 y.1.id.kind) := A1.out.cell 2 rfl; clear hs1 hc1 ha1))
    go_region_held (fun w' => w'.cell? ⟨W.heap.size, 0, none⟩ = some (.pointer (some ⟨E.bt, 0, none⟩)) ∧ w'.cell? ⟨W.heap.size + 1, 0, none⟩ = some (.pointer (some ⟨B, off, none⟩))) (first | go_keep | exact ⟨by assumption, by assumption⟩)
      (first
        | (go_at_call 83; (with_reducible refine (between_at ok 2 0 24 B off 6 _ _ rfl _ _ S1.out A1.out).mono ?_); rintro e w2 ⟨rfl, hs2, hc2, ha2⟩; have S2 := Lib.hid (hs2.drew ok); have A2 := Lib.hid ha2.drew; have TW2 := Lib.hid (TW1.out.chg hc2 hB).drew; have C2 := Lib.hid (C1.out.trans (hc2.drawn.mono (Nat.le_add_right off 6) (show off + 6 + 1 ≤ off + 10 by omega))); clear q1 q2; have q1 : w2.cell? ⟨W.heap.size, 0, none⟩ = some (.pointer (some ⟨E.bt, 0, none⟩)) := TW2.out.c1; have q2 : w2.cell? ⟨W.heap.size + 1, 0, none⟩ = some (.pointer (some ⟨B, off, none⟩)) := TW2.out.c2; clear hs2 hc2 ha2))
    go_wp2
    go_region_held (fun w' => w'.cell? ⟨W.heap.size, 0, none⟩ = some (.pointer (some ⟨E.bt, 0, none⟩)) ∧ w'.cell? ⟨W.heap.size + 1, 0, none⟩ = some (.pointer (some ⟨B, off, none⟩))) (first | go_keep | exact ⟨by assumption, by assumption⟩)
      (first
        | (go_at_call 102; (with_reducible refine (flag_at ok 3 1 B off 7 _ _ rfl _ _ S2.out A2.out).mono ?_); rintro e w3 ⟨rfl, hs3, hc3, ha3⟩; have S3 := Lib.hid (hs3.drew ok); have A3 := Lib.hid ha3.drew; have TW3 := Lib.hid (TW2.out.chg hc3 hB).drew; have C3 := Lib.hid (C2.out.trans (hc3.drawn.mono (Nat.le_add_right off 7) (show off + 7 + 1 ≤ off + 10 by omega))); have b3 : w3.cell? ⟨B, off + 8, none⟩ = some (.slice ae x.edges.length ce) := A3.out.cell 8 rfl; have f3 : w3.frozen? ⟨B, off + 8, none⟩ = false := A3.out.frozen _; clear q1 q2; have q1 : w3.cell? ⟨W.heap.size, 0, none⟩ = some (.pointer (some ⟨E.bt, 0, none⟩)) := TW3.out.c1; have q2 : w3.cell? ⟨W.heap.size + 1, 0, none⟩ = some (.pointer (some ⟨B, off, none⟩)) := TW3.out.c2; clear hs3 hc3 ha3))
    go_wp2
    refine wp_region_held_drew (S := (fun w' => w'.cell? ⟨W.heap.size, 0, none⟩ = some (.pointer (some ⟨E.bt, 0, none⟩)) ∧ w'.cell? ⟨W.heap.size + 1, 0, none⟩ = some (.pointer (some ⟨B, off, none⟩)))) (by kernel_rfl) ⟨TW3.out.c1, TW3.out.c2⟩ (fun hHeld => ?_)
    refine wpAnyH_take (i := 0) (oi := _) (v := ?v1) rfl (by kernel_rfl) (by kernel_rfl) (by kernel_rfl) (fun _ _ _ h => h) (Or.inl ⟨by rfl, ?h1⟩) (by assumption) ?r1
    case h1 =>
      intro w hSw
      try dsimp only at hSw
      go_simp
      try with_reducible rfl
    try simp only [Act.put]
    refine wpAnyH_take (i := 1) (oi := _) (v := ?v2) rfl (by kernel_rfl) (by kernel_rfl) (by kernel_rfl) (fun _ _ _ h => h) (Or.inl ⟨by rfl, ?h2⟩) (by assumption) ?r2
    case h2 =>
      intro w hSw
      try dsimp only at hSw
      go_simp
      try with_reducible rfl
    try simp only [Act.put]
    refine wpAnyH_take (i := 2) (oi := _) (v := ?v3) rfl (by kernel_rfl) (by kernel_rfl) (by kernel_rfl) (fun _ _ _ h => h) (Or.inl ⟨by rfl, ?h3⟩) (by assumption) ?r3
    case h3 =>
      intro w hSw
      try dsimp only at hSw
      go_simp
      try with_reducible rfl
    try simp only [Act.put]
    refine wpAnyH_take (i := 3) (oi := _) (v := ?v4) rfl (by kernel_rfl) (by kernel_rfl) (by kernel_rfl) (fun _ _ _ h => h) (Or.inl ⟨by rfl, ?h4⟩) (by assumption) ?r4
    case h4 =>
      intro w hSw
      try dsimp only at hSw
      go_simp
      try with_reducible rfl
    try simp only [Act.put]
    refine wpAnyH_take (i := 4) (oi := _) (v := ?v5) rfl (by kernel_rfl) (by kernel_rfl) (by kernel_rfl) (fun _ _ _ h => h) (Or.inl ⟨by rfl, ?h5⟩) (by assumption) ?r5
    case h5 =>
      intro w hSw
      try dsimp only at hSw
      go_simp
      try with_reducible rfl
    try simp only [Act.put]
    refine wpAnyH_take (i := 6) (oi := _) (v := ?v6) rfl (by kernel_rfl) (by kernel_rfl) (by kernel_rfl) (fun _ _ _ h => h) (Or.inl ⟨by rfl, ?h6⟩) (by assumption) ?r6
    case h6 =>
      intro w hSw
      try dsimp only at hSw
      go_simp
      try with_reducible rfl
    try simp only [Act.put]
    refine wpAnyH_take (i := 7) (oi := _) (v := ?v7) rfl (by kernel_rfl) (by kernel_rfl) (by kernel_rfl) (fun _ _ _ h => h) (Or.inl ⟨by rfl, ?h7⟩) (by assumption) ?r7
    case h7 =>
      intro w hSw
      try dsimp only at hSw
      go_simp
      try with_reducible rfl
    try simp only [Act.put]
    refine wpAnyH_take (i := 8) (oi := _) (v := ?v8) rfl (by kernel_rfl) (by kernel_rfl) (by kernel_rfl) (fun _ _ _ h => h) (Or.inl ⟨by rfl, ?h8⟩) (by assumption) ?r8
    case h8 =>
      intro w hSw
      try dsimp only at hSw
      go_simp
      try with_reducible rfl
    try simp only [Act.put]
    refine wpAnyH_ready (rs := [5]) (by kernel_rfl) (by simp) ?_
    refine AllReadyH.cons rfl (fun K hK => ?_) AllReadyH.nil
    go_simp
    refine hK.out _ _ (by assumption) (fun hHeld => ?_)
    clear hK K
    refine wpAnyH_ready (rs := [9]) (by kernel_rfl) (by simp) ?_
    refine AllReadyH.cons rfl (fun K hK => ?_) AllReadyH.nil
    go_simp
    go_wp2_with (first
      | (go_at_call 104; refine (eachEdge_any ok 4 ae ce x.edges hle 64 (by decide) _ _ (S3.out.less (r' := r + 320 + 64 * 5) (by omega)) (HRE.out.below C3.out.bel.drew)).mono ?_; rintro e w4 ⟨v4, rfl, hs4, hk4, ho4⟩; obtain ⟨p4, n4, c4, rfl, hn4⟩ := row_form ho4; have A4' := Lib.hid (A3.out.keep hk4); have B4 := Lib.hid (C3.out.trans (hk4.drawn.chg B off (off + 10))); have S4 := Lib.hid ((hs4.set ok A4'.out (off + 8) (.slice p4 n4 c4)).drew ok); have A4 := Lib.hid (A4'.out.set 8 (by simp [encHead, encId]) (.slice p4 n4 c4)).drew; have B4s := (Chg.set (Keep.chg (Keep.refl E.base w4) B off (off + 10)) hBb (j := off + 8) (by omega) (by omega) (.slice p4 n4 c4)); have TW4' := Lib.hid (TW3.out.keep hk4); have TW4 := Lib.hid (TW4'.out.chg B4s hB).drew; have C4 := Lib.hid (B4.out.trans B4s); have O4 := Lib.hid (own_chg (own_less ho4 (C3.out.bel.size)) rfl B4s hB); have N4 := Lib.hid hn4; have f4 : w4.frozen? ⟨B, off + 8, none⟩ = false := A4'.out.frozen _; have b4 : w4.cell? ⟨B, off + 8, none⟩ = some (.slice ae x.edges.length ce) := A4'.out.cell 8 rfl; clear q1 q2; have q1 : w4.cell? ⟨W.heap.size, 0, none⟩ = some (.pointer (some ⟨E.bt, 0, none⟩)) := TW4'.out.c1; have q2 : w4.cell? ⟨W.heap.size + 1, 0, none⟩ = some (.pointer (some ⟨B, off, none⟩)) := TW4'.out.c2; have q1s : (w4.setCell ⟨B, off + 8, none⟩ (.slice p4 n4 c4)).cell? ⟨W.heap.size, 0, none⟩ = some (.pointer (some ⟨E.bt, 0, none⟩)) := TW4.out.c1; have q2s : (w4.setCell ⟨B, off + 8, none⟩ (.slice p4 n4 c4)).cell? ⟨W.heap.size + 1, 0, none⟩ = some (.pointer (some ⟨B, off, none⟩)) := TW4.out.c2; clear hs4 hk4 ho4 B4s hn4))
    refine hK.out _ _ ⟨q1, q2⟩ (fun hHeld => ?_)
    clear hK K
    refine wpAnyH_take (i := 10) (oi := _) (v := ?v9) rfl (by kernel_rfl) (by kernel_rfl) (by kernel_rfl) (fun _ _ _ h => h) (Or.inl ⟨by rfl, ?h9⟩) (by assumption) ?r9
    case h9 =>
      intro w hSw
      try dsimp only at hSw
      go_simp
      try with_reducible rfl
    try simp only [Act.put]
    refine wpAnyH_take (i := 11) (oi := _) (v := ?v10) rfl (by kernel_rfl) (by kernel_rfl) (by kernel_rfl) (fun _ _ _ h => h) (Or.inl ⟨by rfl, ?h10⟩) (by assumption) ?r10
    case h10 =>
      intro w hSw
      try dsimp only at hSw
      go_simp
      try with_reducible rfl
    try simp only [Act.put]
    refine wpAnyH_ready (rs := [12]) (by kernel_rfl) (by simp) ?_
    refine AllReadyH.cons rfl (fun K hK => ?_) AllReadyH.nil
    go_simp
    refine hK.out _ _ ⟨q1s, q2s⟩ (fun hHeld => ?_)
    clear hK K
    refine wpAnyH_done (by kernel_rfl) ?_ _
    obtain ⟨X4, hX4⟩ : ∃ X, w4.setCell ⟨B, off + 8, none⟩ (.slice p4 n4 c4) = X := ⟨_, rfl⟩
    rw [hX4] at S4 A4 TW4 C4 O4 ⊢
    clear q1 q2 q1s q2s f4 b4 hX4
    have b5 : X4.cell? ⟨B, off + 9, none⟩ = some (.slice ar x.reaches.length cr) := A4.out.cell 9 rfl
    go_wp2
    refine wp_region_held_drew (S := (fun w' => w'.cell? ⟨W.heap.size, 0, none⟩ = some (.pointer (some ⟨E.bt, 0, none⟩)) ∧ w'.cell? ⟨W.heap.size + 1, 0, none⟩ = some (.pointer (some ⟨B, off, none⟩)))) (by kernel_rfl) ⟨TW4.out.c1, TW4.out.c2⟩ (fun hHeld => ?_)
    refine wpAnyH_take (i := 0) (oi := _) (v := ?v11) rfl (by kernel_rfl) (by kernel_rfl) (by kernel_rfl) (fun _ _ _ h => h) (Or.inl ⟨by rfl, ?h11⟩) (by assumption) ?r11
    case h11 =>
      intro w hSw
      try dsimp only at hSw
      go_simp
      try with_reducible rfl
    try simp only [Act.put]
    refine wpAnyH_take (i := 1) (oi := _) (v := ?v12) rfl (by kernel_rfl) (by kernel_rfl) (by kernel_rfl) (fun _ _ _ h => h) (Or.inl ⟨by rfl, ?h12⟩) (by assumption) ?r12
    case h12 =>
      intro w hSw
      try dsimp only at hSw
      go_simp
      try with_reducible rfl
    try simp only [Act.put]
    refine wpAnyH_take (i := 2) (oi := _) (v := ?v13) rfl (by kernel_rfl) (by kernel_rfl) (by kernel_rfl) (fun _ _ _ h => h) (Or.inl ⟨by rfl, ?h13⟩) (by assumption) ?r13
    case h13 =>
      intro w hSw
      try dsimp only at hSw
      go_simp
      try with_reducible rfl
    try simp only [Act.put]
    refine wpAnyH_take (i := 3) (oi := _) (v := ?v14) rfl (by kernel_rfl) (by kernel_rfl) (by kernel_rfl) (fun _ _ _ h => h) (Or.inl ⟨by rfl, ?h14⟩) (by assumption) ?r14
    case h14 =>
      intro w hSw
      try dsimp only at hSw
      go_simp
      try with_reducible rfl
    try simp only [Act.put]
    refine wpAnyH_take (i := 4) (oi := _) (v := ?v15) rfl (by kernel_rfl) (by kernel_rfl) (by kernel_rfl) (fun _ _ _ h => h) (Or.inl ⟨by rfl, ?h15⟩) (by assumption) ?r15
    case h15 =>
      intro w hSw
      try dsimp only at hSw
      go_simp
      try with_reducible rfl
    try simp only [Act.put]
    refine wpAnyH_take (i := 6) (oi := _) (v := ?v16) rfl (by kernel_rfl) (by kernel_rfl) (by kernel_rfl) (fun _ _ _ h => h) (Or.inl ⟨by rfl, ?h16⟩) (by assumption) ?r16
    case h16 =>
      intro w hSw
      try dsimp only at hSw
      go_simp
      try with_reducible rfl
    try simp only [Act.put]
    refine wpAnyH_take (i := 7) (oi := _) (v := ?v17) rfl (by kernel_rfl) (by kernel_rfl) (by kernel_rfl) (fun _ _ _ h => h) (Or.inl ⟨by rfl, ?h17⟩) (by assumption) ?r17
    case h17 =>
      intro w hSw
      try dsimp only at hSw
      go_simp
      try with_reducible rfl
    try simp only [Act.put]
    refine wpAnyH_take (i := 8) (oi := _) (v := ?v18) rfl (by kernel_rfl) (by kernel_rfl) (by kernel_rfl) (fun _ _ _ h => h) (Or.inl ⟨by rfl, ?h18⟩) (by assumption) ?r18
    case h18 =>
      intro w hSw
      try dsimp only at hSw
      go_simp
      try with_reducible rfl
    try simp only [Act.put]
    refine wpAnyH_ready (rs := [5]) (by kernel_rfl) (by simp) ?_
    refine AllReadyH.cons rfl (fun K hK => ?_) AllReadyH.nil
    go_simp
    refine hK.out _ _ (by assumption) (fun hHeld => ?_)
    clear hK K
    refine wpAnyH_ready (rs := [9]) (by kernel_rfl) (by simp) ?_
    refine AllReadyH.cons rfl (fun K hK => ?_) AllReadyH.nil
    go_simp
    go_wp2_with (first
      | (go_at_call 106; refine (eachReach_any ok 5 ar cr x.reaches hlr HOK.out 0 (by decide) _ _ (S4.out.less (r' := r + 0 * 5) (by omega)) (HRR.out.below C4.out.bel.drew)).mono ?_; rintro e w5 ⟨v5, rfl, hs5, hk5, ho5⟩; obtain ⟨p5, n5, c5, rfl, hn5⟩ := row_form ho5; have A5' := Lib.hid (A4.out.keep hk5); have B5 := Lib.hid (C4.out.trans (hk5.drawn.chg B off (off + 10))); have S5 := Lib.hid (hs5.set ok A5'.out (off + 9) (.slice p5 n5 c5)); have A5 := Lib.hid (A5'.out.set 9 (by simp [encHead, encId]) (.slice p5 n5 c5)); have B5s := (Chg.set (Keep.chg (Keep.refl E.base w5) B off (off + 10)) hBb (j := off + 9) (by omega) (by omega) (.slice p5 n5 c5)); have TW5' := Lib.hid (TW4.out.keep hk5); have TW5 := Lib.hid (TW5'.out.chg B5s hB); have C5 := Lib.hid (B5.out.trans B5s); have O5 := Lib.hid (own_chg (own_less ho5 (C4.out.bel.size)) rfl B5s hB); have O4' := Lib.hid (own_chg (own_keep O4.out rfl hk5.drawn) rfl B5s hB); have N5 := Lib.hid hn5; have f5 : w5.frozen? ⟨B, off + 9, none⟩ = false := A5'.out.frozen _; have b6 : w5.cell? ⟨B, off + 9, none⟩ = some (.slice ar x.reaches.length cr) := A5'.out.cell 9 rfl; have q1 : w5.cell? ⟨W.heap.size, 0, none⟩ = some (.pointer (some ⟨E.bt, 0, none⟩)) := TW5'.out.c1; have q2 : w5.cell? ⟨W.heap.size + 1, 0, none⟩ = some (.pointer (some ⟨B, off, none⟩)) := TW5'.out.c2; have q1s : (w5.setCell ⟨B, off + 9, none⟩ (.slice p5 n5 c5)).cell? ⟨W.heap.size, 0, none⟩ = some (.pointer (some ⟨E.bt, 0, none⟩)) := TW5.out.c1; have q2s : (w5.setCell ⟨B, off + 9, none⟩ (.slice p5 n5 c5)).cell? ⟨W.heap.size + 1, 0, none⟩ = some (.pointer (some ⟨B, off, none⟩)) := TW5.out.c2; clear hs5 hk5 ho5 B5s hn5))
    refine hK.out _ _ ⟨q1, q2⟩ (fun hHeld => ?_)
    clear hK K
    refine wpAnyH_take (i := 10) (oi := _) (v := ?v19) rfl (by kernel_rfl) (by kernel_rfl) (by kernel_rfl) (fun _ _ _ h => h) (Or.inl ⟨by rfl, ?h19⟩) (by assumption) ?r19
    case h19 =>
      intro w hSw
      try dsimp only at hSw
      go_simp
      try with_reducible rfl
    try simp only [Act.put]
    refine wpAnyH_take (i := 11) (oi := _) (v := ?v20) rfl (by kernel_rfl) (by kernel_rfl) (by kernel_rfl) (fun _ _ _ h => h) (Or.inl ⟨by rfl, ?h20⟩) (by assumption) ?r20
    case h20 =>
      intro w hSw
      try dsimp only at hSw
      go_simp
      try with_reducible rfl
    try simp only [Act.put]
    refine wpAnyH_ready (rs := [12]) (by kernel_rfl) (by simp) ?_
    refine AllReadyH.cons rfl (fun K hK => ?_) AllReadyH.nil
    go_simp
    refine hK.out _ _ ⟨q1s, q2s⟩ (fun hHeld => ?_)
    clear hK K
    refine wpAnyH_done (by kernel_rfl) ?_ _
    go_wp2
    go_end0
    have hyy := HY.out
    subst hyy
    exact ⟨_, _, rfl, S5.out, C5.out, A5.out, O4'.out, O5.out⟩
  · go_enter Tryz.func88, Tryz.ntmps88
    go_wp2_with (first
      | (go_at_call 84; refine (within_any ok 1 _ HE.out _ _ B off (off + 6) (fun w => At E.base w B off (encHead (headM E.M x.head (openM E.M 1 t)).1)) (fun _ _ h k => h.keep k) t (headM E.M x.head (openM E.M 1 t)).2 _ S0.out (fun W1 hk hs => tie1_any ok _ _ B off (by omega) (by omega) x.head (openM E.M 1 t) W1 hs (TW.out.keep hk).b1 (TW.out.keep hk).b2 ((A0.out.part 0 6).keep hk))).mono ?_; rintro e w1 ⟨rfl, hs1, hc1, ha1⟩; rw [HY.out] at hs1 ha1; have S1 := Lib.hid (hs1.drew ok); have A1 := Lib.hid (tie_join A0.out hc1 ha1).drew; have TW1 := Lib.hid (TW.out.chg hc1 hB).drew; have C1 := Lib.hid ((K0.out.chg B off (off + 10)).trans (hc1.mono (Nat.le_refl _) (show off + 6 ≤ off + 10 by omega))); clear q1 q2; have q1 : w1.cell? ⟨W.heap.size, 0, none⟩ = some (.pointer (some ⟨E.bt, 0, none⟩)) := TW1.out.c1; have q2 : w1.cell? ⟨W.heap.size + 1, 0, none⟩ = some (.pointer (some ⟨B, off, none⟩)) := TW1.out.c2; have kc : w1.cell? ⟨B, off + 2, none⟩ = some (.int .i64 y.1.id.kind) := A1.out.cell 2 rfl; clear hs1 hc1 ha1))
    go_region_held (fun w' => w'.cell? ⟨W.heap.size, 0, none⟩ = some (.pointer (some ⟨E.bt, 0, none⟩)) ∧ w'.cell? ⟨W.heap.size + 1, 0, none⟩ = some (.pointer (some ⟨B, off, none⟩))) (first | go_keep | exact ⟨by assumption, by assumption⟩)
      (first
        | (go_at_call 83; (with_reducible refine (between_at ok 2 0 0 B off 6 _ _ rfl _ _ S1.out A1.out).mono ?_); rintro e w2 ⟨rfl, hs2, hc2, ha2⟩; have S2 := Lib.hid (hs2.drew ok); have A2 := Lib.hid ha2.drew; have TW2 := Lib.hid (TW1.out.chg hc2 hB).drew; have C2 := Lib.hid (C1.out.trans (hc2.drawn.mono (Nat.le_add_right off 6) (show off + 6 + 1 ≤ off + 10 by omega))); clear q1 q2; have q1 : w2.cell? ⟨W.heap.size, 0, none⟩ = some (.pointer (some ⟨E.bt, 0, none⟩)) := TW2.out.c1; have q2 : w2.cell? ⟨W.heap.size + 1, 0, none⟩ = some (.pointer (some ⟨B, off, none⟩)) := TW2.out.c2; clear hs2 hc2 ha2))
    go_wp2
    go_region_held (fun w' => w'.cell? ⟨W.heap.size, 0, none⟩ = some (.pointer (some ⟨E.bt, 0, none⟩)) ∧ w'.cell? ⟨W.heap.size + 1, 0, none⟩ = some (.pointer (some ⟨B, off, none⟩))) (first | go_keep | exact ⟨by assumption, by assumption⟩)
      (first
        | (go_at_call 102; (with_reducible refine (flag_at ok 3 0 B off 7 _ _ rfl _ _ S2.out A2.out).mono ?_); rintro e w3 ⟨rfl, hs3, hc3, ha3⟩; have S3 := Lib.hid (hs3.drew ok); have A3 := Lib.hid ha3.drew; have TW3 := Lib.hid (TW2.out.chg hc3 hB).drew; have C3 := Lib.hid (C2.out.trans (hc3.drawn.mono (Nat.le_add_right off 7) (show off + 7 + 1 ≤ off + 10 by omega))); have b3 : w3.cell? ⟨B, off + 8, none⟩ = some (.slice ae x.edges.length ce) := A3.out.cell 8 rfl; have f3 : w3.frozen? ⟨B, off + 8, none⟩ = false := A3.out.frozen _; clear q1 q2; have q1 : w3.cell? ⟨W.heap.size, 0, none⟩ = some (.pointer (some ⟨E.bt, 0, none⟩)) := TW3.out.c1; have q2 : w3.cell? ⟨W.heap.size + 1, 0, none⟩ = some (.pointer (some ⟨B, off, none⟩)) := TW3.out.c2; clear hs3 hc3 ha3))
    go_wp2
    refine wp_region_held_drew (S := (fun w' => w'.cell? ⟨W.heap.size, 0, none⟩ = some (.pointer (some ⟨E.bt, 0, none⟩)) ∧ w'.cell? ⟨W.heap.size + 1, 0, none⟩ = some (.pointer (some ⟨B, off, none⟩)))) (by kernel_rfl) ⟨TW3.out.c1, TW3.out.c2⟩ (fun hHeld => ?_)
    refine wpAnyH_take (i := 0) (oi := _) (v := ?v21) rfl (by kernel_rfl) (by kernel_rfl) (by kernel_rfl) (fun _ _ _ h => h) (Or.inl ⟨by rfl, ?h21⟩) (by assumption) ?r21
    case h21 =>
      intro w hSw
      try dsimp only at hSw
      go_simp
      try with_reducible rfl
    try simp only [Act.put]
    refine wpAnyH_take (i := 1) (oi := _) (v := ?v22) rfl (by kernel_rfl) (by kernel_rfl) (by kernel_rfl) (fun _ _ _ h => h) (Or.inl ⟨by rfl, ?h22⟩) (by assumption) ?r22
    case h22 =>
      intro w hSw
      try dsimp only at hSw
      go_simp
      try with_reducible rfl
    try simp only [Act.put]
    refine wpAnyH_take (i := 2) (oi := _) (v := ?v23) rfl (by kernel_rfl) (by kernel_rfl) (by kernel_rfl) (fun _ _ _ h => h) (Or.inl ⟨by rfl, ?h23⟩) (by assumption) ?r23
    case h23 =>
      intro w hSw
      try dsimp only at hSw
      go_simp
      try with_reducible rfl
    try simp only [Act.put]
    refine wpAnyH_take (i := 3) (oi := _) (v := ?v24) rfl (by kernel_rfl) (by kernel_rfl) (by kernel_rfl) (fun _ _ _ h => h) (Or.inl ⟨by rfl, ?h24⟩) (by assumption) ?r24
    case h24 =>
      intro w hSw
      try dsimp only at hSw
      go_simp
      try with_reducible rfl
    try simp only [Act.put]
    refine wpAnyH_take (i := 4) (oi := _) (v := ?v25) rfl (by kernel_rfl) (by kernel_rfl) (by kernel_rfl) (fun _ _ _ h => h) (Or.inl ⟨by rfl, ?h25⟩) (by assumption) ?r25
    case h25 =>
      intro w hSw
      try dsimp only at hSw
      go_simp
      try with_reducible rfl
    try simp only [Act.put]
    refine wpAnyH_take (i := 6) (oi := _) (v := ?v26) rfl (by kernel_rfl) (by kernel_rfl) (by kernel_rfl) (fun _ _ _ h => h) (Or.inl ⟨by rfl, ?h26⟩) (by assumption) ?r26
    case h26 =>
      intro w hSw
      try dsimp only at hSw
      go_simp
      try with_reducible rfl
    try simp only [Act.put]
    refine wpAnyH_take (i := 7) (oi := _) (v := ?v27) rfl (by kernel_rfl) (by kernel_rfl) (by kernel_rfl) (fun _ _ _ h => h) (Or.inl ⟨by rfl, ?h27⟩) (by assumption) ?r27
    case h27 =>
      intro w hSw
      try dsimp only at hSw
      go_simp
      try with_reducible rfl
    try simp only [Act.put]
    refine wpAnyH_take (i := 8) (oi := _) (v := ?v28) rfl (by kernel_rfl) (by kernel_rfl) (by kernel_rfl) (fun _ _ _ h => h) (Or.inl ⟨by rfl, ?h28⟩) (by assumption) ?r28
    case h28 =>
      intro w hSw
      try dsimp only at hSw
      go_simp
      try with_reducible rfl
    try simp only [Act.put]
    refine wpAnyH_ready (rs := [5]) (by kernel_rfl) (by simp) ?_
    refine AllReadyH.cons rfl (fun K hK => ?_) AllReadyH.nil
    go_simp
    refine hK.out _ _ (by assumption) (fun hHeld => ?_)
    clear hK K
    refine wpAnyH_ready (rs := [9]) (by kernel_rfl) (by simp) ?_
    refine AllReadyH.cons rfl (fun K hK => ?_) AllReadyH.nil
    go_simp
    go_wp2_with (first
      | (go_at_call 104; refine (eachEdge_any ok 4 ae ce x.edges hle 0 (by decide) _ _ (S3.out.less (r' := r + 320 + 0 * 5) (by omega)) (HRE.out.below C3.out.bel.drew)).mono ?_; rintro e w4 ⟨v4, rfl, hs4, hk4, ho4⟩; obtain ⟨p4, n4, c4, rfl, hn4⟩ := row_form ho4; have A4' := Lib.hid (A3.out.keep hk4); have B4 := Lib.hid (C3.out.trans (hk4.drawn.chg B off (off + 10))); have S4 := Lib.hid ((hs4.set ok A4'.out (off + 8) (.slice p4 n4 c4)).drew ok); have A4 := Lib.hid (A4'.out.set 8 (by simp [encHead, encId]) (.slice p4 n4 c4)).drew; have B4s := (Chg.set (Keep.chg (Keep.refl E.base w4) B off (off + 10)) hBb (j := off + 8) (by omega) (by omega) (.slice p4 n4 c4)); have TW4' := Lib.hid (TW3.out.keep hk4); have TW4 := Lib.hid (TW4'.out.chg B4s hB).drew; have C4 := Lib.hid (B4.out.trans B4s); have O4 := Lib.hid (own_chg (own_less ho4 (C3.out.bel.size)) rfl B4s hB); have N4 := Lib.hid hn4; have f4 : w4.frozen? ⟨B, off + 8, none⟩ = false := A4'.out.frozen _; have b4 : w4.cell? ⟨B, off + 8, none⟩ = some (.slice ae x.edges.length ce) := A4'.out.cell 8 rfl; clear q1 q2; have q1 : w4.cell? ⟨W.heap.size, 0, none⟩ = some (.pointer (some ⟨E.bt, 0, none⟩)) := TW4'.out.c1; have q2 : w4.cell? ⟨W.heap.size + 1, 0, none⟩ = some (.pointer (some ⟨B, off, none⟩)) := TW4'.out.c2; have q1s : (w4.setCell ⟨B, off + 8, none⟩ (.slice p4 n4 c4)).cell? ⟨W.heap.size, 0, none⟩ = some (.pointer (some ⟨E.bt, 0, none⟩)) := TW4.out.c1; have q2s : (w4.setCell ⟨B, off + 8, none⟩ (.slice p4 n4 c4)).cell? ⟨W.heap.size + 1, 0, none⟩ = some (.pointer (some ⟨B, off, none⟩)) := TW4.out.c2; clear hs4 hk4 ho4 B4s hn4))
    refine hK.out _ _ ⟨q1, q2⟩ (fun hHeld => ?_)
    clear hK K
    refine wpAnyH_take (i := 10) (oi := _) (v := ?v29) rfl (by kernel_rfl) (by kernel_rfl) (by kernel_rfl) (fun _ _ _ h => h) (Or.inl ⟨by rfl, ?h29⟩) (by assumption) ?r29
    case h29 =>
      intro w hSw
      try dsimp only at hSw
      go_simp
      try with_reducible rfl
    try simp only [Act.put]
    refine wpAnyH_take (i := 11) (oi := _) (v := ?v30) rfl (by kernel_rfl) (by kernel_rfl) (by kernel_rfl) (fun _ _ _ h => h) (Or.inl ⟨by rfl, ?h30⟩) (by assumption) ?r30
    case h30 =>
      intro w hSw
      try dsimp only at hSw
      go_simp
      try with_reducible rfl
    try simp only [Act.put]
    refine wpAnyH_ready (rs := [12]) (by kernel_rfl) (by simp) ?_
    refine AllReadyH.cons rfl (fun K hK => ?_) AllReadyH.nil
    go_simp
    refine hK.out _ _ ⟨q1s, q2s⟩ (fun hHeld => ?_)
    clear hK K
    refine wpAnyH_done (by kernel_rfl) ?_ _
    obtain ⟨X4, hX4⟩ : ∃ X, w4.setCell ⟨B, off + 8, none⟩ (.slice p4 n4 c4) = X := ⟨_, rfl⟩
    rw [hX4] at S4 A4 TW4 C4 O4 ⊢
    clear q1 q2 q1s q2s f4 b4 hX4
    have b5 : X4.cell? ⟨B, off + 9, none⟩ = some (.slice ar x.reaches.length cr) := A4.out.cell 9 rfl
    go_wp2
    refine wp_region_held_drew (S := (fun w' => w'.cell? ⟨W.heap.size, 0, none⟩ = some (.pointer (some ⟨E.bt, 0, none⟩)) ∧ w'.cell? ⟨W.heap.size + 1, 0, none⟩ = some (.pointer (some ⟨B, off, none⟩)))) (by kernel_rfl) ⟨TW4.out.c1, TW4.out.c2⟩ (fun hHeld => ?_)
    refine wpAnyH_take (i := 0) (oi := _) (v := ?v31) rfl (by kernel_rfl) (by kernel_rfl) (by kernel_rfl) (fun _ _ _ h => h) (Or.inl ⟨by rfl, ?h31⟩) (by assumption) ?r31
    case h31 =>
      intro w hSw
      try dsimp only at hSw
      go_simp
      try with_reducible rfl
    try simp only [Act.put]
    refine wpAnyH_take (i := 1) (oi := _) (v := ?v32) rfl (by kernel_rfl) (by kernel_rfl) (by kernel_rfl) (fun _ _ _ h => h) (Or.inl ⟨by rfl, ?h32⟩) (by assumption) ?r32
    case h32 =>
      intro w hSw
      try dsimp only at hSw
      go_simp
      try with_reducible rfl
    try simp only [Act.put]
    refine wpAnyH_take (i := 2) (oi := _) (v := ?v33) rfl (by kernel_rfl) (by kernel_rfl) (by kernel_rfl) (fun _ _ _ h => h) (Or.inl ⟨by rfl, ?h33⟩) (by assumption) ?r33
    case h33 =>
      intro w hSw
      try dsimp only at hSw
      go_simp
      try with_reducible rfl
    try simp only [Act.put]
    refine wpAnyH_take (i := 3) (oi := _) (v := ?v34) rfl (by kernel_rfl) (by kernel_rfl) (by kernel_rfl) (fun _ _ _ h => h) (Or.inl ⟨by rfl, ?h34⟩) (by assumption) ?r34
    case h34 =>
      intro w hSw
      try dsimp only at hSw
      go_simp
      try with_reducible rfl
    try simp only [Act.put]
    refine wpAnyH_take (i := 4) (oi := _) (v := ?v35) rfl (by kernel_rfl) (by kernel_rfl) (by kernel_rfl) (fun _ _ _ h => h) (Or.inl ⟨by rfl, ?h35⟩) (by assumption) ?r35
    case h35 =>
      intro w hSw
      try dsimp only at hSw
      go_simp
      try with_reducible rfl
    try simp only [Act.put]
    refine wpAnyH_take (i := 6) (oi := _) (v := ?v36) rfl (by kernel_rfl) (by kernel_rfl) (by kernel_rfl) (fun _ _ _ h => h) (Or.inl ⟨by rfl, ?h36⟩) (by assumption) ?r36
    case h36 =>
      intro w hSw
      try dsimp only at hSw
      go_simp
      try with_reducible rfl
    try simp only [Act.put]
    refine wpAnyH_take (i := 7) (oi := _) (v := ?v37) rfl (by kernel_rfl) (by kernel_rfl) (by kernel_rfl) (fun _ _ _ h => h) (Or.inl ⟨by rfl, ?h37⟩) (by assumption) ?r37
    case h37 =>
      intro w hSw
      try dsimp only at hSw
      go_simp
      try with_reducible rfl
    try simp only [Act.put]
    refine wpAnyH_take (i := 8) (oi := _) (v := ?v38) rfl (by kernel_rfl) (by kernel_rfl) (by kernel_rfl) (fun _ _ _ h => h) (Or.inl ⟨by rfl, ?h38⟩) (by assumption) ?r38
    case h38 =>
      intro w hSw
      try dsimp only at hSw
      go_simp
      try with_reducible rfl
    try simp only [Act.put]
    refine wpAnyH_ready (rs := [5]) (by kernel_rfl) (by simp) ?_
    refine AllReadyH.cons rfl (fun K hK => ?_) AllReadyH.nil
    go_simp
    refine hK.out _ _ (by assumption) (fun hHeld => ?_)
    clear hK K
    refine wpAnyH_ready (rs := [9]) (by kernel_rfl) (by simp) ?_
    refine AllReadyH.cons rfl (fun K hK => ?_) AllReadyH.nil
    go_simp
    go_wp2_with (first
      | (go_at_call 106; refine (eachReach_any ok 5 ar cr x.reaches hlr HOK.out 64 (by decide) _ _ (S4.out.less (r' := r + 64 * 5) (by omega)) (HRR.out.below C4.out.bel.drew)).mono ?_; rintro e w5 ⟨v5, rfl, hs5, hk5, ho5⟩; obtain ⟨p5, n5, c5, rfl, hn5⟩ := row_form ho5; have A5' := Lib.hid (A4.out.keep hk5); have B5 := Lib.hid (C4.out.trans (hk5.drawn.chg B off (off + 10))); have S5 := Lib.hid (hs5.set ok A5'.out (off + 9) (.slice p5 n5 c5)); have A5 := Lib.hid (A5'.out.set 9 (by simp [encHead, encId]) (.slice p5 n5 c5)); have B5s := (Chg.set (Keep.chg (Keep.refl E.base w5) B off (off + 10)) hBb (j := off + 9) (by omega) (by omega) (.slice p5 n5 c5)); have TW5' := Lib.hid (TW4.out.keep hk5); have TW5 := Lib.hid (TW5'.out.chg B5s hB); have C5 := Lib.hid (B5.out.trans B5s); have O5 := Lib.hid (own_chg (own_less ho5 (C4.out.bel.size)) rfl B5s hB); have O4' := Lib.hid (own_chg (own_keep O4.out rfl hk5.drawn) rfl B5s hB); have N5 := Lib.hid hn5; have f5 : w5.frozen? ⟨B, off + 9, none⟩ = false := A5'.out.frozen _; have b6 : w5.cell? ⟨B, off + 9, none⟩ = some (.slice ar x.reaches.length cr) := A5'.out.cell 9 rfl; have q1 : w5.cell? ⟨W.heap.size, 0, none⟩ = some (.pointer (some ⟨E.bt, 0, none⟩)) := TW5'.out.c1; have q2 : w5.cell? ⟨W.heap.size + 1, 0, none⟩ = some (.pointer (some ⟨B, off, none⟩)) := TW5'.out.c2; have q1s : (w5.setCell ⟨B, off + 9, none⟩ (.slice p5 n5 c5)).cell? ⟨W.heap.size, 0, none⟩ = some (.pointer (some ⟨E.bt, 0, none⟩)) := TW5.out.c1; have q2s : (w5.setCell ⟨B, off + 9, none⟩ (.slice p5 n5 c5)).cell? ⟨W.heap.size + 1, 0, none⟩ = some (.pointer (some ⟨B, off, none⟩)) := TW5.out.c2; clear hs5 hk5 ho5 B5s hn5))
    refine hK.out _ _ ⟨q1, q2⟩ (fun hHeld => ?_)
    clear hK K
    refine wpAnyH_take (i := 10) (oi := _) (v := ?v39) rfl (by kernel_rfl) (by kernel_rfl) (by kernel_rfl) (fun _ _ _ h => h) (Or.inl ⟨by rfl, ?h39⟩) (by assumption) ?r39
    case h39 =>
      intro w hSw
      try dsimp only at hSw
      go_simp
      try with_reducible rfl
    try simp only [Act.put]
    refine wpAnyH_take (i := 11) (oi := _) (v := ?v40) rfl (by kernel_rfl) (by kernel_rfl) (by kernel_rfl) (fun _ _ _ h => h) (Or.inl ⟨by rfl, ?h40⟩) (by assumption) ?r40
    case h40 =>
      intro w hSw
      try dsimp only at hSw
      go_simp
      try with_reducible rfl
    try simp only [Act.put]
    refine wpAnyH_ready (rs := [12]) (by kernel_rfl) (by simp) ?_
    refine AllReadyH.cons rfl (fun K hK => ?_) AllReadyH.nil
    go_simp
    refine hK.out _ _ ⟨q1s, q2s⟩ (fun hHeld => ?_)
    clear hK K
    refine wpAnyH_done (by kernel_rfl) ?_ _
    go_wp2
    go_end0
    have hyy := HY.out
    subst hyy
    exact ⟨_, _, rfl, S5.out, C5.out, A5.out, O4'.out, O5.out⟩

theorem tie_any {E : Env σ} (ok : E.Ok) (B off : Nat) (x : TieT) (ae ar : Option Addr) (ce cr : Nat) (hle : x.edges.length ≤ 140737488351232) (hlr : x.reaches.length ≤ 140737488351232) (hok : ∀ y ∈ x.reaches, 0 ≤ y.net ∧ y.net < 4294967296)
    {r : Nat} (t : σ × Bool) (W : World) (h : E.St (r + 652) t W) (ha : At E.base W B off (encTie x (.slice ae x.edges.length ce) (.slice ar x.reaches.length cr))) (hre : RdR 3 encEdge E.base W ae x.edges) (hrr : RdR 3 encReach E.base W ar x.reaches) :
    Calls Tryz.prog 88 #[.pointer (some ⟨E.bt, 0, none⟩), .pointer (some ⟨B, off, none⟩)] W fun e w' =>
      ∃ ve vr, e = .returned (.tuple #[]) ∧ E.St r (tieM E.M x t).2 w' ∧ Chg E.base B off (off + 10) W w' ∧ At E.base w' B off (encTie (tieM E.M x t).1 ve vr) ∧
        w'.ownsRow W.heap.size 94 3 ve (tieM E.M x t).1.edges.length ((tieM E.M x t).1.edges.flatMap encEdge) ∧ w'.ownsRow W.heap.size 99 3 vr (tieM E.M x t).1.reaches.length ((tieM E.M x t).1.reaches.flatMap encReach) := by
  by_cases hk : (headM E.M x.head (openM E.M 1 t)).1.id.kind = 1
  · rw [tie_n E.M x t hk]
    exact tie_core ok B off x ae ar ce cr hle hlr hok t W h ha hre hrr _ rfl 24 1 64 0 (.inl ⟨hk, rfl, rfl, rfl, rfl⟩)
  · rw [tie_o E.M x t hk]
    exact tie_core ok B off x ae ar ce cr hle hlr hok t W h ha hre hrr _ rfl 0 0 0 64 (.inr ⟨hk, rfl, rfl, rfl, rfl⟩)
end
end Go.Proofs.YtpaooddmgcekhaaGreat
