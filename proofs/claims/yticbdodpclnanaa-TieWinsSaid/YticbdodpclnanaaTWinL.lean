/-
  TieWins: where of one id two heads are merged the newer one is left.
-/
import Derived.Test.YticbdodpclnanaaTSort
namespace Go.Proofs.Yticbdodpclnanaa
set_option linter.unusedSimpArgs false
set_option linter.unusedVariables false
open Go.RowKit
theorem own_one {T : TypeId} {W : World} {base : Nat} {v : Value} {p : THd} (h : OwnH T W base v [p]) : ∃ g c, v = .slice (some ⟨g, 0, none⟩) 1 c ∧ 1 ≤ c ∧ base ≤ g ∧ g < W.heap.size := by
  rcases h.form with ⟨_, hl⟩ | ⟨g, c, e, h1, h2, h3, _⟩
  · simp at hl
  · exact ⟨g, c, e, h3, h1, h2⟩
theorem own_cells {T : TypeId} {W : World} {base g c : Nat} {p : THd} (h : OwnH T W base (.slice (some ⟨g, 0, none⟩) 1 c) [p]) : W.cell? ⟨g, 0, none⟩ = some (.int .i64 p.id.d) ∧ W.cell? ⟨g, 1, none⟩ = some (.int .i64 p.id.o) ∧ W.cell? ⟨g, 2, none⟩ = some (.int .i64 p.id.k) ∧ W.cell? ⟨g, 3, none⟩ = some (.int .i64 p.id.n) ∧ W.cell? ⟨g, 4, none⟩ = some (.int .i64 p.seq) ∧ W.cell? ⟨g, 5, none⟩ = some (.int .i64 p.life) := by
  obtain ⟨g', o, e, _, hr, _⟩ := h.rd.at (j := 0) rfl
  cases e
  have h0 := hr 0 _ rfl
  have h1 := hr 1 _ rfl
  have h2 := hr 2 _ rfl
  have h3 := hr 3 _ rfl
  have h4 := hr 4 _ rfl
  have h5 := hr 5 _ rfl
  simp at h0 h1 h2 h3 h4 h5
  exact ⟨h0, h1, h2, h3, h4, h5⟩
theorem TwoH.lts {w W : World} {a b : THd} (h : TwoH w W a b) : w.heap.size < W.heap.size ∧ w.heap.size + 1 < W.heap.size ∧ w.heap.size ≠ W.heap.size ∧ w.heap.size + 1 ≠ W.heap.size ∧ W.heap.size ≠ w.heap.size ∧ W.heap.size ≠ w.heap.size + 1 := by
  have := (Array.getElem?_eq_some_iff.1 h.bb).1
  omega
theorem TwoH.alloc {w W : World} {a b : THd} (h : TwoH w W a b) (o : Obj) : TwoH w (W.alloc o) a b := h.step ((Below.refl _ _).alloc (Nat.le_refl _) _)
theorem TwoH.id {w W : World} {a b : THd} (h : TwoH w W a b) : TwoH w ((((W.setCell ⟨w.heap.size + 1, 0, none⟩ (.int .i64 a.id.d)).setCell ⟨w.heap.size + 1, 1, none⟩ (.int .i64 a.id.o)).setCell ⟨w.heap.size + 1, 2, none⟩ (.int .i64 a.id.k)).setCell ⟨w.heap.size + 1, 3, none⟩ (.int .i64 a.id.n)) a ⟨a.id, b.seq, b.life⟩ := by
  have q := heap_set_list (j := 3) (v := .int .i64 a.id.n) (heap_set_list (j := 2) (v := .int .i64 a.id.k) (heap_set_list (j := 1) (v := .int .i64 a.id.o) (heap_set_list (j := 0) (v := .int .i64 a.id.d) h.bb)))
  simp only [List.set_cons_zero, List.set_cons_succ] at q
  refine ⟨set_other (by omega) (set_other (by omega) (set_other (by omega) (set_other (by omega) h.ba))), q, ?_⟩
  exact (((h.bel.setCell (p := ⟨w.heap.size + 1, 0, none⟩) (Nat.le_succ _) _).setCell (p := ⟨w.heap.size + 1, 1, none⟩) (Nat.le_succ _) _).setCell (p := ⟨w.heap.size + 1, 2, none⟩) (Nat.le_succ _) _).setCell (p := ⟨w.heap.size + 1, 3, none⟩) (Nat.le_succ _) _
section
attribute [local go_sem high] eq_head
set_option maxHeartbeats 3200000 in
set_option maxRecDepth 100000 in
theorem wins_1 (a : THd) (ha : okH a) (b : THd) (hb : okH b) (hn : newT a ⟨a.id, b.seq, b.life⟩ = 1) (w : World) : Calls Try.prog 10 #[.agg #[.int .i64 a.id.d, .int .i64 a.id.o, .int .i64 a.id.k, .int .i64 a.id.n, .int .i64 a.seq, .int .i64 a.life], .agg #[.int .i64 b.id.d, .int .i64 b.id.o, .int .i64 b.id.k, .int .i64 b.id.n, .int .i64 b.seq, .int .i64 b.life]] w fun e w' => e = .returned (.bool true) ∧ Below w.heap.size w w' := by
  have hw := awake_any progT
  have hm := wins_pos (a := a) (b := (⟨a.id, b.seq, b.life⟩ : THd)) rfl (by rw [hn]; try omega)
  have hok : ∀ x ∈ [a] ++ [(⟨a.id, b.seq, b.life⟩ : THd)], okH x := fun x hx => by
    simp at hx
    rcases hx with rfl | rfl
    · exact ha
    · exact ⟨ha.1, hb.2.1, hb.2.2⟩
  have hok2 : ∀ x ∈ [(⟨a.id, b.seq, b.life⟩ : THd)] ++ [a], okH x := fun x hx => hok x (by simp at hx ⊢; exact hx.symm)
  have M1 : RowKit.Hid (∀ (W : World) (g k : Nat), RdT W (some ⟨g, 0, none⟩) [a] → RdT W (some ⟨k, 0, none⟩) [(⟨a.id, b.seq, b.life⟩ : THd)] → Calls Try.prog 23 #[.slice (some ⟨g, 0, none⟩) 1 1, .slice (some ⟨k, 0, none⟩) 1 1] W fun e w' => ∃ v, e = .returned v ∧ OwnH 29 w' W.heap.size v [a] ∧ Below W.heap.size W w') := fun W g k h1 h2 => by
    have := pmerge_any [a] [(⟨a.id, b.seq, b.life⟩ : THd)] _ _ 1 1 W h1 h2 (by simp) (by simp) (by simp) hok
    rwa [hm.1] at this
  have M2 : RowKit.Hid (∀ (W : World) (g k : Nat), RdT W (some ⟨g, 0, none⟩) [(⟨a.id, b.seq, b.life⟩ : THd)] → RdT W (some ⟨k, 0, none⟩) [a] → Calls Try.prog 23 #[.slice (some ⟨g, 0, none⟩) 1 1, .slice (some ⟨k, 0, none⟩) 1 1] W fun e w' => ∃ v, e = .returned v ∧ OwnH 29 w' W.heap.size v [a] ∧ Below W.heap.size W w') := fun W g k h1 h2 => by
    have := pmerge_any [(⟨a.id, b.seq, b.life⟩ : THd)] [a] _ _ 1 1 W h1 h2 (by simp) (by simp) (by simp) hok2
    rwa [hm.2] at this
  have HNW : RowKit.Hid (∀ w, Calls Try.prog 16 #[.agg #[.int .i64 a.id.d, .int .i64 a.id.o, .int .i64 a.id.k, .int .i64 a.id.n, .int .i64 a.seq, .int .i64 a.life], .agg #[.int .i64 a.id.d, .int .i64 a.id.o, .int .i64 a.id.k, .int .i64 a.id.n, .int .i64 b.seq, .int .i64 b.life]] w fun e w' => e = .returned (.int .i64 (1)) ∧ Below w.heap.size w w') := fun w => by
    have := progT.newer a ⟨a.id, b.seq, b.life⟩ w ha.2.2 hb.2.2
    rwa [hn] at this
  have XA := Lib.hid (TwoH.new w a b)
  have T1 : True := trivial
  clear hm hok hok2 ha hb hn
  go_enter Try.func10, Try.ntmps10
  go_wp2_with (first
    | (go_at_call 11; refine (hw _).mono ?_; rintro e w1 ⟨rfl, hb⟩; have hx := XA.out.step hb; obtain ⟨⟨x0, x1, x2, x3, x4, x5⟩, y0, y1, y2, y3, y4, y5⟩ := hx.cells; obtain ⟨l0, l1, l2, l3, l4, l5⟩ := hx.lts; have hy := hx.id; obtain ⟨W2, hW2⟩ : ∃ W2, (((w1.setCell ⟨w.heap.size + 1, 0, none⟩ (.int .i64 a.id.d)).setCell ⟨w.heap.size + 1, 1, none⟩ (.int .i64 a.id.o)).setCell ⟨w.heap.size + 1, 2, none⟩ (.int .i64 a.id.k)).setCell ⟨w.heap.size + 1, 3, none⟩ (.int .i64 a.id.n) = W2 := ⟨_, rfl⟩; rw [hW2] at hy; have fz : ∀ j, w1.frozen? ⟨w.heap.size + 1, j, none⟩ = false := (fun j => by have := hx.bb; simp [World.frozen?, this]); have X2 := Lib.hid hy; obtain ⟨⟨p0, p1, p2, p3, p4, p5⟩, q0, q1, q2, q3, q4, q5⟩ := hy.cells; obtain ⟨m0, m1, m2, m3, m4, m5⟩ := hy.lts; clear hb hx hy)
    | (go_at_call 23; have _t := T1; clear T1 _t; refine (M1.out _ W2.heap.size (W2.heap.size + 1) (RdT.made ((Below.refl _ _).alloc (by simp) _)) (by have := RdT.made (W := W2.alloc (.cells #[.int .i64 a.id.d, .int .i64 a.id.o, .int .i64 a.id.k, .int .i64 a.id.n, .int .i64 a.seq, .int .i64 a.life] 29)) (h := (⟨a.id, b.seq, b.life⟩ : THd)) (Below.refl _ _); simpa using this)).mono ?_; rintro e w3 ⟨v, rfl, ho, hb⟩; have hx := ((X2.out.alloc (.cells #[.int .i64 a.id.d, .int .i64 a.id.o, .int .i64 a.id.k, .int .i64 a.id.n, .int .i64 a.seq, .int .i64 a.life] 29)).alloc (.cells #[.int .i64 a.id.d, .int .i64 a.id.o, .int .i64 a.id.k, .int .i64 a.id.n, .int .i64 b.seq, .int .i64 b.life] 29)).step hb; clear x0 x1 x2 x3 x4 x5 y0 y1 y2 y3 y4 y5 l0 l1 l2 l3 l4 l5; clear p0 p1 p2 p3 p4 p5 q0 q1 q2 q3 q4 q5 m0 m1 m2 m3 m4 m5 hW2 fz; obtain ⟨⟨x0, x1, x2, x3, x4, x5⟩, y0, y1, y2, y3, y4, y5⟩ := hx.cells; obtain ⟨l0, l1, l2, l3, l4, l5⟩ := hx.lts; have X3 := Lib.hid hx; have O3 := Lib.hid ho; clear hb hx ho)
    | (go_at_call 23; refine (M2.out _ w3.heap.size (w3.heap.size + 1) (RdT.made ((Below.refl _ _).alloc (by simp) _)) (by have := RdT.made (W := w3.alloc (.cells #[.int .i64 a.id.d, .int .i64 a.id.o, .int .i64 a.id.k, .int .i64 a.id.n, .int .i64 b.seq, .int .i64 b.life] 29)) (h := a) (Below.refl _ _); simpa using this)).mono ?_; rintro e w4 ⟨v4, rfl, ho, hb⟩; have hx := ((X3.out.alloc (.cells #[.int .i64 a.id.d, .int .i64 a.id.o, .int .i64 a.id.k, .int .i64 a.id.n, .int .i64 b.seq, .int .i64 b.life] 29)).alloc (.cells #[.int .i64 a.id.d, .int .i64 a.id.o, .int .i64 a.id.k, .int .i64 a.id.n, .int .i64 a.seq, .int .i64 a.life] 29)).step hb; clear x0 x1 x2 x3 x4 x5 y0 y1 y2 y3 y4 y5 l0 l1 l2 l3 l4 l5; obtain ⟨⟨x0, x1, x2, x3, x4, x5⟩, y0, y1, y2, y3, y4, y5⟩ := hx.cells; obtain ⟨l0, l1, l2, l3, l4, l5⟩ := hx.lts; have X4 := Lib.hid hx; have O4 := Lib.hid ((O3.out.below (((Below.refl _ w3).alloc (Nat.le_refl _) (.cells #[.int .i64 a.id.d, .int .i64 a.id.o, .int .i64 a.id.k, .int .i64 a.id.n, .int .i64 b.seq, .int .i64 b.life] 29)).alloc (by simp) (.cells #[.int .i64 a.id.d, .int .i64 a.id.o, .int .i64 a.id.k, .int .i64 a.id.n, .int .i64 a.seq, .int .i64 a.life] 29))).below hb); have O5 := Lib.hid ho; clear hb hx ho)
    | (go_at_call 16; refine (HNW.out _).mono ?_; rintro e w5 ⟨rfl, hb⟩; have hx := X4.out.step hb; clear x0 x1 x2 x3 x4 x5 y0 y1 y2 y3 y4 y5 l0 l1 l2 l3 l4 l5; obtain ⟨⟨x0, x1, x2, x3, x4, x5⟩, y0, y1, y2, y3, y4, y5⟩ := hx.cells; obtain ⟨l0, l1, l2, l3, l4, l5⟩ := hx.lts; have X5 := Lib.hid hx; have o6 := O4.out.below hb; have o7 := O5.out.below hb; obtain ⟨g6, c6, rfl, k6, _, _⟩ := own_one o6; obtain ⟨g7, c7, rfl, k7, _, _⟩ := own_one o7; obtain ⟨r0, r1, r2, r3, r4, r5⟩ := own_cells o6; obtain ⟨s0, s1, s2, s3, s4, s5⟩ := own_cells o7; clear hb hx o6 o7))
  go_quiet (fail)
  go_wp2
  go_ret
  exact ⟨rfl, X5.out.bel.trans ⟨rfl, rfl, rfl, Nat.le_refl _, fun _ _ => rfl⟩⟩
set_option maxHeartbeats 3200000 in
set_option maxRecDepth 100000 in
theorem wins_2 (a : THd) (ha : okH a) (b : THd) (hb : okH b) (hn : newT a ⟨a.id, b.seq, b.life⟩ = -1) (w : World) : Calls Try.prog 10 #[.agg #[.int .i64 a.id.d, .int .i64 a.id.o, .int .i64 a.id.k, .int .i64 a.id.n, .int .i64 a.seq, .int .i64 a.life], .agg #[.int .i64 b.id.d, .int .i64 b.id.o, .int .i64 b.id.k, .int .i64 b.id.n, .int .i64 b.seq, .int .i64 b.life]] w fun e w' => e = .returned (.bool true) ∧ Below w.heap.size w w' := by
  have hw := awake_any progT
  have hm := wins_neg (a := a) (b := (⟨a.id, b.seq, b.life⟩ : THd)) rfl (by rw [hn]; try omega)
  have hok : ∀ x ∈ [a] ++ [(⟨a.id, b.seq, b.life⟩ : THd)], okH x := fun x hx => by
    simp at hx
    rcases hx with rfl | rfl
    · exact ha
    · exact ⟨ha.1, hb.2.1, hb.2.2⟩
  have hok2 : ∀ x ∈ [(⟨a.id, b.seq, b.life⟩ : THd)] ++ [a], okH x := fun x hx => hok x (by simp at hx ⊢; exact hx.symm)
  have M1 : RowKit.Hid (∀ (W : World) (g k : Nat), RdT W (some ⟨g, 0, none⟩) [a] → RdT W (some ⟨k, 0, none⟩) [(⟨a.id, b.seq, b.life⟩ : THd)] → Calls Try.prog 23 #[.slice (some ⟨g, 0, none⟩) 1 1, .slice (some ⟨k, 0, none⟩) 1 1] W fun e w' => ∃ v, e = .returned v ∧ OwnH 29 w' W.heap.size v [(⟨a.id, b.seq, b.life⟩ : THd)] ∧ Below W.heap.size W w') := fun W g k h1 h2 => by
    have := pmerge_any [a] [(⟨a.id, b.seq, b.life⟩ : THd)] _ _ 1 1 W h1 h2 (by simp) (by simp) (by simp) hok
    rwa [hm.1] at this
  have M2 : RowKit.Hid (∀ (W : World) (g k : Nat), RdT W (some ⟨g, 0, none⟩) [(⟨a.id, b.seq, b.life⟩ : THd)] → RdT W (some ⟨k, 0, none⟩) [a] → Calls Try.prog 23 #[.slice (some ⟨g, 0, none⟩) 1 1, .slice (some ⟨k, 0, none⟩) 1 1] W fun e w' => ∃ v, e = .returned v ∧ OwnH 29 w' W.heap.size v [(⟨a.id, b.seq, b.life⟩ : THd)] ∧ Below W.heap.size W w') := fun W g k h1 h2 => by
    have := pmerge_any [(⟨a.id, b.seq, b.life⟩ : THd)] [a] _ _ 1 1 W h1 h2 (by simp) (by simp) (by simp) hok2
    rwa [hm.2] at this
  have HNW : RowKit.Hid (∀ w, Calls Try.prog 16 #[.agg #[.int .i64 a.id.d, .int .i64 a.id.o, .int .i64 a.id.k, .int .i64 a.id.n, .int .i64 a.seq, .int .i64 a.life], .agg #[.int .i64 a.id.d, .int .i64 a.id.o, .int .i64 a.id.k, .int .i64 a.id.n, .int .i64 b.seq, .int .i64 b.life]] w fun e w' => e = .returned (.int .i64 (-1)) ∧ Below w.heap.size w w') := fun w => by
    have := progT.newer a ⟨a.id, b.seq, b.life⟩ w ha.2.2 hb.2.2
    rwa [hn] at this
  have XA := Lib.hid (TwoH.new w a b)
  have T1 : True := trivial
  clear hm hok hok2 ha hb hn
  go_enter Try.func10, Try.ntmps10
  go_wp2_with (first
    | (go_at_call 11; refine (hw _).mono ?_; rintro e w1 ⟨rfl, hb⟩; have hx := XA.out.step hb; obtain ⟨⟨x0, x1, x2, x3, x4, x5⟩, y0, y1, y2, y3, y4, y5⟩ := hx.cells; obtain ⟨l0, l1, l2, l3, l4, l5⟩ := hx.lts; have hy := hx.id; obtain ⟨W2, hW2⟩ : ∃ W2, (((w1.setCell ⟨w.heap.size + 1, 0, none⟩ (.int .i64 a.id.d)).setCell ⟨w.heap.size + 1, 1, none⟩ (.int .i64 a.id.o)).setCell ⟨w.heap.size + 1, 2, none⟩ (.int .i64 a.id.k)).setCell ⟨w.heap.size + 1, 3, none⟩ (.int .i64 a.id.n) = W2 := ⟨_, rfl⟩; rw [hW2] at hy; have fz : ∀ j, w1.frozen? ⟨w.heap.size + 1, j, none⟩ = false := (fun j => by have := hx.bb; simp [World.frozen?, this]); have X2 := Lib.hid hy; obtain ⟨⟨p0, p1, p2, p3, p4, p5⟩, q0, q1, q2, q3, q4, q5⟩ := hy.cells; obtain ⟨m0, m1, m2, m3, m4, m5⟩ := hy.lts; clear hb hx hy)
    | (go_at_call 23; have _t := T1; clear T1 _t; refine (M1.out _ W2.heap.size (W2.heap.size + 1) (RdT.made ((Below.refl _ _).alloc (by simp) _)) (by have := RdT.made (W := W2.alloc (.cells #[.int .i64 a.id.d, .int .i64 a.id.o, .int .i64 a.id.k, .int .i64 a.id.n, .int .i64 a.seq, .int .i64 a.life] 29)) (h := (⟨a.id, b.seq, b.life⟩ : THd)) (Below.refl _ _); simpa using this)).mono ?_; rintro e w3 ⟨v, rfl, ho, hb⟩; have hx := ((X2.out.alloc (.cells #[.int .i64 a.id.d, .int .i64 a.id.o, .int .i64 a.id.k, .int .i64 a.id.n, .int .i64 a.seq, .int .i64 a.life] 29)).alloc (.cells #[.int .i64 a.id.d, .int .i64 a.id.o, .int .i64 a.id.k, .int .i64 a.id.n, .int .i64 b.seq, .int .i64 b.life] 29)).step hb; clear x0 x1 x2 x3 x4 x5 y0 y1 y2 y3 y4 y5 l0 l1 l2 l3 l4 l5; clear p0 p1 p2 p3 p4 p5 q0 q1 q2 q3 q4 q5 m0 m1 m2 m3 m4 m5 hW2 fz; obtain ⟨⟨x0, x1, x2, x3, x4, x5⟩, y0, y1, y2, y3, y4, y5⟩ := hx.cells; obtain ⟨l0, l1, l2, l3, l4, l5⟩ := hx.lts; have X3 := Lib.hid hx; have O3 := Lib.hid ho; clear hb hx ho)
    | (go_at_call 23; refine (M2.out _ w3.heap.size (w3.heap.size + 1) (RdT.made ((Below.refl _ _).alloc (by simp) _)) (by have := RdT.made (W := w3.alloc (.cells #[.int .i64 a.id.d, .int .i64 a.id.o, .int .i64 a.id.k, .int .i64 a.id.n, .int .i64 b.seq, .int .i64 b.life] 29)) (h := a) (Below.refl _ _); simpa using this)).mono ?_; rintro e w4 ⟨v4, rfl, ho, hb⟩; have hx := ((X3.out.alloc (.cells #[.int .i64 a.id.d, .int .i64 a.id.o, .int .i64 a.id.k, .int .i64 a.id.n, .int .i64 b.seq, .int .i64 b.life] 29)).alloc (.cells #[.int .i64 a.id.d, .int .i64 a.id.o, .int .i64 a.id.k, .int .i64 a.id.n, .int .i64 a.seq, .int .i64 a.life] 29)).step hb; clear x0 x1 x2 x3 x4 x5 y0 y1 y2 y3 y4 y5 l0 l1 l2 l3 l4 l5; obtain ⟨⟨x0, x1, x2, x3, x4, x5⟩, y0, y1, y2, y3, y4, y5⟩ := hx.cells; obtain ⟨l0, l1, l2, l3, l4, l5⟩ := hx.lts; have X4 := Lib.hid hx; have O4 := Lib.hid ((O3.out.below (((Below.refl _ w3).alloc (Nat.le_refl _) (.cells #[.int .i64 a.id.d, .int .i64 a.id.o, .int .i64 a.id.k, .int .i64 a.id.n, .int .i64 b.seq, .int .i64 b.life] 29)).alloc (by simp) (.cells #[.int .i64 a.id.d, .int .i64 a.id.o, .int .i64 a.id.k, .int .i64 a.id.n, .int .i64 a.seq, .int .i64 a.life] 29))).below hb); have O5 := Lib.hid ho; clear hb hx ho)
    | (go_at_call 16; refine (HNW.out _).mono ?_; rintro e w5 ⟨rfl, hb⟩; have hx := X4.out.step hb; clear x0 x1 x2 x3 x4 x5 y0 y1 y2 y3 y4 y5 l0 l1 l2 l3 l4 l5; obtain ⟨⟨x0, x1, x2, x3, x4, x5⟩, y0, y1, y2, y3, y4, y5⟩ := hx.cells; obtain ⟨l0, l1, l2, l3, l4, l5⟩ := hx.lts; have X5 := Lib.hid hx; have o6 := O4.out.below hb; have o7 := O5.out.below hb; obtain ⟨g6, c6, rfl, k6, _, _⟩ := own_one o6; obtain ⟨g7, c7, rfl, k7, _, _⟩ := own_one o7; obtain ⟨r0, r1, r2, r3, r4, r5⟩ := own_cells o6; obtain ⟨s0, s1, s2, s3, s4, s5⟩ := own_cells o7; clear hb hx o6 o7))
  go_quiet (fail)
  go_wp2
  go_ret
  exact ⟨rfl, X5.out.bel.trans ⟨rfl, rfl, rfl, Nat.le_refl _, fun _ _ => rfl⟩⟩
set_option maxHeartbeats 3200000 in
set_option maxRecDepth 100000 in
theorem wins_3 (a : THd) (ha : okH a) (b : THd) (hb : okH b) (hn : newT a ⟨a.id, b.seq, b.life⟩ = 0) (w : World) : Calls Try.prog 10 #[.agg #[.int .i64 a.id.d, .int .i64 a.id.o, .int .i64 a.id.k, .int .i64 a.id.n, .int .i64 a.seq, .int .i64 a.life], .agg #[.int .i64 b.id.d, .int .i64 b.id.o, .int .i64 b.id.k, .int .i64 b.id.n, .int .i64 b.seq, .int .i64 b.life]] w fun e w' => e = .returned (.bool true) ∧ Below w.heap.size w w' := by
  have hw := awake_any progT
  have hm := wins_zero (a := a) (b := (⟨a.id, b.seq, b.life⟩ : THd)) rfl (by rw [hn]; try omega)
  have hok : ∀ x ∈ [a] ++ [(⟨a.id, b.seq, b.life⟩ : THd)], okH x := fun x hx => by
    simp at hx
    rcases hx with rfl | rfl
    · exact ha
    · exact ⟨ha.1, hb.2.1, hb.2.2⟩
  have hok2 : ∀ x ∈ [(⟨a.id, b.seq, b.life⟩ : THd)] ++ [a], okH x := fun x hx => hok x (by simp at hx ⊢; exact hx.symm)
  have M1 : RowKit.Hid (∀ (W : World) (g k : Nat), RdT W (some ⟨g, 0, none⟩) [a] → RdT W (some ⟨k, 0, none⟩) [(⟨a.id, b.seq, b.life⟩ : THd)] → Calls Try.prog 23 #[.slice (some ⟨g, 0, none⟩) 1 1, .slice (some ⟨k, 0, none⟩) 1 1] W fun e w' => ∃ v, e = .returned v ∧ OwnH 29 w' W.heap.size v [a] ∧ Below W.heap.size W w') := fun W g k h1 h2 => by
    have := pmerge_any [a] [(⟨a.id, b.seq, b.life⟩ : THd)] _ _ 1 1 W h1 h2 (by simp) (by simp) (by simp) hok
    rwa [hm.1] at this
  have M2 : RowKit.Hid (∀ (W : World) (g k : Nat), RdT W (some ⟨g, 0, none⟩) [(⟨a.id, b.seq, b.life⟩ : THd)] → RdT W (some ⟨k, 0, none⟩) [a] → Calls Try.prog 23 #[.slice (some ⟨g, 0, none⟩) 1 1, .slice (some ⟨k, 0, none⟩) 1 1] W fun e w' => ∃ v, e = .returned v ∧ OwnH 29 w' W.heap.size v [(⟨a.id, b.seq, b.life⟩ : THd)] ∧ Below W.heap.size W w') := fun W g k h1 h2 => by
    have := pmerge_any [(⟨a.id, b.seq, b.life⟩ : THd)] [a] _ _ 1 1 W h1 h2 (by simp) (by simp) (by simp) hok2
    rwa [hm.2] at this
  have HNW : RowKit.Hid (∀ w, Calls Try.prog 16 #[.agg #[.int .i64 a.id.d, .int .i64 a.id.o, .int .i64 a.id.k, .int .i64 a.id.n, .int .i64 a.seq, .int .i64 a.life], .agg #[.int .i64 a.id.d, .int .i64 a.id.o, .int .i64 a.id.k, .int .i64 a.id.n, .int .i64 b.seq, .int .i64 b.life]] w fun e w' => e = .returned (.int .i64 (0)) ∧ Below w.heap.size w w') := fun w => by
    have := progT.newer a ⟨a.id, b.seq, b.life⟩ w ha.2.2 hb.2.2
    rwa [hn] at this
  have XA := Lib.hid (TwoH.new w a b)
  have T1 : True := trivial
  clear hm hok hok2 ha hb hn
  go_enter Try.func10, Try.ntmps10
  go_wp2_with (first
    | (go_at_call 11; refine (hw _).mono ?_; rintro e w1 ⟨rfl, hb⟩; have hx := XA.out.step hb; obtain ⟨⟨x0, x1, x2, x3, x4, x5⟩, y0, y1, y2, y3, y4, y5⟩ := hx.cells; obtain ⟨l0, l1, l2, l3, l4, l5⟩ := hx.lts; have hy := hx.id; obtain ⟨W2, hW2⟩ : ∃ W2, (((w1.setCell ⟨w.heap.size + 1, 0, none⟩ (.int .i64 a.id.d)).setCell ⟨w.heap.size + 1, 1, none⟩ (.int .i64 a.id.o)).setCell ⟨w.heap.size + 1, 2, none⟩ (.int .i64 a.id.k)).setCell ⟨w.heap.size + 1, 3, none⟩ (.int .i64 a.id.n) = W2 := ⟨_, rfl⟩; rw [hW2] at hy; have fz : ∀ j, w1.frozen? ⟨w.heap.size + 1, j, none⟩ = false := (fun j => by have := hx.bb; simp [World.frozen?, this]); have X2 := Lib.hid hy; obtain ⟨⟨p0, p1, p2, p3, p4, p5⟩, q0, q1, q2, q3, q4, q5⟩ := hy.cells; obtain ⟨m0, m1, m2, m3, m4, m5⟩ := hy.lts; clear hb hx hy)
    | (go_at_call 23; have _t := T1; clear T1 _t; refine (M1.out _ W2.heap.size (W2.heap.size + 1) (RdT.made ((Below.refl _ _).alloc (by simp) _)) (by have := RdT.made (W := W2.alloc (.cells #[.int .i64 a.id.d, .int .i64 a.id.o, .int .i64 a.id.k, .int .i64 a.id.n, .int .i64 a.seq, .int .i64 a.life] 29)) (h := (⟨a.id, b.seq, b.life⟩ : THd)) (Below.refl _ _); simpa using this)).mono ?_; rintro e w3 ⟨v, rfl, ho, hb⟩; have hx := ((X2.out.alloc (.cells #[.int .i64 a.id.d, .int .i64 a.id.o, .int .i64 a.id.k, .int .i64 a.id.n, .int .i64 a.seq, .int .i64 a.life] 29)).alloc (.cells #[.int .i64 a.id.d, .int .i64 a.id.o, .int .i64 a.id.k, .int .i64 a.id.n, .int .i64 b.seq, .int .i64 b.life] 29)).step hb; clear x0 x1 x2 x3 x4 x5 y0 y1 y2 y3 y4 y5 l0 l1 l2 l3 l4 l5; clear p0 p1 p2 p3 p4 p5 q0 q1 q2 q3 q4 q5 m0 m1 m2 m3 m4 m5 hW2 fz; obtain ⟨⟨x0, x1, x2, x3, x4, x5⟩, y0, y1, y2, y3, y4, y5⟩ := hx.cells; obtain ⟨l0, l1, l2, l3, l4, l5⟩ := hx.lts; have X3 := Lib.hid hx; have O3 := Lib.hid ho; clear hb hx ho)
    | (go_at_call 23; refine (M2.out _ w3.heap.size (w3.heap.size + 1) (RdT.made ((Below.refl _ _).alloc (by simp) _)) (by have := RdT.made (W := w3.alloc (.cells #[.int .i64 a.id.d, .int .i64 a.id.o, .int .i64 a.id.k, .int .i64 a.id.n, .int .i64 b.seq, .int .i64 b.life] 29)) (h := a) (Below.refl _ _); simpa using this)).mono ?_; rintro e w4 ⟨v4, rfl, ho, hb⟩; have hx := ((X3.out.alloc (.cells #[.int .i64 a.id.d, .int .i64 a.id.o, .int .i64 a.id.k, .int .i64 a.id.n, .int .i64 b.seq, .int .i64 b.life] 29)).alloc (.cells #[.int .i64 a.id.d, .int .i64 a.id.o, .int .i64 a.id.k, .int .i64 a.id.n, .int .i64 a.seq, .int .i64 a.life] 29)).step hb; clear x0 x1 x2 x3 x4 x5 y0 y1 y2 y3 y4 y5 l0 l1 l2 l3 l4 l5; obtain ⟨⟨x0, x1, x2, x3, x4, x5⟩, y0, y1, y2, y3, y4, y5⟩ := hx.cells; obtain ⟨l0, l1, l2, l3, l4, l5⟩ := hx.lts; have X4 := Lib.hid hx; have O4 := Lib.hid ((O3.out.below (((Below.refl _ w3).alloc (Nat.le_refl _) (.cells #[.int .i64 a.id.d, .int .i64 a.id.o, .int .i64 a.id.k, .int .i64 a.id.n, .int .i64 b.seq, .int .i64 b.life] 29)).alloc (by simp) (.cells #[.int .i64 a.id.d, .int .i64 a.id.o, .int .i64 a.id.k, .int .i64 a.id.n, .int .i64 a.seq, .int .i64 a.life] 29))).below hb); have O5 := Lib.hid ho; clear hb hx ho)
    | (go_at_call 16; refine (HNW.out _).mono ?_; rintro e w5 ⟨rfl, hb⟩; have hx := X4.out.step hb; clear x0 x1 x2 x3 x4 x5 y0 y1 y2 y3 y4 y5 l0 l1 l2 l3 l4 l5; obtain ⟨⟨x0, x1, x2, x3, x4, x5⟩, y0, y1, y2, y3, y4, y5⟩ := hx.cells; obtain ⟨l0, l1, l2, l3, l4, l5⟩ := hx.lts; have X5 := Lib.hid hx; have o6 := O4.out.below hb; have o7 := O5.out.below hb; obtain ⟨g6, c6, rfl, k6, _, _⟩ := own_one o6; obtain ⟨g7, c7, rfl, k7, _, _⟩ := own_one o7; obtain ⟨r0, r1, r2, r3, r4, r5⟩ := own_cells o6; obtain ⟨s0, s1, s2, s3, s4, s5⟩ := own_cells o7; clear hb hx o6 o7))
  go_quiet (fail)
  go_wp2
  go_ret
  exact ⟨rfl, X5.out.bel.trans ⟨rfl, rfl, rfl, Nat.le_refl _, fun _ _ => rfl⟩⟩
end
theorem wins_law (a : THd) (ha : okH a) (b : THd) (hb : okH b) (w : World) : Calls Try.prog 10 #[.agg #[.int .i64 a.id.d, .int .i64 a.id.o, .int .i64 a.id.k, .int .i64 a.id.n, .int .i64 a.seq, .int .i64 a.life], .agg #[.int .i64 b.id.d, .int .i64 b.id.o, .int .i64 b.id.k, .int .i64 b.id.n, .int .i64 b.seq, .int .i64 b.life]] w fun e w' => e = .returned (.bool true) ∧ Below w.heap.size w w' := by
  have hr : newT a ⟨a.id, b.seq, b.life⟩ = -1 ∨ newT a ⟨a.id, b.seq, b.life⟩ = 0 ∨ newT a ⟨a.id, b.seq, b.life⟩ = 1 := by
    unfold newT numT
    repeat' split
    all_goals simp
  rcases hr with h | h | h
  · exact wins_2 a ha b hb h w
  · exact wins_3 a ha b hb h w
  · exact wins_1 a ha b hb h w
end Go.Proofs.Yticbdodpclnanaa
