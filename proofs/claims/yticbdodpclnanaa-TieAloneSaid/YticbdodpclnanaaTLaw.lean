/-
  THE LAWS' TOOLS: what the program's functions answer (as a premise), awake.
-/
import Derived.Test.YticbdodpclnanaaTArg
import Derived.Test.YticbdodpclnanaaTMerge
import Derived.Test.YticbdodpclnanaaTAft
namespace Go.Proofs.Yticbdodpclnanaa
set_option linter.unusedSimpArgs false
set_option linter.unusedVariables false
open Go.RowKit
/-- What the program's functions answer. -/
structure ProgT : Prop where
  cmp : ∀ (a b : TId) (w : World), Calls Try.prog 14 #[.agg #[.int .i64 a.d, .int .i64 a.o, .int .i64 a.k, .int .i64 a.n], .agg #[.int .i64 b.d, .int .i64 b.o, .int .i64 b.k, .int .i64 b.n]] w fun e w' => e = .returned (.int .i64 (cmpT a b)) ∧ Below w.heap.size w w'
  newer : ∀ (a b : THd) (w : World), In64 a.life → In64 b.life → Calls Try.prog 16 #[.agg #[.int .i64 a.id.d, .int .i64 a.id.o, .int .i64 a.id.k, .int .i64 a.id.n, .int .i64 a.seq, .int .i64 a.life], .agg #[.int .i64 b.id.d, .int .i64 b.id.o, .int .i64 b.id.k, .int .i64 b.id.n, .int .i64 b.seq, .int .i64 b.life]] w fun e w' => e = .returned (.int .i64 (newT a b)) ∧ Below w.heap.size w w'
  first : ∀ w : World, Calls Try.prog 18 #[] w fun e w' => e = .returned (.agg #[.int .i64 1, .int .i64 1, .int .i64 1, .int .i64 0]) ∧ Below w.heap.size w w'
  last : ∀ w : World, Calls Try.prog 20 #[] w fun e w' => e = .returned (.agg #[.int .i64 2, .int .i64 1000, .int .i64 4, .int .i64 65535]) ∧ Below w.heap.size w w'
  after : ∀ (x : TId) (w : World), Calls Try.prog 12 #[.agg #[.int .i64 x.d, .int .i64 x.o, .int .i64 x.k, .int .i64 x.n]] w (AftE x w)
  merge : ∀ (l m : List THd) (a b : Option Addr) (ca cb : Nat) (w : World), RdT w a l → RdT w b m → l.length + m.length ≤ 400 → l.length ≤ ca → m.length ≤ cb → (∀ x ∈ l ++ m, okH x) → Calls Try.prog 23 #[.slice a l.length ca, .slice b m.length cb] w fun e w' => ∃ v, e = .returned v ∧ OwnH 29 w' w.heap.size v (mergeT l m) ∧ Below w.heap.size w w'
theorem awake_after : afterT ⟨1, 1, 1, 65535⟩ = (⟨1, 1, 2, 0⟩, true) := by decide
theorem awake_newer : newT ⟨⟨0, 0, 0, 0⟩, 2, 0⟩ ⟨⟨0, 0, 0, 0⟩, 1, 0⟩ = 1 := by decide
section
attribute [local go_sem high] eq_head eq_id
set_option maxHeartbeats 1600000 in
set_option maxRecDepth 100000 in
theorem awake_any (P : ProgT) (w : World) : Calls Try.prog 11 #[] w fun e w' => e = .returned (.bool true) ∧ Below w.heap.size w w' := by
  have ha := P.after ⟨1, 1, 1, 65535⟩
  have hn := fun w => P.newer ⟨⟨0, 0, 0, 0⟩, 2, 0⟩ ⟨⟨0, 0, 0, 0⟩, 1, 0⟩ w (by unfold In64; simp) (by unfold In64; simp)
  unfold AftE at ha
  rw [awake_after] at ha
  rw [awake_newer] at hn
  have HA := Lib.hid ha
  have HN := Lib.hid hn
  clear P ha hn
  go_enter Try.func11, Try.ntmps11
  go_wp2_with (first
    | (go_at_call 12; refine (HA.out _).mono ?_; rintro e w1 ⟨rfl, hb⟩; have HB := Lib.hid hb; clear hb)
    | (go_at_call 16; refine (HN.out _).mono ?_; rintro e w2 ⟨rfl, hb⟩; have HB2 := Lib.hid ((HB.out.alloc HB.out.size _).trans (hb.mono (by have := HB.out.size; simp; omega))); clear hb))
  go_ret
  exact ⟨rfl, HB2.out⟩
end
/-- Two heads in boxes of one's own. -/
structure TwoH (w W : World) (a b : THd) : Prop where
  ba : W.heap[w.heap.size]? = some (.cells [.int .i64 a.id.d, .int .i64 a.id.o, .int .i64 a.id.k, .int .i64 a.id.n, .int .i64 a.seq, .int .i64 a.life].toArray 29 (0, 0))
  bb : W.heap[w.heap.size + 1]? = some (.cells [.int .i64 b.id.d, .int .i64 b.id.o, .int .i64 b.id.k, .int .i64 b.id.n, .int .i64 b.seq, .int .i64 b.life].toArray 29 (0, 0))
  bel : Below w.heap.size w W
theorem TwoH.new (w : World) (a b : THd) : TwoH w ((w.alloc (.cells #[.int .i64 a.id.d, .int .i64 a.id.o, .int .i64 a.id.k, .int .i64 a.id.n, .int .i64 a.seq, .int .i64 a.life] 29)).alloc (.cells #[.int .i64 b.id.d, .int .i64 b.id.o, .int .i64 b.id.k, .int .i64 b.id.n, .int .i64 b.seq, .int .i64 b.life] 29)) a b :=
  ⟨by rw [heap_alloc_old _ _ (by simp)]; exact heap_alloc_new w _, by have := heap_alloc_new (w.alloc (.cells #[.int .i64 a.id.d, .int .i64 a.id.o, .int .i64 a.id.k, .int .i64 a.id.n, .int .i64 a.seq, .int .i64 a.life] 29)) (.cells #[.int .i64 b.id.d, .int .i64 b.id.o, .int .i64 b.id.k, .int .i64 b.id.n, .int .i64 b.seq, .int .i64 b.life] 29); simpa using this, ((Below.refl _ w).alloc (Nat.le_refl _) _).alloc (by simp) _⟩
theorem TwoH.step {w W W' : World} {a b : THd} (h : TwoH w W a b) (k : Below W.heap.size W W') : TwoH w W' a b :=
  ⟨(k.block _ (Array.getElem?_eq_some_iff.1 h.ba).1).trans h.ba, (k.block _ (Array.getElem?_eq_some_iff.1 h.bb).1).trans h.bb, h.bel.trans (k.mono h.bel.size)⟩
theorem TwoH.cells {w W : World} {a b : THd} (h : TwoH w W a b) : (W.cell? ⟨w.heap.size, 0, none⟩ = some (.int .i64 a.id.d) ∧ W.cell? ⟨w.heap.size, 1, none⟩ = some (.int .i64 a.id.o) ∧ W.cell? ⟨w.heap.size, 2, none⟩ = some (.int .i64 a.id.k) ∧ W.cell? ⟨w.heap.size, 3, none⟩ = some (.int .i64 a.id.n) ∧ W.cell? ⟨w.heap.size, 4, none⟩ = some (.int .i64 a.seq) ∧ W.cell? ⟨w.heap.size, 5, none⟩ = some (.int .i64 a.life)) ∧
    W.cell? ⟨w.heap.size + 1, 0, none⟩ = some (.int .i64 b.id.d) ∧ W.cell? ⟨w.heap.size + 1, 1, none⟩ = some (.int .i64 b.id.o) ∧ W.cell? ⟨w.heap.size + 1, 2, none⟩ = some (.int .i64 b.id.k) ∧ W.cell? ⟨w.heap.size + 1, 3, none⟩ = some (.int .i64 b.id.n) ∧ W.cell? ⟨w.heap.size + 1, 4, none⟩ = some (.int .i64 b.seq) ∧ W.cell? ⟨w.heap.size + 1, 5, none⟩ = some (.int .i64 b.life) := by
  have h1 := h.ba
  have h2 := h.bb
  simp [World.cell?, h1, h2]
section
attribute [local go_sem high] eq_head eq_id
set_option maxHeartbeats 3200000 in
set_option maxRecDepth 100000 in
theorem tnewer_walk (P : ProgT) (a b : THd) (ha : okH a) (hb : okH b) (w : World) : Calls Try.prog 7 #[.agg #[.int .i64 a.id.d, .int .i64 a.id.o, .int .i64 a.id.k, .int .i64 a.id.n, .int .i64 a.seq, .int .i64 a.life], .agg #[.int .i64 b.id.d, .int .i64 b.id.o, .int .i64 b.id.k, .int .i64 b.id.n, .int .i64 b.seq, .int .i64 b.life]] w fun e w' => e = .returned (.bool true) ∧ Below w.heap.size w w' := by
  obtain ⟨n, hn⟩ : ∃ n, newT a b = n := ⟨_, rfl⟩
  have ht : newT b a = -n := by rw [new_turn b a, hn]
  have hr : n = -1 ∨ n = 0 ∨ n = 1 := by
    rw [← hn]; unfold newT numT
    repeat' split
    all_goals simp
  have hs : b.seq < a.seq → n = 1 := fun h => by rw [← hn, new_seq h]
  have h1 := fun w => P.newer a b w ha.2.2 hb.2.2
  have h2 := fun w => P.newer b a w hb.2.2 ha.2.2
  have h3 := fun w => P.newer a a w ha.2.2 ha.2.2
  rw [hn] at h1
  rw [ht] at h2
  rw [new_self] at h3
  have hw := awake_any P
  have H1 := Lib.hid h1
  have H2 := Lib.hid h2
  have H3 := Lib.hid h3
  have e1 : (-(-n)) = n := by omega
  have XA := Lib.hid (TwoH.new w a b)
  clear P ha hb hn ht h1 h2 h3
  have hseq : a.seq ≤ b.seq ∨ (b.seq < a.seq ∧ n = 1) := by by_cases q : a.seq ≤ b.seq; exact .inl q; exact .inr ⟨by omega, hs (by omega)⟩
  clear hs
  have hcase : (a.seq ≤ b.seq ∧ n = -1) ∨ (a.seq ≤ b.seq ∧ n = 0) ∨ (a.seq ≤ b.seq ∧ n = 1) ∨ (b.seq < a.seq ∧ n = 1) := by omega
  clear hseq hr
  rcases hcase with ⟨hq, rfl⟩ | ⟨hq, rfl⟩ | ⟨hq, rfl⟩ | ⟨hq, rfl⟩
  all_goals go_enter Try.func7, Try.ntmps7
  all_goals go_wp2_with (first
    | (go_at_call 11; refine (hw _).mono ?_; rintro e w1 ⟨rfl, hb⟩; have hx := XA.out.step hb; obtain ⟨⟨x0, x1, x2, x3, x4, x5⟩, y0, y1, y2, y3, y4, y5⟩ := hx.cells; have X1 := Lib.hid hx; clear hb hx)
    | (go_at_call 16; (with_reducible refine (H1.out _).mono ?_); rintro e w2 ⟨rfl, hb⟩; have hx := X1.out.step hb; clear x0 x1 x2 x3 x4 x5 y0 y1 y2 y3 y4 y5; obtain ⟨⟨x0, x1, x2, x3, x4, x5⟩, y0, y1, y2, y3, y4, y5⟩ := hx.cells; have X2 := Lib.hid hx; clear hb hx)
    | (go_at_call 16; (with_reducible refine (H2.out _).mono ?_); rintro e w3 ⟨rfl, hb⟩; have hx := X2.out.step hb; clear x0 x1 x2 x3 x4 x5 y0 y1 y2 y3 y4 y5; obtain ⟨⟨x0, x1, x2, x3, x4, x5⟩, y0, y1, y2, y3, y4, y5⟩ := hx.cells; have X3 := Lib.hid hx; clear hb hx)
    | (go_at_call 16; (with_reducible refine (H3.out _).mono ?_); rintro e w4 ⟨rfl, hb⟩; have hx := X3.out.step hb; clear x0 x1 x2 x3 x4 x5 y0 y1 y2 y3 y4 y5; have X4 := Lib.hid hx; clear hb hx))
  all_goals go_ret
  all_goals exact ⟨rfl, X4.out.bel⟩
end
end Go.Proofs.Yticbdodpclnanaa
