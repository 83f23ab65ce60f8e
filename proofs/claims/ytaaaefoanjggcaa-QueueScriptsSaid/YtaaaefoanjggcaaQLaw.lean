/-
  THE LAWS' QUEUE: the contracts as the laws' walks spell them; rows of jobs, jobs, steps that came in; the queue is awake.
-/
import Derived.Test.YtaaaefoanjggcaaQTurn
import Derived.ProofKit
import Derived.OpenShut
import Derived.ChangeOld
import Derived.Below
import Derived.Stop.Joined
import Derived.Deep.CondSized
import Derived.Deep.Slices
namespace Go.Proofs.Ytaaaefoanjggcaa
set_option linter.unusedSimpArgs false
set_option linter.unusedVariables false
open Go.RowKit Go.ChangeShapes Go.WideShapes
/-- All cells but those of queues are as they were. -/
def KQ (W W' : World) : Prop := W.heap.size ≤ W'.heap.size ∧ ∀ (i : Nat) (cs : Array Value) (T : TypeId) (fr : Nat × Nat), T ≠ 51 → T ≠ 54 → W.heap[i]? = some (.cells cs T fr) → W'.heap[i]? = some (.cells cs T fr)
theorem KQ.refl (W : World) : KQ W W := ⟨Nat.le_refl _, fun _ _ _ _ _ _ h => h⟩
theorem KQ.trans {X Y Z : World} (h : KQ X Y) (k : KQ Y Z) : KQ X Z := ⟨Nat.le_trans h.1 k.1, fun i cs T fr a b c => k.2 i cs T fr a b (h.2 i cs T fr a b c)⟩
theorem KQ.below {X Y : World} (h : Below X.heap.size X Y) : KQ X Y := ⟨h.size, fun i _ _ _ _ _ hc => (h.block i (Array.getElem?_eq_some_iff.1 hc).1).trans hc⟩
theorem QG.keeps {W W' : World} {base qb mb n : Nat} {g : Option Nat} {R : List Job} (h : QG W base qb mb n g R) (k : Fr qb mb g W W') : KQ W W' := by
  obtain ⟨l, ⟨⟨f, a, v, q⟩, c⟩, d⟩ := h
  refine ⟨k.size, fun i cs T fr h1 h2 hc => ?_⟩
  refine (k.block i (Array.getElem?_eq_some_iff.1 hc).1 ?_ ?_ ?_).trans hc
  · rintro rfl
    rw [q.box] at hc
    injection hc with hc
    injection hc with _ hc _
    exact h1 hc.symm
  · rintro rfl
    obtain ⟨es, c, hm⟩ := q.map.isMap
    rw [hm] at hc
    injection hc with hc
    cases hc
  · intro e
    have hr := q.row
    rw [← e] at hr
    rcases q.own.2 with ⟨e2, _⟩ | ⟨g2, cap, cur, e2, _, hh, _⟩
    · rw [e2] at hr; cases hr
    · rw [e2] at hr
      injection hr with hr
      have hr : g2 = i := hr
      subst hr
      rw [hh] at hc
      injection hc with hc
      injection hc with _ hc _
      exact h2 hc.symm
theorem BxJ.keep {T : TypeId} {W W' : World} {k : Nat} {x : Job} (h : BxJ T W k x) (h1 : T ≠ 51) (h2 : T ≠ 54) (q : KQ W W') : BxJ T W' k x := q.2 _ _ _ _ h1 h2 h
section
variable {w W W' : World} {n : Nat} {R : List Job}
theorem Newed.below (h : Newed w n R W) (k : Below W.heap.size W W') : Newed w n R W' := by
  obtain ⟨g, a, b⟩ := h
  exact ⟨g, a.below k, b.trans (k.mono b.size)⟩
theorem Newed.nd (h : Newed w n R W) : Nd R := by
  obtain ⟨g, a, b⟩ := h
  exact a.nd
theorem Newed.len (h : Newed w n R W) : R.length ≤ n ∧ n ≤ 1000000 := by
  obtain ⟨g, a, b⟩ := h
  exact a.len
theorem Newed.bel (h : Newed w n R W) : Below w.heap.size w W := by
  obtain ⟨g, a, b⟩ := h
  exact b
theorem Newed.drop (h : Newed w n R W) {R' : List Job} (k : ∀ g, QG W w.heap.size (w.heap.size + 1) w.heap.size n g R → DropEnd W w.heap.size (w.heap.size + 1) w.heap.size n g R' W') : Newed w n R' W' := by
  obtain ⟨g, a, b⟩ := h
  obtain ⟨q, f⟩ := k g a
  obtain ⟨a1, a2, a3, a4, _⟩ := a.at
  exact ⟨g, q, b.trans (f.below a1 a2 a3 (by omega))⟩
theorem newP (a : Option Addr) (cap : Nat) (l : List Job) (hl : l.length ≤ 1000) (w : World) (hr : RdJ w.heap.size w a l) :
    Calls Try.prog 9 #[.slice a l.length cap] w fun e w' => e = .returned (.pointer (some ⟨w.heap.size + 1, 0, none⟩)) ∧ Newed w l.length (allR l) w' := new_any a cap l hl w hr
theorem nextP (h : Newed w n R W) : Calls Try.prog 13 #[.pointer (some ⟨w.heap.size + 1, 0, none⟩)] W fun e w' => e = .returned (.tuple #[.agg #[.int .i64 (nextR R).k, .int .i64 (nextR R).a], .bool (nextIs R)]) ∧ Newed w n (restR R) w' ∧ KQ W w' := by
  obtain ⟨g, a, b⟩ := h
  obtain ⟨a1, a2, a3, a4, _⟩ := a.at
  exact (next_any a).mono fun e w' ⟨he, q, f⟩ => ⟨he, ⟨g, q, b.trans (f.below a1 a2 a3 (by omega))⟩, a.keeps f⟩
theorem dropP (h : Newed w n R W) (key : Int) (hk : InI key) : Calls Try.prog 15 #[.pointer (some ⟨w.heap.size + 1, 0, none⟩), .int .i64 key] W fun e w' => e = .returned (.bool (getR R key).isSome) ∧ Newed w n (dropR R key) w' ∧ KQ W w' := by
  obtain ⟨g, a, b⟩ := h
  obtain ⟨a1, a2, a3, a4, _⟩ := a.at
  exact (drop_any a key hk).mono fun e w' ⟨he, q, f⟩ => ⟨he, ⟨g, q, b.trans (f.below a1 a2 a3 (by omega))⟩, a.keeps f⟩
theorem atP (h : Newed w n R W) (key : Int) (hk : InI key) : Calls Try.prog 17 #[.pointer (some ⟨w.heap.size + 1, 0, none⟩), .int .i64 key] W fun e w' => e = .returned (.tuple #[.int .i64 ((getR R key).getD 0), .bool (getR R key).isSome]) ∧ Newed w n R w' ∧ KQ W w' := by
  obtain ⟨g, a, b⟩ := h
  exact (at_any a key hk).mono fun e w' ⟨he, hb⟩ => ⟨he, ⟨g, a.below hb, b.trans (hb.mono b.size)⟩, KQ.below hb⟩
theorem lenP (h : Newed w n R W) : Calls Try.prog 19 #[.pointer (some ⟨w.heap.size + 1, 0, none⟩)] W fun e w' => e = .returned (.int .i64 R.length) ∧ W = w' := by
  obtain ⟨g, a, b⟩ := h
  exact len_any a
theorem putP (h : Newed w n R W) (x : Job) (hx : InI x.k) (hn : n < 1000000) : Calls Try.prog 11 #[.pointer (some ⟨w.heap.size + 1, 0, none⟩), .agg #[.int .i64 x.k, .int .i64 x.a]] W fun e w' => e = .returned (.bool (newsR R x)) ∧ Newed w (n + 1) (putR R x) w' ∧ KQ W w' := by
  obtain ⟨g, a, b⟩ := h
  exact (put_any a x hx hn).mono fun e w' ⟨he, hp⟩ => ⟨he, Newed.put ⟨g, a, b, hp⟩, by obtain ⟨g', _, _, hf⟩ := hp; exact a.keeps hf⟩
end
theorem bounds64 {m : Int} (h : (Lit.int .i64 m).wf = true) : InI m := by
  unfold InI
  simpa [Lit.wf, IntKind.min, IntKind.max, IntKind.signed, IntKind.bits] using h
set_option maxRecDepth 100000 in
theorem job_raw {H : Type} {enc : TypeId × Value → H} {W : World} {held : Bool} {sp : Nat → Bool} {cs : List Value} {fuel : Nat} {r : DataW H × List MemPlace} (hf' : DataW.trod enc Try.prog W 0 sp held fuel 30 cs = some r) :
    ∃ x : Job, cs = [.int .i64 x.k, .int .i64 x.a] ∧ InI x.k ∧ InI x.a := by
  obtain ⟨d, ps⟩ := r
  obtain ⟨xs, n, _, _, hl, hlen, hel⟩ := DataW.trod_struct Try.underlying30 hf'
  rw [show Try.prog.cellsOf 30 = 2 from by kernel_rfl] at hl
  obtain ⟨c0, c1, hc⟩ : ∃ c0 c1, cs = [c0, c1] := by
    match cs, hl with
    | [c0, c1], _ => exact ⟨c0, c1, rfl⟩
  rw [hc] at hel
  have h0 : DataW.trod enc Try.prog W 0 sp held n 3 (List.take (Try.prog.cellsOf 3) (List.drop 0 [c0, c1])) = xs[0]? := hel 0 _ rfl
  have h1 : DataW.trod enc Try.prog W 0 sp held n 3 (List.take (Try.prog.cellsOf 3) (List.drop 1 [c0, c1])) = xs[1]? := hel 1 _ rfl
  rw [show Try.prog.cellsOf 3 = 1 from by kernel_rfl] at h0 h1
  have hx2 : xs.length = 2 := by rw [hlen]; rfl
  rw [List.getElem?_eq_getElem (by omega)] at h0 h1
  obtain ⟨m, e0, _, w0⟩ := DataW.trod_int Try.underlying3 h0
  obtain ⟨b, e1, _, w1⟩ := DataW.trod_int Try.underlying3 h1
  simp only [List.drop_zero, List.take_succ_cons, List.take_zero, List.cons.injEq, and_true] at e0
  simp only [List.drop_succ_cons, List.drop_zero, List.take_succ_cons, List.take_zero, List.cons.injEq, and_true] at e1
  subst e0 e1
  exact ⟨⟨m, b⟩, hc, bounds64 w0, bounds64 w1⟩
theorem job_of {H : Type} {enc : TypeId × Value → H} {W : World} {held : Bool} {sp : Nat → Bool} {cs : Array Value} {d : DataW H} {ps : List MemPlace} (h : DataW.Trod enc Try.prog W 0 sp held 30 (.agg cs) d ps) :
    ∃ x : Job, cs = #[.int .i64 x.k, .int .i64 x.a] ∧ InI x.k ∧ InI x.a := by
  obtain ⟨fuel, hf⟩ := h
  have hf' : DataW.trod enc Try.prog W 0 sp held fuel 30 cs.toList = some (d, ps) := hf
  obtain ⟨x, hc, h1, h2⟩ := job_raw hf'
  exact ⟨x, by rw [← Array.toList_inj, hc], h1, h2⟩
theorem jobs_of {H : Type} {enc : TypeId × Value → H} {W : World} {held : Bool} {a : Option Addr} {len cap : Nat} {d : DataW H} {ps : List MemPlace} (h : DataW.Trod enc Try.prog W 0 (fun _ => true) held 22 (.slice a len cap) d ps) :
    ∃ l : List Job, l.length = len ∧ l.length ≤ 9223372036854775807 ∧ RdJ W.heap.size W a l := by
  obtain ⟨fuel, hf⟩ := h
  have hf' : DataW.trod enc Try.prog W 0 (fun _ => true) held fuel 22 [.slice a len cap] = some (d, ps) := hf
  rcases Go.Deep.open_slice Try.underlying22 hf' with ⟨hcs, _⟩ | ⟨A, l, c, m, n, D, Pl, hcs, _, hl, hm, hmm, _, hall⟩
  · simp at hcs
    obtain ⟨rfl, rfl, rfl⟩ := hcs
    exact ⟨[], rfl, Nat.zero_le _, fun j kd hj => by simp at hj⟩
  · simp at hcs
    obtain ⟨rfl, rfl, rfl⟩ := hcs
    simp only [if_true] at hmm
    subst hmm
    rw [show Try.prog.cellsOf 30 = 2 from by kernel_rfl] at hall
    have hall2 : ∀ i', i' < m → ∃ q : Job, W.cells? 0 (A.add (i' * 2)) 2 = some [.int .i64 q.k, .int .i64 q.a] ∧ InI q.k ∧ InI q.a := by
      intro i' hi'
      obtain ⟨cs, hcs, htr⟩ := hall i' hi'
      obtain ⟨s, e1, hb⟩ := job_raw htr
      subst e1
      exact ⟨s, hcs, hb⟩
    obtain ⟨f, hf2⟩ := Go.Deep.choose_lt hall2
    refine ⟨(List.range len).map f, by simp, by simp; unfold maxLen at hm; omega, fun j kd hj => ?_⟩
    have hjl : j < len := by
      rcases Nat.lt_or_ge j len with h1 | h1
      · exact h1
      · rw [List.getElem?_eq_none (by simpa using h1)] at hj; cases hj
    obtain rfl : f j = kd := by simpa [hjl] using hj
    have cell : ∀ k, k < 2 → W.cell? (A.add (j * 2 + k)) = [Value.int .i64 (f j).k, .int .i64 (f j).a][k]? := fun k hk => by
      have := (World.cells?_some (hf2 j (by omega)).1).2.2 k hk
      rwa [Go.Deep.add_add] at this
    obtain ⟨b, off, spot⟩ := A
    have h0 := cell 0 (by decide)
    have h1 := cell 1 (by decide)
    have h00 : W.cell? ((⟨b, off, spot⟩ : Addr).add (0 * 2 + 0)) = some (Value.int .i64 (f 0).k) := by
      have := (World.cells?_some (hf2 0 (by omega)).1).2.2 0 (by decide)
      rwa [Go.Deep.add_add] at this
    have hspot : spot = none := by simpa [Addr.add] using World.cell?_spot h00
    subst hspot
    have plain : ∀ k, (⟨b, off, none⟩ : Addr).add k = ⟨b, off + k, none⟩ := fun k => by unfold Addr.add; split <;> simp_all
    rw [plain] at h0 h1
    exact ⟨(hf2 j (by omega)).2, b, off, rfl, World.block_lt_of_cell? W _ (h0.trans rfl), by simpa using h0, by simpa [Nat.add_assoc] using h1⟩
def awL : List Job := [⟨1, 5⟩, ⟨2, 3⟩, ⟨1, 2⟩]
def awR : List Job := [⟨1, 2⟩, ⟨2, 3⟩]
theorem aw1 : allR awL = awR := by decide +kernel
theorem aw2 : nextR awR = ⟨1, 2⟩ ∧ nextIs awR = true ∧ restR awR = [⟨2, 3⟩] := by decide +kernel
theorem aw3 : nextR [⟨2, 3⟩] = ⟨2, 3⟩ ∧ nextIs [⟨2, 3⟩] = true ∧ restR [⟨2, 3⟩] = [] := by decide +kernel
set_option maxHeartbeats 1000000 in
set_option maxRecDepth 100000 in
theorem awake_any (w : World) : Calls Try.prog 8 #[] w fun e w' => e = .returned (.bool true) ∧ Below w.heap.size w w' := by
  have hal : Below w.heap.size w (w.alloc (.cells #[.int .i64 1, .int .i64 5, .int .i64 2, .int .i64 3, .int .i64 1, .int .i64 2] 30)) := (Below.refl _ _).alloc (Nat.le_refl _) _
  have hrd : RdJ (w.alloc (.cells #[.int .i64 1, .int .i64 5, .int .i64 2, .int .i64 3, .int .i64 1, .int .i64 2] 30)).heap.size (w.alloc (.cells #[.int .i64 1, .int .i64 5, .int .i64 2, .int .i64 3, .int .i64 1, .int .i64 2] 30)) (some ⟨w.heap.size, 0, none⟩) awL := by
    intro j x hj
    match j, hj with
    | 0, hj => simp [awL] at hj; subst hj; exact ⟨⟨by unfold InI; decide, by unfold InI; decide⟩, w.heap.size, 0, rfl, by simp, by simp, by simp⟩
    | 1, hj => simp [awL] at hj; subst hj; exact ⟨⟨by unfold InI; decide, by unfold InI; decide⟩, w.heap.size, 0, rfl, by simp, by simp, by simp⟩
    | 2, hj => simp [awL] at hj; subst hj; exact ⟨⟨by unfold InI; decide, by unfold InI; decide⟩, w.heap.size, 0, rfl, by simp, by simp, by simp⟩
    | j + 3, hj => simp [awL] at hj
  have hnw := newP (some ⟨w.heap.size, 0, none⟩) 3 awL (by decide) _ hrd
  rw [aw1, show awL.length = 3 from rfl] at hnw
  obtain ⟨w0, hw0⟩ : ∃ w0, w.alloc (.cells #[.int .i64 1, .int .i64 5, .int .i64 2, .int .i64 3, .int .i64 1, .int .i64 2] 30) = w0 := ⟨_, rfl⟩
  rw [hw0] at hnw hal
  have hn1 := fun W (h : Newed w0 3 awR W) => nextP h
  have hn2 := fun W (h : Newed w0 3 [⟨2, 3⟩] W) => nextP h
  have hln := fun W (h : Newed w0 3 [] W) => lenP h
  rw [aw2.1, aw2.2.1, aw2.2.2] at hn1
  rw [aw3.1, aw3.2.1, aw3.2.2] at hn2
  rw [show (([] : List Job).length : Int) = 0 from rfl] at hln
  have HN1 := Lib.hid hn1
  have HN2 := Lib.hid hn2
  have HLN := Lib.hid hln
  have HW0 := Lib.hid hw0
  have HAL := Lib.hid hal
  have T1 : True := trivial
  clear hn1 hn2 hln hw0 hal hrd
  simp only at HN1 HN2
  go_enter Try.func8, Try.ntmps8
  go_wp2_with (first
    | (go_at_call 9; rw [HW0.out]; refine hnw.mono ?_; rintro e w1 ⟨rfl, hq⟩; have HQ1 := Lib.hid hq; clear hq)
    | (go_at_call 13; have t1 := T1; clear T1 t1; ((with_reducible refine (HN1.out _ HQ1.out).mono ?_); rintro e w2 ⟨rfl, hq, _⟩); have HQ2 := Lib.hid (hq.below ((Below.refl _ _).alloc (Nat.le_refl _) (.cells #[.int .i64 1, .int .i64 2] 30))); have bx := BxJ.new 30 w2 ⟨1, 2⟩; have BX := Lib.hid bx; clear hq bx)
    | (go_at_call 13; ((with_reducible refine (HN2.out _ HQ2.out).mono ?_); rintro e w3 ⟨rfl, hq, hk⟩); have HQ3 := Lib.hid (hq.below ((Below.refl _ _).alloc (Nat.le_refl _) (.cells #[.int .i64 2, .int .i64 3] 30))); have bx2 := (BxJ.new 30 w3 ⟨2, 3⟩).cells; have bx1 := ((BX.out.keep (by decide) (by decide) hk).same (heap_alloc_old w3 (.cells #[.int .i64 2, .int .i64 3] 30) (BX.out.keep (by decide) (by decide) hk).lt)).cells; obtain ⟨u0, u1, _, _⟩ := bx1; obtain ⟨v0, v1, _, _⟩ := bx2; simp only at u0 u1 v0 v1; clear hq hk)
    | (go_at_call 19; ((with_reducible refine (HLN.out _ HQ3.out).mono ?_); rintro e w4 ⟨rfl, rfl⟩)))
  go_ret
  exact ⟨rfl, HAL.out.trans (HQ3.out.bel.mono HAL.out.size)⟩
end Go.Proofs.Ytaaaefoanjggcaa
