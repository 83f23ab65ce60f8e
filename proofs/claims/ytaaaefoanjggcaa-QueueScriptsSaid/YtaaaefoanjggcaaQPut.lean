/-
  A JOB is put into the queue.
-/
import Derived.Test.YtaaaefoanjggcaaQQue
namespace Go.Proofs.Ytaaaefoanjggcaa
set_option linter.unusedSimpArgs false
set_option linter.unusedVariables false
open Go.RowKit
theorem region_tail {P : Program} {id : Nat} {Q : Exit → Act → World → Prop} {a : Act} {w : World} {l : List Oper} (n : Nat) (hm : P.follows .mixedOrders = true) (hB : Region.lexTailB .any l.toArray n = true) (W : World) (hW : w.drew = W)
    (h : wpStill P l.toArray W (fun a' => wpList P l.toArray Q (l.drop n) a' W) (l.take n) a) : (Code.region id l.toArray true).wp P Q a w := by
  subst hW
  exact wp_region_still_tail n hm hB h
def PutEnd (w : World) (base qb mb n : Nat) (g : Option Nat) (R : List Job) (w' : World) : Prop := ∃ g', Nx w g g' ∧ QG w' base qb mb n g' R ∧ Fr qb mb g w w'
section
variable {base qb mb n : Nat} {g : Option Nat} {R : List Job} {w W : World}
theorem put_end {w1 w2 : World} {l : List Job} (hf : Fr qb mb g w w1) (h : Put1 w1 base qb mb n g l w2) (p : l.Perm R) : PutEnd w base qb mb n g R w2 := by
  obtain ⟨g', l', h1, h2, h3, h4⟩ := h
  refine ⟨g', ?_, ⟨l', h2, h3.trans p⟩, hf.trans h4⟩
  rcases h1 with h1 | h1
  · exact .inl h1
  · exact .inr fun k hk => Nat.le_trans hf.size (h1 k hk)
theorem putR_none {x : Job} (h : getR R x.k = none) : putR R x = R ++ [x] ∧ newsR R x = true := by
  unfold putR newsR
  rw [h]
  exact ⟨rfl, rfl⟩
theorem putR_less {x : Job} {a : Int} (h : getR R x.k = some a) (hl : x.a < a) : putR R x = repR R x ∧ newsR R x = true := by
  unfold putR newsR
  rw [h]
  exact ⟨if_pos hl, decide_eq_true hl⟩
theorem putR_stay {x : Job} {a : Int} (h : getR R x.k = some a) (hl : ¬ x.a < a) : putR R x = R ∧ newsR R x = false := by
  unfold putR newsR
  rw [h]
  exact ⟨if_neg hl, decide_eq_false hl⟩
set_option maxHeartbeats 4000000 in
set_option maxRecDepth 100000 in
theorem put_new {l : List Job} {f : Int → Option Int} {v : Value} (hp : PI f l) (hq : QS w base qb mb g n f l v) (hok : Ok l l.length) (x : Job) (hx : InI x.k) (hn : n < 1000000) (hf : f x.k = none) (p : l.Perm R) :
    Calls Try.prog 11 #[.pointer (some ⟨qb, 0, none⟩), .agg #[.int .i64 x.k, .int .i64 x.a]] w fun e w' => e = .returned (.bool true) ∧ PutEnd w base qb mb (n + 1) g (R ++ [x]) w' := by
  have hal : Below w.heap.size w ((w.alloc (.cells #[.int .i64 x.k, .int .i64 x.a] 30)).drew) := ((Below.refl _ _).alloc (Nat.le_refl _) _).drew
  have hbx : BxJ 30 ((w.alloc (.cells #[.int .i64 x.k, .int .i64 x.a] 30)).drew) w.heap.size x := BxJ.new 30 w x
  have q1 := hq.below hal
  obtain ⟨c0, c1, f0, hqs⟩ := hq.cells
  have hlk := q1.map.look hx _ rfl
  rw [hf] at hlk
  simp only [Option.getD_none, Option.isSome_none] at hlk
  obtain ⟨W1, hW1⟩ : ∃ W1, (w.alloc (.cells #[.int .i64 x.k, .int .i64 x.a] 30)).drew = W1 := ⟨_, rfl⟩
  have hmx : n < maxLen := by unfold maxLen; omega
  have hl1 : l.length ≤ n := hq.len
  have q1d : QS W1.drew base qb mb g n f l v := by rw [← hW1]; exact q1.same fun _ _ _ => rfl
  obtain ⟨W2, hMU, m2, t2⟩ := q1d.map.put hmx hx (x := (l.length : Int)) (by unfold InI; omega)
  have q2 := q1d.setMap t2 (by omega : n ≤ n + 1) (by omega) m2
  have q2d : QS W2.drew base qb mb g (n + 1) (updF f x.k (some (l.length : Int))) l v := q2.same fun _ _ _ => rfl
  have hpush := push_any W2.drew ⟨v, q2d⟩ hok x hx (hp.come hf) (by omega)
  have fr2 : Fr qb mb g w W2.drew := by
    have := (Fr.of_below (qb := qb) (mb := mb) (g := g) hal)
    rw [hW1] at this
    exact ((this.trans (Fr.refl qb mb g W1).drew).trans (Fr.turned g t2)).drew
  have HEND := Lib.hid fun w2 (h : Put1 W2.drew base qb mb (n + 1) g (l ++ [x]) w2) => put_end (R := R ++ [x]) fr2 h (p.append_right _)
  have hln := (hlen_any W1.drew ⟨v, q1d⟩).mono fun e w' (h : e = .returned (.int .i64 l.length) ∧ W1.drew = w') => (⟨h.1, h.2.symm⟩ : e = .returned (.int .i64 l.length) ∧ w' = W1.drew)
  have hqlen := (qlen_any W1.drew ⟨v, q1d⟩).mono fun e w' (h : e = .returned (.int .i64 l.length) ∧ W1.drew = w') => (⟨h.1, h.2.symm⟩ : e = .returned (.int .i64 l.length) ∧ w' = W1.drew)
  have hbx1 : BxJ 30 W1 w.heap.size x := by rw [← hW1]; exact hbx
  have hw1s : w.heap.size < W1.heap.size := hbx1.lt
  have hbx2 : BxJ 30 W2.drew w.heap.size x := hbx1.same (t2.grown.block _ hw1s (fun e => by have := hq.map.lt; injection e; omega))
  have hbx3 : BxJ 30 W1.drew w.heap.size x := hbx1
  have e2 := q2d.cells
  have e1 := q1d.cells
  obtain ⟨V1, hV1⟩ : ∃ V, W1.drew = V := ⟨_, rfl⟩
  obtain ⟨V2, hV2⟩ : ∃ V, W2.drew = V := ⟨_, rfl⟩
  rw [hV1] at hMU hqlen hbx3 e1
  rw [hV2] at hpush HEND hbx2 e2
  obtain ⟨b0, b1, _, _⟩ := hbx3.cells
  obtain ⟨a0, a1, _, _⟩ := hbx2.cells
  obtain ⟨d0, d1, _, _⟩ := e1
  obtain ⟨y0, y1, _, _⟩ := e2
  have HW1 := Lib.hid hW1
  have HV1 := Lib.hid hV1
  have HV2 := Lib.hid hV2
  generalize l.length = len at *
  clear hal hbx q1 hq hp hok hf p hl1 hmx hn m2 t2 q2 q2d fr2 hln hbx1 hbx2 hbx3 q1d hW1 hV1 hV2 hw1s
  go_enter Try.func11, Try.ntmps11
  go_wp2
  go_region
  rw [HW1.out]
  go_wp2
  refine region_tail 9 (by kernel_rfl) (by kernel_rfl) V1 HV1.out ?_
  simp only [List.take_succ_cons, List.take_zero, List.drop_succ_cons, List.drop_zero]
  repeat (first | still_step | still_call hqlen)
  refine wpStill_nil ?_
  go_wp2
  refine region_tail 6 (by kernel_rfl) (by kernel_rfl) V2 HV2.out ?_
  simp only [List.take_succ_cons, List.take_zero, List.drop_succ_cons, List.drop_zero]
  repeat still_step
  refine wpStill_nil ?_
  go_wp2_with (go_at_call 20; refine hpush.mono ?_; rintro e w3 ⟨rfl, he⟩; have HE := Lib.hid (HEND.out _ he); clear he)
  go_ret
  exact ⟨rfl, HE.out⟩
set_option maxHeartbeats 4000000 in
set_option maxRecDepth 100000 in
theorem put_stay {l : List Job} {f : Int → Option Int} {v : Value} {i : Nat} (hq : QS w base qb mb g n f l v) (x : Job) (hx : InI x.k) (hf : f x.k = some (i : Int)) (hi : i < l.length) (hk : (at' l i).k = x.k) (hl : ¬ x.a < (at' l i).a) :
    Calls Try.prog 11 #[.pointer (some ⟨qb, 0, none⟩), .agg #[.int .i64 x.k, .int .i64 x.a]] w fun e w' => e = .returned (.bool false) ∧ Below w.heap.size w w' := by
  have hal : Below w.heap.size w ((w.alloc (.cells #[.int .i64 x.k, .int .i64 x.a] 30)).drew) := ((Below.refl _ _).alloc (Nat.le_refl _) _).drew
  have hbx : BxJ 30 ((w.alloc (.cells #[.int .i64 x.k, .int .i64 x.a] 30)).drew).drew w.heap.size x := BxJ.new 30 w x
  have q1 := hq.below hal
  obtain ⟨c0, c1, f0, hqs⟩ := hq.cells
  have hlk := q1.map.look hx _ rfl
  rw [hf] at hlk
  simp only [Option.getD_some, Option.isSome_some] at hlk
  have hls := less_any x (at' l i)
  have hnl : decide (lessJ x (at' l i)) = false := decide_eq_false (by unfold lessJ; omega)
  rw [hnl] at hls
  obtain ⟨W1, hW1⟩ : ∃ W1, (w.alloc (.cells #[.int .i64 x.k, .int .i64 x.a] 30)).drew = W1 := ⟨_, rfl⟩
  rw [hW1] at hbx hal
  have q1d : QS W1.drew base qb mb g n f l v := by rw [← hW1]; exact q1.same fun _ _ _ => rfl
  obtain ⟨b, c, rfl, hgb, hc, hmx⟩ := q1d.has hi
  obtain ⟨x0, x1⟩ := q1d.own.cell (at_some hi)
  have e1 := q1d.cells
  have hln : l.length ≤ 1000000 := by have := hq.len; have := hq.n; omega
  obtain ⟨V1, hV1⟩ : ∃ V, W1.drew = V := ⟨_, rfl⟩
  have hV := hal.drew
  rw [hV1] at hbx x0 x1 e1 hV
  obtain ⟨b0, b1, _, _⟩ := hbx.cells
  obtain ⟨d0, d1, _, _⟩ := e1
  have HW1 := Lib.hid hW1
  have HV1 := Lib.hid hV1
  have HV := Lib.hid hV
  generalize at' l i = y at *
  generalize l.length = len at *
  clear hal hbx q1 hq hf hl hk hnl q1d hW1 hV1 hV
  go_enter Try.func11, Try.ntmps11
  go_wp2
  go_region
  rw [HW1.out]
  go_wp2
  refine region_tail 9 (by kernel_rfl) (by kernel_rfl) V1 HV1.out ?_
  simp only [List.take_succ_cons, List.take_zero, List.drop_succ_cons, List.drop_zero]
  repeat still_step
  refine wpStill_nil ?_
  go_wp2_with (go_at_call 21; refine (hls _).mono ?_; rintro e w3 ⟨rfl, he⟩; have HE := Lib.hid (below2 HV.out he); clear he)
  go_ret
  exact ⟨rfl, HE.out⟩
end
end Go.Proofs.Ytaaaefoanjggcaa
