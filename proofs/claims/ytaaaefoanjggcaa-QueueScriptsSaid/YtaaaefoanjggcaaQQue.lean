/-
  THE QUEUE: a job's At, a job that is dropped, the next one.
-/
import Derived.Test.YtaaaefoanjggcaaQRem
namespace Go.Proofs.Ytaaaefoanjggcaa
set_option linter.unusedSimpArgs false
set_option linter.unusedVariables false
open Go.RowKit
/-- A queue of the jobs R, in whatever order. -/
def QG (W : World) (base qb mb n : Nat) (g : Option Nat) (R : List Job) : Prop := ∃ l, Qu W base qb mb n g l ∧ l.Perm R
section
variable {base qb mb n : Nat} {g : Option Nat} {R : List Job} {w W : World}
theorem QG.below (h : QG w base qb mb n g R) (k : Below w.heap.size w W) : QG W base qb mb n g R := by
  obtain ⟨l, ⟨⟨f, a, b⟩, c⟩, d⟩ := h
  exact ⟨l, ⟨⟨f, a, b.below k⟩, c⟩, d⟩
theorem QG.nd (h : QG w base qb mb n g R) : Nd R := by
  obtain ⟨l, ⟨⟨f, a, b⟩, c⟩, d⟩ := h
  exact (nd_of_pi a).perm d
theorem QG.len (h : QG w base qb mb n g R) : R.length ≤ n ∧ n ≤ 1000000 := by
  obtain ⟨l, ⟨⟨f, a, b⟩, c⟩, d⟩ := h
  have := b.len
  rw [← d.length_eq]
  omega
theorem QG.at (h : QG w base qb mb n g R) : base ≤ qb ∧ base ≤ mb ∧ (∀ k, g = some k → base ≤ k) ∧ qb < w.heap.size ∧ mb < w.heap.size ∧ (∀ k, g = some k → k < w.heap.size) := by
  obtain ⟨l, ⟨⟨f, a, v, b⟩, c⟩, d⟩ := h
  exact ⟨b.bq, b.bm, fun k hk => (b.blocks k hk).1, b.cells.2.2.2, b.map.lt, fun k hk => (b.blocks k hk).2⟩
theorem len_any (h : QG w base qb mb n g R) : Calls Try.prog 19 #[.pointer (some ⟨qb, 0, none⟩)] w fun e w' => e = .returned (.int .i64 R.length) ∧ w = w' := by
  obtain ⟨l, ⟨⟨f, a, b⟩, c⟩, d⟩ := h
  rw [← d.length_eq]
  exact qlen_any w b
theorem f_none {f : Int → Option Int} {l : List Job} (hp : PI f l) (p : l.Perm R) {key : Int} (hf : f key = none) : getR R key = none := by
  rw [← getR_perm (nd_of_pi hp) p, getR_none]
  intro y hy e
  obtain ⟨i, hi, rfl⟩ := mem_at hy
  have := hp.is i hi
  rw [e, hf] at this
  cases this
theorem f_some {f : Int → Option Int} {l : List Job} (hp : PI f l) (p : l.Perm R) {key i : Int} (hf : f key = some i) : ∃ m : Nat, i = m ∧ m < l.length ∧ (at' l m).k = key ∧ getR R key = some (at' l m).a := by
  obtain ⟨m, h1, h2, h3⟩ := hp.of key i hf
  refine ⟨m, h1, h2, h3, ?_⟩
  rw [← getR_perm (nd_of_pi hp) p, ← h3]
  exact getR_mem (nd_of_pi hp) (at_mem h2)
set_option maxHeartbeats 1000000 in
theorem at_any (h : QG w base qb mb n g R) (key : Int) (hk : InI key) :
    Calls Try.prog 17 #[.pointer (some ⟨qb, 0, none⟩), .int .i64 key] w fun e w' => e = .returned (.tuple #[.int .i64 ((getR R key).getD 0), .bool (getR R key).isSome]) ∧ Below w.heap.size w w' := by
  obtain ⟨l, ⟨⟨f, hp, v, hq⟩, _⟩, p⟩ := h
  obtain ⟨c0, c1, f0, hqs⟩ := hq.cells
  have hlk := hq.map.look hk w rfl
  cases hf : f key with
  | none =>
    rw [f_none hp p hf]
    rw [hf] at hlk
    simp only [Option.getD_none, Option.isSome_none] at hlk ⊢
    clear hq hp hf p
    go_enter Try.func17, Try.ntmps17
    go_wp2
    go_ret2
    exact ⟨rfl, Below.refl _ _⟩
  | some i =>
    obtain ⟨m, rfl, hm, hkm, hg⟩ := f_some hp p hf
    rw [hg]
    rw [hf] at hlk
    obtain ⟨b, c, rfl, hgb, hc, hmx⟩ := hq.has hm
    obtain ⟨x0, x1⟩ := hq.own.cell (at_some hm)
    simp only [Option.getD_some, Option.isSome_some] at hlk ⊢
    have hl3 : l.length ≤ 1000000 := by have := hq.len; have := hq.n; omega
    generalize l.length = len at *
    generalize at' l m = x at *
    clear hq hp hf p hg
    go_enter Try.func17, Try.ntmps17
    go_wp2
    go_ret2
    exact ⟨rfl, Below.refl _ _⟩
/-- Where the job of a key is gone, if there was one. -/
def DropEnd (w : World) (base qb mb n : Nat) (g : Option Nat) (R : List Job) (w' : World) : Prop := QG w' base qb mb n g R ∧ Fr qb mb g w w'
theorem gone_end {l : List Job} {x : Job} {w' : World} (hn : Nd R) (p : l.Perm R) (hx : x ∈ l) (h : Gone w base qb mb n g l x w') : DropEnd w base qb mb n g (dropR R x.k) w' := by
  obtain ⟨l', hq, hp, hf⟩ := h
  exact ⟨⟨l', hq, out_perm hn p hx hp⟩, hf⟩
set_option maxHeartbeats 1000000 in
theorem drop_any (h : QG w base qb mb n g R) (key : Int) (hk : InI key) :
    Calls Try.prog 15 #[.pointer (some ⟨qb, 0, none⟩), .int .i64 key] w fun e w' => e = .returned (.bool (getR R key).isSome) ∧ DropEnd w base qb mb n g (dropR R key) w' := by
  have hnd := h.nd
  have h0 := h
  obtain ⟨l, ⟨⟨f, hp, v, hq⟩, hok⟩, p⟩ := h
  obtain ⟨c0, c1, f0, hqs⟩ := hq.cells
  have hlk := hq.map.look hk w rfl
  cases hf : f key with
  | none =>
    have hgn := f_none hp p hf
    have hE : DropEnd w base qb mb n g (dropR R key) w := by
      rw [dropR_not (getR_none.1 hgn)]
      exact ⟨h0, Fr.refl _ _ _ _⟩
    rw [hgn]
    rw [hf] at hlk
    simp only [Option.getD_none, Option.isSome_none] at hlk ⊢
    have HE := Lib.hid hE
    clear hq hp hf p h0 hE hok hgn
    go_enter Try.func15, Try.ntmps15
    go_wp2
    go_ret
    exact ⟨rfl, HE.out⟩
  | some i =>
    obtain ⟨m, rfl, hm, hkm, hg⟩ := f_some hp p hf
    have hrm := (qremove_any w ⟨⟨f, hp, v, hq⟩, hok⟩ m hm).mono fun e w' (k : _ ∧ _) => (⟨k.1, hkm ▸ gone_end hnd p (at_mem hm) k.2⟩ : e = .returned (.agg #[.int .i64 (at' l m).k, .int .i64 (at' l m).a]) ∧ DropEnd w base qb mb n g (dropR R key) w')
    rw [hg]
    rw [hf] at hlk
    simp only [Option.getD_some, Option.isSome_some] at hlk ⊢
    generalize at' l m = x at *
    clear hq hp hf p hg h0 hok hm
    go_enter Try.func15, Try.ntmps15
    go_wp2_with (go_at_call 24; refine hrm.mono ?_; rintro e w1 ⟨rfl, he⟩)
    go_ret
    exact ⟨rfl, he⟩
/-- What next returns. -/
def nextR (R : List Job) : Job := if R = [] then ⟨0, 0⟩ else minR R
def nextIs (R : List Job) : Bool := decide (R ≠ [])
def restR (R : List Job) : List Job := if R = [] then [] else dropR R (minR R).k
theorem next_end {w2 : World} (hat : base ≤ qb ∧ base ≤ mb ∧ (∀ k, g = some k → base ≤ k) ∧ qb < w.heap.size ∧ mb < w.heap.size ∧ (∀ k, g = some k → k < w.heap.size)) (x : Job)
    (h : DropEnd (w.alloc (.cells #[.int .i64 0, .int .i64 0] 30)) base qb mb n g R w2) : BxJ 30 w2 w.heap.size ⟨0, 0⟩ ∧ DropEnd w base qb mb n g R ((w2.setCell ⟨w.heap.size, 0, none⟩ (.int .i64 x.k)).setCell ⟨w.heap.size, 1, none⟩ (.int .i64 x.a)) := by
  obtain ⟨hq, hf⟩ := h
  obtain ⟨_, _, _, h1, h2, h3⟩ := hat
  have n1 : w.heap.size ≠ qb := by omega
  have n2 : w.heap.size ≠ mb := by omega
  have n3 : some w.heap.size ≠ g := fun e => by have := h3 _ e.symm; omega
  have hb0 : BxJ 30 (w.alloc (.cells #[.int .i64 0, .int .i64 0] 30)) w.heap.size ⟨0, 0⟩ := BxJ.new 30 w ⟨0, 0⟩
  refine ⟨hb0.same (hf.block _ (by simp) n1 n2 n3), ?_, ?_⟩
  · obtain ⟨l, ⟨⟨f, a, v, b⟩, c⟩, d⟩ := hq
    refine ⟨l, ⟨⟨f, a, v, b.same fun i _ hi => ?_⟩, c⟩, d⟩
    have hne : i ≠ w.heap.size := by
      rcases hi with rfl | rfl | hi
      · omega
      · omega
      · intro e; subst e; exact n3 hi
    rw [heap_setCell_other _ _ _ _ hne, heap_setCell_other _ _ _ _ hne]
  · have f3 := (Fr.of_below (qb := qb) (mb := mb) (g := g) (Below.alloc (Below.refl _ w) (Nat.le_refl _) _)).trans hf
    exact ⟨f3.os, f3.tape, f3.output, by simpa using f3.size, fun i hi a b c => by
      rw [heap_setCell_other _ _ _ _ (show i ≠ w.heap.size by omega), heap_setCell_other _ _ _ _ (show i ≠ w.heap.size by omega)]
      exact f3.block i hi a b c⟩
set_option maxHeartbeats 1000000 in
theorem next_any (h : QG w base qb mb n g R) :
    Calls Try.prog 13 #[.pointer (some ⟨qb, 0, none⟩)] w fun e w' => e = .returned (.tuple #[.agg #[.int .i64 (nextR R).k, .int .i64 (nextR R).a], .bool (nextIs R)]) ∧ DropEnd w base qb mb n g (restR R) w' := by
  have hnd := h.nd
  have hal : Below w.heap.size w (w.alloc (.cells #[.int .i64 0, .int .i64 0] 30)) := (Below.refl _ _).alloc (Nat.le_refl _) _
  have h1 := h.below hal
  have hln := len_any h1
  have hat := h.at
  by_cases hR : R = []
  · have e1 : nextR R = ⟨0, 0⟩ := if_pos hR
    have e2 : nextIs R = false := decide_eq_false (fun h => h hR)
    have e3 : restR R = R := by unfold restR; rw [if_pos hR, hR]
    have e4 : R.length = 0 := by rw [hR]; rfl
    rw [e1, e2, e3]
    rw [e4] at hln
    have HE : Hid (DropEnd w base qb mb n g R (w.alloc (.cells #[.int .i64 0, .int .i64 0] 30))) := ⟨h1, Fr.of_below hal⟩
    have HB := Lib.hid (BxJ.new 30 w ⟨0, 0⟩)
    clear h h1 hal hR e1 e2 e3 e4 hnd hat
    go_enter Try.func13, Try.ntmps13
    go_wp2_with (go_at_call 19; refine hln.mono ?_; rintro e w1 ⟨rfl, rfl⟩)
    refine bodyPost_ret (results_job2 rfl rfl HB.out) rfl ?_
    exact ⟨rfl, HE.out⟩
  · have e1 : nextR R = minR R := if_neg hR
    have e2 : nextIs R = true := decide_eq_true hR
    have e3 : restR R = dropR R (minR R).k := if_neg hR
    obtain ⟨len, e4⟩ : ∃ len, R.length = len + 1 := ⟨R.length - 1, by have := List.length_pos_iff.2 hR; omega⟩
    rw [e1, e2, e3]
    rw [e4] at hln
    have hlen2 := h.len
    rw [e4] at hlen2
    obtain ⟨l, hq, p⟩ := h1
    have hl0 : 0 < l.length := by rw [p.length_eq, e4]; omega
    have htop := minR_top hq.2 p hl0
    have hend := fun w2 h => next_end (n := n) (w2 := w2) (R := dropR R (at' l 0).k) hat (minR R) h
    have hrm := (qremove_any _ hq 0 hl0).mono fun e w' (k : _ ∧ _) => (⟨k.1, gone_end hnd p (at_mem hl0) k.2⟩ : e = .returned (.agg #[.int .i64 (at' l 0).k, .int .i64 (at' l 0).a]) ∧ DropEnd _ base qb mb n g (dropR R (at' l 0).k) w')
    rw [htop] at hrm hend
    generalize minR R = x at *
    generalize dropR R x.k = R' at *
    clear hq p e1 e2 e3 e4 htop hl0 h hnd hR
    go_enter Try.func13, Try.ntmps13
    go_wp2_with (first
      | (go_at_call 19; refine hln.mono ?_; rintro e w1 ⟨rfl, rfl⟩)
      | (go_at_call 24; refine hrm.mono ?_; rintro e w2 ⟨rfl, he⟩; obtain ⟨hb, hd⟩ := hend w2 he; obtain ⟨b0, b1, b2, b3⟩ := hb.cells; have HB := Lib.hid (hb.set x); have HD := Lib.hid hd; clear hb hd he hend))
    refine bodyPost_ret (results_job2 rfl rfl HB.out) rfl ?_
    exact ⟨rfl, HD.out⟩
end
end Go.Proofs.Ytaaaefoanjggcaa
