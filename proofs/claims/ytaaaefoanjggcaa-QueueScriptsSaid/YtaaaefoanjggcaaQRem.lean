/-
  A JOB is taken out of the queue.
-/
import Derived.Test.YtaaaefoanjggcaaQHeap
import Derived.Test.YtaaaefoanjggcaaQSpec
namespace Go.Proofs.Ytaaaefoanjggcaa
set_option linter.unusedSimpArgs false
set_option linter.unusedVariables false
open Go.RowKit
theorem step_delete {ops : Array Oper} {o : Oper} {a : Act} {w : World} {K : Act → World → Prop} {Q : Exit → Act → World → Prop} {E : Prop} (hgd : o.guard = none) (m x : Operand)
    (hop : o.op = Op.call { callee := Callee.builtin Builtin.delete, args := #[m, x], argTypes := #[43, 3] }) (b n : Nat) (f : Int → Option Int) (k : Int) (hm : a.eval m = .map (some b)) (hx : a.eval x = .int .i64 k)
    (hf : MapF w b n f) (hk : InI k) (h : ∀ w', MapF w' b n (updF f k none) → w.mapTurned w' b → K (a.put o.dst (.tuple #[])) w') :
    if Region.wanted o (yielded ops a.tmps) = true then Oper.wp Try.prog o a w K Q else E := by
  have hw : Region.wanted o (yielded ops a.tmps) = true := by simp [Region.wanted, hgd]
  rw [if_pos hw]
  obtain ⟨w', hrun, r1, r2⟩ := hf.drop hk o.type
  unfold Oper.wp
  simp [execOp, hop, resolve, invoke, builtin, hm, hx, hrun, Result.andThen]
  exact h w' r1 r2
theorem run_load_bx {T : TypeId} {W : World} {k : Nat} {x : Job} (h : BxJ T W k x) : W.rangeAt k 0 [.int .i64 x.k, .int .i64 x.a] := by
  obtain ⟨h0, h1, _, _⟩ := h.cells
  intro i u hi
  match i, hi with
  | 0, hi => simp at hi; subst hi; simpa using h0
  | 1, hi => simp at hi; subst hi; simpa using h1
  | i + 2, hi => simp at hi
theorem sizeJob : (Try.prog.info? 30).map (·.size) = some 2 := by kernel_rfl
theorem results_job {fn : Func} {tmps : Array Value} {W : World} {a k : Nat} {x : Job} (hf : fn.results = #[.cell a 30]) (ha : tmps.getD a undef = .pointer (some ⟨k, 0, none⟩)) (h : BxJ 30 W k x) :
    (results fn tmps).run Try.prog W = .ok (.agg #[.int .i64 x.k, .int .i64 x.a]) W := by
  unfold results
  rw [hf]
  have h0 := run_loadVar_mid W k 0 30 [.int .i64 x.k, .int .i64 x.a] _ (run_load_bx h) Try.underlying30 rfl sizeJob
  have ha' : tmps[a]?.getD undef = .pointer (some ⟨k, 0, none⟩) := by simpa using ha
  simp [ha', asAddr, h0, Result.andThen_ok]
theorem results_job2 {fn : Func} {tmps : Array Value} {W : World} {a s k : Nat} {x : Job} (hf : fn.results = #[.cell a 30, .tmp s]) (ha : tmps.getD a undef = .pointer (some ⟨k, 0, none⟩)) (h : BxJ 30 W k x) :
    (results fn tmps).run Try.prog W = .ok (.tuple #[.agg #[.int .i64 x.k, .int .i64 x.a], tmps.getD s undef]) W := by
  unfold results
  rw [hf]
  have h0 := run_loadVar_mid W k 0 30 [.int .i64 x.k, .int .i64 x.a] _ (run_load_bx h) Try.underlying30 rfl sizeJob
  have ha' : tmps[a]?.getD undef = .pointer (some ⟨k, 0, none⟩) := by simpa using ha
  simp [ha', asAddr, h0, Result.andThen_ok]
theorem BxJ.set {T : TypeId} {W : World} {k : Nat} {x : Job} (h : BxJ T W k x) (y : Job) : BxJ T ((W.setCell ⟨k, 0, none⟩ (.int .i64 y.k)).setCell ⟨k, 1, none⟩ (.int .i64 y.a)) k y := by
  unfold BxJ at h ⊢
  rw [heap_setCell_same _ k 1 _ _ _ (heap_setCell_same W k 0 _ _ _ h)]
  rfl
/-- Where a job is gone from the queue. -/
def Gone (w : World) (base qb mb n : Nat) (g : Option Nat) (l : List Job) (x : Job) (w' : World) : Prop := ∃ l', Qu w' base qb mb n g l' ∧ (l' ++ [x]).Perm l ∧ Fr qb mb g w w'
theorem gone_of {w w1 w2 : World} {base qb mb n : Nat} {g : Option Nat} {l l' : List Job} {x : Job} {f' : Int → Option Int} (hqs : qb < w.heap.size) (hms : mb < w.heap.size) (hgs : ∀ k, g = some k → k < w.heap.size)
    (hpi : PI f' (l' ++ [x])) (hqp : QP w1 base qb mb g n f' l') (hok : Ok l' l'.length) (hperm : (l' ++ [x]).Perm l) (hfr : Fr qb mb g (w.alloc (.cells #[.int .i64 0, .int .i64 0] 30)) w1)
    (hm : MapF w2 mb n (updF f' x.k none)) (ht : ((w1.alloc (.cells #[.int .i64 x.k, .int .i64 x.a] 54)).drew).mapTurned w2 mb) :
    BxJ 54 w2 w1.heap.size x ∧ BxJ 30 w2 w.heap.size ⟨0, 0⟩ ∧ Gone w base qb mb n g l x ((w2.setCell ⟨w.heap.size, 0, none⟩ (.int .i64 x.k)).setCell ⟨w.heap.size, 1, none⟩ (.int .i64 x.a)) := by
  have hb0 : BxJ 30 (w.alloc (.cells #[.int .i64 0, .int .i64 0] 30)) w.heap.size ⟨0, 0⟩ := BxJ.new 30 w ⟨0, 0⟩
  have n1 : w.heap.size ≠ qb := by omega
  have n2 : w.heap.size ≠ mb := by omega
  have n3 : some w.heap.size ≠ g := fun e => by have := hgs _ e.symm; omega
  have hb1 : BxJ 30 w1 w.heap.size ⟨0, 0⟩ := hb0.same (hfr.block _ (by simp) n1 n2 n3)
  have hsz := hfr.size
  rw [World.size_alloc] at hsz
  have hb2 : BxJ 30 (w1.alloc (.cells #[.int .i64 x.k, .int .i64 x.a] 54)).drew w.heap.size ⟨0, 0⟩ := hb1.same (heap_alloc_old w1 _ (by omega))
  have hj2 : BxJ 54 (w1.alloc (.cells #[.int .i64 x.k, .int .i64 x.a] 54)).drew w1.heap.size x := BxJ.new 54 w1 x
  have hgr := ht.grown
  have hb3 : BxJ 30 w2 w.heap.size ⟨0, 0⟩ := hb2.same (hgr.block _ hb2.lt (fun e => n2 (by injection e)))
  have hmw1 : mb < w1.heap.size := by omega
  have hj3 : BxJ 54 w2 w1.heap.size x := hj2.same (hgr.block _ hj2.lt (fun e => by injection e with e; omega))
  refine ⟨hj3, hb3, l', ?_, hperm, ?_⟩
  · obtain ⟨v, hqs1⟩ := hqp
    have q2 := hqs1.below (((Below.refl w1.heap.size w1).alloc (Nat.le_refl _) (.cells #[.int .i64 x.k, .int .i64 x.a] 54)).drew)
    have q3 := q2.setMap ht (Nat.le_refl _) q2.n hm
    have q4 := q3.same (W' := (w2.setCell ⟨w.heap.size, 0, none⟩ (.int .i64 x.k)).setCell ⟨w.heap.size, 1, none⟩ (.int .i64 x.a)) fun i _ hi => by
      have hne : i ≠ w.heap.size := by
        rcases hi with rfl | rfl | hi
        · omega
        · omega
        · intro e; subst e; exact n3 hi
      rw [heap_setCell_other _ _ _ _ hne, heap_setCell_other _ _ _ _ hne]
    exact ⟨⟨_, hpi.gone, _, q4⟩, hok⟩
  · have f1 : Fr qb mb g w w1 := (Fr.of_below (Below.alloc (Below.refl _ w) (Nat.le_refl _) _)).trans hfr
    have f2 : Fr qb mb g w1 w2 := (Fr.of_below (((Below.refl w1.heap.size w1).alloc (Nat.le_refl _) (.cells #[.int .i64 x.k, .int .i64 x.a] 54)).drew)).trans (Fr.turned g ht)
    have f3 := f1.trans f2
    exact ⟨f3.os, f3.tape, f3.output, by simpa using f3.size, fun i hi a b c => by
      rw [heap_setCell_other _ _ _ _ (show i ≠ w.heap.size by omega), heap_setCell_other _ _ _ _ (show i ≠ w.heap.size by omega)]
      exact f3.block i hi a b c⟩
set_option maxHeartbeats 2000000 in
theorem qremove_any {base qb mb n : Nat} {g : Option Nat} {l : List Job} (w : World) (h : Qu w base qb mb n g l) (i : Nat) (hi : i < l.length) :
    Calls Try.prog 24 #[.pointer (some ⟨qb, 0, none⟩), .int .i64 i] w fun e w' => e = .returned (.agg #[.int .i64 (at' l i).k, .int .i64 (at' l i).a]) ∧ Gone w base qb mb n g l (at' l i) w' := by
  have hal : Below w.heap.size w (w.alloc (.cells #[.int .i64 0, .int .i64 0] 30)) := (Below.refl _ _).alloc (Nat.le_refl _) _
  have h1 : Qu (w.alloc (.cells #[.int .i64 0, .int .i64 0] 30)) base qb mb n g l := by
    obtain ⟨⟨f, a, b⟩, c⟩ := h
    exact ⟨⟨f, a, b.below hal⟩, c⟩
  have hrm := remove_any _ h1 i hi
  obtain ⟨x, hx⟩ : ∃ x, at' l i = x := ⟨_, rfl⟩
  rw [hx] at hrm ⊢
  have hxk : InI x.k := by
    obtain ⟨⟨f, a, v, b⟩, c⟩ := h
    rw [← hx]
    exact b.keys _ (at_mem hi)
  obtain ⟨hqs, hms, hgs⟩ : qb < w.heap.size ∧ mb < w.heap.size ∧ ∀ k, g = some k → k < w.heap.size := by
    obtain ⟨⟨f, a, v, b⟩, c⟩ := h
    exact ⟨b.cells.2.2.2, b.map.lt, fun k hk => (b.blocks k hk).2⟩
  have HX := Lib.hid hxk
  have HMS := Lib.hid hms
  have HGS := Lib.hid hgs
  clear h h1 hx hi hxk hal hms hgs
  have hT := assertJ (.agg #[.int .i64 x.k, .int .i64 x.a])
  go_enter Try.func24, Try.ntmps24
  go_wp2_with (go_at_call 29; refine hrm.mono ?_; rintro e w1 ⟨rfl, l', f', hpi, hqp, hok, hperm, hfr⟩; have hgone := fun w2 => gone_of (w2 := w2) hqs HMS.out HGS.out hpi hqp hok hperm hfr; have HGN := Lib.hid hgone; have HSZ := Lib.hid hfr.size; have HQP := Lib.hid hqp; clear hpi hok hperm hfr hgone hqp)
  obtain ⟨v, hqs1⟩ := HQP.out
  obtain ⟨c0, c1, f0, hq⟩ := hqs1.cells
  have HM : Hid (MapF ((w1.alloc (.cells #[.int .i64 x.k, .int .i64 x.a] 54)).drew) mb n f') := (hqs1.below (((Below.refl w1.heap.size w1).alloc (Nat.le_refl _) (.cells #[.int .i64 x.k, .int .i64 x.a] 54)).drew)).map
  clear hqs1 c0 f0 HQP
  go_region_law (refine step_delete rfl (.tmp 17) (.tmp 19) rfl mb n f' x.k rfl rfl HM.out HX.out ?_; intro w2 hm2 ht2; obtain ⟨hj, hb, hg⟩ := HGN.out w2 hm2 ht2; obtain ⟨j0, j1, _, _⟩ := hj.cells; obtain ⟨b0, b1, b2, b3⟩ := hb.cells; have HB := Lib.hid (hb.set x); have HG := Lib.hid hg; clear hj hb hg hm2 ht2)
  all_goals
    go_wp2
    refine bodyPost_ret (results_job rfl rfl HB.out) rfl ?_
    exact ⟨rfl, HG.out⟩
end Go.Proofs.Ytaaaefoanjggcaa
