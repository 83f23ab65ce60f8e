/-
  THE DOCUMENT's QUEUE: a job is put.
-/
import Derived.Test.YtaaaefoanjggcaaQRef
namespace Go.Proofs.Ytaaaefoanjggcaa
set_option linter.unusedSimpArgs false
set_option linter.unusedVariables false
open Go.RowKit
theorem infoA : (Try.prog.info? 30).map (fun i => (i.zero, i.size, i.bytes)) = some (some (.agg #[.int .i64 0, .int .i64 0]), 2, 16) := by kernel_rfl
theorem step_append_own {P : Program} {ops : Array Oper} {o : Oper} {a : Act} {w : World} {K : Act → World → Prop} {Q : Exit → Act → World → Prop} {E : Prop} (hgd : o.guard = none) (s x : Operand) (t : TypeId)
    (ho : o.op = .call { callee := .builtin .append, args := #[s, x], argTypes := #[t, t] })
    (base : Nat) (e : TypeId) (i : TypeInfo) (z : Value) (size bytes : Nat) (ht : P.underlying t = some (.slice e)) (hi : P.info? e = some i) (hz : i.zero = some z)
    (hsize : i.size = size) (hby : i.bytes = bytes) (hzs : z.cells.size = size) (hsz : 0 < size)
    (v : Value) (n : Nat) (xs : List Value) (hs : a.eval s = v) (hown : w.ownsRow base e size v n xs)
    (ad : Addr) (m c : Nat) (news : List Value) (hx : a.eval x = .slice (some ad) m c) (hl : news.length = m * size) (hnews : ∀ j u, news[j]? = some u → w.cell? (ad.add j) = some u) (h1 : ∀ u ∈ news, u.oneCell' = true)
    (h63 : n + m ≤ maxLen) (hbytes : (n + m) * bytes ≤ 140737488355328) (hbase : base ≤ w.heap.size)
    (h : ∀ v' w', w'.ownsRow base e size v' (n + m) (xs ++ news) → w.grownBy w' v.ownBlock → K (a.put o.dst v') w') :
    if Region.wanted o (yielded ops a.tmps) = true then Oper.wp P o a w K Q else E := by
  have hw : Region.wanted o (yielded ops a.tmps) = true := by simp [Region.wanted, hgd]
  rw [if_pos hw]
  exact wp_append_own w s x t ho base e i z size bytes ht hi hz hsize hby hzs hsz v n xs hs hown ad m c news hx hl hnews h1 h63 hbytes hbase (fun v' w' a b _ => h v' w' a b)
theorem step_append_none {P : Program} {ops : Array Oper} {o : Oper} {a : Act} {w : World} {K : Act → World → Prop} {Q : Exit → Act → World → Prop} {E : Prop} (hgd : o.guard = none) (s x : Operand) (t : TypeId)
    (ho : o.op = .call { callee := .builtin .append, args := #[s, x], argTypes := #[t, t] })
    (base : Nat) (e : TypeId) (i : TypeInfo) (size : Nat) (ht : P.underlying t = some (.slice e)) (hi : P.info? e = some i)
    (v : Value) (n : Nat) (xs : List Value) (hs : a.eval s = v) (hown : w.ownsRow base e size v n xs) (hx : a.eval x = .slice none 0 0)
    (h : K (a.put o.dst v) w) :
    if Region.wanted o (yielded ops a.tmps) = true then Oper.wp P o a w K Q else E := by
  have hw : Region.wanted o (yielded ops a.tmps) = true := by simp [Region.wanted, hgd]
  rw [if_pos hw]
  have hrun := run_append_owned_none (P := P) (w := w) base t o.type e i size ht hi v n xs hown
  unfold Oper.wp
  simp [execOp, ho, resolve, invoke, builtin, hs, hx, hrun, Result.andThen]
  exact h
theorem OwnJ.empty (T : TypeId) (W : World) {base : Nat} (hb : base ≤ W.heap.size) : OwnJ T (W.alloc (.cells #[] T)) base (.slice (some ⟨W.heap.size, 0, none⟩) 0 0) [] :=
  ⟨rfl, .inr ⟨W.heap.size, 0, #[], rfl, hb, heap_alloc_new W _, Nat.le_refl _, by unfold maxLen; omega, rfl, rfl⟩⟩
theorem OwnJ.below {T : TypeId} {W W' : World} {base : Nat} {v : Value} {l : List Job} (h : OwnJ T W base v l) (k : Below W.heap.size W W') : OwnJ T W' base v l := h.same fun g hg => k.block g (World.ownsRow.lt h g hg).2
theorem OwnJ.join {T : TypeId} {W : World} {base : Nat} {v : Value} {l m : List Job} {k : Nat} (hk : k = m.length) (h : W.ownsRow base T 2 v (l.length + k) (rowJ l ++ rowJ m)) : OwnJ T W base v (l ++ m) := by
  subst hk
  unfold OwnJ
  rw [rowJ_append, List.length_append]
  exact h
/-- What a part of a row reads. -/
theorem OwnJ.part {T : TypeId} {W : World} {base g n cap : Nat} {l : List Job} (h : OwnJ T W base (.slice (some ⟨g, 0, none⟩) n cap) l) (k : Nat) : ∀ j u, (rowJ (l.drop k))[j]? = some u → W.cell? ((⟨g, k * 2, none⟩ : Addr).add j) = some u := by
  intro j u hu
  rw [rowJ_drop, List.getElem?_drop] at hu
  have := World.ownsRow.cells h (g := g) rfl _ _ hu
  have h1 : (⟨g, 0, none⟩ : Addr).add (k * 2 + j) = ⟨g, k * 2 + j, none⟩ := by unfold Addr.add; split <;> simp_all
  have h2 : (⟨g, k * 2, none⟩ : Addr).add j = ⟨g, k * 2 + j, none⟩ := by unfold Addr.add; split <;> simp_all
  rw [h1] at this
  rw [h2]
  exact this
theorem OwnJ.firsts {T : TypeId} {W : World} {base g n cap : Nat} {l : List Job} (h : OwnJ T W base (.slice (some ⟨g, 0, none⟩) n cap) l) (k : Nat) : ∀ j u, (rowJ (l.take k))[j]? = some u → W.cell? ((⟨g, 0, none⟩ : Addr).add j) = some u := by
  intro j u hu
  rw [rowJ_take, List.getElem?_take] at hu
  split at hu
  · exact World.ownsRow.cells h (g := g) rfl _ _ hu
  · cases hu
/-- The end of what turns the document's queue. -/
def REnd (ts : List TypeId) (w : World) (base rb : Nat) (R : List Job) (W : World) : Prop := RefP W base rb R ∧ Below base w W ∧ KeepO ts w W
section
variable {base rb : Nat} {R : List Job} {w : World}
theorem RefP.stay {ts : List TypeId} {W : World} (h : RefP w base rb R) (k : Below w.heap.size w W) : REnd ts w base rb R W := by
  have hb : base ≤ w.heap.size := by obtain ⟨v, h⟩ := h; exact h.base
  exact ⟨h.below k, k.mono hb, KeepO.below k⟩
/-- A new row is laid in. -/
theorem RQ.setRow {v v' : Value} {R' : List Job} {W : World} {B : Nat} (h : RQ w base rb R v) (k : Below w.heap.size w W) (hB : w.heap.size ≤ B) (ow : OwnJ 30 W B v' R') (hn : Nd R') (hl : R'.length ≤ 1000) (hk : ∀ y ∈ R', InI y.k) : REnd [41] w base rb R' (W.setCell ⟨rb, 0, none⟩ v') := by
  have h2 := h.below k
  have hbb := h.base
  refine ⟨⟨v', heap_setCell_same W rb 0 _ _ v' h2.box, ?_, h.le, hn, hl, by have := k.size; simp; omega, hk⟩, (k.mono hbb).setCell (p := ⟨rb, 0, none⟩) h.le _, (KeepO.below k).trans (KeepO.setCell h2.box (by simp) _)⟩
  refine (ow.mono (by omega)).same fun g hg => heap_setCell_other _ _ _ _ fun e => ?_
  have e : g = rb := e
  have := (World.ownsRow.lt ow g hg).1
  have := h.cells.2.2
  omega
set_option maxHeartbeats 4000000 in
set_option maxRecDepth 100000 in
theorem rput_new (h : RefP w base rb R) (x : Job) (hx : InI x.k) (hg : getR R x.k = none) (hl : R.length < 1000) :
    Calls Try.prog 12 #[.pointer (some ⟨rb, 0, none⟩), .agg #[.int .i64 x.k, .int .i64 x.a]] w fun e w' => e = .returned (.bool true) ∧ REnd [41] w base rb (R ++ [x]) w' := by
  have hal : Below w.heap.size w (w.alloc (.cells #[.int .i64 x.k, .int .i64 x.a] 30)) := (Below.refl _ _).alloc (Nat.le_refl _) _
  have hpl := rplace_any _ (h.below hal) x.k
  rw [plcV_none hg] at hpl
  have hbx := BxJ.new 30 w x
  obtain ⟨v, h⟩ := h
  have hnd : Nd (R ++ [x]) := by
    have := h.nd
    unfold Nd at this ⊢
    rw [List.pairwise_append]
    refine ⟨this, List.pairwise_singleton _ _, fun y hy z hz => ?_⟩
    rw [List.mem_singleton.1 hz]
    exact getR_none.1 hg y hy
  have hky : ∀ y ∈ R ++ [x], InI y.k := fun y hy => by
    rcases List.mem_append.1 hy with hy | hy
    · exact h.keys y hy
    · rw [List.mem_singleton.1 hy]; exact hx
  obtain ⟨a, c, hv⟩ := h.own.shape
  have hfin : ∀ (W : World) (v' : Value), Below w.heap.size w W → OwnJ 30 W w.heap.size v' (R ++ [x]) → REnd [41] w base rb (R ++ [x]) (W.setCell ⟨rb, 0, none⟩ v') := fun W v' hW ow => h.setRow hW (Nat.le_refl _) ow hnd (by simp; omega) hky
  have hcl : ∀ W, Below w.heap.size w W → W.cell? ⟨rb, 0, none⟩ = some (.slice a R.length c) ∧ W.frozen? ⟨rb, 0, none⟩ = false := fun W hW => by rw [← hv]; exact ⟨(h.below hW).cells.1, (h.below hW).cells.2.1⟩
  have hnil : a = none → R = [] ∧ c = 0 := fun e => by
    rcases h.own.form with ⟨e1, e2⟩ | ⟨g, cap, e1, _⟩
    · rw [hv] at e1; injection e1 with _ _ e3; exact ⟨e2, e3⟩
    · rw [hv] at e1; injection e1 with e3; rw [e] at e3; cases e3
  have hsome : ∀ y, a = some y → ∃ g, y = ⟨g, 0, none⟩ ∧ ∀ W, Below w.heap.size w W → ∀ j u, (rowJ R)[j]? = some u → W.cell? ((⟨g, 0, none⟩ : Addr).add j) = some u := fun y e => by
    rcases h.own.form with ⟨e1, e2⟩ | ⟨g, cap, e1, _, _, e2, _⟩
    · rw [hv, e] at e1; injection e1 with e3; cases e3
    · rw [hv, e] at e1
      injection e1 with e3 e4 e5
      injection e3 with e3
      refine ⟨g, e3, fun W hW j u hu => ?_⟩
      have ho := (h.below hW).own
      rw [hv, e, e3] at ho
      exact World.ownsRow.cells ho (g := g) rfl _ _ hu
  obtain ⟨i0, hi0, hz0, hz1, hz2⟩ := info_parts infoA
  have hrl := rowJ_length R
  obtain ⟨len, hlen⟩ : ∃ len, R.length = len := ⟨_, rfl⟩
  rw [hlen] at hcl hl hrl
  have HL := Lib.hid hlen
  have HFIN := Lib.hid hfin
  have HCL := Lib.hid hcl
  have HN := Lib.hid hnil
  have HS := Lib.hid hsome
  have HAL := Lib.hid hal
  have HRL := Lib.hid hrl
  have hrbw := h.cells.2.2
  clear h hv hfin hcl hnil hsome hnd hky hal hg hlen hrl
  go_enter Try.func12, Try.ntmps12
  go_wp2_with (go_at_call 23; refine hpl.mono ?_; rintro e w1 ⟨rfl, rfl⟩)
  have HBXK : Hid (∀ W, Below (w.alloc (.cells #[.int .i64 x.k, .int .i64 x.a] 30)).heap.size (w.alloc (.cells #[.int .i64 x.k, .int .i64 x.a] 30)) W → W.cell? ⟨w.heap.size, 0, none⟩ = some (.int .i64 x.k) ∧ W.cell? ⟨w.heap.size, 1, none⟩ = some (.int .i64 x.a)) := fun W hW => by
    have := (hbx.same (hW.block _ hbx.lt)).cells
    exact ⟨this.1, this.2.1⟩
  have hw2s : w.heap.size < (w.alloc (.cells #[.int .i64 x.k, .int .i64 x.a] 30)).heap.size := hbx.lt
  generalize w.alloc (.cells #[.int .i64 x.k, .int .i64 x.a] 30) = w2 at *
  have hsA : (w2.alloc (.cells #[] 30)).heap.size = w2.heap.size + 1 := World.size_alloc _ _
  have hsB : (w2.alloc (.cells #[.int .i64 x.k, .int .i64 x.a] 30)).heap.size = w2.heap.size + 1 := World.size_alloc _ _
  have hbA : Below w2.heap.size w2 ((w2.alloc (.cells #[] 30)).drew) := ((Below.refl _ w2).alloc (Nat.le_refl _) _).drew
  have hbB : Below w2.heap.size w2 (((w2.alloc (.cells #[] 30)).alloc (.cells #[.int .i64 x.k, .int .i64 x.a] 30)).drew) := (((Below.refl _ w2).alloc (Nat.le_refl _) _).alloc (by rw [hsA]; omega) _).drew
  have hbC : Below w2.heap.size w2 (((w2.alloc (.cells #[.int .i64 x.k, .int .i64 x.a] 30)).alloc (.cells #[] 30)).drew) := (((Below.refl _ w2).alloc (Nat.le_refl _) _).alloc (by rw [hsB]; omega) _).drew
  have HEA : Hid (OwnJ 30 ((w2.alloc (.cells #[] 30)).drew) w2.heap.size (.slice (some ⟨w2.heap.size, 0, none⟩) 0 0) []) := (OwnJ.empty 30 w2 (Nat.le_refl _)).same fun _ _ => rfl
  have HEB : Hid (OwnJ 30 (((w2.alloc (.cells #[] 30)).alloc (.cells #[.int .i64 x.k, .int .i64 x.a] 30)).drew) w2.heap.size (.slice (some ⟨w2.heap.size, 0, none⟩) 0 0) []) := ((OwnJ.empty 30 w2 (Nat.le_refl _)).below ((Below.refl _ _).alloc (Nat.le_refl _) (.cells #[.int .i64 x.k, .int .i64 x.a] 30))).same fun _ _ => rfl
  have HEC : Hid (OwnJ 30 (((w2.alloc (.cells #[.int .i64 x.k, .int .i64 x.a] 30)).alloc (.cells #[] 30)).drew) w2.heap.size (.slice (some ⟨w2.heap.size + 1, 0, none⟩) 0 0) []) := by
    have := OwnJ.empty 30 (w2.alloc (.cells #[.int .i64 x.k, .int .i64 x.a] 30)) (base := w2.heap.size) (by rw [hsB]; omega)
    rw [hsB] at this
    exact this.same fun _ _ => rfl
  have HJB : Hid (BxJ 30 (((w2.alloc (.cells #[] 30)).alloc (.cells #[.int .i64 x.k, .int .i64 x.a] 30)).drew) (w2.heap.size + 1) x) := by
    have := BxJ.new 30 (w2.alloc (.cells #[] 30)) x
    rw [hsA] at this
    exact this
  have HJC : Hid (BxJ 30 (((w2.alloc (.cells #[.int .i64 x.k, .int .i64 x.a] 30)).alloc (.cells #[] 30)).drew) w2.heap.size x) := (BxJ.new 30 w2 x).same (heap_alloc_old (w2.alloc (.cells #[.int .i64 x.k, .int .i64 x.a] 30)) (.cells #[] 30) (by rw [hsB]; omega))
  have HBA := Lib.hid hbA
  have HBB := Lib.hid hbB
  have HBC := Lib.hid hbC
  obtain ⟨t1, f1⟩ := HCL.out _ HAL.out
  obtain ⟨b0, b1⟩ := HBXK.out w2 (Below.refl _ _)
  have hrb2 : rb < w2.heap.size := by have := HAL.out.size; omega
  clear hbA hbB hbC hbx hsA hsB
  have hadd : ∀ g j : Nat, (⟨g, 0, none⟩ : Addr).add j = ⟨g, j, none⟩ := fun g j => by unfold Addr.add; split <;> simp_all
  have HSB : Hid (∀ (W : World) (k : Nat), BxJ 30 W k x → ∀ j u, (cellsJ x)[j]? = some u → W.cell? ((⟨k, 0, none⟩ : Addr).add j) = some u) := fun W k hk j u hu => by
    rw [hadd]
    obtain ⟨z0, z1, _, _⟩ := hk.cells
    match j, hu with
    | 0, hu => simp [cellsJ] at hu; subst hu; exact z0
    | 1, hu => simp [cellsJ] at hu; subst hu; exact z1
    | j + 2, hu => simp [cellsJ] at hu
  clear hadd
  cases a with
  | some y =>
    obtain ⟨g, rfl, hF⟩ := HS.out y rfl
    have HF : Hid (∀ W, Below w2.heap.size w2 W → ∀ j u, (rowJ R)[j]? = some u → W.cell? ((⟨g, 0, none⟩ : Addr).add j) = some u) := fun W hW => hF W (HAL.out.trans (hW.mono HAL.out.size))
    clear hF HS HN
    go_region_law (first
      | (refine step_append_own rfl (.tmp 13) (.tmp 17) 22 rfl w2.heap.size 30 i0 (.agg #[.int .i64 0, .int .i64 0]) 2 16 Try.underlying22 hi0 hz0 hz1 hz2 rfl (by decide) _ 0 [] rfl HEA.out ⟨g, 0, none⟩ len c (rowJ R) rfl HRL.out (HF.out _ HBA.out) rowJ_one_cell (by unfold maxLen; omega) (by omega) HBA.out.size ?_; intro v1 w4 ho1 hg1; have HO1 : Hid (OwnJ 30 w4 w2.heap.size v1 ([] ++ R)) := OwnJ.join HL.out.symm ho1; have hb4 : Below w2.heap.size w2 w4 := HBA.out.grown hg1 HBA.out.size (fun j hj => (World.ownsRow.lt HEA.out j hj).1); obtain ⟨_, hbw⟩ : True ∧ Below w.heap.size w w4 := ⟨trivial, HAL.out.trans (hb4.mono HAL.out.size)⟩; obtain ⟨t1, f1⟩ := HCL.out _ hbw; obtain ⟨b0, b1⟩ := HBXK.out _ hb4; have HB4 := Lib.hid hb4; clear ho1 hg1 hb4 hbw; obtain ⟨A1, m1, c1, rfl⟩ : ∃ A m c, v1 = .slice A m c := (by rcases HO1.out.form with ⟨e, _⟩ | ⟨g2, c2, e, _⟩ <;> exact ⟨_, _, _, e⟩))
      | (refine step_append_own rfl (.tmp 13) (.tmp 17) 22 rfl w2.heap.size 30 i0 (.agg #[.int .i64 0, .int .i64 0]) 2 16 Try.underlying22 hi0 hz0 hz1 hz2 rfl (by decide) _ 0 [] rfl HEB.out ⟨g, 0, none⟩ len c (rowJ R) rfl HRL.out (HF.out _ HBB.out) rowJ_one_cell (by unfold maxLen; omega) (by omega) HBB.out.size ?_; intro v1 w4 ho1 hg1; have HO1 : Hid (OwnJ 30 w4 w2.heap.size v1 ([] ++ R)) := OwnJ.join HL.out.symm ho1; have hb4 : Below w2.heap.size w2 w4 := HBB.out.grown hg1 HBB.out.size (fun j hj => (World.ownsRow.lt HEB.out j hj).1); have HJ4 : Hid (BxJ 30 w4 (w2.heap.size + 1) x) := HJB.out.same (hg1.block _ HJB.out.lt (fun e => by injection e with e; exact absurd e (by simp))); obtain ⟨_, hbw⟩ : True ∧ Below w.heap.size w w4 := ⟨trivial, HAL.out.trans (hb4.mono HAL.out.size)⟩; obtain ⟨t1, f1⟩ := HCL.out _ hbw; obtain ⟨b0, b1⟩ := HBXK.out _ hb4; have HB4 := Lib.hid hb4; clear ho1 hg1 hb4 hbw; obtain ⟨A1, m1, c1, rfl⟩ : ∃ A m c, v1 = .slice A m c := (by rcases HO1.out.form with ⟨e, _⟩ | ⟨g2, c2, e, _⟩ <;> exact ⟨_, _, _, e⟩))
      | (refine step_append_own rfl (.tmp 13) (.tmp 17) 22 rfl w2.heap.size 30 i0 (.agg #[.int .i64 0, .int .i64 0]) 2 16 Try.underlying22 hi0 hz0 hz1 hz2 rfl (by decide) _ 0 [] rfl HEC.out ⟨g, 0, none⟩ len c (rowJ R) rfl HRL.out (HF.out _ HBC.out) rowJ_one_cell (by unfold maxLen; omega) (by omega) HBC.out.size ?_; intro v1 w4 ho1 hg1; have HO1 : Hid (OwnJ 30 w4 w2.heap.size v1 ([] ++ R)) := OwnJ.join HL.out.symm ho1; have hb4 : Below w2.heap.size w2 w4 := HBC.out.grown hg1 HBC.out.size (fun j hj => (World.ownsRow.lt HEC.out j hj).1); have HJ4 : Hid (BxJ 30 w4 w2.heap.size x) := HJC.out.same (hg1.block _ HJC.out.lt (fun e => by injection e with e; exact absurd e (by simp))); obtain ⟨_, hbw⟩ : True ∧ Below w.heap.size w w4 := ⟨trivial, HAL.out.trans (hb4.mono HAL.out.size)⟩; obtain ⟨t1, f1⟩ := HCL.out _ hbw; obtain ⟨b0, b1⟩ := HBXK.out _ hb4; have HB4 := Lib.hid hb4; clear ho1 hg1 hb4 hbw; obtain ⟨A1, m1, c1, rfl⟩ : ∃ A m c, v1 = .slice A m c := (by rcases HO1.out.form with ⟨e, _⟩ | ⟨g2, c2, e, _⟩ <;> exact ⟨_, _, _, e⟩))
      | (refine step_append_own rfl (.tmp 18) (.tmp 20) 22 rfl w2.heap.size 30 i0 (.agg #[.int .i64 0, .int .i64 0]) 2 16 Try.underlying22 hi0 hz0 hz1 hz2 rfl (by decide) _ _ _ rfl (HO1.out.below ((Below.refl w4.heap.size w4).alloc (Nat.le_refl _) (.cells #[.int .i64 x.k, .int .i64 x.a] 30))) ⟨w4.heap.size, 0, none⟩ 1 1 (cellsJ x) rfl rfl (HSB.out _ _ (BxJ.new 30 w4 x)) (cellsJ_one x) (by simp only [List.nil_append]; rw [HL.out]; unfold maxLen; omega) (by simp only [List.nil_append]; rw [HL.out]; omega) (HB4.out.alloc HB4.out.size (.cells #[.int .i64 x.k, .int .i64 x.a] 30)).size ?_; intro v2 w5 ho2 hg2; have HO2 : Hid (OwnJ 30 w5 w2.heap.size v2 (([] ++ R) ++ [x])) := OwnJ.join rfl (by rw [rowJ_one]; exact ho2); have hb5 : Below w2.heap.size w2 w5 := (HB4.out.alloc HB4.out.size (.cells #[.int .i64 x.k, .int .i64 x.a] 30)).grown hg2 (HB4.out.alloc HB4.out.size (.cells #[.int .i64 x.k, .int .i64 x.a] 30)).size (fun j hj => (World.ownsRow.lt HO1.out j hj).1); have hbw5 := HAL.out.trans (hb5.mono HAL.out.size); have HBW5 := Lib.hid hbw5; obtain ⟨t1, f1⟩ := HCL.out _ hbw5; clear ho2 hg2 hb5 hbw5; obtain ⟨A2, m2, c2, rfl⟩ : ∃ A m c, v2 = .slice A m c := (by rcases HO2.out.form with ⟨e, _⟩ | ⟨g2, c2, e, _⟩ <;> exact ⟨_, _, _, e⟩))
      | (refine step_append_own rfl (.tmp 18) (.tmp 20) 22 rfl w2.heap.size 30 i0 (.agg #[.int .i64 0, .int .i64 0]) 2 16 Try.underlying22 hi0 hz0 hz1 hz2 rfl (by decide) _ _ _ rfl HO1.out ⟨w2.heap.size + 1, 0, none⟩ 1 1 (cellsJ x) rfl rfl (HSB.out _ _ HJ4.out) (cellsJ_one x) (by simp only [List.nil_append]; rw [HL.out]; unfold maxLen; omega) (by simp only [List.nil_append]; rw [HL.out]; omega) HB4.out.size ?_; intro v2 w5 ho2 hg2; have HO2 : Hid (OwnJ 30 w5 w2.heap.size v2 (([] ++ R) ++ [x])) := OwnJ.join rfl (by rw [rowJ_one]; exact ho2); have hb5 : Below w2.heap.size w2 w5 := HB4.out.grown hg2 HB4.out.size (fun j hj => (World.ownsRow.lt HO1.out j hj).1); have hbw5 := HAL.out.trans (hb5.mono HAL.out.size); have HBW5 := Lib.hid hbw5; obtain ⟨t1, f1⟩ := HCL.out _ hbw5; clear ho2 hg2 hb5 hbw5; obtain ⟨A2, m2, c2, rfl⟩ : ∃ A m c, v2 = .slice A m c := (by rcases HO2.out.form with ⟨e, _⟩ | ⟨g2, c2, e, _⟩ <;> exact ⟨_, _, _, e⟩))
      | (refine step_append_own rfl (.tmp 18) (.tmp 20) 22 rfl w2.heap.size 30 i0 (.agg #[.int .i64 0, .int .i64 0]) 2 16 Try.underlying22 hi0 hz0 hz1 hz2 rfl (by decide) _ _ _ rfl HO1.out ⟨w2.heap.size, 0, none⟩ 1 1 (cellsJ x) rfl rfl (HSB.out _ _ HJ4.out) (cellsJ_one x) (by simp only [List.nil_append]; rw [HL.out]; unfold maxLen; omega) (by simp only [List.nil_append]; rw [HL.out]; omega) HB4.out.size ?_; intro v2 w5 ho2 hg2; have HO2 : Hid (OwnJ 30 w5 w2.heap.size v2 (([] ++ R) ++ [x])) := OwnJ.join rfl (by rw [rowJ_one]; exact ho2); have hb5 : Below w2.heap.size w2 w5 := HB4.out.grown hg2 HB4.out.size (fun j hj => (World.ownsRow.lt HO1.out j hj).1); have hbw5 := HAL.out.trans (hb5.mono HAL.out.size); have HBW5 := Lib.hid hbw5; obtain ⟨t1, f1⟩ := HCL.out _ hbw5; clear ho2 hg2 hb5 hbw5; obtain ⟨A2, m2, c2, rfl⟩ : ∃ A m c, v2 = .slice A m c := (by rcases HO2.out.form with ⟨e, _⟩ | ⟨g2, c2, e, _⟩ <;> exact ⟨_, _, _, e⟩)))
    all_goals
      go_wp2
      go_ret
      exact ⟨rfl, HFIN.out _ _ HBW5.out (by have := HO2.out.mono (b := w.heap.size) HAL.out.size; simpa using this)⟩
  | none =>
    obtain ⟨hRn, hc⟩ := HN.out rfl
    have hlen0 : len = 0 := by rw [← HL.out, hRn]; rfl
    subst hc hlen0
    have HRN := Lib.hid hRn
    clear hRn HS HN
    go_region_law (first
      | (refine step_append_none rfl (.tmp 13) (.tmp 17) 22 rfl w2.heap.size 30 i0 2 Try.underlying22 hi0 _ 0 [] rfl HEA.out rfl ?_)
      | (refine step_append_none rfl (.tmp 13) (.tmp 17) 22 rfl w2.heap.size 30 i0 2 Try.underlying22 hi0 _ 0 [] rfl HEB.out rfl ?_)
      | (refine step_append_none rfl (.tmp 13) (.tmp 17) 22 rfl w2.heap.size 30 i0 2 Try.underlying22 hi0 _ 0 [] rfl HEC.out rfl ?_)
      | (refine step_append_own rfl (.tmp 18) (.tmp 20) 22 rfl w2.heap.size 30 i0 (.agg #[.int .i64 0, .int .i64 0]) 2 16 Try.underlying22 hi0 hz0 hz1 hz2 rfl (by decide) _ 0 [] rfl HEB.out ⟨w2.heap.size + 1, 0, none⟩ 1 1 (cellsJ x) rfl rfl (HSB.out _ _ HJB.out) (cellsJ_one x) (by unfold maxLen; omega) (by omega) HBB.out.size ?_; intro v2 w5 ho2 hg2; have HO2 : Hid (OwnJ 30 w5 w2.heap.size v2 ([] ++ [x])) := OwnJ.join rfl (by rw [rowJ_one]; exact ho2); have hb5 : Below w2.heap.size w2 w5 := HBB.out.grown hg2 HBB.out.size (fun j hj => (World.ownsRow.lt HEB.out j hj).1); have hbw5 := HAL.out.trans (hb5.mono HAL.out.size); have HBW5 := Lib.hid hbw5; obtain ⟨t1, f1⟩ := HCL.out _ hbw5; clear ho2 hg2 hb5 hbw5; obtain ⟨A2, m2, c2, rfl⟩ : ∃ A m c, v2 = .slice A m c := (by rcases HO2.out.form with ⟨e, _⟩ | ⟨g2, c2, e, _⟩ <;> exact ⟨_, _, _, e⟩))
      | (refine step_append_own rfl (.tmp 18) (.tmp 20) 22 rfl w2.heap.size 30 i0 (.agg #[.int .i64 0, .int .i64 0]) 2 16 Try.underlying22 hi0 hz0 hz1 hz2 rfl (by decide) _ 0 [] rfl HEC.out ⟨w2.heap.size, 0, none⟩ 1 1 (cellsJ x) rfl rfl (HSB.out _ _ HJC.out) (cellsJ_one x) (by unfold maxLen; omega) (by omega) HBC.out.size ?_; intro v2 w5 ho2 hg2; have HO2 : Hid (OwnJ 30 w5 w2.heap.size v2 ([] ++ [x])) := OwnJ.join rfl (by rw [rowJ_one]; exact ho2); have hb5 : Below w2.heap.size w2 w5 := HBC.out.grown hg2 HBC.out.size (fun j hj => (World.ownsRow.lt HEC.out j hj).1); have hbw5 := HAL.out.trans (hb5.mono HAL.out.size); have HBW5 := Lib.hid hbw5; obtain ⟨t1, f1⟩ := HCL.out _ hbw5; clear ho2 hg2 hb5 hbw5; obtain ⟨A2, m2, c2, rfl⟩ : ∃ A m c, v2 = .slice A m c := (by rcases HO2.out.form with ⟨e, _⟩ | ⟨g2, c2, e, _⟩ <;> exact ⟨_, _, _, e⟩)))
    all_goals
      go_wp2
      go_ret
      exact ⟨rfl, HFIN.out _ _ HBW5.out (by rw [HRN.out]; exact HO2.out.mono (b := w.heap.size) HAL.out.size)⟩
end
end Go.Proofs.Ytaaaefoanjggcaa
