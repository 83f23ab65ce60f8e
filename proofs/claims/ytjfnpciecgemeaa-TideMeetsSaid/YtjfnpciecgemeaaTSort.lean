/-
  THE LIBRARY'S slices.SortFunc, slices.SortedFunc at heads; THE PROGRAM'S Merge.
-/
import Derived.Test.YtjfnpciecgemeaaTColl
import Derived.Test.YtjfnpciecgemeaaTShelf
import Derived.Test.YtjfnpciecgemeaaTLaw
import Derived.Test.YtjfnpciecgemeaaTPAft
import Derived.Test.YtjfnpciecgemeaaTPutH
import Derived.Shelf.SlSortCmp.NoneTotal
namespace Go.Proofs.Ytjfnpciecgemeaa.ti
set_option linter.unusedSimpArgs false
set_option linter.unusedVariables false
open Go.RowKit Go.Sort
instance : Inhabited THd := ⟨⟨⟨0, 0, 0, 0⟩, 0, 0⟩⟩
theorem flat_row (l : List THd) (t : Nat) (h : t < l.length * 6) : (rowT l)[t]? = some (flatK cellsT 6 l.toArray)[t]! := by
  obtain ⟨u, hu⟩ : ∃ u, (rowT l)[t]? = some u := ⟨_, List.getElem?_eq_getElem (by rw [rowT_length]; exact h)⟩
  obtain ⟨p, h1, h2⟩ := rowT_at hu
  rw [hu, get_flatK _ _ _ _ (by simpa using h)]
  have e1 : l.toArray[t / 6]! = p := by
    rw [Array.getElem!_eq_getD, Array.getD_eq_getD_getElem?, List.getElem?_toArray, h1]; rfl
  rw [e1]
  have : (cellsT p)[t % 6]! = u := by rw [List.getElem!_eq_getElem?_getD, h2]; rfl
  rw [this]
theorem OwnH.holds {T : TypeId} {W : World} {base g n c : Nat} {l : List THd} (h : OwnH T W base (.slice (some ⟨g, 0, none⟩) n c) l) : HoldsK cellsT 6 W g 0 l.toArray := by
  intro j hj
  have hj : j < l.length * 6 := by simpa using hj
  refine ⟨?_, by rw [Nat.zero_add]; exact h.frozen j⟩
  have h0 := World.ownsRow.cells h (g := g) rfl _ _ (flat_row l j hj)
  rw [add_off] at h0
  exact h0
theorem OwnH.sorted {T : TypeId} {W : World} {base g n c q : Nat} {l ys : List THd} {os : Array Obj} (h : OwnH T W base (.slice (some ⟨g, 0, none⟩) n c) l) (hy : ys.length = l.length) : OwnH T (sortWorldK cellsT 6 W g 0 q ys.toArray os) base (.slice (some ⟨g, 0, none⟩) n c) ys := by
  have hh := h
  rcases h.2 with ⟨e0, _⟩ | ⟨g', cap', cur, e0, hb, hg, hn, hm, hs, ht⟩
  · cases e0
  · have hlt : g < W.heap.size := h.at0.2.2
    have hrl : (rowT ys).length = l.length * 6 := by rw [rowT_length, hy]
    injection e0 with e1 e2 e3
    injection e1 with e1
    injection e1 with e1
    subst e1; subst e3; subst e2
    refine ⟨by rw [rowT_length], .inr ⟨g, c, putCells id 0 (flatK cellsT 6 ys.toArray) cur, by rw [hy], hb, ?_, by omega, hm, by simpa [putCells] using hs, ?_⟩⟩
    · unfold sortWorldK grow
      show (_ ++ os)[g]? = _
      rw [Array.getElem?_append_left (by simp [putRowK, putRow, mapBlock, Sort.ahead]; exact hlt)]
      simp [putRowK, putRow, mapBlock, Sort.ahead, Array.getElem?_modify, hg, onCells]
    · apply List.ext_getElem?
      intro j
      rw [List.getElem?_take, Array.getElem?_toList]
      by_cases hj : j < l.length * 6
      · have hjc : j < cur.size := by omega
        rw [if_pos (by omega), flat_row ys j (by omega)]
        simp only [putCells, Array.getElem?_mapIdx, Array.getElem?_eq_getElem hjc, Option.map_some]
        rw [if_pos (by simp; omega)]
        rfl
      · rw [if_neg (by omega), List.getElem?_eq_none (by omega)]
theorem below_sorted {B : Nat} {w0 W : World} {g q : Nat} {d : Array THd} {os : Array Obj} (h : Below B w0 W) (hg : B ≤ g) (hB : B ≤ W.heap.size) : Below B w0 (sortWorldK cellsT 6 W g 0 q d os) :=
  ⟨h.os, h.tape, h.output, by have := h.size; simp [sortWorldK, grow, putRowK, putRow, mapBlock, Sort.ahead]; omega, fun k hk => by
    rw [← h.block k hk]
    unfold sortWorldK grow
    show (_ ++ os)[k]? = _
    rw [Array.getElem?_append_left (by simp [putRowK, putRow, mapBlock, Sort.ahead]; omega)]
    simp [putRowK, putRow, mapBlock, Sort.ahead, Array.getElem?_modify, show g ≠ k by omega]⟩
def cfT (x y : THd) : Int := cmpT x.id y.id
theorem ltOf_lex (x y : THd) : Go.Proofs.ltOf cfT x y = decide (lexT x.id y.id) := by
  unfold Go.Proofs.ltOf cfT
  rw [decide_eq_decide.2 cmp_neg]
theorem swoT : SWO (Go.Proofs.ltOf cfT) where
  irrefl x := by rw [ltOf_lex]; exact decide_eq_false (lex_irr _)
  trans x y z h1 h2 := by rw [ltOf_lex] at *; exact decide_eq_true (lex_tr (of_decide_eq_true h1) (of_decide_eq_true h2))
  ntrans x y z h1 h2 := by
    rw [ltOf_lex] at *
    have h1 := of_decide_eq_false h1
    have h2 := of_decide_eq_false h2
    refine decide_eq_false fun h => ?_
    rcases lex_tot x.id y.id with q | q | q
    · exact h1 q
    · rw [q] at h; exact h2 h
    · exact h2 (lex_tr q h)
/-- Ascending rows of the same heads are one. -/
theorem asc_unique : ∀ {l m : List THd}, AscT l → AscT m → l.Perm m → l = m
  | [], m, _, _, h => h.nil_eq
  | a :: l, m, hl, hm, h => by
    obtain ⟨h1, h2⟩ := List.pairwise_cons.1 hl
    cases m with
    | nil => exact absurd h.symm.nil_eq (by simp)
    | cons b m =>
      obtain ⟨k1, k2⟩ := List.pairwise_cons.1 hm
      have hab : a = b := by
        have ha : a ∈ b :: m := h.mem_iff.1 (by simp)
        have hb : b ∈ a :: l := h.mem_iff.2 (by simp)
        rcases List.mem_cons.1 ha with e | e
        · exact e
        · rcases List.mem_cons.1 hb with f | f
          · exact f.symm
          · exact absurd (k1 a e) (lex_asym (h1 b f))
      subst hab
      rw [asc_unique h2 k2 (List.Perm.cons_inv h)]
theorem asc_of_sorted {l : List THd} {d : Array THd} (hs : SortedIn (Go.Proofs.ltOf cfT) 0 d.size d) (hp : d.toList.Perm l) (hn : (l.map THd.id).Nodup) : AscT d.toList := by
  have hn2 : (d.toList.map THd.id).Nodup := (hp.map _).nodup_iff.2 hn
  refine List.pairwise_iff_getElem.2 fun i j hi hj hij => ?_
  have h1 := hs i j (Nat.zero_le _) hij (by simpa using hj)
  rw [ltOf_lex, getElem!_pos d j (by simpa using hj), getElem!_pos d i (by simpa using hi)] at h1
  have h1 := of_decide_eq_false h1
  simp only [Array.getElem_toList]
  rcases lex_tot d[i].id d[j].id with q | q | q
  · exact q
  · exfalso
    have := List.pairwise_iff_getElem.1 (List.pairwise_map.1 (show List.Pairwise (· ≠ ·) (d.toList.map THd.id) from hn2)) i j hi hj hij
    exact this (by simpa using q)
  · exact absurd q h1
theorem asc_nodup {l : List THd} (h : AscT l) : (l.map THd.id).Nodup := by
  show List.Pairwise (· ≠ ·) _
  rw [List.pairwise_map]
  exact List.Pairwise.imp (fun {a b} hab e => by rw [e] at hab; exact lex_irr _ hab) h
set_option maxHeartbeats 1600000 in
set_option maxRecDepth 100000 in
theorem closure_any (x y : THd) (W : World) : Calls Try.prog 28 #[.agg #[.int .i64 x.id.d, .int .i64 x.id.o, .int .i64 x.id.k, .int .i64 x.id.n, .int .i64 x.seq, .int .i64 x.life], .agg #[.int .i64 y.id.d, .int .i64 y.id.o, .int .i64 y.id.k, .int .i64 y.id.n, .int .i64 y.seq, .int .i64 y.life]] W fun e w' => e = .returned (.int .i64 (cfT x y)) ∧ ∃ q os', w' = grow (W.drewN q) os' := by
  have hc := pcompare_any x.id y.id
  unfold cfT
  generalize cmpT x.id y.id = r at hc ⊢
  have HF : RowKit.Hid (∀ A B : Obj, Fwd W ((W.alloc A).alloc B)) := fun A B => ((Fwd.refl W).alloc A).alloc B
  go_enter Try.func28, Try.ntmps28
  go_wp2_with (go_at_call 9; refine (hc _).mono ?_; rintro e w1 ⟨rfl, hf⟩; have HX := Lib.hid ((HF.out _ _).trans hf); clear hf)
  go_ret
  exact ⟨rfl, HX.out.grown⟩
theorem sort_any {base g n c : Nat} {l : List THd} {w : World} (ho : OwnH 34 w base (.slice (some ⟨g, 0, none⟩) n c) l) (hl : l.length ≤ 1099511627776) (hn : (l.map THd.id).Nodup) :
    Calls Try.prog 39 #[.slice (some ⟨g, 0, none⟩) n c, .func (.func 28) #[] #[]] w fun e w' => e = .returned (.tuple #[]) ∧ ∃ ys, AscT ys ∧ ys.Perm l ∧ OwnH 34 w' base (.slice (some ⟨g, 0, none⟩) n c) ys ∧ ∀ w0, Below base w0 w → base ≤ w.heap.size → Below base w0 w' := by
  have hnl : n = l.length := by rcases ho.form with ⟨e, _⟩ | ⟨g', cap, e, h1, h2, h3, _⟩ <;> cases e; rfl
  have eg : ∀ args w, (callFunc 28 args).run Try.prog w = .ok (.enter 28 args) w := enters_of Try.func28 (by kernel_rfl) rfl
  have hcon := Go.Proofs.AnyQ.slices_SortFunc Try.sortH 6 Try.isAgg34 Try.sizeOf34 cellsT (fun _ => rfl) (fun x v hv => by rw [← rowT_one] at hv; exact rowT_one_cell v hv) cfT swoT 28 #[] g 0 c l.toArray w eg (fun _ _ _ _ x y => closure_any x y _) ho.holds ho.at0.2.2 (by simp; omega)
  rw [List.size_toArray, ← hnl] at hcon
  change Calls Try.prog 39 _ _ _ at hcon
  refine hcon.mono ?_
  rintro e w' ⟨rfl, d', q, os, hp, hs, rfl⟩
  have hsz : d'.size = n := by have := hp.1; simpa [hnl] using this
  have hperm : d'.toList.Perm l := by
    have := hp.2.2
    rw [show d'.extract 0 n = d' from by rw [← hsz]; simp, show l.toArray.extract 0 n = l.toArray from by rw [hnl]; simp] at this
    simpa using this
  refine ⟨rfl, d'.toList, asc_of_sorted (by rw [hsz]; exact hs) hperm hn, hperm, ?_, fun w0 hb hB => below_sorted hb ho.at0.2.1 hB⟩
  have := ho.sorted (q := q) (os := os) (ys := d'.toList) hperm.length_eq
  simpa using this
theorem box_cell (W : World) (v : Value) (T : TypeId) : (W.alloc (.cells #[v] T)).cell? ⟨W.heap.size, 0, none⟩ = some v := by
  have := heap_alloc_new W (.cells #[v] T)
  obtain ⟨V, hV⟩ : ∃ V, W.alloc (.cells #[v] T) = V := ⟨_, rfl⟩
  rw [hV] at this ⊢
  simp [World.cell?, this]
theorem sort_both {base : Nat} {v : Value} {l : List THd} {w : World} (ho : OwnH 34 w base v l) (hl : l.length ≤ 1099511627776) (hn : (l.map THd.id).Nodup) :
    Calls Try.prog 39 #[v, .func (.func 28) #[] #[]] w fun e w' => e = .returned (.tuple #[]) ∧ ∃ ys, AscT ys ∧ ys.Perm l ∧ OwnH 34 w' base v ys ∧ ∀ w0, Below base w0 w → base ≤ w.heap.size → Below base w0 w' := by
  rcases ho.form with ⟨rfl, hl0⟩ | ⟨g, cap, rfl, _⟩
  · subst hl0
    have h := Go.Proofs.AnyF.slices_SortFunc_none Try.sortH none 0 (.func (.func 28) #[] #[]) w
    change Calls Try.prog 39 _ _ _ at h
    refine h.mono ?_
    rintro e w' ⟨rfl, rfl⟩
    exact ⟨rfl, [], List.Pairwise.nil, List.Perm.nil, ho, fun w0 hb _ => hb⟩
  · exact sort_any ho hl hn
set_option maxHeartbeats 1600000 in
set_option maxRecDepth 100000 in
theorem sortedfunc_any (b Bm : Nat) (A : List THd) (hA : AscT A) (hlen : A.length ≤ 1099511627776) (w : World) (hBm : Bm < w.heap.size) (hm : w.cell? ⟨Bm, 0, none⟩ = some (.map (some b))) (hown : MapT w b A) :
    Calls Try.prog 26 #[.func (.func 40) #[] #[.pointer (some ⟨Bm, 0, none⟩)], .func (.func 28) #[] #[]] w
      fun e w' => (∃ v, e = .returned v ∧ OwnH 34 w' w.heap.size v A) ∧ Below w.heap.size w w' := by
  have hcol := (callsIn_wide (n := 4)).1 (collect_any 4 (by omega) b Bm A hlen w hBm hm hown)
  have HA := Lib.hid hA
  have HL := Lib.hid hlen
  clear hm hown hA hlen
  go_enter Try.func26, Try.ntmps26
  go_wp2_with (first
    | (go_at_call 38; refine hcol.mono ?_; rintro e w1 ⟨⟨v, xs, rfl, hp, ho⟩, hb⟩; have HP := Lib.hid hp; have HO := Lib.hid ho; have HB := Lib.hid hb; clear hp ho hb)
    | (go_at_call 39; refine (sort_both HO.out (by rw [HP.out.length_eq]; exact HL.out) ((HP.out.map _).nodup_iff.2 (asc_nodup HA.out))).mono ?_; rintro e w2 ⟨rfl, ys, hya, hyp, hyo, hyb⟩; have E := Lib.hid (asc_unique hya HA.out (hyp.trans HP.out)); have HO2 := Lib.hid hyo; have HB2 := Lib.hid (hyb _ HB.out HB.out.size); clear hya hyp hyo hyb))
  go_ret
  exact ⟨⟨v, rfl, by rw [← E.out]; exact HO2.out⟩, HB2.out⟩
set_option maxHeartbeats 1600000 in
set_option maxRecDepth 100000 in
theorem values_any (b : Nat) (w : World) : Calls Try.prog 27 #[.map (some b)] w fun e w' => e = .returned (.func (.func 40) #[] #[.pointer (some ⟨w.heap.size, 0, none⟩)]) ∧ w' = w.alloc (.cells #[.map (some b)] 64) := by
  go_enter Try.func27, Try.ntmps27
  go_wp2
  go_ret
  exact ⟨rfl, rfl⟩
set_option maxHeartbeats 1600000 in
set_option maxRecDepth 100000 in
theorem pmergeB_any (l m : List THd) (a b : Option Addr) (ca cb : Nat) (w : World) (ha : RdT w a l) (hb : RdT w b m) (hl : l.length + m.length ≤ 9223372036854775807) (hM : (mergeT l m).length ≤ 1099511627776) (hca : l.length ≤ ca) (hcb : m.length ≤ cb) (hok : ∀ x ∈ l ++ m, okH x) :
    Calls Try.prog 12 #[.slice a l.length ca, .slice b m.length cb] w fun e w' => ∃ v, e = .returned v ∧ OwnH 34 w' w.heap.size v (mergeT l m) ∧ Below w.heap.size w w' := by
  have hk1 := fun w1 hs => keep_any l [] a ca w w1 hs List.Pairwise.nil ha (by simp; omega) hca (fun x hx => hok x (List.mem_append_left _ hx)) (by simp)
  have A1 : AscT (l.foldl insT []) := fold_asc _ List.Pairwise.nil
  have L1 := fold_len l []
  have hk2 := fun w1 hs => keep_any m (l.foldl insT []) b cb w w1 hs A1 hb (by simp at L1; omega) hcb (fun x hx => hok x (List.mem_append_right _ hx)) (fold_all (P := okH) _ (by simp) (fun x hx => hok x (List.mem_append_left _ hx)))
  have e1 : m.foldl insT (l.foldl insT []) = mergeT l m := by unfold mergeT; rw [List.foldl_append]
  have hso := fun Bm w1 => sortedfunc_any w.heap.size Bm (mergeT l m) (merge_asc l m) hM w1
  have hv := values_any
  have hmm := @run_makeMap Try.prog
  have S0 : RowKit.Hid (StK w (w.alloc (.map #[] 0)) []) := ⟨MapT.made w, (Below.refl _ _).alloc (Nat.le_refl _) _⟩
  rw [e1] at hk2
  have HK1 := Lib.hid hk1
  have HK2 := Lib.hid hk2
  have HSO := Lib.hid hso
  clear ha hb hok A1 L1 e1 hM hk1 hk2 hso
  go_enter Try.func12, Try.ntmps12
  go_wp2_with (first
    | (go_at_call 25; (with_reducible refine (HK1.out _ S0.out).mono ?_); rintro e w1 ⟨rfl, hs⟩; have S1 := Lib.hid hs; clear hs)
    | (go_at_call 25; (with_reducible refine (HK2.out _ S1.out).mono ?_); rintro e w2 ⟨rfl, hs⟩; have S2 := Lib.hid hs; clear hs)
    | (go_at_call 27; refine (hv _ _).mono ?_; rintro e w3 ⟨rfl, rfl⟩)
    | (go_at_call 26; refine (HSO.out _ _ (by simp; done) (box_cell w2 _ _) (S2.out.1.same (heap_alloc_old _ _ S2.out.1.lt))).mono ?_; rintro e w4 ⟨⟨v, rfl, ho⟩, hb⟩; have HO := Lib.hid ho; have HB := Lib.hid ((S2.out.2.alloc S2.out.2.size _).trans (hb.mono (by have := S2.out.2.size; simp; omega))); have HZ := Lib.hid S2.out.2.size; clear ho hb))
  go_ret
  exact ⟨v, rfl, HO.out.mono (by have := HZ.out; simp; omega), HB.out⟩
theorem pmerge_any (l m : List THd) (a b : Option Addr) (ca cb : Nat) (w : World) (ha : RdT w a l) (hb : RdT w b m) (hl : l.length + m.length ≤ 400) (hca : l.length ≤ ca) (hcb : m.length ≤ cb) (hok : ∀ x ∈ l ++ m, okH x) :
    Calls Try.prog 12 #[.slice a l.length ca, .slice b m.length cb] w fun e w' => ∃ v, e = .returned v ∧ OwnH 34 w' w.heap.size v (mergeT l m) ∧ Below w.heap.size w w' :=
  pmergeB_any l m a b ca cb w ha hb (by omega) (by have := merge_len l m; omega) hca hcb hok
theorem progT : ProgT :=
  ⟨fun a b w => (pcompare_any a b w).mono fun _ _ h => ⟨h.1, h.2.bel⟩, fun a b w ha hb => (pnewer_any a b ha hb w).mono fun _ _ h => ⟨h.1, h.2.bel⟩, pfirst_any, plast_any, pafter_any, fun l m a b ca cb w h1 h2 h3 h4 h5 h6 => pmerge_any l m a b ca cb w h1 h2 h3 h4 h5 h6⟩
end Go.Proofs.Ytjfnpciecgemeaa.ti
