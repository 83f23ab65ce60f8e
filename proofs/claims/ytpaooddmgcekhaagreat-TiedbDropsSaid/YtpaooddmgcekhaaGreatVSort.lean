/-
  THE LIBRARY'S slices.SortFunc at ids, by the program's Compare; slices.SortedFunc of the base's ids.
-/
import Derived.Test.YtpaooddmgcekhaaGreatVColl
import Derived.Test.YtpaooddmgcekhaaGreatVShelf
import Derived.Test.YtpaooddmgcekhaaGreatTCmp
import Derived.Test.YtpaooddmgcekhaaGreatTPutH
import Derived.Shelf.SlSortCmp.NoneTotal
namespace Go.Proofs.YtpaooddmgcekhaaGreat.ti
set_option linter.unusedSimpArgs false
set_option linter.unusedVariables false
open Go.RowKit Go.Sort
theorem kindI : KindE 65 33 4 32 (.agg #[.int .i64 0, .int .i64 0, .int .i64 0, .int .i64 0]) cellsI := ⟨by kernel_rfl, by kernel_rfl, rfl, by decide, fun _ => rfl, fun x u hu => by simp [cellsI] at hu; rcases hu with rfl | rfl | rfl | rfl <;> rfl⟩
theorem flat_row {E : Type} [Inhabited E] {sl T : TypeId} {sz bytes : Nat} {z : Value} {enc : E → List Value} (K : KindE sl T sz bytes z enc) (l : List E) (t : Nat) (h : t < l.length * sz) : (rowE enc l)[t]? = some (flatK enc sz l.toArray)[t]! := by
  obtain ⟨u, hu⟩ : ∃ u, (rowE enc l)[t]? = some u := ⟨_, List.getElem?_eq_getElem (by rw [K.row_len]; exact h)⟩
  obtain ⟨p, h1, h2⟩ := K.row_back hu
  rw [hu, get_flatK _ _ _ _ (by simpa using h)]
  have e1 : l.toArray[t / sz]! = p := by
    rw [Array.getElem!_eq_getD, Array.getD_eq_getD_getElem?, List.getElem?_toArray, h1]; rfl
  rw [e1]
  have : (enc p)[t % sz]! = u := by rw [List.getElem!_eq_getElem?_getD, h2]; rfl
  rw [this]
theorem OwnE.at0 {E : Type} {T : TypeId} {sz : Nat} {enc : E → List Value} {W : World} {base g o n c : Nat} {l : List E} (h : OwnE T sz enc W base (.slice (some ⟨g, o, none⟩) n c) l) : o = 0 ∧ base ≤ g ∧ g < W.heap.size ∧ n = l.length := by
  rcases h.form with ⟨e, _⟩ | ⟨g', cap, e, h1, h2, _⟩
  · cases e
  · cases e; exact ⟨rfl, h1, h2, rfl⟩
theorem OwnE.frozen {E : Type} {T : TypeId} {sz : Nat} {enc : E → List Value} {W : World} {base g n c : Nat} {l : List E} (h : OwnE T sz enc W base (.slice (some ⟨g, 0, none⟩) n c) l) (j : Nat) : W.frozen? ⟨g, j, none⟩ = false := by
  obtain ⟨_, _, _, rfl⟩ := h.at0
  exact World.ownsRow.frozenAt h j
theorem holdsE {E : Type} [Inhabited E] {sl T : TypeId} {sz bytes : Nat} {z : Value} {enc : E → List Value} (K : KindE sl T sz bytes z enc) {W : World} {base g n c : Nat} {l : List E} (h : OwnE T sz enc W base (.slice (some ⟨g, 0, none⟩) n c) l) : HoldsK enc sz W g 0 l.toArray := by
  intro j hj
  have hj : j < l.length * sz := by simpa using hj
  refine ⟨?_, by rw [Nat.zero_add]; exact h.frozen j⟩
  have h0 := World.ownsRow.cells h (g := g) rfl _ _ (flat_row K l j hj)
  rw [add_off] at h0
  exact h0
theorem sortedE {E : Type} [Inhabited E] {sl T : TypeId} {sz bytes : Nat} {z : Value} {enc : E → List Value} (K : KindE sl T sz bytes z enc) {W : World} {base g n c q : Nat} {l ys : List E} {os : Array Obj} (h : OwnE T sz enc W base (.slice (some ⟨g, 0, none⟩) n c) l) (hy : ys.length = l.length) : OwnE T sz enc (sortWorldK enc sz W g 0 q ys.toArray os) base (.slice (some ⟨g, 0, none⟩) n c) ys := by
  have hat := h.at0
  rcases h.2 with ⟨e0, _⟩ | ⟨g', cap', cur, e0, hb, hg, hn, hm, hs, ht⟩
  · cases e0
  · have hlt : g < W.heap.size := hat.2.2.1
    have hrl : (rowE enc ys).length = l.length * sz := by rw [K.row_len, hy]
    injection e0 with e1 e2 e3
    injection e1 with e1
    injection e1 with e1
    subst e1; subst e3; subst e2
    refine ⟨by rw [K.row_len], .inr ⟨g, c, putCells id 0 (flatK enc sz ys.toArray) cur, by rw [hy], hb, ?_, by omega, hm, by simpa [putCells] using hs, ?_⟩⟩
    · unfold sortWorldK grow
      show (_ ++ os)[g]? = _
      rw [Array.getElem?_append_left (by simp [putRowK, putRow, mapBlock, Sort.ahead]; exact hlt)]
      simp [putRowK, putRow, mapBlock, Sort.ahead, Array.getElem?_modify, hg, onCells]
    · have hcs : l.length * sz ≤ cur.size := by rw [hs]; exact Nat.mul_le_mul_right _ hn
      apply List.ext_getElem?
      intro j
      rw [List.getElem?_take, Array.getElem?_toList]
      by_cases hj : j < l.length * sz
      · have hjc : j < cur.size := by omega
        rw [if_pos (by rw [hy]; exact hj), flat_row K ys j (by rw [hy]; exact hj)]
        simp only [putCells, Array.getElem?_mapIdx, Array.getElem?_eq_getElem hjc, Option.map_some]
        rw [if_pos (by simp; rw [hy]; exact hj)]
        rfl
      · rw [if_neg (by rw [hy]; exact hj), List.getElem?_eq_none (by omega)]
theorem below_sorted {E : Type} [Inhabited E] {enc : E → List Value} {sz B : Nat} {w0 W : World} {g q : Nat} {d : Array E} {os : Array Obj} (h : Below B w0 W) (hg : B ≤ g) (hB : B ≤ W.heap.size) : Below B w0 (sortWorldK enc sz W g 0 q d os) :=
  ⟨h.os, h.tape, h.output, by have := h.size; simp [sortWorldK, grow, putRowK, putRow, mapBlock, Sort.ahead]; omega, fun k hk => by
    rw [← h.block k hk]
    unfold sortWorldK grow
    show (_ ++ os)[k]? = _
    rw [Array.getElem?_append_left (by simp [putRowK, putRow, mapBlock, Sort.ahead]; omega)]
    simp [putRowK, putRow, mapBlock, Sort.ahead, Array.getElem?_modify, show g ≠ k by omega]⟩
theorem grown_sorted {E : Type} [Inhabited E] {enc : E → List Value} {sz : Nat} {W : World} {g q : Nat} {d : Array E} {os : Array Obj} : W.grownBy (sortWorldK enc sz W g 0 q d os) (some g) :=
  ⟨rfl, rfl, rfl, by simp [sortWorldK, grow, putRowK, putRow, mapBlock, Sort.ahead], fun k hk hne => by
    have hne : g ≠ k := fun e => hne (by rw [e])
    unfold sortWorldK grow
    show (_ ++ os)[k]? = _
    rw [Array.getElem?_append_left (by simp [putRowK, putRow, mapBlock, Sort.ahead]; omega)]
    simp [putRowK, putRow, mapBlock, Sort.ahead, Array.getElem?_modify, hne]⟩
/-! Ids that rise. -/
def AscI (l : List TId) : Prop := l.Pairwise lexT
theorem ascI_unique : ∀ {l m : List TId}, AscI l → AscI m → l.Perm m → l = m
  | [], m, _, _, h => h.nil_eq
  | a :: l, m, hl, hm, h => by
    obtain ⟨h1, h2⟩ := List.pairwise_cons.1 hl
    cases m with
    | nil => exact absurd h.symm.nil_eq (by simp)
    | cons b m =>
      obtain ⟨k1, k2⟩ := List.pairwise_cons.1 hm
      have hab : a = b := by
        have ha : a ∈ b :: m := h.mem_iff.1 (by simp)
        have hb : b ∈ a :: l := h.mem_iff.2 (by simp)
        rcases List.mem_cons.1 ha with e | e
        · exact e
        · rcases List.mem_cons.1 hb with f | f
          · exact f.symm
          · exact absurd (k1 a e) (lex_asym (h1 b f))
      subst hab
      rw [ascI_unique h2 k2 (List.Perm.cons_inv h)]
theorem ltOf_lex (x y : TId) : Go.Proofs.ltOf cmpT x y = decide (lexT x y) := by
  unfold Go.Proofs.ltOf
  rw [decide_eq_decide.2 cmp_neg]
theorem swoT : SWO (Go.Proofs.ltOf cmpT) where
  irrefl x := by rw [ltOf_lex]; exact decide_eq_false (lex_irr _)
  trans x y z h1 h2 := by rw [ltOf_lex] at *; exact decide_eq_true (lex_tr (of_decide_eq_true h1) (of_decide_eq_true h2))
  ntrans x y z h1 h2 := by
    rw [ltOf_lex] at *
    have h1 := of_decide_eq_false h1
    have h2 := of_decide_eq_false h2
    refine decide_eq_false fun h => ?_
    rcases lex_tot x y with q | q | q
    · exact h1 q
    · rw [q] at h; exact h2 h
    · exact h2 (lex_tr q h)
theorem asc_of_sorted {l : List TId} {d : Array TId} (hs : SortedIn (Go.Proofs.ltOf cmpT) 0 d.size d) (hp : d.toList.Perm l) (hn : l.Nodup) : AscI d.toList := by
  have hn2 : d.toList.Nodup := hp.nodup_iff.2 hn
  refine List.pairwise_iff_getElem.2 fun i j hi hj hij => ?_
  have h1 := hs i j (Nat.zero_le _) hij (by simpa using hj)
  rw [ltOf_lex, getElem!_pos d j (by simpa using hj), getElem!_pos d i (by simpa using hi)] at h1
  have h1 := of_decide_eq_false h1
  simp only [Array.getElem_toList]
  rcases lex_tot d[i] d[j] with q | q | q
  · exact q
  · exfalso
    have := List.pairwise_iff_getElem.1 (show List.Pairwise (· ≠ ·) d.toList from hn2) i j hi hj hij
    exact this (by simpa using q)
  · exact absurd q h1
theorem compare_grows (x y : TId) (W : World) : Calls Tryz.prog 44 #[.agg #[.int .i64 x.d, .int .i64 x.o, .int .i64 x.k, .int .i64 x.n], .agg #[.int .i64 y.d, .int .i64 y.o, .int .i64 y.k, .int .i64 y.n]] W fun e w' => e = .returned (.int .i64 (cmpT x y)) ∧ ∃ q os', w' = grow (W.drewN q) os' := (pcompare_any x y W).mono fun e w' ⟨he, hf⟩ => ⟨he, hf.grown⟩
/-- What sorting ids leaves. -/
def SortE (base : Nat) (v : Value) (l : List TId) (w : World) (e : Ending) (w' : World) : Prop := e = .returned (.tuple #[]) ∧ ∃ ys, AscI ys ∧ ys.Perm l ∧ OwnE 33 4 cellsI w' base v ys ∧ w.grownBy w' v.ownBlock
theorem sort_any {base g n c : Nat} {l : List TId} {w : World} (ho : OwnE 33 4 cellsI w base (.slice (some ⟨g, 0, none⟩) n c) l) (hl : l.length ≤ 4096) (hn : l.Nodup) :
    Calls Tryz.prog 43 #[.slice (some ⟨g, 0, none⟩) n c, .func (.func 44) #[] #[]] w (SortE base (.slice (some ⟨g, 0, none⟩) n c) l w) := by
  have hnl : n = l.length := ho.at0.2.2.2
  have eg : ∀ args w, (callFunc 44 args).run Tryz.prog w = .ok (.enter 44 args) w := enters_of Tryz.func44 (by kernel_rfl) rfl
  have hcon := Go.Proofs.AnyQ.slices_SortFunc Tryz.sortI 4 Tryz.isAgg33 Tryz.sizeOf33 cellsI (fun _ => rfl) (fun x v hv => kindI.one x v hv) cmpT swoT 44 #[] g 0 c l.toArray w eg (fun _ _ _ _ x y => compare_grows x y _) (holdsE kindI ho) ho.at0.2.2.1 (by simp; omega)
  rw [List.size_toArray, ← hnl] at hcon
  change Calls Tryz.prog 43 _ _ _ at hcon
  refine hcon.mono ?_
  rintro e w' ⟨rfl, d', q, os, hp, hs, rfl⟩
  have hsz : d'.size = n := by have := hp.1; simpa [hnl] using this
  have hperm : d'.toList.Perm l := by
    have := hp.2.2
    rw [show d'.extract 0 n = d' from by rw [← hsz]; simp, show l.toArray.extract 0 n = l.toArray from by rw [hnl]; simp] at this
    simpa using this
  refine ⟨rfl, d'.toList, asc_of_sorted (by rw [hsz]; exact hs) hperm hn, hperm, ?_, grown_sorted⟩
  have := sortedE kindI ho (q := q) (os := os) (ys := d'.toList) hperm.length_eq
  simpa using this
theorem sort_both {base : Nat} {v : Value} {l : List TId} {w : World} (ho : OwnE 33 4 cellsI w base v l) (hl : l.length ≤ 4096) (hn : l.Nodup) :
    Calls Tryz.prog 43 #[v, .func (.func 44) #[] #[]] w (SortE base v l w) := by
  rcases ho.form with ⟨rfl, hl0⟩ | ⟨g, cap, rfl, _⟩
  · subst hl0
    have h := Go.Proofs.AnyF.slices_SortFunc_none Tryz.sortI none 0 (.func (.func 44) #[] #[]) w
    change Calls Tryz.prog 43 _ _ _ at h
    refine h.mono ?_
    rintro e w' ⟨rfl, rfl⟩
    exact ⟨rfl, [], List.Pairwise.nil, List.Perm.nil, ho, ⟨rfl, rfl, rfl, Nat.le_refl _, fun _ _ _ => rfl⟩⟩
  · exact sort_any ho hl hn
theorem encI_row (xs : List IdV) : rowE encI xs = rowE cellsI (xs.map Prod.fst) := by
  unfold rowE
  rw [List.flatMap_map]
  rfl
theorem ids_own {W : World} {base : Nat} {v : Value} {xs : List IdV} (h : OwnE 33 4 encI W base v xs) : OwnE 33 4 cellsI W base v (xs.map Prod.fst) := by
  unfold OwnE at h ⊢
  rw [List.length_map, ← encI_row]
  exact h
set_option maxHeartbeats 1600000 in
set_option maxRecDepth 100000 in
theorem sortedfunc_any (b Bm : Nat) (L : List IdV) (A : List TId) (hA : AscI A) (hp : (L.map Prod.fst).Perm A) (hlen : L.length ≤ 4000) (w : World) (hBm : Bm < w.heap.size) (hm : w.cell? ⟨Bm, 0, none⟩ = some (.map (some b))) (hown : MapV w b L) :
    Calls Tryz.prog 46 #[.func (.func 63) #[] #[.pointer (some ⟨Bm, 0, none⟩)], .func (.func 44) #[] #[]] w
      fun e w' => (∃ v, e = .returned v ∧ OwnE 33 4 cellsI w' w.heap.size v A) ∧ Below w.heap.size w w' := by
  have hnd : (L.map Prod.fst).Nodup := by obtain ⟨_, _, _, h, _⟩ := hown; exact h
  have hcol := (callsIn_wide (n := 4)).1 (collect_any 4 (by omega) b Bm L hlen w hBm hm hown)
  have HA := Lib.hid hA
  have HL := Lib.hid hlen
  have HPP := Lib.hid hp
  have HND := Lib.hid hnd
  clear hm hown hA hlen hp hnd
  go_enter Tryz.func46, Tryz.ntmps46
  go_wp2_with (first
    | (go_at_call 62; refine hcol.mono ?_; rintro e w1 ⟨⟨v, xs, rfl, hp, ho⟩, hb⟩; have HP := Lib.hid hp; have HO := Lib.hid (ids_own ho); have HB := Lib.hid hb; clear hp ho hb)
    | (go_at_call 43; refine (sort_both HO.out (by rw [List.length_map, HP.out.length_eq]; have := HL.out; omega) ((HP.out.map _).nodup_iff.2 HND.out)).mono ?_; rintro e w2 ⟨rfl, ys, hya, hyp, hyo, hyb⟩; have E := Lib.hid (ascI_unique hya HA.out (hyp.trans ((HP.out.map _).trans HPP.out))); have HB2 := Lib.hid (HB.out.grown hyb HB.out.size (fun j hj => (World.ownsRow.lt HO.out j hj).1)); have HO2 := Lib.hid hyo; clear hya hyp hyo hyb))
  go_ret
  exact ⟨⟨v, rfl, by rw [← E.out]; exact HO2.out⟩, HB2.out⟩
set_option maxHeartbeats 1600000 in
set_option maxRecDepth 100000 in
theorem keys_any (b : Nat) (w : World) : Calls Tryz.prog 47 #[.map (some b)] w fun e w' => e = .returned (.func (.func 63) #[] #[.pointer (some ⟨w.heap.size, 0, none⟩)]) ∧ w' = w.alloc (.cells #[.map (some b)] 59) := by
  go_enter Tryz.func47, Tryz.ntmps47
  go_wp2
  go_ret
  exact ⟨rfl, rfl⟩
end Go.Proofs.YtpaooddmgcekhaaGreat.ti
