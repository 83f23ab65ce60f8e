/-
  THE DOCUMENT'S Merge.
-/
import Derived.Test.YticbdodpclnanaaTPutH
import Derived.Deep.RegionHeld
import Derived.Deep.DeepMust
namespace Go.Proofs.Yticbdodpclnanaa
set_option linter.unusedSimpArgs false
set_option linter.unusedVariables false
open Go.RowKit
theorem OwnH.empty (T : TypeId) (w : World) : OwnH T (w.alloc (.cells #[] T)) w.heap.size (.slice (some ⟨w.heap.size, 0, none⟩) 0 0) [] :=
  ⟨rfl, .inr ⟨w.heap.size, 0, #[], rfl, Nat.le_refl _, heap_alloc_new w _, Nat.le_refl _, by unfold maxLen; omega, rfl, rfl⟩⟩
/-- All heads up to one, merged. -/
def outT (all : List THd) (k : Nat) : List THd := (all.take k).foldl insT []
/-- The state ahead of a round. -/
def StM (w1 W : World) (v : Value) (out : List THd) : Prop := OwnH 29 W w1.heap.size v out ∧ Below w1.heap.size w1 W
theorem OwnH.cap {T : TypeId} {W : World} {base n c : Nat} {A : Option Addr} {l : List THd} (h : OwnH T W base (.slice A n c) l) : n ≤ c := by
  rcases h.form with ⟨e, _⟩ | ⟨g', cap, e, h1, h2, h3, _⟩
  · cases e; exact Nat.le_refl _
  · cases e; exact h3
theorem RdT.made {W W' : World} {h : THd} (hb : Below (W.heap.size + 1) (W.alloc (.cells #[.int .i64 h.id.d, .int .i64 h.id.o, .int .i64 h.id.k, .int .i64 h.id.n, .int .i64 h.seq, .int .i64 h.life] 29)) W') : RdT W' (some ⟨W.heap.size, 0, none⟩) [h] := fun j p hj => by
  have hj0 : j = 0 := by have := (List.getElem?_eq_some_iff.1 hj).1; simp at this; exact this
  subst hj0
  simp at hj
  subst hj
  refine ⟨_, 0, rfl, Nat.lt_of_lt_of_le (by simp) hb.size, ?_⟩
  have := range_list (W := W') (k := W.heap.size) (cs := cellsT h) (T := 29) (fr := (0, 0)) ((hb.block _ (by omega)).trans (heap_alloc_new W _))
  simpa using this
theorem StM.step {w1 W W' : World} {v : Value} {out : List THd} (h : StM w1 W v out) (hb : Below W.heap.size W W') : StM w1 W' v out := ⟨h.1.below hb, h.2.trans (hb.mono h.2.size)⟩
theorem StM.drew {w1 W : World} {v : Value} {out : List THd} (h : StM w1 W v out) : StM w1 W.drew v out := h.step (Below.refl _ W).drew
theorem StM.drewN {w1 W : World} {v : Value} {out : List THd} (h : StM w1 W v out) (n : Nat) : StM w1 (W.drewN n) v out := h.step ⟨rfl, rfl, rfl, Nat.le_refl _, fun _ _ => rfl⟩
theorem StM.put {w1 W : World} {g o n c : Nat} {out : List THd} (h : StM w1 W (.slice (some ⟨g, o, none⟩) n c) out) {j : Nat} {x : THd} (hx : out[j]? = some x) (y : THd) :
    StM w1 ((((((W.setCell ⟨g, o + j * 6, none⟩ (.int .i64 y.id.d)).setCell ⟨g, o + j * 6 + 1, none⟩ (.int .i64 y.id.o)).setCell ⟨g, o + j * 6 + 2, none⟩ (.int .i64 y.id.k)).setCell ⟨g, o + j * 6 + 3, none⟩ (.int .i64 y.id.n)).setCell ⟨g, o + j * 6 + 4, none⟩ (.int .i64 y.seq)).setCell ⟨g, o + j * 6 + 5, none⟩ (.int .i64 y.life)) (.slice (some ⟨g, o, none⟩) n c) (out.set j y) :=
  ⟨h.1.put hx y, by
    have hg := h.1.at0.2.1
    exact (((((h.2.setCell (p := ⟨g, _, none⟩) hg _).setCell (p := ⟨g, _, none⟩) hg _).setCell (p := ⟨g, _, none⟩) hg _).setCell (p := ⟨g, _, none⟩) hg _).setCell (p := ⟨g, _, none⟩) hg _).setCell (p := ⟨g, _, none⟩) hg _⟩
section
attribute [local go_sem high] eq_head eq_id
set_option maxHeartbeats 3200000 in
set_option maxRecDepth 100000 in
theorem rmerge_any (l m : List THd) (a b : Option Addr) (ca cb : Nat) (w : World) (ha : RdT w a l) (hb : RdT w b m) (hl : l.length + m.length ≤ 400) (hlca : l.length ≤ ca) (hmcb : m.length ≤ cb) (hL : ∀ x ∈ l ++ m, In64 x.life) : Calls Try.prog 24 #[.slice a l.length ca, .slice b m.length cb] w fun e w' => ∃ v, e = .returned v ∧ OwnH 29 w' w.heap.size v (mergeT l m) ∧ Below w.heap.size w w' := by
  have HC := rcompare_any
  obtain ⟨nl, hnl⟩ : ∃ nl, l.length = nl := ⟨_, rfl⟩
  obtain ⟨nm, hnm⟩ : ∃ nm, m.length = nm := ⟨_, rfl⟩
  have O0 := Lib.hid (OwnH.empty 29 w)
  have B0 : RowKit.Hid (∀ A : Obj, Below w.heap.size w (w.alloc A)) := fun A => (Below.refl _ w).alloc (Nat.le_refl _) _
  have RA := Lib.hid ha
  have RB := Lib.hid hb
  have HL := Lib.hid hL
  have HNl := Lib.hid hnl
  have HNm := Lib.hid hnm
  rw [hnl] at hl hlca ⊢
  rw [hnm] at hl hmcb ⊢
  have T1 : True := trivial
  clear ha hb hL hnl hnm
  go_enter Try.func24, Try.ntmps24
  go_wp2_with (first
    | (at_builtin; have _t := T1; clear T1 _t; refine wpList_append_T rfl _ _ rfl w.heap.size _ [] rfl O0.out a l nl ca rfl HNl.out.symm (RA.out.below (B0.out _)) (by have := HNl.out; simp; omega) (by simp) ?_; intro A1 n1 c1 w1 hn1 ho1 hb1 _; have O1 := Lib.hid ho1; have B1 := Lib.hid ((B0.out _).trans hb1); clear hn1 ho1 hb1)
    | (at_builtin; refine wpList_append_T rfl _ _ rfl w.heap.size _ ([] ++ l) rfl (show OwnH 29 w1 w.heap.size (.slice A1 n1 c1) ([] ++ l) from O1.out) b m nm cb rfl HNm.out.symm (RB.out.below B1.out) (by have := HNl.out; have := HNm.out; simp; omega) B1.out.size ?_; intro A2 n2 c2 w2 hn2 ho2 hb2 _; have O2 := Lib.hid ho2; have B2 := Lib.hid (B1.out.trans hb2); have N2 := Lib.hid hn2; clear hn2 ho2 hb2))
  obtain ⟨all, hall⟩ : ∃ all, l ++ m = all := ⟨_, rfl⟩
  have e1 : [] ++ l ++ m = all := hall
  have O3 : RowKit.Hid (OwnH 29 w2 w.heap.size (.slice A2 n2 c2) all) := by have := O2.out; rw [e1] at this; exact this
  have N3 : RowKit.Hid (n2 = all.length) := by have := N2.out; rw [e1] at this; exact this
  have RL := Lib.hid (OwnH.rd O3.out)
  have HL2 : RowKit.Hid (∀ x ∈ all, In64 x.life) := by have := HL.out; rw [hall] at this; exact this
  have hn2 : n2 ≤ 400 := by have := N3.out; rw [← hall, List.length_append, HNl.out, HNm.out] at this; omega
  have MG : RowKit.Hid (mergeT l m = outT all all.length) := by unfold Hid mergeT outT; rw [hall, List.take_length]
  clear hall e1 O2 N2 O1 B1 O0 B0 HL RA RB HNl HNm
  go_loopw [6, 7] (fun vo i wr => ∃ (k : Nat) (A c : _) (n : Nat), k ≤ n2 ∧ i = .int .i64 k ∧ vo = .slice A n c ∧ n ≤ k ∧ RowKit.Hid (n = (outT all k).length) ∧ RowKit.Hid (StM w2 wr (.slice A n c) (outT all k))) (fun _ i _ => n2 - (intOf i).toNat)
  case atStart => exact ⟨0, none, 0, 0, Nat.zero_le _, rfl, rfl, Nat.le_refl _, rfl, OwnH.nil _ _ _, Below.refl _ _⟩
  case round =>
    obtain ⟨k, A, c, n, hk, rfl, rfl, hnk, HN, HS⟩ := hrel
    by_cases hlt : k < n2
    · obtain ⟨h, hh⟩ : ∃ h, all[k]? = some h := ⟨_, List.getElem?_eq_getElem (by have := N3.out; omega)⟩
      have hnext := fold_next hh
      have hlife := HL2.out h (by obtain ⟨h1, h2⟩ := List.getElem?_eq_some_iff.1 hh; rw [← h2]; exact List.getElem_mem _)
      obtain ⟨g0, o0, rfl, hg0, hr0, -⟩ := RL.out.at hh
      have NX : RowKit.Hid (outT all (k + 1) = insT (outT all k) h) := hnext
      have LF := Lib.hid hlife
      have R0 := Lib.hid hr0
      clear hh hnext hlife hr0
      have HI : RowKit.Hid (∀ (x : THd) {i : Nat}, (outT all k)[i]? = some x → In64 x.life) := fun x i hx => fold_all (P := fun x => In64 x.life) _ (by simp) (fun y hy => HL2.out y (List.mem_of_mem_take hy)) x (List.mem_of_getElem? hx)
      generalize outT all k = out at *
      go_wp2
      go_loopw [8] (fun at' wr2 => ∃ j : Nat, j ≤ n ∧ at' = .int .i64 j ∧ RowKit.Hid (∀ i x, i < j → out[i]? = some x → lexT x.id h.id) ∧ RowKit.Hid (StM w2 wr2 (.slice A n c) out)) (fun at' _ => n - (intOf at').toNat)
      case atStart => exact ⟨0, Nat.zero_le _, rfl, fun i x hi => by omega, HS.out⟩
      case round =>
        obtain ⟨j, hj, rfl, HJ, HS2⟩ := hrel
        by_cases hjn : j < n
        · obtain ⟨x, hx⟩ : ∃ x, out[j]? = some x := ⟨_, List.getElem?_eq_getElem (by have := HN.out; omega)⟩
          obtain ⟨g1, o1, rfl, hg1, hr1, -⟩ := (OwnH.rd HS2.out.1).at hx
          have R1 := Lib.hid hr1
          have HX := Lib.hid hx
          clear hr1 hx
          have x0 := mid_cell0 R1.out rfl
          have x1 := mid_cell R1.out 1 rfl
          have x2 := mid_cell R1.out 2 rfl
          have x3 := mid_cell R1.out 3 rfl
          have x4 := mid_cell R1.out 4 rfl
          have x5 := mid_cell R1.out 5 rfl
          have R2 : RowKit.Hid (wr.rangeAt g0 (o0 + k * 6) [.int .i64 h.id.d, .int .i64 h.id.o, .int .i64 h.id.k, .int .i64 h.id.n, .int .i64 h.seq, .int .i64 h.life]) := fun i v hv => (HS2.out.2.cell (p := ⟨g0, _, none⟩) hg0).trans (R0.out i v hv)
          have y0 := mid_cell0 R2.out rfl
          have y1 := mid_cell R2.out 1 rfl
          have y2 := mid_cell R2.out 2 rfl
          have y3 := mid_cell R2.out 3 rfl
          have y4 := mid_cell R2.out 4 rfl
          have y5 := mid_cell R2.out 5 rfl
          have hnc : n ≤ c := OwnH.cap HS2.out.1
          have hgx : g0 < wr.heap.size := Nat.lt_of_lt_of_le hg0 HS2.out.2.size
          obtain ⟨cv, hcv⟩ : ∃ cv, cmpT x.id h.id = cv := ⟨_, rfl⟩
          have hcc := HC x.id h.id
          rw [hcv] at hcc
          by_cases hlx : lexT x.id h.id
          · have hneg : decide (cv < 0) = true := by rw [← hcv]; exact decide_eq_true (cmp_neg.2 hlx)
            have HJ2 : RowKit.Hid (∀ i x, i < j + 1 → out[i]? = some x → lexT x.id h.id) := fun i y hi hy => by
              by_cases e : i = j
              · subst e; rw [HX.out] at hy; cases hy; exact hlx
              · exact HJ.out i y (by omega) hy
            clear hlx hcv
            have hgd : decide ((j : Int) < (n : Int)) = true := decide_eq_true (by omega)
            go_wp2
            go_region_held (fun W => W.cell? ⟨g1, o1 + j * 6, none⟩ = some (.int .i64 x.id.d) ∧ W.cell? ⟨g1, o1 + j * 6 + 1, none⟩ = some (.int .i64 x.id.o) ∧ W.cell? ⟨g1, o1 + j * 6 + 2, none⟩ = some (.int .i64 x.id.k) ∧ W.cell? ⟨g1, o1 + j * 6 + 3, none⟩ = some (.int .i64 x.id.n) ∧ W.cell? ⟨g0, o0 + k * 6, none⟩ = some (.int .i64 h.id.d) ∧ W.cell? ⟨g0, o0 + k * 6 + 1, none⟩ = some (.int .i64 h.id.o) ∧ W.cell? ⟨g0, o0 + k * 6 + 2, none⟩ = some (.int .i64 h.id.k) ∧ W.cell? ⟨g0, o0 + k * 6 + 3, none⟩ = some (.int .i64 h.id.n)) (first | exact ⟨x0, x1, x2, x3, y0, y1, y2, y3⟩ | exact ⟨by assumption, by assumption, by assumption, by assumption, by assumption, by assumption, by assumption, by assumption⟩)
              (first | (go_at_call 15; (with_reducible refine (hcc _).mono ?_); rintro e w5 ⟨rfl, hb5⟩; have c0 := (hb5.cell (p := ⟨g1, o1 + j * 6, none⟩) hg1).trans x0; have c1 := (hb5.cell (p := ⟨g1, o1 + j * 6 + 1, none⟩) hg1).trans x1; have c2 := (hb5.cell (p := ⟨g1, o1 + j * 6 + 2, none⟩) hg1).trans x2; have c3 := (hb5.cell (p := ⟨g1, o1 + j * 6 + 3, none⟩) hg1).trans x3; have e0 := (hb5.cell (p := ⟨g0, o0 + k * 6, none⟩) hgx).trans y0; have e1 := (hb5.cell (p := ⟨g0, o0 + k * 6 + 1, none⟩) hgx).trans y1; have e2 := (hb5.cell (p := ⟨g0, o0 + k * 6 + 2, none⟩) hgx).trans y2; have e3 := (hb5.cell (p := ⟨g0, o0 + k * 6 + 3, none⟩) hgx).trans y3; have B5 := Lib.hid hb5; clear hb5))
            go_wp2
            go_roundw
            case rel => exact ⟨j + 1, by omega, by go_num, HJ2, HS2.out.drew.step B5.out⟩
            case measure => simp [intOf]; omega
          · have hneg : decide (cv < 0) = false := by rw [← hcv]; exact decide_eq_false (fun q => hlx (cmp_neg.1 q))
            have hgd : decide ((j : Int) < (n : Int)) = true := decide_eq_true (by omega)
            have HLX := Lib.hid hlx
            clear hlx hcv
            go_wp2
            go_region_held (fun W => W.cell? ⟨g1, o1 + j * 6, none⟩ = some (.int .i64 x.id.d) ∧ W.cell? ⟨g1, o1 + j * 6 + 1, none⟩ = some (.int .i64 x.id.o) ∧ W.cell? ⟨g1, o1 + j * 6 + 2, none⟩ = some (.int .i64 x.id.k) ∧ W.cell? ⟨g1, o1 + j * 6 + 3, none⟩ = some (.int .i64 x.id.n) ∧ W.cell? ⟨g0, o0 + k * 6, none⟩ = some (.int .i64 h.id.d) ∧ W.cell? ⟨g0, o0 + k * 6 + 1, none⟩ = some (.int .i64 h.id.o) ∧ W.cell? ⟨g0, o0 + k * 6 + 2, none⟩ = some (.int .i64 h.id.k) ∧ W.cell? ⟨g0, o0 + k * 6 + 3, none⟩ = some (.int .i64 h.id.n)) (first | exact ⟨x0, x1, x2, x3, y0, y1, y2, y3⟩ | exact ⟨by assumption, by assumption, by assumption, by assumption, by assumption, by assumption, by assumption, by assumption⟩)
              (first | (go_at_call 15; (with_reducible refine (hcc _).mono ?_); rintro e w5 ⟨rfl, hb5⟩; have c0 := (hb5.cell (p := ⟨g1, o1 + j * 6, none⟩) hg1).trans x0; have c1 := (hb5.cell (p := ⟨g1, o1 + j * 6 + 1, none⟩) hg1).trans x1; have c2 := (hb5.cell (p := ⟨g1, o1 + j * 6 + 2, none⟩) hg1).trans x2; have c3 := (hb5.cell (p := ⟨g1, o1 + j * 6 + 3, none⟩) hg1).trans x3; have c4 := (hb5.cell (p := ⟨g1, o1 + j * 6 + 4, none⟩) hg1).trans x4; have c5 := (hb5.cell (p := ⟨g1, o1 + j * 6 + 5, none⟩) hg1).trans x5; have e0 := (hb5.cell (p := ⟨g0, o0 + k * 6, none⟩) hgx).trans y0; have e1 := (hb5.cell (p := ⟨g0, o0 + k * 6 + 1, none⟩) hgx).trans y1; have e2 := (hb5.cell (p := ⟨g0, o0 + k * 6 + 2, none⟩) hgx).trans y2; have e3 := (hb5.cell (p := ⟨g0, o0 + k * 6 + 3, none⟩) hgx).trans y3; have e4 := (hb5.cell (p := ⟨g0, o0 + k * 6 + 4, none⟩) hgx).trans y4; have e5 := (hb5.cell (p := ⟨g0, o0 + k * 6 + 5, none⟩) hgx).trans y5; have B5 := Lib.hid (HS2.out.drew.step hb5); have hg5 := Nat.lt_of_lt_of_le hg1 hb5.size; have hgx5 := Nat.lt_of_lt_of_le hgx hb5.size; clear hb5))
            clear x0 x1 x2 x3 x4 x5 y0 y1 y2 y3 y4 y5 hg1 hgx
            by_cases heq : x.id = h.id
            · have hde : decide (x.id = h.id) = true := decide_eq_true heq
              have IS := Lib.hid (ins_set HJ.out HX.out heq)
              obtain ⟨nv, hnv⟩ : ∃ nv, newT h x = nv := ⟨_, rfl⟩
              have hnn := rnewer_any h x LF.out (HI.out x HX.out)
              rw [hnv] at hnn
              have IS2 : RowKit.Hid (insT out h = if 0 < nv then out.set j h else out) := by have := IS.out; rw [hnv] at this; exact this
              clear heq hnv
              go_wp2
              go_quiet (fail)
              go_wp2
              by_cases hnp : 0 < nv
              · have hdn : decide (0 < nv) = true := decide_eq_true hnp
                have IS3 : RowKit.Hid (insT out h = out.set j h) := by have := IS2.out; rw [if_pos hnp] at this; exact this
                clear hnp
                go_region_held (fun W => W.cell? ⟨g1, o1 + j * 6, none⟩ = some (.int .i64 x.id.d) ∧ W.cell? ⟨g1, o1 + j * 6 + 1, none⟩ = some (.int .i64 x.id.o) ∧ W.cell? ⟨g1, o1 + j * 6 + 2, none⟩ = some (.int .i64 x.id.k) ∧ W.cell? ⟨g1, o1 + j * 6 + 3, none⟩ = some (.int .i64 x.id.n) ∧ W.cell? ⟨g1, o1 + j * 6 + 4, none⟩ = some (.int .i64 x.seq) ∧ W.cell? ⟨g1, o1 + j * 6 + 5, none⟩ = some (.int .i64 x.life) ∧ W.cell? ⟨g0, o0 + k * 6, none⟩ = some (.int .i64 h.id.d) ∧ W.cell? ⟨g0, o0 + k * 6 + 1, none⟩ = some (.int .i64 h.id.o) ∧ W.cell? ⟨g0, o0 + k * 6 + 2, none⟩ = some (.int .i64 h.id.k) ∧ W.cell? ⟨g0, o0 + k * 6 + 3, none⟩ = some (.int .i64 h.id.n) ∧ W.cell? ⟨g0, o0 + k * 6 + 4, none⟩ = some (.int .i64 h.seq) ∧ W.cell? ⟨g0, o0 + k * 6 + 5, none⟩ = some (.int .i64 h.life)) (first | exact ⟨c0, c1, c2, c3, c4, c5, e0, e1, e2, e3, e4, e5⟩ | exact ⟨by assumption, by assumption, by assumption, by assumption, by assumption, by assumption, by assumption, by assumption, by assumption, by assumption, by assumption, by assumption⟩)
                  (first | (go_at_call 17; (with_reducible refine (hnn _).mono ?_); rintro e w9 ⟨rfl, hb9⟩; have p0 := (hb9.cell (p := ⟨g1, o1 + j * 6, none⟩) hg5).trans c0; have p1 := (hb9.cell (p := ⟨g1, o1 + j * 6 + 1, none⟩) hg5).trans c1; have p2 := (hb9.cell (p := ⟨g1, o1 + j * 6 + 2, none⟩) hg5).trans c2; have p3 := (hb9.cell (p := ⟨g1, o1 + j * 6 + 3, none⟩) hg5).trans c3; have p4 := (hb9.cell (p := ⟨g1, o1 + j * 6 + 4, none⟩) hg5).trans c4; have p5 := (hb9.cell (p := ⟨g1, o1 + j * 6 + 5, none⟩) hg5).trans c5; have q0 := (hb9.cell (p := ⟨g0, o0 + k * 6, none⟩) hgx5).trans e0; have q1 := (hb9.cell (p := ⟨g0, o0 + k * 6 + 1, none⟩) hgx5).trans e1; have q2 := (hb9.cell (p := ⟨g0, o0 + k * 6 + 2, none⟩) hgx5).trans e2; have q3 := (hb9.cell (p := ⟨g0, o0 + k * 6 + 3, none⟩) hgx5).trans e3; have q4 := (hb9.cell (p := ⟨g0, o0 + k * 6 + 4, none⟩) hgx5).trans e4; have q5 := (hb9.cell (p := ⟨g0, o0 + k * 6 + 5, none⟩) hgx5).trans e5; have B9 := Lib.hid ((B5.out.drewN nq).drew.step hb9); have hb9 := True.intro; clear hb9))
                clear c0 c1 c2 c3 c4 c5 e0 e1 e2 e3 e4 e5
                have fz : ∀ i, w9.frozen? ⟨g1, i, none⟩ = false := fun i => OwnH.frozen B9.out.1 i
                go_wp2
                refine ⟨⟨k + 1, _, c, n, by omega, by go_num, rfl, by omega, ?_, ?_⟩, by simp [intOf]; omega⟩
                · unfold Hid; rw [NX.out, IS3.out, List.length_set]; exact HN.out
                · unfold Hid; rw [NX.out, IS3.out]; exact B9.out.put HX.out h
              · have hdn : decide (0 < nv) = false := decide_eq_false hnp
                have IS3 : RowKit.Hid (insT out h = out) := by have := IS2.out; rw [if_neg hnp] at this; exact this
                clear hnp
                go_region_held (fun W => W.cell? ⟨g1, o1 + j * 6, none⟩ = some (.int .i64 x.id.d) ∧ W.cell? ⟨g1, o1 + j * 6 + 1, none⟩ = some (.int .i64 x.id.o) ∧ W.cell? ⟨g1, o1 + j * 6 + 2, none⟩ = some (.int .i64 x.id.k) ∧ W.cell? ⟨g1, o1 + j * 6 + 3, none⟩ = some (.int .i64 x.id.n) ∧ W.cell? ⟨g1, o1 + j * 6 + 4, none⟩ = some (.int .i64 x.seq) ∧ W.cell? ⟨g1, o1 + j * 6 + 5, none⟩ = some (.int .i64 x.life) ∧ W.cell? ⟨g0, o0 + k * 6, none⟩ = some (.int .i64 h.id.d) ∧ W.cell? ⟨g0, o0 + k * 6 + 1, none⟩ = some (.int .i64 h.id.o) ∧ W.cell? ⟨g0, o0 + k * 6 + 2, none⟩ = some (.int .i64 h.id.k) ∧ W.cell? ⟨g0, o0 + k * 6 + 3, none⟩ = some (.int .i64 h.id.n) ∧ W.cell? ⟨g0, o0 + k * 6 + 4, none⟩ = some (.int .i64 h.seq) ∧ W.cell? ⟨g0, o0 + k * 6 + 5, none⟩ = some (.int .i64 h.life)) (first | exact ⟨c0, c1, c2, c3, c4, c5, e0, e1, e2, e3, e4, e5⟩ | exact ⟨by assumption, by assumption, by assumption, by assumption, by assumption, by assumption, by assumption, by assumption, by assumption, by assumption, by assumption, by assumption⟩)
                  (first | (go_at_call 17; (with_reducible refine (hnn _).mono ?_); rintro e w9 ⟨rfl, hb9⟩; have p0 := (hb9.cell (p := ⟨g1, o1 + j * 6, none⟩) hg5).trans c0; have p1 := (hb9.cell (p := ⟨g1, o1 + j * 6 + 1, none⟩) hg5).trans c1; have p2 := (hb9.cell (p := ⟨g1, o1 + j * 6 + 2, none⟩) hg5).trans c2; have p3 := (hb9.cell (p := ⟨g1, o1 + j * 6 + 3, none⟩) hg5).trans c3; have p4 := (hb9.cell (p := ⟨g1, o1 + j * 6 + 4, none⟩) hg5).trans c4; have p5 := (hb9.cell (p := ⟨g1, o1 + j * 6 + 5, none⟩) hg5).trans c5; have q0 := (hb9.cell (p := ⟨g0, o0 + k * 6, none⟩) hgx5).trans e0; have q1 := (hb9.cell (p := ⟨g0, o0 + k * 6 + 1, none⟩) hgx5).trans e1; have q2 := (hb9.cell (p := ⟨g0, o0 + k * 6 + 2, none⟩) hgx5).trans e2; have q3 := (hb9.cell (p := ⟨g0, o0 + k * 6 + 3, none⟩) hgx5).trans e3; have q4 := (hb9.cell (p := ⟨g0, o0 + k * 6 + 4, none⟩) hgx5).trans e4; have q5 := (hb9.cell (p := ⟨g0, o0 + k * 6 + 5, none⟩) hgx5).trans e5; have B9 := Lib.hid ((B5.out.drewN nq).drew.step hb9); have hb9 := True.intro; clear hb9))
                clear c0 c1 c2 c3 c4 c5 e0 e1 e2 e3 e4 e5
                go_wp2
                refine ⟨⟨k + 1, _, c, n, by omega, by go_num, rfl, by omega, ?_, ?_⟩, by simp [intOf]; omega⟩
                · unfold Hid; rw [NX.out, IS3.out]; exact HN.out
                · unfold Hid; rw [NX.out, IS3.out]; exact B9.out
            · have hde : decide (x.id = h.id) = false := decide_eq_false heq
              have IS := Lib.hid (ins_new HJ.out HX.out HLX.out heq)
              clear heq
              go_wp2
              go_quiet (fail)
              clear c0 c1 c2 c3 c4 c5 hcc
              generalize hX : World.drewN w5 nq = X0
              have ST : RowKit.Hid (StM w2 X0 (.slice (some ⟨g1, o1, none⟩) n c) out) := by rw [← hX]; exact B5.out.drewN nq
              have f0 : X0.cell? ⟨g0, o0 + k * 6, none⟩ = some (.int .i64 h.id.d) := by rw [← hX]; exact e0
              have f1 : X0.cell? ⟨g0, o0 + k * 6 + 1, none⟩ = some (.int .i64 h.id.o) := by rw [← hX]; exact e1
              have f2 : X0.cell? ⟨g0, o0 + k * 6 + 2, none⟩ = some (.int .i64 h.id.k) := by rw [← hX]; exact e2
              have f3 : X0.cell? ⟨g0, o0 + k * 6 + 3, none⟩ = some (.int .i64 h.id.n) := by rw [← hX]; exact e3
              have f4 : X0.cell? ⟨g0, o0 + k * 6 + 4, none⟩ = some (.int .i64 h.seq) := by rw [← hX]; exact e4
              have f5 : X0.cell? ⟨g0, o0 + k * 6 + 5, none⟩ = some (.int .i64 h.life) := by rw [← hX]; exact e5
              have hg6 : g0 < X0.heap.size := by rw [← hX]; exact hgx5
              have XA : RowKit.Hid (Below X0.heap.size X0 (X0.alloc (.cells #[] 29))) := (Below.refl _ _).alloc (Nat.le_refl _) _
              have TK : RowKit.Hid ((out.take j).length = j) := by have := HN.out; unfold Hid; rw [List.length_take]; omega
              have DR : RowKit.Hid ((out.drop j).length = n - j) := by have := HN.out; unfold Hid; rw [List.length_drop]; omega
              have SZ := Lib.hid ST.out.2.size
              have T1 : True := trivial
              have T2 : True := trivial
              clear hX e0 e1 e2 e3 e4 e5
              go_wp2_with (first
                | (at_builtin; have _t := T1; clear T1 _t; refine wpList_append_T rfl _ _ rfl X0.heap.size _ [] rfl (OwnH.empty 29 X0) (some ⟨g1, o1, none⟩) (out.take j) j c rfl TK.out.symm (((OwnH.rd ST.out.1).below XA.out).take _) (by rw [TK.out, List.length_nil]; omega) (by simp) ?_; intro A3 n3 c3 w6 hn3 ho3 hb3 _; have BX := XA.out.trans hb3; have l0 : w6.cell? ⟨g0, o0 + k * 6, none⟩ = some (.int .i64 h.id.d) := (BX.cell (p := ⟨g0, _, none⟩) hg6).trans f0; have l1 : w6.cell? ⟨g0, o0 + k * 6 + 1, none⟩ = some (.int .i64 h.id.o) := (BX.cell (p := ⟨g0, _, none⟩) hg6).trans f1; have l2 : w6.cell? ⟨g0, o0 + k * 6 + 2, none⟩ = some (.int .i64 h.id.k) := (BX.cell (p := ⟨g0, _, none⟩) hg6).trans f2; have l3 : w6.cell? ⟨g0, o0 + k * 6 + 3, none⟩ = some (.int .i64 h.id.n) := (BX.cell (p := ⟨g0, _, none⟩) hg6).trans f3; have l4 : w6.cell? ⟨g0, o0 + k * 6 + 4, none⟩ = some (.int .i64 h.seq) := (BX.cell (p := ⟨g0, _, none⟩) hg6).trans f4; have l5 : w6.cell? ⟨g0, o0 + k * 6 + 5, none⟩ = some (.int .i64 h.life) := (BX.cell (p := ⟨g0, _, none⟩) hg6).trans f5; have BX6 := Lib.hid BX; have O6 := Lib.hid ho3; have N6 := Lib.hid hn3; clear BX ho3 hn3 hb3)
                | (at_builtin; have _t := T2; clear T2 _t; go_must (refine wpList_append_T rfl _ _ rfl X0.heap.size _ ([] ++ out.take j) rfl (O6.out.below ((Below.refl _ _).alloc (Nat.le_refl _) _)) (some ⟨w6.heap.size, 0, none⟩) [h] 1 1 rfl rfl (RdT.made (Below.refl _ _)) (by rw [List.nil_append, TK.out, List.length_singleton]; omega) (by have := BX6.out.size; simp; omega) ?_; intro A4 n4 c4 w7 hn4 ho4 hb4 _; have BX7 := Lib.hid ((BX6.out.alloc BX6.out.size _).trans hb4); have O7 := Lib.hid ho4; have N7 := Lib.hid hn4; clear ho4 hn4 hb4))
                | (at_builtin; go_must (refine wpList_append_T rfl _ _ rfl X0.heap.size _ ([] ++ out.take j ++ [h]) rfl O7.out (some ⟨g1, o1 + j * 6, none⟩) (out.drop j) (n - j) (c - j) rfl DR.out.symm (((OwnH.rd ST.out.1).below BX7.out).drop _) (by rw [List.nil_append, List.length_append, TK.out, DR.out, List.length_singleton]; omega) BX7.out.size ?_; intro A5 n5 c5 w8 hn5 ho5 hb5 _; have BX8 := Lib.hid (BX7.out.trans hb5); have O8 := Lib.hid ho5; have N8 := Lib.hid hn5; clear ho5 hn5 hb5)))
              refine ⟨⟨k + 1, A5, c5, n5, by omega, by go_num, rfl, ?_, ?_, ?_⟩, by simp [intOf]; omega⟩
              · have := N8.out; rw [List.nil_append, List.length_append, List.length_append, TK.out, DR.out, List.length_singleton] at this; omega
              · unfold Hid; rw [NX.out, IS.out, N8.out, List.nil_append]
              · unfold Hid; rw [NX.out, IS.out]; exact ⟨(show OwnH 29 w8 X0.heap.size _ _ from by have := O8.out; rw [List.nil_append] at this; exact this).mono SZ.out, ST.out.2.trans (BX8.out.mono SZ.out)⟩
        · obtain rfl : j = n := by omega
          have hgd : decide ((j : Int) < (j : Int)) = false := decide_eq_false (by omega)
          have IS : RowKit.Hid (insT out h = out.take j ++ [h] ++ []) := by
            have h1 := HN.out
            have h2 := HJ.out
            rw [h1] at h2 ⊢
            have := ins_last h2
            rwa [List.drop_length] at this
          have hnc : j ≤ c := OwnH.cap HS2.out.1
          have R2 : RowKit.Hid (wr.rangeAt g0 (o0 + k * 6) [.int .i64 h.id.d, .int .i64 h.id.o, .int .i64 h.id.k, .int .i64 h.id.n, .int .i64 h.seq, .int .i64 h.life]) := fun i v hv => (HS2.out.2.cell (p := ⟨g0, _, none⟩) hg0).trans (R0.out i v hv)
          have hgx : g0 < wr.heap.size := Nat.lt_of_lt_of_le hg0 HS2.out.2.size
          rcases HS2.out.1.form with ⟨he, hl⟩ | ⟨g', cap, he, -⟩
          · cases he
            clear hl
            go_wp2
            go_quiet (fail)
            obtain ⟨w3, hw3⟩ : ∃ w3, World.drewN wr nq = w3 := ⟨_, rfl⟩
            rw [hw3]
            have WST : StM w2 w3 (.slice none 0 0) out := by rw [← hw3]; exact HS2.out.drewN _
            go_wp2
            go_quiet (fail)
            generalize hX : World.drewN w3 nq = X0
            have ST : RowKit.Hid (StM w2 X0 (.slice none 0 0) out) := by rw [← hX]; exact WST.drewN nq
            have f0 : X0.cell? ⟨g0, o0 + k * 6, none⟩ = some (.int .i64 h.id.d) := by rw [← hX, ← hw3]; exact mid_cell0 R2.out rfl
            have f1 : X0.cell? ⟨g0, o0 + k * 6 + 1, none⟩ = some (.int .i64 h.id.o) := by rw [← hX, ← hw3]; exact mid_cell R2.out 1 rfl
            have f2 : X0.cell? ⟨g0, o0 + k * 6 + 2, none⟩ = some (.int .i64 h.id.k) := by rw [← hX, ← hw3]; exact mid_cell R2.out 2 rfl
            have f3 : X0.cell? ⟨g0, o0 + k * 6 + 3, none⟩ = some (.int .i64 h.id.n) := by rw [← hX, ← hw3]; exact mid_cell R2.out 3 rfl
            have f4 : X0.cell? ⟨g0, o0 + k * 6 + 4, none⟩ = some (.int .i64 h.seq) := by rw [← hX, ← hw3]; exact mid_cell R2.out 4 rfl
            have f5 : X0.cell? ⟨g0, o0 + k * 6 + 5, none⟩ = some (.int .i64 h.life) := by rw [← hX, ← hw3]; exact mid_cell R2.out 5 rfl
            have hg6 : g0 < X0.heap.size := by rw [← hX, ← hw3]; exact hgx
            have XA : RowKit.Hid (Below X0.heap.size X0 (X0.alloc (.cells #[] 29))) := (Below.refl _ _).alloc (Nat.le_refl _) _
            have TK : RowKit.Hid ((out.take 0).length = 0) := by have := HN.out; unfold Hid; rw [List.length_take]; omega
            have SZ := Lib.hid ST.out.2.size
            have T1 : True := trivial
            have T2 : True := trivial
            clear hX
            go_wp2_with (first
              | (at_builtin; have _t := T1; clear T1 _t; refine wpList_append_T rfl _ _ rfl X0.heap.size _ [] rfl (OwnH.empty 29 X0) none (out.take 0) 0 0 rfl TK.out.symm (((OwnH.rd ST.out.1).below XA.out).take _) (by rw [TK.out, List.length_nil]; omega) (by simp) ?_; intro A3 n3 c3 w6 hn3 ho3 hb3 _; have BX := XA.out.trans hb3; have l0 : w6.cell? ⟨g0, o0 + k * 6, none⟩ = some (.int .i64 h.id.d) := (BX.cell (p := ⟨g0, _, none⟩) hg6).trans f0; have l1 : w6.cell? ⟨g0, o0 + k * 6 + 1, none⟩ = some (.int .i64 h.id.o) := (BX.cell (p := ⟨g0, _, none⟩) hg6).trans f1; have l2 : w6.cell? ⟨g0, o0 + k * 6 + 2, none⟩ = some (.int .i64 h.id.k) := (BX.cell (p := ⟨g0, _, none⟩) hg6).trans f2; have l3 : w6.cell? ⟨g0, o0 + k * 6 + 3, none⟩ = some (.int .i64 h.id.n) := (BX.cell (p := ⟨g0, _, none⟩) hg6).trans f3; have l4 : w6.cell? ⟨g0, o0 + k * 6 + 4, none⟩ = some (.int .i64 h.seq) := (BX.cell (p := ⟨g0, _, none⟩) hg6).trans f4; have l5 : w6.cell? ⟨g0, o0 + k * 6 + 5, none⟩ = some (.int .i64 h.life) := (BX.cell (p := ⟨g0, _, none⟩) hg6).trans f5; have BX6 := Lib.hid BX; have O6 := Lib.hid ho3; have N6 := Lib.hid hn3; clear BX ho3 hn3 hb3)
              | (at_builtin; have _t := T2; clear T2 _t; go_must (refine wpList_append_T rfl _ _ rfl X0.heap.size _ ([] ++ out.take 0) rfl (O6.out.below ((Below.refl _ _).alloc (Nat.le_refl _) _)) (some ⟨w6.heap.size, 0, none⟩) [h] 1 1 rfl rfl (RdT.made (Below.refl _ _)) (by rw [List.nil_append, TK.out, List.length_singleton]; omega) (by have := BX6.out.size; simp; omega) ?_; intro A4 n4 c4 w7 hn4 ho4 hb4 _; have BX7 := Lib.hid ((BX6.out.alloc BX6.out.size _).trans hb4); have O7 := Lib.hid ho4; have N7 := Lib.hid hn4; clear ho4 hn4 hb4))
              | (at_builtin; go_must (refine wpList_append_T rfl _ _ rfl X0.heap.size _ ([] ++ out.take 0 ++ [h]) rfl O7.out _ [] _ _ rfl (by simp) (fun _ _ h => by simp at h) (by rw [List.nil_append, List.length_append, TK.out, List.length_singleton, List.length_nil]; omega) BX7.out.size ?_; intro A5 n5 c5 w8 hn5 ho5 hb5 _; have BX8 := Lib.hid (BX7.out.trans hb5); have O8 := Lib.hid ho5; have N8 := Lib.hid hn5; clear ho5 hn5 hb5)))
            refine ⟨⟨k + 1, A5, c5, n5, by omega, by go_num, rfl, ?_, ?_, ?_⟩, by simp [intOf]; omega⟩
            · have := N8.out; rw [List.nil_append, List.length_append, List.length_append, TK.out, List.length_nil, List.length_singleton] at this; omega
            · unfold Hid; rw [NX.out, IS.out, N8.out, List.nil_append]
            · unfold Hid; rw [NX.out, IS.out]; exact ⟨(show OwnH 29 w8 X0.heap.size _ _ from by have := O8.out; rw [List.nil_append] at this; exact this).mono SZ.out, ST.out.2.trans (BX8.out.mono SZ.out)⟩
          · obtain ⟨g1, o1, rfl⟩ : ∃ g o, A = some ⟨g, o, none⟩ := ⟨g', 0, by cases he; rfl⟩
            clear he
            go_wp2
            go_quiet (fail)
            obtain ⟨w3, hw3⟩ : ∃ w3, World.drewN wr nq = w3 := ⟨_, rfl⟩
            rw [hw3]
            have WST : StM w2 w3 (.slice (some ⟨g1, o1, none⟩) j c) out := by rw [← hw3]; exact HS2.out.drewN _
            go_wp2
            go_quiet (fail)
            generalize hX : World.drewN w3 nq = X0
            have ST : RowKit.Hid (StM w2 X0 (.slice (some ⟨g1, o1, none⟩) j c) out) := by rw [← hX]; exact WST.drewN nq
            have f0 : X0.cell? ⟨g0, o0 + k * 6, none⟩ = some (.int .i64 h.id.d) := by rw [← hX, ← hw3]; exact mid_cell0 R2.out rfl
            have f1 : X0.cell? ⟨g0, o0 + k * 6 + 1, none⟩ = some (.int .i64 h.id.o) := by rw [← hX, ← hw3]; exact mid_cell R2.out 1 rfl
            have f2 : X0.cell? ⟨g0, o0 + k * 6 + 2, none⟩ = some (.int .i64 h.id.k) := by rw [← hX, ← hw3]; exact mid_cell R2.out 2 rfl
            have f3 : X0.cell? ⟨g0, o0 + k * 6 + 3, none⟩ = some (.int .i64 h.id.n) := by rw [← hX, ← hw3]; exact mid_cell R2.out 3 rfl
            have f4 : X0.cell? ⟨g0, o0 + k * 6 + 4, none⟩ = some (.int .i64 h.seq) := by rw [← hX, ← hw3]; exact mid_cell R2.out 4 rfl
            have f5 : X0.cell? ⟨g0, o0 + k * 6 + 5, none⟩ = some (.int .i64 h.life) := by rw [← hX, ← hw3]; exact mid_cell R2.out 5 rfl
            have hg6 : g0 < X0.heap.size := by rw [← hX, ← hw3]; exact hgx
            have XA : RowKit.Hid (Below X0.heap.size X0 (X0.alloc (.cells #[] 29))) := (Below.refl _ _).alloc (Nat.le_refl _) _
            have TK : RowKit.Hid ((out.take j).length = j) := by have := HN.out; unfold Hid; rw [List.length_take]; omega
            have SZ := Lib.hid ST.out.2.size
            have T1 : True := trivial
            have T2 : True := trivial
            clear hX
            go_wp2_with (first
              | (at_builtin; have _t := T1; clear T1 _t; refine wpList_append_T rfl _ _ rfl X0.heap.size _ [] rfl (OwnH.empty 29 X0) (some ⟨g1, o1, none⟩) (out.take j) j c rfl TK.out.symm (((OwnH.rd ST.out.1).below XA.out).take _) (by rw [TK.out, List.length_nil]; omega) (by simp) ?_; intro A3 n3 c3 w6 hn3 ho3 hb3 _; have BX := XA.out.trans hb3; have l0 : w6.cell? ⟨g0, o0 + k * 6, none⟩ = some (.int .i64 h.id.d) := (BX.cell (p := ⟨g0, _, none⟩) hg6).trans f0; have l1 : w6.cell? ⟨g0, o0 + k * 6 + 1, none⟩ = some (.int .i64 h.id.o) := (BX.cell (p := ⟨g0, _, none⟩) hg6).trans f1; have l2 : w6.cell? ⟨g0, o0 + k * 6 + 2, none⟩ = some (.int .i64 h.id.k) := (BX.cell (p := ⟨g0, _, none⟩) hg6).trans f2; have l3 : w6.cell? ⟨g0, o0 + k * 6 + 3, none⟩ = some (.int .i64 h.id.n) := (BX.cell (p := ⟨g0, _, none⟩) hg6).trans f3; have l4 : w6.cell? ⟨g0, o0 + k * 6 + 4, none⟩ = some (.int .i64 h.seq) := (BX.cell (p := ⟨g0, _, none⟩) hg6).trans f4; have l5 : w6.cell? ⟨g0, o0 + k * 6 + 5, none⟩ = some (.int .i64 h.life) := (BX.cell (p := ⟨g0, _, none⟩) hg6).trans f5; have BX6 := Lib.hid BX; have O6 := Lib.hid ho3; have N6 := Lib.hid hn3; clear BX ho3 hn3 hb3)
              | (at_builtin; have _t := T2; clear T2 _t; go_must (refine wpList_append_T rfl _ _ rfl X0.heap.size _ ([] ++ out.take j) rfl (O6.out.below ((Below.refl _ _).alloc (Nat.le_refl _) _)) (some ⟨w6.heap.size, 0, none⟩) [h] 1 1 rfl rfl (RdT.made (Below.refl _ _)) (by rw [List.nil_append, TK.out, List.length_singleton]; omega) (by have := BX6.out.size; simp; omega) ?_; intro A4 n4 c4 w7 hn4 ho4 hb4 _; have BX7 := Lib.hid ((BX6.out.alloc BX6.out.size _).trans hb4); have O7 := Lib.hid ho4; have N7 := Lib.hid hn4; clear ho4 hn4 hb4))
              | (at_builtin; go_must (refine wpList_append_T rfl _ _ rfl X0.heap.size _ ([] ++ out.take j ++ [h]) rfl O7.out _ [] _ _ rfl (by simp) (fun _ _ h => by simp at h) (by rw [List.nil_append, List.length_append, TK.out, List.length_singleton, List.length_nil]; omega) BX7.out.size ?_; intro A5 n5 c5 w8 hn5 ho5 hb5 _; have BX8 := Lib.hid (BX7.out.trans hb5); have O8 := Lib.hid ho5; have N8 := Lib.hid hn5; clear ho5 hn5 hb5)))
            refine ⟨⟨k + 1, A5, c5, n5, by omega, by go_num, rfl, ?_, ?_, ?_⟩, by simp [intOf]; omega⟩
            · have := N8.out; rw [List.nil_append, List.length_append, List.length_append, TK.out, List.length_nil, List.length_singleton] at this; omega
            · unfold Hid; rw [NX.out, IS.out, N8.out, List.nil_append]
            · unfold Hid; rw [NX.out, IS.out]; exact ⟨(show OwnH 29 w8 X0.heap.size _ _ from by have := O8.out; rw [List.nil_append] at this; exact this).mono SZ.out, ST.out.2.trans (BX8.out.mono SZ.out)⟩
    · have hfin : k = n2 := by omega
      subst hfin
      have HE := HS.out.1
      rw [N3.out, ← MG.out] at HE
      have HEND : RowKit.Hid (OwnH 29 wr w2.heap.size (.slice A n c) (mergeT l m)) := HE
      have HB9 : RowKit.Hid (Below w.heap.size w wr) := B2.out.trans (HS.out.2.mono B2.out.size)
      clear HE
      go_wp2
      go_ret
      exact ⟨_, rfl, HEND.out.mono B2.out.size, HB9.out⟩
end
end Go.Proofs.Yticbdodpclnanaa
