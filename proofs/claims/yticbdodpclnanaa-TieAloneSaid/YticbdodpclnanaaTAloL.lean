/-
  TieAlone: merged with oneself, or with nothing, what rises stays so; nothing newer was there.
-/
import Derived.Test.YticbdodpclnanaaTSort
namespace Go.Proofs.Yticbdodpclnanaa
set_option linter.unusedSimpArgs false
set_option linter.unusedVariables false
open Go.RowKit
/-- The rows of the law. -/
structure StL (w : World) (A : Option Addr) (R : List THd) (B : Option Addr) (all : List THd) (W : World) : Prop where
  ra : RdT W A R
  rb : RdT W B all
  bel : Below w.heap.size w W
theorem StL.step {w W W' : World} {A B : Option Addr} {R all : List THd} (h : StL w A R B all W) (k : Below W.heap.size W W') : StL w A R B all W' := ⟨h.ra.below k, h.rb.below k, h.bel.trans (k.mono h.bel.size)⟩
theorem StL.drew {w W : World} {A B : Option Addr} {R all : List THd} (h : StL w A R B all W) : StL w A R B all W.drew := h.step (Below.refl _ _).drew
theorem StL.drewN {w W : World} {A B : Option Addr} {R all : List THd} (h : StL w A R B all W) (n : Nat) : StL w A R B all (W.drewN n) := h.step ⟨rfl, rfl, rfl, Nat.le_refl _, fun _ _ => rfl⟩
theorem RdT.nothing (W : World) : RdT W none [] := fun j p hj => by simp at hj
theorem asc_at {R : List THd} (h : AscT R) {i j : Nat} {x y : THd} (hx : R[i]? = some x) (hy : R[j]? = some y) (hij : i < j) : lexT x.id y.id := by
  obtain ⟨h1, e1⟩ := List.getElem?_eq_some_iff.1 hx
  obtain ⟨h2, e2⟩ := List.getElem?_eq_some_iff.1 hy
  have := List.pairwise_iff_getElem.1 h i j h1 h2 hij
  rwa [e1, e2] at this
/-- Among the first ones there is one of this id. -/
def HasT (R : List THd) (j : Nat) (i : TId) (b : Bool) : Prop := b = true ↔ ∃ (k : Nat) (x : THd), k < j ∧ R[k]? = some x ∧ x.id = i
theorem HasT.start (R : List THd) (i : TId) : HasT R 0 i false := by
  unfold HasT
  exact ⟨fun h => (by cases h), fun ⟨k, x, h, _, _⟩ => by omega⟩
theorem HasT.yes {R : List THd} {j : Nat} {i : TId} {x : THd} (hx : R[j]? = some x) (e : x.id = i) : HasT R (j + 1) i true := by
  unfold HasT
  exact ⟨fun _ => ⟨j, x, by omega, hx, e⟩, fun _ => rfl⟩
theorem HasT.no {R : List THd} {j : Nat} {i : TId} {b : Bool} (h : HasT R j i b) {x : THd} (hx : R[j]? = some x) (e : ¬ x.id = i) : HasT R (j + 1) i b := by
  unfold HasT at *
  refine h.trans ⟨fun ⟨k, y, h1, h2, h3⟩ => ⟨k, y, by omega, h2, h3⟩, fun ⟨k, y, h1, h2, h3⟩ => ?_⟩
  by_cases q : k = j
  · subst q; rw [hx] at h2; cases h2; exact absurd h3 e
  · exact ⟨k, y, by omega, h2, h3⟩
section
attribute [local go_sem high] eq_id
set_option maxHeartbeats 6400000 in
set_option maxRecDepth 100000 in
theorem alone_main (l : List THd) (a : Option Addr) (ca : Nat) (hca : l.length ≤ ca) (hol : ∀ x ∈ l, okH x) (m : List THd) (b : Option Addr) (cb : Nat) (hcb : m.length ≤ cb) (hom : ∀ x ∈ m, okH x) (w : World) (ra : RdT w a l) (rb : RdT w b m) (h1 : l.length ≤ 60) (h2 : m.length ≤ 60) : Calls Try.prog 8 #[.slice a l.length ca, .slice b m.length cb] w fun e w' => e = .returned (.bool true) ∧ Below w.heap.size w w' := by
  have hw := awake_any progT
  have hlen := merge_len l m
  have hok : ∀ x ∈ l ++ m, okH x := fun x hx => (List.mem_append.1 hx).elim (hol x) (hom x)
  have hasc := merge_asc l m
  have hokR : ∀ x ∈ mergeT l m, okH x := merge_all_of (P := okH) hol hom
  have hhas : ∀ z ∈ l ++ m, ∃ y ∈ mergeT l m, y.id = z.id := fun z hz => by obtain ⟨y, h1, h2, _⟩ := merge_has hz; exact ⟨y, h1, h2⟩
  have hall : ∀ z ∈ l ++ m, ∀ y ∈ mergeT l m, y.id = z.id → z.seq ≤ y.seq := fun z hz y hy e => merge_all hz hy e
  have hp : ∀ w1, Below w.heap.size w w1 → Calls Try.prog 23 #[.slice a l.length ca, .slice b m.length cb] w1 fun e w' => ∃ v, e = .returned v ∧ OwnH 29 w' w1.heap.size v (mergeT l m) ∧ Below w1.heap.size w1 w' := fun w1 hb => pmerge_any l m a b ca cb w1 (ra.below hb) (rb.below hb) (by omega) hca hcb hok
  have hq : ∀ (w1 : World) (A : Option Addr) (c : Nat), RdT w1 A (mergeT l m) → (mergeT l m).length ≤ c → Calls Try.prog 23 #[.slice A (mergeT l m).length c, .slice A (mergeT l m).length c] w1 fun e w' => ∃ v, e = .returned v ∧ OwnH 29 w' w1.heap.size v (mergeT l m) ∧ Below w1.heap.size w1 w' := fun w1 A c hr hc => by
    have := pmerge_any (mergeT l m) (mergeT l m) A A c c w1 hr hr (by omega) hc hc (fun x hx => hokR x (by simpa using hx))
    rwa [merge_self hasc] at this
  have hn : ∀ (w1 : World) (A : Option Addr) (c : Nat), RdT w1 A (mergeT l m) → (mergeT l m).length ≤ c → Calls Try.prog 23 #[.slice none 0 0, .slice A (mergeT l m).length c] w1 fun e w' => ∃ v, e = .returned v ∧ OwnH 29 w' w1.heap.size v (mergeT l m) ∧ Below w1.heap.size w1 w' := fun w1 A c hr hc => by
    have := pmerge_any [] (mergeT l m) none A 0 c w1 (RdT.nothing w1) hr (by simp; omega) (Nat.le_refl _) hc (fun x hx => hokR x (by simpa using hx))
    rwa [merge_none hasc] at this
  have hs : ∀ (A B : Option Addr) (c d : Nat) (W : World), RdT W A (mergeT l m) → RdT W B (mergeT l m) → (mergeT l m).length ≤ c → (mergeT l m).length ≤ d → Calls Try.prog 22 #[.slice A (mergeT l m).length c, .slice B (mergeT l m).length d] W fun e w' => e = .returned (.bool true) ∧ ∃ n, w' = W.drewN n := fun A B c d W h1 h2 h5 h6 => by
    have := same_any (mergeT l m) (mergeT l m) A B c d W h1 h2 (by omega) (by omega) h5 h6
    rwa [decide_eq_true rfl] at this
  obtain ⟨nl, hnl⟩ : ∃ n, l.length = n := ⟨_, rfl⟩
  obtain ⟨nm, hnm⟩ : ∃ n, m.length = n := ⟨_, rfl⟩
  obtain ⟨R, hR⟩ : ∃ R, mergeT l m = R := ⟨_, rfl⟩
  obtain ⟨all, hal⟩ : ∃ all, l ++ m = all := ⟨_, rfl⟩
  rw [hR] at hlen hasc hhas hall hp hq hn hs
  obtain ⟨nR, hnR⟩ : ∃ n, R.length = n := ⟨_, rfl⟩
  rw [hal] at hhas hall
  rw [hnl] at hlen h1 hp hca ⊢
  rw [hnm] at hlen h2 hp hcb ⊢
  rw [hnR] at hlen hq hn hs
  have g1 : decide ((60 : Int) < (nl : Int)) = false := decide_eq_false (by omega)
  have g2 : decide ((60 : Int) < (nm : Int)) = false := decide_eq_false (by omega)
  have hnR2 : nR ≤ 120 := by omega
  have HP := Lib.hid hp
  have HQ := Lib.hid hq
  have HN := Lib.hid hn
  have HS := Lib.hid hs
  have HH := Lib.hid hhas
  have HA := Lib.hid hall
  have ASC := Lib.hid hasc
  have RA := Lib.hid ra
  have RB := Lib.hid rb
  have NL := Lib.hid hnl
  have NM := Lib.hid hnm
  have NR := Lib.hid hnR
  have AL := Lib.hid hal
  have L1 := Lib.hid h1
  have L2 := Lib.hid h2
  have T1 : True := trivial
  have T2 : True := trivial
  have T3 : True := trivial
  have T4 : True := trivial
  clear hp hq hn hs hhas hall hasc ra rb hok hokR hlen hol hom hca hcb hR hnl hnm hnR hal h1 h2
  go_enter Try.func8, Try.ntmps8
  go_wp2_with (first
    | (go_at_call 11; refine (hw _).mono ?_; rintro e w1 ⟨rfl, hb⟩; have B1 := Lib.hid hb; clear hb)
    | (go_at_call 23; have _t := T1; clear T1 _t; refine (HP.out _ B1.out).mono ?_; rintro e w2 ⟨v, rfl, ho, hb⟩; obtain ⟨A, c, rfl⟩ := ho.shape; have c2 := Lib.hid ho.cap; rw [NR.out] at c2; have ho' := ho; rw [NR.out] at ho' ⊢; have O2 := Lib.hid ho'.rd; have B2 := Lib.hid (B1.out.trans (hb.mono B1.out.size)); clear ho ho' hb)
    | (go_at_call 23; have _t := T2; clear T2 _t; refine (HQ.out _ A c O2.out c2.out).mono ?_; rintro e w3 ⟨v3, rfl, ho, hb⟩; obtain ⟨A3, c3, rfl⟩ := ho.shape; have k3 := Lib.hid ho.cap; rw [NR.out] at k3; have ho' := ho; rw [NR.out] at ho' ⊢; have P3 := Lib.hid ho'.rd; have O3 := Lib.hid (O2.out.below hb); have B3 := Lib.hid (B2.out.trans (hb.mono B2.out.size)); clear ho ho' hb)
    | (go_at_call 23; refine (HN.out _ A c O3.out c2.out).mono ?_; rintro e w4 ⟨v4, rfl, ho, hb⟩; obtain ⟨A4, c4, rfl⟩ := ho.shape; have k4 := Lib.hid ho.cap; rw [NR.out] at k4; have ho' := ho; rw [NR.out] at ho' ⊢; have Q4 := Lib.hid ho'.rd; have P4 := Lib.hid (P3.out.below hb); have O4 := Lib.hid (O3.out.below hb); have B4 := Lib.hid (B3.out.trans (hb.mono B3.out.size)); clear ho ho' hb)
    | (go_at_call 22; have _t := T3; clear T3 _t; refine (HS.out A3 A c3 c _ P4.out O4.out k3.out c2.out).mono ?_; rintro e w5 ⟨rfl, n5, rfl⟩)
    | (go_at_call 22; refine (HS.out A4 A c4 c _ (Q4.out.below (W' := w4.drewN n5) ⟨rfl, rfl, rfl, Nat.le_refl _, fun _ _ => rfl⟩) (O4.out.below (W' := w4.drewN n5) ⟨rfl, rfl, rfl, Nat.le_refl _, fun _ _ => rfl⟩) k4.out c2.out).mono ?_; rintro e w6 ⟨rfl, n6, rfl⟩))
  have S0 : RowKit.Hid (StL w A R a l (w4.drewN (n5 + n6))) := ⟨O4.out.below ⟨rfl, rfl, rfl, Nat.le_refl _, fun _ _ => rfl⟩, (RA.out.below B4.out).below ⟨rfl, rfl, rfl, Nat.le_refl _, fun _ _ => rfl⟩, B4.out.trans ⟨rfl, rfl, rfl, Nat.le_refl _, fun _ _ => rfl⟩⟩
  have hcc : nR ≤ c := c2.out
  clear HP HQ HN HS O2 O3 O4 P3 P4 Q4 B1 B2 B3 B4 c2 k3 k4 hw
  go_loopw [9] (fun i wr => ∃ k : Nat, i = .int .i64 ((k : Int) + 1) ∧ k ≤ nR ∧ RowKit.Hid (StL w A R a l wr)) (fun i _ => nR + 1 - (intOf i).toNat)
  case atStart => exact ⟨0, by go_num, Nat.zero_le _, S0.out⟩
  case round =>
    obtain ⟨k, rfl, hk, HW⟩ := hrel
    by_cases hlt : k + 1 < nR
    · have hgd : decide ((k : Int) + 1 < (nR : Int)) = true := decide_eq_true (by omega)
      obtain ⟨x, hx⟩ : ∃ x, R[k]? = some x := ⟨_, List.getElem?_eq_getElem (by have := NR.out; omega)⟩
      obtain ⟨y, hy⟩ : ∃ y, R[k + 1]? = some y := ⟨_, List.getElem?_eq_getElem (by have := NR.out; omega)⟩
      have hlex := asc_at ASC.out hx hy (by omega)
      obtain ⟨g, o, rfl, hg, hr, -⟩ := HW.out.ra.at hx
      obtain ⟨g', o', e', _, hr2, -⟩ := HW.out.ra.at hy
      cases e'
      obtain ⟨cv, hcv⟩ : ∃ cv, cmpT x.id y.id = cv := ⟨_, rfl⟩
      have hneg : decide (0 ≤ cv) = false := by rw [← hcv]; exact decide_eq_false (by have := cmp_neg.2 hlex; omega)
      have hcc2 := progT.cmp x.id y.id
      rw [hcv] at hcc2
      have HCC := Lib.hid hcc2
      have x0 := mid_cell0 hr rfl
      have x1 := mid_cell hr 1 rfl
      have x2 := mid_cell hr 2 rfl
      have x3 := mid_cell hr 3 rfl
      have y0 := mid_cell0 hr2 rfl
      have y1 := mid_cell hr2 1 rfl
      have y2 := mid_cell hr2 2 rfl
      have y3 := mid_cell hr2 3 rfl
      clear hx hy hlex hcv hcc2 hr hr2
      have hsub : (k : Int) + 1 - 1 = k := by omega
      have hi0 : (0 : Int) ≤ (k : Int) + 1 := by omega
      have hlt2 : (k : Int) + 1 < (nR : Int) := by omega
      have hlt3 : (k : Int) < (nR : Int) := by omega
      have htn : ((k : Int) + 1).toNat = k + 1 := by omega
      have hwr : IntKind.i64.wrap ((k : Int) + 1 - 1) = k := by rw [hsub]; simp only [IntKind.wrap_i64]; omega
      have hwk : IntKind.i64.wrap (k : Int) = k := by simp only [IntKind.wrap_i64]; omega
      have hw1 : IntKind.i64.wrap ((k : Int) + 1 + 1) = (k : Int) + 1 + 1 := by simp only [IntKind.wrap_i64]; omega
      go_wp2
      go_region_held (fun W => W.cell? ⟨g, o + k * 6, none⟩ = some (.int .i64 x.id.d) ∧ W.cell? ⟨g, o + k * 6 + 1, none⟩ = some (.int .i64 x.id.o) ∧ W.cell? ⟨g, o + k * 6 + 2, none⟩ = some (.int .i64 x.id.k) ∧ W.cell? ⟨g, o + k * 6 + 3, none⟩ = some (.int .i64 x.id.n) ∧ W.cell? ⟨g, o + (k + 1) * 6, none⟩ = some (.int .i64 y.id.d) ∧ W.cell? ⟨g, o + (k + 1) * 6 + 1, none⟩ = some (.int .i64 y.id.o) ∧ W.cell? ⟨g, o + (k + 1) * 6 + 2, none⟩ = some (.int .i64 y.id.k) ∧ W.cell? ⟨g, o + (k + 1) * 6 + 3, none⟩ = some (.int .i64 y.id.n)) (first | exact ⟨x0, x1, x2, x3, y0, y1, y2, y3⟩ | exact ⟨by assumption, by assumption, by assumption, by assumption, by assumption, by assumption, by assumption, by assumption⟩)
        (first | (go_at_call 14; (with_reducible refine (HCC.out _).mono ?_); rintro e w7 ⟨rfl, hb⟩; have z0 := (hb.cell (p := ⟨g, o + k * 6, none⟩) hg).trans x0; have z1 := (hb.cell (p := ⟨g, o + k * 6 + 1, none⟩) hg).trans x1; have z2 := (hb.cell (p := ⟨g, o + k * 6 + 2, none⟩) hg).trans x2; have z3 := (hb.cell (p := ⟨g, o + k * 6 + 3, none⟩) hg).trans x3; have z4 := (hb.cell (p := ⟨g, o + (k + 1) * 6, none⟩) hg).trans y0; have z5 := (hb.cell (p := ⟨g, o + (k + 1) * 6 + 1, none⟩) hg).trans y1; have z6 := (hb.cell (p := ⟨g, o + (k + 1) * 6 + 2, none⟩) hg).trans y2; have z7 := (hb.cell (p := ⟨g, o + (k + 1) * 6 + 3, none⟩) hg).trans y3; have HW2 := Lib.hid (HW.out.drew.step hb); clear hb))
      go_wp2
      go_roundw
      case rel => exact ⟨k + 1, by go_num, by omega, HW2.out⟩
      case measure => simp [intOf]; omega
    · have hgd : decide ((k : Int) + 1 < (nR : Int)) = false := decide_eq_false (by omega)
      have W0 := HW
      obtain ⟨wq, hwq⟩ : ∃ wq, wr = wq := ⟨_, rfl⟩
      subst hwq
      have O0 := Lib.hid (OwnH.empty 29 wr)
      have B0 : RowKit.Hid (∀ A : Obj, Below wr.heap.size wr (wr.alloc A)) := fun A => (Below.refl _ wr).alloc (Nat.le_refl _) _
      have RB2 := Lib.hid (RB.out.below W0.out.bel)
      have T1 : True := trivial
      clear HW RA RB S0
      go_wp2_with (first
        | (at_builtin; have _t := T1; clear T1 _t; refine wpList_append_T rfl _ _ rfl wr.heap.size _ [] rfl O0.out a l nl ca rfl NL.out.symm (W0.out.rb.below (B0.out _)) (by have := NL.out; have := L1.out; simp; omega) (by simp) ?_; intro A1 n1 c1 w7 hn1 ho1 hb1 _; have O1 := Lib.hid ho1; have B1 := Lib.hid ((B0.out _).trans hb1); clear hn1 ho1 hb1)
        | (at_builtin; refine wpList_append_T rfl _ _ rfl wr.heap.size _ ([] ++ l) rfl (show OwnH 29 w7 wr.heap.size (.slice A1 n1 c1) ([] ++ l) from O1.out) b m nm cb rfl NM.out.symm (RB2.out.below B1.out) (by have := NL.out; have := NM.out; have := L1.out; have := L2.out; simp; omega) B1.out.size ?_; intro A2 n2 c2 w8 hn2 ho2 hb2 _; have O2 := Lib.hid ho2; have B2 := Lib.hid (B1.out.trans hb2); have N2 := Lib.hid hn2; clear hn2 ho2 hb2))
      have e1 : [] ++ l ++ m = all := AL.out
      have O3 : RowKit.Hid (OwnH 29 w8 wr.heap.size (.slice A2 n2 c2) all) := by have := O2.out; rw [e1] at this; exact this
      have N3 : RowKit.Hid (n2 = all.length) := by have := N2.out; rw [e1] at this; exact this
      have hn2 : n2 ≤ 120 := by have := N3.out; rw [← AL.out, List.length_append, NL.out, NM.out] at this; have := L1.out; have := L2.out; omega
      have hc2 : n2 ≤ c2 := O3.out.cap
      have S2 : RowKit.Hid (StL w A R A2 all w8) := ⟨W0.out.ra.below B2.out, O3.out.rd, W0.out.bel.trans (B2.out.mono W0.out.bel.size)⟩
      clear e1 O2 N2 O1 B1 O0 B0 RB2 W0 O3 B2
      go_loopw [11] (fun i wr => ∃ k : Nat, i = .int .i64 k ∧ k ≤ n2 ∧ RowKit.Hid (StL w A R A2 all wr)) (fun i _ => n2 - (intOf i).toNat)
      case atStart => exact ⟨0, rfl, Nat.zero_le _, S2.out⟩
      case round =>
        obtain ⟨k, rfl, hk, HW⟩ := hrel
        clear S2
        by_cases hlt : k < n2
        · obtain ⟨h, hh⟩ : ∃ h, all[k]? = some h := ⟨_, List.getElem?_eq_getElem (by have := N3.out; omega)⟩
          have hmem : h ∈ all := List.mem_of_getElem? hh
          have HH2 := Lib.hid (HH.out h hmem)
          have HA2 := Lib.hid (HA.out h hmem)
          have HHK := Lib.hid hh
          clear hmem hh
          go_wp2
          go_loopw [12, 13] (fun bo i wr2 => ∃ (j : Nat) (hb : Bool), bo = .bool hb ∧ i = .int .i64 j ∧ j ≤ nR ∧ RowKit.Hid (HasT R j h.id hb) ∧ RowKit.Hid (StL w A R A2 all wr2)) (fun _ i _ => nR - (intOf i).toNat)
          case atStart => exact ⟨0, false, rfl, rfl, Nat.zero_le _, HasT.start _ _, HW.out⟩
          case round =>
            obtain ⟨j, hb, rfl, rfl, hj, HT2, HW2⟩ := hrel
            by_cases hjn : j < nR
            · obtain ⟨x, hx⟩ : ∃ x, R[j]? = some x := ⟨_, List.getElem?_eq_getElem (by have := NR.out; omega)⟩
              obtain ⟨g, o, rfl, hg, hr, -⟩ := HW2.out.ra.at hx
              obtain ⟨g2, o2, rfl, hg2, hr2, -⟩ := HW2.out.rb.at HHK.out
              have x0 := mid_cell0 hr rfl
              have x1 := mid_cell hr 1 rfl
              have x2 := mid_cell hr 2 rfl
              have x3 := mid_cell hr 3 rfl
              have x4 := mid_cell hr 4 rfl
              have y0 := mid_cell0 hr2 rfl
              have y1 := mid_cell hr2 1 rfl
              have y2 := mid_cell hr2 2 rfl
              have y3 := mid_cell hr2 3 rfl
              have y4 := mid_cell hr2 4 rfl
              by_cases he : x.id = h.id
              · have hd : decide (x.id = h.id) = true := decide_eq_true he
                have hsq : decide (x.seq < h.seq) = false := decide_eq_false (by have := HA2.out x (List.mem_of_getElem? hx) he; omega)
                have HY := Lib.hid (HasT.yes hx he)
                clear hx he hr hr2
                go_wp2
                go_quiet (fail)
                go_wp2
                go_quiet (fail)
                go_wp2
                go_roundw
                case rel => exact ⟨j + 1, true, rfl, by go_num, by omega, HY.out, HW2.out.drewN _⟩
                case measure => simp [intOf]; omega
              · have hd : decide (x.id = h.id) = false := decide_eq_false he
                have HY := Lib.hid (HT2.out.no hx he)
                clear hx he hr hr2
                go_wp2
                go_quiet (fail)
                go_wp2
                go_roundw
                case rel => exact ⟨j + 1, hb, rfl, by go_num, by omega, HY.out, HW2.out.drewN _⟩
                case measure => simp [intOf]; omega
            · obtain rfl : j = nR := by omega
              have hbt : hb = true := by
                obtain ⟨y, hy, e⟩ := HH2.out
                obtain ⟨i, hi, e2⟩ := List.getElem_of_mem hy
                exact HT2.out.2 ⟨i, y, by have := NR.out; omega, by rw [List.getElem?_eq_getElem hi, e2], e⟩
              subst hbt
              go_wp2
              go_roundw
              case rel => exact ⟨k + 1, by go_num, by omega, HW2.out⟩
              case measure => simp [intOf]; omega
        · obtain rfl : k = n2 := by omega
          go_wp2
          go_ret
          exact ⟨rfl, HW.out.bel⟩
end
set_option maxHeartbeats 1600000 in
set_option maxRecDepth 100000 in
theorem alone_law (l : List THd) (a : Option Addr) (ca : Nat) (hca : l.length ≤ ca) (hol : ∀ x ∈ l, okH x) (m : List THd) (b : Option Addr) (cb : Nat) (hcb : m.length ≤ cb) (hom : ∀ x ∈ m, okH x) (w : World) (ra : RdT w a l) (rb : RdT w b m) : Calls Try.prog 8 #[.slice a l.length ca, .slice b m.length cb] w fun e w' => e = .returned (.bool true) ∧ Below w.heap.size w w' := by
  by_cases h1 : l.length ≤ 60
  · by_cases h2 : m.length ≤ 60
    · exact alone_main l a ca hca hol m b cb hcb hom w ra rb h1 h2
    · have hw := awake_any progT
      have g1 : decide ((60 : Int) < (l.length : Int)) = false := decide_eq_false (by omega)
      have g2 : decide ((60 : Int) < (m.length : Int)) = true := decide_eq_true (by omega)
      generalize l.length = nl at *
      generalize m.length = nm at *
      clear h1 h2 ra rb hol hom hca hcb
      go_enter Try.func8, Try.ntmps8
      go_wp2_with (first
        | (go_at_call 11; refine (hw _).mono ?_; rintro e w1 ⟨rfl, hb⟩; have B1 := Lib.hid hb; clear hb))
      go_ret
      exact ⟨rfl, B1.out⟩
  · have hw := awake_any progT
    have g1 : decide ((60 : Int) < (l.length : Int)) = true := decide_eq_true (by omega)
    generalize l.length = nl at *
    generalize m.length = nm at *
    clear h1 ra rb hol hom hca hcb
    go_enter Try.func8, Try.ntmps8
    go_wp2_with (first
      | (go_at_call 11; refine (hw _).mono ?_; rintro e w1 ⟨rfl, hb⟩; have B1 := Lib.hid hb; clear hb))
    go_ret
    exact ⟨rfl, B1.out⟩
end Go.Proofs.Yticbdodpclnanaa
