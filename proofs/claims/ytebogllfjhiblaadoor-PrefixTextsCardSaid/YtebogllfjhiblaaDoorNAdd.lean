/-
  PREFIXES: a list of joined ones and one more: what the program answers.
-/
import Derived.Test.YtebogllfjhiblaaDoorNOwn
import Derived.IntWalk
namespace Go.Proofs.YtebogllfjhiblaaDoor
set_option linter.unusedVariables false
open Go.RowKit
def lenV : Value → Nat
  | .slice _ n _ => n
  | _ => 0
def OkP (p : Nat × Int) : Prop := p.1 < 4294967296 ∧ rightB p.2 = true
/-- Where the loop of add stands. -/
structure AddAt (w : World) (base : Nat) (R : List (Nat × Int)) (v : Value) (st : List (Nat × Int)) (p : Nat × Int) (wr : World) : Prop where
  res : addR st p = R
  own : OwnP wr base v st.reverse
  box : Bx wr w.heap.size (.int .u32 p.1) (.int .i64 p.2)
  bel : Below base w wr
  blk : ∀ g, v.ownBlock = some g → g < w.heap.size
  ok : ∀ q ∈ st, OkP q
  okp : OkP p
  len : st.length ≤ 1000
theorem AddAt.step {w : World} {base : Nat} {R : List (Nat × Int)} {v : Value} {st : List (Nat × Int)} {p : Nat × Int} {wr w1 : World} (h : AddAt w base R v st p wr) (hb : Below wr.heap.size wr w1) (hB : base ≤ wr.heap.size) : AddAt w base R v st p w1 :=
  ⟨h.res, h.own.below hb (Nat.le_refl _), h.box.keep hb h.box.lt, h.bel.trans (hb.mono hB), h.blk, h.ok, h.okp, h.len⟩
theorem set_grown (W : World) (k : Nat) (x y : Value) : W.grownBy ((W.setCell ⟨k, 0, none⟩ x).setCell ⟨k, 1, none⟩ y) (some k) :=
  ⟨rfl, rfl, rfl, by simp, fun j _ hne => by
    have hj : j ≠ k := fun e => hne (by rw [e])
    rw [heap_setCell_other _ _ _ _ hj, heap_setCell_other _ _ _ _ hj]⟩
theorem boxedA {w : World} {o : Obj} {w' : World} (h : Below (w.alloc o).heap.size (w.alloc o) w') : Below w.heap.size w w' := ((Below.refl _ _).alloc (Nat.le_refl _) _).trans (h.mono (by simp))
theorem OwnP.push {W : World} {base : Nat} {v : Value} {l : List (Nat × Int)} {p : Nat × Int} (h : W.ownsRow base 24 2 v (l.length + 1) (rowP l ++ cellsP p)) : OwnP W base v (l ++ [p]) := by
  unfold OwnP
  rw [rowP_append, rowP_one, List.length_append]
  exact h
theorem rowP_one_cell1 (p : Nat × Int) : ∀ u ∈ cellsP p, u.oneCell' = true := by rw [← rowP_one]; exact rowP_one_cell
theorem Tryd.infoPx : (Tryd.prog.info? 24).map (fun i => (i.zero, i.size, i.bytes)) = some (some (.agg #[.int .u32 0, .int .i64 0]), 2, 16) := by kernel_rfl
set_option maxHeartbeats 1600000 in
set_option maxRecDepth 100000 in
theorem add_any (base : Nat) (v : Value) (st : List (Nat × Int)) (p : Nat × Int) (hok : ∀ q ∈ st, OkP q) (hp : OkP p) (hl : st.length ≤ 1000) (w : World) (ho : OwnP w base v st.reverse) (hb : base ≤ w.heap.size) :
    Calls Tryd.prog 40 #[v, .agg #[.int .u32 p.1, .int .i64 p.2]] w fun e w' => (∃ v', e = .returned v' ∧ OwnP w' base v' (addR st p).reverse) ∧ Below base w w' := by
  have hat : AddAt w base (addR st p) v st p (w.alloc (.cells #[.int .u32 p.1, .int .i64 p.2] 24)) :=
    ⟨rfl, ho.alloc _, Bx.new _ _ _, (Below.refl _ _).alloc hb _, fun g hg => (World.ownsRow.lt ho g hg).2, hok, hp, hl⟩
  have HAT := Lib.hid hat
  generalize addR st p = R at *
  clear hok hp hl ho hat
  obtain ⟨i0, hi, hz0, hz1, hz2⟩ := info_parts Tryd.infoPx
  go_enter Tryd.func40, Tryd.ntmps40
  go_wp2
  go_loopw [0] (fun v wr => ∃ st p, Hid (AddAt w base R v st p wr)) (fun v _ => lenV v)
  case atStart => exact ⟨st, p, HAT⟩
  case round =>
    obtain ⟨st, p, HA⟩ := hrel
    clear HAT
    obtain ⟨a, cap, hv⟩ : ∃ a cap, u0 = .slice a st.length cap := by
      rcases HA.out.own.form with ⟨e, hs⟩ | ⟨g, cap, e, _⟩
      · exact ⟨none, 0, by rw [e, show st = [] by simpa using hs]; rfl⟩
      · exact ⟨_, cap, by rw [e, List.length_reverse]⟩
    subst hv
    obtain ⟨k0, k1, _, _⟩ := HA.out.box.cells
    match st with
    | [] =>
      go_wp2_with (at_builtin; skip; refine Hid.out ?_)
      refine Lib.hid ?_
      refine wpList_append_own _ rfl _ _ 37 rfl base 24 i0 (.agg #[.int .u32 0, .int .i64 0]) 2 16 Tryd.underlying37 hi hz0 hz1 hz2 rfl (by decide) _ _ _ rfl (HA.out.own.alloc _) ⟨_, 0, none⟩ 1 1 (cellsP p) rfl rfl (cell_two_new wr _ _ _) (rowP_one_cell1 p) (by have := HA.out.len; unfold maxLen; first | (simp; done) | (simp; omega) | (simp at *; omega)) (by have := HA.out.len; first | (simp; done) | (simp; omega) | (simp at *; omega)) (by have := HA.out.bel.size; simp only [World.size_alloc]; omega) ?_
      intro v1 w1 ho1 hg1 hn1
      have HO : Hid (OwnP w1 base v1 ([] ++ [p])) := OwnP.push (l := []) ho1
      have HB := Lib.hid ((HA.out.bel.alloc (by have := HA.out.bel.size; omega) (.cells #[.int .u32 p.1, .int .i64 p.2] 24)).grown hg1 (by have := HA.out.bel.size; simp only [World.size_alloc]; omega) (fun k hk => (World.ownsRow.lt (HA.out.own.alloc (.cells #[.int .u32 p.1, .int .i64 p.2] 24)) k hk).1))
      clear ho1 hg1 hn1
      go_wp2
      go_ret
      exact ⟨⟨v1, rfl, by rw [← HA.out.res]; exact HO.out⟩, HB.out⟩
    | q :: st =>
      have hbs : base ≤ wr.heap.size := Nat.le_trans hb HA.out.bel.size
      have hcap : st.length < cap := by
        rcases HA.out.own.form with ⟨e, _⟩ | ⟨g, c, e, _, _, hn, _⟩
        · injection e with _ e2 _; simp at e2
        · injection e with _ _ e3; rw [e3]; simp at hn; omega
      obtain ⟨g, hg, hgk⟩ : ∃ g, a = some ⟨g, 0, none⟩ ∧ g < w.heap.size := by
        rcases HA.out.own.form with ⟨e, _⟩ | ⟨g, c, e, _, _⟩
        · injection e with _ e2 _; simp at e2
        · injection e with e1 _ _; exact ⟨g, e1, HA.out.blk g (by rw [e1]; rfl)⟩
      subst hg
      obtain ⟨q0, q1⟩ := HA.out.own.cell (show (q :: st).reverse[st.length]? = some q by simp)
      have hn1 : st.length ≤ 1000 := by have := HA.out.len; simp at this; omega
      have hn2 : (st.length : Int) ≤ 1000 := by omega
      have hz := HA.out.box.lt
      have HQ := Lib.hid (HA.out.ok q (by simp))
      have HP := Lib.hid HA.out.okp
      have hcv := covers_any q.1 HQ.out.1 q.2 p.1 HP.out.1 p.2
      by_cases hc : coversP q p = true
      · rw [show ((q.1, q.2) : Nat × Int) = q from rfl, show ((p.1, p.2) : Nat × Int) = p from rfl, hc] at hcv
        have hR := HA.out.res
        unfold addR at hR
        rw [if_pos hc] at hR
        have HR := Lib.hid hR
        clear hR hc
        go_wp2_with (go_at_call 22; refine (hcv _).mono ?_; rintro e w1 ⟨rfl, hb1⟩; have HA1 := Lib.hid (HA.out.step (boxedA hb1) hbs); clear hb1)
        go_ret
        exact ⟨⟨_, rfl, by rw [← HR.out]; exact HA1.out.own⟩, HA1.out.bel⟩
      · have hc : coversP q p = false := by simpa using hc
        rw [show ((q.1, q.2) : Nat × Int) = q from rfl, show ((p.1, p.2) : Nat × Int) = p from rfl, hc] at hcv
        have hR := HA.out.res
        unfold addR at hR
        rw [if_neg (by rw [hc]; decide)] at hR
        cases hu : unionP q p with
        | none =>
          rw [hu] at hR
          have hun := union_no q.1 HQ.out.1 q.2 HQ.out.2 p.1 HP.out.1 p.2 hu
          have HR : Hid (p :: q :: st = R) := hR
          clear hR hc hu
          go_wp2_with (first
            | (go_at_call 22; refine (hcv _).mono ?_; rintro e w1 ⟨rfl, hb1⟩; have k5 := (Bx.new wr (.int .u32 q.1) (.int .i64 q.2)).keep hb1 (by simp); obtain ⟨e0, e1, _, _⟩ := k5.cells; have ha1 := HA.out.step (boxedA hb1) hbs; obtain ⟨p0, p1, _, _⟩ := ha1.box.cells; have z1 : w.heap.size < w1.heap.size := ha1.box.lt; have HA1 := Lib.hid ha1; clear hb1 ha1 k5)
            | (go_at_call 49; refine (hun _).mono ?_; rintro e w2 ⟨rfl, hb2⟩; have ha2 := HA1.out.step hb2 (Nat.le_trans hb HA1.out.bel.size); obtain ⟨r0, r1, f0, f1⟩ := ha2.box.cells; have z2 : w.heap.size < w2.heap.size := ha2.box.lt; have HA2 := Lib.hid ha2; clear hb2 ha2)
            | (at_builtin; skip; refine Hid.out ?_))
          refine Lib.hid ?_
          have ow := (HA2.out.own.alloc (.cells #[.int .u32 0, .int .i64 0] 24)).alloc (.cells #[.int .u32 p.1, .int .i64 p.2] 24)
          have be := (HA2.out.bel.alloc (by have := HA2.out.bel.size; omega) (.cells #[.int .u32 0, .int .i64 0] 24)).alloc (by have := HA2.out.bel.size; simp only [World.size_alloc]; omega) (.cells #[.int .u32 p.1, .int .i64 p.2] 24)
          have ow2 : World.ownsRow ((w2.alloc (.cells #[.int .u32 0, .int .i64 0] 24)).alloc (.cells #[.int .u32 p.1, .int .i64 p.2] 24)) base 24 2 (.slice (some ⟨g, 0, none⟩) (st.length + 1) cap) (q :: st).reverse.length (rowP (q :: st).reverse) := ow
          have hnw := cell_two_new (w2.alloc (.cells #[.int .u32 0, .int .i64 0] 24)) (.int .u32 p.1) (.int .i64 p.2) 24
          simp only [World.size_alloc] at hnw
          refine wpList_append_own _ rfl _ _ 37 rfl base 24 i0 (.agg #[.int .u32 0, .int .i64 0]) 2 16 Tryd.underlying37 hi hz0 hz1 hz2 rfl (by decide) _ _ _ rfl ow2 ⟨_, 0, none⟩ 1 1 (cellsP p) rfl rfl hnw (rowP_one_cell1 p) (by simp only [List.length_reverse, List.length_cons]; unfold maxLen; omega) (by simp only [List.length_reverse, List.length_cons]; omega) (by have := be.size; exact Nat.le_trans hb (Nat.le_trans HA2.out.bel.size (by simp only [World.size_alloc]; omega))) ?_
          intro v1 w3 ho1 hg1 hn1
          have HO : Hid (OwnP w3 base v1 ((q :: st).reverse ++ [p])) := OwnP.push (l := (q :: st).reverse) ho1
          have HB := Lib.hid (be.grown hg1 (by exact Nat.le_trans hb (Nat.le_trans HA2.out.bel.size (by simp only [World.size_alloc]; omega))) (fun k hk => (World.ownsRow.lt ow k hk).1))
          clear ho1 hg1 hn1 ow be ow2 hnw
          go_wp2
          go_ret
          exact ⟨⟨v1, rfl, by rw [← HR.out, List.reverse_cons]; exact HO.out⟩, HB.out⟩
        | some r =>
          rw [hu] at hR
          have hun := union_yes q.1 HQ.out.1 q.2 HQ.out.2 p.1 HP.out.1 p.2 r.1 r.2 hu
          have HR : Hid (addR st r = R) := hR
          have HRO := Lib.hid (unionP_ok HQ.out.1 hu)
          clear hR hc hu
          go_wp2_with (first
            | (go_at_call 22; refine (hcv _).mono ?_; rintro e w1 ⟨rfl, hb1⟩; have k5 := (Bx.new wr (.int .u32 q.1) (.int .i64 q.2)).keep hb1 (by simp); obtain ⟨e0, e1, _, _⟩ := k5.cells; have ha1 := HA.out.step (boxedA hb1) hbs; obtain ⟨p0, p1, _, _⟩ := ha1.box.cells; have z1 : w.heap.size < w1.heap.size := ha1.box.lt; have HA1 := Lib.hid ha1; clear hb1 ha1 k5)
            | (go_at_call 49; refine (hun _).mono ?_; rintro e w2 ⟨rfl, hb2⟩; have ha2 := HA1.out.step hb2 (Nat.le_trans hb HA1.out.bel.size); obtain ⟨r0, r1, f0, f1⟩ := ha2.box.cells; have z2 : w.heap.size < w2.heap.size := ha2.box.lt; have HA2 := Lib.hid ha2; clear hb2 ha2))
          have hw0 : IntKind.i64.wrap (st.length : Int) = st.length := IntWalk.i64_in _ (by omega)
          have hw1 : (0 : Int) ≤ st.length := by omega
          have hw2 : (st.length : Int) ≤ cap := by omega
          have hw3 : w.heap.size < w2.heap.size + 1 := by omega
          go_region
          clear hw0
          go_roundw
          case rel =>
            have ow := HA2.out.own
            have hgr := set_grown w2 w.heap.size (.int .u32 r.1) (.int .i64 r.2)
            have ow2 : OwnP ((w2.setCell ⟨w.heap.size, 0, none⟩ (.int .u32 r.1)).setCell ⟨w.heap.size, 1, none⟩ (.int .i64 r.2)) base (.slice (some ⟨g, 0, none⟩) (st.reverse.length + 1) cap) (st.reverse ++ [q]) := by
              have h := World.ownsRow.kept ow hgr (.inr (fun e => by (have e2 : some g = some w.heap.size := e); injection e2 with e2; omega))
              have e1 : (q :: st).reverse = st.reverse ++ [q] := List.reverse_cons
              have e2 : (q :: st).length = st.reverse.length + 1 := by simp
              rw [e1, e2] at h
              exact h
            have ow3 := ow2.pop
            rw [List.length_reverse] at ow3
            have hfin : AddAt w base R (.slice (some ⟨g, 0, none⟩) st.length cap) st r (((w2.setCell ⟨w.heap.size, 0, none⟩ (.int .u32 r.1)).setCell ⟨w.heap.size, 1, none⟩ (.int .i64 r.2)).alloc (.cells #[.int .u32 r.1, .int .i64 r.2] 24)).drew := ⟨HR.out, ow3.alloc _, (HA2.out.box.set _ _).alloc _,
              bel_drawn (((HA2.out.bel.setCell (p := ⟨w.heap.size, 0, none⟩) hb _).setCell (p := ⟨w.heap.size, 1, none⟩) hb _).alloc (by have := HA2.out.bel.size; simp; omega) _) 1,
              fun g' hg' => by (have e : some g = some g' := hg'); injection e with e; omega, fun x hx => HA2.out.ok x (List.mem_cons_of_mem _ hx), HRO.out, by omega⟩
            repeat apply Exists.intro
            exact ⟨⟨st, r, hfin⟩, rfl⟩
          case measure => simp [lenV]
end Go.Proofs.YtebogllfjhiblaaDoor
