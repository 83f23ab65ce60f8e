/-
  THE PROGRAM's Drop: how memory stands while fields are collected.
-/
import Derived.Test.YteelknmafnoccaaPFind
import Derived.Test.YteelknmafnoccaaPReq
import Derived.Test.YteelknmafnoccaaPDec2
namespace Go.Proofs.Yteelknmafnoccaa
open Go.RowKit Go.Shelf
attribute [local go_sem] Oper.semAt_some
set_option linter.unusedVariables false

/-- One item more, inside a fence. -/
theorem wpListIn_append_part {F : Fence} {n : Nat} {w : World} {ops : Array Oper} {rest : List Oper} {o : Oper} {a : Act} {Q : Exit → Act → World → Prop} (hgd : o.guard = Option.none) (s x : Operand)
    (ho : o.op = .call { callee := .builtin .append, args := #[s, x], argTypes := #[22, 22] }) (base : Nat) (v : Value) (l : List It) (hs : a.eval s = v) (hown : OwnD w base v l)
    (y : It) (A : Option Addr) (cap : Nat) (h5 : w.ownsRow base 5 1 (.slice A y.bs.length cap) y.bs.length (y.bs.map (Value.int .u8))) (ad : Addr) (c : Nat) (hx : a.eval x = .slice (some ad) 1 c)
    (hcell : ∀ j u, [Value.int .i64 y.kind, .int .i64 y.id, .int .i64 y.n, .slice A y.bs.length cap][j]? = some u → w.cell? (ad.add j) = some u) (hlen : l.length ≤ 1000000) (hbase : base ≤ w.heap.size)
    (h : ∀ v' w', OwnD w' base v' (l ++ [y]) → Below base w w' → w.grownBy w' v.ownBlock → wpListIn F n Try.prog ops Q rest (a.put o.dst v') w') : wpListIn F n Try.prog ops Q (o :: rest) a w := by
  obtain ⟨i0, hi, hz0, hz1, hz2⟩ := info_parts Try.info41
  obtain ⟨xs, hrow, hl, hc⟩ := hown
  refine wpListIn_append_own w hgd s x 22 ho base 41 i0 _ 4 48 Try.underlying22 hi hz0 hz1 hz2 rfl (by decide) v l.length xs hs hrow ad 1 c _ hx rfl hcell (by intro u hu; simp at hu; rcases hu with rfl | rfl | rfl | rfl <;> rfl) (by unfold maxLen; omega) (by omega) hbase ?_
  intro v' w' h1 h2 _
  refine h v' w' ⟨_, by rw [List.length_append]; exact h1, by rw [List.length_append, List.length_append, hl]; simp only [List.length_cons, List.length_nil]; omega, fun j z hz => ?_⟩ ((Below.refl base w).grown h2 hbase (fun j hj => (hrow.lt j hj).1)) h2
  rcases Nat.lt_or_ge j l.length with hj | hj
  · rw [List.getElem?_append_left hj] at hz
    obtain ⟨c0, c1, c2, B, cb, c3, k5⟩ := hc j z hz
    exact ⟨by rw [List.getElem?_append_left (by omega)]; exact c0, by rw [List.getElem?_append_left (by omega)]; exact c1, by rw [List.getElem?_append_left (by omega)]; exact c2, B, cb, by rw [List.getElem?_append_left (by omega)]; exact c3, own_grown k5 h2 (own_types k5 hrow)⟩
  · rw [List.getElem?_append_right hj] at hz
    obtain ⟨i, hi'⟩ : ∃ i, j - l.length = i := ⟨_, rfl⟩
    rw [hi'] at hz
    cases i with
    | succ i => simp at hz
    | zero =>
      simp only [List.getElem?_cons_zero, Option.some.injEq] at hz
      subst hz
      obtain rfl : j = l.length := by omega
      refine ⟨?_, ?_, ?_, A, cap, ?_, own_grown h5 h2 (own_types h5 hrow)⟩
      · rw [List.getElem?_append_right (by omega), show l.length * 4 - xs.length = 0 by omega]; rfl
      · rw [List.getElem?_append_right (by omega), show l.length * 4 + 1 - xs.length = 1 by omega]; rfl
      · rw [List.getElem?_append_right (by omega), show l.length * 4 + 2 - xs.length = 2 by omega]; rfl
      · rw [List.getElem?_append_right (by omega), show l.length * 4 + 3 - xs.length = 3 by omega]; rfl

/-- A row of items stays where another block is turned. -/
theorem OwnD.kept {w w' : World} {base : Nat} {v : Value} {l : List It} {row : Option Nat} (h : OwnD w base v l) (hg : w.grownBy w' row) (hne : ∀ r cs t z, row = some r → w.heap[r]? = some (.cells cs t z) → t ≠ 41 ∧ t ≠ 5) : OwnD w' base v l := by
  obtain ⟨xs, ho, hl, hc⟩ := h
  have ne : ∀ {b s n : Nat} {e : TypeId} {u : Value} {ys : List Value}, (e = 41 ∨ e = 5) → w.ownsRow b e s u n ys → ∀ g, u.ownBlock = some g → some g ≠ row := fun he k g hg' e' => by
    rcases k.2 with ⟨rfl, _⟩ | ⟨g1, _, cur, rfl, _, hh, _⟩
    · simp [Value.ownBlock] at hg'
    · have e1 : g1 = g := by simpa [Value.ownBlock] using hg'
      subst e1
      obtain ⟨n1, n2⟩ := hne g1 cur _ _ e'.symm hh
      rcases he with he | he
      · exact n1 he
      · exact n2 he
  refine ⟨xs, own_grown ho hg (ne (.inl rfl) ho), hl, fun j x hx => ?_⟩
  obtain ⟨c0, c1, c2, A, cap, c3, h5⟩ := hc j x hx
  exact ⟨c0, c1, c2, A, cap, c3, own_grown h5 hg (ne (.inr rfl) h5)⟩
theorem OwnD.block {w : World} {base : Nat} {v : Value} {l : List It} (h : OwnD w base v l) : ∀ g, v.ownBlock = some g → base ≤ g ∧ ∃ cs, w.heap[g]? = some (.cells cs 41 (0, 0)) := by
  obtain ⟨xs, ho, _⟩ := h
  intro g hg
  refine ⟨(ho.lt g hg).1, ?_⟩
  rcases ho.2 with ⟨rfl, _⟩ | ⟨g1, _, cur, rfl, _, hh, _⟩
  · simp [Value.ownBlock] at hg
  · have e1 : g1 = g := by simpa [Value.ownBlock] using hg
    subst e1
    exact ⟨cur, hh⟩

/-- How memory stands while fields are collected: the boxes of the list, of what is kept, of the function value, and its table. -/
structure DS (w : World) (sl : Value) (B1 B2 B3 : Nat) (fv : Value) (f : Nat → Bool) (v : Value) (its : List It) (W : World) : Prop where
  b0 : Boxed W w.heap.size 22 sl
  b1 : Boxed W B1 22 v
  own : OwnD W w.heap.size v its
  arr : ArrB W B2 f
  b3 : Boxed W B3 56 fv
  bel : Below w.heap.size w W
theorem DS.below {w : World} {sl : Value} {B1 B2 B3 : Nat} {fv : Value} {f : Nat → Bool} {v : Value} {its : List It} {W W' : World} (h : DS w sl B1 B2 B3 fv f v its W) (hb : Below W.heap.size W W') : DS w sl B1 B2 B3 fv f v its W' where
  b0 := boxed_below h.b0 hb h.b0.lt
  b1 := boxed_below h.b1 hb h.b1.lt
  own := h.own.below hb
  arr := h.arr.below hb h.arr.lt
  b3 := boxed_below h.b3 hb h.b3.lt
  bel := h.bel.trans (hb.mono h.bel.size)
theorem DS.drew {w : World} {sl : Value} {B1 B2 B3 : Nat} {fv : Value} {f : Nat → Bool} {v : Value} {its : List It} {W : World} (h : DS w sl B1 B2 B3 fv f v its W) : DS w sl B1 B2 B3 fv f v its W.drew :=
  h.below (Below.refl _ _).drew
/-- A block that none of these is is turned. -/
theorem DS.kept {w : World} {sl : Value} {B1 B2 B3 : Nat} {fv : Value} {f : Nat → Bool} {v : Value} {its : List It} {W W' : World} {row : Option Nat} (h : DS w sl B1 B2 B3 fv f v its W) (hg : W.grownBy W' row)
    (hr : ∀ r, row = some r → w.heap.size ≤ r ∧ ∃ o : Obj, W.heap[r]? = some o ∧ o.isCells = false) : DS w sl B1 B2 B3 fv f v its W' := by
  have ne : ∀ {B : Nat} {cs : Array Value} {t : TypeId} {z : Nat × Nat}, W.heap[B]? = some (.cells cs t z) → some B ≠ row := fun {B cs t z} hb e => by
    obtain ⟨_, o, ho, hc⟩ := hr B e.symm
    rw [hb] at ho
    injection ho with ho
    subst ho
    cases hc
  have ha := h.arr
  obtain ⟨ca, ha1, _⟩ := ha
  exact ⟨h.b0.kept hg (ne h.b0), h.b1.kept hg (ne h.b1), h.own.kept hg (fun r cs t z e hh => absurd e.symm (ne hh)), h.arr.kept hg (ne ha1), h.b3.kept hg (ne h.b3), h.bel.grown hg h.bel.size (fun j hj => (hr j hj).1)⟩

theorem run_store_funcv {P : Program} {w : World} {a : Addr} {m : Mode} (f : Fn) (x y : Array Value) : (store a (.func f x y) m).run P w = stored P w a (.func f x y) m := run_store P w a _ m rfl
attribute [local go_sem] run_store_funcv
theorem cutG {A G : Prop} (h : G → A) (g : G) : A := h g
theorem RdI.part {n₀ : Nat} {w : World} {b off : Nat} {l : List It} (h : RdI n₀ w (some ⟨b, off, none⟩) l) (j m : Nat) : RdI n₀ w (some ⟨b, off + j * 4, none⟩) ((l.drop j).take m) := fun hp => by
  rw [List.length_take, List.length_drop] at hp
  obtain ⟨b', off', e, hb, hc⟩ := h (by omega)
  injection e with e
  injection e with e1 e2
  subst e1 e2
  refine ⟨b, off + j * 4, rfl, hb, fun i x hx => ?_⟩
  have hi : i < m := by
    rcases Nat.lt_or_ge i m with h1 | h1
    · exact h1
    · rw [List.getElem?_eq_none (by rw [List.length_take]; omega)] at hx; cases hx
  rw [List.getElem?_take, if_pos hi, List.getElem?_drop] at hx
  obtain ⟨c0, c1, c2, A, cap, c3, h1, h2, hr⟩ := hc (j + i) x hx
  rw [show off + (j + i) * 4 = off + j * 4 + i * 4 by omega] at c0 c1 c2 c3
  exact ⟨c0, c1, c2, A, cap, c3, h1, h2, hr⟩
theorem right_ids {l : List It} (h : rightB l = true) {j : Nat} {x : It} (hx : l[j]? = some x) : 0 ≤ x.id ∧ x.id ≤ 1000 := by
  rcases shape_kinds (right_shape l 0 h x (List.mem_of_getElem? hx)) with ⟨_, _, _, _⟩ | ⟨_, _, _, _⟩ | ⟨_, _, _, _⟩ | ⟨_, _, _⟩ <;> omega

theorem keeps_below {W W' : World} (h : Below W.heap.size W W') : KeepsOthers W W' := ⟨h.size, fun k o hk _ => (h.block k (Array.getElem?_eq_some_iff.1 hk).1).trans hk⟩
theorem keeps_grown {W W' : World} {row : Option Nat} (h : W.grownBy W' row) (hr : ∀ r, row = some r → ∃ cs t z, W.heap[r]? = some (.cells cs t z)) : KeepsOthers W W' := ⟨h.size, fun k o hk ho => by
  refine (h.block k (Array.getElem?_eq_some_iff.1 hk).1 (fun e => ?_)).trans hk
  obtain ⟨cs, t, z, hc⟩ := hr k e.symm
  rw [hk] at hc
  injection hc with hc
  subst hc
  cases ho⟩
theorem ownD_ne {W : World} {base : Nat} {v : Value} {l : List It} (h : OwnD W base v l) {B : Nat} {cs : Array Value} {t : TypeId} {z : Nat × Nat} (hb : W.heap[B]? = some (.cells cs t z)) (ht : t ≠ 41) : some B ≠ v.ownBlock := fun e => by
  obtain ⟨_, cs', hc⟩ := h.block B e.symm
  rw [hb] at hc
  injection hc with hc
  injection hc with _ h2
  exact ht h2
/-- What is kept grows, and its box is turned. -/
theorem DS.grown {w : World} {sl : Value} {B1 B2 B3 : Nat} {fv : Value} {f : Nat → Bool} {v v' : Value} {its its' : List It} {W X : World} (h : DS w sl B1 B2 B3 fv f v its W) (hg : W.grownBy X v.ownBlock) (ho : OwnD X w.heap.size v' its') (hb : Below w.heap.size W X)
    (h01 : w.heap.size < B1) (h12 : B1 < B2) (h23 : B2 < B3) : DS w sl B1 B2 B3 fv f v' its' (X.setCell ⟨B1, 0, none⟩ v') := by
  have b0 := h.b0.kept hg (ownD_ne h.own h.b0 (by decide))
  have b1 := h.b1.kept hg (ownD_ne h.own h.b1 (by decide))
  have b3 := h.b3.kept hg (ownD_ne h.own h.b3 (by decide))
  obtain ⟨ca, ha1, ha2, ha3⟩ := h.arr
  have arr : ArrB X B2 f := ArrB.kept ⟨ca, ha1, ha2, ha3⟩ hg (ownD_ne h.own ha1 (by decide))
  have hgs := grownBy_setCell' X B1 v'
  refine ⟨b0.kept hgs (by intro e; injection e with e; omega), b1.set v', ho.kept hgs (fun r cs t z e hh => ?_), arr.kept hgs (by intro e; injection e with e; omega), b3.kept hgs (by intro e; injection e with e; omega), (h.bel.trans hb).setCell (p := ⟨B1, 0, none⟩) (by show w.heap.size ≤ B1; omega) _⟩
  injection e with e
  subst e
  rw [show X.heap[B1]? = _ from b1] at hh
  injection hh with hh
  injection hh with _ ht
  subst ht
  exact ⟨by decide, by decide⟩

/-- The fields whose Ids are asked for. -/
def keptF (l : List It) (zs : List Int) (f : Nat × Nat) : List It := if askedB zs ((l[f.1]?.map It.id).getD 0).toNat = true then (l.drop f.1).take (f.2 - f.1) else []
def pdropS (l : List It) (zs : List Int) : List It := if rightB l = true then (fieldsL l).flatMap (keptF l zs) else []
def keptL {n : Nat} (l : List It) (zs : List Int) (fs : List (Fld n)) : List It := (Fld.raw fs).flatMap (keptF l zs)
theorem keptL_snoc {n : Nat} (l : List It) (zs : List Int) (fs : List (Fld n)) (x : Fld n) : keptL l zs (fs ++ [x]) = keptL l zs fs ++ keptF l zs (x.fst, x.snd) := by
  unfold keptL
  rw [Fld.raw_snoc, List.flatMap_append]
  simp

set_option maxRecDepth 100000 in
set_option maxHeartbeats 8000000 in
theorem pdrop_yes (a : Option Addr) (cap : Nat) (l : List It) (b : Option Addr) (cb : Nat) (zs : List Int) (hlen : l.length ≤ 140737488351232) (h500 : l.length ≤ 500) (hcap : l.length ≤ cap) (hcm : cap ≤ 9223372036854775807) (hbl : ∀ x ∈ l, x.bs.length ≤ 1000000) (hzl : zs.length ≤ 140737488351232) (hz : Ints64 zs) (w : World) (hr : RdI w.heap.size w a l) (hrz : Rd .i64 w.heap.size w b zs) (hR : rightB l = true) :
    Calls Try.prog 21 #[.slice a l.length cap, .slice b zs.length cb] w fun e w' => ∃ A n c, e = .returned (.slice A n c) ∧ n = (pdropS l zs).length ∧ n ≤ c ∧ c ≤ maxLen ∧ RdI w'.heap.size w' A (pdropS l zs) ∧ Below w.heap.size w w' := by
  refine (callsIn_wide (n := 3)).1 ?_
  have h1 : 1 ≤ 3 := by decide
  refine callsIn_of_wp_marks Try.func21 rfl trivial ?_ rfl
  simp only [Try.ntmps21, List.size_toArray, List.length_cons, List.length_nil, Nat.reduceAdd, Nat.reduceSub, Array.replicate_succ, Array.replicate_zero, List.push_toArray, List.append_toArray, List.nil_append, List.cons_append]
  have hright : ∀ W, Below w.heap.size w W → Calls Try.prog 14 #[.slice a l.length cap] W fun e w' => e = .returned (.bool true) ∧ Below W.heap.size W w' := fun W hW => by
    have h := pright_any a cap l hlen W ((hr.below hW).mono hW.size)
    rwa [hR] at h
  have hreq : ∀ W, Below w.heap.size w W → Calls Try.prog 33 #[.slice b zs.length cb] W fun e w' => e = .returned (.func (.func 42) #[] #[.pointer (some ⟨W.heap.size, 0, none⟩)]) ∧ ArrB w' W.heap.size (askedB zs) ∧ Below W.heap.size W w' := fun W hW =>
    requested_any b cb zs hzl hz W ((hrz.below hW).mono hW.size)
  have HRT := Lib.hid hright
  have HRQ := Lib.hid hreq
  have HRD := Lib.hid hr
  have HRB := Lib.hid hR
  have HBL := Lib.hid hbl
  have hP : pdropS l zs = (fieldsL l).flatMap (keptF l zs) := by unfold pdropS; rw [if_pos hR]
  have HP := Lib.hid hP
  clear hright hreq hr hrz hR hbl hP hz
  have B0 := Lib.hid ((Below.refl w.heap.size w).alloc (Nat.le_refl _) (.cells #[.slice a l.length cap] 22))
  gi_wp2_with (first
    | (refine ⟨trivial, ?_⟩; gi_at_call 14; refine (callsIn_wide.2 (HRT.out _ B0.out)).mono ?_; rintro e w1 ⟨rfl, hb1⟩; have bb0 := Lib.hid (boxed_below (Boxed.new w 22 (.slice a l.length cap)) hb1 (by simp)); have B1 := Lib.hid (B0.out.trans (hb1.mono (by simp))); have q0 := bb0.out.cell; clear hb1)
    | (refine ⟨trivial, ?_⟩; gi_at_call 33; refine (callsIn_wide.2 (HRQ.out _ (B1.out.alloc B1.out.size _))).mono ?_; rintro e w2 ⟨rfl, har, hb2⟩; have HAR := Lib.hid har; have hB2 := Lib.hid hb2; have bb2 := Lib.hid (boxed_below (bb0.out.alloc (.cells #[.slice none 0 0] 22)) hb2 (by have := bb0.out.lt; simp; omega)); have q0' := bb2.out.cell; have hlt2 := bb2.out.lt; clear hb2 har q0)
    | (refine ⟨trivial, ?_⟩; gi_at_call 31; refine (callsIn_wide.2 (fields_any _ _ _ _)).mono ?_; rintro e w' ⟨rfl, rfl⟩))
  have FVB := Lib.hid (show w1.heap.size + 1 < w2.heap.size by
    have h := hB2.out.size
    have h2 := HAR.out.lt
    simp at h h2
    exact h2)
  have DS2 : DS w (.slice a l.length cap) w1.heap.size (w1.heap.size + 1) w2.heap.size (.func (.func 42) #[] #[.pointer (some ⟨w1.heap.size + 1, 0, none⟩)]) (askedB zs) (.slice none 0 0) [] (w2.alloc (.cells #[.func (.func 42) #[] #[.pointer (some ⟨w1.heap.size + 1, 0, none⟩)]] 56)) := by
    have hK1 : Below w2.heap.size w2 (w2.alloc (.cells #[.func (.func 42) #[] #[.pointer (some ⟨w1.heap.size + 1, 0, none⟩)]] 56)) := (Below.refl _ _).alloc (Nat.le_refl _) _
    have har := HAR.out
    simp only [World.size_alloc] at har
    exact ⟨boxed_below bb2.out hK1 hlt2, boxed_below (boxed_below (Boxed.new w1 22 (.slice none 0 0)) hB2.out (by simp)) hK1 (by have := FVB.out; omega), OwnD.nil _ _, har.below hK1 har.lt, Boxed.new w2 56 _, ((B1.out.alloc B1.out.size _).trans (hB2.out.mono (by have := B1.out.size; simp; omega))).trans (hK1.mono (by omega))⟩
  obtain ⟨W3, hW3⟩ : ∃ W3, w2.alloc (.cells #[.func (.func 42) #[] #[.pointer (some ⟨w1.heap.size + 1, 0, none⟩)]] 56) = W3 := ⟨_, rfl⟩
  rw [hW3] at DS2 ⊢
  have hs3 : W3.heap.size = w2.heap.size + 1 := by rw [← hW3]; simp
  clear hW3 q0'
  have F2 := Lib.hid (DS2.below ((Below.refl W3.heap.size W3).alloc (Nat.le_refl _) (.cells #[.slice a l.length cap] 22)))
  have bx := (Boxed.new W3 22 (.slice a l.length cap)).cell
  obtain ⟨W0, hW0⟩ : ∃ W0, W3.alloc (.cells #[.slice a l.length cap] 22) = W0 := ⟨_, rfl⟩
  have hs0 : W3.heap.size < W0.heap.size := by rw [← hW0]; simp
  rw [hW0] at F2 bx ⊢
  clear hW0 DS2
  rw [hs3] at bx hs0
  have hw13 : w1.heap.size + 1 < w2.heap.size := FVB.out
  have hww1 : w.heap.size < w1.heap.size := bb0.out.lt
  obtain ⟨fv, hfv⟩ : ∃ fv, Value.func (.func 42) #[] #[.pointer (some ⟨w1.heap.size + 1, 0, none⟩)] = fv := ⟨_, rfl⟩
  rw [hfv] at F2
  have HFV := Lib.hid hfv
  clear hfv
  refine wpIn_rangeFunc_ownG rfl h1 (gf := 41) (lb := #[.pointer (some ⟨w2.heap.size + 1, 0, none⟩)]) rfl trivial (enters_of Try.func41 (by kernel_rfl) rfl)
    (flds_stops (w2.heap.size + 1) w.heap.size a cap l hlen W0 hs0 (by omega) bx (HRD.out.below F2.out.bel)) belowK_t (belowK_b (by omega)) (Below.refl _ _) (fun _ => rfl)
    (fun pre W => ∃ v, DS w (.slice a l.length cap) w1.heap.size (w1.heap.size + 1) w2.heap.size fv (askedB zs) v (keptL l zs pre) W ∧ (keptL l zs pre).length ≤ 0 + pre.length * l.length)
    (fun _ _ _ => False)
    (fun s W W' row hs hg hr => by
      obtain ⟨v, h, hle⟩ := hs
      exact ⟨v, h.kept hg (fun r e => ⟨by have := (hr r e).1; omega, (hr r e).2⟩), hle⟩)
    (fun _ _ _ _ _ hs _ _ => hs)
    ⟨_, F2.out, by simp [keptL, Fld.raw]⟩
    (fun x => { tmps := #[.slice a l.length cap, .slice b zs.length cb, .pointer (some ⟨w.heap.size, 0, none⟩), undef, .slice none 0 0, .pointer (some ⟨w1.heap.size, 0, none⟩), .pointer (some ⟨w2.heap.size, 0, none⟩), .int .i64 x.fst, .int .i64 x.snd, undef, undef, .slice a l.length cap, .bool true, .bool false, .slice b zs.length cb, .func (.func 42) #[] #[.pointer (some ⟨w1.heap.size + 1, 0, none⟩)], .slice a l.length cap, .func (.func 41) #[] #[.pointer (some ⟨w2.heap.size + 1, 0, none⟩)], .int .i64 x.fst, .int .i64 x.snd, undef, undef, undef, undef, undef, undef, undef, undef, undef, undef, undef, undef, undef, undef, undef, undef, undef, undef, undef, undef, undef, undef, undef, undef, undef, undef, undef], defers := [] }) ?assign ?body ?done ?stop
  case assign =>
    intro l x W K hK
    simp only [encF]
    gi_wp2
    exact hK
  case body =>
    rintro lp pre x W ⟨v, hD, hle⟩ hpre
    have HDD := Lib.hid hD
    clear hD
    have hx1 := x.lt
    have hx2 := x.le
    have hB2' := HDD.out.bel
    obtain ⟨bq, off, rfl, hb, hc⟩ := HRD.out (by omega)
    obtain ⟨y, hy⟩ : ∃ y, l[x.fst]? = some y := ⟨_, List.getElem?_eq_getElem (by omega)⟩
    obtain ⟨_, c1, _⟩ := hc x.fst y hy
    obtain ⟨hi0, hi1⟩ := right_ids HRB.out hy
    obtain ⟨i, hyi⟩ : ∃ i : Nat, y.id = i := ⟨y.id.toNat, by omega⟩
    have hi : i ≤ 1000 := by omega
    rw [hyi] at c1
    have hkf : keptF l zs (x.fst, x.snd) = if askedB zs i = true then (l.drop x.fst).take (x.snd - x.fst) else [] := by
      unfold keptF
      simp only
      rw [hy]
      simp only [Option.map_some, Option.getD_some, hyi, Int.toNat_natCast]
    have HKF := Lib.hid hkf
    have g1 := (hB2'.cell (p := ⟨bq, off + x.fst * 4 + 1, none⟩) hb).trans c1
    have q0 := HDD.out.b0.cell
    have q3 := HDD.out.b3.cell
    rw [← HFV.out] at q3
    have i0 : (0 : Int) ≤ (x.fst : Int) := Int.natCast_nonneg _
    have i1 : (x.fst : Int) < (l.length : Int) := by omega
    clear hc c1 hy hkf hyi hi0 hi1
    gi_wp2
    refine wpIn_region_any (by kernel_rfl) ?_
    change wpAnyIn _ _ _ _ _ _ _ _ _ (World.drew _)
    apply cutG
    case h =>
      intro key
      refine wpAnyIn_ready (rs := [0, 1, 2]) (by kernel_rfl) (by simp) ?_
      refine AllReadyIn.cons rfl (fun K hK => ?_) (AllReadyIn.cons rfl (fun K hK => ?_) (AllReadyIn.cons rfl (fun K hK => ?_) AllReadyIn.nil))
      · go_simp
        refine hK _ _ ?_
        clear hK K
        refine wpAnyIn_ready (rs := [1, 2]) (by kernel_rfl) (by simp) ?_
        refine AllReadyIn.cons rfl (fun K hK => ?_) (AllReadyIn.cons rfl (fun K hK => ?_) AllReadyIn.nil)
        · go_simp
          refine hK _ _ ?_
          clear hK K
          refine wpAnyIn_ready (rs := [2]) (by kernel_rfl) (by simp) ?_
          refine AllReadyIn.cons rfl (fun K hK => ?_) AllReadyIn.nil
          go_simp
          refine hK _ _ ?_
          clear hK K
          refine wpAnyIn_ready (rs := [3]) (by kernel_rfl) (by simp) ?_
          refine AllReadyIn.cons rfl (fun K hK => ?_) AllReadyIn.nil
          go_simp
          refine hK _ _ ?_
          clear hK K
          refine wpAnyIn_ready (rs := [4]) (by kernel_rfl) (by simp) ?_
          refine AllReadyIn.cons rfl (fun K hK => ?_) AllReadyIn.nil
          go_simp
          refine hK _ _ ?_
          clear hK K
          refine wpAnyIn_ready (rs := [5]) (by kernel_rfl) (by simp) ?_
          refine AllReadyIn.cons rfl (fun K hK => ?_) AllReadyIn.nil
          go_simp
          refine hK _ _ ?_
          clear hK K
          refine wpAnyIn_ready (rs := [6]) (by kernel_rfl) (by simp) ?_
          refine AllReadyIn.cons rfl (fun K hK => ?_) AllReadyIn.nil
          go_simp
          refine ⟨trivial, ?_⟩
          refine (CallsIn.inRound lp (callsIn_wide.2 (wanted_any _ _ i hi _ HDD.out.drew.arr))).mono ?_
          rintro e w' ⟨rfl, rfl⟩
          refine hK _ _ ?_
          clear hK K
          refine wpAnyIn_ready (rs := [7]) (by kernel_rfl) (by simp) ?_
          refine AllReadyIn.cons rfl (fun K hK => ?_) AllReadyIn.nil
          go_simp
          refine hK _ _ ?_
          clear hK K
          refine wpAnyIn_done (by kernel_rfl) ?_ _
          exact key
        · go_simp
          refine hK _ _ ?_
          clear hK K
          refine wpAnyIn_ready (rs := [1]) (by kernel_rfl) (by simp) ?_
          refine AllReadyIn.cons rfl (fun K hK => ?_) AllReadyIn.nil
          go_simp
          refine hK _ _ ?_
          clear hK K
          refine wpAnyIn_ready (rs := [3]) (by kernel_rfl) (by simp) ?_
          refine AllReadyIn.cons rfl (fun K hK => ?_) AllReadyIn.nil
          go_simp
          refine hK _ _ ?_
          clear hK K
          refine wpAnyIn_ready (rs := [4]) (by kernel_rfl) (by simp) ?_
          refine AllReadyIn.cons rfl (fun K hK => ?_) AllReadyIn.nil
          go_simp
          refine hK _ _ ?_
          clear hK K
          refine wpAnyIn_ready (rs := [5]) (by kernel_rfl) (by simp) ?_
          refine AllReadyIn.cons rfl (fun K hK => ?_) AllReadyIn.nil
          go_simp
          refine hK _ _ ?_
          clear hK K
          refine wpAnyIn_ready (rs := [6]) (by kernel_rfl) (by simp) ?_
          refine AllReadyIn.cons rfl (fun K hK => ?_) AllReadyIn.nil
          go_simp
          refine ⟨trivial, ?_⟩
          refine (CallsIn.inRound lp (callsIn_wide.2 (wanted_any _ _ i hi _ HDD.out.drew.arr))).mono ?_
          rintro e w' ⟨rfl, rfl⟩
          refine hK _ _ ?_
          clear hK K
          refine wpAnyIn_ready (rs := [7]) (by kernel_rfl) (by simp) ?_
          refine AllReadyIn.cons rfl (fun K hK => ?_) AllReadyIn.nil
          go_simp
          refine hK _ _ ?_
          clear hK K
          refine wpAnyIn_done (by kernel_rfl) ?_ _
          exact key
      · go_simp
        refine hK _ _ ?_
        clear hK K
        refine wpAnyIn_ready (rs := [0, 2]) (by kernel_rfl) (by simp) ?_
        refine AllReadyIn.cons rfl (fun K hK => ?_) (AllReadyIn.cons rfl (fun K hK => ?_) AllReadyIn.nil)
        · go_simp
          refine hK _ _ ?_
          clear hK K
          refine wpAnyIn_ready (rs := [2]) (by kernel_rfl) (by simp) ?_
          refine AllReadyIn.cons rfl (fun K hK => ?_) AllReadyIn.nil
          go_simp
          refine hK _ _ ?_
          clear hK K
          refine wpAnyIn_ready (rs := [3]) (by kernel_rfl) (by simp) ?_
          refine AllReadyIn.cons rfl (fun K hK => ?_) AllReadyIn.nil
          go_simp
          refine hK _ _ ?_
          clear hK K
          refine wpAnyIn_ready (rs := [4]) (by kernel_rfl) (by simp) ?_
          refine AllReadyIn.cons rfl (fun K hK => ?_) AllReadyIn.nil
          go_simp
          refine hK _ _ ?_
          clear hK K
          refine wpAnyIn_ready (rs := [5]) (by kernel_rfl) (by simp) ?_
          refine AllReadyIn.cons rfl (fun K hK => ?_) AllReadyIn.nil
          go_simp
          refine hK _ _ ?_
          clear hK K
          refine wpAnyIn_ready (rs := [6]) (by kernel_rfl) (by simp) ?_
          refine AllReadyIn.cons rfl (fun K hK => ?_) AllReadyIn.nil
          go_simp
          refine ⟨trivial, ?_⟩
          refine (CallsIn.inRound lp (callsIn_wide.2 (wanted_any _ _ i hi _ HDD.out.drew.arr))).mono ?_
          rintro e w' ⟨rfl, rfl⟩
          refine hK _ _ ?_
          clear hK K
          refine wpAnyIn_ready (rs := [7]) (by kernel_rfl) (by simp) ?_
          refine AllReadyIn.cons rfl (fun K hK => ?_) AllReadyIn.nil
          go_simp
          refine hK _ _ ?_
          clear hK K
          refine wpAnyIn_done (by kernel_rfl) ?_ _
          exact key
        · go_simp
          refine hK _ _ ?_
          clear hK K
          refine wpAnyIn_ready (rs := [0, 3]) (by kernel_rfl) (by simp) ?_
          refine AllReadyIn.cons rfl (fun K hK => ?_) (AllReadyIn.cons rfl (fun K hK => ?_) AllReadyIn.nil)
          · go_simp
            refine hK _ _ ?_
            clear hK K
            refine wpAnyIn_ready (rs := [3]) (by kernel_rfl) (by simp) ?_
            refine AllReadyIn.cons rfl (fun K hK => ?_) AllReadyIn.nil
            go_simp
            refine hK _ _ ?_
            clear hK K
            refine wpAnyIn_ready (rs := [4]) (by kernel_rfl) (by simp) ?_
            refine AllReadyIn.cons rfl (fun K hK => ?_) AllReadyIn.nil
            go_simp
            refine hK _ _ ?_
            clear hK K
            refine wpAnyIn_ready (rs := [5]) (by kernel_rfl) (by simp) ?_
            refine AllReadyIn.cons rfl (fun K hK => ?_) AllReadyIn.nil
            go_simp
            refine hK _ _ ?_
            clear hK K
            refine wpAnyIn_ready (rs := [6]) (by kernel_rfl) (by simp) ?_
            refine AllReadyIn.cons rfl (fun K hK => ?_) AllReadyIn.nil
            go_simp
            refine ⟨trivial, ?_⟩
            refine (CallsIn.inRound lp (callsIn_wide.2 (wanted_any _ _ i hi _ HDD.out.drew.arr))).mono ?_
            rintro e w' ⟨rfl, rfl⟩
            refine hK _ _ ?_
            clear hK K
            refine wpAnyIn_ready (rs := [7]) (by kernel_rfl) (by simp) ?_
            refine AllReadyIn.cons rfl (fun K hK => ?_) AllReadyIn.nil
            go_simp
            refine hK _ _ ?_
            clear hK K
            refine wpAnyIn_done (by kernel_rfl) ?_ _
            exact key
          · go_simp
            refine hK _ _ ?_
            clear hK K
            refine wpAnyIn_ready (rs := [0, 4]) (by kernel_rfl) (by simp) ?_
            refine AllReadyIn.cons rfl (fun K hK => ?_) (AllReadyIn.cons rfl (fun K hK => ?_) AllReadyIn.nil)
            · go_simp
              refine hK _ _ ?_
              clear hK K
              refine wpAnyIn_ready (rs := [4]) (by kernel_rfl) (by simp) ?_
              refine AllReadyIn.cons rfl (fun K hK => ?_) AllReadyIn.nil
              go_simp
              refine hK _ _ ?_
              clear hK K
              refine wpAnyIn_ready (rs := [5]) (by kernel_rfl) (by simp) ?_
              refine AllReadyIn.cons rfl (fun K hK => ?_) AllReadyIn.nil
              go_simp
              refine hK _ _ ?_
              clear hK K
              refine wpAnyIn_ready (rs := [6]) (by kernel_rfl) (by simp) ?_
              refine AllReadyIn.cons rfl (fun K hK => ?_) AllReadyIn.nil
              go_simp
              refine ⟨trivial, ?_⟩
              refine (CallsIn.inRound lp (callsIn_wide.2 (wanted_any _ _ i hi _ HDD.out.drew.arr))).mono ?_
              rintro e w' ⟨rfl, rfl⟩
              refine hK _ _ ?_
              clear hK K
              refine wpAnyIn_ready (rs := [7]) (by kernel_rfl) (by simp) ?_
              refine AllReadyIn.cons rfl (fun K hK => ?_) AllReadyIn.nil
              go_simp
              refine hK _ _ ?_
              clear hK K
              refine wpAnyIn_done (by kernel_rfl) ?_ _
              exact key
            · go_simp
              refine hK _ _ ?_
              clear hK K
              refine wpAnyIn_ready (rs := [0, 5]) (by kernel_rfl) (by simp) ?_
              refine AllReadyIn.cons rfl (fun K hK => ?_) (AllReadyIn.cons rfl (fun K hK => ?_) AllReadyIn.nil)
              · go_simp
                refine hK _ _ ?_
                clear hK K
                refine wpAnyIn_ready (rs := [5]) (by kernel_rfl) (by simp) ?_
                refine AllReadyIn.cons rfl (fun K hK => ?_) AllReadyIn.nil
                go_simp
                refine hK _ _ ?_
                clear hK K
                refine wpAnyIn_ready (rs := [6]) (by kernel_rfl) (by simp) ?_
                refine AllReadyIn.cons rfl (fun K hK => ?_) AllReadyIn.nil
                go_simp
                refine ⟨trivial, ?_⟩
                refine (CallsIn.inRound lp (callsIn_wide.2 (wanted_any _ _ i hi _ HDD.out.drew.arr))).mono ?_
                rintro e w' ⟨rfl, rfl⟩
                refine hK _ _ ?_
                clear hK K
                refine wpAnyIn_ready (rs := [7]) (by kernel_rfl) (by simp) ?_
                refine AllReadyIn.cons rfl (fun K hK => ?_) AllReadyIn.nil
                go_simp
                refine hK _ _ ?_
                clear hK K
                refine wpAnyIn_done (by kernel_rfl) ?_ _
                exact key
              · go_simp
                refine hK _ _ ?_
                clear hK K
                refine wpAnyIn_ready (rs := [0]) (by kernel_rfl) (by simp) ?_
                refine AllReadyIn.cons rfl (fun K hK => ?_) AllReadyIn.nil
                go_simp
                refine hK _ _ ?_
                clear hK K
                refine wpAnyIn_ready (rs := [6]) (by kernel_rfl) (by simp) ?_
                refine AllReadyIn.cons rfl (fun K hK => ?_) AllReadyIn.nil
                go_simp
                refine ⟨trivial, ?_⟩
                refine (CallsIn.inRound lp (callsIn_wide.2 (wanted_any _ _ i hi _ HDD.out.drew.arr))).mono ?_
                rintro e w' ⟨rfl, rfl⟩
                refine hK _ _ ?_
                clear hK K
                refine wpAnyIn_ready (rs := [7]) (by kernel_rfl) (by simp) ?_
                refine AllReadyIn.cons rfl (fun K hK => ?_) AllReadyIn.nil
                go_simp
                refine hK _ _ ?_
                clear hK K
                refine wpAnyIn_done (by kernel_rfl) ?_ _
                exact key
      · go_simp
        refine hK _ _ ?_
        clear hK K
        refine wpAnyIn_ready (rs := [0, 1]) (by kernel_rfl) (by simp) ?_
        refine AllReadyIn.cons rfl (fun K hK => ?_) (AllReadyIn.cons rfl (fun K hK => ?_) AllReadyIn.nil)
        · go_simp
          refine hK _ _ ?_
          clear hK K
          refine wpAnyIn_ready (rs := [1]) (by kernel_rfl) (by simp) ?_
          refine AllReadyIn.cons rfl (fun K hK => ?_) AllReadyIn.nil
          go_simp
          refine hK _ _ ?_
          clear hK K
          refine wpAnyIn_ready (rs := [3]) (by kernel_rfl) (by simp) ?_
          refine AllReadyIn.cons rfl (fun K hK => ?_) AllReadyIn.nil
          go_simp
          refine hK _ _ ?_
          clear hK K
          refine wpAnyIn_ready (rs := [4]) (by kernel_rfl) (by simp) ?_
          refine AllReadyIn.cons rfl (fun K hK => ?_) AllReadyIn.nil
          go_simp
          refine hK _ _ ?_
          clear hK K
          refine wpAnyIn_ready (rs := [5]) (by kernel_rfl) (by simp) ?_
          refine AllReadyIn.cons rfl (fun K hK => ?_) AllReadyIn.nil
          go_simp
          refine hK _ _ ?_
          clear hK K
          refine wpAnyIn_ready (rs := [6]) (by kernel_rfl) (by simp) ?_
          refine AllReadyIn.cons rfl (fun K hK => ?_) AllReadyIn.nil
          go_simp
          refine ⟨trivial, ?_⟩
          refine (CallsIn.inRound lp (callsIn_wide.2 (wanted_any _ _ i hi _ HDD.out.drew.arr))).mono ?_
          rintro e w' ⟨rfl, rfl⟩
          refine hK _ _ ?_
          clear hK K
          refine wpAnyIn_ready (rs := [7]) (by kernel_rfl) (by simp) ?_
          refine AllReadyIn.cons rfl (fun K hK => ?_) AllReadyIn.nil
          go_simp
          refine hK _ _ ?_
          clear hK K
          refine wpAnyIn_done (by kernel_rfl) ?_ _
          exact key
        · go_simp
          refine hK _ _ ?_
          clear hK K
          refine wpAnyIn_ready (rs := [0, 3]) (by kernel_rfl) (by simp) ?_
          refine AllReadyIn.cons rfl (fun K hK => ?_) (AllReadyIn.cons rfl (fun K hK => ?_) AllReadyIn.nil)
          · go_simp
            refine hK _ _ ?_
            clear hK K
            refine wpAnyIn_ready (rs := [3]) (by kernel_rfl) (by simp) ?_
            refine AllReadyIn.cons rfl (fun K hK => ?_) AllReadyIn.nil
            go_simp
            refine hK _ _ ?_
            clear hK K
            refine wpAnyIn_ready (rs := [4]) (by kernel_rfl) (by simp) ?_
            refine AllReadyIn.cons rfl (fun K hK => ?_) AllReadyIn.nil
            go_simp
            refine hK _ _ ?_
            clear hK K
            refine wpAnyIn_ready (rs := [5]) (by kernel_rfl) (by simp) ?_
            refine AllReadyIn.cons rfl (fun K hK => ?_) AllReadyIn.nil
            go_simp
            refine hK _ _ ?_
            clear hK K
            refine wpAnyIn_ready (rs := [6]) (by kernel_rfl) (by simp) ?_
            refine AllReadyIn.cons rfl (fun K hK => ?_) AllReadyIn.nil
            go_simp
            refine ⟨trivial, ?_⟩
            refine (CallsIn.inRound lp (callsIn_wide.2 (wanted_any _ _ i hi _ HDD.out.drew.arr))).mono ?_
            rintro e w' ⟨rfl, rfl⟩
            refine hK _ _ ?_
            clear hK K
            refine wpAnyIn_ready (rs := [7]) (by kernel_rfl) (by simp) ?_
            refine AllReadyIn.cons rfl (fun K hK => ?_) AllReadyIn.nil
            go_simp
            refine hK _ _ ?_
            clear hK K
            refine wpAnyIn_done (by kernel_rfl) ?_ _
            exact key
          · go_simp
            refine hK _ _ ?_
            clear hK K
            refine wpAnyIn_ready (rs := [0, 4]) (by kernel_rfl) (by simp) ?_
            refine AllReadyIn.cons rfl (fun K hK => ?_) (AllReadyIn.cons rfl (fun K hK => ?_) AllReadyIn.nil)
            · go_simp
              refine hK _ _ ?_
              clear hK K
              refine wpAnyIn_ready (rs := [4]) (by kernel_rfl) (by simp) ?_
              refine AllReadyIn.cons rfl (fun K hK => ?_) AllReadyIn.nil
              go_simp
              refine hK _ _ ?_
              clear hK K
              refine wpAnyIn_ready (rs := [5]) (by kernel_rfl) (by simp) ?_
              refine AllReadyIn.cons rfl (fun K hK => ?_) AllReadyIn.nil
              go_simp
              refine hK _ _ ?_
              clear hK K
              refine wpAnyIn_ready (rs := [6]) (by kernel_rfl) (by simp) ?_
              refine AllReadyIn.cons rfl (fun K hK => ?_) AllReadyIn.nil
              go_simp
              refine ⟨trivial, ?_⟩
              refine (CallsIn.inRound lp (callsIn_wide.2 (wanted_any _ _ i hi _ HDD.out.drew.arr))).mono ?_
              rintro e w' ⟨rfl, rfl⟩
              refine hK _ _ ?_
              clear hK K
              refine wpAnyIn_ready (rs := [7]) (by kernel_rfl) (by simp) ?_
              refine AllReadyIn.cons rfl (fun K hK => ?_) AllReadyIn.nil
              go_simp
              refine hK _ _ ?_
              clear hK K
              refine wpAnyIn_done (by kernel_rfl) ?_ _
              exact key
            · go_simp
              refine hK _ _ ?_
              clear hK K
              refine wpAnyIn_ready (rs := [0, 5]) (by kernel_rfl) (by simp) ?_
              refine AllReadyIn.cons rfl (fun K hK => ?_) (AllReadyIn.cons rfl (fun K hK => ?_) AllReadyIn.nil)
              · go_simp
                refine hK _ _ ?_
                clear hK K
                refine wpAnyIn_ready (rs := [5]) (by kernel_rfl) (by simp) ?_
                refine AllReadyIn.cons rfl (fun K hK => ?_) AllReadyIn.nil
                go_simp
                refine hK _ _ ?_
                clear hK K
                refine wpAnyIn_ready (rs := [6]) (by kernel_rfl) (by simp) ?_
                refine AllReadyIn.cons rfl (fun K hK => ?_) AllReadyIn.nil
                go_simp
                refine ⟨trivial, ?_⟩
                refine (CallsIn.inRound lp (callsIn_wide.2 (wanted_any _ _ i hi _ HDD.out.drew.arr))).mono ?_
                rintro e w' ⟨rfl, rfl⟩
                refine hK _ _ ?_
                clear hK K
                refine wpAnyIn_ready (rs := [7]) (by kernel_rfl) (by simp) ?_
                refine AllReadyIn.cons rfl (fun K hK => ?_) AllReadyIn.nil
                go_simp
                refine hK _ _ ?_
                clear hK K
                refine wpAnyIn_done (by kernel_rfl) ?_ _
                exact key
              · go_simp
                refine hK _ _ ?_
                clear hK K
                refine wpAnyIn_ready (rs := [0]) (by kernel_rfl) (by simp) ?_
                refine AllReadyIn.cons rfl (fun K hK => ?_) AllReadyIn.nil
                go_simp
                refine hK _ _ ?_
                clear hK K
                refine wpAnyIn_ready (rs := [6]) (by kernel_rfl) (by simp) ?_
                refine AllReadyIn.cons rfl (fun K hK => ?_) AllReadyIn.nil
                go_simp
                refine ⟨trivial, ?_⟩
                refine (CallsIn.inRound lp (callsIn_wide.2 (wanted_any _ _ i hi _ HDD.out.drew.arr))).mono ?_
                rintro e w' ⟨rfl, rfl⟩
                refine hK _ _ ?_
                clear hK K
                refine wpAnyIn_ready (rs := [7]) (by kernel_rfl) (by simp) ?_
                refine AllReadyIn.cons rfl (fun K hK => ?_) AllReadyIn.nil
                go_simp
                refine hK _ _ ?_
                clear hK K
                refine wpAnyIn_done (by kernel_rfl) ?_ _
                exact key
    case g =>
      rcases hwa : askedB zs i with _ | _
      · have HK0 : Hid (keptL l zs (pre ++ [x]) = keptL l zs pre) := Lib.hid (by rw [keptL_snoc, HKF.out, hwa]; simp)
        clear hwa
        gi_wp2
        exact ⟨⟨Nat.le_refl _, fun k o _ h _ => h⟩, (Below.refl _ _).drew, v, by rw [HK0.out]; exact HDD.out.drew, by rw [HK0.out, List.length_append, Nat.add_mul]; omega⟩
      · have HK0 : Hid (keptL l zs (pre ++ [x]) = keptL l zs pre ++ (l.drop x.fst).take (x.snd - x.fst)) := Lib.hid (by rw [keptL_snoc, HKF.out, hwa, if_pos rfl])
        clear hwa
        have DD := Lib.hid HDD.out.drew
        have q0d := DD.out.b0.cell
        clear q0
        obtain ⟨WD, hWD⟩ : ∃ WD, W.drew = WD := ⟨_, rfl⟩
        rw [hWD] at DD q0d ⊢
        have HWD := Lib.hid hWD
        clear hWD
        have hcf : ¬ cap = x.fst := by omega
        obtain ⟨m, hm⟩ : ∃ m, x.snd - x.fst = m := ⟨_, rfl⟩
        rw [hm] at HK0
        have hm1 : x.fst + m ≤ l.length := by omega
        have hm2 : m ≤ cap - x.fst := by omega
        have hm3 : ((x.snd - x.fst : Nat) : Int) = (m : Int) := by rw [hm]
        obtain ⟨seg, hseg⟩ : ∃ seg, (l.drop x.fst).take m = seg := ⟨_, rfl⟩
        rw [hseg] at HK0
        have hsl : seg.length = m := by rw [← hseg, List.length_take, List.length_drop]; omega
        have hrs : RdI w.heap.size w (some ⟨bq, off + x.fst * 4, none⟩) seg := by rw [← hseg]; exact HRD.out.part x.fst m
        have hsb : ∀ z ∈ seg, z.bs.length ≤ 1000000 := fun z hz => HBL.out z (List.mem_of_mem_drop (List.mem_of_mem_take (by rw [hseg]; exact hz)))
        have HRS := Lib.hid hrs
        have HSB := Lib.hid hsb
        have HSL := Lib.hid hsl
        obtain ⟨its, hits⟩ : ∃ its, keptL l zs pre = its := ⟨_, rfl⟩
        rw [hits] at HK0 DD hle
        have hil : its.length ≤ 250000 := by
          have : pre.length * l.length ≤ 500 * 500 := Nat.mul_le_mul (by omega) h500
          omega
        have HLE := Lib.hid hle
        obtain ⟨o2, ho2⟩ : ∃ o2, off + x.fst * 4 = o2 := ⟨_, rfl⟩
        rw [ho2] at HRS
        clear hrs hsb hseg hsl hits hle HKF
        gi_wp2
        have HM := Lib.hid hm
        clear hm hm3
        clear ho2
        simp only [Bool.not_true]
        gi_loopw [33] (fun iv wr => ∃ (k : Nat) (v' : Value), k ≤ m ∧ iv = .int .i64 k ∧ DS w (.slice (some ⟨bq, off, none⟩) l.length cap) w1.heap.size (w1.heap.size + 1) w2.heap.size fv (askedB zs) v' (its ++ seg.take k) wr ∧ KeepsOthers WD wr ∧ Below w.heap.size WD wr)
          (fun iv _ => m - (intOf iv).toNat)
        case atStart => exact ⟨0, v, Nat.zero_le _, rfl, by simpa using DD.out, KeepsOthers.refl _, Below.refl _ _⟩
        case round =>
          obtain ⟨k, v', hk, rfl, hds, hko, hkb⟩ := hrel
          have HDK := Lib.hid hds
          have HKO := Lib.hid hko
          have HKB := Lib.hid hkb
          clear hds hko hkb
          by_cases hlt : k < m
          · obtain ⟨z, hzk⟩ : ∃ z, seg[k]? = some z := ⟨_, List.getElem?_eq_getElem (by rw [HSL.out]; exact hlt)⟩
            obtain ⟨bq', off', eq', hbq, hcs⟩ := HRS.out (by rw [HSL.out]; omega)
            injection eq' with eq'
            injection eq' with eq1 eq2
            subst eq1 eq2
            obtain ⟨c0, c1, c2, A, c, c3, hxc, hxm, hrb⟩ := hcs k z hzk
            have hbw := HDK.out.bel
            have g0 := (hbw.cell (p := ⟨bq, o2 + k * 4, none⟩) hbq).trans c0
            have g1' := (hbw.cell (p := ⟨bq, o2 + k * 4 + 1, none⟩) hbq).trans c1
            have g2 := (hbw.cell (p := ⟨bq, o2 + k * 4 + 2, none⟩) hbq).trans c2
            have g3 := (hbw.cell (p := ⟨bq, o2 + k * 4 + 3, none⟩) hbq).trans c3
            have HRB' := Lib.hid (hrb.below hbw)
            have hzb := HSB.out z (List.mem_of_getElem? hzk)
            have hlt1 := HDK.out.b1.lt
            have htk : its ++ seg.take (k + 1) = (its ++ seg.take k) ++ [z] := by
              rw [List.take_add_one, hzk, List.append_assoc]
              rfl
            have HTK := Lib.hid htk
            have hil2 : (its ++ seg.take k).length ≤ 1000000 := by rw [List.length_append, List.length_take]; omega
            clear hcs c0 c1 c2 c3 hzk hrb hbw htk g1
            gi_wp2_with (first
              | (refine ⟨trivial, ?_⟩; gi_at_call 34; refine (CallsIn.inRound lp (callsIn_wide.2 (copy_any rfl hzb (HRB'.out.below ((Below.refl w.heap.size wr).alloc HDK.out.bel.size (.cells #[.int .i64 z.kind, .int .i64 z.id, .int .i64 z.n, .slice A z.bs.length c] 41)))))).mono ?_; rintro e u1 ⟨A5, c5, rfl, ho5, hb1⟩; have BX := Lib.hid (Box.below (heap_alloc_new wr (.cells #[.int .i64 z.kind, .int .i64 z.id, .int .i64 z.n, .slice A z.bs.length c] 41)) hb1 (by simp)); have x0 : u1.cell? ⟨wr.heap.size, 0, none⟩ = some (.int .i64 z.kind) := BX.out.cell 0; have x1 : u1.cell? ⟨wr.heap.size, 1, none⟩ = some (.int .i64 z.id) := BX.out.cell 1; have x2 : u1.cell? ⟨wr.heap.size, 2, none⟩ = some (.int .i64 z.n) := BX.out.cell 2; have x3 : u1.cell? ⟨wr.heap.size, 3, none⟩ = some (.slice A z.bs.length c) := BX.out.cell 3; have f3 := BX.out.frozen 3; have hbu := ((Below.refl wr.heap.size wr).alloc (Nat.le_refl _) (.cells #[.int .i64 z.kind, .int .i64 z.id, .int .i64 z.n, .slice A z.bs.length c] 41)).trans (hb1.mono (by simp)); have q1 := (boxed_below HDK.out.b1 hbu hlt1).cell; have HO5 := Lib.hid ho5; have HBU := Lib.hid hbu; have hsu := hb1.size; clear ho5 hb1 hbu)
              | (gi_at_builtin; refine wpListIn_append_part rfl _ _ rfl w.heap.size _ (its ++ seg.take k) rfl (HDK.out.below ((HBU.out.setCell (p := ⟨wr.heap.size, 3, none⟩) (Nat.le_refl _) (.slice A5 z.bs.length c5)).alloc (HBU.out.setCell (p := ⟨wr.heap.size, 3, none⟩) (Nat.le_refl _) (.slice A5 z.bs.length c5)).size _)).own z A5 c5 (own_mono ((own_far (b := wr.heap.size) (i := 3) HO5.out (by simp) (.slice A5 z.bs.length c5)).alloc _) (by have := HDK.out.bel.size; simp; omega)) ⟨u1.heap.size, 0, none⟩ 1 rfl ?hcell hil2 ?hbase ?_; (case hcell => (have hc4 := cells_built (u1.setCell ⟨wr.heap.size, 3, none⟩ (.slice A5 z.bs.length c5)) (.int .i64 z.kind) (.int .i64 z.id) (.int .i64 z.n) (.slice A5 z.bs.length c5); rw [show (u1.setCell ⟨wr.heap.size, 3, none⟩ (.slice A5 z.bs.length c5)).heap.size = u1.heap.size by simp] at hc4; exact hc4)); (case hbase => (have := HDK.out.bel.size; have := HBU.out.size; simp; omega)); intro v1 X1 ho hb hg; have HB3 := Lib.hid ((HBU.out.setCell (p := ⟨wr.heap.size, 3, none⟩) (Nat.le_refl _) (.slice A5 z.bs.length c5)).alloc (HBU.out.setCell (p := ⟨wr.heap.size, 3, none⟩) (Nat.le_refl _) (.slice A5 z.bs.length c5)).size (.cells #[.int .i64 z.kind, .int .i64 z.id, .int .i64 z.n, .slice A5 z.bs.length c5] 41)); have DS3 := Lib.hid (HDK.out.below HB3.out); have HG := Lib.hid (show World.grownBy _ X1 v'.ownBlock from hg); have bxx := DS3.out.b1.kept HG.out (ownD_ne DS3.out.own DS3.out.b1 (by decide)); clear q1; have q1 := bxx.cell; have z1 := bxx.frozen; have HOX := Lib.hid ho; have HBX := Lib.hid hb; obtain ⟨L1, ln1, lc1, rfl, -, -, -⟩ := HOX.out.form_n; clear ho hb hg))
            go_roundw
            case rel =>
              refine ⟨k + 1, .slice L1 ln1 lc1, by omega, by go_num, by rw [HTK.out]; exact DS3.out.grown HG.out HOX.out HBX.out hww1 (Nat.lt_succ_self _) hw13, ?_, ((HKB.out.trans (HB3.out.mono HDK.out.bel.size)).trans HBX.out).setCell (p := ⟨w1.heap.size, 0, none⟩) (by show w.heap.size ≤ w1.heap.size; omega) _⟩
              exact ((HKO.out.trans (keeps_below HB3.out)).trans (keeps_grown HG.out (fun r e => by obtain ⟨_, cs, h⟩ := DS3.out.own.block r e; exact ⟨cs, _, _, h⟩))).trans (KeepsOthers.setCell _ _ _)
            case measure => simp [intOf]; omega
          · obtain rfl : k = m := by omega
            rw [List.take_of_length_le (by rw [HSL.out]; exact Nat.le_refl _)] at HDK
            have HWD' := HWD.out
            subst HWD'
            gi_wp2
            refine ⟨⟨HKO.out.size, fun k o _ h ho => HKO.out.same k o h ho⟩, ⟨HKB.out.os, HKB.out.tape, HKB.out.output, HKB.out.size, HKB.out.block⟩, ⟨v', by rw [HK0.out]; exact HDK.out⟩, ?_⟩
            rw [HK0.out, List.length_append, List.length_append, Nat.add_mul, HSL.out]
            have := HLE.out
            simp only [List.length_cons, List.length_nil]
            omega
  case done =>
    rintro D ys W hD hys ⟨v, hds, _⟩ hK
    have hke : keptL l zs ys = pdropS l zs := by unfold keptL; rw [hys, HP.out]
    rw [hke] at hds
    have hds2 := hds.kept (grownBy_putObj' W D (.deferred none)) (fun r e => by cases e; exact ⟨by omega, _, hK, rfl⟩)
    obtain ⟨A, n, c, rfl, hn, hnc, hcm2⟩ := hds2.own.form_n
    have q1 := hds.b1.cell
    have HD2 := Lib.hid hds2
    have HN := Lib.hid hn
    clear hds hds2 hke hys hn
    gi_wp2
    refine ⟨by simp, .inl ⟨_, _, rfl, run_takeDeferred hK, ?_⟩⟩
    refine ⟨.slice A n c, ?_, A, n, c, rfl, HN.out, hnc, hcm2, HD2.out.own.rd, HD2.out.bel⟩
    simp [results, Try.f21, go_sem]
  case stop =>
    rintro D c pre W _ _ h _
    exact h.elim

/-- What Drop returns: items in memory of their own. -/
def GotD (m : List It) (w : World) (e : Ending) (w' : World) : Prop :=
  ∃ A n c, e = .returned (.slice A n c) ∧ n = m.length ∧ n ≤ c ∧ c ≤ maxLen ∧ RdI w'.heap.size w' A m ∧ Below w.heap.size w w'
set_option maxRecDepth 100000 in
set_option maxHeartbeats 2000000 in
theorem pdrop_not (a : Option Addr) (cap : Nat) (l : List It) (b : Option Addr) (cb : Nat) (zs : List Int) (hlen : l.length ≤ 140737488351232) (w : World) (hr : RdI w.heap.size w a l) (hR : rightB l = false) :
    Calls Try.prog 21 #[.slice a l.length cap, .slice b zs.length cb] w (GotD [] w) := by
  refine (callsIn_wide (n := 3)).1 ?_
  have h1 : 1 ≤ 3 := by decide
  refine callsIn_of_wp_marks Try.func21 rfl trivial ?_ rfl
  simp only [Try.ntmps21, List.size_toArray, List.length_cons, List.length_nil, Nat.reduceAdd, Nat.reduceSub, Array.replicate_succ, Array.replicate_zero, List.push_toArray, List.append_toArray, List.nil_append, List.cons_append]
  have hright : ∀ W, Below w.heap.size w W → Calls Try.prog 14 #[.slice a l.length cap] W fun e w' => e = .returned (.bool false) ∧ Below W.heap.size W w' := fun W hW => by
    have h := pright_any a cap l hlen W ((hr.below hW).mono hW.size)
    rwa [hR] at h
  have HRT := Lib.hid hright
  clear hright hr hR
  have B0 := Lib.hid ((Below.refl w.heap.size w).alloc (Nat.le_refl _) (.cells #[.slice a l.length cap] 22))
  gi_wp2_with (refine ⟨trivial, ?_⟩; gi_at_call 14; refine (callsIn_wide.2 (HRT.out _ B0.out)).mono ?_; rintro e w1 ⟨rfl, hb1⟩; have B1 := Lib.hid (B0.out.trans (hb1.mono (by simp))); clear hb1)
  refine ⟨.slice none 0 0, ?_, none, 0, 0, rfl, rfl, Nat.le_refl _, Nat.zero_le _, fun hp => by simp at hp, B1.out⟩
  simp [results, Try.f21, go_sem]

theorem pdrop_any {a : Option Addr} {n cap : Nat} {l : List It} {b : Option Addr} {m cb : Nat} {zs : List Int} (hn : n = l.length) (hm : m = zs.length) (h500 : l.length ≤ 500) (hcap : n ≤ cap) (hcm : cap ≤ 9223372036854775807) (hbl : ∀ x ∈ l, x.bs.length ≤ 1000000) (hzl : zs.length ≤ 140737488351232) (hz : Ints64 zs) {w : World} (hr : RdI w.heap.size w a l) (hrz : Rd .i64 w.heap.size w b zs) :
    Calls Try.prog 21 #[.slice a n cap, .slice b m cb] w (GotD (pdropS l zs) w) := by
  subst hn hm
  rcases Bool.eq_false_or_eq_true (rightB l) with hR | hR
  · exact pdrop_yes a cap l b cb zs (by omega) h500 hcap hcm hbl hzl hz w hr hrz hR
  · have e : pdropS l zs = [] := by unfold pdropS; rw [if_neg (by simp [hR])]
    rw [e]
    exact pdrop_not a cap l b cb zs (by omega) w hr hR
end Go.Proofs.Yteelknmafnoccaa
