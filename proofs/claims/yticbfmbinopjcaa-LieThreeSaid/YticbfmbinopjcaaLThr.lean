/-
  LieThree: an end is ThreeWay just of one that it accepts, and that told that it heard this end.
-/
import Derived.Test.YticbfmbinopjcaaLSays
import Derived.Test.YticbfmbinopjcaaLAccL
namespace Go.Proofs.Yticbfmbinopjcaa
set_option linter.unusedSimpArgs false
set_option linter.unusedVariables false
open Go.RowKit
/-- The one who is heard said the last lie that was taken. -/
def LinkI (e : EndT) (x : LieT) : Prop := (e.o.node ≠ 0 → e.o.node = x.node ∧ e.o.link = x.link ∧ accB e.p x) ∧ (e.s = 2 → x.seen = e.p.node ∧ x.seenLink = e.p.link)
theorem LinkI.fall (e : EndT) (x : LieT) {s : Int} (hs : s ≠ 2) : LinkI (fallE e s) x := ⟨fun h => absurd rfl h, fun h => absurd h hs⟩
theorem take_link {e : EndT} {y : LieT} (h : LinkI e y) (x : LieT) (now : Int) : LinkI (takeE e x now).2 (if (takeE e x now).1 = 0 then x else y) := by
  unfold takeE
  split
  · simpa using h
  · split
    · simpa using h
    · split
      · simp only; split
        · simpa using LinkI.fall e y (by decide)
        · simpa using h
      · rename_i ha
        have ha : accB e.p x := by simpa using ha
        split
        · simpa using h
        · split
          · simp only [if_true]
            exact ⟨fun h => absurd rfl h, fun h => by simp [fallE] at h⟩
          · simp only [if_true]
            refine ⟨fun _ => ⟨rfl, rfl, ha⟩, fun hs => ?_⟩
            simp only [hearE] at hs ⊢
            split at hs
            · rename_i k; exact ⟨k.1, k.2.1⟩
            · cases hs
theorem tick_link {e : EndT} {y : LieT} (h : LinkI e y) (now : Int) : LinkI (tickE e now).2 y := by
  unfold tickE
  split
  · exact h
  · split
    · exact LinkI.fall _ y (by decide)
    · exact h
theorem level_link {e : EndT} {y : LieT} (h : LinkI e y) (l : Int) : LinkI (levelE e l).2 y := by
  unfold levelE
  split
  · exact h
  · split
    · exact h
    · exact LinkI.fall _ y (by decide)
theorem take_no {e : EndT} {x : LieT} {now : Int} (h : (takeE e x now).1 = 0) : lieR x = true := by
  cases q : lieR x
  · unfold takeE at h
    split at h
    · cases h
    · simp [q] at h
  · rfl
theorem level_p (e : EndT) (l : Int) : (levelE e l).2.p = if (levelE e l).1 = 0 then { e.p with level := l } else e.p := by
  unfold levelE
  split
  · simp
  · split
    · rename_i h; simp [h]
    · simp [fallE]
/-- What LieThree holds on to: the end, its port in a box, the last lie in a box. -/
structure ThrI (w : World) (b bl : Nat) (e : EndT) (x : LieT) (W : World) : Prop where
  one : One 56 w b e W
  inv : InvE e
  link : LinkI e x
  lev : x.level ≤ 9223372036854775807
  box : BxP 23 W w.heap.size (encPort e.p)
  lb : BxP 25 W bl (cellsLie x)
  bl : w.heap.size < bl
theorem ThrI.below {w W W' : World} {b bl : Nat} {x : LieT} {e : EndT} (h : ThrI w b bl e x W) (k : Below W.heap.size W W') : ThrI w b bl e x W' := ⟨h.one.below k, h.inv, h.link, h.lev, h.box.below k, h.lb.below k, h.bl⟩
theorem ThrI.alloc {w W : World} {b bl : Nat} {x : LieT} {e : EndT} (h : ThrI w b bl e x W) (o : Obj) : ThrI w b bl e x (W.alloc o) := h.below ((Below.refl _ _).alloc (Nat.le_refl _) o)
/-- The end has been turned, its port was left. -/
structure ThrJ (w : World) (b bl : Nat) (e0 e : EndT) (x : LieT) (W : World) : Prop where
  one : One 56 w b e W
  inv : InvE e
  lev : x.level ≤ 9223372036854775807
  box : BxP 23 W w.heap.size (encPort e0.p)
  lb : BxP 25 W bl (cellsLie x)
  bl : w.heap.size < bl
theorem ThrI.turn {w W W' : World} {b bl : Nat} {x : LieT} {e e' : EndT} (h : ThrI w b bl e x W) (q : EndP 56 W' b e') (k : But b W W') (i : InvE e') : ThrJ w b bl e e' x W' := ⟨h.one.turn q k, i, h.lev, h.box.keep (k.ke h.one.e (.inl rfl)) (by decide) (by decide), h.lb.keep (k.ke h.one.e (.inl rfl)) (by decide) (by decide), h.bl⟩
theorem ThrJ.same {w W : World} {b bl : Nat} {x : LieT} {e e' : EndT} (h : ThrJ w b bl e e' x W) (hp : e'.p = e.p) (hl : LinkI e' x) : ThrI w b bl e' x W := ⟨h.one, h.inv, hl, h.lev, by rw [hp]; exact h.box, h.lb, h.bl⟩
theorem EndP.ne_box {T U : TypeId} {W : World} {b k : Nat} {e : EndT} {l : List Value} (h : EndP T W b e) (hl : BxP U W k l) (hT : T ≠ U) : k ≠ b := by
  rintro rfl
  unfold EndP at h
  unfold BxP at hl
  rw [h] at hl
  injection hl with hl
  injection hl with _ hl _
  exact hT hl
theorem bel_set {base B : Nat} {w W : World} (h : Below base w W) (hB : base ≤ B) (j : Nat) (v : Value) : Below base w (W.setCell ⟨B, j, none⟩ v) := h.setCell (p := ⟨B, j, none⟩) hB v
/-- A store into another block. -/
theorem BxP.other {U : TypeId} {W : World} {k b j : Nat} {l : List Value} {v : Value} (h : BxP U W k l) (hn : k ≠ b) : BxP U (W.setCell ⟨b, j, none⟩ v) k l := (heap_setCell_other _ _ _ _ hn).trans h
theorem EndP.other {T : TypeId} {W : World} {k b j : Nat} {e : EndT} {v : Value} (h : EndP T W k e) (hn : k ≠ b) : EndP T (W.setCell ⟨b, j, none⟩ v) k e := (heap_setCell_other _ _ _ _ hn).trans h
theorem BxP.lieput {W : World} {bl : Nat} {x : LieT} (h : BxP 25 W bl (cellsLie x)) (y : LieT) : BxP 25 ((((((((((((W.setCell ⟨bl, 0, none⟩ (.int .i64 y.node)).setCell ⟨bl, 1, none⟩ (.int .i64 y.level)).setCell ⟨bl, 2, none⟩ (.int .i64 y.pod)).setCell ⟨bl, 3, none⟩ (.int .i64 y.mtu)).setCell ⟨bl, 4, none⟩ (.int .i64 y.link)).setCell ⟨bl, 5, none⟩ (.int .i64 y.nonce)).setCell ⟨bl, 6, none⟩ (.int .i64 y.seen)).setCell ⟨bl, 7, none⟩ (.int .i64 y.seenLink)).setCell ⟨bl, 8, none⟩ (.int .i64 y.seenNonce)).setCell ⟨bl, 9, none⟩ (.int .i64 y.hold)).setCell ⟨bl, 10, none⟩ (.bool y.rep)).setCell ⟨bl, 11, none⟩ (.bool y.noOffer)) bl (cellsLie y) := by
  have h' : W.heap[bl]? = some (.cells (cellsLie x).toArray 25 (0, 0)) := h
  have q := (heap_set_list (j := 11) (v := .bool y.noOffer) (heap_set_list (j := 10) (v := .bool y.rep) (heap_set_list (j := 9) (v := .int .i64 y.hold) (heap_set_list (j := 8) (v := .int .i64 y.seenNonce) (heap_set_list (j := 7) (v := .int .i64 y.seenLink) (heap_set_list (j := 6) (v := .int .i64 y.seen) (heap_set_list (j := 5) (v := .int .i64 y.nonce) (heap_set_list (j := 4) (v := .int .i64 y.link) (heap_set_list (j := 3) (v := .int .i64 y.mtu) (heap_set_list (j := 2) (v := .int .i64 y.pod) (heap_set_list (j := 1) (v := .int .i64 y.level) (heap_set_list (j := 0) (v := .int .i64 y.node) h'))))))))))))
  simp only [cellsLie, List.set_cons_zero, List.set_cons_succ] at q
  exact q
theorem ThrJ.last {w W : World} {b bl : Nat} {x : LieT} {e e' : EndT} (h : ThrJ w b bl e e' x W) (hp : e'.p = e.p) (y : LieT) (hl : LinkI e' y) (hy : y.level ≤ 9223372036854775807) : ThrI w b bl e' y ((((((((((((W.setCell ⟨bl, 0, none⟩ (.int .i64 y.node)).setCell ⟨bl, 1, none⟩ (.int .i64 y.level)).setCell ⟨bl, 2, none⟩ (.int .i64 y.pod)).setCell ⟨bl, 3, none⟩ (.int .i64 y.mtu)).setCell ⟨bl, 4, none⟩ (.int .i64 y.link)).setCell ⟨bl, 5, none⟩ (.int .i64 y.nonce)).setCell ⟨bl, 6, none⟩ (.int .i64 y.seen)).setCell ⟨bl, 7, none⟩ (.int .i64 y.seenLink)).setCell ⟨bl, 8, none⟩ (.int .i64 y.seenNonce)).setCell ⟨bl, 9, none⟩ (.int .i64 y.hold)).setCell ⟨bl, 10, none⟩ (.bool y.rep)).setCell ⟨bl, 11, none⟩ (.bool y.noOffer)) := by
  have n1 : b ≠ bl := fun q => (h.one.e.ne_box h.lb (by decide)) q.symm
  have n2 : w.heap.size ≠ bl := by have := h.bl; omega
  have hb : w.heap.size ≤ bl := Nat.le_of_lt h.bl
  refine ⟨⟨((((((((((((h.one.e.other n1).other n1).other n1).other n1).other n1).other n1).other n1).other n1).other n1).other n1).other n1).other n1), h.one.le, ?_⟩, h.inv, hl, hy, by rw [hp]; exact ((((((((((((h.box.other n2).other n2).other n2).other n2).other n2).other n2).other n2).other n2).other n2).other n2).other n2).other n2), h.lb.lieput y, h.bl⟩
  exact bel_set (bel_set (bel_set (bel_set (bel_set (bel_set (bel_set (bel_set (bel_set (bel_set (bel_set (bel_set (h.one.bel) hb _ _) hb _ _) hb _ _) hb _ _) hb _ _) hb _ _) hb _ _) hb _ _) hb _ _) hb _ _) hb _ _) hb _ _
theorem ThrJ.level {w W : World} {b bl : Nat} {x : LieT} {e e' : EndT} (h : ThrJ w b bl e e' x W) (l : Int) (hp : e'.p = { e.p with level := l }) (hl : LinkI e' x) : ThrI w b bl e' x (W.setCell ⟨w.heap.size, 1, none⟩ (.int .i64 l)) := by
  have n1 : b ≠ w.heap.size := fun q => (h.one.e.ne_box h.box (by decide)) q.symm
  have n2 : bl ≠ w.heap.size := by have := h.bl; omega
  refine ⟨⟨h.one.e.other n1, h.one.le, bel_set h.one.bel (Nat.le_refl _) _ _⟩, h.inv, hl, h.lev, ?_, h.lb.other n2, h.bl⟩
  have h' : W.heap[w.heap.size]? = some (.cells (encPort e.p).toArray 23 (0, 0)) := h.box
  have q := heap_set_list (j := 1) (v := .int .i64 l) h'
  rw [hp]
  simp only [encPort, List.set_cons_zero, List.set_cons_succ] at q ⊢
  exact q
end Go.Proofs.Yticbfmbinopjcaa
