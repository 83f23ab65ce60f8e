/-
  THE DOCUMENT's TABLE: a net's number is put.
-/
import Derived.Test.YtpoognkppnplpaaYRPl
import Derived.Laws.AppendOwnNone
namespace Go.Proofs.Ytpoognkppnplpaa
set_option linter.unusedSimpArgs false
set_option linter.unusedVariables false
open Go.RowKit
theorem Try.infoKn : (Try.prog.info? 62).map (fun i => (i.zero, i.size, i.bytes)) = some (some (.agg #[.int .u32 0, .int .i64 0, .int .i64 0]), 3, 24) := by kernel_rfl
theorem TurnsR.drewN {base : Nat} {X Y : World} (h : TurnsR base X Y) (n : Nat) : TurnsR base X (Y.drewN n) := ⟨bel_drawn h.bel n, ⟨h.keep.1, h.keep.2⟩⟩
/-- The end of Put. -/
def RPutEnd (w : World) (base rb : Nat) (room : Int) (L' : List Ent) (W : World) : Prop := RefP W base rb room L' ∧ TurnsR base w W
theorem rput_bad (base rb n : Nat) (hn : n < 4294967296) (b k : Int) (w : World) (hr : rightP (n, b) = false) :
    Calls Try.prog 27 #[pt (some rb), .agg #[.int .u32 n, .int .i64 b], .int .i64 k] w fun e w' => e = .returned (.int .i64 1) ∧ Below w.heap.size w w' := by
  have hrt := rright_any n hn b
  rw [hr] at hrt
  have HB := Lib.hid ((Below.refl w.heap.size w).alloc (Nat.le_refl _) (.cells #[.int .u32 n, .int .i64 b] 25))
  go_enter Try.func27, Try.ntmps27
  go_wp2_with (go_at_call 39; refine (hrt _).mono ?_; rintro e w1 ⟨rfl, hb1⟩; have HB1 := Lib.hid (HB.out.trans (hb1.mono (by simp))); clear hb1)
  go_ret
  exact ⟨rfl, HB1.out⟩
theorem rput_full (base rb n : Nat) (hn : n < 4294967296) (b k : Int) (room : Int) (L : List Ent) (w : World) (h : RefP w base rb room L) (hr : rightP (n, b) = true) (hg : getL L (n, b) = none) (hl : room ≤ (L.length : Int)) :
    Calls Try.prog 27 #[pt (some rb), .agg #[.int .u32 n, .int .i64 b], .int .i64 k] w fun e w' => e = .returned (.int .i64 3) ∧ Below w.heap.size w w' := by
  have hrt := rright_any n hn b
  rw [hr] at hrt
  have hpl := fun W (hW : Below w.heap.size w W) => rplace_any base rb n b room L W (h.below hW)
  obtain ⟨v, h⟩ := h
  have hi := placeIs_get h.good.rises (n, b)
  rw [hg] at hi
  rw [hi] at hpl
  obtain ⟨a, c, hv⟩ := h.shape
  obtain ⟨len, hlen⟩ : ∃ len, L.length = len := ⟨_, rfl⟩
  rw [hlen] at hv hl
  subst hv
  have hcl := fun (W : World) (hW : Below w.heap.size w W) => (h.below hW).cells
  have HPL := Lib.hid hpl
  have HCL := Lib.hid hcl
  have HB := Lib.hid ((Below.refl w.heap.size w).alloc (Nat.le_refl _) (.cells #[.int .u32 n, .int .i64 b] 25))
  have BX := Lib.hid (Bx.new w (.int .u32 n) (.int .i64 b))
  have hd : decide (room ≤ (len : Int)) = true := decide_eq_true hl
  generalize placeN L (n, b) = kk at *
  clear hpl hcl h hi hr hg hlen
  unfold pt at HPL ⊢
  simp only [Option.isSome_none, Option.map_some] at HPL ⊢
  go_enter Try.func27, Try.ntmps27
  go_wp2_with (first
    | (go_at_call 39; refine (hrt _).mono ?_; rintro e w1 ⟨rfl, hb1⟩; have k5 := BX.out.keep hb1 (by simp); obtain ⟨c0, c1, _, _⟩ := k5.cells; have HB1 := Lib.hid (HB.out.trans (hb1.mono (by simp))); clear hb1 k5)
    | (go_at_call 29; refine (HPL.out _ HB1.out).mono ?_; rintro e w2 ⟨rfl, hb2⟩; have hb3 := HB1.out.trans (hb2.mono HB1.out.size); obtain ⟨t0, t1, _⟩ := HCL.out _ hb3; have HB2 := Lib.hid hb3; clear hb2 hb3))
  go_quiet (fail)
  go_wp2
  go_ret
  exact ⟨rfl, bel_drawn HB2.out _⟩
/-- A cell of a row is set. -/
theorem ownsRow_set {W : World} {base g cap n j : Nat} {T : TypeId} {size : Nat} {xs : List Value} (h : W.ownsRow base T size (.slice (some ⟨g, 0, none⟩) n cap) n xs) (hj : j < n * size) (u : Value) : (W.setCell ⟨g, j, none⟩ u).ownsRow base T size (.slice (some ⟨g, 0, none⟩) n cap) n (xs.set j u) := by
  refine ⟨by rw [List.length_set]; exact h.1, .inr ?_⟩
  rcases h.2 with ⟨e, _⟩ | ⟨g', cap', cur, e, hg, hh, hn, hm, hs, ht⟩
  · cases e
  · obtain ⟨rfl, rfl⟩ : g' = g ∧ cap' = cap := by injection e with e1 e2 e3; injection e1 with e1; injection e1 with e1; exact ⟨e1.symm, e3.symm⟩
    refine ⟨g', cap', _, rfl, hg, heap_setCell_same W g' j cur T u hh, hn, hm, by simpa using hs, ?_⟩
    rw [← ht, Array.toList_setIfInBounds]
    exact List.take_set.trans (by simp)
theorem rowE_set {L : List Ent} {k : Nat} {p : Nat × Int} {m kk : Int} (hx : L[k]? = some (p, m)) : (rowE L).set (k * 3 + 2) (.int .i64 kk) = rowE (L.set k (p, kk)) := by
  induction L generalizing k with
  | nil => simp at hx
  | cons q l ih =>
    match k, hx with
    | 0, hx =>
      simp at hx
      subst hx
      rfl
    | k + 1, hx =>
      have := ih (k := k) (by simpa using hx)
      rw [List.set_cons_succ, rowE_cons, rowE_cons, ← this, List.set_append, if_neg (by simp [cellsE]; omega)]
      congr 1
      simp [cellsE]
      congr 1
      omega
theorem rput_is (base rb n : Nat) (hn : n < 4294967296) (b m kk : Int) (room : Int) (L : List Ent) (w : World) (h : RefP w base rb room L) (hr : rightP (n, b) = true) (hg : getL L (n, b) = some m) :
    Calls Try.prog 27 #[pt (some rb), .agg #[.int .u32 n, .int .i64 b], .int .i64 kk] w fun e w' => e = .returned (.int .i64 0) ∧ RPutEnd w base rb room (putL (n, b) kk L) w' := by
  have hrt := rright_any n hn b
  rw [hr] at hrt
  have hpl := fun W (hW : Below w.heap.size w W) => rplace_any base rb n b room L W (h.below hW)
  obtain ⟨v, h⟩ := h
  have hi := placeIs_get h.good.rises (n, b)
  rw [hg] at hi
  rw [hi] at hpl
  have hx := place_get h.good.rises hg
  have hpp := put_place h.good.rises (n, b) kk
  rw [hg] at hpp
  simp only [Option.isSome_some, if_true] at hpp
  have hlt := (List.getElem?_eq_some_iff.1 hx).1
  obtain ⟨g, c, rfl⟩ : ∃ g c, v = .slice (some ⟨g, 0, none⟩) L.length c := by
    rcases h.own.form with ⟨_, e⟩ | ⟨g, cap, e, _⟩
    · rw [e] at hlt; simp at hlt
    · exact ⟨g, cap, e⟩
  have hlen := h.len
  have hgood := h.good.put hr hn kk
  obtain ⟨len, hl⟩ : ∃ len, L.length = len := ⟨_, rfl⟩
  have hcl : ∀ W, Below w.heap.size w W → (W.cell? ⟨rb, 1, none⟩ = some (.slice (some ⟨g, 0, none⟩) len c)) ∧ W.cell? ⟨g, placeN L (n, b) * 3 + 2, none⟩ = some (.int .i64 m) ∧ W.frozen? ⟨g, placeN L (n, b) * 3 + 2, none⟩ = false := fun W hW => by
    have h2 := h.below hW
    have h3 := h2.own
    rcases h3.2 with ⟨e, _⟩ | ⟨g', cap', cur, e, _, hh, _⟩
    · cases e
    · obtain rfl : g' = g := by injection e with e1 e2 e3; injection e1 with e1; injection e1 with e1; exact e1.symm
      rw [← hl]
      exact ⟨h2.cells.2.1, (h3.cell hx).2.2, frozen_of_row _ _ _ _ _ hh⟩
  have hfin : ∀ W, Below w.heap.size w W → RPutEnd w base rb room (putL (n, b) kk L) (W.setCell ⟨g, placeN L (n, b) * 3 + 2, none⟩ (.int .i64 kk)) := fun W hW => by
    have h2 := h.below hW
    have hbl := h.own
    obtain ⟨cur, hh, hbg⟩ : ∃ cur, W.heap[g]? = some (.cells cur 62 (0, 0)) ∧ base ≤ g := by
      rcases h2.own.2 with ⟨e, _⟩ | ⟨g', cap', cur, e, hbg, hh, _⟩
      · cases e
      · obtain rfl : g' = g := by injection e with e1 e2 e3; injection e1 with e1; injection e1 with e1; exact e1.symm
        exact ⟨cur, hh, hbg⟩
    have ow := ownsRow_set h2.own (j := placeN L (n, b) * 3 + 2) (by omega) (.int .i64 kk)
    rw [rowE_set hx, ← hpp] at ow
    have hll : (putL (n, b) kk L).length = L.length := by rw [hpp, List.length_set]
    have hbb : base ≤ w.heap.size := h.base
    have tu : TurnsR base w (W.setCell ⟨g, placeN L (n, b) * 3 + 2, none⟩ (.int .i64 kk)) := ⟨(hW.mono hbb).setCell (p := ⟨g, _, none⟩) hbg _, (KeepT.below hW).trans (KeepT.setCell hh (by unfold SR; decide) _)⟩
    refine ⟨⟨.slice (some ⟨g, 0, none⟩) L.length c, (KeepT.setCell (S := fun T => T = 36) hh (by decide) _).2 _ _ _ _ rfl h2.box, ?_, h.le, hgood, by rw [hll]; exact h.len, h.room, Nat.le_trans hbb tu.bel.size⟩, tu⟩
    unfold OwnE
    rw [hll]
    exact ow
  rw [hl] at hlt hlen
  have HPL := Lib.hid hpl
  have HCL := Lib.hid hcl
  have HFIN := Lib.hid hfin
  have HB := Lib.hid ((Below.refl w.heap.size w).alloc (Nat.le_refl _) (.cells #[.int .u32 n, .int .i64 b] 25))
  have BX := Lib.hid (Bx.new w (.int .u32 n) (.int .i64 b))
  generalize placeN L (n, b) = k at *
  clear hpl hcl hfin h hi hr hg hx hpp hgood hl
  unfold pt at HPL ⊢
  simp only [Option.isSome_some, Option.map_some] at HPL ⊢
  go_enter Try.func27, Try.ntmps27
  go_wp2_with (first
    | (go_at_call 39; refine (hrt _).mono ?_; rintro e w1 ⟨rfl, hb1⟩; have k5 := BX.out.keep hb1 (by simp); obtain ⟨c0, c1, _, _⟩ := k5.cells; have HB1 := Lib.hid (HB.out.trans (hb1.mono (by simp))); clear hb1 k5)
    | (go_at_call 29; refine (HPL.out _ HB1.out).mono ?_; rintro e w2 ⟨rfl, hb2⟩; have hb3 := HB1.out.trans (hb2.mono HB1.out.size); obtain ⟨t0, t1, t2⟩ := HCL.out _ hb3; have HB2 := Lib.hid hb3; clear hb2 hb3))
  go_ret
  exact ⟨rfl, HFIN.out _ HB2.out⟩
end Go.Proofs.Ytpoognkppnplpaa
