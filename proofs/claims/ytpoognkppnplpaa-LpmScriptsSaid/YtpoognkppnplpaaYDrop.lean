/-
  TABLES: a net is dropped (the program).
-/
import Derived.Test.YtpoognkppnplpaaYPut
import Derived.StillTailTactics
namespace Go.Proofs.Ytpoognkppnplpaa
set_option linter.unusedSimpArgs false
set_option linter.unusedVariables false
open Go.RowKit
theorem drop_not (base tb n : Nat) (hn : n < 4294967296) (b : Int) (room : Int) (L : List Ent) (w : World) (h : TabP w base tb room L) (hg : getL L (n, b) = none) :
    Calls Try.prog 20 #[pt (some tb), .agg #[.int .u32 n, .int .i64 b]] w fun e w' => e = .returned (.bool false) ∧ Below w.heap.size w w' := by
  obtain ⟨f, g, h⟩ := h
  have hget := get_not tb base n hn b f g L h.good h.mat (w.alloc (.cells #[.int .u32 n, .int .i64 b] 25)) (h.tree.alloc _) hg
  have HB := Lib.hid ((Below.refl w.heap.size w).alloc (Nat.le_refl _) (.cells #[.int .u32 n, .int .i64 b] 25))
  clear h hg
  unfold pt at hget ⊢
  go_enter Try.func20, Try.ntmps20
  go_wp2_with (go_at_call 11; refine hget.mono ?_; rintro e w1 ⟨rfl, hb1⟩; have HB1 := Lib.hid (HB.out.trans (hb1.mono (by simp))); clear hb1)
  go_ret
  exact ⟨rfl, HB1.out⟩
/-- Behind the nodes' drop. -/
def DropAt (base tb : Nat) (room s : Int) (n d : Nat) (g : Nat → Nat → Option (Nat × Int)) (w W : World) : Prop := ∃ f', Tree W base tb f' (upd g n d none) ∧ TabB W tb room s ∧ Turns base w W
set_option maxHeartbeats 4000000 in
set_option maxRecDepth 100000 in
theorem drop_is (base tb n : Nat) (hn : n < 4294967296) (d : Nat) (m : Int) (room : Int) (L : List Ent) (w : World) (h : TabP w base tb room L) (hg : getL L (n, (d : Int)) = some m) :
    Calls Try.prog 20 #[pt (some tb), .agg #[.int .u32 n, .int .i64 d]] w fun e w' => e = .returned (.bool true) ∧ PutEnd w base tb room (dropL (n, (d : Int)) L) w' := by
  obtain ⟨f, g, h⟩ := h
  have hb := h.base
  have hr := (h.good.right _ ((getL_mem h.good.rises).1 hg)).1
  obtain ⟨hd, hm⟩ := right_nat.1 hr
  have hat : PutAt w base tb room L.length n d f g (w.alloc (.cells #[.int .u32 n, .int .i64 d] 25)) := ⟨h.tree.alloc _, h.tab.alloc _, Bx.new _ _ _, (Turns.refl _ _).alloc hb _⟩
  have hfd : f n d ≠ none := by
    have hm2 := h.mat n d
    rw [hg] at hm2
    obtain ⟨y, hy, _⟩ := Option.map_eq_some_iff.1 hm2.symm
    exact (h.tree.ent n d y.1 y.2 hy).1
  have hlen := dropL_length h.good.rises (n, (d : Int))
  rw [hg] at hlen
  simp only [Option.isSome_some, if_true] at hlen
  have hfin : ∀ W, DropAt base tb room L.length n d g w W → PutEnd w base tb room (dropL (n, (d : Int)) L) (W.setCell ⟨tb, 4, none⟩ (.int .i64 ((L.length : Int) - 1))) := fun W ⟨f', ht, hT, htu⟩ => by
    have e : ((L.length : Int) - 1) = ((dropL (n, (d : Int)) L).length : Int) := by omega
    rw [e]
    have tu := htu.trans (Tab.turnsSize ht hT (.int .i64 ((dropL (n, (d : Int)) L).length : Int)))
    refine ⟨⟨f', _, ht.setSize _, hT.setSize _, h.good.drop _, h.mat.set (fun q => getL_drop h.good _ q), ?_, h.room, Nat.le_trans hb tu.bel.size⟩, tu⟩
    have := h.le
    omega
  have hget := get_is tb base n hn d f g L h.good h.mat _ hat.tree hg
  have hdn := fun W (hW : PutAt w base tb room L.length n d f g W) => (dropn_any base tb g room L.length n d hn hd hm d 0 tb f W (by omega) hW.tree hW.tab (by rw [cut_zero hn]; exact hW.tree.root) hfd (Nat.le_trans hb hW.turns.bel.size)).mono (R' := fun e w' => e = .returned (.tuple #[]) ∧ DropAt base tb room L.length n d g w w') fun e w' ⟨he, f', hD⟩ => ⟨he, f', hD.tree, hD.tab, hW.turns.trans hD.turns⟩
  have hcell : ∀ W, DropAt base tb room L.length n d g w W → W.cell? ⟨tb, 4, none⟩ = some (.int .i64 L.length) ∧ W.frozen? ⟨tb, 4, none⟩ = false ∧ tb < W.heap.size := fun W ⟨f', _, hT, _⟩ => ⟨hT.cells.2.1, hT.cells.2.2.2.1, hT.cells.2.2.2.2⟩
  have hroom := h.room
  have hle := h.le
  have hpos : (1 : Int) ≤ L.length := by omega
  have HAT := Lib.hid hat
  have HFIN := Lib.hid hfin
  have HDN := Lib.hid hdn
  have HCELL := Lib.hid hcell
  have HB := Lib.hid hb
  clear hat hfin hdn hcell hb h hr hg hm hfd hlen
  unfold pt at HDN hget ⊢
  simp only [Option.map_some] at HDN hget
  go_enter Try.func20, Try.ntmps20
  go_wp2_with (go_at_call 11; refine hget.mono ?_; rintro e w1 ⟨rfl, hb1⟩; have k5 := HAT.out.below HB.out hb1; obtain ⟨c0, c1, _, _⟩ := k5.box.cells; have K5 := Lib.hid k5; clear hb1 k5)
  obtain ⟨W1, hW1⟩ : ∃ W1, w1.drew = W1 := ⟨_, rfl⟩
  have k6 : PutAt w base tb room L.length n d f g W1 := by rw [← hW1]; exact K5.out.below HB.out (Below.refl _ _).drew
  obtain ⟨s1, s2, _, _⟩ := k6.box.cells
  have hd2 := HDN.out W1 k6
  rw [show (((0 : Nat) : Int)) = 0 from rfl] at hd2
  clear k6 K5
  refine region_tail 4 (by kernel_rfl) (by kernel_rfl) W1 hW1 ?_
  simp only [List.take_succ_cons, List.take_zero, List.drop_succ_cons, List.drop_zero]
  clear hW1
  iterate 4 still_step
  refine wpStill_nil ?_
  go_wp2_with fail
  go_at_call 33
  with_reducible refine hd2.mono ?_
  rintro e w2 ⟨rfl, hD⟩
  obtain ⟨p0, p1, p2⟩ := HCELL.out _ hD
  have HD := Lib.hid hD
  clear hD s1 s2
  go_wp2
  go_ret
  exact ⟨rfl, HFIN.out _ HD.out⟩
def dropE (L : List Ent) (p : Nat × Int) : Bool := (getL L p).isSome
theorem drop_any (base tb n : Nat) (hn : n < 4294967296) (b : Int) (room : Int) (L : List Ent) (w : World) (h : TabP w base tb room L) :
    Calls Try.prog 20 #[pt (some tb), .agg #[.int .u32 n, .int .i64 b]] w fun e w' => e = .returned (.bool (dropE L (n, b))) ∧ PutEnd w base tb room (dropL (n, b) L) w' := by
  have hb : base ≤ w.heap.size := by obtain ⟨f, g, h⟩ := h; exact h.base
  unfold dropE
  cases hg : getL L (n, b) with
  | none =>
    rw [dropL_none hg]
    exact (drop_not base tb n hn b room L w h hg).mono fun e w' ⟨he, hw⟩ => ⟨he, h.below hw, Turns.below hw hb⟩
  | some m =>
    have hr : rightP (n, b) = true := by obtain ⟨f, g, h⟩ := h; exact (h.good.right _ ((getL_mem h.good.rises).1 hg)).1
    obtain ⟨d, he, hd, hm⟩ := right_cases hr
    simp only [Prod.mk.injEq, true_and] at he
    subst he
    exact drop_is base tb n hn d m room L w h hg
end Go.Proofs.Ytpoognkppnplpaa
