/-
  THE PROGRAM'S own, at; may a piece be.
-/
import Derived.Test.YtpaooddmgcekhaaGreatVArr
import Derived.Deep.RegionWith
namespace Go.Proofs.YtpaooddmgcekhaaGreat.ti
set_option linter.unusedSimpArgs false
set_option linter.unusedVariables false
open Go.RowKit
def cellsV (t : TiV) (s : Sl2) : List Value := [.int .i64 t.hd.id.d, .int .i64 t.hd.id.o, .int .i64 t.hd.id.k, .int .i64 t.hd.id.n, .int .i64 t.hd.seq, .int .i64 t.hd.life, .int .i64 t.level, .bool t.over, .slice s.ea t.es.length s.ec, .slice s.ra t.rs.length s.rc]
def cellsV0 : List Value := [.int .i64 0, .int .i64 0, .int .i64 0, .int .i64 0, .int .i64 0, .int .i64 0, .int .i64 0, .bool false, .slice none 0 0, .slice none 0 0]
theorem cellsV_one (t : TiV) (s : Sl2) : (cellsV t s).toArray.all (·.oneCell') = true := by simp [cellsV, Value.oneCell']
theorem sizeV : (Tryz.prog.info? 39).map (·.size) = some 10 := by kernel_rfl
/-- A piece in a box, and an empty one. -/
structure OwnS (w W : World) (t : TiV) (s : Sl2) : Prop where
  b0 : Arr W w.heap.size 39 (cellsV t s)
  b1 : Arr W (w.heap.size + 1) 39 cellsV0
  bel : Below w.heap.size w W
  size : w.heap.size + 2 ≤ W.heap.size
theorem OwnS.new (w : World) (t : TiV) (s : Sl2) : OwnS w (((w.alloc (.cells (cellsV t s).toArray 39)).alloc (.cells cellsV0.toArray 39)).drew) t s := by
  refine ⟨((Arr.new w 39 (cellsV t s)).alloc _).drewN 1, ?_, (((Below.refl _ w).alloc (Nat.le_refl _) _).alloc (by simp) _).drew, by simp⟩
  have := Arr.new (w.alloc (.cells (cellsV t s).toArray 39)) 39 cellsV0
  rw [show (w.alloc (.cells (cellsV t s).toArray 39)).heap.size = w.heap.size + 1 from by simp] at this
  exact this.drewN 1
theorem OwnS.step {w W W' : World} {t : TiV} {s : Sl2} (h : OwnS w W t s) (k : Below W.heap.size W W') : OwnS w W' t s :=
  ⟨h.b0.below k (by have := h.size; omega), h.b1.below k (by have := h.size; omega), h.bel.trans (k.mono (by have := h.size; omega)), by have := k.size; have := h.size; omega⟩
theorem OwnS.cells {w W : World} {t : TiV} {s : Sl2} (h : OwnS w W t s) : W.cell? ⟨w.heap.size, 8, none⟩ = some (.slice s.ea t.es.length s.ec) ∧ W.cell? ⟨w.heap.size, 9, none⟩ = some (.slice s.ra t.rs.length s.rc) ∧ W.frozen? ⟨w.heap.size, 8, none⟩ = false ∧ W.frozen? ⟨w.heap.size, 9, none⟩ = false :=
  ⟨h.b0.cell 8, h.b0.cell 9, h.b0.frozen 8, h.b0.frozen 9⟩
theorem OwnE.shape1 {E : Type} {T : TypeId} {sz : Nat} {enc : E → List Value} {W : World} {base : Nat} {v : Value} {l : List E} (h : OwnE T sz enc W base v l) : ∃ a c, v = .slice a l.length c := by
  obtain ⟨a, c, e, _⟩ := h.shape
  exact ⟨a, c, e⟩
/-- Behind both calls and both stores. -/
structure OwnQ (w W : World) (t : TiV) (s' : Sl2) : Prop where
  b0 : Arr W w.heap.size 39 (cellsV t s')
  b1 : Arr W (w.heap.size + 1) 39 cellsV0
  bel : Below w.heap.size w W
  e : OwnE 94 3 encEdge W (w.heap.size + 2) (.slice s'.ea t.es.length s'.ec) t.es
  r : OwnE 99 3 encReach W (w.heap.size + 2) (.slice s'.ra t.rs.length s'.rc) t.rs
theorem OwnE.set {E : Type} {T : TypeId} {sz : Nat} {enc : E → List Value} {W : World} {base : Nat} {v : Value} {l : List E} (h : OwnE T sz enc W base v l) {g : Nat} (hg : g < base) (i : Nat) (u : Value) : OwnE T sz enc (W.setCell ⟨g, i, none⟩ u) base v l :=
  h.same fun k hk => by rw [RowKit.Below.heap_setCell _ _ _ _ (by have := (World.ownsRow.lt h k hk).1; simp; omega)]
theorem own_end {w W : World} {t : TiV} {s : Sl2} {a1 a2 : Option Addr} {k1 k2 : Nat} (h : OwnS w W t s) (he : OwnE 94 3 encEdge W (w.heap.size + 2) (.slice a1 t.es.length k1) t.es) (hr : OwnE 99 3 encReach W (w.heap.size + 2) (.slice a2 t.rs.length k2) t.rs) :
    OwnQ w ((W.setCell ⟨w.heap.size, 8, none⟩ (.slice a1 t.es.length k1)).setCell ⟨w.heap.size, 9, none⟩ (.slice a2 t.rs.length k2)) t ⟨a1, k1, a2, k2⟩ ∧ OwnQ w ((W.setCell ⟨w.heap.size, 9, none⟩ (.slice a2 t.rs.length k2)).setCell ⟨w.heap.size, 8, none⟩ (.slice a1 t.es.length k1)) t ⟨a1, k1, a2, k2⟩ :=
  ⟨⟨(h.b0.set 8 _).set 9 _, (h.b1.other (by omega) _ _).other (by omega) _ _, (h.bel.setCell (p := ⟨w.heap.size, 8, none⟩) (Nat.le_refl _) _).setCell (p := ⟨w.heap.size, 9, none⟩) (Nat.le_refl _) _, (he.set (by omega) _ _).set (by omega) _ _, (hr.set (by omega) _ _).set (by omega) _ _⟩,
   ⟨(h.b0.set 9 _).set 8 _, (h.b1.other (by omega) _ _).other (by omega) _ _, (h.bel.setCell (p := ⟨w.heap.size, 9, none⟩) (Nat.le_refl _) _).setCell (p := ⟨w.heap.size, 8, none⟩) (Nat.le_refl _) _, (he.set (by omega) _ _).set (by omega) _ _, (hr.set (by omega) _ _).set (by omega) _ _⟩⟩
set_option maxHeartbeats 3200000 in
set_option maxRecDepth 100000 in
theorem down_any (t : TiV) (s : Sl2) (w : World) (h : Rd2 w t s) : Calls Tryz.prog 29 #[aggV t s] w fun e w' => ∃ s', e = .returned (aggV t s') ∧ Own2 w' w.heap.size t s' ∧ Below w.heap.size w w' := by
  have HE : Hid (∀ W, Below w.heap.size w W → Calls Tryz.prog 48 #[.slice s.ea t.es.length s.ec] W fun e w' => ∃ v, e = .returned v ∧ OwnE 94 3 encEdge w' W.heap.size v t.es ∧ Below W.heap.size W w') := fun W hb => pcloneE_any s.ea t.es s.ec W (h.e.below hb) h.le.1 h.ne
  have HR : Hid (∀ W, Below w.heap.size w W → Calls Tryz.prog 49 #[.slice s.ra t.rs.length s.rc] W fun e w' => ∃ v, e = .returned v ∧ OwnE 99 3 encReach w' W.heap.size v t.rs ∧ Below W.heap.size W w') := fun W hb => pcloneR_any s.ra t.rs s.rc W (h.r.below hb) h.lr.1 h.nr
  have OS : OwnS w (((w.alloc (.cells #[.int .i64 t.hd.id.d, .int .i64 t.hd.id.o, .int .i64 t.hd.id.k, .int .i64 t.hd.id.n, .int .i64 t.hd.seq, .int .i64 t.hd.life, .int .i64 t.level, .bool t.over, .slice s.ea t.es.length s.ec, .slice s.ra t.rs.length s.rc] 39)).alloc (.cells #[.int .i64 0, .int .i64 0, .int .i64 0, .int .i64 0, .int .i64 0, .int .i64 0, .int .i64 0, .bool false, .slice none 0 0, .slice none 0 0] 39)).drew) t s := OwnS.new w t s
  have HS := Lib.hid OS
  obtain ⟨c8, c9, z8, z9⟩ := OS.cells
  have TE : True := trivial
  have TR : True := trivial
  clear h OS
  unfold aggV
  go_enter Tryz.func29, Tryz.ntmps29
  go_wp2
  go_region_with ((first
      | (go_at_call 48; have tt := TE; clear TE tt; with_reducible refine (HE.out _ HS.out.bel).mono ?_; rintro e w1 ⟨v1, rfl, he1, hb1⟩; have HE1 := Lib.hid (he1.mono (by have := HS.out.size; omega : w.heap.size + 2 ≤ _)); obtain ⟨a1, k1, rfl⟩ := he1.shape1; have HR0 := Lib.hid hb1; have HS0 := HS; clear HS; have HS := Lib.hid (HS0.out.step hb1); clear HS0; clear c8 c9 z8 z9; obtain ⟨c8, c9, z8, z9⟩ := HS.out.cells; clear he1 hb1)
      | (go_at_call 49; have tt := TR; clear TR tt; with_reducible refine (HR.out _ HS.out.bel).mono ?_; rintro e w1 ⟨v2, rfl, he1, hb1⟩; have HR1 := Lib.hid (he1.mono (by have := HS.out.size; omega : w.heap.size + 2 ≤ _)); obtain ⟨a2, k2, rfl⟩ := he1.shape1; have HE0 := Lib.hid hb1; have HS0 := HS; clear HS; have HS := Lib.hid (HS0.out.step hb1); clear HS0; clear c8 c9 z8 z9; obtain ⟨c8, c9, z8, z9⟩ := HS.out.cells; clear he1 hb1)
      ))
  all_goals have he : OwnE 94 3 encEdge w1 (w.heap.size + 2) (.slice a1 t.es.length k1) t.es := by first | exact HE1.out | exact HE1.out.below HE0.out
  all_goals have hr : OwnE 99 3 encReach w1 (w.heap.size + 2) (.slice a2 t.rs.length k2) t.rs := by first | exact HR1.out | exact HR1.out.below HR0.out
  all_goals have HQ := Lib.hid (own_end HS.out he hr).1
  all_goals clear he hr HE0 HR0 HE1 HR1 HS c8 c9 z8 z9 HE HR
  all_goals generalize ((w1.setCell ⟨w.heap.size, 8, none⟩ (.slice a1 t.es.length k1)).setCell ⟨w.heap.size, 9, none⟩ (.slice a2 t.rs.length k2)) = W4 at HQ ⊢
  all_goals go_wp2_with (first
    | (refine wpList_load_arr rfl 39 (.tmp 1) rfl w.heap.size rfl HQ.out.b0 Tryz.underlying39 rfl sizeV rfl ?_)
    | (refine wpList_store_arr rfl 39 (.tmp 2) (.tmp 11) rfl (w.heap.size + 1) rfl (vs := cellsV t ⟨a1, k1, a2, k2⟩) rfl HQ.out.b1 sizeV rfl rfl (cellsV_one _ _) ?_; intro W5 A5 B5 hs5 O5))
  all_goals refine bodyPost_ret (results_arr rfl rfl A5.out Tryz.underlying39 rfl sizeV rfl) rfl ?_
  all_goals exact ⟨⟨a1, k1, a2, k2⟩, rfl, ⟨(HQ.out.e.same fun g hg => O5.out g (by have := (World.ownsRow.lt HQ.out.e g hg).1; omega)).mono (by omega), (HQ.out.r.same fun g hg => O5.out g (by have := (World.ownsRow.lt HQ.out.r g hg).1; omega)).mono (by omega)⟩, HQ.out.bel.trans (B5.out.mono (by omega))⟩
end Go.Proofs.YtpaooddmgcekhaaGreat.ti
