/-
  THE PROGRAM'S own, at; may a piece be.
-/
import Derived.Test.YtbgilngpkogapaaVArr
import Derived.Deep.RegionWith
namespace Go.Proofs.Ytbgilngpkogapaa.ti
set_option linter.unusedSimpArgs false
set_option linter.unusedVariables false
open Go.RowKit
def cellsV (t : TiV) (s : Sl2) : List Value := [.int .i64 t.hd.id.d, .int .i64 t.hd.id.o, .int .i64 t.hd.id.k, .int .i64 t.hd.id.n, .int .i64 t.hd.seq, .int .i64 t.hd.life, .int .i64 t.level, .bool t.over, .slice s.ea t.es.length s.ec, .slice s.ra t.rs.length s.rc]
def cellsV0 : List Value := [.int .i64 0, .int .i64 0, .int .i64 0, .int .i64 0, .int .i64 0, .int .i64 0, .int .i64 0, .bool false, .slice none 0 0, .slice none 0 0]
theorem cellsV_one (t : TiV) (s : Sl2) : (cellsV t s).toArray.all (·.oneCell') = true := by simp [cellsV, Value.oneCell']
theorem sizeV : (Try.prog.info? 35).map (·.size) = some 10 := by kernel_rfl
/-- A piece in a box, and an empty one. -/
structure OwnS (w W : World) (t : TiV) (s : Sl2) : Prop where
  b0 : Arr W w.heap.size 35 (cellsV t s)
  b1 : Arr W (w.heap.size + 1) 35 cellsV0
  bel : Below w.heap.size w W
  size : w.heap.size + 2 ≤ W.heap.size
theorem OwnS.new (w : World) (t : TiV) (s : Sl2) : OwnS w (((w.alloc (.cells (cellsV t s).toArray 35)).alloc (.cells cellsV0.toArray 35)).drew) t s := by
  refine ⟨((Arr.new w 35 (cellsV t s)).alloc _).drewN 1, ?_, (((Below.refl _ w).alloc (Nat.le_refl _) _).alloc (by simp) _).drew, by simp⟩
  have := Arr.new (w.alloc (.cells (cellsV t s).toArray 35)) 35 cellsV0
  rw [show (w.alloc (.cells (cellsV t s).toArray 35)).heap.size = w.heap.size + 1 from by simp] at this
  exact this.drewN 1
theorem OwnS.step {w W W' : World} {t : TiV} {s : Sl2} (h : OwnS w W t s) (k : Below W.heap.size W W') : OwnS w W' t s :=
  ⟨h.b0.below k (by have := h.size; omega), h.b1.below k (by have := h.size; omega), h.bel.trans (k.mono (by have := h.size; omega)), by have := k.size; have := h.size; omega⟩
theorem OwnS.cells {w W : World} {t : TiV} {s : Sl2} (h : OwnS w W t s) : W.cell? ⟨w.heap.size, 8, none⟩ = some (.slice s.ea t.es.length s.ec) ∧ W.cell? ⟨w.heap.size, 9, none⟩ = some (.slice s.ra t.rs.length s.rc) ∧ W.frozen? ⟨w.heap.size, 8, none⟩ = false ∧ W.frozen? ⟨w.heap.size, 9, none⟩ = false :=
  ⟨h.b0.cell 8, h.b0.cell 9, h.b0.frozen 8, h.b0.frozen 9⟩
theorem OwnE.shape1 {E : Type} {T : TypeId} {sz : Nat} {enc : E → List Value} {W : World} {base : Nat} {v : Value} {l : List E} (h : OwnE T sz enc W base v l) : ∃ a c, v = .slice a l.length c := by
  obtain ⟨a, c, e, _⟩ := h.shape
  exact ⟨a, c, e⟩
/-- Behind both calls and both stores. -/
structure OwnQ (w W : World) (t : TiV) (s' : Sl2) : Prop where
  b0 : Arr W w.heap.size 35 (cellsV t s')
  b1 : Arr W (w.heap.size + 1) 35 cellsV0
  bel : Below w.heap.size w W
  e : OwnE 56 3 encEdge W (w.heap.size + 2) (.slice s'.ea t.es.length s'.ec) t.es
  r : OwnE 61 3 encReach W (w.heap.size + 2) (.slice s'.ra t.rs.length s'.rc) t.rs
theorem OwnE.set {E : Type} {T : TypeId} {sz : Nat} {enc : E → List Value} {W : World} {base : Nat} {v : Value} {l : List E} (h : OwnE T sz enc W base v l) {g : Nat} (hg : g < base) (i : Nat) (u : Value) : OwnE T sz enc (W.setCell ⟨g, i, none⟩ u) base v l :=
  h.same fun k hk => by rw [RowKit.Below.heap_setCell _ _ _ _ (by have := (World.ownsRow.lt h k hk).1; simp; omega)]
theorem own_end {w W : World} {t : TiV} {s : Sl2} {a1 a2 : Option Addr} {k1 k2 : Nat} (h : OwnS w W t s) (he : OwnE 56 3 encEdge W (w.heap.size + 2) (.slice a1 t.es.length k1) t.es) (hr : OwnE 61 3 encReach W (w.heap.size + 2) (.slice a2 t.rs.length k2) t.rs) :
    OwnQ w ((W.setCell ⟨w.heap.size, 8, none⟩ (.slice a1 t.es.length k1)).setCell ⟨w.heap.size, 9, none⟩ (.slice a2 t.rs.length k2)) t ⟨a1, k1, a2, k2⟩ ∧ OwnQ w ((W.setCell ⟨w.heap.size, 9, none⟩ (.slice a2 t.rs.length k2)).setCell ⟨w.heap.size, 8, none⟩ (.slice a1 t.es.length k1)) t ⟨a1, k1, a2, k2⟩ :=
  ⟨⟨(h.b0.set 8 _).set 9 _, (h.b1.other (by omega) _ _).other (by omega) _ _, (h.bel.setCell (p := ⟨w.heap.size, 8, none⟩) (Nat.le_refl _) _).setCell (p := ⟨w.heap.size, 9, none⟩) (Nat.le_refl _) _, (he.set (by omega) _ _).set (by omega) _ _, (hr.set (by omega) _ _).set (by omega) _ _⟩,
   ⟨(h.b0.set 9 _).set 8 _, (h.b1.other (by omega) _ _).other (by omega) _ _, (h.bel.setCell (p := ⟨w.heap.size, 9, none⟩) (Nat.le_refl _) _).setCell (p := ⟨w.heap.size, 8, none⟩) (Nat.le_refl _) _, (he.set (by omega) _ _).set (by omega) _ _, (hr.set (by omega) _ _).set (by omega) _ _⟩⟩
end Go.Proofs.Ytbgilngpkogapaa.ti
