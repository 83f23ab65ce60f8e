/-
  LieAccepts: whether any node may take what any one says of itself.
-/
import Derived.Test.YticbfmbinopjcaaLBoth
import Derived.Test.YticbfmbinopjcaaLRAcc
namespace Go.Proofs.Yticbfmbinopjcaa
set_option linter.unusedSimpArgs false
set_option linter.unusedVariables false
open Go.RowKit
theorem BxP.lie {T : TypeId} {W : World} {k : Nat} {x : LieT} (h : BxP T W k (cellsLie x)) : W.cell? ⟨k, 0, none⟩ = some (.int .i64 x.node) ∧ W.cell? ⟨k, 1, none⟩ = some (.int .i64 x.level) ∧ W.cell? ⟨k, 2, none⟩ = some (.int .i64 x.pod) ∧ W.cell? ⟨k, 3, none⟩ = some (.int .i64 x.mtu) ∧ W.cell? ⟨k, 4, none⟩ = some (.int .i64 x.link) ∧ W.cell? ⟨k, 5, none⟩ = some (.int .i64 x.nonce) ∧ W.cell? ⟨k, 6, none⟩ = some (.int .i64 x.seen) ∧ W.cell? ⟨k, 7, none⟩ = some (.int .i64 x.seenLink) ∧ W.cell? ⟨k, 8, none⟩ = some (.int .i64 x.seenNonce) ∧ W.cell? ⟨k, 9, none⟩ = some (.int .i64 x.hold) ∧ W.cell? ⟨k, 10, none⟩ = some (.bool x.rep) ∧ W.cell? ⟨k, 11, none⟩ = some (.bool x.noOffer) := ⟨h.cell 0 rfl, h.cell 1 rfl, h.cell 2 rfl, h.cell 3 rfl, h.cell 4 rfl, h.cell 5 rfl, h.cell 6 rfl, h.cell 7 rfl, h.cell 8 rfl, h.cell 9 rfl, h.cell 10 rfl, h.cell 11 rfl⟩
/-- A port and a lie in boxes. -/
def BoxL (w : World) (p : PortT) (x : LieT) (W : World) : Prop := BxP 23 W w.heap.size (encPort p) ∧ BxP 25 W (w.heap.size + 1) (cellsLie x) ∧ Below w.heap.size w W
theorem BoxL.below {w W W' : World} {p : PortT} {x : LieT} (h : BoxL w p x W) (k : Below W.heap.size W W') : BoxL w p x W' := ⟨h.1.below k, h.2.1.below k, h.2.2.trans (k.mono h.2.2.size)⟩
theorem BoxL.new (w : World) (p : PortT) (x : LieT) : BoxL w p x ((w.alloc (.cells #[.int .i64 p.node, .int .i64 p.level, .int .i64 p.pod, .int .i64 p.mtu, .int .i64 p.link, .int .i64 p.hold] 23)).alloc (.cells #[.int .i64 x.node, .int .i64 x.level, .int .i64 x.pod, .int .i64 x.mtu, .int .i64 x.link, .int .i64 x.nonce, .int .i64 x.seen, .int .i64 x.seenLink, .int .i64 x.seenNonce, .int .i64 x.hold, .bool x.rep, .bool x.noOffer] 25)) := by
  refine ⟨(heap_alloc_old _ _ (by simp)).trans (heap_alloc_new w _), ?_, ((Below.refl _ w).alloc (Nat.le_refl _) _).alloc (by simp) _⟩
  have := heap_alloc_new (w.alloc (.cells #[.int .i64 p.node, .int .i64 p.level, .int .i64 p.pod, .int .i64 p.mtu, .int .i64 p.link, .int .i64 p.hold] 23)) (.cells #[.int .i64 x.node, .int .i64 x.level, .int .i64 x.pod, .int .i64 x.mtu, .int .i64 x.link, .int .i64 x.nonce, .int .i64 x.seen, .int .i64 x.seenLink, .int .i64 x.seenNonce, .int .i64 x.hold, .bool x.rep, .bool x.noOffer] 25)
  rw [World.size_alloc] at this
  exact this
set_option maxHeartbeats 3200000 in
set_option maxRecDepth 100000 in
theorem acc_law (p : PortT) (hp : InI p.level ∧ InI p.hold) (x : LieT) (hx : InI x.level) (w : World) : Calls Try.prog 3 #[.agg #[.int .i64 p.node, .int .i64 p.level, .int .i64 p.pod, .int .i64 p.mtu, .int .i64 p.link, .int .i64 p.hold], .agg #[.int .i64 x.node, .int .i64 x.level, .int .i64 x.pod, .int .i64 x.mtu, .int .i64 x.link, .int .i64 x.nonce, .int .i64 x.seen, .int .i64 x.seenLink, .int .i64 x.seenNonce, .int .i64 x.hold, .bool x.rep, .bool x.noOffer]] w fun e w' => e = .returned (.bool true) ∧ Below w.heap.size w w' := by
  obtain ⟨V, hV⟩ : ∃ V, (w.alloc (.cells #[.int .i64 p.node, .int .i64 p.level, .int .i64 p.pod, .int .i64 p.mtu, .int .i64 p.link, .int .i64 p.hold] 23)).alloc (.cells #[.int .i64 x.node, .int .i64 x.level, .int .i64 x.pod, .int .i64 x.mtu, .int .i64 x.link, .int .i64 x.nonce, .int .i64 x.seen, .int .i64 x.seenLink, .int .i64 x.seenNonce, .int .i64 x.hold, .bool x.rep, .bool x.noOffer] 25) = V := ⟨_, rfl⟩
  have hb := BoxL.new w p x
  rw [hV] at hb
  have HB := Lib.hid hb
  have HV := Lib.hid hV
  have a1 := fun W => (accepts_any p x hp.1.2 hx.2 W).mono fun e w' h => (⟨h.1.dec, h.2⟩ : e = .returned (.bool (decide (accB p x))) ∧ Below W.heap.size W w')
  have a2 := fun W => (raccepts_any p x hp.1.2 hx.2 W).mono fun e w' h => (⟨h.1.dec, h.2⟩ : e = .returned (.bool (decide (accB p x))) ∧ Below W.heap.size W w')
  generalize decide (accB p x) = z at *
  have A1 := Lib.hid a1
  have A2 := Lib.hid a2
  clear hb hV hp hx a1 a2
  go_enter Try.func3, Try.ntmps3
  go_wp2_with (go_at_call 9; rw [HV.out]; refine (awake_any _).mono ?_; rintro e w1 ⟨rfl, hb1⟩; have B1 := Lib.hid (HB.out.below hb1); clear hb1)
  have B1 := Lib.hid (B1.out.below (Below.refl _ _).drew)
  obtain ⟨zp0, zp1, zp2, zp3, zp4, zp5⟩ := B1.out.1.port
  obtain ⟨zx0, zx1, zx2, zx3, zx4, zx5, zx6, zx7, zx8, zx9, zx10, zx11⟩ := B1.out.2.1.lie
  first
    | (go_region_held (fun W => W.cell? ⟨w.heap.size, 0, none⟩ = some (.int .i64 p.node) ∧ W.cell? ⟨w.heap.size, 1, none⟩ = some (.int .i64 p.level) ∧ W.cell? ⟨w.heap.size, 2, none⟩ = some (.int .i64 p.pod) ∧ W.cell? ⟨w.heap.size, 3, none⟩ = some (.int .i64 p.mtu) ∧ W.cell? ⟨w.heap.size, 4, none⟩ = some (.int .i64 p.link) ∧ W.cell? ⟨w.heap.size, 5, none⟩ = some (.int .i64 p.hold) ∧ W.cell? ⟨w.heap.size + 1, 0, none⟩ = some (.int .i64 x.node) ∧ W.cell? ⟨w.heap.size + 1, 1, none⟩ = some (.int .i64 x.level) ∧ W.cell? ⟨w.heap.size + 1, 2, none⟩ = some (.int .i64 x.pod) ∧ W.cell? ⟨w.heap.size + 1, 3, none⟩ = some (.int .i64 x.mtu) ∧ W.cell? ⟨w.heap.size + 1, 4, none⟩ = some (.int .i64 x.link) ∧ W.cell? ⟨w.heap.size + 1, 5, none⟩ = some (.int .i64 x.nonce) ∧ W.cell? ⟨w.heap.size + 1, 6, none⟩ = some (.int .i64 x.seen) ∧ W.cell? ⟨w.heap.size + 1, 7, none⟩ = some (.int .i64 x.seenLink) ∧ W.cell? ⟨w.heap.size + 1, 8, none⟩ = some (.int .i64 x.seenNonce) ∧ W.cell? ⟨w.heap.size + 1, 9, none⟩ = some (.int .i64 x.hold) ∧ W.cell? ⟨w.heap.size + 1, 10, none⟩ = some (.bool x.rep) ∧ W.cell? ⟨w.heap.size + 1, 11, none⟩ = some (.bool x.noOffer)) (first | exact ⟨zp0, zp1, zp2, zp3, zp4, zp5, zx0, zx1, zx2, zx3, zx4, zx5, zx6, zx7, zx8, zx9, zx10, zx11⟩ | exact ⟨by assumption, by assumption, by assumption, by assumption, by assumption, by assumption, by assumption, by assumption, by assumption, by assumption, by assumption, by assumption, by assumption, by assumption, by assumption, by assumption, by assumption, by assumption⟩)
        (first
          | (go_at_call 10; (with_reducible refine (A1.out _).mono ?_); rintro e w5 ⟨rfl, hb5⟩; have hx := B1.out.below hb5; obtain ⟨gp0, gp1, gp2, gp3, gp4, gp5⟩ := hx.1.port; obtain ⟨gx0, gx1, gx2, gx3, gx4, gx5, gx6, gx7, gx8, gx9, gx10, gx11⟩ := hx.2.1.lie; have B5 := Lib.hid hx; clear hb5 hx)
          | (go_at_call 11; (with_reducible refine (A2.out _).mono ?_); rintro e w7 ⟨rfl, hb7⟩; have hx := B5.out.below hb7; obtain ⟨ip0, ip1, ip2, ip3, ip4, ip5⟩ := hx.1.port; obtain ⟨ix0, ix1, ix2, ix3, ix4, ix5, ix6, ix7, ix8, ix9, ix10, ix11⟩ := hx.2.1.lie; have B7 := Lib.hid hx; clear hb7 hx)))
    | fail
  go_wp2
  go_ret
  exact ⟨by simp, B7.out.2.2⟩
end Go.Proofs.Yticbfmbinopjcaa
