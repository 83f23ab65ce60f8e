/-
  HEARING: hear, New, Say, Other, Tick, Level.
-/
import Derived.Test.YticbfmbinopjcaaLMem
import Derived.Test.YticbfmbinopjcaaLAcc
namespace Go.Proofs.Yticbfmbinopjcaa
set_option linter.unusedSimpArgs false
set_option linter.unusedVariables false
open Go.RowKit
theorem Says.dec {e : Ending} {p : Prop} [Decidable p] (h : Says e p) : e = .returned (.bool (decide p)) := by
  obtain ⟨b, rfl, hb⟩ := h
  have : b = decide p := by cases b <;> simp_all
  rw [this]
theorem fresh_dec (told own slack : Int) (w : World) : Calls Try.prog 46 #[.int .i64 told, .int .i64 own, .int .i64 slack] w fun e w' => e = .returned (.bool (decide (freshN told own slack))) ∧ w' = w :=
  (fresh_any told own slack w).mono fun e w' ⟨h1, h2⟩ => ⟨h1.dec, h2⟩
set_option maxHeartbeats 1600000 in
set_option maxRecDepth 100000 in
theorem hear_any {W : World} {b : Nat} {e : EndT} (h : EndP 56 W b e) (x : LieT) (now : Int) (hn : timeB now) (hx : lieR x = true) : Calls Try.prog 35 #[.pointer (some ⟨b, 0, none⟩), .agg #[.int .i64 x.node, .int .i64 x.level, .int .i64 x.pod, .int .i64 x.mtu, .int .i64 x.link, .int .i64 x.nonce, .int .i64 x.seen, .int .i64 x.seenLink, .int .i64 x.seenNonce, .int .i64 x.hold, .bool x.rep, .bool x.noOffer], .int .i64 now] W fun en W' => en = .returned (.tuple #[]) ∧ EndP 56 W' b (hearE e x now) ∧ But b W W' := by
  have hb : RowKit.Hid (∀ o, But b W (W.alloc o)) := fun o => (But.refl b W).alloc _
  have f := lie_facts hx
  have e1 : -9223372036854775808 ≤ now + x.hold ∧ now + x.hold ≤ 9223372036854775807 := by unfold timeB at hn; omega
  have fz := h.frozen
  obtain ⟨c0, c1, c2, c3, c4, c5⟩ := h.cells
  obtain ⟨c6, c7, c8, c9, c10, c11, c12⟩ := h.cells2
  have hlt := h.lt
  have hne : b ≠ W.heap.size := by omega
  have hne2 : W.heap.size ≠ b := by omega
  have H0 := Lib.hid h
  have hf := fun W => fresh_dec x.seenNonce e.nonce 16 W
  clear h hn hx f
  obtain ⟨C, hC⟩ : ∃ C, ((((((W.setCell ⟨b, 8, none⟩ (.int .i64 x.node)).setCell ⟨b, 9, none⟩ (.int .i64 x.link)).setCell ⟨b, 10, none⟩ (.int .i64 x.level)).setCell ⟨b, 11, none⟩ (.int .i64 x.nonce)).setCell ⟨b, 12, none⟩ (.int .i64 (now + x.hold))).setCell ⟨b, 6, none⟩ (.int .i64 1)) = C := ⟨_, rfl⟩
  have hcs : C.heap.size = W.heap.size := by rw [← hC]; simp
  have ec : EndP 56 C b { e with o := ⟨x.node, x.link, x.level, x.nonce⟩, till := now + x.hold, s := 1 } := by rw [← hC]; exact (heap_setCell_same _ b _ _ _ _ (heap_setCell_same _ b _ _ _ _ (heap_setCell_same _ b _ _ _ _ (heap_setCell_same _ b _ _ _ _ (heap_setCell_same _ b _ _ _ _ (heap_setCell_same _ b _ _ _ _ H0.out))))))
  have bc : But b W C := by rw [← hC]; exact (((((((But.refl b W).set _ _).set _ _).set _ _).set _ _).set _ _).set _ _)
  obtain ⟨U, hU⟩ : ∃ U, C.alloc (.cells #[.int .i64 x.node, .int .i64 x.level, .int .i64 x.pod, .int .i64 x.mtu, .int .i64 x.link, .int .i64 x.nonce, .int .i64 x.seen, .int .i64 x.seenLink, .int .i64 x.seenNonce, .int .i64 x.hold, .bool x.rep, .bool x.noOffer] 25) = U := ⟨_, rfl⟩
  have eu : EndP 56 U b { e with o := ⟨x.node, x.link, x.level, x.nonce⟩, till := now + x.hold, s := 1 } := ec.same (by rw [← hU]; exact heap_alloc_old _ _ ec.lt)
  have bu : But b W U := by rw [← hU]; exact bc.alloc _
  have lu : LieP U W.heap.size x := by rw [← hU, ← hcs]; exact LieP.new C x
  obtain ⟨u0, u1, u2, u3, u4, u5⟩ := eu.cells
  obtain ⟨u6, u7, u8, u9, u10, u11, u12⟩ := eu.cells2
  have uz := eu.frozen
  obtain ⟨d0, d1, d4, d5, d6, d7, d8, d9⟩ := lu.cells
  simp only at u0 u1 u2 u3 u4 u5 u6 u7 u8 u9 u10 u11 u12
  have HC := Lib.hid hC
  have HU := Lib.hid hU
  have EU := Lib.hid eu
  have BU := Lib.hid bu
  clear hC hU eu bu ec bc lu hcs
  by_cases k1 : x.seen = e.p.node
  · by_cases k2 : x.seenLink = e.p.link
    · by_cases k3 : freshN x.seenNonce e.nonce 16
      · have hd : decide (freshN x.seenNonce e.nonce 16) = true := decide_eq_true k3
        rw [hd] at hf
        have K : RowKit.Hid (hearE e x now = { e with o := ⟨x.node, x.link, x.level, x.nonce⟩, till := now + x.hold, s := 2 }) := by unfold Hid hearE; rw [if_pos ⟨k1, k2, k3⟩]
        have b1 : (x.seen == e.p.node) = true := by simpa using k1
        have b2 : (x.seenLink == e.p.link) = true := by simpa using k2
        clear k1 k2 k3
        clear hd
        go_enter Try.func35, Try.ntmps35
        go_wp2
        rw [HC.out, HU.out]
        go_quiet (exact Calls.quiet_of_same (hf _))
        go_wp2
        go_end0
        refine ⟨rfl, ?_, ?_⟩
        · rw [K.out]; exact heap_setCell_same _ b _ _ _ _ (show _ = _ from EU.out)
        · exact (BU.out.drewN _).set _ _
      · have hd : decide (freshN x.seenNonce e.nonce 16) = false := decide_eq_false k3
        rw [hd] at hf
        have K : RowKit.Hid (hearE e x now = { e with o := ⟨x.node, x.link, x.level, x.nonce⟩, till := now + x.hold, s := 1 }) := by unfold Hid hearE; rw [if_neg (fun h => k3 h.2.2)]
        have b1 : (x.seen == e.p.node) = true := by simpa using k1
        have b2 : (x.seenLink == e.p.link) = true := by simpa using k2
        clear k1 k2 k3
        clear hd
        go_enter Try.func35, Try.ntmps35
        go_wp2
        rw [HC.out, HU.out]
        go_quiet (exact Calls.quiet_of_same (hf _))
        go_wp2
        go_end0
        refine ⟨rfl, ?_, ?_⟩
        · rw [K.out]; exact EU.out
        · exact BU.out.drewN _
    · have K : RowKit.Hid (hearE e x now = { e with o := ⟨x.node, x.link, x.level, x.nonce⟩, till := now + x.hold, s := 1 }) := by unfold Hid hearE; rw [if_neg (fun h => k2 h.2.1)]
      have b2 : (x.seenLink == e.p.link) = false := by simpa using k2
      have b1 : (x.seen == e.p.node) = true := by simpa using k1
      clear k1 k2
      go_enter Try.func35, Try.ntmps35
      go_wp2
      rw [HC.out, HU.out]
      go_quiet (exact Calls.quiet_of_same (hf _))
      go_wp2
      go_end0
      refine ⟨rfl, ?_, ?_⟩
      · rw [K.out]; exact EU.out
      · exact BU.out.drewN _
  · have K : RowKit.Hid (hearE e x now = { e with o := ⟨x.node, x.link, x.level, x.nonce⟩, till := now + x.hold, s := 1 }) := by unfold Hid hearE; rw [if_neg (fun h => k1 h.1)]
    have b1 : (x.seen == e.p.node) = false := by simpa using k1
    clear k1
    go_enter Try.func35, Try.ntmps35
    go_wp2
    rw [HC.out, HU.out]
    go_quiet (exact Calls.quiet_of_same (hf _))
    go_wp2
    go_end0
    refine ⟨rfl, ?_, ?_⟩
    · rw [K.out]; exact EU.out
    · exact BU.out.drewN _
end Go.Proofs.Yticbfmbinopjcaa
