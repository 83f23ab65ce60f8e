/-
  THE PROGRAM's Right, Items and Encode.
-/
import Derived.Test.YtpaooddmgcekhaaGreatWWrite
import Derived.Test.YtpaooddmgcekhaaGreatWGood
namespace Go.Proofs.YtpaooddmgcekhaaGreat
open Go.RowKit Go.Shelf
set_option linter.unusedVariables false

/-- A row of items without bytes reads as its list. -/
theorem rdI_own {n₀ : Nat} {W : World} {v : Value} {l : List It} (h : W.ownsRow n₀ 146 4 v l.length (l.flatMap encIt)) (hb : ∀ x ∈ l, x.bs = []) : ∃ A n c, v = .slice A n c ∧ n = l.length ∧ n ≤ c ∧ c ≤ maxLen ∧ RdI W.heap.size W A l := by
  obtain ⟨A, c, rfl, h1, h2, hr⟩ := Sl.own (enc := encIt) (sz := 4) (fun _ => rfl) h
  refine ⟨A, _, c, rfl, rfl, h1, h2, fun hp => ?_⟩
  obtain ⟨b, off, e, hlt, hc⟩ := hr hp
  refine ⟨b, off, e, hlt, fun j x hx => ?_⟩
  have hx0 := hb x (List.mem_of_getElem? hx)
  refine ⟨hc j x hx 0 _ rfl, hc j x hx 1 _ rfl, hc j x hx 2 _ rfl, none, 0, ?_, by simp [hx0], Nat.zero_le _, fun hq => by simp [hx0] at hq⟩
  rw [hx0]
  exact hc j x hx 3 _ rfl
theorem pack_bs {p : PackT} (h : rightW p = true) : ∀ x ∈ packI p, x.bs = [] := by
  rw [rightW, Bool.and_eq_true] at h
  exact fun x hx => ((good_pack h.1).2 x hx).1
theorem right_c {p : PackT} (h : rightW p = true) : packC p = p := by
  rw [rightW, Bool.and_eq_true] at h
  exact pack_c h.1
/-- What was written lies as a list. -/
def WrList (p : PackT) (w : World) (e : Ending) (w' : World) : Prop :=
  ∃ A n c, e = .returned (.tuple #[.slice A n c, .bool (rightW p)]) ∧ (rightW p = true → n = (packI p).length ∧ n ≤ c ∧ c ≤ maxLen ∧ RdI w'.heap.size w' A (packI p)) ∧ Below w.heap.size w w'
theorem WrOut.list {p : PackT} {w w' : World} {e : Ending} (h : WrOut p w e w') : WrList p w e w' := by
  obtain ⟨v, rfl, ho, hb⟩ := h
  by_cases hr : rightW p = true
  · rw [right_c hr] at ho
    obtain ⟨A, n, c, rfl, h1, h2, h3, h4⟩ := rdI_own ho (pack_bs hr)
    exact ⟨A, n, c, rfl, fun _ => ⟨h1, h2, h3, h4⟩, hb⟩
  · obtain ⟨A, n, c, rfl, _⟩ := rowForm ho
    exact ⟨A, n, c, rfl, fun h => absurd h hr, hb⟩

set_option maxRecDepth 100000 in
set_option maxHeartbeats 4000000 in
theorem wright_any (p : PackT) (ae ar ah : Option Addr) (ce cr ch : Nat) (w : World) (hp : Pk w.heap.size w p ae ar ah ce cr ch) :
    Calls Tryz.prog 33 #[.agg #[.int .i64 p.kind, .int .i64 p.lie.node, .int .i64 p.lie.level, .int .i64 p.lie.pod, .int .i64 p.lie.mtu, .int .i64 p.lie.link, .int .i64 p.lie.nonce, .int .i64 p.lie.seen, .int .i64 p.lie.seenLink, .int .i64 p.lie.seenNonce, .int .i64 p.lie.hold, .bool p.lie.rep, .bool p.lie.noOffer, .int .i64 p.tie.head.id.dir, .int .i64 p.tie.head.id.orig, .int .i64 p.tie.head.id.kind, .int .i64 p.tie.head.id.nr, .int .i64 p.tie.head.seq, .int .i64 p.tie.head.life, .int .i64 p.tie.level, .bool p.tie.over, .slice ae p.tie.edges.length ce, .slice ar p.tie.reaches.length cr, .int .i64 p.frm.dir, .int .i64 p.frm.orig, .int .i64 p.frm.kind, .int .i64 p.frm.nr, .int .i64 p.to.dir, .int .i64 p.to.orig, .int .i64 p.to.kind, .int .i64 p.to.nr, .slice ah p.heads.length ch]] w fun e w' => e = .returned (.bool (rightW p)) ∧ Below w.heap.size w w' := by
  have RG : RowKit.Hid ((w.alloc (.cells #[.int .i64 p.kind, .int .i64 p.lie.node, .int .i64 p.lie.level, .int .i64 p.lie.pod, .int .i64 p.lie.mtu, .int .i64 p.lie.link, .int .i64 p.lie.nonce, .int .i64 p.lie.seen, .int .i64 p.lie.seenLink, .int .i64 p.lie.seenNonce, .int .i64 p.lie.hold, .bool p.lie.rep, .bool p.lie.noOffer, .int .i64 p.tie.head.id.dir, .int .i64 p.tie.head.id.orig, .int .i64 p.tie.head.id.kind, .int .i64 p.tie.head.id.nr, .int .i64 p.tie.head.seq, .int .i64 p.tie.head.life, .int .i64 p.tie.level, .bool p.tie.over, .slice ae p.tie.edges.length ce, .slice ar p.tie.reaches.length cr, .int .i64 p.frm.dir, .int .i64 p.frm.orig, .int .i64 p.frm.kind, .int .i64 p.frm.nr, .int .i64 p.to.dir, .int .i64 p.to.orig, .int .i64 p.to.kind, .int .i64 p.to.nr, .slice ah p.heads.length ch] 84)).rangeAt w.heap.size 0 [.int .i64 p.kind, .int .i64 p.lie.node, .int .i64 p.lie.level, .int .i64 p.lie.pod, .int .i64 p.lie.mtu, .int .i64 p.lie.link, .int .i64 p.lie.nonce, .int .i64 p.lie.seen, .int .i64 p.lie.seenLink, .int .i64 p.lie.seenNonce, .int .i64 p.lie.hold, .bool p.lie.rep, .bool p.lie.noOffer, .int .i64 p.tie.head.id.dir, .int .i64 p.tie.head.id.orig, .int .i64 p.tie.head.id.kind, .int .i64 p.tie.head.id.nr, .int .i64 p.tie.head.seq, .int .i64 p.tie.head.life, .int .i64 p.tie.level, .bool p.tie.over, .slice ae p.tie.edges.length ce, .slice ar p.tie.reaches.length cr, .int .i64 p.frm.dir, .int .i64 p.frm.orig, .int .i64 p.frm.kind, .int .i64 p.frm.nr, .int .i64 p.to.dir, .int .i64 p.to.orig, .int .i64 p.to.kind, .int .i64 p.to.nr, .slice ah p.heads.length ch]) := fun j v hv => (At.new w.heap.size w (Nat.le_refl _) [.int .i64 p.kind, .int .i64 p.lie.node, .int .i64 p.lie.level, .int .i64 p.lie.pod, .int .i64 p.lie.mtu, .int .i64 p.lie.link, .int .i64 p.lie.nonce, .int .i64 p.lie.seen, .int .i64 p.lie.seenLink, .int .i64 p.lie.seenNonce, .int .i64 p.lie.hold, .bool p.lie.rep, .bool p.lie.noOffer, .int .i64 p.tie.head.id.dir, .int .i64 p.tie.head.id.orig, .int .i64 p.tie.head.id.kind, .int .i64 p.tie.head.id.nr, .int .i64 p.tie.head.seq, .int .i64 p.tie.head.life, .int .i64 p.tie.level, .bool p.tie.over, .slice ae p.tie.edges.length ce, .slice ar p.tie.reaches.length cr, .int .i64 p.frm.dir, .int .i64 p.frm.orig, .int .i64 p.frm.kind, .int .i64 p.frm.nr, .int .i64 p.to.dir, .int .i64 p.to.orig, .int .i64 p.to.kind, .int .i64 p.to.nr, .slice ah p.heads.length ch] 84 rfl).cell j hv
  have HB := Lib.hid ((Below.refl w.heap.size w).alloc (Nat.le_refl _) (.cells #[.int .i64 p.kind, .int .i64 p.lie.node, .int .i64 p.lie.level, .int .i64 p.lie.pod, .int .i64 p.lie.mtu, .int .i64 p.lie.link, .int .i64 p.lie.nonce, .int .i64 p.lie.seen, .int .i64 p.lie.seenLink, .int .i64 p.lie.seenNonce, .int .i64 p.lie.hold, .bool p.lie.rep, .bool p.lie.noOffer, .int .i64 p.tie.head.id.dir, .int .i64 p.tie.head.id.orig, .int .i64 p.tie.head.id.kind, .int .i64 p.tie.head.id.nr, .int .i64 p.tie.head.seq, .int .i64 p.tie.head.life, .int .i64 p.tie.level, .bool p.tie.over, .slice ae p.tie.edges.length ce, .slice ar p.tie.reaches.length cr, .int .i64 p.frm.dir, .int .i64 p.frm.orig, .int .i64 p.frm.kind, .int .i64 p.frm.nr, .int .i64 p.to.dir, .int .i64 p.to.orig, .int .i64 p.to.kind, .int .i64 p.to.nr, .slice ah p.heads.length ch] 84))
  have HW := Lib.hid (write_any p ae ar ah ce cr ch (w.alloc (.cells #[.int .i64 p.kind, .int .i64 p.lie.node, .int .i64 p.lie.level, .int .i64 p.lie.pod, .int .i64 p.lie.mtu, .int .i64 p.lie.link, .int .i64 p.lie.nonce, .int .i64 p.lie.seen, .int .i64 p.lie.seenLink, .int .i64 p.lie.seenNonce, .int .i64 p.lie.hold, .bool p.lie.rep, .bool p.lie.noOffer, .int .i64 p.tie.head.id.dir, .int .i64 p.tie.head.id.orig, .int .i64 p.tie.head.id.kind, .int .i64 p.tie.head.id.nr, .int .i64 p.tie.head.seq, .int .i64 p.tie.head.life, .int .i64 p.tie.level, .bool p.tie.over, .slice ae p.tie.edges.length ce, .slice ar p.tie.reaches.length cr, .int .i64 p.frm.dir, .int .i64 p.frm.orig, .int .i64 p.frm.kind, .int .i64 p.frm.nr, .int .i64 p.to.dir, .int .i64 p.to.orig, .int .i64 p.to.kind, .int .i64 p.to.nr, .slice ah p.heads.length ch] 84)) ((hp.below HB.out).mono (by simp)))
  clear hp
  go_enter Tryz.func33, Tryz.ntmps33
  go_wp2_with (first
    | (refine wpList_load_mid rfl 84 (.tmp 1) rfl _ _ rfl _ _ RG.out Tryz.underlying84 rfl (by kernel_rfl) ?_)
    | (go_at_call 50; refine HW.out.mono ?_; rintro e w1 ⟨v, rfl, _, hb⟩; have HB1 := Lib.hid (HB.out.trans (hb.mono (by simp))); clear hb))
  go_ret
  exact ⟨rfl, HB1.out⟩
/-- A packet's fields, or none. -/
def itemsW (p : PackT) : List It := if rightW p = true then packI p else []
theorem pack_rightB {p : PackT} (hr : rightW p = true) : rightB (packI p) = true := by
  rw [rightW, Bool.and_eq_true] at hr
  exact right_pack hr.1
end Go.Proofs.YtpaooddmgcekhaaGreat
