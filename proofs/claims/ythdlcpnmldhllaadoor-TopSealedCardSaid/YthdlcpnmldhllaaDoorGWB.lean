/-
  A PACKET THAT CAME IN AS AN ARGUMENT, as data.
-/
import Derived.Test.YthdlcpnmldhllaaDoorWWrite
import Derived.Test.YthdlcpnmldhllaaDoorWGood
import Derived.Test.YthdlcpnmldhllaaDoorGWA
import Derived.Test.YthdlcpnmldhllaaDoorSameQ

/-
  THE PROGRAM's Right, Items and Encode.
-/
namespace Go.Proofs.YthdlcpnmldhllaaDoor
open Go.RowKit Go.Shelf
set_option linter.unusedVariables false

/-- A row of items without bytes reads as its list. -/
theorem rdI_own {n₀ : Nat} {W : World} {v : Value} {l : List It} (h : W.ownsRow n₀ 84 4 v l.length (l.flatMap encIt)) (hb : ∀ x ∈ l, x.bs = []) : ∃ A n c, v = .slice A n c ∧ n = l.length ∧ n ≤ c ∧ c ≤ maxLen ∧ RdI W.heap.size W A l := by
  obtain ⟨A, c, rfl, h1, h2, hr⟩ := Sl.own (enc := encIt) (sz := 4) (fun _ => rfl) h
  refine ⟨A, _, c, rfl, rfl, h1, h2, fun hp => ?_⟩
  obtain ⟨b, off, e, hlt, hc⟩ := hr hp
  refine ⟨b, off, e, hlt, fun j x hx => ?_⟩
  have hx0 := hb x (List.mem_of_getElem? hx)
  refine ⟨hc j x hx 0 _ rfl, hc j x hx 1 _ rfl, hc j x hx 2 _ rfl, none, 0, ?_, by simp [hx0], Nat.zero_le _, fun hq => by simp [hx0] at hq⟩
  rw [hx0]
  exact hc j x hx 3 _ rfl
theorem pack_bs {p : PackT} (h : rightW p = true) : ∀ x ∈ packI p, x.bs = [] := by
  rw [rightW, Bool.and_eq_true] at h
  exact fun x hx => ((good_pack h.1).2 x hx).1
theorem right_c {p : PackT} (h : rightW p = true) : packC p = p := by
  rw [rightW, Bool.and_eq_true] at h
  exact pack_c h.1
/-- What was written lies as a list. -/
def WrList (p : PackT) (w : World) (e : Ending) (w' : World) : Prop :=
  ∃ A n c, e = .returned (.tuple #[.slice A n c, .bool (rightW p)]) ∧ (rightW p = true → n = (packI p).length ∧ n ≤ c ∧ c ≤ maxLen ∧ RdI w'.heap.size w' A (packI p)) ∧ Below w.heap.size w w'
theorem WrOut.list {p : PackT} {w w' : World} {e : Ending} (h : WrOut p w e w') : WrList p w e w' := by
  obtain ⟨v, rfl, ho, hb⟩ := h
  by_cases hr : rightW p = true
  · rw [right_c hr] at ho
    obtain ⟨A, n, c, rfl, h1, h2, h3, h4⟩ := rdI_own ho (pack_bs hr)
    exact ⟨A, n, c, rfl, fun _ => ⟨h1, h2, h3, h4⟩, hb⟩
  · obtain ⟨A, n, c, rfl, _⟩ := rowForm ho
    exact ⟨A, n, c, rfl, fun h => absurd h hr, hb⟩

/-- A packet's fields, or none. -/
def itemsW (p : PackT) : List It := if rightW p = true then packI p else []
set_option maxRecDepth 100000 in
set_option maxHeartbeats 4000000 in
theorem wenc_arg (p : PackT) (ae ar ah : Option Addr) (ce cr ch : Nat) (w : World) (hp : Pk w.heap.size w p ae ar ah ce cr ch) (hr : rightW p = false) :
    Calls Tryd.prog 4 #[.agg #[.int .i64 p.kind, .int .i64 p.lie.node, .int .i64 p.lie.level, .int .i64 p.lie.pod, .int .i64 p.lie.mtu, .int .i64 p.lie.link, .int .i64 p.lie.nonce, .int .i64 p.lie.seen, .int .i64 p.lie.seenLink, .int .i64 p.lie.seenNonce, .int .i64 p.lie.hold, .bool p.lie.rep, .bool p.lie.noOffer, .int .i64 p.tie.head.id.dir, .int .i64 p.tie.head.id.orig, .int .i64 p.tie.head.id.kind, .int .i64 p.tie.head.id.nr, .int .i64 p.tie.head.seq, .int .i64 p.tie.head.life, .int .i64 p.tie.level, .bool p.tie.over, .slice ae p.tie.edges.length ce, .slice ar p.tie.reaches.length cr, .int .i64 p.frm.dir, .int .i64 p.frm.orig, .int .i64 p.frm.kind, .int .i64 p.frm.nr, .int .i64 p.to.dir, .int .i64 p.to.orig, .int .i64 p.to.kind, .int .i64 p.to.nr, .slice ah p.heads.length ch]] w fun e w' => e = .returned (.tuple #[.slice none 0 0, .int .i64 1]) ∧ Below w.heap.size w w' := by
  have RG : RowKit.Hid ((w.alloc (.cells #[.int .i64 p.kind, .int .i64 p.lie.node, .int .i64 p.lie.level, .int .i64 p.lie.pod, .int .i64 p.lie.mtu, .int .i64 p.lie.link, .int .i64 p.lie.nonce, .int .i64 p.lie.seen, .int .i64 p.lie.seenLink, .int .i64 p.lie.seenNonce, .int .i64 p.lie.hold, .bool p.lie.rep, .bool p.lie.noOffer, .int .i64 p.tie.head.id.dir, .int .i64 p.tie.head.id.orig, .int .i64 p.tie.head.id.kind, .int .i64 p.tie.head.id.nr, .int .i64 p.tie.head.seq, .int .i64 p.tie.head.life, .int .i64 p.tie.level, .bool p.tie.over, .slice ae p.tie.edges.length ce, .slice ar p.tie.reaches.length cr, .int .i64 p.frm.dir, .int .i64 p.frm.orig, .int .i64 p.frm.kind, .int .i64 p.frm.nr, .int .i64 p.to.dir, .int .i64 p.to.orig, .int .i64 p.to.kind, .int .i64 p.to.nr, .slice ah p.heads.length ch] 34)).rangeAt w.heap.size 0 [.int .i64 p.kind, .int .i64 p.lie.node, .int .i64 p.lie.level, .int .i64 p.lie.pod, .int .i64 p.lie.mtu, .int .i64 p.lie.link, .int .i64 p.lie.nonce, .int .i64 p.lie.seen, .int .i64 p.lie.seenLink, .int .i64 p.lie.seenNonce, .int .i64 p.lie.hold, .bool p.lie.rep, .bool p.lie.noOffer, .int .i64 p.tie.head.id.dir, .int .i64 p.tie.head.id.orig, .int .i64 p.tie.head.id.kind, .int .i64 p.tie.head.id.nr, .int .i64 p.tie.head.seq, .int .i64 p.tie.head.life, .int .i64 p.tie.level, .bool p.tie.over, .slice ae p.tie.edges.length ce, .slice ar p.tie.reaches.length cr, .int .i64 p.frm.dir, .int .i64 p.frm.orig, .int .i64 p.frm.kind, .int .i64 p.frm.nr, .int .i64 p.to.dir, .int .i64 p.to.orig, .int .i64 p.to.kind, .int .i64 p.to.nr, .slice ah p.heads.length ch]) := fun j v hv => (At.new w.heap.size w (Nat.le_refl _) [.int .i64 p.kind, .int .i64 p.lie.node, .int .i64 p.lie.level, .int .i64 p.lie.pod, .int .i64 p.lie.mtu, .int .i64 p.lie.link, .int .i64 p.lie.nonce, .int .i64 p.lie.seen, .int .i64 p.lie.seenLink, .int .i64 p.lie.seenNonce, .int .i64 p.lie.hold, .bool p.lie.rep, .bool p.lie.noOffer, .int .i64 p.tie.head.id.dir, .int .i64 p.tie.head.id.orig, .int .i64 p.tie.head.id.kind, .int .i64 p.tie.head.id.nr, .int .i64 p.tie.head.seq, .int .i64 p.tie.head.life, .int .i64 p.tie.level, .bool p.tie.over, .slice ae p.tie.edges.length ce, .slice ar p.tie.reaches.length cr, .int .i64 p.frm.dir, .int .i64 p.frm.orig, .int .i64 p.frm.kind, .int .i64 p.frm.nr, .int .i64 p.to.dir, .int .i64 p.to.orig, .int .i64 p.to.kind, .int .i64 p.to.nr, .slice ah p.heads.length ch] 34 rfl).cell j hv
  have HB := Lib.hid ((Below.refl w.heap.size w).alloc (Nat.le_refl _) (.cells #[.int .i64 p.kind, .int .i64 p.lie.node, .int .i64 p.lie.level, .int .i64 p.lie.pod, .int .i64 p.lie.mtu, .int .i64 p.lie.link, .int .i64 p.lie.nonce, .int .i64 p.lie.seen, .int .i64 p.lie.seenLink, .int .i64 p.lie.seenNonce, .int .i64 p.lie.hold, .bool p.lie.rep, .bool p.lie.noOffer, .int .i64 p.tie.head.id.dir, .int .i64 p.tie.head.id.orig, .int .i64 p.tie.head.id.kind, .int .i64 p.tie.head.id.nr, .int .i64 p.tie.head.seq, .int .i64 p.tie.head.life, .int .i64 p.tie.level, .bool p.tie.over, .slice ae p.tie.edges.length ce, .slice ar p.tie.reaches.length cr, .int .i64 p.frm.dir, .int .i64 p.frm.orig, .int .i64 p.frm.kind, .int .i64 p.frm.nr, .int .i64 p.to.dir, .int .i64 p.to.orig, .int .i64 p.to.kind, .int .i64 p.to.nr, .slice ah p.heads.length ch] 34))
  have hw := (write_any p ae ar ah ce cr ch (w.alloc (.cells #[.int .i64 p.kind, .int .i64 p.lie.node, .int .i64 p.lie.level, .int .i64 p.lie.pod, .int .i64 p.lie.mtu, .int .i64 p.lie.link, .int .i64 p.lie.nonce, .int .i64 p.lie.seen, .int .i64 p.lie.seenLink, .int .i64 p.lie.seenNonce, .int .i64 p.lie.hold, .bool p.lie.rep, .bool p.lie.noOffer, .int .i64 p.tie.head.id.dir, .int .i64 p.tie.head.id.orig, .int .i64 p.tie.head.id.kind, .int .i64 p.tie.head.id.nr, .int .i64 p.tie.head.seq, .int .i64 p.tie.head.life, .int .i64 p.tie.level, .bool p.tie.over, .slice ae p.tie.edges.length ce, .slice ar p.tie.reaches.length cr, .int .i64 p.frm.dir, .int .i64 p.frm.orig, .int .i64 p.frm.kind, .int .i64 p.frm.nr, .int .i64 p.to.dir, .int .i64 p.to.orig, .int .i64 p.to.kind, .int .i64 p.to.nr, .slice ah p.heads.length ch] 34)) ((hp.below HB.out).mono (by simp))).mono (fun e w' h => WrOut.list h)
  have HW := Lib.hid hw
  have HR := Lib.hid hr
  clear hp hw hr
  go_enter Tryd.func4, Tryd.ntmps4
  go_wp2_with (first
    | (refine wpList_load_mid rfl 34 (.tmp 1) rfl _ _ rfl _ _ RG.out Tryd.underlying34 rfl (by kernel_rfl) ?_)
    | (go_at_call 10; refine HW.out.mono ?_; rintro e w1 ⟨A, n, c, rfl, hi, hb⟩; rw [HR.out] at hi ⊢; have HB1 := Lib.hid (HB.out.trans (hb.mono (by simp))); have HI := Lib.hid hi; clear hb hi))
  go_ret2
  exact ⟨rfl, HB1.out⟩
/-- The program's Encode of a packet's fields, wherever they lie. -/
theorem enc_call {p : PackT} (hr : rightW p = true) {A : Option Addr} {n c : Nat} {W : World} (hn : n = (packI p).length) (hrd : RdI W.heap.size W A (packI p)) : Calls Tryd.prog 11 #[.slice A n c] W (Encoded (packI p) W) := by
  subst hn
  have hr' := hr
  rw [rightW, Bool.and_eq_true] at hr
  have hl := len_pack hr.1
  exact pencode_any A c (packI p) (by omega) (fun x hx => by rw [pack_bs hr' x hx]; simp) (fun x hx => ((good_pack hr.1).2 x hx).2) W hrd
theorem pack_rightB {p : PackT} (hr : rightW p = true) : rightB (packI p) = true := by
  rw [rightW, Bool.and_eq_true] at hr
  exact right_pack hr.1
set_option maxRecDepth 100000 in
set_option maxHeartbeats 4000000 in
theorem wenc_full (p : PackT) (ae ar ah : Option Addr) (ce cr ch : Nat) (w : World) (hp : Pk w.heap.size w p ae ar ah ce cr ch) (hr : rightW p = true) (hx : 4096 < (encL (packI p)).length) :
    Calls Tryd.prog 4 #[.agg #[.int .i64 p.kind, .int .i64 p.lie.node, .int .i64 p.lie.level, .int .i64 p.lie.pod, .int .i64 p.lie.mtu, .int .i64 p.lie.link, .int .i64 p.lie.nonce, .int .i64 p.lie.seen, .int .i64 p.lie.seenLink, .int .i64 p.lie.seenNonce, .int .i64 p.lie.hold, .bool p.lie.rep, .bool p.lie.noOffer, .int .i64 p.tie.head.id.dir, .int .i64 p.tie.head.id.orig, .int .i64 p.tie.head.id.kind, .int .i64 p.tie.head.id.nr, .int .i64 p.tie.head.seq, .int .i64 p.tie.head.life, .int .i64 p.tie.level, .bool p.tie.over, .slice ae p.tie.edges.length ce, .slice ar p.tie.reaches.length cr, .int .i64 p.frm.dir, .int .i64 p.frm.orig, .int .i64 p.frm.kind, .int .i64 p.frm.nr, .int .i64 p.to.dir, .int .i64 p.to.orig, .int .i64 p.to.kind, .int .i64 p.to.nr, .slice ah p.heads.length ch]] w fun e w' => e = .returned (.tuple #[.slice none 0 0, .int .i64 3]) ∧ Below w.heap.size w w' := by
  have HX := Lib.hid hx
  clear hx
  have RG : RowKit.Hid ((w.alloc (.cells #[.int .i64 p.kind, .int .i64 p.lie.node, .int .i64 p.lie.level, .int .i64 p.lie.pod, .int .i64 p.lie.mtu, .int .i64 p.lie.link, .int .i64 p.lie.nonce, .int .i64 p.lie.seen, .int .i64 p.lie.seenLink, .int .i64 p.lie.seenNonce, .int .i64 p.lie.hold, .bool p.lie.rep, .bool p.lie.noOffer, .int .i64 p.tie.head.id.dir, .int .i64 p.tie.head.id.orig, .int .i64 p.tie.head.id.kind, .int .i64 p.tie.head.id.nr, .int .i64 p.tie.head.seq, .int .i64 p.tie.head.life, .int .i64 p.tie.level, .bool p.tie.over, .slice ae p.tie.edges.length ce, .slice ar p.tie.reaches.length cr, .int .i64 p.frm.dir, .int .i64 p.frm.orig, .int .i64 p.frm.kind, .int .i64 p.frm.nr, .int .i64 p.to.dir, .int .i64 p.to.orig, .int .i64 p.to.kind, .int .i64 p.to.nr, .slice ah p.heads.length ch] 34)).rangeAt w.heap.size 0 [.int .i64 p.kind, .int .i64 p.lie.node, .int .i64 p.lie.level, .int .i64 p.lie.pod, .int .i64 p.lie.mtu, .int .i64 p.lie.link, .int .i64 p.lie.nonce, .int .i64 p.lie.seen, .int .i64 p.lie.seenLink, .int .i64 p.lie.seenNonce, .int .i64 p.lie.hold, .bool p.lie.rep, .bool p.lie.noOffer, .int .i64 p.tie.head.id.dir, .int .i64 p.tie.head.id.orig, .int .i64 p.tie.head.id.kind, .int .i64 p.tie.head.id.nr, .int .i64 p.tie.head.seq, .int .i64 p.tie.head.life, .int .i64 p.tie.level, .bool p.tie.over, .slice ae p.tie.edges.length ce, .slice ar p.tie.reaches.length cr, .int .i64 p.frm.dir, .int .i64 p.frm.orig, .int .i64 p.frm.kind, .int .i64 p.frm.nr, .int .i64 p.to.dir, .int .i64 p.to.orig, .int .i64 p.to.kind, .int .i64 p.to.nr, .slice ah p.heads.length ch]) := fun j v hv => (At.new w.heap.size w (Nat.le_refl _) [.int .i64 p.kind, .int .i64 p.lie.node, .int .i64 p.lie.level, .int .i64 p.lie.pod, .int .i64 p.lie.mtu, .int .i64 p.lie.link, .int .i64 p.lie.nonce, .int .i64 p.lie.seen, .int .i64 p.lie.seenLink, .int .i64 p.lie.seenNonce, .int .i64 p.lie.hold, .bool p.lie.rep, .bool p.lie.noOffer, .int .i64 p.tie.head.id.dir, .int .i64 p.tie.head.id.orig, .int .i64 p.tie.head.id.kind, .int .i64 p.tie.head.id.nr, .int .i64 p.tie.head.seq, .int .i64 p.tie.head.life, .int .i64 p.tie.level, .bool p.tie.over, .slice ae p.tie.edges.length ce, .slice ar p.tie.reaches.length cr, .int .i64 p.frm.dir, .int .i64 p.frm.orig, .int .i64 p.frm.kind, .int .i64 p.frm.nr, .int .i64 p.to.dir, .int .i64 p.to.orig, .int .i64 p.to.kind, .int .i64 p.to.nr, .slice ah p.heads.length ch] 34 rfl).cell j hv
  have HB := Lib.hid ((Below.refl w.heap.size w).alloc (Nat.le_refl _) (.cells #[.int .i64 p.kind, .int .i64 p.lie.node, .int .i64 p.lie.level, .int .i64 p.lie.pod, .int .i64 p.lie.mtu, .int .i64 p.lie.link, .int .i64 p.lie.nonce, .int .i64 p.lie.seen, .int .i64 p.lie.seenLink, .int .i64 p.lie.seenNonce, .int .i64 p.lie.hold, .bool p.lie.rep, .bool p.lie.noOffer, .int .i64 p.tie.head.id.dir, .int .i64 p.tie.head.id.orig, .int .i64 p.tie.head.id.kind, .int .i64 p.tie.head.id.nr, .int .i64 p.tie.head.seq, .int .i64 p.tie.head.life, .int .i64 p.tie.level, .bool p.tie.over, .slice ae p.tie.edges.length ce, .slice ar p.tie.reaches.length cr, .int .i64 p.frm.dir, .int .i64 p.frm.orig, .int .i64 p.frm.kind, .int .i64 p.frm.nr, .int .i64 p.to.dir, .int .i64 p.to.orig, .int .i64 p.to.kind, .int .i64 p.to.nr, .slice ah p.heads.length ch] 34))
  have hw := (write_any p ae ar ah ce cr ch (w.alloc (.cells #[.int .i64 p.kind, .int .i64 p.lie.node, .int .i64 p.lie.level, .int .i64 p.lie.pod, .int .i64 p.lie.mtu, .int .i64 p.lie.link, .int .i64 p.lie.nonce, .int .i64 p.lie.seen, .int .i64 p.lie.seenLink, .int .i64 p.lie.seenNonce, .int .i64 p.lie.hold, .bool p.lie.rep, .bool p.lie.noOffer, .int .i64 p.tie.head.id.dir, .int .i64 p.tie.head.id.orig, .int .i64 p.tie.head.id.kind, .int .i64 p.tie.head.id.nr, .int .i64 p.tie.head.seq, .int .i64 p.tie.head.life, .int .i64 p.tie.level, .bool p.tie.over, .slice ae p.tie.edges.length ce, .slice ar p.tie.reaches.length cr, .int .i64 p.frm.dir, .int .i64 p.frm.orig, .int .i64 p.frm.kind, .int .i64 p.frm.nr, .int .i64 p.to.dir, .int .i64 p.to.orig, .int .i64 p.to.kind, .int .i64 p.to.nr, .slice ah p.heads.length ch] 34)) ((hp.below HB.out).mono (by simp))).mono (fun e w' h => WrOut.list h)
  have HW := Lib.hid hw
  have HR := Lib.hid hr
  clear hp hw hr
  go_enter Tryd.func4, Tryd.ntmps4
  go_wp2_with (first
    | (refine wpList_load_mid rfl 34 (.tmp 1) rfl _ _ rfl _ _ RG.out Tryd.underlying34 rfl (by kernel_rfl) ?_)
    | (go_at_call 10; refine HW.out.mono ?_; rintro e w1 ⟨A, n, c, rfl, hi, hb⟩; rw [HR.out] at hi ⊢; obtain ⟨hn, hc1, hc2, hrd⟩ := hi rfl; have HB1 := Lib.hid (HB.out.trans (hb.mono (by simp))); have HN := Lib.hid hn; have HRD := Lib.hid hrd; clear hb hn hrd hi)
    | (go_at_call 11; refine (enc_call HR.out HN.out HRD.out).mono ?_; rintro e w2 he; obtain ⟨rfl, hb2⟩ := he.full (pack_rightB HR.out) HX.out; have HB2 := Lib.hid (HB1.out.trans (hb2.mono HB1.out.size)); clear hb2 he))
  go_ret2
  exact ⟨rfl, HB2.out⟩
set_option maxRecDepth 100000 in
set_option maxHeartbeats 4000000 in
theorem wenc_ok (p : PackT) (ae ar ah : Option Addr) (ce cr ch : Nat) (w : World) (hp : Pk w.heap.size w p ae ar ah ce cr ch) (hr : rightW p = true) (hx : ¬ 4096 < (encL (packI p)).length) (zs : List Int) (hz : encL (packI p) = zs) :
    Calls Tryd.prog 4 #[.agg #[.int .i64 p.kind, .int .i64 p.lie.node, .int .i64 p.lie.level, .int .i64 p.lie.pod, .int .i64 p.lie.mtu, .int .i64 p.lie.link, .int .i64 p.lie.nonce, .int .i64 p.lie.seen, .int .i64 p.lie.seenLink, .int .i64 p.lie.seenNonce, .int .i64 p.lie.hold, .bool p.lie.rep, .bool p.lie.noOffer, .int .i64 p.tie.head.id.dir, .int .i64 p.tie.head.id.orig, .int .i64 p.tie.head.id.kind, .int .i64 p.tie.head.id.nr, .int .i64 p.tie.head.seq, .int .i64 p.tie.head.life, .int .i64 p.tie.level, .bool p.tie.over, .slice ae p.tie.edges.length ce, .slice ar p.tie.reaches.length cr, .int .i64 p.frm.dir, .int .i64 p.frm.orig, .int .i64 p.frm.kind, .int .i64 p.frm.nr, .int .i64 p.to.dir, .int .i64 p.to.orig, .int .i64 p.to.kind, .int .i64 p.to.nr, .slice ah p.heads.length ch]] w (GotB zs w) := by
  have HX := Lib.hid hx
  have HZ := Lib.hid hz
  clear hx hz
  have RG : RowKit.Hid ((w.alloc (.cells #[.int .i64 p.kind, .int .i64 p.lie.node, .int .i64 p.lie.level, .int .i64 p.lie.pod, .int .i64 p.lie.mtu, .int .i64 p.lie.link, .int .i64 p.lie.nonce, .int .i64 p.lie.seen, .int .i64 p.lie.seenLink, .int .i64 p.lie.seenNonce, .int .i64 p.lie.hold, .bool p.lie.rep, .bool p.lie.noOffer, .int .i64 p.tie.head.id.dir, .int .i64 p.tie.head.id.orig, .int .i64 p.tie.head.id.kind, .int .i64 p.tie.head.id.nr, .int .i64 p.tie.head.seq, .int .i64 p.tie.head.life, .int .i64 p.tie.level, .bool p.tie.over, .slice ae p.tie.edges.length ce, .slice ar p.tie.reaches.length cr, .int .i64 p.frm.dir, .int .i64 p.frm.orig, .int .i64 p.frm.kind, .int .i64 p.frm.nr, .int .i64 p.to.dir, .int .i64 p.to.orig, .int .i64 p.to.kind, .int .i64 p.to.nr, .slice ah p.heads.length ch] 34)).rangeAt w.heap.size 0 [.int .i64 p.kind, .int .i64 p.lie.node, .int .i64 p.lie.level, .int .i64 p.lie.pod, .int .i64 p.lie.mtu, .int .i64 p.lie.link, .int .i64 p.lie.nonce, .int .i64 p.lie.seen, .int .i64 p.lie.seenLink, .int .i64 p.lie.seenNonce, .int .i64 p.lie.hold, .bool p.lie.rep, .bool p.lie.noOffer, .int .i64 p.tie.head.id.dir, .int .i64 p.tie.head.id.orig, .int .i64 p.tie.head.id.kind, .int .i64 p.tie.head.id.nr, .int .i64 p.tie.head.seq, .int .i64 p.tie.head.life, .int .i64 p.tie.level, .bool p.tie.over, .slice ae p.tie.edges.length ce, .slice ar p.tie.reaches.length cr, .int .i64 p.frm.dir, .int .i64 p.frm.orig, .int .i64 p.frm.kind, .int .i64 p.frm.nr, .int .i64 p.to.dir, .int .i64 p.to.orig, .int .i64 p.to.kind, .int .i64 p.to.nr, .slice ah p.heads.length ch]) := fun j v hv => (At.new w.heap.size w (Nat.le_refl _) [.int .i64 p.kind, .int .i64 p.lie.node, .int .i64 p.lie.level, .int .i64 p.lie.pod, .int .i64 p.lie.mtu, .int .i64 p.lie.link, .int .i64 p.lie.nonce, .int .i64 p.lie.seen, .int .i64 p.lie.seenLink, .int .i64 p.lie.seenNonce, .int .i64 p.lie.hold, .bool p.lie.rep, .bool p.lie.noOffer, .int .i64 p.tie.head.id.dir, .int .i64 p.tie.head.id.orig, .int .i64 p.tie.head.id.kind, .int .i64 p.tie.head.id.nr, .int .i64 p.tie.head.seq, .int .i64 p.tie.head.life, .int .i64 p.tie.level, .bool p.tie.over, .slice ae p.tie.edges.length ce, .slice ar p.tie.reaches.length cr, .int .i64 p.frm.dir, .int .i64 p.frm.orig, .int .i64 p.frm.kind, .int .i64 p.frm.nr, .int .i64 p.to.dir, .int .i64 p.to.orig, .int .i64 p.to.kind, .int .i64 p.to.nr, .slice ah p.heads.length ch] 34 rfl).cell j hv
  have HB := Lib.hid ((Below.refl w.heap.size w).alloc (Nat.le_refl _) (.cells #[.int .i64 p.kind, .int .i64 p.lie.node, .int .i64 p.lie.level, .int .i64 p.lie.pod, .int .i64 p.lie.mtu, .int .i64 p.lie.link, .int .i64 p.lie.nonce, .int .i64 p.lie.seen, .int .i64 p.lie.seenLink, .int .i64 p.lie.seenNonce, .int .i64 p.lie.hold, .bool p.lie.rep, .bool p.lie.noOffer, .int .i64 p.tie.head.id.dir, .int .i64 p.tie.head.id.orig, .int .i64 p.tie.head.id.kind, .int .i64 p.tie.head.id.nr, .int .i64 p.tie.head.seq, .int .i64 p.tie.head.life, .int .i64 p.tie.level, .bool p.tie.over, .slice ae p.tie.edges.length ce, .slice ar p.tie.reaches.length cr, .int .i64 p.frm.dir, .int .i64 p.frm.orig, .int .i64 p.frm.kind, .int .i64 p.frm.nr, .int .i64 p.to.dir, .int .i64 p.to.orig, .int .i64 p.to.kind, .int .i64 p.to.nr, .slice ah p.heads.length ch] 34))
  have hw := (write_any p ae ar ah ce cr ch (w.alloc (.cells #[.int .i64 p.kind, .int .i64 p.lie.node, .int .i64 p.lie.level, .int .i64 p.lie.pod, .int .i64 p.lie.mtu, .int .i64 p.lie.link, .int .i64 p.lie.nonce, .int .i64 p.lie.seen, .int .i64 p.lie.seenLink, .int .i64 p.lie.seenNonce, .int .i64 p.lie.hold, .bool p.lie.rep, .bool p.lie.noOffer, .int .i64 p.tie.head.id.dir, .int .i64 p.tie.head.id.orig, .int .i64 p.tie.head.id.kind, .int .i64 p.tie.head.id.nr, .int .i64 p.tie.head.seq, .int .i64 p.tie.head.life, .int .i64 p.tie.level, .bool p.tie.over, .slice ae p.tie.edges.length ce, .slice ar p.tie.reaches.length cr, .int .i64 p.frm.dir, .int .i64 p.frm.orig, .int .i64 p.frm.kind, .int .i64 p.frm.nr, .int .i64 p.to.dir, .int .i64 p.to.orig, .int .i64 p.to.kind, .int .i64 p.to.nr, .slice ah p.heads.length ch] 34)) ((hp.below HB.out).mono (by simp))).mono (fun e w' h => WrOut.list h)
  have HW := Lib.hid hw
  have HR := Lib.hid hr
  clear hp hw hr
  go_enter Tryd.func4, Tryd.ntmps4
  go_wp2_with (first
    | (refine wpList_load_mid rfl 34 (.tmp 1) rfl _ _ rfl _ _ RG.out Tryd.underlying34 rfl (by kernel_rfl) ?_)
    | (go_at_call 10; refine HW.out.mono ?_; rintro e w1 ⟨A, n, c, rfl, hi, hb⟩; rw [HR.out] at hi ⊢; obtain ⟨hn, hc1, hc2, hrd⟩ := hi rfl; have HB1 := Lib.hid (HB.out.trans (hb.mono (by simp))); have HN := Lib.hid hn; have HRD := Lib.hid hrd; clear hb hn hrd hi)
    | (go_at_call 11; refine (enc_call HR.out HN.out HRD.out).mono ?_; rintro e w2 he; obtain ⟨A2, c2, rfl, hk1, hk2, hrd2, hb2⟩ := he.ok (pack_rightB HR.out) HX.out HZ.out; have HB2 := Lib.hid (HB1.out.trans (hb2.mono HB1.out.size)); have HRD2 := Lib.hid hrd2; clear hb2 he hrd2))
  go_ret2
  exact ⟨A2, c2, rfl, hk1, hk2, HRD2.out, HB2.out⟩
end Go.Proofs.YthdlcpnmldhllaaDoor

/-
  awake of layer 3: a Tire without heads; Few.
-/
namespace Go.Proofs.YthdlcpnmldhllaaDoor
open Go.RowKit Go.Shelf
set_option linter.unusedVariables false

def tireP : PackT := { PackT.zero with kind := 4 }
theorem tire_right : rightW tireP = true := by decide
theorem tire_enc : encL (packI tireP) = [4, 8] := by
  simp [packI, tireP, PackT.zero, encL, itemL, intI, zigI, putL_lt]
theorem tire_pk (w : World) : Pk w.heap.size w tireP none none none 0 0 0 :=
  ⟨fun h => by simp [tireP, PackT.zero, TieT.zero] at h, fun h => by simp [tireP, PackT.zero, TieT.zero] at h, fun h => by simp [tireP, PackT.zero] at h, ⟨by simp [tireP, PackT.zero, TieT.zero], by simp [tireP, PackT.zero, TieT.zero], Nat.zero_le _⟩, ⟨by simp [tireP, PackT.zero, TieT.zero], by simp [tireP, PackT.zero, TieT.zero], Nat.zero_le _⟩, ⟨by simp [tireP, PackT.zero], by simp [tireP, PackT.zero], Nat.zero_le _⟩, fun y hy => by simp [tireP, PackT.zero, TieT.zero] at hy⟩
def few3 (p : PackT) : Bool := decide (p.heads.length < 200 ∧ p.tie.edges.length < 200 ∧ p.tie.reaches.length < 200)
set_option maxRecDepth 100000 in
set_option maxHeartbeats 4000000 in
theorem few3_any (p : PackT) (ae ar ah : Option Addr) (ce cr ch : Nat) (w : World) :
    Calls Tryd.prog 5 #[.agg #[.int .i64 p.kind, .int .i64 p.lie.node, .int .i64 p.lie.level, .int .i64 p.lie.pod, .int .i64 p.lie.mtu, .int .i64 p.lie.link, .int .i64 p.lie.nonce, .int .i64 p.lie.seen, .int .i64 p.lie.seenLink, .int .i64 p.lie.seenNonce, .int .i64 p.lie.hold, .bool p.lie.rep, .bool p.lie.noOffer, .int .i64 p.tie.head.id.dir, .int .i64 p.tie.head.id.orig, .int .i64 p.tie.head.id.kind, .int .i64 p.tie.head.id.nr, .int .i64 p.tie.head.seq, .int .i64 p.tie.head.life, .int .i64 p.tie.level, .bool p.tie.over, .slice ae p.tie.edges.length ce, .slice ar p.tie.reaches.length cr, .int .i64 p.frm.dir, .int .i64 p.frm.orig, .int .i64 p.frm.kind, .int .i64 p.frm.nr, .int .i64 p.to.dir, .int .i64 p.to.orig, .int .i64 p.to.kind, .int .i64 p.to.nr, .slice ah p.heads.length ch]] w fun e w' => e = .returned (.bool (few3 p)) ∧ Below w.heap.size w w' := by
  go_enter Tryd.func5, Tryd.ntmps5
  go_wp2
  all_goals go_ret
  all_goals exact ⟨ret_bool (by unfold few3; first | (simp; omega) | (simp [*]; done) | (rw [Bool.eq_iff_iff]; simp; omega)), (Below.refl _ _).alloc (Nat.le_refl _) _⟩
end Go.Proofs.YthdlcpnmldhllaaDoor

/-
  WireItems: walks.
-/
namespace Go.Proofs.YthdlcpnmldhllaaDoor
open Go.RowKit Go.Shelf
set_option linter.unusedVariables false

theorem box_range {W0 W : World} {b n : Nat} {cs : List Value} {t : TypeId} (h : W0.heap[b]? = some (.cells cs.toArray t (0, 0))) (hb : Below n W0 W) (hlt : b < n) : W.rangeAt b 0 cs := fun j v hv => by
  rw [cell_of_row W b (0 + j) cs.toArray t (0, 0) ((hb.block b hlt).trans h), Nat.zero_add]
  simpa using hv
/-- A whole variable is read by an operation that is guarded, and wanted. -/
theorem wpList_load_g {P : Program} {ops : Array Oper} {rest : List Oper} {op : Oper} {a : Act} {w : World} {Q : Exit → Act → World → Prop} (ty : TypeId) (x : Operand) (ho : op.op = .load ty x)
    (b o : Nat) (hx : a.eval x = .pointer (some ⟨b, o, none⟩)) (cs : List Value) (d : TypeDesc) (hc : w.rangeAt b o cs)
    (hu : P.underlying ty = some d) (hd : d.isRow = true) (hi : (P.info? ty).map (·.size) = some cs.length) (hw : Region.wanted op (yielded ops a.tmps) = true)
    (h : wpList P ops Q rest (a.put op.dst (.agg cs.toArray)) w) : wpList P ops Q (op :: rest) a w := by
  unfold wpList
  rw [if_pos hw]
  exact .inl (wp_load_mid ty x ho b o hx cs d hc hu hd hi h)
theorem known_items (p : PackT) : knownP (itemsW p) = itemsW p := by
  unfold itemsW
  split
  · rename_i h
    rw [rightW, Bool.and_eq_true] at h
    exact known_pack h.1
  · rfl
theorem right_items (p : PackT) : rightB (itemsW p) = true := by
  unfold itemsW
  split
  · rename_i h
    exact pack_rightB h
  · rfl
theorem len_items (p : PackT) : (itemsW p).length ≤ 1000 := by
  unfold itemsW
  split
  · rename_i h
    rw [rightW, Bool.and_eq_true] at h
    exact len_pack h.1
  · simp
theorem bs_items (p : PackT) : ∀ x ∈ itemsW p, x.bs.length ≤ 1000000 := by
  unfold itemsW
  split
  · rename_i h
    intro x hx
    rw [pack_bs h x hx]
    simp
  · simp
theorem pos_items {p : PackT} (h : rightW p = true) : 0 < (itemsW p).length := by
  unfold itemsW
  rw [if_pos h]
  simp [packI]
theorem nil_items {p : PackT} (h : rightW p = false) : (itemsW p).length = 0 := by
  unfold itemsW
  rw [if_neg (by simp [h])]
  rfl
end Go.Proofs.YthdlcpnmldhllaaDoor

/-
  SAME of two lists of heads, of two ties, of two packets.
-/
namespace Go.Proofs.YthdlcpnmldhllaaDoor
open Go.RowKit Go.Shelf
set_option linter.unusedVariables false

theorem list_ne {E : Type} {l m : List E} {k : Nat} {x y : E} (hx : l[k]? = some x) (hy : m[k]? = some y) (h : ¬ x = y) : ¬ l = m := fun e => by
  subst e
  rw [hx] at hy
  exact h (Option.some.inj hy)
theorem head_eq {x y : HeadT} (e1 : x.id.dir = y.id.dir) (e2 : x.id.orig = y.id.orig) (e3 : x.id.kind = y.id.kind) (e4 : x.id.nr = y.id.nr) (e5 : x.seq = y.seq) (e6 : x.life = y.life) : x = y := by
  obtain ⟨⟨a, b, c, d⟩, e, f⟩ := x
  obtain ⟨⟨a', b', c', d'⟩, e', f'⟩ := y
  simp only at e1 e2 e3 e4 e5 e6
  subst e1 e2 e3 e4 e5 e6
  rfl
theorem edge_eq {x y : EdgeT} (e1 : x.node = y.node) (e2 : x.level = y.level) (e3 : x.cost = y.cost) : x = y := by
  obtain ⟨a, b, c⟩ := x
  obtain ⟨a', b', c'⟩ := y
  simp only at e1 e2 e3
  subst e1 e2 e3
  rfl
theorem reach_eq {x y : ReachT} (e1 : x.net = y.net) (e2 : x.bits = y.bits) (e3 : x.metric = y.metric) : x = y := by
  obtain ⟨a, b, c⟩ := x
  obtain ⟨a', b', c'⟩ := y
  simp only at e1 e2 e3
  subst e1 e2 e3
  rfl
theorem heads_next {E : Type} {l m : List E} {k : Nat} {x y : E} (h : l.take k = m.take k) (hx : l[k]? = some x) (hy : m[k]? = some y) (e : x = y) : l.take (k + 1) = m.take (k + 1) := by
  rw [List.take_add_one, List.take_add_one, h, hx, hy, e]
set_option maxRecDepth 100000 in
set_option maxHeartbeats 8000000 in
theorem sameHeads_any (a b : Option Addr) (c1 c2 : Nat) (l m : List HeadT) (hl : l.length ≤ 140737488351232) (hm : m.length ≤ 140737488351232) (w : World) (hra : RdR 6 encHead w.heap.size w a l) (hrb : RdR 6 encHead w.heap.size w b m) :
    Calls Tryd.prog 24 #[.slice a l.length c1, .slice b m.length c2] w fun e w' => ∃ r, e = .returned (.bool r) ∧ (r = true ↔ l = m) ∧ Below w.heap.size w w' := by
  by_cases hlen : l.length = m.length
  · have HA := Lib.hid hra
    have HB := Lib.hid hrb
    obtain ⟨n, hn⟩ : ∃ n, l.length = n := ⟨_, rfl⟩
    have hmn : m.length = n := by omega
    rw [hn] at hl ⊢
    rw [hmn]
    have HN := Lib.hid hn
    have HM := Lib.hid hmn
    clear hra hrb hlen hn hmn hm
    go_enter Tryd.func24, Tryd.ntmps24
    go_wp2
    go_loopw [5] (fun i wr => ∃ k : Nat, k ≤ n ∧ i = .int .i64 k ∧ l.take k = m.take k ∧ Below w.heap.size w wr) (fun i _ => n - (intOf i).toNat)
    case atStart => exact ⟨0, Nat.zero_le _, rfl, rfl, Below.refl _ _⟩
    case round =>
      obtain ⟨k, hk, rfl, hpre, hbel⟩ := hrel
      have HP := Lib.hid hpre
      have HBL := Lib.hid hbel
      clear hpre hbel
      by_cases hlt : k < n
      · obtain ⟨b1, o1, rfl, hb1, hca⟩ := HA.out (by have := HN.out; omega)
        obtain ⟨b2, o2, rfl, hb2, hcb⟩ := HB.out (by have := HM.out; omega)
        obtain ⟨x, hx⟩ : ∃ x, l[k]? = some x := ⟨_, List.getElem?_eq_getElem (by have := HN.out; omega)⟩
        obtain ⟨y, hy⟩ : ∃ y, m[k]? = some y := ⟨_, List.getElem?_eq_getElem (by have := HM.out; omega)⟩
        have g0 : wr.cell? ⟨b1, o1 + k * 6, none⟩ = some _ := (HBL.out.cell hb1).trans (hca k x hx 0 _ rfl)
        have f0 : wr.cell? ⟨b2, o2 + k * 6, none⟩ = some _ := (HBL.out.cell hb2).trans (hcb k y hy 0 _ rfl)
        have g1 : wr.cell? ⟨b1, o1 + k * 6 + 1, none⟩ = some _ := (HBL.out.cell hb1).trans (hca k x hx 1 _ rfl)
        have f1 : wr.cell? ⟨b2, o2 + k * 6 + 1, none⟩ = some _ := (HBL.out.cell hb2).trans (hcb k y hy 1 _ rfl)
        have g2 : wr.cell? ⟨b1, o1 + k * 6 + 2, none⟩ = some _ := (HBL.out.cell hb1).trans (hca k x hx 2 _ rfl)
        have f2 : wr.cell? ⟨b2, o2 + k * 6 + 2, none⟩ = some _ := (HBL.out.cell hb2).trans (hcb k y hy 2 _ rfl)
        have g3 : wr.cell? ⟨b1, o1 + k * 6 + 3, none⟩ = some _ := (HBL.out.cell hb1).trans (hca k x hx 3 _ rfl)
        have f3 : wr.cell? ⟨b2, o2 + k * 6 + 3, none⟩ = some _ := (HBL.out.cell hb2).trans (hcb k y hy 3 _ rfl)
        have g4 : wr.cell? ⟨b1, o1 + k * 6 + 4, none⟩ = some _ := (HBL.out.cell hb1).trans (hca k x hx 4 _ rfl)
        have f4 : wr.cell? ⟨b2, o2 + k * 6 + 4, none⟩ = some _ := (HBL.out.cell hb2).trans (hcb k y hy 4 _ rfl)
        have g5 : wr.cell? ⟨b1, o1 + k * 6 + 5, none⟩ = some _ := (HBL.out.cell hb1).trans (hca k x hx 5 _ rfl)
        have f5 : wr.cell? ⟨b2, o2 + k * 6 + 5, none⟩ = some _ := (HBL.out.cell hb2).trans (hcb k y hy 5 _ rfl)
        have HX := Lib.hid hx
        have HY := Lib.hid hy
        have k0 : (0 : Int) ≤ (k : Int) := Int.natCast_nonneg _
        have k1 : (k : Int) < (n : Int) := by omega
        clear hca hcb hx hy
        by_cases hxy : x = y
        · subst hxy
          have HS := Lib.hid (heads_next HP.out HX.out HY.out rfl)
          clear hlt
          go_wp2
          go_quiet (fail)
          go_wp2
          go_roundw
          case rel => exact ⟨k + 1, by omega, by go_num, HS.out, below_drewN HBL.out _⟩
          case measure => simp [intOf]; omega
        · have HXY := Lib.hid hxy
          clear hxy
          by_cases e_id_dir : x.id.dir = y.id.dir
          rotate_left
          · clear hlt
            go_wp2
            go_quiet (fail)
            go_wp2
            go_ret
            exact ⟨false, rfl, by simp; exact list_ne HX.out HY.out HXY.out, below_drewN HBL.out _⟩
          by_cases e_id_orig : x.id.orig = y.id.orig
          rotate_left
          · clear hlt
            go_wp2
            go_quiet (fail)
            go_wp2
            go_ret
            exact ⟨false, rfl, by simp; exact list_ne HX.out HY.out HXY.out, below_drewN HBL.out _⟩
          by_cases e_id_kind : x.id.kind = y.id.kind
          rotate_left
          · clear hlt
            go_wp2
            go_quiet (fail)
            go_wp2
            go_ret
            exact ⟨false, rfl, by simp; exact list_ne HX.out HY.out HXY.out, below_drewN HBL.out _⟩
          by_cases e_id_nr : x.id.nr = y.id.nr
          rotate_left
          · clear hlt
            go_wp2
            go_quiet (fail)
            go_wp2
            go_ret
            exact ⟨false, rfl, by simp; exact list_ne HX.out HY.out HXY.out, below_drewN HBL.out _⟩
          by_cases e_seq : x.seq = y.seq
          rotate_left
          · clear hlt
            go_wp2
            go_quiet (fail)
            go_wp2
            go_ret
            exact ⟨false, rfl, by simp; exact list_ne HX.out HY.out HXY.out, below_drewN HBL.out _⟩
          by_cases e_life : x.life = y.life
          rotate_left
          · clear hlt
            go_wp2
            go_quiet (fail)
            go_wp2
            go_ret
            exact ⟨false, rfl, by simp; exact list_ne HX.out HY.out HXY.out, below_drewN HBL.out _⟩
          exact absurd (head_eq e_id_dir e_id_orig e_id_kind e_id_nr e_seq e_life) HXY.out
      · have HF : RowKit.Hid (l = m) := by
          have hp := HP.out
          have h1 := HN.out
          have h2 := HM.out
          rw [List.take_of_length_le (by omega), List.take_of_length_le (by omega)] at hp
          exact hp
        go_wp2
        go_ret
        exact ⟨_, rfl, by simp [HF.out], HBL.out⟩
  · have HL := Lib.hid hlen
    go_enter Tryd.func24, Tryd.ntmps24
    go_wp2
    go_ret
    exact ⟨_, rfl, by simp; intro h; subst h; exact HL.out rfl, Below.refl _ _⟩
end Go.Proofs.YthdlcpnmldhllaaDoor

/-
  SAME of two ties.
-/
namespace Go.Proofs.YthdlcpnmldhllaaDoor
open Go.RowKit Go.Shelf
set_option linter.unusedVariables false

theorem tie_eq {x y : TieT} (e_head_id_dir : x.head.id.dir = y.head.id.dir) (e_head_id_orig : x.head.id.orig = y.head.id.orig) (e_head_id_kind : x.head.id.kind = y.head.id.kind) (e_head_id_nr : x.head.id.nr = y.head.id.nr) (e_head_seq : x.head.seq = y.head.seq) (e_head_life : x.head.life = y.head.life) (e_level : x.level = y.level) (e_over : x.over = y.over) (h1 : x.edges = y.edges) (h2 : x.reaches = y.reaches) : x = y := by
  obtain ⟨⟨⟨a, b, c, d⟩, e, f⟩, g, h, i, j⟩ := x
  obtain ⟨⟨⟨a', b', c', d'⟩, e', f'⟩, g', h', i', j'⟩ := y
  simp only at e_head_id_dir e_head_id_orig e_head_id_kind e_head_id_nr e_head_seq e_head_life e_level e_over h1 h2
  subst e_head_id_dir e_head_id_orig e_head_id_kind e_head_id_nr e_head_seq e_head_life e_level e_over h1 h2
  rfl
set_option maxRecDepth 100000 in
set_option maxHeartbeats 16000000 in
theorem sameTie_eq (hd : HeadT) (lv : Int) (ov : Bool) (xe ye : List EdgeT) (xr yr : List ReachT) (ae ar be br : Option Addr) (ce cr de dr : Nat) (hx1 : xe.length ≤ 140737488351232) (hx2 : xr.length ≤ 140737488351232) (w : World)
    (r1 : RdR 3 encEdge w.heap.size w ae xe) (r2 : RdR 3 encReach w.heap.size w ar xr) (r3 : RdR 3 encEdge w.heap.size w be ye) (r4 : RdR 3 encReach w.heap.size w br yr) (hl1 : xe.length = ye.length) (hl2 : xr.length = yr.length) :
    Calls Tryd.prog 23 #[.agg #[.int .i64 hd.id.dir, .int .i64 hd.id.orig, .int .i64 hd.id.kind, .int .i64 hd.id.nr, .int .i64 hd.seq, .int .i64 hd.life, .int .i64 lv, .bool ov, .slice ae xe.length ce, .slice ar xr.length cr], .agg #[.int .i64 hd.id.dir, .int .i64 hd.id.orig, .int .i64 hd.id.kind, .int .i64 hd.id.nr, .int .i64 hd.seq, .int .i64 hd.life, .int .i64 lv, .bool ov, .slice be ye.length de, .slice br yr.length dr]] w fun e w' => ∃ r, e = .returned (.bool r) ∧ (r = true ↔ xe = ye ∧ xr = yr) ∧ Below w.heap.size w w' := by
  obtain ⟨n1, hn1⟩ : ∃ n, xe.length = n := ⟨_, rfl⟩
  obtain ⟨n2, hn2⟩ : ∃ n, xr.length = n := ⟨_, rfl⟩
  rw [hn1] at hl1 hx1
  rw [hn2] at hl2 hx2
  rw [← hl1, ← hl2, hn1, hn2]
  have HN1 := Lib.hid hn1
  have HN2 := Lib.hid hn2
  have HM1 := Lib.hid hl1
  have HM2 := Lib.hid hl2
  have RE := Lib.hid r1
  have RR := Lib.hid r2
  have RY1 := Lib.hid r3
  have RY2 := Lib.hid r4
  obtain ⟨Z0, hZ0⟩ : ∃ Z0, ((w.alloc (.cells #[.int .i64 hd.id.dir, .int .i64 hd.id.orig, .int .i64 hd.id.kind, .int .i64 hd.id.nr, .int .i64 hd.seq, .int .i64 hd.life, .int .i64 lv, .bool ov, .slice ae n1 ce, .slice ar n2 cr] 31)).alloc (.cells #[.int .i64 hd.id.dir, .int .i64 hd.id.orig, .int .i64 hd.id.kind, .int .i64 hd.id.nr, .int .i64 hd.seq, .int .i64 hd.life, .int .i64 lv, .bool ov, .slice be n1 de, .slice br n2 dr] 31)) = Z0 := ⟨_, rfl⟩
  have a1 := (At.new w.heap.size w (Nat.le_refl _) [.int .i64 hd.id.dir, .int .i64 hd.id.orig, .int .i64 hd.id.kind, .int .i64 hd.id.nr, .int .i64 hd.seq, .int .i64 hd.life, .int .i64 lv, .bool ov, .slice ae n1 ce, .slice ar n2 cr] 31 rfl).alloc (by simp) (.cells #[.int .i64 hd.id.dir, .int .i64 hd.id.orig, .int .i64 hd.id.kind, .int .i64 hd.id.nr, .int .i64 hd.seq, .int .i64 hd.life, .int .i64 lv, .bool ov, .slice be n1 de, .slice br n2 dr] 31)
  have HQ8 : RowKit.Hid (Z0.cell? ⟨w.heap.size, 8, none⟩ = some (.slice ae n1 ce)) := by rw [← hZ0]; exact a1.cellZ 8 rfl
  have HQ9 : RowKit.Hid (Z0.cell? ⟨w.heap.size, 9, none⟩ = some (.slice ar n2 cr)) := by rw [← hZ0]; exact a1.cellZ 9 rfl
  have h8 : Z0.cell? ⟨w.heap.size + 1, 8, none⟩ = some (.slice be n1 de) := by rw [← hZ0]; simp
  have HP8 := Lib.hid h8
  have h9 : Z0.cell? ⟨w.heap.size + 1, 9, none⟩ = some (.slice br n2 dr) := by rw [← hZ0]; simp
  have HP9 := Lib.hid h9
  clear h8 h9
  have hz : Z0.heap.size = w.heap.size + 1 + 1 := by rw [← hZ0]; simp
  have HZ := Lib.hid hz
  clear hz
  have HZB : RowKit.Hid (Below w.heap.size w Z0) := by rw [← hZ0]; exact ((Below.refl _ _).alloc (Nat.le_refl _) _).alloc (by simp) _
  have HZ0 := Lib.hid hZ0
  clear hn1 hn2 hl1 hl2 r1 r2 r3 r4 a1 hZ0
  go_enter Tryd.func23, Tryd.ntmps23
  go_wp2
  rw [HZ0.out]
  go_loopw [5] (fun i wr => ∃ k : Nat, k ≤ n1 ∧ i = .int .i64 k ∧ xe.take k = ye.take k ∧ Below Z0.heap.size Z0 wr) (fun i _ => n1 - (intOf i).toNat)
  case atStart => exact ⟨0, Nat.zero_le _, rfl, rfl, Below.refl _ _⟩
  case round =>
    obtain ⟨k, hk, rfl, hpre, hbel⟩ := hrel
    have HP := Lib.hid hpre
    have HBL := Lib.hid hbel
    clear hpre hbel
    have q8 : wr.cell? ⟨w.heap.size, 8, none⟩ = some (.slice ae n1 ce) := (HBL.out.cell (p := ⟨w.heap.size, 8, none⟩) (by have := HZ.out; show w.heap.size < Z0.heap.size; omega)).trans (HQ8.out)
    have p8 : wr.cell? ⟨w.heap.size + 1, 8, none⟩ = some (.slice be n1 de) := (HBL.out.cell (p := ⟨w.heap.size + 1, 8, none⟩) (by have := HZ.out; show w.heap.size + 1 < Z0.heap.size; omega)).trans (HP8.out)
    by_cases hlt : k < n1
    · obtain ⟨b1, o1, rfl, hb1, hca⟩ := RE.out (by have := HN1.out; omega)
      obtain ⟨b2, o2, rfl, hb2, hcb⟩ := RY1.out (by have := HM1.out; omega)
      obtain ⟨u, hu⟩ : ∃ u, xe[k]? = some u := ⟨_, List.getElem?_eq_getElem (by have := HN1.out; omega)⟩
      obtain ⟨v, hv⟩ : ∃ v, ye[k]? = some v := ⟨_, List.getElem?_eq_getElem (by have := HM1.out; omega)⟩
      have g0 : wr.cell? ⟨b1, o1 + k * 3, none⟩ = some _ := (HBL.out.cell (by have := HZ.out; show b1 < Z0.heap.size; omega)).trans ((HZB.out.cell hb1).trans (hca k u hu 0 _ rfl))
      have f0 : wr.cell? ⟨b2, o2 + k * 3, none⟩ = some _ := (HBL.out.cell (by have := HZ.out; show b2 < Z0.heap.size; omega)).trans ((HZB.out.cell hb2).trans (hcb k v hv 0 _ rfl))
      have g1 : wr.cell? ⟨b1, o1 + k * 3 + 1, none⟩ = some _ := (HBL.out.cell (by have := HZ.out; show b1 < Z0.heap.size; omega)).trans ((HZB.out.cell hb1).trans (hca k u hu 1 _ rfl))
      have f1 : wr.cell? ⟨b2, o2 + k * 3 + 1, none⟩ = some _ := (HBL.out.cell (by have := HZ.out; show b2 < Z0.heap.size; omega)).trans ((HZB.out.cell hb2).trans (hcb k v hv 1 _ rfl))
      have g2 : wr.cell? ⟨b1, o1 + k * 3 + 2, none⟩ = some _ := (HBL.out.cell (by have := HZ.out; show b1 < Z0.heap.size; omega)).trans ((HZB.out.cell hb1).trans (hca k u hu 2 _ rfl))
      have f2 : wr.cell? ⟨b2, o2 + k * 3 + 2, none⟩ = some _ := (HBL.out.cell (by have := HZ.out; show b2 < Z0.heap.size; omega)).trans ((HZB.out.cell hb2).trans (hcb k v hv 2 _ rfl))
      have HX := Lib.hid hu
      have HY := Lib.hid hv
      have k0 : (0 : Int) ≤ (k : Int) := Int.natCast_nonneg _
      have k1 : (k : Int) < (n1 : Int) := by omega
      clear hca hcb hu hv
      by_cases hxy : u = v
      · subst hxy
        have HS := Lib.hid (heads_next HP.out HX.out HY.out rfl)
        clear hlt
        go_wp2
        go_quiet (fail)
        go_wp2
        go_roundw
        case rel => exact ⟨k + 1, by omega, by go_num, HS.out, below_drewN HBL.out _⟩
        case measure => simp [intOf]; omega
      · have HXY := Lib.hid hxy
        clear hxy
        by_cases d_node : u.node = v.node
        rotate_left
        · clear hlt
          go_wp2
          go_quiet (fail)
          go_wp2
          go_ret
          exact ⟨false, rfl, by simp; exact fun h _ => list_ne HX.out HY.out HXY.out h, HZB.out.trans ((below_drewN HBL.out _).mono (by have := HZ.out; omega))⟩
        by_cases d_level : u.level = v.level
        rotate_left
        · clear hlt
          go_wp2
          go_quiet (fail)
          go_wp2
          go_ret
          exact ⟨false, rfl, by simp; exact fun h _ => list_ne HX.out HY.out HXY.out h, HZB.out.trans ((below_drewN HBL.out _).mono (by have := HZ.out; omega))⟩
        by_cases d_cost : u.cost = v.cost
        rotate_left
        · clear hlt
          go_wp2
          go_quiet (fail)
          go_wp2
          go_ret
          exact ⟨false, rfl, by simp; exact fun h _ => list_ne HX.out HY.out HXY.out h, HZB.out.trans ((below_drewN HBL.out _).mono (by have := HZ.out; omega))⟩
        exact absurd (edge_eq d_node d_level d_cost) HXY.out
    · have HE1 : RowKit.Hid (xe = ye) := by
        have hp := HP.out
        have h1 := HN1.out
        have h2 := HM1.out
        rw [List.take_of_length_le (by omega), List.take_of_length_le (by omega)] at hp
        exact hp
      go_wp2
      clear hlt hk q8 p8 HP
      go_loopw [6] (fun i wr => ∃ k : Nat, k ≤ n2 ∧ i = .int .i64 k ∧ xr.take k = yr.take k ∧ Below Z0.heap.size Z0 wr) (fun i _ => n2 - (intOf i).toNat)
      case atStart => exact ⟨0, Nat.zero_le _, rfl, rfl, HBL.out⟩
      case round =>
        obtain ⟨k, hk, rfl, hpre, hbel⟩ := hrel
        have HP := Lib.hid hpre
        have HBL := Lib.hid hbel
        clear hpre hbel
        have q8 : wr.cell? ⟨w.heap.size, 9, none⟩ = some (.slice ar n2 cr) := (HBL.out.cell (p := ⟨w.heap.size, 9, none⟩) (by have := HZ.out; show w.heap.size < Z0.heap.size; omega)).trans (HQ9.out)
        have p8 : wr.cell? ⟨w.heap.size + 1, 9, none⟩ = some (.slice br n2 dr) := (HBL.out.cell (p := ⟨w.heap.size + 1, 9, none⟩) (by have := HZ.out; show w.heap.size + 1 < Z0.heap.size; omega)).trans (HP9.out)
        by_cases hlt : k < n2
        · obtain ⟨b1, o1, rfl, hb1, hca⟩ := RR.out (by have := HN2.out; omega)
          obtain ⟨b2, o2, rfl, hb2, hcb⟩ := RY2.out (by have := HM2.out; omega)
          obtain ⟨u, hu⟩ : ∃ u, xr[k]? = some u := ⟨_, List.getElem?_eq_getElem (by have := HN2.out; omega)⟩
          obtain ⟨v, hv⟩ : ∃ v, yr[k]? = some v := ⟨_, List.getElem?_eq_getElem (by have := HM2.out; omega)⟩
          have g0 : wr.cell? ⟨b1, o1 + k * 3, none⟩ = some _ := (HBL.out.cell (by have := HZ.out; show b1 < Z0.heap.size; omega)).trans ((HZB.out.cell hb1).trans (hca k u hu 0 _ rfl))
          have f0 : wr.cell? ⟨b2, o2 + k * 3, none⟩ = some _ := (HBL.out.cell (by have := HZ.out; show b2 < Z0.heap.size; omega)).trans ((HZB.out.cell hb2).trans (hcb k v hv 0 _ rfl))
          have g1 : wr.cell? ⟨b1, o1 + k * 3 + 1, none⟩ = some _ := (HBL.out.cell (by have := HZ.out; show b1 < Z0.heap.size; omega)).trans ((HZB.out.cell hb1).trans (hca k u hu 1 _ rfl))
          have f1 : wr.cell? ⟨b2, o2 + k * 3 + 1, none⟩ = some _ := (HBL.out.cell (by have := HZ.out; show b2 < Z0.heap.size; omega)).trans ((HZB.out.cell hb2).trans (hcb k v hv 1 _ rfl))
          have g2 : wr.cell? ⟨b1, o1 + k * 3 + 2, none⟩ = some _ := (HBL.out.cell (by have := HZ.out; show b1 < Z0.heap.size; omega)).trans ((HZB.out.cell hb1).trans (hca k u hu 2 _ rfl))
          have f2 : wr.cell? ⟨b2, o2 + k * 3 + 2, none⟩ = some _ := (HBL.out.cell (by have := HZ.out; show b2 < Z0.heap.size; omega)).trans ((HZB.out.cell hb2).trans (hcb k v hv 2 _ rfl))
          have HX := Lib.hid hu
          have HY := Lib.hid hv
          have k0 : (0 : Int) ≤ (k : Int) := Int.natCast_nonneg _
          have k1 : (k : Int) < (n2 : Int) := by omega
          clear hca hcb hu hv
          by_cases hxy : u = v
          · subst hxy
            have HS := Lib.hid (heads_next HP.out HX.out HY.out rfl)
            clear hlt
            go_wp2
            go_quiet (fail)
            go_wp2
            go_roundw
            case rel => exact ⟨k + 1, by omega, by go_num, HS.out, below_drewN HBL.out _⟩
            case measure => simp [intOf]; omega
          · have HXY := Lib.hid hxy
            clear hxy
            by_cases d_net : u.net = v.net
            rotate_left
            · clear hlt
              go_wp2
              go_quiet (fail)
              go_wp2
              go_ret
              exact ⟨false, rfl, by simp; exact fun _ h => list_ne HX.out HY.out HXY.out h, HZB.out.trans ((below_drewN HBL.out _).mono (by have := HZ.out; omega))⟩
            by_cases d_bits : u.bits = v.bits
            rotate_left
            · clear hlt
              go_wp2
              go_quiet (fail)
              go_wp2
              go_ret
              exact ⟨false, rfl, by simp; exact fun _ h => list_ne HX.out HY.out HXY.out h, HZB.out.trans ((below_drewN HBL.out _).mono (by have := HZ.out; omega))⟩
            by_cases d_metric : u.metric = v.metric
            rotate_left
            · clear hlt
              go_wp2
              go_quiet (fail)
              go_wp2
              go_ret
              exact ⟨false, rfl, by simp; exact fun _ h => list_ne HX.out HY.out HXY.out h, HZB.out.trans ((below_drewN HBL.out _).mono (by have := HZ.out; omega))⟩
            exact absurd (reach_eq d_net d_bits d_metric) HXY.out
        · have HE2 : RowKit.Hid (xr = yr) := by
            have hp := HP.out
            have h1 := HN2.out
            have h2 := HM2.out
            rw [List.take_of_length_le (by omega), List.take_of_length_le (by omega)] at hp
            exact hp
          go_wp2
          clear hlt hk q8 p8 HP
          go_ret
          exact ⟨true, rfl, by simp; exact ⟨HE1.out, HE2.out⟩, HZB.out.trans (HBL.out.mono (by have := HZ.out; omega))⟩

end Go.Proofs.YthdlcpnmldhllaaDoor

/-
  SAME of two ties, of two packets.
-/
namespace Go.Proofs.YthdlcpnmldhllaaDoor
open Go.RowKit Go.Shelf
set_option linter.unusedVariables false

set_option maxRecDepth 100000 in
set_option maxHeartbeats 16000000 in
theorem sameTie_any (x y : TieT) (ae ar be br : Option Addr) (ce cr de dr : Nat) (hx1 : x.edges.length ≤ 140737488351232) (hx2 : x.reaches.length ≤ 140737488351232) (hy1 : y.edges.length ≤ 140737488351232) (hy2 : y.reaches.length ≤ 140737488351232) (w : World)
    (r1 : RdR 3 encEdge w.heap.size w ae x.edges) (r2 : RdR 3 encReach w.heap.size w ar x.reaches) (r3 : RdR 3 encEdge w.heap.size w be y.edges) (r4 : RdR 3 encReach w.heap.size w br y.reaches) :
    Calls Tryd.prog 23 #[.agg #[.int .i64 x.head.id.dir, .int .i64 x.head.id.orig, .int .i64 x.head.id.kind, .int .i64 x.head.id.nr, .int .i64 x.head.seq, .int .i64 x.head.life, .int .i64 x.level, .bool x.over, .slice ae x.edges.length ce, .slice ar x.reaches.length cr], .agg #[.int .i64 y.head.id.dir, .int .i64 y.head.id.orig, .int .i64 y.head.id.kind, .int .i64 y.head.id.nr, .int .i64 y.head.seq, .int .i64 y.head.life, .int .i64 y.level, .bool y.over, .slice be y.edges.length de, .slice br y.reaches.length dr]] w fun e w' => ∃ r, e = .returned (.bool r) ∧ (r = true ↔ x = y) ∧ Below w.heap.size w w' := by
  have R1 := Lib.hid r1
  have R2 := Lib.hid r2
  have R3 := Lib.hid r3
  have R4 := Lib.hid r4
  clear r1 r2 r3 r4
  by_cases e_head_id_dir : x.head.id.dir = y.head.id.dir
  rotate_left
  · have HNE := Lib.hid e_head_id_dir
    go_enter Tryd.func23, Tryd.ntmps23
    go_wp2
    go_ret
    exact ⟨false, rfl, by simp; intro h; exact HNE.out (by rw [h]), ((Below.refl _ _).alloc (Nat.le_refl _) _).alloc (by simp) _⟩
  by_cases e_head_id_orig : x.head.id.orig = y.head.id.orig
  rotate_left
  · have HNE := Lib.hid e_head_id_orig
    go_enter Tryd.func23, Tryd.ntmps23
    go_wp2
    go_ret
    exact ⟨false, rfl, by simp; intro h; exact HNE.out (by rw [h]), ((Below.refl _ _).alloc (Nat.le_refl _) _).alloc (by simp) _⟩
  by_cases e_head_id_kind : x.head.id.kind = y.head.id.kind
  rotate_left
  · have HNE := Lib.hid e_head_id_kind
    go_enter Tryd.func23, Tryd.ntmps23
    go_wp2
    go_ret
    exact ⟨false, rfl, by simp; intro h; exact HNE.out (by rw [h]), ((Below.refl _ _).alloc (Nat.le_refl _) _).alloc (by simp) _⟩
  by_cases e_head_id_nr : x.head.id.nr = y.head.id.nr
  rotate_left
  · have HNE := Lib.hid e_head_id_nr
    go_enter Tryd.func23, Tryd.ntmps23
    go_wp2
    go_ret
    exact ⟨false, rfl, by simp; intro h; exact HNE.out (by rw [h]), ((Below.refl _ _).alloc (Nat.le_refl _) _).alloc (by simp) _⟩
  by_cases e_head_seq : x.head.seq = y.head.seq
  rotate_left
  · have HNE := Lib.hid e_head_seq
    go_enter Tryd.func23, Tryd.ntmps23
    go_wp2
    go_ret
    exact ⟨false, rfl, by simp; intro h; exact HNE.out (by rw [h]), ((Below.refl _ _).alloc (Nat.le_refl _) _).alloc (by simp) _⟩
  by_cases e_head_life : x.head.life = y.head.life
  rotate_left
  · have HNE := Lib.hid e_head_life
    go_enter Tryd.func23, Tryd.ntmps23
    go_wp2
    go_ret
    exact ⟨false, rfl, by simp; intro h; exact HNE.out (by rw [h]), ((Below.refl _ _).alloc (Nat.le_refl _) _).alloc (by simp) _⟩
  by_cases e_level : x.level = y.level
  rotate_left
  · have HNE := Lib.hid e_level
    go_enter Tryd.func23, Tryd.ntmps23
    go_wp2
    go_ret
    exact ⟨false, rfl, by simp; intro h; exact HNE.out (by rw [h]), ((Below.refl _ _).alloc (Nat.le_refl _) _).alloc (by simp) _⟩
  by_cases e_over : x.over = y.over
  rotate_left
  · have HNE := Lib.hid e_over
    go_enter Tryd.func23, Tryd.ntmps23
    go_wp2
    go_ret
    exact ⟨false, rfl, by simp; intro h; exact HNE.out (by rw [h]), ((Below.refl _ _).alloc (Nat.le_refl _) _).alloc (by simp) _⟩
  by_cases l_edges : x.edges.length = y.edges.length
  rotate_left
  · have HNE := Lib.hid l_edges
    go_enter Tryd.func23, Tryd.ntmps23
    go_wp2
    go_ret
    exact ⟨false, rfl, by simp; intro h; exact HNE.out (by rw [h]), ((Below.refl _ _).alloc (Nat.le_refl _) _).alloc (by simp) _⟩
  by_cases l_reaches : x.reaches.length = y.reaches.length
  rotate_left
  · have HNE := Lib.hid l_reaches
    go_enter Tryd.func23, Tryd.ntmps23
    go_wp2
    go_ret
    exact ⟨false, rfl, by simp; intro h; exact HNE.out (by rw [h]), ((Below.refl _ _).alloc (Nat.le_refl _) _).alloc (by simp) _⟩
  obtain ⟨⟨⟨a, b, c, d⟩, e, f⟩, g, h, xe, xr⟩ := x
  obtain ⟨⟨⟨a', b', c', d'⟩, e', f'⟩, g', h', ye, yr⟩ := y
  simp only at e_head_id_dir e_head_id_orig e_head_id_kind e_head_id_nr e_head_seq e_head_life e_level e_over
  subst e_head_id_dir e_head_id_orig e_head_id_kind e_head_id_nr e_head_seq e_head_life e_level e_over
  refine (sameTie_eq ⟨⟨a, b, c, d⟩, e, f⟩ g h xe ye xr yr ae ar be br ce cr de dr hx1 hx2 w R1.out R2.out R3.out R4.out l_edges l_reaches).mono ?_
  rintro e0 w' ⟨r, rfl, hr, hb⟩
  exact ⟨r, rfl, by rw [hr]; simp, hb⟩

theorem same_false {p q : PackT} (h : ¬ p = q) : (false = true ↔ p = q) := by simp [h]
theorem pack_eq {p q : PackT} (h0 : p.kind = q.kind) (h1 : p.lie = q.lie) (h2 : p.tie = q.tie) (h3 : p.frm = q.frm) (h4 : p.to = q.to) (h5 : p.heads = q.heads) : p = q := by
  obtain ⟨a, b, c, d, e, f⟩ := p
  obtain ⟨a', b', c', d', e', f'⟩ := q
  simp only at h0 h1 h2 h3 h4 h5
  subst h0 h1 h2 h3 h4 h5
  rfl
set_option maxRecDepth 100000 in
set_option maxHeartbeats 16000000 in
theorem same3_tie (p q : PackT) (ae ar ah be br bh : Option Addr) (ce cr ch de dr dh : Nat) (w : World) (hp : Pk w.heap.size w p ae ar ah ce cr ch) (hq : Pk w.heap.size w q be br bh de dr dh) (hne : ¬ p.tie = q.tie) :
    Calls Tryd.prog 9 #[.agg #[.int .i64 p.kind, .int .i64 p.lie.node, .int .i64 p.lie.level, .int .i64 p.lie.pod, .int .i64 p.lie.mtu, .int .i64 p.lie.link, .int .i64 p.lie.nonce, .int .i64 p.lie.seen, .int .i64 p.lie.seenLink, .int .i64 p.lie.seenNonce, .int .i64 p.lie.hold, .bool p.lie.rep, .bool p.lie.noOffer, .int .i64 p.tie.head.id.dir, .int .i64 p.tie.head.id.orig, .int .i64 p.tie.head.id.kind, .int .i64 p.tie.head.id.nr, .int .i64 p.tie.head.seq, .int .i64 p.tie.head.life, .int .i64 p.tie.level, .bool p.tie.over, .slice ae p.tie.edges.length ce, .slice ar p.tie.reaches.length cr, .int .i64 p.frm.dir, .int .i64 p.frm.orig, .int .i64 p.frm.kind, .int .i64 p.frm.nr, .int .i64 p.to.dir, .int .i64 p.to.orig, .int .i64 p.to.kind, .int .i64 p.to.nr, .slice ah p.heads.length ch], .agg #[.int .i64 q.kind, .int .i64 q.lie.node, .int .i64 q.lie.level, .int .i64 q.lie.pod, .int .i64 q.lie.mtu, .int .i64 q.lie.link, .int .i64 q.lie.nonce, .int .i64 q.lie.seen, .int .i64 q.lie.seenLink, .int .i64 q.lie.seenNonce, .int .i64 q.lie.hold, .bool q.lie.rep, .bool q.lie.noOffer, .int .i64 q.tie.head.id.dir, .int .i64 q.tie.head.id.orig, .int .i64 q.tie.head.id.kind, .int .i64 q.tie.head.id.nr, .int .i64 q.tie.head.seq, .int .i64 q.tie.head.life, .int .i64 q.tie.level, .bool q.tie.over, .slice be q.tie.edges.length de, .slice br q.tie.reaches.length dr, .int .i64 q.frm.dir, .int .i64 q.frm.orig, .int .i64 q.frm.kind, .int .i64 q.frm.nr, .int .i64 q.to.dir, .int .i64 q.to.orig, .int .i64 q.to.kind, .int .i64 q.to.nr, .slice bh q.heads.length dh]] w fun e w' => ∃ r, e = .returned (.bool r) ∧ (r = true ↔ p = q) ∧ Below w.heap.size w w' := by
  have HB0 := Lib.hid (((Below.refl w.heap.size w).alloc (Nat.le_refl _) (.cells #[.int .i64 p.kind, .int .i64 p.lie.node, .int .i64 p.lie.level, .int .i64 p.lie.pod, .int .i64 p.lie.mtu, .int .i64 p.lie.link, .int .i64 p.lie.nonce, .int .i64 p.lie.seen, .int .i64 p.lie.seenLink, .int .i64 p.lie.seenNonce, .int .i64 p.lie.hold, .bool p.lie.rep, .bool p.lie.noOffer, .int .i64 p.tie.head.id.dir, .int .i64 p.tie.head.id.orig, .int .i64 p.tie.head.id.kind, .int .i64 p.tie.head.id.nr, .int .i64 p.tie.head.seq, .int .i64 p.tie.head.life, .int .i64 p.tie.level, .bool p.tie.over, .slice ae p.tie.edges.length ce, .slice ar p.tie.reaches.length cr, .int .i64 p.frm.dir, .int .i64 p.frm.orig, .int .i64 p.frm.kind, .int .i64 p.frm.nr, .int .i64 p.to.dir, .int .i64 p.to.orig, .int .i64 p.to.kind, .int .i64 p.to.nr, .slice ah p.heads.length ch] 34)).alloc (by simp) (.cells #[.int .i64 q.kind, .int .i64 q.lie.node, .int .i64 q.lie.level, .int .i64 q.lie.pod, .int .i64 q.lie.mtu, .int .i64 q.lie.link, .int .i64 q.lie.nonce, .int .i64 q.lie.seen, .int .i64 q.lie.seenLink, .int .i64 q.lie.seenNonce, .int .i64 q.lie.hold, .bool q.lie.rep, .bool q.lie.noOffer, .int .i64 q.tie.head.id.dir, .int .i64 q.tie.head.id.orig, .int .i64 q.tie.head.id.kind, .int .i64 q.tie.head.id.nr, .int .i64 q.tie.head.seq, .int .i64 q.tie.head.life, .int .i64 q.tie.level, .bool q.tie.over, .slice be q.tie.edges.length de, .slice br q.tie.reaches.length dr, .int .i64 q.frm.dir, .int .i64 q.frm.orig, .int .i64 q.frm.kind, .int .i64 q.frm.nr, .int .i64 q.to.dir, .int .i64 q.to.orig, .int .i64 q.to.kind, .int .i64 q.to.nr, .slice bh q.heads.length dh] 34))
  have ht := (sameTie_any p.tie q.tie ae ar be br ce cr de dr hp.le.1 hp.lr.1 hq.le.1 hq.lr.1 ((w.alloc (.cells #[.int .i64 p.kind, .int .i64 p.lie.node, .int .i64 p.lie.level, .int .i64 p.lie.pod, .int .i64 p.lie.mtu, .int .i64 p.lie.link, .int .i64 p.lie.nonce, .int .i64 p.lie.seen, .int .i64 p.lie.seenLink, .int .i64 p.lie.seenNonce, .int .i64 p.lie.hold, .bool p.lie.rep, .bool p.lie.noOffer, .int .i64 p.tie.head.id.dir, .int .i64 p.tie.head.id.orig, .int .i64 p.tie.head.id.kind, .int .i64 p.tie.head.id.nr, .int .i64 p.tie.head.seq, .int .i64 p.tie.head.life, .int .i64 p.tie.level, .bool p.tie.over, .slice ae p.tie.edges.length ce, .slice ar p.tie.reaches.length cr, .int .i64 p.frm.dir, .int .i64 p.frm.orig, .int .i64 p.frm.kind, .int .i64 p.frm.nr, .int .i64 p.to.dir, .int .i64 p.to.orig, .int .i64 p.to.kind, .int .i64 p.to.nr, .slice ah p.heads.length ch] 34)).alloc (.cells #[.int .i64 q.kind, .int .i64 q.lie.node, .int .i64 q.lie.level, .int .i64 q.lie.pod, .int .i64 q.lie.mtu, .int .i64 q.lie.link, .int .i64 q.lie.nonce, .int .i64 q.lie.seen, .int .i64 q.lie.seenLink, .int .i64 q.lie.seenNonce, .int .i64 q.lie.hold, .bool q.lie.rep, .bool q.lie.noOffer, .int .i64 q.tie.head.id.dir, .int .i64 q.tie.head.id.orig, .int .i64 q.tie.head.id.kind, .int .i64 q.tie.head.id.nr, .int .i64 q.tie.head.seq, .int .i64 q.tie.head.life, .int .i64 q.tie.level, .bool q.tie.over, .slice be q.tie.edges.length de, .slice br q.tie.reaches.length dr, .int .i64 q.frm.dir, .int .i64 q.frm.orig, .int .i64 q.frm.kind, .int .i64 q.frm.nr, .int .i64 q.to.dir, .int .i64 q.to.orig, .int .i64 q.to.kind, .int .i64 q.to.nr, .slice bh q.heads.length dh] 34)) ((hp.below HB0.out).mono HB0.out.size).re ((hp.below HB0.out).mono HB0.out.size).rr ((hq.below HB0.out).mono HB0.out.size).re ((hq.below HB0.out).mono HB0.out.size).rr).mono (R' := fun e w' => e = .returned (.bool false) ∧ Below ((w.alloc (.cells #[.int .i64 p.kind, .int .i64 p.lie.node, .int .i64 p.lie.level, .int .i64 p.lie.pod, .int .i64 p.lie.mtu, .int .i64 p.lie.link, .int .i64 p.lie.nonce, .int .i64 p.lie.seen, .int .i64 p.lie.seenLink, .int .i64 p.lie.seenNonce, .int .i64 p.lie.hold, .bool p.lie.rep, .bool p.lie.noOffer, .int .i64 p.tie.head.id.dir, .int .i64 p.tie.head.id.orig, .int .i64 p.tie.head.id.kind, .int .i64 p.tie.head.id.nr, .int .i64 p.tie.head.seq, .int .i64 p.tie.head.life, .int .i64 p.tie.level, .bool p.tie.over, .slice ae p.tie.edges.length ce, .slice ar p.tie.reaches.length cr, .int .i64 p.frm.dir, .int .i64 p.frm.orig, .int .i64 p.frm.kind, .int .i64 p.frm.nr, .int .i64 p.to.dir, .int .i64 p.to.orig, .int .i64 p.to.kind, .int .i64 p.to.nr, .slice ah p.heads.length ch] 34)).alloc (.cells #[.int .i64 q.kind, .int .i64 q.lie.node, .int .i64 q.lie.level, .int .i64 q.lie.pod, .int .i64 q.lie.mtu, .int .i64 q.lie.link, .int .i64 q.lie.nonce, .int .i64 q.lie.seen, .int .i64 q.lie.seenLink, .int .i64 q.lie.seenNonce, .int .i64 q.lie.hold, .bool q.lie.rep, .bool q.lie.noOffer, .int .i64 q.tie.head.id.dir, .int .i64 q.tie.head.id.orig, .int .i64 q.tie.head.id.kind, .int .i64 q.tie.head.id.nr, .int .i64 q.tie.head.seq, .int .i64 q.tie.head.life, .int .i64 q.tie.level, .bool q.tie.over, .slice be q.tie.edges.length de, .slice br q.tie.reaches.length dr, .int .i64 q.frm.dir, .int .i64 q.frm.orig, .int .i64 q.frm.kind, .int .i64 q.frm.nr, .int .i64 q.to.dir, .int .i64 q.to.orig, .int .i64 q.to.kind, .int .i64 q.to.nr, .slice bh q.heads.length dh] 34)).heap.size ((w.alloc (.cells #[.int .i64 p.kind, .int .i64 p.lie.node, .int .i64 p.lie.level, .int .i64 p.lie.pod, .int .i64 p.lie.mtu, .int .i64 p.lie.link, .int .i64 p.lie.nonce, .int .i64 p.lie.seen, .int .i64 p.lie.seenLink, .int .i64 p.lie.seenNonce, .int .i64 p.lie.hold, .bool p.lie.rep, .bool p.lie.noOffer, .int .i64 p.tie.head.id.dir, .int .i64 p.tie.head.id.orig, .int .i64 p.tie.head.id.kind, .int .i64 p.tie.head.id.nr, .int .i64 p.tie.head.seq, .int .i64 p.tie.head.life, .int .i64 p.tie.level, .bool p.tie.over, .slice ae p.tie.edges.length ce, .slice ar p.tie.reaches.length cr, .int .i64 p.frm.dir, .int .i64 p.frm.orig, .int .i64 p.frm.kind, .int .i64 p.frm.nr, .int .i64 p.to.dir, .int .i64 p.to.orig, .int .i64 p.to.kind, .int .i64 p.to.nr, .slice ah p.heads.length ch] 34)).alloc (.cells #[.int .i64 q.kind, .int .i64 q.lie.node, .int .i64 q.lie.level, .int .i64 q.lie.pod, .int .i64 q.lie.mtu, .int .i64 q.lie.link, .int .i64 q.lie.nonce, .int .i64 q.lie.seen, .int .i64 q.lie.seenLink, .int .i64 q.lie.seenNonce, .int .i64 q.lie.hold, .bool q.lie.rep, .bool q.lie.noOffer, .int .i64 q.tie.head.id.dir, .int .i64 q.tie.head.id.orig, .int .i64 q.tie.head.id.kind, .int .i64 q.tie.head.id.nr, .int .i64 q.tie.head.seq, .int .i64 q.tie.head.life, .int .i64 q.tie.level, .bool q.tie.over, .slice be q.tie.edges.length de, .slice br q.tie.reaches.length dr, .int .i64 q.frm.dir, .int .i64 q.frm.orig, .int .i64 q.frm.kind, .int .i64 q.frm.nr, .int .i64 q.to.dir, .int .i64 q.to.orig, .int .i64 q.to.kind, .int .i64 q.to.nr, .slice bh q.heads.length dh] 34)) w') (fun e w' h => by
    obtain ⟨r, rfl, hr, hb⟩ := h
    cases r
    · exact ⟨rfl, hb⟩
    · exact absurd (hr.1 rfl) hne)
  have HT := Lib.hid ht
  have HNE := Lib.hid hne
  clear hp hq ht hne
  go_enter Tryd.func9, Tryd.ntmps9
  go_wp2_with (first
    | (go_at_call 23; refine HT.out.mono ?_; rintro e w1 ⟨rfl, hb1⟩; have HB1 := Lib.hid (HB0.out.trans (hb1.mono (by simp; omega))); clear hb1))
  go_ret
  exact ⟨false, rfl, same_false (fun h => HNE.out (by rw [h])), HB1.out⟩
theorem lie_eq {x y : LieT} (e0 : x.node = y.node) (e1 : x.level = y.level) (e2 : x.pod = y.pod) (e3 : x.mtu = y.mtu) (e4 : x.link = y.link) (e5 : x.nonce = y.nonce) (e6 : x.seen = y.seen) (e7 : x.seenLink = y.seenLink) (e8 : x.seenNonce = y.seenNonce) (e9 : x.hold = y.hold) (e10 : x.rep = y.rep) (e11 : x.noOffer = y.noOffer) : x = y := by
  obtain ⟨a, b, c, d, e, f, g, h, i, j, k, l⟩ := x
  obtain ⟨a', b', c', d', e', f', g', h', i', j', k', l'⟩ := y
  simp only at e0 e1 e2 e3 e4 e5 e6 e7 e8 e9 e10 e11
  subst e0 e1 e2 e3 e4 e5 e6 e7 e8 e9 e10 e11
  rfl
theorem id_eq' {x y : IdT} (e0 : x.dir = y.dir) (e1 : x.orig = y.orig) (e2 : x.kind = y.kind) (e3 : x.nr = y.nr) : x = y := by
  obtain ⟨a, b, c, d⟩ := x
  obtain ⟨a', b', c', d'⟩ := y
  simp only at e0 e1 e2 e3
  subst e0 e1 e2 e3
  rfl
set_option maxRecDepth 100000 in
set_option maxHeartbeats 16000000 in
theorem same3_yes (p q : PackT) (ae ar ah be br bh : Option Addr) (ce cr ch de dr dh : Nat) (w : World) (hp : Pk w.heap.size w p ae ar ah ce cr ch) (hq : Pk w.heap.size w q be br bh de dr dh) (hte : p.tie = q.tie) (b : Bool) (hb : b = true ↔ p.heads = q.heads) :
    Calls Tryd.prog 9 #[.agg #[.int .i64 p.kind, .int .i64 p.lie.node, .int .i64 p.lie.level, .int .i64 p.lie.pod, .int .i64 p.lie.mtu, .int .i64 p.lie.link, .int .i64 p.lie.nonce, .int .i64 p.lie.seen, .int .i64 p.lie.seenLink, .int .i64 p.lie.seenNonce, .int .i64 p.lie.hold, .bool p.lie.rep, .bool p.lie.noOffer, .int .i64 p.tie.head.id.dir, .int .i64 p.tie.head.id.orig, .int .i64 p.tie.head.id.kind, .int .i64 p.tie.head.id.nr, .int .i64 p.tie.head.seq, .int .i64 p.tie.head.life, .int .i64 p.tie.level, .bool p.tie.over, .slice ae p.tie.edges.length ce, .slice ar p.tie.reaches.length cr, .int .i64 p.frm.dir, .int .i64 p.frm.orig, .int .i64 p.frm.kind, .int .i64 p.frm.nr, .int .i64 p.to.dir, .int .i64 p.to.orig, .int .i64 p.to.kind, .int .i64 p.to.nr, .slice ah p.heads.length ch], .agg #[.int .i64 q.kind, .int .i64 q.lie.node, .int .i64 q.lie.level, .int .i64 q.lie.pod, .int .i64 q.lie.mtu, .int .i64 q.lie.link, .int .i64 q.lie.nonce, .int .i64 q.lie.seen, .int .i64 q.lie.seenLink, .int .i64 q.lie.seenNonce, .int .i64 q.lie.hold, .bool q.lie.rep, .bool q.lie.noOffer, .int .i64 q.tie.head.id.dir, .int .i64 q.tie.head.id.orig, .int .i64 q.tie.head.id.kind, .int .i64 q.tie.head.id.nr, .int .i64 q.tie.head.seq, .int .i64 q.tie.head.life, .int .i64 q.tie.level, .bool q.tie.over, .slice be q.tie.edges.length de, .slice br q.tie.reaches.length dr, .int .i64 q.frm.dir, .int .i64 q.frm.orig, .int .i64 q.frm.kind, .int .i64 q.frm.nr, .int .i64 q.to.dir, .int .i64 q.to.orig, .int .i64 q.to.kind, .int .i64 q.to.nr, .slice bh q.heads.length dh]] w fun e w' => ∃ r, e = .returned (.bool r) ∧ (r = true ↔ p = q) ∧ Below w.heap.size w w' := by
  have HB0 := Lib.hid (((Below.refl w.heap.size w).alloc (Nat.le_refl _) (.cells #[.int .i64 p.kind, .int .i64 p.lie.node, .int .i64 p.lie.level, .int .i64 p.lie.pod, .int .i64 p.lie.mtu, .int .i64 p.lie.link, .int .i64 p.lie.nonce, .int .i64 p.lie.seen, .int .i64 p.lie.seenLink, .int .i64 p.lie.seenNonce, .int .i64 p.lie.hold, .bool p.lie.rep, .bool p.lie.noOffer, .int .i64 p.tie.head.id.dir, .int .i64 p.tie.head.id.orig, .int .i64 p.tie.head.id.kind, .int .i64 p.tie.head.id.nr, .int .i64 p.tie.head.seq, .int .i64 p.tie.head.life, .int .i64 p.tie.level, .bool p.tie.over, .slice ae p.tie.edges.length ce, .slice ar p.tie.reaches.length cr, .int .i64 p.frm.dir, .int .i64 p.frm.orig, .int .i64 p.frm.kind, .int .i64 p.frm.nr, .int .i64 p.to.dir, .int .i64 p.to.orig, .int .i64 p.to.kind, .int .i64 p.to.nr, .slice ah p.heads.length ch] 34)).alloc (by simp) (.cells #[.int .i64 q.kind, .int .i64 q.lie.node, .int .i64 q.lie.level, .int .i64 q.lie.pod, .int .i64 q.lie.mtu, .int .i64 q.lie.link, .int .i64 q.lie.nonce, .int .i64 q.lie.seen, .int .i64 q.lie.seenLink, .int .i64 q.lie.seenNonce, .int .i64 q.lie.hold, .bool q.lie.rep, .bool q.lie.noOffer, .int .i64 q.tie.head.id.dir, .int .i64 q.tie.head.id.orig, .int .i64 q.tie.head.id.kind, .int .i64 q.tie.head.id.nr, .int .i64 q.tie.head.seq, .int .i64 q.tie.head.life, .int .i64 q.tie.level, .bool q.tie.over, .slice be q.tie.edges.length de, .slice br q.tie.reaches.length dr, .int .i64 q.frm.dir, .int .i64 q.frm.orig, .int .i64 q.frm.kind, .int .i64 q.frm.nr, .int .i64 q.to.dir, .int .i64 q.to.orig, .int .i64 q.to.kind, .int .i64 q.to.nr, .slice bh q.heads.length dh] 34))
  have ht := (sameTie_any p.tie q.tie ae ar be br ce cr de dr hp.le.1 hp.lr.1 hq.le.1 hq.lr.1 ((w.alloc (.cells #[.int .i64 p.kind, .int .i64 p.lie.node, .int .i64 p.lie.level, .int .i64 p.lie.pod, .int .i64 p.lie.mtu, .int .i64 p.lie.link, .int .i64 p.lie.nonce, .int .i64 p.lie.seen, .int .i64 p.lie.seenLink, .int .i64 p.lie.seenNonce, .int .i64 p.lie.hold, .bool p.lie.rep, .bool p.lie.noOffer, .int .i64 p.tie.head.id.dir, .int .i64 p.tie.head.id.orig, .int .i64 p.tie.head.id.kind, .int .i64 p.tie.head.id.nr, .int .i64 p.tie.head.seq, .int .i64 p.tie.head.life, .int .i64 p.tie.level, .bool p.tie.over, .slice ae p.tie.edges.length ce, .slice ar p.tie.reaches.length cr, .int .i64 p.frm.dir, .int .i64 p.frm.orig, .int .i64 p.frm.kind, .int .i64 p.frm.nr, .int .i64 p.to.dir, .int .i64 p.to.orig, .int .i64 p.to.kind, .int .i64 p.to.nr, .slice ah p.heads.length ch] 34)).alloc (.cells #[.int .i64 q.kind, .int .i64 q.lie.node, .int .i64 q.lie.level, .int .i64 q.lie.pod, .int .i64 q.lie.mtu, .int .i64 q.lie.link, .int .i64 q.lie.nonce, .int .i64 q.lie.seen, .int .i64 q.lie.seenLink, .int .i64 q.lie.seenNonce, .int .i64 q.lie.hold, .bool q.lie.rep, .bool q.lie.noOffer, .int .i64 q.tie.head.id.dir, .int .i64 q.tie.head.id.orig, .int .i64 q.tie.head.id.kind, .int .i64 q.tie.head.id.nr, .int .i64 q.tie.head.seq, .int .i64 q.tie.head.life, .int .i64 q.tie.level, .bool q.tie.over, .slice be q.tie.edges.length de, .slice br q.tie.reaches.length dr, .int .i64 q.frm.dir, .int .i64 q.frm.orig, .int .i64 q.frm.kind, .int .i64 q.frm.nr, .int .i64 q.to.dir, .int .i64 q.to.orig, .int .i64 q.to.kind, .int .i64 q.to.nr, .slice bh q.heads.length dh] 34)) ((hp.below HB0.out).mono HB0.out.size).re ((hp.below HB0.out).mono HB0.out.size).rr ((hq.below HB0.out).mono HB0.out.size).re ((hq.below HB0.out).mono HB0.out.size).rr).mono (R' := fun e w' => e = .returned (.bool true) ∧ Below ((w.alloc (.cells #[.int .i64 p.kind, .int .i64 p.lie.node, .int .i64 p.lie.level, .int .i64 p.lie.pod, .int .i64 p.lie.mtu, .int .i64 p.lie.link, .int .i64 p.lie.nonce, .int .i64 p.lie.seen, .int .i64 p.lie.seenLink, .int .i64 p.lie.seenNonce, .int .i64 p.lie.hold, .bool p.lie.rep, .bool p.lie.noOffer, .int .i64 p.tie.head.id.dir, .int .i64 p.tie.head.id.orig, .int .i64 p.tie.head.id.kind, .int .i64 p.tie.head.id.nr, .int .i64 p.tie.head.seq, .int .i64 p.tie.head.life, .int .i64 p.tie.level, .bool p.tie.over, .slice ae p.tie.edges.length ce, .slice ar p.tie.reaches.length cr, .int .i64 p.frm.dir, .int .i64 p.frm.orig, .int .i64 p.frm.kind, .int .i64 p.frm.nr, .int .i64 p.to.dir, .int .i64 p.to.orig, .int .i64 p.to.kind, .int .i64 p.to.nr, .slice ah p.heads.length ch] 34)).alloc (.cells #[.int .i64 q.kind, .int .i64 q.lie.node, .int .i64 q.lie.level, .int .i64 q.lie.pod, .int .i64 q.lie.mtu, .int .i64 q.lie.link, .int .i64 q.lie.nonce, .int .i64 q.lie.seen, .int .i64 q.lie.seenLink, .int .i64 q.lie.seenNonce, .int .i64 q.lie.hold, .bool q.lie.rep, .bool q.lie.noOffer, .int .i64 q.tie.head.id.dir, .int .i64 q.tie.head.id.orig, .int .i64 q.tie.head.id.kind, .int .i64 q.tie.head.id.nr, .int .i64 q.tie.head.seq, .int .i64 q.tie.head.life, .int .i64 q.tie.level, .bool q.tie.over, .slice be q.tie.edges.length de, .slice br q.tie.reaches.length dr, .int .i64 q.frm.dir, .int .i64 q.frm.orig, .int .i64 q.frm.kind, .int .i64 q.frm.nr, .int .i64 q.to.dir, .int .i64 q.to.orig, .int .i64 q.to.kind, .int .i64 q.to.nr, .slice bh q.heads.length dh] 34)).heap.size ((w.alloc (.cells #[.int .i64 p.kind, .int .i64 p.lie.node, .int .i64 p.lie.level, .int .i64 p.lie.pod, .int .i64 p.lie.mtu, .int .i64 p.lie.link, .int .i64 p.lie.nonce, .int .i64 p.lie.seen, .int .i64 p.lie.seenLink, .int .i64 p.lie.seenNonce, .int .i64 p.lie.hold, .bool p.lie.rep, .bool p.lie.noOffer, .int .i64 p.tie.head.id.dir, .int .i64 p.tie.head.id.orig, .int .i64 p.tie.head.id.kind, .int .i64 p.tie.head.id.nr, .int .i64 p.tie.head.seq, .int .i64 p.tie.head.life, .int .i64 p.tie.level, .bool p.tie.over, .slice ae p.tie.edges.length ce, .slice ar p.tie.reaches.length cr, .int .i64 p.frm.dir, .int .i64 p.frm.orig, .int .i64 p.frm.kind, .int .i64 p.frm.nr, .int .i64 p.to.dir, .int .i64 p.to.orig, .int .i64 p.to.kind, .int .i64 p.to.nr, .slice ah p.heads.length ch] 34)).alloc (.cells #[.int .i64 q.kind, .int .i64 q.lie.node, .int .i64 q.lie.level, .int .i64 q.lie.pod, .int .i64 q.lie.mtu, .int .i64 q.lie.link, .int .i64 q.lie.nonce, .int .i64 q.lie.seen, .int .i64 q.lie.seenLink, .int .i64 q.lie.seenNonce, .int .i64 q.lie.hold, .bool q.lie.rep, .bool q.lie.noOffer, .int .i64 q.tie.head.id.dir, .int .i64 q.tie.head.id.orig, .int .i64 q.tie.head.id.kind, .int .i64 q.tie.head.id.nr, .int .i64 q.tie.head.seq, .int .i64 q.tie.head.life, .int .i64 q.tie.level, .bool q.tie.over, .slice be q.tie.edges.length de, .slice br q.tie.reaches.length dr, .int .i64 q.frm.dir, .int .i64 q.frm.orig, .int .i64 q.frm.kind, .int .i64 q.frm.nr, .int .i64 q.to.dir, .int .i64 q.to.orig, .int .i64 q.to.kind, .int .i64 q.to.nr, .slice bh q.heads.length dh] 34)) w') (fun e w' h => by
    obtain ⟨r, rfl, hr, hb⟩ := h
    cases r
    · exact absurd (hr.2 hte) (by simp)
    · exact ⟨rfl, hb⟩)
  have hh : ∀ W, Below w.heap.size w W → Calls Tryd.prog 24 #[.slice ah p.heads.length ch, .slice bh q.heads.length dh] W fun e w' => e = .returned (.bool b) ∧ Below W.heap.size W w' := fun W hW => by
    refine (sameHeads_any ah bh ch dh p.heads q.heads hp.lh.1 hq.lh.1 W ((hp.below hW).mono hW.size).rh ((hq.below hW).mono hW.size).rh).mono ?_
    rintro e w' ⟨r, rfl, hr, hb'⟩
    exact ⟨by rw [show r = b from by rw [Bool.eq_iff_iff, hr, hb]], hb'⟩
  have A1 := Lib.hid ((At.new w.heap.size w (Nat.le_refl _) [.int .i64 p.kind, .int .i64 p.lie.node, .int .i64 p.lie.level, .int .i64 p.lie.pod, .int .i64 p.lie.mtu, .int .i64 p.lie.link, .int .i64 p.lie.nonce, .int .i64 p.lie.seen, .int .i64 p.lie.seenLink, .int .i64 p.lie.seenNonce, .int .i64 p.lie.hold, .bool p.lie.rep, .bool p.lie.noOffer, .int .i64 p.tie.head.id.dir, .int .i64 p.tie.head.id.orig, .int .i64 p.tie.head.id.kind, .int .i64 p.tie.head.id.nr, .int .i64 p.tie.head.seq, .int .i64 p.tie.head.life, .int .i64 p.tie.level, .bool p.tie.over, .slice ae p.tie.edges.length ce, .slice ar p.tie.reaches.length cr, .int .i64 p.frm.dir, .int .i64 p.frm.orig, .int .i64 p.frm.kind, .int .i64 p.frm.nr, .int .i64 p.to.dir, .int .i64 p.to.orig, .int .i64 p.to.kind, .int .i64 p.to.nr, .slice ah p.heads.length ch] 34 rfl).alloc (by simp) (.cells #[.int .i64 q.kind, .int .i64 q.lie.node, .int .i64 q.lie.level, .int .i64 q.lie.pod, .int .i64 q.lie.mtu, .int .i64 q.lie.link, .int .i64 q.lie.nonce, .int .i64 q.lie.seen, .int .i64 q.lie.seenLink, .int .i64 q.lie.seenNonce, .int .i64 q.lie.hold, .bool q.lie.rep, .bool q.lie.noOffer, .int .i64 q.tie.head.id.dir, .int .i64 q.tie.head.id.orig, .int .i64 q.tie.head.id.kind, .int .i64 q.tie.head.id.nr, .int .i64 q.tie.head.seq, .int .i64 q.tie.head.life, .int .i64 q.tie.level, .bool q.tie.over, .slice be q.tie.edges.length de, .slice br q.tie.reaches.length dr, .int .i64 q.frm.dir, .int .i64 q.frm.orig, .int .i64 q.frm.kind, .int .i64 q.frm.nr, .int .i64 q.to.dir, .int .i64 q.to.orig, .int .i64 q.to.kind, .int .i64 q.to.nr, .slice bh q.heads.length dh] 34))
  have a2 := At.new w.heap.size (w.alloc (.cells #[.int .i64 p.kind, .int .i64 p.lie.node, .int .i64 p.lie.level, .int .i64 p.lie.pod, .int .i64 p.lie.mtu, .int .i64 p.lie.link, .int .i64 p.lie.nonce, .int .i64 p.lie.seen, .int .i64 p.lie.seenLink, .int .i64 p.lie.seenNonce, .int .i64 p.lie.hold, .bool p.lie.rep, .bool p.lie.noOffer, .int .i64 p.tie.head.id.dir, .int .i64 p.tie.head.id.orig, .int .i64 p.tie.head.id.kind, .int .i64 p.tie.head.id.nr, .int .i64 p.tie.head.seq, .int .i64 p.tie.head.life, .int .i64 p.tie.level, .bool p.tie.over, .slice ae p.tie.edges.length ce, .slice ar p.tie.reaches.length cr, .int .i64 p.frm.dir, .int .i64 p.frm.orig, .int .i64 p.frm.kind, .int .i64 p.frm.nr, .int .i64 p.to.dir, .int .i64 p.to.orig, .int .i64 p.to.kind, .int .i64 p.to.nr, .slice ah p.heads.length ch] 34)) (by simp) [.int .i64 q.kind, .int .i64 q.lie.node, .int .i64 q.lie.level, .int .i64 q.lie.pod, .int .i64 q.lie.mtu, .int .i64 q.lie.link, .int .i64 q.lie.nonce, .int .i64 q.lie.seen, .int .i64 q.lie.seenLink, .int .i64 q.lie.seenNonce, .int .i64 q.lie.hold, .bool q.lie.rep, .bool q.lie.noOffer, .int .i64 q.tie.head.id.dir, .int .i64 q.tie.head.id.orig, .int .i64 q.tie.head.id.kind, .int .i64 q.tie.head.id.nr, .int .i64 q.tie.head.seq, .int .i64 q.tie.head.life, .int .i64 q.tie.level, .bool q.tie.over, .slice be q.tie.edges.length de, .slice br q.tie.reaches.length dr, .int .i64 q.frm.dir, .int .i64 q.frm.orig, .int .i64 q.frm.kind, .int .i64 q.frm.nr, .int .i64 q.to.dir, .int .i64 q.to.orig, .int .i64 q.to.kind, .int .i64 q.to.nr, .slice bh q.heads.length dh] 34 rfl
  rw [show (w.alloc (.cells #[.int .i64 p.kind, .int .i64 p.lie.node, .int .i64 p.lie.level, .int .i64 p.lie.pod, .int .i64 p.lie.mtu, .int .i64 p.lie.link, .int .i64 p.lie.nonce, .int .i64 p.lie.seen, .int .i64 p.lie.seenLink, .int .i64 p.lie.seenNonce, .int .i64 p.lie.hold, .bool p.lie.rep, .bool p.lie.noOffer, .int .i64 p.tie.head.id.dir, .int .i64 p.tie.head.id.orig, .int .i64 p.tie.head.id.kind, .int .i64 p.tie.head.id.nr, .int .i64 p.tie.head.seq, .int .i64 p.tie.head.life, .int .i64 p.tie.level, .bool p.tie.over, .slice ae p.tie.edges.length ce, .slice ar p.tie.reaches.length cr, .int .i64 p.frm.dir, .int .i64 p.frm.orig, .int .i64 p.frm.kind, .int .i64 p.frm.nr, .int .i64 p.to.dir, .int .i64 p.to.orig, .int .i64 p.to.kind, .int .i64 p.to.nr, .slice ah p.heads.length ch] 34)).heap.size = w.heap.size + 1 from by simp] at a2
  have A2 := Lib.hid a2
  have HT := Lib.hid ht
  have HH := Lib.hid hh
  have HTE := Lib.hid hte
  have HBB := Lib.hid hb
  clear hp hq ht hh hte a2 hb
  cases b
  all_goals
    go_enter Tryd.func9, Tryd.ntmps9
    go_wp2_with (first
      | (go_at_call 23; refine HT.out.mono ?_; rintro e w1 ⟨rfl, hb1⟩; have p0 : w1.cell? ⟨w.heap.size, 0, none⟩ = some _ := (hb1.cell (p := ⟨w.heap.size, 0, none⟩) (by simp <;> omega)).trans (A1.out.cellZ 0 rfl); have q0 : w1.cell? ⟨w.heap.size + 1, 0, none⟩ = some _ := (hb1.cell (p := ⟨w.heap.size + 1, 0, none⟩) (by simp <;> omega)).trans (A2.out.cellZ 0 rfl); have p1 : w1.cell? ⟨w.heap.size, 1, none⟩ = some _ := (hb1.cell (p := ⟨w.heap.size, 1, none⟩) (by simp <;> omega)).trans (A1.out.cellZ 1 rfl); have q1 : w1.cell? ⟨w.heap.size + 1, 1, none⟩ = some _ := (hb1.cell (p := ⟨w.heap.size + 1, 1, none⟩) (by simp <;> omega)).trans (A2.out.cellZ 1 rfl); have p2 : w1.cell? ⟨w.heap.size, 2, none⟩ = some _ := (hb1.cell (p := ⟨w.heap.size, 2, none⟩) (by simp <;> omega)).trans (A1.out.cellZ 2 rfl); have q2 : w1.cell? ⟨w.heap.size + 1, 2, none⟩ = some _ := (hb1.cell (p := ⟨w.heap.size + 1, 2, none⟩) (by simp <;> omega)).trans (A2.out.cellZ 2 rfl); have p3 : w1.cell? ⟨w.heap.size, 3, none⟩ = some _ := (hb1.cell (p := ⟨w.heap.size, 3, none⟩) (by simp <;> omega)).trans (A1.out.cellZ 3 rfl); have q3 : w1.cell? ⟨w.heap.size + 1, 3, none⟩ = some _ := (hb1.cell (p := ⟨w.heap.size + 1, 3, none⟩) (by simp <;> omega)).trans (A2.out.cellZ 3 rfl); have p4 : w1.cell? ⟨w.heap.size, 4, none⟩ = some _ := (hb1.cell (p := ⟨w.heap.size, 4, none⟩) (by simp <;> omega)).trans (A1.out.cellZ 4 rfl); have q4 : w1.cell? ⟨w.heap.size + 1, 4, none⟩ = some _ := (hb1.cell (p := ⟨w.heap.size + 1, 4, none⟩) (by simp <;> omega)).trans (A2.out.cellZ 4 rfl); have p5 : w1.cell? ⟨w.heap.size, 5, none⟩ = some _ := (hb1.cell (p := ⟨w.heap.size, 5, none⟩) (by simp <;> omega)).trans (A1.out.cellZ 5 rfl); have q5 : w1.cell? ⟨w.heap.size + 1, 5, none⟩ = some _ := (hb1.cell (p := ⟨w.heap.size + 1, 5, none⟩) (by simp <;> omega)).trans (A2.out.cellZ 5 rfl); have p6 : w1.cell? ⟨w.heap.size, 6, none⟩ = some _ := (hb1.cell (p := ⟨w.heap.size, 6, none⟩) (by simp <;> omega)).trans (A1.out.cellZ 6 rfl); have q6 : w1.cell? ⟨w.heap.size + 1, 6, none⟩ = some _ := (hb1.cell (p := ⟨w.heap.size + 1, 6, none⟩) (by simp <;> omega)).trans (A2.out.cellZ 6 rfl); have p7 : w1.cell? ⟨w.heap.size, 7, none⟩ = some _ := (hb1.cell (p := ⟨w.heap.size, 7, none⟩) (by simp <;> omega)).trans (A1.out.cellZ 7 rfl); have q7 : w1.cell? ⟨w.heap.size + 1, 7, none⟩ = some _ := (hb1.cell (p := ⟨w.heap.size + 1, 7, none⟩) (by simp <;> omega)).trans (A2.out.cellZ 7 rfl); have p8 : w1.cell? ⟨w.heap.size, 8, none⟩ = some _ := (hb1.cell (p := ⟨w.heap.size, 8, none⟩) (by simp <;> omega)).trans (A1.out.cellZ 8 rfl); have q8 : w1.cell? ⟨w.heap.size + 1, 8, none⟩ = some _ := (hb1.cell (p := ⟨w.heap.size + 1, 8, none⟩) (by simp <;> omega)).trans (A2.out.cellZ 8 rfl); have p9 : w1.cell? ⟨w.heap.size, 9, none⟩ = some _ := (hb1.cell (p := ⟨w.heap.size, 9, none⟩) (by simp <;> omega)).trans (A1.out.cellZ 9 rfl); have q9 : w1.cell? ⟨w.heap.size + 1, 9, none⟩ = some _ := (hb1.cell (p := ⟨w.heap.size + 1, 9, none⟩) (by simp <;> omega)).trans (A2.out.cellZ 9 rfl); have p10 : w1.cell? ⟨w.heap.size, 10, none⟩ = some _ := (hb1.cell (p := ⟨w.heap.size, 10, none⟩) (by simp <;> omega)).trans (A1.out.cellZ 10 rfl); have q10 : w1.cell? ⟨w.heap.size + 1, 10, none⟩ = some _ := (hb1.cell (p := ⟨w.heap.size + 1, 10, none⟩) (by simp <;> omega)).trans (A2.out.cellZ 10 rfl); have p11 : w1.cell? ⟨w.heap.size, 11, none⟩ = some _ := (hb1.cell (p := ⟨w.heap.size, 11, none⟩) (by simp <;> omega)).trans (A1.out.cellZ 11 rfl); have q11 : w1.cell? ⟨w.heap.size + 1, 11, none⟩ = some _ := (hb1.cell (p := ⟨w.heap.size + 1, 11, none⟩) (by simp <;> omega)).trans (A2.out.cellZ 11 rfl); have p12 : w1.cell? ⟨w.heap.size, 12, none⟩ = some _ := (hb1.cell (p := ⟨w.heap.size, 12, none⟩) (by simp <;> omega)).trans (A1.out.cellZ 12 rfl); have q12 : w1.cell? ⟨w.heap.size + 1, 12, none⟩ = some _ := (hb1.cell (p := ⟨w.heap.size + 1, 12, none⟩) (by simp <;> omega)).trans (A2.out.cellZ 12 rfl); have p23 : w1.cell? ⟨w.heap.size, 23, none⟩ = some _ := (hb1.cell (p := ⟨w.heap.size, 23, none⟩) (by simp <;> omega)).trans (A1.out.cellZ 23 rfl); have q23 : w1.cell? ⟨w.heap.size + 1, 23, none⟩ = some _ := (hb1.cell (p := ⟨w.heap.size + 1, 23, none⟩) (by simp <;> omega)).trans (A2.out.cellZ 23 rfl); have p24 : w1.cell? ⟨w.heap.size, 24, none⟩ = some _ := (hb1.cell (p := ⟨w.heap.size, 24, none⟩) (by simp <;> omega)).trans (A1.out.cellZ 24 rfl); have q24 : w1.cell? ⟨w.heap.size + 1, 24, none⟩ = some _ := (hb1.cell (p := ⟨w.heap.size + 1, 24, none⟩) (by simp <;> omega)).trans (A2.out.cellZ 24 rfl); have p25 : w1.cell? ⟨w.heap.size, 25, none⟩ = some _ := (hb1.cell (p := ⟨w.heap.size, 25, none⟩) (by simp <;> omega)).trans (A1.out.cellZ 25 rfl); have q25 : w1.cell? ⟨w.heap.size + 1, 25, none⟩ = some _ := (hb1.cell (p := ⟨w.heap.size + 1, 25, none⟩) (by simp <;> omega)).trans (A2.out.cellZ 25 rfl); have p26 : w1.cell? ⟨w.heap.size, 26, none⟩ = some _ := (hb1.cell (p := ⟨w.heap.size, 26, none⟩) (by simp <;> omega)).trans (A1.out.cellZ 26 rfl); have q26 : w1.cell? ⟨w.heap.size + 1, 26, none⟩ = some _ := (hb1.cell (p := ⟨w.heap.size + 1, 26, none⟩) (by simp <;> omega)).trans (A2.out.cellZ 26 rfl); have p27 : w1.cell? ⟨w.heap.size, 27, none⟩ = some _ := (hb1.cell (p := ⟨w.heap.size, 27, none⟩) (by simp <;> omega)).trans (A1.out.cellZ 27 rfl); have q27 : w1.cell? ⟨w.heap.size + 1, 27, none⟩ = some _ := (hb1.cell (p := ⟨w.heap.size + 1, 27, none⟩) (by simp <;> omega)).trans (A2.out.cellZ 27 rfl); have p28 : w1.cell? ⟨w.heap.size, 28, none⟩ = some _ := (hb1.cell (p := ⟨w.heap.size, 28, none⟩) (by simp <;> omega)).trans (A1.out.cellZ 28 rfl); have q28 : w1.cell? ⟨w.heap.size + 1, 28, none⟩ = some _ := (hb1.cell (p := ⟨w.heap.size + 1, 28, none⟩) (by simp <;> omega)).trans (A2.out.cellZ 28 rfl); have p29 : w1.cell? ⟨w.heap.size, 29, none⟩ = some _ := (hb1.cell (p := ⟨w.heap.size, 29, none⟩) (by simp <;> omega)).trans (A1.out.cellZ 29 rfl); have q29 : w1.cell? ⟨w.heap.size + 1, 29, none⟩ = some _ := (hb1.cell (p := ⟨w.heap.size + 1, 29, none⟩) (by simp <;> omega)).trans (A2.out.cellZ 29 rfl); have p30 : w1.cell? ⟨w.heap.size, 30, none⟩ = some _ := (hb1.cell (p := ⟨w.heap.size, 30, none⟩) (by simp <;> omega)).trans (A1.out.cellZ 30 rfl); have q30 : w1.cell? ⟨w.heap.size + 1, 30, none⟩ = some _ := (hb1.cell (p := ⟨w.heap.size + 1, 30, none⟩) (by simp <;> omega)).trans (A2.out.cellZ 30 rfl); have p31 : w1.cell? ⟨w.heap.size, 31, none⟩ = some _ := (hb1.cell (p := ⟨w.heap.size, 31, none⟩) (by simp <;> omega)).trans (A1.out.cellZ 31 rfl); have q31 : w1.cell? ⟨w.heap.size + 1, 31, none⟩ = some _ := (hb1.cell (p := ⟨w.heap.size + 1, 31, none⟩) (by simp <;> omega)).trans (A2.out.cellZ 31 rfl); have HB1 := Lib.hid (HB0.out.trans (hb1.mono (by simp; omega))); clear hb1)
      | (go_at_call 24; refine (HH.out _ HB1.out).mono ?_; rintro e w2 ⟨rfl, hb2⟩; have HB2 := Lib.hid (HB1.out.trans (hb2.mono HB1.out.size)); clear hb2))
    all_goals go_ret
    all_goals first
      | exact ⟨_, rfl, by simp; exact pack_eq (by assumption) (lie_eq (by assumption) (by assumption) (by assumption) (by assumption) (by assumption) (by assumption) (by assumption) (by assumption) (by assumption) (by assumption) (by assumption) (by assumption)) HTE.out (id_eq' (by assumption) (by assumption) (by assumption) (by assumption)) (id_eq' (by assumption) (by assumption) (by assumption) (by assumption)) (HBB.out.1 (by simp)), HB2.out⟩
      | exact ⟨_, rfl, same_false (by intro h; have := HBB.out.2 (by rw [h]); cases this), HB2.out⟩
      | exact ⟨_, rfl, same_false (by intro h; subst h; contradiction), HB1.out⟩
      | exact ⟨_, rfl, same_false (by intro h; subst h; simp at *), HB1.out⟩
      | (trace_state; fail)
theorem same3_any (p q : PackT) (ae ar ah be br bh : Option Addr) (ce cr ch de dr dh : Nat) (w : World) (hp : Pk w.heap.size w p ae ar ah ce cr ch) (hq : Pk w.heap.size w q be br bh de dr dh) :
    Calls Tryd.prog 9 #[.agg #[.int .i64 p.kind, .int .i64 p.lie.node, .int .i64 p.lie.level, .int .i64 p.lie.pod, .int .i64 p.lie.mtu, .int .i64 p.lie.link, .int .i64 p.lie.nonce, .int .i64 p.lie.seen, .int .i64 p.lie.seenLink, .int .i64 p.lie.seenNonce, .int .i64 p.lie.hold, .bool p.lie.rep, .bool p.lie.noOffer, .int .i64 p.tie.head.id.dir, .int .i64 p.tie.head.id.orig, .int .i64 p.tie.head.id.kind, .int .i64 p.tie.head.id.nr, .int .i64 p.tie.head.seq, .int .i64 p.tie.head.life, .int .i64 p.tie.level, .bool p.tie.over, .slice ae p.tie.edges.length ce, .slice ar p.tie.reaches.length cr, .int .i64 p.frm.dir, .int .i64 p.frm.orig, .int .i64 p.frm.kind, .int .i64 p.frm.nr, .int .i64 p.to.dir, .int .i64 p.to.orig, .int .i64 p.to.kind, .int .i64 p.to.nr, .slice ah p.heads.length ch], .agg #[.int .i64 q.kind, .int .i64 q.lie.node, .int .i64 q.lie.level, .int .i64 q.lie.pod, .int .i64 q.lie.mtu, .int .i64 q.lie.link, .int .i64 q.lie.nonce, .int .i64 q.lie.seen, .int .i64 q.lie.seenLink, .int .i64 q.lie.seenNonce, .int .i64 q.lie.hold, .bool q.lie.rep, .bool q.lie.noOffer, .int .i64 q.tie.head.id.dir, .int .i64 q.tie.head.id.orig, .int .i64 q.tie.head.id.kind, .int .i64 q.tie.head.id.nr, .int .i64 q.tie.head.seq, .int .i64 q.tie.head.life, .int .i64 q.tie.level, .bool q.tie.over, .slice be q.tie.edges.length de, .slice br q.tie.reaches.length dr, .int .i64 q.frm.dir, .int .i64 q.frm.orig, .int .i64 q.frm.kind, .int .i64 q.frm.nr, .int .i64 q.to.dir, .int .i64 q.to.orig, .int .i64 q.to.kind, .int .i64 q.to.nr, .slice bh q.heads.length dh]] w fun e w' => ∃ r, e = .returned (.bool r) ∧ (r = true ↔ p = q) ∧ Below w.heap.size w w' := by
  by_cases h : p.tie = q.tie
  · by_cases hh : p.heads = q.heads
    · exact same3_yes p q ae ar ah be br bh ce cr ch de dr dh w hp hq h true (by simp [hh])
    · exact same3_yes p q ae ar ah be br bh ce cr ch de dr dh w hp hq h false (by simp [hh])
  · exact same3_tie p q ae ar ah be br bh ce cr ch de dr dh w hp hq h
end Go.Proofs.YthdlcpnmldhllaaDoor

/-
  WireRight: what is decoded of any bytes may be, and has bytes that are decoded as it: mathematics and walks.
-/
namespace Go.Proofs.YthdlcpnmldhllaaDoor
open Go.RowKit Go.Shelf
set_option linter.unusedVariables false

theorem encL_range {l : List It} (hok : ∀ x ∈ l, x.ok) : ∀ y ∈ encL l, 0 ≤ y ∧ y ≤ 255 := by
  intro y hy
  obtain ⟨x, hx, hy⟩ := List.mem_flatMap.1 hy
  unfold itemL at hy
  rcases List.mem_append.1 hy with h | h
  · exact putL_range _ y h
  · split at h
    · exact putL_range _ y h
    · split at h
      · rcases List.mem_append.1 h with h | h
        · exact putL_range _ y h
        · exact wf_u8 ((hok x hx).2.2.2 y h)
      · simp at h
theorem encL_sub {a b : List It} (h : a.Sublist b) : (encL a).length ≤ (encL b).length := by
  induction h with
  | slnil => exact Nat.le_refl _
  | @cons l m x _ ih =>
    have e : encL (x :: m) = itemL x ++ encL m := by simp [encL]
    rw [e, List.length_append]
    omega
  | @cons_cons l m x _ ih =>
    have e : encL (x :: m) = itemL x ++ encL m := by simp [encL]
    have e2 : encL (x :: l) = itemL x ++ encL l := by simp [encL]
    rw [e, e2, List.length_append, List.length_append]
    omega
theorem right_mem {l : List It} (h : rightB l = true) : ∀ x ∈ l, shapeB x = true := right_shape l 0 h
/-- What is decoded of any bytes may be, and its bytes are no more. -/
theorem dec_sound {zs : List Int} {q : PackT} (hz : ∀ x ∈ zs, 0 ≤ x ∧ x ≤ 255) (h : decW zs = some q) : rightW q = true ∧ ShortP q ∧ (encL (packI q)).length ≤ zs.length ∧ zs.length ≤ 4096 := by
  unfold decW at h
  rcases hd : decB zs with _ | l
  · rw [hd] at h; cases h
  · rw [hd] at h
    simp only at h
    obtain ⟨e1, e2, e3, e4, e5⟩ := dec_bs hz hd
    by_cases ho : (readS (knownP l)).2 = true
    · rw [if_pos ho] at h
      injection h with h
      obtain ⟨h1, h2⟩ := read_sound (right_mem (known_right e1).1) ho
      rw [h] at h1 h2
      have hs := short_read (knownP l)
      rw [h] at hs
      have := encL_sub (knownP_sub l)
      rw [← h1, ← e2]
      exact ⟨h2, hs, this, by rw [e2]; exact e5⟩
    · rw [if_neg ho] at h; cases h
/-- A record whose known fields are a packet's is decoded as it. -/
theorem dec_known {l : List It} {q : PackT} (hl : rightB l = true) (hok : ∀ x ∈ l, x.ok ∧ x.bs.length < 9223372036854775808) (hk : knownP l = packI q) (hr : rightW q = true) (hs : ∀ y ∈ q.tie.reaches, y.ok) (h4 : (encL l).length ≤ 4096) : decW (encL l) = some q := by
  have hd : decS (encL l).length (encL l) = some l := dec_enc l (fun x hx => ⟨right_mem hl x hx, (hok x hx).1, (hok x hx).2⟩) _ (Nat.le_refl _)
  have hb : decB (encL l) = some l := by
    unfold decB
    rw [if_neg (by omega), hd]
    simp only
    rw [if_pos hl]
  unfold decW
  rw [hb]
  simp only
  rw [hk, read_back hs hr]
  rfl
theorem pack_all {q : PackT} (hr : rightW q = true) : ∀ x ∈ packI q, x.ok ∧ x.bs.length < 9223372036854775808 := by
  intro x hx
  have hb := pack_bs hr x hx
  rw [rightW, Bool.and_eq_true] at hr
  exact ⟨((good_pack hr.1).2 x hx).2, by rw [hb]; simp⟩
theorem dec_back {q : PackT} (hr : rightW q = true) (hs : ∀ y ∈ q.tie.reaches, y.ok) (h4 : (encL (packI q)).length ≤ 4096) : decW (encL (packI q)) = some q :=
  dec_known (pack_rightB hr) (pack_all hr) (known_pack (by rw [rightW, Bool.and_eq_true] at hr; exact hr.1)) hr hs h4
/-- A packet in memory of its own. -/
def GotP (q : PackT) (w : World) (e : Ending) (w' : World) : Prop :=
  ∃ (Ae Ar Ah : Option Addr) (Ce Cr Ch : Nat), e = .returned (.tuple #[.agg #[.int .i64 q.kind, .int .i64 q.lie.node, .int .i64 q.lie.level, .int .i64 q.lie.pod, .int .i64 q.lie.mtu, .int .i64 q.lie.link, .int .i64 q.lie.nonce, .int .i64 q.lie.seen, .int .i64 q.lie.seenLink, .int .i64 q.lie.seenNonce, .int .i64 q.lie.hold, .bool q.lie.rep, .bool q.lie.noOffer, .int .i64 q.tie.head.id.dir, .int .i64 q.tie.head.id.orig, .int .i64 q.tie.head.id.kind, .int .i64 q.tie.head.id.nr, .int .i64 q.tie.head.seq, .int .i64 q.tie.head.life, .int .i64 q.tie.level, .bool q.tie.over, .slice Ae q.tie.edges.length Ce, .slice Ar q.tie.reaches.length Cr, .int .i64 q.frm.dir, .int .i64 q.frm.orig, .int .i64 q.frm.kind, .int .i64 q.frm.nr, .int .i64 q.to.dir, .int .i64 q.to.orig, .int .i64 q.to.kind, .int .i64 q.to.nr, .slice Ah q.heads.length Ch], .int .i64 0]) ∧ Pk w'.heap.size w' q Ae Ar Ah Ce Cr Ch ∧ Below w.heap.size w w'
theorem DecOut.got {r : Option PackT} {q : PackT} (h : r = some q) {w w' : World} {e : Ending} (hd : DecOut r w e w') : GotP q w e w' := by
  subst h
  exact hd
theorem DecOut.form {r : Option PackT} (h : r = none) {w w' : World} {e : Ending} (hd : DecOut r w e w') : e = .returned (.tuple #[.agg #[.int .i64 0, .int .i64 0, .int .i64 0, .int .i64 0, .int .i64 0, .int .i64 0, .int .i64 0, .int .i64 0, .int .i64 0, .int .i64 0, .int .i64 0, .bool false, .bool false, .int .i64 0, .int .i64 0, .int .i64 0, .int .i64 0, .int .i64 0, .int .i64 0, .int .i64 0, .bool false, .slice none 0 0, .slice none 0 0, .int .i64 0, .int .i64 0, .int .i64 0, .int .i64 0, .int .i64 0, .int .i64 0, .int .i64 0, .int .i64 0, .slice none 0 0], .int .i64 2]) ∧ Below w.heap.size w w' := by
  subst h
  exact hd
theorem wdec_some {a : Option Addr} {n cap : Nat} {zs : List Int} {q : PackT} (hn : n = zs.length) (hq : decW zs = some q) (hlen : zs.length ≤ 9223372036854775807) (hcap : n ≤ cap) (hcm : cap ≤ 9223372036854775807) (hz : ∀ x ∈ zs, 0 ≤ x ∧ x ≤ 255) {w : World} (hr : Rd .u8 w.heap.size w a zs) (hT : Tab w) :
    Calls Tryd.prog 8 #[.slice a n cap] w (GotP q w) := by
  subst hn
  exact (wdec_any a cap zs hlen hcap hcm hz w hr hT).mono fun e w' h => h.got hq
theorem wdec_none {a : Option Addr} {n cap : Nat} {zs : List Int} (hn : n = zs.length) (hq : decW zs = none) (hlen : zs.length ≤ 9223372036854775807) (hcap : n ≤ cap) (hcm : cap ≤ 9223372036854775807) (hz : ∀ x ∈ zs, 0 ≤ x ∧ x ≤ 255) {w : World} (hr : Rd .u8 w.heap.size w a zs) (hT : Tab w) :
    Calls Tryd.prog 8 #[.slice a n cap] w fun e w' => e = .returned (.tuple #[.agg #[.int .i64 0, .int .i64 0, .int .i64 0, .int .i64 0, .int .i64 0, .int .i64 0, .int .i64 0, .int .i64 0, .int .i64 0, .int .i64 0, .int .i64 0, .bool false, .bool false, .int .i64 0, .int .i64 0, .int .i64 0, .int .i64 0, .int .i64 0, .int .i64 0, .int .i64 0, .bool false, .slice none 0 0, .slice none 0 0, .int .i64 0, .int .i64 0, .int .i64 0, .int .i64 0, .int .i64 0, .int .i64 0, .int .i64 0, .int .i64 0, .slice none 0 0], .int .i64 2]) ∧ Below w.heap.size w w' := by
  subst hn
  exact (wdec_any a cap zs hlen hcap hcm hz w hr hT).mono fun e w' h => h.form hq
/-- The same packets are the same. -/
theorem same_self (q : PackT) (ae ar ah be br bh : Option Addr) (ce cr ch de dr dh : Nat) (w : World) (hp : Pk w.heap.size w q ae ar ah ce cr ch) (hq : Pk w.heap.size w q be br bh de dr dh) :
    Calls Tryd.prog 9 #[.agg #[.int .i64 q.kind, .int .i64 q.lie.node, .int .i64 q.lie.level, .int .i64 q.lie.pod, .int .i64 q.lie.mtu, .int .i64 q.lie.link, .int .i64 q.lie.nonce, .int .i64 q.lie.seen, .int .i64 q.lie.seenLink, .int .i64 q.lie.seenNonce, .int .i64 q.lie.hold, .bool q.lie.rep, .bool q.lie.noOffer, .int .i64 q.tie.head.id.dir, .int .i64 q.tie.head.id.orig, .int .i64 q.tie.head.id.kind, .int .i64 q.tie.head.id.nr, .int .i64 q.tie.head.seq, .int .i64 q.tie.head.life, .int .i64 q.tie.level, .bool q.tie.over, .slice ae q.tie.edges.length ce, .slice ar q.tie.reaches.length cr, .int .i64 q.frm.dir, .int .i64 q.frm.orig, .int .i64 q.frm.kind, .int .i64 q.frm.nr, .int .i64 q.to.dir, .int .i64 q.to.orig, .int .i64 q.to.kind, .int .i64 q.to.nr, .slice ah q.heads.length ch], .agg #[.int .i64 q.kind, .int .i64 q.lie.node, .int .i64 q.lie.level, .int .i64 q.lie.pod, .int .i64 q.lie.mtu, .int .i64 q.lie.link, .int .i64 q.lie.nonce, .int .i64 q.lie.seen, .int .i64 q.lie.seenLink, .int .i64 q.lie.seenNonce, .int .i64 q.lie.hold, .bool q.lie.rep, .bool q.lie.noOffer, .int .i64 q.tie.head.id.dir, .int .i64 q.tie.head.id.orig, .int .i64 q.tie.head.id.kind, .int .i64 q.tie.head.id.nr, .int .i64 q.tie.head.seq, .int .i64 q.tie.head.life, .int .i64 q.tie.level, .bool q.tie.over, .slice be q.tie.edges.length de, .slice br q.tie.reaches.length dr, .int .i64 q.frm.dir, .int .i64 q.frm.orig, .int .i64 q.frm.kind, .int .i64 q.frm.nr, .int .i64 q.to.dir, .int .i64 q.to.orig, .int .i64 q.to.kind, .int .i64 q.to.nr, .slice bh q.heads.length dh]] w fun e w' => e = .returned (.bool true) ∧ Below w.heap.size w w' := by
  refine (same3_any q q ae ar ah be br bh ce cr ch de dr dh w hp hq).mono ?_
  rintro e w' ⟨r, rfl, hr, hb⟩
  rw [hr.2 rfl]
  exact ⟨rfl, hb⟩
theorem zero_pk (w : World) : Pk w.heap.size w PackT.zero none none none 0 0 0 :=
  ⟨fun h => by simp [PackT.zero, TieT.zero] at h, fun h => by simp [PackT.zero, TieT.zero] at h, fun h => by simp [PackT.zero] at h, ⟨by simp [PackT.zero, TieT.zero], by simp [PackT.zero, TieT.zero], Nat.zero_le _⟩, ⟨by simp [PackT.zero, TieT.zero], by simp [PackT.zero, TieT.zero], Nat.zero_le _⟩, ⟨by simp [PackT.zero], by simp [PackT.zero], Nat.zero_le _⟩, fun y hy => by simp [PackT.zero, TieT.zero] at hy⟩
theorem same_zero (w : World) : Calls Tryd.prog 9 #[.agg #[.int .i64 0, .int .i64 0, .int .i64 0, .int .i64 0, .int .i64 0, .int .i64 0, .int .i64 0, .int .i64 0, .int .i64 0, .int .i64 0, .int .i64 0, .bool false, .bool false, .int .i64 0, .int .i64 0, .int .i64 0, .int .i64 0, .int .i64 0, .int .i64 0, .int .i64 0, .bool false, .slice none 0 0, .slice none 0 0, .int .i64 0, .int .i64 0, .int .i64 0, .int .i64 0, .int .i64 0, .int .i64 0, .int .i64 0, .int .i64 0, .slice none 0 0], .agg #[.int .i64 0, .int .i64 0, .int .i64 0, .int .i64 0, .int .i64 0, .int .i64 0, .int .i64 0, .int .i64 0, .int .i64 0, .int .i64 0, .int .i64 0, .bool false, .bool false, .int .i64 0, .int .i64 0, .int .i64 0, .int .i64 0, .int .i64 0, .int .i64 0, .int .i64 0, .bool false, .slice none 0 0, .slice none 0 0, .int .i64 0, .int .i64 0, .int .i64 0, .int .i64 0, .int .i64 0, .int .i64 0, .int .i64 0, .int .i64 0, .slice none 0 0]] w fun e w' => e = .returned (.bool true) ∧ Below w.heap.size w w' :=
  same_self PackT.zero none none none none none none 0 0 0 0 0 0 w (zero_pk w) (zero_pk w)
/-- A packet was put into a box. -/
theorem boxed_pk {w w1 W : World} {q : PackT} {Ae Ar Ah : Option Addr} {Ce Cr Ch : Nat} {cs : List Value} (hW : (w1.alloc (.cells #[.int .i64 0, .int .i64 0, .int .i64 0, .int .i64 0, .int .i64 0, .int .i64 0, .int .i64 0, .int .i64 0, .int .i64 0, .int .i64 0, .int .i64 0, .bool false, .bool false, .int .i64 0, .int .i64 0, .int .i64 0, .int .i64 0, .int .i64 0, .int .i64 0, .int .i64 0, .bool false, .slice none 0 0, .slice none 0 0, .int .i64 0, .int .i64 0, .int .i64 0, .int .i64 0, .int .i64 0, .int .i64 0, .int .i64 0, .int .i64 0, .slice none 0 0] 34)).setCells w1.heap.size 0 cs = W) (hb : Below w.heap.size w w1) (hp : Pk w1.heap.size w1 q Ae Ar Ah Ce Cr Ch) : Pk W.heap.size W q Ae Ar Ah Ce Cr Ch ∧ Below w.heap.size w W ∧ W.heap.size = w1.heap.size + 1 := by
  have h1 : Below w1.heap.size w1 W := by
    rw [← hW]
    exact below_cells ((Below.refl _ _).alloc (Nat.le_refl _) _) (Nat.le_refl _) _ _
  have h2 : W.heap.size = w1.heap.size + 1 := by rw [← hW, size_cells]; simp
  exact ⟨(hp.below h1).mono h1.size, hb.trans (h1.mono hb.size), h2⟩
theorem boxed_range {w1 W : World} {cs : List Value} (hc : cs.length ≤ 32) (hW : (w1.alloc (.cells #[.int .i64 0, .int .i64 0, .int .i64 0, .int .i64 0, .int .i64 0, .int .i64 0, .int .i64 0, .int .i64 0, .int .i64 0, .int .i64 0, .int .i64 0, .bool false, .bool false, .int .i64 0, .int .i64 0, .int .i64 0, .int .i64 0, .int .i64 0, .int .i64 0, .int .i64 0, .bool false, .slice none 0 0, .slice none 0 0, .int .i64 0, .int .i64 0, .int .i64 0, .int .i64 0, .int .i64 0, .int .i64 0, .int .i64 0, .int .i64 0, .slice none 0 0] 34)).setCells w1.heap.size 0 cs = W) : W.rangeAt w1.heap.size 0 cs := by
  rw [← hW]
  exact World.rangeAt_setCells_same _ _ _ _ (there_of (World.alloc_heap_new w1 _) hc)
theorem range_below {W W' : World} {b n : Nat} {cs : List Value} (h : W.rangeAt b 0 cs) (hb : Below n W W') (hlt : b < n) : W'.rangeAt b 0 cs := fun j v hv => (hb.cell (p := ⟨b, 0 + j, none⟩) hlt).trans (h j v hv)
end Go.Proofs.YthdlcpnmldhllaaDoor

namespace Go.Proofs.YthdlcpnmldhllaaDoor
open Go.RowKit Go.ChangeShapes Go.WideShapes
set_option linter.unusedVariables false

section
variable {H : Type} {enc : TypeId × Value → H} {P : Program} {w : World} {held : Bool} {M : Nat}

/-- Some cells read at a type, and nothing in them is too heavy. -/
def Rdg (enc : TypeId × Value → H) (P : Program) (w : World) (held : Bool) (M : Nat) (t : TypeId) (cs : List Value) : Prop := ∃ fuel x, DataW.trod enc P w 0 (fun _ => true) held fuel t cs = some x ∧ ∀ n ∈ x.1.weights P t, n ≤ M
theorem rdg_int {t : TypeId} {k : IntKind} {cs : List Value} (ht : P.underlying t = some (.int k)) (h : Rdg enc P w held M t cs) : ∃ n, cs = [.int k n] ∧ (Lit.int k n).wf = true := by
  obtain ⟨fuel, x, hx, _⟩ := h
  obtain ⟨n, e, _, hw⟩ := DataW.trod_int ht hx
  exact ⟨n, e, hw⟩
theorem rdg_bool {t : TypeId} {cs : List Value} (ht : P.underlying t = some .bool) (h : Rdg enc P w held M t cs) : ∃ b, cs = [.bool b] := by
  obtain ⟨fuel, x, hx, _⟩ := h
  obtain ⟨b, e, _⟩ := DataW.trod_bool ht hx
  exact ⟨b, e⟩
theorem rdg_struct {t : TypeId} {fs : Array Field} {cs : List Value} (ht : P.underlying t = some (.struct fs)) (h : Rdg enc P w held M t cs) : cs.length = P.cellsOf t ∧ ∀ (i : Nat) (f : Field), fs[i]? = some f → Rdg enc P w held M f.type ((cs.drop f.offset).take (P.cellsOf f.type)) := by
  obtain ⟨fuel, x, hx, hM⟩ := h
  obtain ⟨xs, n, _, rfl, hl, hlen, hf⟩ := DataW.trod_struct ht hx
  refine ⟨hl, fun i f hif => ?_⟩
  have hi : i < xs.length := by
    rw [hlen]
    exact (Array.getElem?_eq_some_iff.1 hif).1
  refine ⟨n, xs[i], by rw [hf i f hif, List.getElem?_eq_getElem hi], fun k hk => hM k ?_⟩
  simp only [DataW.weights, ht]
  exact DataW.weights_mem_each (j := i) (by simp; exact ⟨f, hif, rfl⟩) (by simp [hi]) k hk
/-- A slice of structs. -/
theorem rdg_slice {E : Type} [Inhabited E] {sz : Nat} {en : E → List Value} {ok : E → Prop} {s t : TypeId} {v : Value} (hs : P.underlying s = some (.slice t)) (hsz : P.cellsOf t = sz) (hen : ∀ x, (en x).length = sz)
    (elem : ∀ cs, Rdg enc P w held M t cs → ∃ x, cs = en x ∧ ok x) (h : Rdg enc P w held M s [v]) (hp : 0 < sz) :
    ∃ (A : Option Addr) (l : List E) (cap : Nat), v = .slice A l.length cap ∧ l.length ≤ cap ∧ cap ≤ maxLen ∧ RdR sz en w.heap.size w A l ∧ (∀ y ∈ l, ok y) ∧ cap * P.bytesOf t ≤ M := by
  obtain ⟨fuel, x, hx, hM⟩ := h
  rcases Go.Deep.open_slice hs hx with ⟨hcs, _⟩ | ⟨a, len, cap, m, n, D, Pl, hcs, _, hl, hm, hmm, rfl, hall⟩
  · injection hcs with hcs
    exact ⟨none, [], 0, hcs, Nat.le_refl _, Nat.zero_le _, fun hp => by simp at hp, by simp, by simp⟩
  · injection hcs with hcs
    subst hcs
    simp only [if_true] at hmm
    subst hmm
    rw [hsz] at hall
    have hD : ∀ i', i' < m → ∀ n ∈ (D i').weights P t, n ≤ M := fun i' hi' n hn => hM n (by
      simp only [DataW.weights, hs, List.mem_cons, List.mem_append]
      rcases Nat.lt_or_ge i' len with hlt | hge
      · exact .inr (.inl (mem_weightsAll (List.mem_map.2 ⟨i', List.mem_range.2 hlt, rfl⟩) hn))
      · exact .inr (.inr (mem_weightsAll (List.mem_map.2 ⟨i' - len, List.mem_range.2 (by omega), by rw [show len + (i' - len) = i' by omega]⟩) hn)))
    have hcapM : m * P.bytesOf t ≤ M := by
      have := hM ((((List.range len).map D).length + ((List.range (m - len)).map fun j => D (len + j)).length) * P.bytesOf t) (by simp [DataW.weights, hs])
      simp only [List.length_map, List.length_range] at this
      rwa [show len + (m - len) = m by omega] at this
    have hall2 : ∀ i', i' < m → ∃ q : E, w.cells? 0 (a.add (i' * sz)) sz = some (en q) ∧ ok q := by
      intro i' hi'
      obtain ⟨cs, hcs, htr⟩ := hall i' hi'
      obtain ⟨y, e1, e2⟩ := elem cs ⟨_, _, htr, hD i' hi'⟩
      subst e1
      exact ⟨y, hcs, e2⟩
    obtain ⟨f, hf⟩ := Go.Deep.choose_lt hall2
    refine ⟨some a, (List.range len).map f, m, by simp, by simpa using hl, hm, fun hp' => ?_, ?_, hcapM⟩
    · have hlen : 0 < len := by simpa using hp'
      have cell : ∀ j, j < m → ∀ k, k < sz → w.cell? (a.add (j * sz + k)) = (en (f j))[k]? := fun j hj k hk => by
        have := (World.cells?_some (hf j hj).1).2.2 k hk
        rwa [Go.Deep.add_add] at this
      obtain ⟨b, off, spot⟩ := a
      have h0 := cell 0 (by omega) 0 hp
      have h00 : (en (f 0))[0]? = some ((en (f 0))[0]'(by rw [hen]; exact hp)) := List.getElem?_eq_getElem _
      have hspot : spot = none := by simpa [Addr.add] using World.cell?_spot (h0.trans h00)
      subst hspot
      have plain : ∀ k, (⟨b, off, none⟩ : Addr).add k = ⟨b, off + k, none⟩ := fun k => by unfold Addr.add; split <;> simp_all
      rw [plain] at h0
      refine ⟨b, off, rfl, World.block_lt_of_cell? w _ (h0.trans h00), fun j x hx k u hu => ?_⟩
      have hj : j < len := by
        rcases Nat.lt_or_ge j len with h1 | h1
        · exact h1
        · rw [List.getElem?_eq_none (by simpa using h1)] at hx; cases hx
      obtain rfl : f j = x := by simpa [hj] using hx
      have hk : k < sz := by
        have := (List.getElem?_eq_some_iff.1 hu).1
        rwa [hen] at this
      have g := cell j (by omega) k hk
      rw [plain] at g
      rw [show off + j * sz + k = off + (j * sz + k) by omega]
      exact g.trans hu
    · intro y hy
      obtain ⟨j, hj, rfl⟩ := List.mem_map.1 hy
      exact (hf j (by have := List.mem_range.1 hj; omega)).2
end
theorem cut (cs : List Value) (i n : Nat) : cs.drop i = (cs.drop i).take n ++ cs.drop (i + n) := by
  rw [← List.drop_drop, List.take_append_drop]
theorem list2 {α : Type} {cs : List α} (h : cs.length = 2) : ∃ c0 c1, cs = [c0, c1] := by
  match cs, h with
  | [c0, c1], _ => exact ⟨c0, c1, rfl⟩
theorem list3 {α : Type} {cs : List α} (h : cs.length = 3) : ∃ c0 c1 c2, cs = [c0, c1, c2] := by
  match cs, h with
  | [c0, c1, c2], _ => exact ⟨c0, c1, c2, rfl⟩
theorem list4 {α : Type} {cs : List α} (h : cs.length = 4) : ∃ c0 c1 c2 c3, cs = [c0, c1, c2, c3] := by
  match cs, h with
  | [c0, c1, c2, c3], _ => exact ⟨c0, c1, c2, c3, rfl⟩
theorem list6 {α : Type} {cs : List α} (h : cs.length = 6) : ∃ c0 c1 c2 c3 c4 c5, cs = [c0, c1, c2, c3, c4, c5] := by
  match cs, h with
  | [c0, c1, c2, c3, c4, c5], _ => exact ⟨c0, c1, c2, c3, c4, c5, rfl⟩
theorem list10 {α : Type} {cs : List α} (h : cs.length = 10) : ∃ c0 c1 c2 c3 c4 c5 c6 c7 c8 c9, cs = [c0, c1, c2, c3, c4, c5, c6, c7, c8, c9] := by
  match cs, h with
  | [c0, c1, c2, c3, c4, c5, c6, c7, c8, c9], _ => exact ⟨c0, c1, c2, c3, c4, c5, c6, c7, c8, c9, rfl⟩
theorem list12 {α : Type} {cs : List α} (h : cs.length = 12) : ∃ c0 c1 c2 c3 c4 c5 c6 c7 c8 c9 c10 c11, cs = [c0, c1, c2, c3, c4, c5, c6, c7, c8, c9, c10, c11] := by
  match cs, h with
  | [c0, c1, c2, c3, c4, c5, c6, c7, c8, c9, c10, c11], _ => exact ⟨c0, c1, c2, c3, c4, c5, c6, c7, c8, c9, c10, c11, rfl⟩
theorem list32 {α : Type} {cs : List α} (h : cs.length = 32) : ∃ c0 c1 c2 c3 c4 c5 c6 c7 c8 c9 c10 c11 c12 c13 c14 c15 c16 c17 c18 c19 c20 c21 c22 c23 c24 c25 c26 c27 c28 c29 c30 c31, cs = [c0, c1, c2, c3, c4, c5, c6, c7, c8, c9, c10, c11, c12, c13, c14, c15, c16, c17, c18, c19, c20, c21, c22, c23, c24, c25, c26, c27, c28, c29, c30, c31] := by
  match cs, h with
  | [c0, c1, c2, c3, c4, c5, c6, c7, c8, c9, c10, c11, c12, c13, c14, c15, c16, c17, c18, c19, c20, c21, c22, c23, c24, c25, c26, c27, c28, c29, c30, c31], _ => exact ⟨c0, c1, c2, c3, c4, c5, c6, c7, c8, c9, c10, c11, c12, c13, c14, c15, c16, c17, c18, c19, c20, c21, c22, c23, c24, c25, c26, c27, c28, c29, c30, c31, rfl⟩
theorem rd_id {H : Type} {enc : TypeId × Value → H} {w : World} {held : Bool} {cs : List Value} (h : Rdg enc Tryd.prog w held reachBytes 25 cs) : ∃ x, cs = encId x ∧ True := by
  obtain ⟨hl, hf⟩ := rdg_struct Tryd.underlying25 h
  obtain ⟨c0, c1, c2, c3, rfl⟩ := list4 (hl.trans (by kernel_rfl) : cs.length = 4)
  have h0 : Rdg enc Tryd.prog w held reachBytes 3 [c0] := by
    have this : Rdg enc Tryd.prog w held reachBytes 3 (List.take (Tryd.prog.cellsOf 3) (List.drop 0 [c0, c1, c2, c3])) := hf 0 _ rfl
    rw [show ∀ (a : List Value), a.take (Tryd.prog.cellsOf 3) = a.take 1 from fun a => by rw [show Tryd.prog.cellsOf 3 = 1 from by kernel_rfl]] at this
    exact this
  obtain ⟨n0, e0, _⟩ := rdg_int Tryd.underlying3 h0
  have h1 : Rdg enc Tryd.prog w held reachBytes 3 [c1] := by
    have this : Rdg enc Tryd.prog w held reachBytes 3 (List.take (Tryd.prog.cellsOf 3) (List.drop 1 [c0, c1, c2, c3])) := hf 1 _ rfl
    rw [show ∀ (a : List Value), a.take (Tryd.prog.cellsOf 3) = a.take 1 from fun a => by rw [show Tryd.prog.cellsOf 3 = 1 from by kernel_rfl]] at this
    exact this
  obtain ⟨n1, e1, _⟩ := rdg_int Tryd.underlying3 h1
  have h2 : Rdg enc Tryd.prog w held reachBytes 3 [c2] := by
    have this : Rdg enc Tryd.prog w held reachBytes 3 (List.take (Tryd.prog.cellsOf 3) (List.drop 2 [c0, c1, c2, c3])) := hf 2 _ rfl
    rw [show ∀ (a : List Value), a.take (Tryd.prog.cellsOf 3) = a.take 1 from fun a => by rw [show Tryd.prog.cellsOf 3 = 1 from by kernel_rfl]] at this
    exact this
  obtain ⟨n2, e2, _⟩ := rdg_int Tryd.underlying3 h2
  have h3 : Rdg enc Tryd.prog w held reachBytes 3 [c3] := by
    have this : Rdg enc Tryd.prog w held reachBytes 3 (List.take (Tryd.prog.cellsOf 3) (List.drop 3 [c0, c1, c2, c3])) := hf 3 _ rfl
    rw [show ∀ (a : List Value), a.take (Tryd.prog.cellsOf 3) = a.take 1 from fun a => by rw [show Tryd.prog.cellsOf 3 = 1 from by kernel_rfl]] at this
    exact this
  obtain ⟨n3, e3, _⟩ := rdg_int Tryd.underlying3 h3
  injection e0 with e0 _
  subst e0
  injection e1 with e1 _
  subst e1
  injection e2 with e2 _
  subst e2
  injection e3 with e3 _
  subst e3
  exact ⟨⟨n0, n1, n2, n3⟩, rfl, trivial⟩
theorem rd_edge {H : Type} {enc : TypeId × Value → H} {w : World} {held : Bool} {cs : List Value} (h : Rdg enc Tryd.prog w held reachBytes 101 cs) : ∃ x, cs = encEdge x ∧ True := by
  obtain ⟨hl, hf⟩ := rdg_struct Tryd.underlying101 h
  obtain ⟨c0, c1, c2, rfl⟩ := list3 (hl.trans (by kernel_rfl) : cs.length = 3)
  have h0 : Rdg enc Tryd.prog w held reachBytes 3 [c0] := by
    have this : Rdg enc Tryd.prog w held reachBytes 3 (List.take (Tryd.prog.cellsOf 3) (List.drop 0 [c0, c1, c2])) := hf 0 _ rfl
    rw [show ∀ (a : List Value), a.take (Tryd.prog.cellsOf 3) = a.take 1 from fun a => by rw [show Tryd.prog.cellsOf 3 = 1 from by kernel_rfl]] at this
    exact this
  obtain ⟨n0, e0, _⟩ := rdg_int Tryd.underlying3 h0
  have h1 : Rdg enc Tryd.prog w held reachBytes 3 [c1] := by
    have this : Rdg enc Tryd.prog w held reachBytes 3 (List.take (Tryd.prog.cellsOf 3) (List.drop 1 [c0, c1, c2])) := hf 1 _ rfl
    rw [show ∀ (a : List Value), a.take (Tryd.prog.cellsOf 3) = a.take 1 from fun a => by rw [show Tryd.prog.cellsOf 3 = 1 from by kernel_rfl]] at this
    exact this
  obtain ⟨n1, e1, _⟩ := rdg_int Tryd.underlying3 h1
  have h2 : Rdg enc Tryd.prog w held reachBytes 3 [c2] := by
    have this : Rdg enc Tryd.prog w held reachBytes 3 (List.take (Tryd.prog.cellsOf 3) (List.drop 2 [c0, c1, c2])) := hf 2 _ rfl
    rw [show ∀ (a : List Value), a.take (Tryd.prog.cellsOf 3) = a.take 1 from fun a => by rw [show Tryd.prog.cellsOf 3 = 1 from by kernel_rfl]] at this
    exact this
  obtain ⟨n2, e2, _⟩ := rdg_int Tryd.underlying3 h2
  injection e0 with e0 _
  subst e0
  injection e1 with e1 _
  subst e1
  injection e2 with e2 _
  subst e2
  exact ⟨⟨n0, n1, n2⟩, rfl, trivial⟩
theorem rd_lie {H : Type} {enc : TypeId × Value → H} {w : World} {held : Bool} {cs : List Value} (h : Rdg enc Tryd.prog w held reachBytes 23 cs) : ∃ x, cs = encLie x ∧ True := by
  obtain ⟨hl, hf⟩ := rdg_struct Tryd.underlying23 h
  obtain ⟨c0, c1, c2, c3, c4, c5, c6, c7, c8, c9, c10, c11, rfl⟩ := list12 (hl.trans (by kernel_rfl) : cs.length = 12)
  have h0 : Rdg enc Tryd.prog w held reachBytes 3 [c0] := by
    have this : Rdg enc Tryd.prog w held reachBytes 3 (List.take (Tryd.prog.cellsOf 3) (List.drop 0 [c0, c1, c2, c3, c4, c5, c6, c7, c8, c9, c10, c11])) := hf 0 _ rfl
    rw [show ∀ (a : List Value), a.take (Tryd.prog.cellsOf 3) = a.take 1 from fun a => by rw [show Tryd.prog.cellsOf 3 = 1 from by kernel_rfl]] at this
    exact this
  obtain ⟨n0, e0, _⟩ := rdg_int Tryd.underlying3 h0
  have h1 : Rdg enc Tryd.prog w held reachBytes 3 [c1] := by
    have this : Rdg enc Tryd.prog w held reachBytes 3 (List.take (Tryd.prog.cellsOf 3) (List.drop 1 [c0, c1, c2, c3, c4, c5, c6, c7, c8, c9, c10, c11])) := hf 1 _ rfl
    rw [show ∀ (a : List Value), a.take (Tryd.prog.cellsOf 3) = a.take 1 from fun a => by rw [show Tryd.prog.cellsOf 3 = 1 from by kernel_rfl]] at this
    exact this
  obtain ⟨n1, e1, _⟩ := rdg_int Tryd.underlying3 h1
  have h2 : Rdg enc Tryd.prog w held reachBytes 3 [c2] := by
    have this : Rdg enc Tryd.prog w held reachBytes 3 (List.take (Tryd.prog.cellsOf 3) (List.drop 2 [c0, c1, c2, c3, c4, c5, c6, c7, c8, c9, c10, c11])) := hf 2 _ rfl
    rw [show ∀ (a : List Value), a.take (Tryd.prog.cellsOf 3) = a.take 1 from fun a => by rw [show Tryd.prog.cellsOf 3 = 1 from by kernel_rfl]] at this
    exact this
  obtain ⟨n2, e2, _⟩ := rdg_int Tryd.underlying3 h2
  have h3 : Rdg enc Tryd.prog w held reachBytes 3 [c3] := by
    have this : Rdg enc Tryd.prog w held reachBytes 3 (List.take (Tryd.prog.cellsOf 3) (List.drop 3 [c0, c1, c2, c3, c4, c5, c6, c7, c8, c9, c10, c11])) := hf 3 _ rfl
    rw [show ∀ (a : List Value), a.take (Tryd.prog.cellsOf 3) = a.take 1 from fun a => by rw [show Tryd.prog.cellsOf 3 = 1 from by kernel_rfl]] at this
    exact this
  obtain ⟨n3, e3, _⟩ := rdg_int Tryd.underlying3 h3
  have h4 : Rdg enc Tryd.prog w held reachBytes 3 [c4] := by
    have this : Rdg enc Tryd.prog w held reachBytes 3 (List.take (Tryd.prog.cellsOf 3) (List.drop 4 [c0, c1, c2, c3, c4, c5, c6, c7, c8, c9, c10, c11])) := hf 4 _ rfl
    rw [show ∀ (a : List Value), a.take (Tryd.prog.cellsOf 3) = a.take 1 from fun a => by rw [show Tryd.prog.cellsOf 3 = 1 from by kernel_rfl]] at this
    exact this
  obtain ⟨n4, e4, _⟩ := rdg_int Tryd.underlying3 h4
  have h5 : Rdg enc Tryd.prog w held reachBytes 3 [c5] := by
    have this : Rdg enc Tryd.prog w held reachBytes 3 (List.take (Tryd.prog.cellsOf 3) (List.drop 5 [c0, c1, c2, c3, c4, c5, c6, c7, c8, c9, c10, c11])) := hf 5 _ rfl
    rw [show ∀ (a : List Value), a.take (Tryd.prog.cellsOf 3) = a.take 1 from fun a => by rw [show Tryd.prog.cellsOf 3 = 1 from by kernel_rfl]] at this
    exact this
  obtain ⟨n5, e5, _⟩ := rdg_int Tryd.underlying3 h5
  have h6 : Rdg enc Tryd.prog w held reachBytes 3 [c6] := by
    have this : Rdg enc Tryd.prog w held reachBytes 3 (List.take (Tryd.prog.cellsOf 3) (List.drop 6 [c0, c1, c2, c3, c4, c5, c6, c7, c8, c9, c10, c11])) := hf 6 _ rfl
    rw [show ∀ (a : List Value), a.take (Tryd.prog.cellsOf 3) = a.take 1 from fun a => by rw [show Tryd.prog.cellsOf 3 = 1 from by kernel_rfl]] at this
    exact this
  obtain ⟨n6, e6, _⟩ := rdg_int Tryd.underlying3 h6
  have h7 : Rdg enc Tryd.prog w held reachBytes 3 [c7] := by
    have this : Rdg enc Tryd.prog w held reachBytes 3 (List.take (Tryd.prog.cellsOf 3) (List.drop 7 [c0, c1, c2, c3, c4, c5, c6, c7, c8, c9, c10, c11])) := hf 7 _ rfl
    rw [show ∀ (a : List Value), a.take (Tryd.prog.cellsOf 3) = a.take 1 from fun a => by rw [show Tryd.prog.cellsOf 3 = 1 from by kernel_rfl]] at this
    exact this
  obtain ⟨n7, e7, _⟩ := rdg_int Tryd.underlying3 h7
  have h8 : Rdg enc Tryd.prog w held reachBytes 3 [c8] := by
    have this : Rdg enc Tryd.prog w held reachBytes 3 (List.take (Tryd.prog.cellsOf 3) (List.drop 8 [c0, c1, c2, c3, c4, c5, c6, c7, c8, c9, c10, c11])) := hf 8 _ rfl
    rw [show ∀ (a : List Value), a.take (Tryd.prog.cellsOf 3) = a.take 1 from fun a => by rw [show Tryd.prog.cellsOf 3 = 1 from by kernel_rfl]] at this
    exact this
  obtain ⟨n8, e8, _⟩ := rdg_int Tryd.underlying3 h8
  have h9 : Rdg enc Tryd.prog w held reachBytes 3 [c9] := by
    have this : Rdg enc Tryd.prog w held reachBytes 3 (List.take (Tryd.prog.cellsOf 3) (List.drop 9 [c0, c1, c2, c3, c4, c5, c6, c7, c8, c9, c10, c11])) := hf 9 _ rfl
    rw [show ∀ (a : List Value), a.take (Tryd.prog.cellsOf 3) = a.take 1 from fun a => by rw [show Tryd.prog.cellsOf 3 = 1 from by kernel_rfl]] at this
    exact this
  obtain ⟨n9, e9, _⟩ := rdg_int Tryd.underlying3 h9
  have h10 : Rdg enc Tryd.prog w held reachBytes 4 [c10] := by
    have this : Rdg enc Tryd.prog w held reachBytes 4 (List.take (Tryd.prog.cellsOf 4) (List.drop 10 [c0, c1, c2, c3, c4, c5, c6, c7, c8, c9, c10, c11])) := hf 10 _ rfl
    rw [show ∀ (a : List Value), a.take (Tryd.prog.cellsOf 4) = a.take 1 from fun a => by rw [show Tryd.prog.cellsOf 4 = 1 from by kernel_rfl]] at this
    exact this
  obtain ⟨n10, e10⟩ := rdg_bool Tryd.underlying4 h10
  have h11 : Rdg enc Tryd.prog w held reachBytes 4 [c11] := by
    have this : Rdg enc Tryd.prog w held reachBytes 4 (List.take (Tryd.prog.cellsOf 4) (List.drop 11 [c0, c1, c2, c3, c4, c5, c6, c7, c8, c9, c10, c11])) := hf 11 _ rfl
    rw [show ∀ (a : List Value), a.take (Tryd.prog.cellsOf 4) = a.take 1 from fun a => by rw [show Tryd.prog.cellsOf 4 = 1 from by kernel_rfl]] at this
    exact this
  obtain ⟨n11, e11⟩ := rdg_bool Tryd.underlying4 h11
  injection e0 with e0 _
  subst e0
  injection e1 with e1 _
  subst e1
  injection e2 with e2 _
  subst e2
  injection e3 with e3 _
  subst e3
  injection e4 with e4 _
  subst e4
  injection e5 with e5 _
  subst e5
  injection e6 with e6 _
  subst e6
  injection e7 with e7 _
  subst e7
  injection e8 with e8 _
  subst e8
  injection e9 with e9 _
  subst e9
  injection e10 with e10 _
  subst e10
  injection e11 with e11 _
  subst e11
  exact ⟨⟨n0, n1, n2, n3, n4, n5, n6, n7, n8, n9, n10, n11⟩, rfl, trivial⟩
theorem rd_head {H : Type} {enc : TypeId × Value → H} {w : World} {held : Bool} {cs : List Value} (h : Rdg enc Tryd.prog w held reachBytes 27 cs) : ∃ x, cs = encHead x ∧ True := by
  obtain ⟨hl, hf⟩ := rdg_struct Tryd.underlying27 h
  obtain ⟨c0, c1, c2, c3, c4, c5, rfl⟩ := list6 (hl.trans (by kernel_rfl) : cs.length = 6)
  have h0 : Rdg enc Tryd.prog w held reachBytes 25 [c0, c1, c2, c3] := by
    have this : Rdg enc Tryd.prog w held reachBytes 25 (List.take (Tryd.prog.cellsOf 25) (List.drop 0 [c0, c1, c2, c3, c4, c5])) := hf 0 _ rfl
    rw [show ∀ (a : List Value), a.take (Tryd.prog.cellsOf 25) = a.take 4 from fun a => by rw [show Tryd.prog.cellsOf 25 = 4 from by kernel_rfl]] at this
    exact this
  obtain ⟨⟨a, b, c, d⟩, e0, _⟩ := rd_id h0
  have h1 : Rdg enc Tryd.prog w held reachBytes 3 [c4] := by
    have this : Rdg enc Tryd.prog w held reachBytes 3 (List.take (Tryd.prog.cellsOf 3) (List.drop 4 [c0, c1, c2, c3, c4, c5])) := hf 1 _ rfl
    rw [show ∀ (a : List Value), a.take (Tryd.prog.cellsOf 3) = a.take 1 from fun a => by rw [show Tryd.prog.cellsOf 3 = 1 from by kernel_rfl]] at this
    exact this
  obtain ⟨n4, e4, _⟩ := rdg_int Tryd.underlying3 h1
  have h2 : Rdg enc Tryd.prog w held reachBytes 3 [c5] := by
    have this : Rdg enc Tryd.prog w held reachBytes 3 (List.take (Tryd.prog.cellsOf 3) (List.drop 5 [c0, c1, c2, c3, c4, c5])) := hf 2 _ rfl
    rw [show ∀ (a : List Value), a.take (Tryd.prog.cellsOf 3) = a.take 1 from fun a => by rw [show Tryd.prog.cellsOf 3 = 1 from by kernel_rfl]] at this
    exact this
  obtain ⟨n5, e5, _⟩ := rdg_int Tryd.underlying3 h2
  simp only [encId, List.cons.injEq, and_true] at e0
  obtain ⟨rfl, rfl, rfl, rfl⟩ := e0
  injection e4 with e4 _
  subst e4
  injection e5 with e5 _
  subst e5
  exact ⟨⟨⟨a, b, c, d⟩, n4, n5⟩, rfl, trivial⟩
theorem rd_prefix {H : Type} {enc : TypeId × Value → H} {w : World} {held : Bool} {cs : List Value} (h : Rdg enc Tryd.prog w held reachBytes 104 cs) : ∃ (n b : Int), cs = [.int .u32 n, .int .i64 b] ∧ (0 ≤ n ∧ n < 4294967296) := by
  obtain ⟨hl, hf⟩ := rdg_struct Tryd.underlying104 h
  obtain ⟨c0, c1, rfl⟩ := list2 (hl.trans (by kernel_rfl) : cs.length = 2)
  have h0 : Rdg enc Tryd.prog w held reachBytes 102 [c0] := by
    have this : Rdg enc Tryd.prog w held reachBytes 102 (List.take (Tryd.prog.cellsOf 102) (List.drop 0 [c0, c1])) := hf 0 _ rfl
    rw [show ∀ (a : List Value), a.take (Tryd.prog.cellsOf 102) = a.take 1 from fun a => by rw [show Tryd.prog.cellsOf 102 = 1 from by kernel_rfl]] at this
    exact this
  have h1 : Rdg enc Tryd.prog w held reachBytes 3 [c1] := by
    have this : Rdg enc Tryd.prog w held reachBytes 3 (List.take (Tryd.prog.cellsOf 3) (List.drop 1 [c0, c1])) := hf 1 _ rfl
    rw [show ∀ (a : List Value), a.take (Tryd.prog.cellsOf 3) = a.take 1 from fun a => by rw [show Tryd.prog.cellsOf 3 = 1 from by kernel_rfl]] at this
    exact this
  obtain ⟨n, e0, hw⟩ := rdg_int Tryd.underlying102 h0
  obtain ⟨b, e1, _⟩ := rdg_int Tryd.underlying3 h1
  injection e0 with e0 _
  injection e1 with e1 _
  subst e0 e1
  refine ⟨n, b, rfl, ?_⟩
  simp [Lit.wf, IntKind.min, IntKind.max, IntKind.signed, IntKind.bits] at hw
  omega
theorem rd_reach {H : Type} {enc : TypeId × Value → H} {w : World} {held : Bool} {cs : List Value} (h : Rdg enc Tryd.prog w held reachBytes 106 cs) : ∃ x, cs = encReach x ∧ (0 ≤ x.net ∧ x.net < 4294967296) := by
  obtain ⟨hl, hf⟩ := rdg_struct Tryd.underlying106 h
  obtain ⟨c0, c1, c2, rfl⟩ := list3 (hl.trans (by kernel_rfl) : cs.length = 3)
  have h0 : Rdg enc Tryd.prog w held reachBytes 104 [c0, c1] := by
    have this : Rdg enc Tryd.prog w held reachBytes 104 (List.take (Tryd.prog.cellsOf 104) (List.drop 0 [c0, c1, c2])) := hf 0 _ rfl
    rw [show ∀ (a : List Value), a.take (Tryd.prog.cellsOf 104) = a.take 2 from fun a => by rw [show Tryd.prog.cellsOf 104 = 2 from by kernel_rfl]] at this
    exact this
  obtain ⟨n, b, e0, hn⟩ := rd_prefix h0
  have h1 : Rdg enc Tryd.prog w held reachBytes 3 [c2] := by
    have this : Rdg enc Tryd.prog w held reachBytes 3 (List.take (Tryd.prog.cellsOf 3) (List.drop 2 [c0, c1, c2])) := hf 1 _ rfl
    rw [show ∀ (a : List Value), a.take (Tryd.prog.cellsOf 3) = a.take 1 from fun a => by rw [show Tryd.prog.cellsOf 3 = 1 from by kernel_rfl]] at this
    exact this
  obtain ⟨n2, e2, _⟩ := rdg_int Tryd.underlying3 h1
  simp only [List.cons.injEq, and_true] at e0
  obtain ⟨rfl, rfl⟩ := e0
  injection e2 with e2 _
  subst e2
  exact ⟨⟨n, b, n2⟩, rfl, hn⟩
instance : Inhabited HeadT := ⟨HeadT.zero⟩
instance : Inhabited EdgeT := ⟨EdgeT.zero⟩
instance : Inhabited ReachT := ⟨ReachT.zero⟩
theorem rd_tie {H : Type} {enc : TypeId × Value → H} {w : World} {held : Bool} {cs : List Value} (h : Rdg enc Tryd.prog w held reachBytes 31 cs) : ∃ (x : TieT) (a b : Option Addr × Nat), cs = encTie x (.slice a.1 x.edges.length a.2) (.slice b.1 x.reaches.length b.2) ∧
    (x.edges.length ≤ a.2 ∧ a.2 ≤ maxLen ∧ RdR 3 encEdge w.heap.size w a.1 x.edges ∧ a.2 * Tryd.prog.bytesOf 101 ≤ reachBytes) ∧ (x.reaches.length ≤ b.2 ∧ b.2 ≤ maxLen ∧ RdR 3 encReach w.heap.size w b.1 x.reaches ∧ b.2 * Tryd.prog.bytesOf 106 ≤ reachBytes) ∧ ∀ y ∈ x.reaches, 0 ≤ y.net ∧ y.net < 4294967296 := by
  obtain ⟨hl, hf⟩ := rdg_struct Tryd.underlying31 h
  obtain ⟨c0, c1, c2, c3, c4, c5, c6, c7, c8, c9, rfl⟩ := list10 (hl.trans (by kernel_rfl) : cs.length = 10)
  have h0 : Rdg enc Tryd.prog w held reachBytes 27 [c0, c1, c2, c3, c4, c5] := by
    have this : Rdg enc Tryd.prog w held reachBytes 27 (List.take (Tryd.prog.cellsOf 27) (List.drop 0 [c0, c1, c2, c3, c4, c5, c6, c7, c8, c9])) := hf 0 _ rfl
    rw [show ∀ (a : List Value), a.take (Tryd.prog.cellsOf 27) = a.take 6 from fun a => by rw [show Tryd.prog.cellsOf 27 = 6 from by kernel_rfl]] at this
    exact this
  have h1 : Rdg enc Tryd.prog w held reachBytes 3 [c6] := by
    have this : Rdg enc Tryd.prog w held reachBytes 3 (List.take (Tryd.prog.cellsOf 3) (List.drop 6 [c0, c1, c2, c3, c4, c5, c6, c7, c8, c9])) := hf 1 _ rfl
    rw [show ∀ (a : List Value), a.take (Tryd.prog.cellsOf 3) = a.take 1 from fun a => by rw [show Tryd.prog.cellsOf 3 = 1 from by kernel_rfl]] at this
    exact this
  have h2 : Rdg enc Tryd.prog w held reachBytes 4 [c7] := by
    have this : Rdg enc Tryd.prog w held reachBytes 4 (List.take (Tryd.prog.cellsOf 4) (List.drop 7 [c0, c1, c2, c3, c4, c5, c6, c7, c8, c9])) := hf 2 _ rfl
    rw [show ∀ (a : List Value), a.take (Tryd.prog.cellsOf 4) = a.take 1 from fun a => by rw [show Tryd.prog.cellsOf 4 = 1 from by kernel_rfl]] at this
    exact this
  have h3 : Rdg enc Tryd.prog w held reachBytes 28 [c8] := by
    have this : Rdg enc Tryd.prog w held reachBytes 28 (List.take (Tryd.prog.cellsOf 28) (List.drop 8 [c0, c1, c2, c3, c4, c5, c6, c7, c8, c9])) := hf 3 _ rfl
    rw [show ∀ (a : List Value), a.take (Tryd.prog.cellsOf 28) = a.take 1 from fun a => by rw [show Tryd.prog.cellsOf 28 = 1 from by kernel_rfl]] at this
    exact this
  have h4 : Rdg enc Tryd.prog w held reachBytes 29 [c9] := by
    have this : Rdg enc Tryd.prog w held reachBytes 29 (List.take (Tryd.prog.cellsOf 29) (List.drop 9 [c0, c1, c2, c3, c4, c5, c6, c7, c8, c9])) := hf 4 _ rfl
    rw [show ∀ (a : List Value), a.take (Tryd.prog.cellsOf 29) = a.take 1 from fun a => by rw [show Tryd.prog.cellsOf 29 = 1 from by kernel_rfl]] at this
    exact this
  obtain ⟨⟨⟨i0, i1, i2, i3⟩, i4, i5⟩, e0, _⟩ := rd_head h0
  obtain ⟨n1, e1, _⟩ := rdg_int Tryd.underlying3 h1
  obtain ⟨n2, e2⟩ := rdg_bool Tryd.underlying4 h2
  obtain ⟨le, c_le, e3, le1, le2, le3, le4, le5⟩ : ∃ (l : List EdgeT) (x : Option Addr × Nat), c8 = .slice x.1 l.length x.2 ∧ l.length ≤ x.2 ∧ x.2 ≤ maxLen ∧ RdR 3 encEdge w.heap.size w x.1 l ∧ (∀ y ∈ l, True) ∧ x.2 * Tryd.prog.bytesOf 101 ≤ reachBytes := by
    obtain ⟨A, l, cap, q1, q2, q3, q4, q5, q6⟩ := rdg_slice (en := encEdge) (sz := 3) Tryd.underlying28 (by kernel_rfl) (fun _ => rfl) (fun cs h => rd_edge h) h3 (by decide)
    exact ⟨l, (A, cap), q1, q2, q3, q4, q5, q6⟩
  obtain ⟨lr, c_lr, e4, lr1, lr2, lr3, lr4, lr5⟩ : ∃ (l : List ReachT) (x : Option Addr × Nat), c9 = .slice x.1 l.length x.2 ∧ l.length ≤ x.2 ∧ x.2 ≤ maxLen ∧ RdR 3 encReach w.heap.size w x.1 l ∧ (∀ y ∈ l, 0 ≤ y.net ∧ y.net < 4294967296) ∧ x.2 * Tryd.prog.bytesOf 106 ≤ reachBytes := by
    obtain ⟨A, l, cap, q1, q2, q3, q4, q5, q6⟩ := rdg_slice (en := encReach) (sz := 3) Tryd.underlying29 (by kernel_rfl) (fun _ => rfl) (fun cs h => rd_reach h) h4 (by decide)
    exact ⟨l, (A, cap), q1, q2, q3, q4, q5, q6⟩
  simp only [encHead, encId, List.cons_append, List.nil_append, List.cons.injEq, and_true] at e0 e1 e2
  obtain ⟨rfl, rfl, rfl, rfl, rfl, rfl⟩ := e0
  subst e1 e2 e3 e4
  exact ⟨⟨⟨⟨i0, i1, i2, i3⟩, i4, i5⟩, n1, n2, le, lr⟩, c_le, c_lr, rfl, ⟨le1, le2, le3, le5⟩, ⟨lr1, lr2, lr3, lr5⟩, lr4⟩
theorem rd_pack {H : Type} {enc : TypeId × Value → H} {w : World} {held : Bool} {cs : List Value} (h : Rdg enc Tryd.prog w held reachBytes 34 cs) : ∃ (p : PackT) (ae ar ah : Option Addr) (ce cr ch : Nat), cs = encPack p (.slice ae p.tie.edges.length ce) (.slice ar p.tie.reaches.length cr) (.slice ah p.heads.length ch) ∧ Pk w.heap.size w p ae ar ah ce cr ch := by
  obtain ⟨hl, hf⟩ := rdg_struct Tryd.underlying34 h
  obtain ⟨c0, c1, c2, c3, c4, c5, c6, c7, c8, c9, c10, c11, c12, c13, c14, c15, c16, c17, c18, c19, c20, c21, c22, c23, c24, c25, c26, c27, c28, c29, c30, c31, rfl⟩ := list32 (hl.trans (by kernel_rfl) : cs.length = 32)
  have h0 : Rdg enc Tryd.prog w held reachBytes 3 [c0] := by
    have this : Rdg enc Tryd.prog w held reachBytes 3 (List.take (Tryd.prog.cellsOf 3) (List.drop 0 [c0, c1, c2, c3, c4, c5, c6, c7, c8, c9, c10, c11, c12, c13, c14, c15, c16, c17, c18, c19, c20, c21, c22, c23, c24, c25, c26, c27, c28, c29, c30, c31])) := hf 0 _ rfl
    rw [show ∀ (a : List Value), a.take (Tryd.prog.cellsOf 3) = a.take 1 from fun a => by rw [show Tryd.prog.cellsOf 3 = 1 from by kernel_rfl]] at this
    exact this
  have h1 : Rdg enc Tryd.prog w held reachBytes 23 [c1, c2, c3, c4, c5, c6, c7, c8, c9, c10, c11, c12] := by
    have this : Rdg enc Tryd.prog w held reachBytes 23 (List.take (Tryd.prog.cellsOf 23) (List.drop 1 [c0, c1, c2, c3, c4, c5, c6, c7, c8, c9, c10, c11, c12, c13, c14, c15, c16, c17, c18, c19, c20, c21, c22, c23, c24, c25, c26, c27, c28, c29, c30, c31])) := hf 1 _ rfl
    rw [show ∀ (a : List Value), a.take (Tryd.prog.cellsOf 23) = a.take 12 from fun a => by rw [show Tryd.prog.cellsOf 23 = 12 from by kernel_rfl]] at this
    exact this
  have h2 : Rdg enc Tryd.prog w held reachBytes 31 [c13, c14, c15, c16, c17, c18, c19, c20, c21, c22] := by
    have this : Rdg enc Tryd.prog w held reachBytes 31 (List.take (Tryd.prog.cellsOf 31) (List.drop 13 [c0, c1, c2, c3, c4, c5, c6, c7, c8, c9, c10, c11, c12, c13, c14, c15, c16, c17, c18, c19, c20, c21, c22, c23, c24, c25, c26, c27, c28, c29, c30, c31])) := hf 2 _ rfl
    rw [show ∀ (a : List Value), a.take (Tryd.prog.cellsOf 31) = a.take 10 from fun a => by rw [show Tryd.prog.cellsOf 31 = 10 from by kernel_rfl]] at this
    exact this
  have h3 : Rdg enc Tryd.prog w held reachBytes 25 [c23, c24, c25, c26] := by
    have this : Rdg enc Tryd.prog w held reachBytes 25 (List.take (Tryd.prog.cellsOf 25) (List.drop 23 [c0, c1, c2, c3, c4, c5, c6, c7, c8, c9, c10, c11, c12, c13, c14, c15, c16, c17, c18, c19, c20, c21, c22, c23, c24, c25, c26, c27, c28, c29, c30, c31])) := hf 3 _ rfl
    rw [show ∀ (a : List Value), a.take (Tryd.prog.cellsOf 25) = a.take 4 from fun a => by rw [show Tryd.prog.cellsOf 25 = 4 from by kernel_rfl]] at this
    exact this
  have h4 : Rdg enc Tryd.prog w held reachBytes 25 [c27, c28, c29, c30] := by
    have this : Rdg enc Tryd.prog w held reachBytes 25 (List.take (Tryd.prog.cellsOf 25) (List.drop 27 [c0, c1, c2, c3, c4, c5, c6, c7, c8, c9, c10, c11, c12, c13, c14, c15, c16, c17, c18, c19, c20, c21, c22, c23, c24, c25, c26, c27, c28, c29, c30, c31])) := hf 4 _ rfl
    rw [show ∀ (a : List Value), a.take (Tryd.prog.cellsOf 25) = a.take 4 from fun a => by rw [show Tryd.prog.cellsOf 25 = 4 from by kernel_rfl]] at this
    exact this
  have h5 : Rdg enc Tryd.prog w held reachBytes 32 [c31] := by
    have this : Rdg enc Tryd.prog w held reachBytes 32 (List.take (Tryd.prog.cellsOf 32) (List.drop 31 [c0, c1, c2, c3, c4, c5, c6, c7, c8, c9, c10, c11, c12, c13, c14, c15, c16, c17, c18, c19, c20, c21, c22, c23, c24, c25, c26, c27, c28, c29, c30, c31])) := hf 5 _ rfl
    rw [show ∀ (a : List Value), a.take (Tryd.prog.cellsOf 32) = a.take 1 from fun a => by rw [show Tryd.prog.cellsOf 32 = 1 from by kernel_rfl]] at this
    exact this
  obtain ⟨k, e0, _⟩ := rdg_int Tryd.underlying3 h0
  obtain ⟨l, e1, _⟩ := rd_lie h1
  obtain ⟨x, a, b, e2, he, hr, hok⟩ := rd_tie h2
  obtain ⟨fr, e3, _⟩ := rd_id h3
  obtain ⟨to, e4, _⟩ := rd_id h4
  obtain ⟨lh, c_lh, e5, lh1, lh2, lh3, lh4, lh5⟩ : ∃ (l : List HeadT) (x : Option Addr × Nat), c31 = .slice x.1 l.length x.2 ∧ l.length ≤ x.2 ∧ x.2 ≤ maxLen ∧ RdR 6 encHead w.heap.size w x.1 l ∧ (∀ y ∈ l, True) ∧ x.2 * Tryd.prog.bytesOf 27 ≤ reachBytes := by
    obtain ⟨A, l, cap, q1, q2, q3, q4, q5, q6⟩ := rdg_slice (en := encHead) (sz := 6) Tryd.underlying32 (by kernel_rfl) (fun _ => rfl) (fun cs h => rd_head h) h5 (by decide)
    exact ⟨l, (A, cap), q1, q2, q3, q4, q5, q6⟩
  rw [show Tryd.prog.bytesOf 27 = 48 from by kernel_rfl, reachBytes] at lh5
  rw [show Tryd.prog.bytesOf 101 = 24 from by kernel_rfl, reachBytes] at he
  rw [show Tryd.prog.bytesOf 106 = 24 from by kernel_rfl, reachBytes] at hr
  have hc : [c0, c1, c2, c3, c4, c5, c6, c7, c8, c9, c10, c11, c12, c13, c14, c15, c16, c17, c18, c19, c20, c21, c22, c23, c24, c25, c26, c27, c28, c29, c30, c31] = [c0] ++ ([c1, c2, c3, c4, c5, c6, c7, c8, c9, c10, c11, c12] ++ ([c13, c14, c15, c16, c17, c18, c19, c20, c21, c22] ++ ([c23, c24, c25, c26] ++ ([c27, c28, c29, c30] ++ [c31])))) := rfl
  rw [hc, e0, e1, e2, e3, e4, e5]
  exact ⟨⟨k, l, x, fr, to, lh⟩, a.1, b.1, c_lh.1, a.2, b.2, c_lh.2, rfl, ⟨he.2.2.1, hr.2.2.1, lh3, ⟨by show x.edges.length ≤ _; omega, he.1, he.2.1⟩, ⟨by show x.reaches.length ≤ _; omega, hr.1, hr.2.1⟩, ⟨by show lh.length ≤ _; omega, lh1, lh2⟩, hok⟩⟩
theorem pk_of {H : Type} {enc : TypeId × Value → H} {W : World} {held : Bool} {cs : Array Value} {d : DataW H} {ps : List MemPlace} (h : DataW.Trod enc Tryd.prog W 0 (fun _ => true) held 34 (.agg cs) d ps)
    (hM : ∀ n ∈ d.weights Tryd.prog 34, n ≤ reachBytes) : ∃ (p : PackT) (ae ar ah : Option Addr) (ce cr ch : Nat), cs = (encPack p (.slice ae p.tie.edges.length ce) (.slice ar p.tie.reaches.length cr) (.slice ah p.heads.length ch)).toArray ∧ Pk W.heap.size W p ae ar ah ce cr ch := by
  obtain ⟨fuel, hf⟩ := h
  have hf' : DataW.trod enc Tryd.prog W 0 (fun _ => true) held fuel 34 cs.toList = some (d, ps) := hf
  obtain ⟨p, ae, ar, ah, ce, cr, ch, e, hp⟩ := rd_pack ⟨fuel, (d, ps), hf', hM⟩
  exact ⟨p, ae, ar, ah, ce, cr, ch, by rw [← e], hp⟩
end Go.Proofs.YthdlcpnmldhllaaDoor
