/-
  WireBack: for every packet and every two lists of items the law's function answers true, and all three read afterwards as they read before. The package's table 'places' starts as the program's text lays it (the card's tie). No other condition.
-/
import Derived.Test.YtgngcpbkopjjlaaDoorBackMid
import Derived.Test.YtgngcpbkopjjlaaDoorSame3
import Derived.Test.YtgngcpbkopjjlaaDoorSameQ
import Derived.Test.YtgngcpbkopjjlaaDoorCards
import Derived.WalkKit
import Derived.ProofKit
import Derived.OpenShut
import Derived.ShutString
import Derived.ChangeOld
import Derived.Below
import Derived.Stop.Joined
import Derived.SevenTiedAt

/-
  WireItems: walks.
-/
namespace Go.Proofs.YtgngcpbkopjjlaaDoor
open Go.RowKit Go.Shelf
set_option linter.unusedVariables false

theorem box_range {W0 W : World} {b n : Nat} {cs : List Value} {t : TypeId} (h : W0.heap[b]? = some (.cells cs.toArray t (0, 0))) (hb : Below n W0 W) (hlt : b < n) : W.rangeAt b 0 cs := fun j v hv => by
  rw [cell_of_row W b (0 + j) cs.toArray t (0, 0) ((hb.block b hlt).trans h), Nat.zero_add]
  simpa using hv
/-- A whole variable is read by an operation that is guarded, and wanted. -/
theorem wpList_load_g {P : Program} {ops : Array Oper} {rest : List Oper} {op : Oper} {a : Act} {w : World} {Q : Exit → Act → World → Prop} (ty : TypeId) (x : Operand) (ho : op.op = .load ty x)
    (b o : Nat) (hx : a.eval x = .pointer (some ⟨b, o, none⟩)) (cs : List Value) (d : TypeDesc) (hc : w.rangeAt b o cs)
    (hu : P.underlying ty = some d) (hd : d.isRow = true) (hi : (P.info? ty).map (·.size) = some cs.length) (hw : Region.wanted op (yielded ops a.tmps) = true)
    (h : wpList P ops Q rest (a.put op.dst (.agg cs.toArray)) w) : wpList P ops Q (op :: rest) a w := by
  unfold wpList
  rw [if_pos hw]
  exact .inl (wp_load_mid ty x ho b o hx cs d hc hu hd hi h)
theorem same_n {a b : Option Addr} {n m c1 c2 : Nat} {l : List It} (hn : n = l.length) (hm : m = l.length) (hlen : l.length ≤ 140737488351232) {w : World} (hra : RdI w.heap.size w a l) (hrb : RdI w.heap.size w b l) :
    Calls Tryd.prog 14 #[.slice a n c1, .slice b m c2] w fun e w' => e = .returned (.bool true) ∧ Below w.heap.size w w' := by
  subst hn hm
  exact same_items a b c1 c2 l hlen w hra hrb
theorem known_items (p : PackT) : knownP (itemsW p) = itemsW p := by
  unfold itemsW
  split
  · rename_i h
    rw [rightW, Bool.and_eq_true] at h
    exact known_pack h.1
  · rfl
theorem right_items (p : PackT) : rightB (itemsW p) = true := by
  unfold itemsW
  split
  · rename_i h
    exact pack_rightB h
  · rfl
theorem len_items (p : PackT) : (itemsW p).length ≤ 1000 := by
  unfold itemsW
  split
  · rename_i h
    rw [rightW, Bool.and_eq_true] at h
    exact len_pack h.1
  · simp
theorem bs_items (p : PackT) : ∀ x ∈ itemsW p, x.bs.length ≤ 1000000 := by
  unfold itemsW
  split
  · rename_i h
    intro x hx
    rw [pack_bs h x hx]
    simp
  · simp
theorem pos_items {p : PackT} (h : rightW p = true) : 0 < (itemsW p).length := by
  unfold itemsW
  rw [if_pos h]
  simp [packI]
theorem nil_items {p : PackT} (h : rightW p = false) : (itemsW p).length = 0 := by
  unfold itemsW
  rw [if_neg (by simp [h])]
  rfl
set_option maxRecDepth 100000 in
set_option maxHeartbeats 8000000 in
theorem items_few (p : PackT) (ae ar ah : Option Addr) (ce cr ch : Nat) (w : World) (hp : Pk w.heap.size w p ae ar ah ce cr ch) (hf : few3 p = false) :
    Calls Tryd.prog 7 #[.agg #[.int .i64 p.kind, .int .i64 p.lie.node, .int .i64 p.lie.level, .int .i64 p.lie.pod, .int .i64 p.lie.mtu, .int .i64 p.lie.link, .int .i64 p.lie.nonce, .int .i64 p.lie.seen, .int .i64 p.lie.seenLink, .int .i64 p.lie.seenNonce, .int .i64 p.lie.hold, .bool p.lie.rep, .bool p.lie.noOffer, .int .i64 p.tie.head.id.dir, .int .i64 p.tie.head.id.orig, .int .i64 p.tie.head.id.kind, .int .i64 p.tie.head.id.nr, .int .i64 p.tie.head.seq, .int .i64 p.tie.head.life, .int .i64 p.tie.level, .bool p.tie.over, .slice ae p.tie.edges.length ce, .slice ar p.tie.reaches.length cr, .int .i64 p.frm.dir, .int .i64 p.frm.orig, .int .i64 p.frm.kind, .int .i64 p.frm.nr, .int .i64 p.to.dir, .int .i64 p.to.orig, .int .i64 p.to.kind, .int .i64 p.to.nr, .slice ah p.heads.length ch]] w fun e w' => e = .returned (.bool true) ∧ Below w.heap.size w w' := by
  have H1 := Lib.hid hf
  have HB0 := Lib.hid ((Below.refl w.heap.size w).alloc (Nat.le_refl _) (.cells #[.int .i64 p.kind, .int .i64 p.lie.node, .int .i64 p.lie.level, .int .i64 p.lie.pod, .int .i64 p.lie.mtu, .int .i64 p.lie.link, .int .i64 p.lie.nonce, .int .i64 p.lie.seen, .int .i64 p.lie.seenLink, .int .i64 p.lie.seenNonce, .int .i64 p.lie.hold, .bool p.lie.rep, .bool p.lie.noOffer, .int .i64 p.tie.head.id.dir, .int .i64 p.tie.head.id.orig, .int .i64 p.tie.head.id.kind, .int .i64 p.tie.head.id.nr, .int .i64 p.tie.head.seq, .int .i64 p.tie.head.life, .int .i64 p.tie.level, .bool p.tie.over, .slice ae p.tie.edges.length ce, .slice ar p.tie.reaches.length cr, .int .i64 p.frm.dir, .int .i64 p.frm.orig, .int .i64 p.frm.kind, .int .i64 p.frm.nr, .int .i64 p.to.dir, .int .i64 p.to.orig, .int .i64 p.to.kind, .int .i64 p.to.nr, .slice ah p.heads.length ch] 36))
  have RP : RowKit.Hid (∀ W, Below (w.heap.size + 1) (w.alloc (.cells #[.int .i64 p.kind, .int .i64 p.lie.node, .int .i64 p.lie.level, .int .i64 p.lie.pod, .int .i64 p.lie.mtu, .int .i64 p.lie.link, .int .i64 p.lie.nonce, .int .i64 p.lie.seen, .int .i64 p.lie.seenLink, .int .i64 p.lie.seenNonce, .int .i64 p.lie.hold, .bool p.lie.rep, .bool p.lie.noOffer, .int .i64 p.tie.head.id.dir, .int .i64 p.tie.head.id.orig, .int .i64 p.tie.head.id.kind, .int .i64 p.tie.head.id.nr, .int .i64 p.tie.head.seq, .int .i64 p.tie.head.life, .int .i64 p.tie.level, .bool p.tie.over, .slice ae p.tie.edges.length ce, .slice ar p.tie.reaches.length cr, .int .i64 p.frm.dir, .int .i64 p.frm.orig, .int .i64 p.frm.kind, .int .i64 p.frm.nr, .int .i64 p.to.dir, .int .i64 p.to.orig, .int .i64 p.to.kind, .int .i64 p.to.nr, .slice ah p.heads.length ch] 36)) W → W.rangeAt w.heap.size 0 [.int .i64 p.kind, .int .i64 p.lie.node, .int .i64 p.lie.level, .int .i64 p.lie.pod, .int .i64 p.lie.mtu, .int .i64 p.lie.link, .int .i64 p.lie.nonce, .int .i64 p.lie.seen, .int .i64 p.lie.seenLink, .int .i64 p.lie.seenNonce, .int .i64 p.lie.hold, .bool p.lie.rep, .bool p.lie.noOffer, .int .i64 p.tie.head.id.dir, .int .i64 p.tie.head.id.orig, .int .i64 p.tie.head.id.kind, .int .i64 p.tie.head.id.nr, .int .i64 p.tie.head.seq, .int .i64 p.tie.head.life, .int .i64 p.tie.level, .bool p.tie.over, .slice ae p.tie.edges.length ce, .slice ar p.tie.reaches.length cr, .int .i64 p.frm.dir, .int .i64 p.frm.orig, .int .i64 p.frm.kind, .int .i64 p.frm.nr, .int .i64 p.to.dir, .int .i64 p.to.orig, .int .i64 p.to.kind, .int .i64 p.to.nr, .slice ah p.heads.length ch]) := fun W hb => box_range (World.alloc_heap_new w _) hb (Nat.lt_succ_self _)
  have HSZ : RowKit.Hid ((w.alloc (.cells #[.int .i64 p.kind, .int .i64 p.lie.node, .int .i64 p.lie.level, .int .i64 p.lie.pod, .int .i64 p.lie.mtu, .int .i64 p.lie.link, .int .i64 p.lie.nonce, .int .i64 p.lie.seen, .int .i64 p.lie.seenLink, .int .i64 p.lie.seenNonce, .int .i64 p.lie.hold, .bool p.lie.rep, .bool p.lie.noOffer, .int .i64 p.tie.head.id.dir, .int .i64 p.tie.head.id.orig, .int .i64 p.tie.head.id.kind, .int .i64 p.tie.head.id.nr, .int .i64 p.tie.head.seq, .int .i64 p.tie.head.life, .int .i64 p.tie.level, .bool p.tie.over, .slice ae p.tie.edges.length ce, .slice ar p.tie.reaches.length cr, .int .i64 p.frm.dir, .int .i64 p.frm.orig, .int .i64 p.frm.kind, .int .i64 p.frm.nr, .int .i64 p.to.dir, .int .i64 p.to.orig, .int .i64 p.to.kind, .int .i64 p.to.nr, .slice ah p.heads.length ch] 36)).heap.size = w.heap.size + 1) := by show _ = _; simp
  clear hp hf
  go_enter Tryd.func7, Tryd.ntmps7
  go_wp2_with (first
    | (go_at_call 8; refine (awakew_any _).mono ?_; rintro e w1 ⟨rfl, hb⟩; have B1 := Lib.hid (hb.mono (show w.heap.size + 1 ≤ _ by have := HSZ.out; omega)); clear hb)
    | (refine wpList_load_mid rfl 36 (.tmp 1) rfl _ _ rfl _ _ (RP.out _ B1.out) Tryd.underlying36 rfl (by kernel_rfl) ?_)
    | (go_at_call 17; refine (few3_any p ae ar ah ce cr ch _).mono ?_; rintro e w2 ⟨rfl, hb⟩; rw [H1.out]; have B2 := Lib.hid (B1.out.trans (hb.mono (by have := HSZ.out; have := B1.out.size; omega))); have BW2 := Lib.hid (HB0.out.trans (B2.out.mono (by omega))); clear hb))
  go_ret
  exact ⟨rfl, BW2.out⟩
set_option maxRecDepth 100000 in
set_option maxHeartbeats 8000000 in
theorem items_yes (p : PackT) (ae ar ah : Option Addr) (ce cr ch : Nat) (w : World) (hp : Pk w.heap.size w p ae ar ah ce cr ch) (hT : Tab w) (hf : few3 p = true) (hr : rightW p = true) :
    Calls Tryd.prog 7 #[.agg #[.int .i64 p.kind, .int .i64 p.lie.node, .int .i64 p.lie.level, .int .i64 p.lie.pod, .int .i64 p.lie.mtu, .int .i64 p.lie.link, .int .i64 p.lie.nonce, .int .i64 p.lie.seen, .int .i64 p.lie.seenLink, .int .i64 p.lie.seenNonce, .int .i64 p.lie.hold, .bool p.lie.rep, .bool p.lie.noOffer, .int .i64 p.tie.head.id.dir, .int .i64 p.tie.head.id.orig, .int .i64 p.tie.head.id.kind, .int .i64 p.tie.head.id.nr, .int .i64 p.tie.head.seq, .int .i64 p.tie.head.life, .int .i64 p.tie.level, .bool p.tie.over, .slice ae p.tie.edges.length ce, .slice ar p.tie.reaches.length cr, .int .i64 p.frm.dir, .int .i64 p.frm.orig, .int .i64 p.frm.kind, .int .i64 p.frm.nr, .int .i64 p.to.dir, .int .i64 p.to.orig, .int .i64 p.to.kind, .int .i64 p.to.nr, .slice ah p.heads.length ch]] w fun e w' => e = .returned (.bool true) ∧ Below w.heap.size w w' := by
  have H1 := Lib.hid hf
  have HR := Lib.hid hr
  have HP := Lib.hid hp
  have HT := Lib.hid hT
  have hpos := hT.pos
  have hlen := pos_items hr
  have hl1 := len_items p
  have HB0 := Lib.hid ((Below.refl w.heap.size w).alloc (Nat.le_refl _) (.cells #[.int .i64 p.kind, .int .i64 p.lie.node, .int .i64 p.lie.level, .int .i64 p.lie.pod, .int .i64 p.lie.mtu, .int .i64 p.lie.link, .int .i64 p.lie.nonce, .int .i64 p.lie.seen, .int .i64 p.lie.seenLink, .int .i64 p.lie.seenNonce, .int .i64 p.lie.hold, .bool p.lie.rep, .bool p.lie.noOffer, .int .i64 p.tie.head.id.dir, .int .i64 p.tie.head.id.orig, .int .i64 p.tie.head.id.kind, .int .i64 p.tie.head.id.nr, .int .i64 p.tie.head.seq, .int .i64 p.tie.head.life, .int .i64 p.tie.level, .bool p.tie.over, .slice ae p.tie.edges.length ce, .slice ar p.tie.reaches.length cr, .int .i64 p.frm.dir, .int .i64 p.frm.orig, .int .i64 p.frm.kind, .int .i64 p.frm.nr, .int .i64 p.to.dir, .int .i64 p.to.orig, .int .i64 p.to.kind, .int .i64 p.to.nr, .slice ah p.heads.length ch] 36))
  have RP : RowKit.Hid (∀ W, Below (w.heap.size + 1) (w.alloc (.cells #[.int .i64 p.kind, .int .i64 p.lie.node, .int .i64 p.lie.level, .int .i64 p.lie.pod, .int .i64 p.lie.mtu, .int .i64 p.lie.link, .int .i64 p.lie.nonce, .int .i64 p.lie.seen, .int .i64 p.lie.seenLink, .int .i64 p.lie.seenNonce, .int .i64 p.lie.hold, .bool p.lie.rep, .bool p.lie.noOffer, .int .i64 p.tie.head.id.dir, .int .i64 p.tie.head.id.orig, .int .i64 p.tie.head.id.kind, .int .i64 p.tie.head.id.nr, .int .i64 p.tie.head.seq, .int .i64 p.tie.head.life, .int .i64 p.tie.level, .bool p.tie.over, .slice ae p.tie.edges.length ce, .slice ar p.tie.reaches.length cr, .int .i64 p.frm.dir, .int .i64 p.frm.orig, .int .i64 p.frm.kind, .int .i64 p.frm.nr, .int .i64 p.to.dir, .int .i64 p.to.orig, .int .i64 p.to.kind, .int .i64 p.to.nr, .slice ah p.heads.length ch] 36)) W → W.rangeAt w.heap.size 0 [.int .i64 p.kind, .int .i64 p.lie.node, .int .i64 p.lie.level, .int .i64 p.lie.pod, .int .i64 p.lie.mtu, .int .i64 p.lie.link, .int .i64 p.lie.nonce, .int .i64 p.lie.seen, .int .i64 p.lie.seenLink, .int .i64 p.lie.seenNonce, .int .i64 p.lie.hold, .bool p.lie.rep, .bool p.lie.noOffer, .int .i64 p.tie.head.id.dir, .int .i64 p.tie.head.id.orig, .int .i64 p.tie.head.id.kind, .int .i64 p.tie.head.id.nr, .int .i64 p.tie.head.seq, .int .i64 p.tie.head.life, .int .i64 p.tie.level, .bool p.tie.over, .slice ae p.tie.edges.length ce, .slice ar p.tie.reaches.length cr, .int .i64 p.frm.dir, .int .i64 p.frm.orig, .int .i64 p.frm.kind, .int .i64 p.frm.nr, .int .i64 p.to.dir, .int .i64 p.to.orig, .int .i64 p.to.kind, .int .i64 p.to.nr, .slice ah p.heads.length ch]) := fun W hb => box_range (World.alloc_heap_new w _) hb (Nat.lt_succ_self _)
  have HSZ : RowKit.Hid ((w.alloc (.cells #[.int .i64 p.kind, .int .i64 p.lie.node, .int .i64 p.lie.level, .int .i64 p.lie.pod, .int .i64 p.lie.mtu, .int .i64 p.lie.link, .int .i64 p.lie.nonce, .int .i64 p.lie.seen, .int .i64 p.lie.seenLink, .int .i64 p.lie.seenNonce, .int .i64 p.lie.hold, .bool p.lie.rep, .bool p.lie.noOffer, .int .i64 p.tie.head.id.dir, .int .i64 p.tie.head.id.orig, .int .i64 p.tie.head.id.kind, .int .i64 p.tie.head.id.nr, .int .i64 p.tie.head.seq, .int .i64 p.tie.head.life, .int .i64 p.tie.level, .bool p.tie.over, .slice ae p.tie.edges.length ce, .slice ar p.tie.reaches.length cr, .int .i64 p.frm.dir, .int .i64 p.frm.orig, .int .i64 p.frm.kind, .int .i64 p.frm.nr, .int .i64 p.to.dir, .int .i64 p.to.orig, .int .i64 p.to.kind, .int .i64 p.to.nr, .slice ah p.heads.length ch] 36)).heap.size = w.heap.size + 1) := by show _ = _; simp
  clear hp hf hr hT
  go_enter Tryd.func7, Tryd.ntmps7
  go_wp2_with (first
    | (go_at_call 8; refine (awakew_any _).mono ?_; rintro e w1 ⟨rfl, hb⟩; have B1 := Lib.hid (hb.mono (show w.heap.size + 1 ≤ _ by have := HSZ.out; omega)); clear hb)
    | (refine wpList_load_mid rfl 36 (.tmp 1) rfl _ _ rfl _ _ (RP.out _ B4.out) Tryd.underlying36 rfl (by kernel_rfl) ?_)
    | (refine wpList_load_mid rfl 36 (.tmp 1) rfl _ _ rfl _ _ (RP.out _ B2.out) Tryd.underlying36 rfl (by kernel_rfl) ?_)
    | (refine wpList_load_mid rfl 36 (.tmp 1) rfl _ _ rfl _ _ (RP.out _ B1.out) Tryd.underlying36 rfl (by kernel_rfl) ?_)
    | (go_at_call 17; refine (few3_any p ae ar ah ce cr ch _).mono ?_; rintro e w2 ⟨rfl, hb⟩; rw [H1.out]; have B2 := Lib.hid (B1.out.trans (hb.mono (by have := HSZ.out; have := B1.out.size; omega))); have BW2 := Lib.hid (HB0.out.trans (B2.out.mono (by omega))); clear hb)
    | (go_at_call 19; refine (witems_any p ae ar ah ce cr ch w2 ((HP.out.below BW2.out).mono BW2.out.size)).mono ?_; rintro e w3 ⟨A, n, c, rfl, hn, hc, hm, hr, hb⟩; obtain ⟨m, rfl⟩ : ∃ m, n = m + 1 := ⟨n - 1, by omega⟩; have HN := Lib.hid hn; have R3 := Lib.hid hr; have B3 := Lib.hid (B2.out.trans (hb.mono (by have := HSZ.out; have := B2.out.size; omega))); have BW3 := Lib.hid (HB0.out.trans (B3.out.mono (by omega))); have T3 := Lib.hid (HT.out.below BW3.out hpos); clear hb hr hn)
    | (go_at_call 13; refine (wknown_any HN.out (by omega) (bs_items p) R3.out T3.out).mono ?_; rintro e w4 ⟨A4, n4, c4, rfl, hn4, hc4, hm4, hr4, hb⟩; rw [known_items] at hn4 hr4; have HN4 := Lib.hid hn4; have R4 := Lib.hid hr4; have R34 := Lib.hid ((R3.out.below hb).mono hb.size); have B4 := Lib.hid (B3.out.trans (hb.mono (by have := HSZ.out; have := B3.out.size; omega))); clear hb hr4 hn4)
    | (go_at_call 14; refine (same_n HN4.out HN.out (by omega) R4.out R34.out).mono ?_; rintro e w5 ⟨rfl, hb⟩; have R5 := Lib.hid ((R34.out.below hb).mono hb.size); have B5 := Lib.hid (B4.out.trans (hb.mono (by have := HSZ.out; have := B4.out.size; omega))); clear hb)
    | (go_at_call 16; refine (pright_n HN.out (by omega) R5.out (right_items p)).mono ?_; rintro e w6 ⟨rfl, hb⟩; have B6 := Lib.hid (B5.out.trans (hb.mono (by have := HSZ.out; have := B5.out.size; omega))); have BW6 := Lib.hid (HB0.out.trans (B6.out.mono (by omega))); clear hb)
    | (refine wpList_load_g 36 (.tmp 1) rfl _ _ rfl _ _ (RP.out _ B6.out) Tryd.underlying36 rfl (by kernel_rfl) (by rfl) ?_)
    | (go_at_call 18; refine (wright_any p ae ar ah ce cr ch w6 ((HP.out.below BW6.out).mono BW6.out.size)).mono ?_; rintro e w7 ⟨rfl, hb⟩; rw [HR.out]; have B7 := Lib.hid (B6.out.trans (hb.mono (by have := HSZ.out; have := B6.out.size; omega))); have BW7 := Lib.hid (HB0.out.trans (B7.out.mono (by omega))); clear hb))
  go_ret
  exact ⟨rfl, BW7.out⟩
set_option maxRecDepth 100000 in
set_option maxHeartbeats 8000000 in
theorem items_no (p : PackT) (ae ar ah : Option Addr) (ce cr ch : Nat) (w : World) (hp : Pk w.heap.size w p ae ar ah ce cr ch) (hT : Tab w) (hf : few3 p = true) (hr : rightW p = false) :
    Calls Tryd.prog 7 #[.agg #[.int .i64 p.kind, .int .i64 p.lie.node, .int .i64 p.lie.level, .int .i64 p.lie.pod, .int .i64 p.lie.mtu, .int .i64 p.lie.link, .int .i64 p.lie.nonce, .int .i64 p.lie.seen, .int .i64 p.lie.seenLink, .int .i64 p.lie.seenNonce, .int .i64 p.lie.hold, .bool p.lie.rep, .bool p.lie.noOffer, .int .i64 p.tie.head.id.dir, .int .i64 p.tie.head.id.orig, .int .i64 p.tie.head.id.kind, .int .i64 p.tie.head.id.nr, .int .i64 p.tie.head.seq, .int .i64 p.tie.head.life, .int .i64 p.tie.level, .bool p.tie.over, .slice ae p.tie.edges.length ce, .slice ar p.tie.reaches.length cr, .int .i64 p.frm.dir, .int .i64 p.frm.orig, .int .i64 p.frm.kind, .int .i64 p.frm.nr, .int .i64 p.to.dir, .int .i64 p.to.orig, .int .i64 p.to.kind, .int .i64 p.to.nr, .slice ah p.heads.length ch]] w fun e w' => e = .returned (.bool true) ∧ Below w.heap.size w w' := by
  have H1 := Lib.hid hf
  have HR := Lib.hid hr
  have HP := Lib.hid hp
  have HT := Lib.hid hT
  have hpos := hT.pos
  have hlen := nil_items hr
  have hl1 := len_items p
  have HB0 := Lib.hid ((Below.refl w.heap.size w).alloc (Nat.le_refl _) (.cells #[.int .i64 p.kind, .int .i64 p.lie.node, .int .i64 p.lie.level, .int .i64 p.lie.pod, .int .i64 p.lie.mtu, .int .i64 p.lie.link, .int .i64 p.lie.nonce, .int .i64 p.lie.seen, .int .i64 p.lie.seenLink, .int .i64 p.lie.seenNonce, .int .i64 p.lie.hold, .bool p.lie.rep, .bool p.lie.noOffer, .int .i64 p.tie.head.id.dir, .int .i64 p.tie.head.id.orig, .int .i64 p.tie.head.id.kind, .int .i64 p.tie.head.id.nr, .int .i64 p.tie.head.seq, .int .i64 p.tie.head.life, .int .i64 p.tie.level, .bool p.tie.over, .slice ae p.tie.edges.length ce, .slice ar p.tie.reaches.length cr, .int .i64 p.frm.dir, .int .i64 p.frm.orig, .int .i64 p.frm.kind, .int .i64 p.frm.nr, .int .i64 p.to.dir, .int .i64 p.to.orig, .int .i64 p.to.kind, .int .i64 p.to.nr, .slice ah p.heads.length ch] 36))
  have RP : RowKit.Hid (∀ W, Below (w.heap.size + 1) (w.alloc (.cells #[.int .i64 p.kind, .int .i64 p.lie.node, .int .i64 p.lie.level, .int .i64 p.lie.pod, .int .i64 p.lie.mtu, .int .i64 p.lie.link, .int .i64 p.lie.nonce, .int .i64 p.lie.seen, .int .i64 p.lie.seenLink, .int .i64 p.lie.seenNonce, .int .i64 p.lie.hold, .bool p.lie.rep, .bool p.lie.noOffer, .int .i64 p.tie.head.id.dir, .int .i64 p.tie.head.id.orig, .int .i64 p.tie.head.id.kind, .int .i64 p.tie.head.id.nr, .int .i64 p.tie.head.seq, .int .i64 p.tie.head.life, .int .i64 p.tie.level, .bool p.tie.over, .slice ae p.tie.edges.length ce, .slice ar p.tie.reaches.length cr, .int .i64 p.frm.dir, .int .i64 p.frm.orig, .int .i64 p.frm.kind, .int .i64 p.frm.nr, .int .i64 p.to.dir, .int .i64 p.to.orig, .int .i64 p.to.kind, .int .i64 p.to.nr, .slice ah p.heads.length ch] 36)) W → W.rangeAt w.heap.size 0 [.int .i64 p.kind, .int .i64 p.lie.node, .int .i64 p.lie.level, .int .i64 p.lie.pod, .int .i64 p.lie.mtu, .int .i64 p.lie.link, .int .i64 p.lie.nonce, .int .i64 p.lie.seen, .int .i64 p.lie.seenLink, .int .i64 p.lie.seenNonce, .int .i64 p.lie.hold, .bool p.lie.rep, .bool p.lie.noOffer, .int .i64 p.tie.head.id.dir, .int .i64 p.tie.head.id.orig, .int .i64 p.tie.head.id.kind, .int .i64 p.tie.head.id.nr, .int .i64 p.tie.head.seq, .int .i64 p.tie.head.life, .int .i64 p.tie.level, .bool p.tie.over, .slice ae p.tie.edges.length ce, .slice ar p.tie.reaches.length cr, .int .i64 p.frm.dir, .int .i64 p.frm.orig, .int .i64 p.frm.kind, .int .i64 p.frm.nr, .int .i64 p.to.dir, .int .i64 p.to.orig, .int .i64 p.to.kind, .int .i64 p.to.nr, .slice ah p.heads.length ch]) := fun W hb => box_range (World.alloc_heap_new w _) hb (Nat.lt_succ_self _)
  have HSZ : RowKit.Hid ((w.alloc (.cells #[.int .i64 p.kind, .int .i64 p.lie.node, .int .i64 p.lie.level, .int .i64 p.lie.pod, .int .i64 p.lie.mtu, .int .i64 p.lie.link, .int .i64 p.lie.nonce, .int .i64 p.lie.seen, .int .i64 p.lie.seenLink, .int .i64 p.lie.seenNonce, .int .i64 p.lie.hold, .bool p.lie.rep, .bool p.lie.noOffer, .int .i64 p.tie.head.id.dir, .int .i64 p.tie.head.id.orig, .int .i64 p.tie.head.id.kind, .int .i64 p.tie.head.id.nr, .int .i64 p.tie.head.seq, .int .i64 p.tie.head.life, .int .i64 p.tie.level, .bool p.tie.over, .slice ae p.tie.edges.length ce, .slice ar p.tie.reaches.length cr, .int .i64 p.frm.dir, .int .i64 p.frm.orig, .int .i64 p.frm.kind, .int .i64 p.frm.nr, .int .i64 p.to.dir, .int .i64 p.to.orig, .int .i64 p.to.kind, .int .i64 p.to.nr, .slice ah p.heads.length ch] 36)).heap.size = w.heap.size + 1) := by show _ = _; simp
  clear hp hf hr hT
  go_enter Tryd.func7, Tryd.ntmps7
  go_wp2_with (first
    | (go_at_call 8; refine (awakew_any _).mono ?_; rintro e w1 ⟨rfl, hb⟩; have B1 := Lib.hid (hb.mono (show w.heap.size + 1 ≤ _ by have := HSZ.out; omega)); clear hb)
    | (refine wpList_load_mid rfl 36 (.tmp 1) rfl _ _ rfl _ _ (RP.out _ B4.out) Tryd.underlying36 rfl (by kernel_rfl) ?_)
    | (refine wpList_load_mid rfl 36 (.tmp 1) rfl _ _ rfl _ _ (RP.out _ B2.out) Tryd.underlying36 rfl (by kernel_rfl) ?_)
    | (refine wpList_load_mid rfl 36 (.tmp 1) rfl _ _ rfl _ _ (RP.out _ B1.out) Tryd.underlying36 rfl (by kernel_rfl) ?_)
    | (go_at_call 17; refine (few3_any p ae ar ah ce cr ch _).mono ?_; rintro e w2 ⟨rfl, hb⟩; rw [H1.out]; have B2 := Lib.hid (B1.out.trans (hb.mono (by have := HSZ.out; have := B1.out.size; omega))); have BW2 := Lib.hid (HB0.out.trans (B2.out.mono (by omega))); clear hb)
    | (go_at_call 19; refine (witems_any p ae ar ah ce cr ch w2 ((HP.out.below BW2.out).mono BW2.out.size)).mono ?_; rintro e w3 ⟨A, n, c, rfl, hn, hc, hm, hr, hb⟩; obtain rfl : n = 0 := hn.trans hlen; have HN := Lib.hid hn; have R3 := Lib.hid hr; have B3 := Lib.hid (B2.out.trans (hb.mono (by have := HSZ.out; have := B2.out.size; omega))); have BW3 := Lib.hid (HB0.out.trans (B3.out.mono (by omega))); have T3 := Lib.hid (HT.out.below BW3.out hpos); clear hb hr hn)
    | (go_at_call 13; refine (wknown_any HN.out (by omega) (bs_items p) R3.out T3.out).mono ?_; rintro e w4 ⟨A4, n4, c4, rfl, hn4, hc4, hm4, hr4, hb⟩; rw [known_items] at hn4 hr4; have HN4 := Lib.hid hn4; have R4 := Lib.hid hr4; have R34 := Lib.hid ((R3.out.below hb).mono hb.size); have B4 := Lib.hid (B3.out.trans (hb.mono (by have := HSZ.out; have := B3.out.size; omega))); clear hb hr4 hn4)
    | (go_at_call 14; refine (same_n HN4.out HN.out (by omega) R4.out R34.out).mono ?_; rintro e w5 ⟨rfl, hb⟩; have R5 := Lib.hid ((R34.out.below hb).mono hb.size); have B5 := Lib.hid (B4.out.trans (hb.mono (by have := HSZ.out; have := B4.out.size; omega))); clear hb)
    | (go_at_call 16; refine (pright_n HN.out (by omega) R5.out (right_items p)).mono ?_; rintro e w6 ⟨rfl, hb⟩; have B6 := Lib.hid (B5.out.trans (hb.mono (by have := HSZ.out; have := B5.out.size; omega))); have BW6 := Lib.hid (HB0.out.trans (B6.out.mono (by omega))); clear hb)
    | (refine wpList_load_g 36 (.tmp 1) rfl _ _ rfl _ _ (RP.out _ B6.out) Tryd.underlying36 rfl (by kernel_rfl) (by rfl) ?_)
    | (go_at_call 18; refine (wright_any p ae ar ah ce cr ch w6 ((HP.out.below BW6.out).mono BW6.out.size)).mono ?_; rintro e w7 ⟨rfl, hb⟩; rw [HR.out]; have B7 := Lib.hid (B6.out.trans (hb.mono (by have := HSZ.out; have := B6.out.size; omega))); have BW7 := Lib.hid (HB0.out.trans (B7.out.mono (by omega))); clear hb))
  go_ret
  exact ⟨rfl, BW7.out⟩
end Go.Proofs.YtgngcpbkopjjlaaDoor

/-
  WireRight: what is decoded of any bytes may be, and has bytes that are decoded as it: mathematics and walks.
-/
namespace Go.Proofs.YtgngcpbkopjjlaaDoor
open Go.RowKit Go.Shelf
set_option linter.unusedVariables false

theorem encL_range {l : List It} (hok : ∀ x ∈ l, x.ok) : ∀ y ∈ encL l, 0 ≤ y ∧ y ≤ 255 := by
  intro y hy
  obtain ⟨x, hx, hy⟩ := List.mem_flatMap.1 hy
  unfold itemL at hy
  rcases List.mem_append.1 hy with h | h
  · exact putL_range _ y h
  · split at h
    · exact putL_range _ y h
    · split at h
      · rcases List.mem_append.1 h with h | h
        · exact putL_range _ y h
        · exact wf_u8 ((hok x hx).2.2.2 y h)
      · simp at h
theorem encL_sub {a b : List It} (h : a.Sublist b) : (encL a).length ≤ (encL b).length := by
  induction h with
  | slnil => exact Nat.le_refl _
  | @cons l m x _ ih =>
    have e : encL (x :: m) = itemL x ++ encL m := by simp [encL]
    rw [e, List.length_append]
    omega
  | @cons_cons l m x _ ih =>
    have e : encL (x :: m) = itemL x ++ encL m := by simp [encL]
    have e2 : encL (x :: l) = itemL x ++ encL l := by simp [encL]
    rw [e, e2, List.length_append, List.length_append]
    omega
theorem right_mem {l : List It} (h : rightB l = true) : ∀ x ∈ l, shapeB x = true := right_shape l 0 h
/-- What is decoded of any bytes may be, and its bytes are no more. -/
theorem dec_sound {zs : List Int} {q : PackT} (hz : ∀ x ∈ zs, 0 ≤ x ∧ x ≤ 255) (h : decW zs = some q) : rightW q = true ∧ ShortP q ∧ (encL (packI q)).length ≤ zs.length ∧ zs.length ≤ 4096 := by
  unfold decW at h
  rcases hd : decB zs with _ | l
  · rw [hd] at h; cases h
  · rw [hd] at h
    simp only at h
    obtain ⟨e1, e2, e3, e4, e5⟩ := dec_bs hz hd
    by_cases ho : (readS (knownP l)).2 = true
    · rw [if_pos ho] at h
      injection h with h
      obtain ⟨h1, h2⟩ := read_sound (right_mem (known_right e1).1) ho
      rw [h] at h1 h2
      have hs := short_read (knownP l)
      rw [h] at hs
      have := encL_sub (knownP_sub l)
      rw [← h1, ← e2]
      exact ⟨h2, hs, this, by rw [e2]; exact e5⟩
    · rw [if_neg ho] at h; cases h
/-- A record whose known fields are a packet's is decoded as it. -/
theorem dec_known {l : List It} {q : PackT} (hl : rightB l = true) (hok : ∀ x ∈ l, x.ok ∧ x.bs.length < 9223372036854775808) (hk : knownP l = packI q) (hr : rightW q = true) (hs : ∀ y ∈ q.tie.reaches, y.ok) (h4 : (encL l).length ≤ 4096) : decW (encL l) = some q := by
  have hd : decS (encL l).length (encL l) = some l := dec_enc l (fun x hx => ⟨right_mem hl x hx, (hok x hx).1, (hok x hx).2⟩) _ (Nat.le_refl _)
  have hb : decB (encL l) = some l := by
    unfold decB
    rw [if_neg (by omega), hd]
    simp only
    rw [if_pos hl]
  unfold decW
  rw [hb]
  simp only
  rw [hk, read_back hs hr]
  rfl
theorem pack_all {q : PackT} (hr : rightW q = true) : ∀ x ∈ packI q, x.ok ∧ x.bs.length < 9223372036854775808 := by
  intro x hx
  have hb := pack_bs hr x hx
  rw [rightW, Bool.and_eq_true] at hr
  exact ⟨((good_pack hr.1).2 x hx).2, by rw [hb]; simp⟩
theorem dec_back {q : PackT} (hr : rightW q = true) (hs : ∀ y ∈ q.tie.reaches, y.ok) (h4 : (encL (packI q)).length ≤ 4096) : decW (encL (packI q)) = some q :=
  dec_known (pack_rightB hr) (pack_all hr) (known_pack (by rw [rightW, Bool.and_eq_true] at hr; exact hr.1)) hr hs h4
/-- A packet in memory of its own. -/
def GotP (q : PackT) (w : World) (e : Ending) (w' : World) : Prop :=
  ∃ (Ae Ar Ah : Option Addr) (Ce Cr Ch : Nat), e = .returned (.tuple #[.agg #[.int .i64 q.kind, .int .i64 q.lie.node, .int .i64 q.lie.level, .int .i64 q.lie.pod, .int .i64 q.lie.mtu, .int .i64 q.lie.link, .int .i64 q.lie.nonce, .int .i64 q.lie.seen, .int .i64 q.lie.seenLink, .int .i64 q.lie.seenNonce, .int .i64 q.lie.hold, .bool q.lie.rep, .bool q.lie.noOffer, .int .i64 q.tie.head.id.dir, .int .i64 q.tie.head.id.orig, .int .i64 q.tie.head.id.kind, .int .i64 q.tie.head.id.nr, .int .i64 q.tie.head.seq, .int .i64 q.tie.head.life, .int .i64 q.tie.level, .bool q.tie.over, .slice Ae q.tie.edges.length Ce, .slice Ar q.tie.reaches.length Cr, .int .i64 q.frm.dir, .int .i64 q.frm.orig, .int .i64 q.frm.kind, .int .i64 q.frm.nr, .int .i64 q.to.dir, .int .i64 q.to.orig, .int .i64 q.to.kind, .int .i64 q.to.nr, .slice Ah q.heads.length Ch], .int .i64 0]) ∧ Pk w'.heap.size w' q Ae Ar Ah Ce Cr Ch ∧ Below w.heap.size w w'
theorem DecOut.got {r : Option PackT} {q : PackT} (h : r = some q) {w w' : World} {e : Ending} (hd : DecOut r w e w') : GotP q w e w' := by
  subst h
  exact hd
theorem DecOut.form {r : Option PackT} (h : r = none) {w w' : World} {e : Ending} (hd : DecOut r w e w') : e = .returned (.tuple #[.agg #[.int .i64 0, .int .i64 0, .int .i64 0, .int .i64 0, .int .i64 0, .int .i64 0, .int .i64 0, .int .i64 0, .int .i64 0, .int .i64 0, .int .i64 0, .bool false, .bool false, .int .i64 0, .int .i64 0, .int .i64 0, .int .i64 0, .int .i64 0, .int .i64 0, .int .i64 0, .bool false, .slice none 0 0, .slice none 0 0, .int .i64 0, .int .i64 0, .int .i64 0, .int .i64 0, .int .i64 0, .int .i64 0, .int .i64 0, .int .i64 0, .slice none 0 0], .int .i64 2]) ∧ Below w.heap.size w w' := by
  subst h
  exact hd
theorem wdec_some {a : Option Addr} {n cap : Nat} {zs : List Int} {q : PackT} (hn : n = zs.length) (hq : decW zs = some q) (hlen : zs.length ≤ 9223372036854775807) (hcap : n ≤ cap) (hcm : cap ≤ 9223372036854775807) (hz : ∀ x ∈ zs, 0 ≤ x ∧ x ≤ 255) {w : World} (hr : Rd .u8 w.heap.size w a zs) (hT : Tab w) :
    Calls Tryd.prog 9 #[.slice a n cap] w (GotP q w) := by
  subst hn
  exact (wdec_any a cap zs hlen hcap hcm hz w hr hT).mono fun e w' h => h.got hq
theorem wdec_none {a : Option Addr} {n cap : Nat} {zs : List Int} (hn : n = zs.length) (hq : decW zs = none) (hlen : zs.length ≤ 9223372036854775807) (hcap : n ≤ cap) (hcm : cap ≤ 9223372036854775807) (hz : ∀ x ∈ zs, 0 ≤ x ∧ x ≤ 255) {w : World} (hr : Rd .u8 w.heap.size w a zs) (hT : Tab w) :
    Calls Tryd.prog 9 #[.slice a n cap] w fun e w' => e = .returned (.tuple #[.agg #[.int .i64 0, .int .i64 0, .int .i64 0, .int .i64 0, .int .i64 0, .int .i64 0, .int .i64 0, .int .i64 0, .int .i64 0, .int .i64 0, .int .i64 0, .bool false, .bool false, .int .i64 0, .int .i64 0, .int .i64 0, .int .i64 0, .int .i64 0, .int .i64 0, .int .i64 0, .bool false, .slice none 0 0, .slice none 0 0, .int .i64 0, .int .i64 0, .int .i64 0, .int .i64 0, .int .i64 0, .int .i64 0, .int .i64 0, .int .i64 0, .slice none 0 0], .int .i64 2]) ∧ Below w.heap.size w w' := by
  subst hn
  exact (wdec_any a cap zs hlen hcap hcm hz w hr hT).mono fun e w' h => h.form hq
/-- The same packets are the same. -/
theorem same_self (q : PackT) (ae ar ah be br bh : Option Addr) (ce cr ch de dr dh : Nat) (w : World) (hp : Pk w.heap.size w q ae ar ah ce cr ch) (hq : Pk w.heap.size w q be br bh de dr dh) :
    Calls Tryd.prog 11 #[.agg #[.int .i64 q.kind, .int .i64 q.lie.node, .int .i64 q.lie.level, .int .i64 q.lie.pod, .int .i64 q.lie.mtu, .int .i64 q.lie.link, .int .i64 q.lie.nonce, .int .i64 q.lie.seen, .int .i64 q.lie.seenLink, .int .i64 q.lie.seenNonce, .int .i64 q.lie.hold, .bool q.lie.rep, .bool q.lie.noOffer, .int .i64 q.tie.head.id.dir, .int .i64 q.tie.head.id.orig, .int .i64 q.tie.head.id.kind, .int .i64 q.tie.head.id.nr, .int .i64 q.tie.head.seq, .int .i64 q.tie.head.life, .int .i64 q.tie.level, .bool q.tie.over, .slice ae q.tie.edges.length ce, .slice ar q.tie.reaches.length cr, .int .i64 q.frm.dir, .int .i64 q.frm.orig, .int .i64 q.frm.kind, .int .i64 q.frm.nr, .int .i64 q.to.dir, .int .i64 q.to.orig, .int .i64 q.to.kind, .int .i64 q.to.nr, .slice ah q.heads.length ch], .agg #[.int .i64 q.kind, .int .i64 q.lie.node, .int .i64 q.lie.level, .int .i64 q.lie.pod, .int .i64 q.lie.mtu, .int .i64 q.lie.link, .int .i64 q.lie.nonce, .int .i64 q.lie.seen, .int .i64 q.lie.seenLink, .int .i64 q.lie.seenNonce, .int .i64 q.lie.hold, .bool q.lie.rep, .bool q.lie.noOffer, .int .i64 q.tie.head.id.dir, .int .i64 q.tie.head.id.orig, .int .i64 q.tie.head.id.kind, .int .i64 q.tie.head.id.nr, .int .i64 q.tie.head.seq, .int .i64 q.tie.head.life, .int .i64 q.tie.level, .bool q.tie.over, .slice be q.tie.edges.length de, .slice br q.tie.reaches.length dr, .int .i64 q.frm.dir, .int .i64 q.frm.orig, .int .i64 q.frm.kind, .int .i64 q.frm.nr, .int .i64 q.to.dir, .int .i64 q.to.orig, .int .i64 q.to.kind, .int .i64 q.to.nr, .slice bh q.heads.length dh]] w fun e w' => e = .returned (.bool true) ∧ Below w.heap.size w w' := by
  refine (same3_any q q ae ar ah be br bh ce cr ch de dr dh w hp hq).mono ?_
  rintro e w' ⟨r, rfl, hr, hb⟩
  rw [hr.2 rfl]
  exact ⟨rfl, hb⟩
theorem zero_pk (w : World) : Pk w.heap.size w PackT.zero none none none 0 0 0 :=
  ⟨fun h => by simp [PackT.zero, TieT.zero] at h, fun h => by simp [PackT.zero, TieT.zero] at h, fun h => by simp [PackT.zero] at h, ⟨by simp [PackT.zero, TieT.zero], by simp [PackT.zero, TieT.zero], Nat.zero_le _⟩, ⟨by simp [PackT.zero, TieT.zero], by simp [PackT.zero, TieT.zero], Nat.zero_le _⟩, ⟨by simp [PackT.zero], by simp [PackT.zero], Nat.zero_le _⟩, fun y hy => by simp [PackT.zero, TieT.zero] at hy⟩
theorem same_zero (w : World) : Calls Tryd.prog 11 #[.agg #[.int .i64 0, .int .i64 0, .int .i64 0, .int .i64 0, .int .i64 0, .int .i64 0, .int .i64 0, .int .i64 0, .int .i64 0, .int .i64 0, .int .i64 0, .bool false, .bool false, .int .i64 0, .int .i64 0, .int .i64 0, .int .i64 0, .int .i64 0, .int .i64 0, .int .i64 0, .bool false, .slice none 0 0, .slice none 0 0, .int .i64 0, .int .i64 0, .int .i64 0, .int .i64 0, .int .i64 0, .int .i64 0, .int .i64 0, .int .i64 0, .slice none 0 0], .agg #[.int .i64 0, .int .i64 0, .int .i64 0, .int .i64 0, .int .i64 0, .int .i64 0, .int .i64 0, .int .i64 0, .int .i64 0, .int .i64 0, .int .i64 0, .bool false, .bool false, .int .i64 0, .int .i64 0, .int .i64 0, .int .i64 0, .int .i64 0, .int .i64 0, .int .i64 0, .bool false, .slice none 0 0, .slice none 0 0, .int .i64 0, .int .i64 0, .int .i64 0, .int .i64 0, .int .i64 0, .int .i64 0, .int .i64 0, .int .i64 0, .slice none 0 0]] w fun e w' => e = .returned (.bool true) ∧ Below w.heap.size w w' :=
  same_self PackT.zero none none none none none none 0 0 0 0 0 0 w (zero_pk w) (zero_pk w)
/-- A packet was put into a box. -/
theorem boxed_pk {w w1 W : World} {q : PackT} {Ae Ar Ah : Option Addr} {Ce Cr Ch : Nat} {cs : List Value} (hW : (w1.alloc (.cells #[.int .i64 0, .int .i64 0, .int .i64 0, .int .i64 0, .int .i64 0, .int .i64 0, .int .i64 0, .int .i64 0, .int .i64 0, .int .i64 0, .int .i64 0, .bool false, .bool false, .int .i64 0, .int .i64 0, .int .i64 0, .int .i64 0, .int .i64 0, .int .i64 0, .int .i64 0, .bool false, .slice none 0 0, .slice none 0 0, .int .i64 0, .int .i64 0, .int .i64 0, .int .i64 0, .int .i64 0, .int .i64 0, .int .i64 0, .int .i64 0, .slice none 0 0] 36)).setCells w1.heap.size 0 cs = W) (hb : Below w.heap.size w w1) (hp : Pk w1.heap.size w1 q Ae Ar Ah Ce Cr Ch) : Pk W.heap.size W q Ae Ar Ah Ce Cr Ch ∧ Below w.heap.size w W ∧ W.heap.size = w1.heap.size + 1 := by
  have h1 : Below w1.heap.size w1 W := by
    rw [← hW]
    exact below_cells ((Below.refl _ _).alloc (Nat.le_refl _) _) (Nat.le_refl _) _ _
  have h2 : W.heap.size = w1.heap.size + 1 := by rw [← hW, size_cells]; simp
  exact ⟨(hp.below h1).mono h1.size, hb.trans (h1.mono hb.size), h2⟩
theorem boxed_range {w1 W : World} {cs : List Value} (hc : cs.length ≤ 32) (hW : (w1.alloc (.cells #[.int .i64 0, .int .i64 0, .int .i64 0, .int .i64 0, .int .i64 0, .int .i64 0, .int .i64 0, .int .i64 0, .int .i64 0, .int .i64 0, .int .i64 0, .bool false, .bool false, .int .i64 0, .int .i64 0, .int .i64 0, .int .i64 0, .int .i64 0, .int .i64 0, .int .i64 0, .bool false, .slice none 0 0, .slice none 0 0, .int .i64 0, .int .i64 0, .int .i64 0, .int .i64 0, .int .i64 0, .int .i64 0, .int .i64 0, .int .i64 0, .slice none 0 0] 36)).setCells w1.heap.size 0 cs = W) : W.rangeAt w1.heap.size 0 cs := by
  rw [← hW]
  exact World.rangeAt_setCells_same _ _ _ _ (there_of (World.alloc_heap_new w1 _) hc)
theorem range_below {W W' : World} {b n : Nat} {cs : List Value} (h : W.rangeAt b 0 cs) (hb : Below n W W') (hlt : b < n) : W'.rangeAt b 0 cs := fun j v hv => (hb.cell (p := ⟨b, 0 + j, none⟩) hlt).trans (h j v hv)
set_option maxRecDepth 100000 in
set_option maxHeartbeats 8000000 in
theorem wr_long (a : Option Addr) (cap : Nat) (zs : List Int) (hcap : zs.length ≤ cap) (hcm : cap ≤ 9223372036854775807) (hz : ∀ x ∈ zs, 0 ≤ x ∧ x ≤ 255) (w : World) (hr : Rd .u8 w.heap.size w a zs) (h5 : 5000 < zs.length) : Calls Tryd.prog 6 #[.slice a zs.length cap] w fun e w' => e = .returned (.bool true) ∧ Below w.heap.size w w' := by
  clear hz hr
  go_enter Tryd.func6, Tryd.ntmps6
  go_wp2_with (go_at_call 8; refine (awakew_any _).mono ?_; rintro e w1 ⟨rfl, hb⟩; have B1 := Lib.hid hb; clear hb)
  go_ret
  exact ⟨rfl, B1.out⟩
set_option maxRecDepth 100000 in
set_option maxHeartbeats 8000000 in
theorem wr_none (a : Option Addr) (cap : Nat) (zs : List Int) (hcap : zs.length ≤ cap) (hcm : cap ≤ 9223372036854775807) (hz : ∀ x ∈ zs, 0 ≤ x ∧ x ≤ 255) (w : World) (hr : Rd .u8 w.heap.size w a zs) (hT : Tab w) (h5 : ¬ 5000 < zs.length) (hd : decW zs = none) : Calls Tryd.prog 6 #[.slice a zs.length cap] w fun e w' => e = .returned (.bool true) ∧ Below w.heap.size w w' := by
  have hpos := hT.pos
  have HD := Lib.hid (fun (W : World) (hW : Below w.heap.size w W) => wdec_none (a := a) (cap := cap) rfl hd (by omega) hcap hcm hz ((hr.below hW).mono hW.size) (hT.below hW hpos))
  have BXZ : True := trivial
  clear hz hr hT hd
  go_enter Tryd.func6, Tryd.ntmps6
  go_wp2_with (first
    | (go_at_call 8; refine (awakew_any _).mono ?_; rintro e w1 ⟨rfl, hb⟩; have B1 := Lib.hid hb; clear hb)
    | (go_at_call 9; refine (HD.out w1 B1.out).mono ?_; rintro e w2 ⟨rfl, hb⟩; have B2 := Lib.hid (B1.out.trans (hb.mono B1.out.size)); have THw2 := Lib.hid (there_of (n := 32) (World.alloc_heap_new w2 (.cells #[.int .i64 0, .int .i64 0, .int .i64 0, .int .i64 0, .int .i64 0, .int .i64 0, .int .i64 0, .int .i64 0, .int .i64 0, .int .i64 0, .int .i64 0, .bool false, .bool false, .int .i64 0, .int .i64 0, .int .i64 0, .int .i64 0, .int .i64 0, .int .i64 0, .int .i64 0, .bool false, .slice none 0 0, .slice none 0 0, .int .i64 0, .int .i64 0, .int .i64 0, .int .i64 0, .int .i64 0, .int .i64 0, .int .i64 0, .int .i64 0, .slice none 0 0] 36)) (Nat.le_refl _)); have PK2 := Lib.hid (zero_pk w2); clear hb)
    | (refine wpList_store_mid rfl 36 (.tmp 4) (.tmp 23) rfl w2.heap.size 0 #[.int .i64 0, .int .i64 0, .int .i64 0, .int .i64 0, .int .i64 0, .int .i64 0, .int .i64 0, .int .i64 0, .int .i64 0, .int .i64 0, .int .i64 0, .bool false, .bool false, .int .i64 0, .int .i64 0, .int .i64 0, .int .i64 0, .int .i64 0, .int .i64 0, .int .i64 0, .bool false, .slice none 0 0, .slice none 0 0, .int .i64 0, .int .i64 0, .int .i64 0, .int .i64 0, .int .i64 0, .int .i64 0, .int .i64 0, .int .i64 0, .slice none 0 0] rfl rfl THw2.out (by kernel_rfl) (by simp [Value.oneCell']) ?_; obtain ⟨W4, hW⟩ : ∃ W, (w2.alloc (.cells #[.int .i64 0, .int .i64 0, .int .i64 0, .int .i64 0, .int .i64 0, .int .i64 0, .int .i64 0, .int .i64 0, .int .i64 0, .int .i64 0, .int .i64 0, .bool false, .bool false, .int .i64 0, .int .i64 0, .int .i64 0, .int .i64 0, .int .i64 0, .int .i64 0, .int .i64 0, .bool false, .slice none 0 0, .slice none 0 0, .int .i64 0, .int .i64 0, .int .i64 0, .int .i64 0, .int .i64 0, .int .i64 0, .int .i64 0, .int .i64 0, .slice none 0 0] 36)).setCells w2.heap.size 0 [.int .i64 0, .int .i64 0, .int .i64 0, .int .i64 0, .int .i64 0, .int .i64 0, .int .i64 0, .int .i64 0, .int .i64 0, .int .i64 0, .int .i64 0, .bool false, .bool false, .int .i64 0, .int .i64 0, .int .i64 0, .int .i64 0, .int .i64 0, .int .i64 0, .int .i64 0, .bool false, .slice none 0 0, .slice none 0 0, .int .i64 0, .int .i64 0, .int .i64 0, .int .i64 0, .int .i64 0, .int .i64 0, .int .i64 0, .int .i64 0, .slice none 0 0] = W := ⟨_, rfl⟩; rw [hW]; obtain ⟨hpk, hbw, hsz⟩ := boxed_pk hW B2.out PK2.out; have PK4 := Lib.hid hpk; have B4 := Lib.hid hbw; have S4 := Lib.hid hsz; have RG4 := Lib.hid (boxed_range (Nat.le_refl _) hW); clear hpk hbw hsz hW)
    | (refine wpList_load_g 36 (.tmp 4) rfl _ _ rfl _ _ RG4.out Tryd.underlying36 rfl (by kernel_rfl) (by rfl) ?_)
    | (go_at_call 11; refine (same_zero _).mono ?_; rintro e w5 ⟨rfl, hb⟩; have B5 := Lib.hid (B4.out.trans (hb.mono B4.out.size)); clear hb))
  go_ret
  exact ⟨rfl, B5.out⟩
set_option maxRecDepth 100000 in
set_option maxHeartbeats 8000000 in
theorem wr_some (a : Option Addr) (cap : Nat) (zs : List Int) (hcap : zs.length ≤ cap) (hcm : cap ≤ 9223372036854775807) (hz : ∀ x ∈ zs, 0 ≤ x ∧ x ≤ 255) (w : World) (hr : Rd .u8 w.heap.size w a zs) (hT : Tab w) (h5 : ¬ 5000 < zs.length) (q : PackT) (hd : decW zs = some q) : Calls Tryd.prog 6 #[.slice a zs.length cap] w fun e w' => e = .returned (.bool true) ∧ Below w.heap.size w w' := by
  have hpos := hT.pos
  obtain ⟨hq1, hq2, hq3, hq4⟩ := dec_sound hz hd
  obtain ⟨ys, hys⟩ : ∃ ys, encL (packI q) = ys := ⟨_, rfl⟩
  have hyb : ∀ x ∈ ys, 0 ≤ x ∧ x ≤ 255 := by rw [← hys]; exact encL_range (fun x hx => (pack_all hq1 x hx).1)
  have hyd : decW ys = some q := by rw [← hys]; exact dec_back hq1 hq2.2.2.2 (by omega)
  have HE := Lib.hid (fun (Ae Ar Ah : Option Addr) (Ce Cr Ch : Nat) (W : World) (hp : Pk W.heap.size W q Ae Ar Ah Ce Cr Ch) => wenc_ok q Ae Ar Ah Ce Cr Ch W hp hq1 (by omega) ys hys)
  rw [hys] at hq3
  have HD := Lib.hid (fun (W : World) (hW : Below w.heap.size w W) => wdec_some (a := a) (cap := cap) rfl hd (by omega) hcap hcm hz ((hr.below hW).mono hW.size) (hT.below hW hpos))
  have HD2 := Lib.hid (fun (A : Option Addr) (c : Nat) (hc : ys.length ≤ c) (hm : c ≤ maxLen) (W : World) (hW : Below w.heap.size w W) (hr : Rd .u8 W.heap.size W A ys) => wdec_some (a := A) (cap := c) rfl hyd (by omega) hc (by unfold maxLen at hm; omega) hyb hr (hT.below hW hpos))
  have HR := Lib.hid (fun (Ae Ar Ah : Option Addr) (Ce Cr Ch : Nat) (W : World) (hp : Pk W.heap.size W q Ae Ar Ah Ce Cr Ch) => wright_any q Ae Ar Ah Ce Cr Ch W hp)
  have HQ := Lib.hid hq1
  have hle : decide (ys.length ≤ zs.length) = true := decide_eq_true hq3
  clear hz hr hT hd hq1 hq2 hys hyb hyd
  go_enter Tryd.func6, Tryd.ntmps6
  go_wp2_with (first
    | (go_at_call 8; refine (awakew_any _).mono ?_; rintro e w1 ⟨rfl, hb⟩; have B1 := Lib.hid hb; clear hb)
    | (go_at_call 9; (with_reducible refine (HD.out w1 B1.out).mono ?_); rintro e w2 ⟨Ae, Ar, Ah, Ce, Cr, Ch, rfl, hp, hb⟩; have B2 := Lib.hid (B1.out.trans (hb.mono B1.out.size)); have THw2 := Lib.hid (there_of (n := 32) (World.alloc_heap_new w2 (.cells #[.int .i64 0, .int .i64 0, .int .i64 0, .int .i64 0, .int .i64 0, .int .i64 0, .int .i64 0, .int .i64 0, .int .i64 0, .int .i64 0, .int .i64 0, .bool false, .bool false, .int .i64 0, .int .i64 0, .int .i64 0, .int .i64 0, .int .i64 0, .int .i64 0, .int .i64 0, .bool false, .slice none 0 0, .slice none 0 0, .int .i64 0, .int .i64 0, .int .i64 0, .int .i64 0, .int .i64 0, .int .i64 0, .int .i64 0, .int .i64 0, .slice none 0 0] 36)) (Nat.le_refl _)); have PK2 := Lib.hid hp; clear hb hp)
    | (refine wpList_store_mid rfl 36 (.tmp 4) (.tmp 23) rfl w2.heap.size 0 #[.int .i64 q.kind, .int .i64 q.lie.node, .int .i64 q.lie.level, .int .i64 q.lie.pod, .int .i64 q.lie.mtu, .int .i64 q.lie.link, .int .i64 q.lie.nonce, .int .i64 q.lie.seen, .int .i64 q.lie.seenLink, .int .i64 q.lie.seenNonce, .int .i64 q.lie.hold, .bool q.lie.rep, .bool q.lie.noOffer, .int .i64 q.tie.head.id.dir, .int .i64 q.tie.head.id.orig, .int .i64 q.tie.head.id.kind, .int .i64 q.tie.head.id.nr, .int .i64 q.tie.head.seq, .int .i64 q.tie.head.life, .int .i64 q.tie.level, .bool q.tie.over, .slice Ae q.tie.edges.length Ce, .slice Ar q.tie.reaches.length Cr, .int .i64 q.frm.dir, .int .i64 q.frm.orig, .int .i64 q.frm.kind, .int .i64 q.frm.nr, .int .i64 q.to.dir, .int .i64 q.to.orig, .int .i64 q.to.kind, .int .i64 q.to.nr, .slice Ah q.heads.length Ch] rfl rfl THw2.out (by kernel_rfl) (by simp [Value.oneCell']) ?_; obtain ⟨W4, hW⟩ : ∃ W, (w2.alloc (.cells #[.int .i64 0, .int .i64 0, .int .i64 0, .int .i64 0, .int .i64 0, .int .i64 0, .int .i64 0, .int .i64 0, .int .i64 0, .int .i64 0, .int .i64 0, .bool false, .bool false, .int .i64 0, .int .i64 0, .int .i64 0, .int .i64 0, .int .i64 0, .int .i64 0, .int .i64 0, .bool false, .slice none 0 0, .slice none 0 0, .int .i64 0, .int .i64 0, .int .i64 0, .int .i64 0, .int .i64 0, .int .i64 0, .int .i64 0, .int .i64 0, .slice none 0 0] 36)).setCells w2.heap.size 0 [.int .i64 q.kind, .int .i64 q.lie.node, .int .i64 q.lie.level, .int .i64 q.lie.pod, .int .i64 q.lie.mtu, .int .i64 q.lie.link, .int .i64 q.lie.nonce, .int .i64 q.lie.seen, .int .i64 q.lie.seenLink, .int .i64 q.lie.seenNonce, .int .i64 q.lie.hold, .bool q.lie.rep, .bool q.lie.noOffer, .int .i64 q.tie.head.id.dir, .int .i64 q.tie.head.id.orig, .int .i64 q.tie.head.id.kind, .int .i64 q.tie.head.id.nr, .int .i64 q.tie.head.seq, .int .i64 q.tie.head.life, .int .i64 q.tie.level, .bool q.tie.over, .slice Ae q.tie.edges.length Ce, .slice Ar q.tie.reaches.length Cr, .int .i64 q.frm.dir, .int .i64 q.frm.orig, .int .i64 q.frm.kind, .int .i64 q.frm.nr, .int .i64 q.to.dir, .int .i64 q.to.orig, .int .i64 q.to.kind, .int .i64 q.to.nr, .slice Ah q.heads.length Ch] = W := ⟨_, rfl⟩; rw [hW]; obtain ⟨hpk, hbw, hsz⟩ := boxed_pk hW B2.out PK2.out; have PK4 := Lib.hid hpk; have B4 := Lib.hid hbw; have S4 := Lib.hid hsz; have RG4 := Lib.hid (boxed_range (Nat.le_refl _) hW); clear hpk hbw hsz hW)
    | (refine wpList_load_mid rfl 36 (.tmp 4) rfl _ _ rfl _ _ RG9.out Tryd.underlying36 rfl (by kernel_rfl) ?_)
    | (refine wpList_load_mid rfl 36 (.tmp 4) rfl _ _ rfl _ _ RG8.out Tryd.underlying36 rfl (by kernel_rfl) ?_)
    | (refine wpList_load_mid rfl 36 (.tmp 8) rfl _ _ rfl _ _ RH8.out Tryd.underlying36 rfl (by kernel_rfl) ?_)
    | (refine wpList_load_mid rfl 36 (.tmp 4) rfl _ _ rfl _ _ RG4.out Tryd.underlying36 rfl (by kernel_rfl) ?_)
    | (go_at_call 21; refine (HE.out Ae Ar Ah Ce Cr Ch W4 PK4.out).mono ?_; rintro e w5 ⟨A5, c5, rfl, hc5, hm5, hr5, hb⟩; have B5 := Lib.hid (B4.out.trans (hb.mono B4.out.size)); have R5 := Lib.hid hr5; have RG5 := Lib.hid (range_below RG4.out hb (by have := S4.out; omega)); have PK5 := Lib.hid ((PK4.out.below hb).mono hb.size); have S5 := Lib.hid (show w2.heap.size < w5.heap.size by have := S4.out; have := hb.size; omega); clear hb hr5 RG4)
    | (go_at_call 9; (with_reducible refine (HD2.out A5 c5 hc5 hm5 w5 B5.out R5.out).mono ?_); rintro e w6 ⟨Be, Br, Bh, De, Dr, Dh, rfl, hp, hb⟩; have B6 := Lib.hid (B5.out.trans (hb.mono B5.out.size)); have THw6 := Lib.hid (there_of (n := 32) (World.alloc_heap_new w6 (.cells #[.int .i64 0, .int .i64 0, .int .i64 0, .int .i64 0, .int .i64 0, .int .i64 0, .int .i64 0, .int .i64 0, .int .i64 0, .int .i64 0, .int .i64 0, .bool false, .bool false, .int .i64 0, .int .i64 0, .int .i64 0, .int .i64 0, .int .i64 0, .int .i64 0, .int .i64 0, .bool false, .slice none 0 0, .slice none 0 0, .int .i64 0, .int .i64 0, .int .i64 0, .int .i64 0, .int .i64 0, .int .i64 0, .int .i64 0, .int .i64 0, .slice none 0 0] 36)) (Nat.le_refl _)); have PK6 := Lib.hid hp; have PL6 := Lib.hid ((PK5.out.below hb).mono hb.size); have RG6 := Lib.hid (range_below RG5.out hb S5.out); have S6 := Lib.hid (show w2.heap.size < w6.heap.size by have := S5.out; have := hb.size; omega); clear hb hp)
    | (refine wpList_store_mid rfl 36 (.tmp 8) (.tmp 42) rfl w6.heap.size 0 #[.int .i64 q.kind, .int .i64 q.lie.node, .int .i64 q.lie.level, .int .i64 q.lie.pod, .int .i64 q.lie.mtu, .int .i64 q.lie.link, .int .i64 q.lie.nonce, .int .i64 q.lie.seen, .int .i64 q.lie.seenLink, .int .i64 q.lie.seenNonce, .int .i64 q.lie.hold, .bool q.lie.rep, .bool q.lie.noOffer, .int .i64 q.tie.head.id.dir, .int .i64 q.tie.head.id.orig, .int .i64 q.tie.head.id.kind, .int .i64 q.tie.head.id.nr, .int .i64 q.tie.head.seq, .int .i64 q.tie.head.life, .int .i64 q.tie.level, .bool q.tie.over, .slice Be q.tie.edges.length De, .slice Br q.tie.reaches.length Dr, .int .i64 q.frm.dir, .int .i64 q.frm.orig, .int .i64 q.frm.kind, .int .i64 q.frm.nr, .int .i64 q.to.dir, .int .i64 q.to.orig, .int .i64 q.to.kind, .int .i64 q.to.nr, .slice Bh q.heads.length Dh] rfl rfl THw6.out (by kernel_rfl) (by simp [Value.oneCell']) ?_; obtain ⟨W8, hW⟩ : ∃ W, (w6.alloc (.cells #[.int .i64 0, .int .i64 0, .int .i64 0, .int .i64 0, .int .i64 0, .int .i64 0, .int .i64 0, .int .i64 0, .int .i64 0, .int .i64 0, .int .i64 0, .bool false, .bool false, .int .i64 0, .int .i64 0, .int .i64 0, .int .i64 0, .int .i64 0, .int .i64 0, .int .i64 0, .bool false, .slice none 0 0, .slice none 0 0, .int .i64 0, .int .i64 0, .int .i64 0, .int .i64 0, .int .i64 0, .int .i64 0, .int .i64 0, .int .i64 0, .slice none 0 0] 36)).setCells w6.heap.size 0 [.int .i64 q.kind, .int .i64 q.lie.node, .int .i64 q.lie.level, .int .i64 q.lie.pod, .int .i64 q.lie.mtu, .int .i64 q.lie.link, .int .i64 q.lie.nonce, .int .i64 q.lie.seen, .int .i64 q.lie.seenLink, .int .i64 q.lie.seenNonce, .int .i64 q.lie.hold, .bool q.lie.rep, .bool q.lie.noOffer, .int .i64 q.tie.head.id.dir, .int .i64 q.tie.head.id.orig, .int .i64 q.tie.head.id.kind, .int .i64 q.tie.head.id.nr, .int .i64 q.tie.head.seq, .int .i64 q.tie.head.life, .int .i64 q.tie.level, .bool q.tie.over, .slice Be q.tie.edges.length De, .slice Br q.tie.reaches.length Dr, .int .i64 q.frm.dir, .int .i64 q.frm.orig, .int .i64 q.frm.kind, .int .i64 q.frm.nr, .int .i64 q.to.dir, .int .i64 q.to.orig, .int .i64 q.to.kind, .int .i64 q.to.nr, .slice Bh q.heads.length Dh] = W := ⟨_, rfl⟩; rw [hW]; obtain ⟨hpk, hbw, hsz⟩ := boxed_pk hW B6.out PK6.out; obtain ⟨hpl, _, _⟩ := boxed_pk hW B6.out PL6.out; have h68 : Below w6.heap.size w6 W8 := (by rw [← hW]; exact below_cells ((Below.refl _ _).alloc (Nat.le_refl _) _) (Nat.le_refl _) _ _); have PK8 := Lib.hid hpk; have PL8 := Lib.hid hpl; have B8 := Lib.hid hbw; have S8 := Lib.hid (show w2.heap.size < W8.heap.size by have := S6.out; omega); have RH8 := Lib.hid (boxed_range (Nat.le_refl _) hW); have RG8 := Lib.hid (range_below RG6.out h68 S6.out); clear hpk hpl hbw hsz hW h68)
    | (go_at_call 11; refine (same_self q Ae Ar Ah Be Br Bh Ce Cr Ch De Dr Dh W8 PL8.out PK8.out).mono ?_; rintro e w9 ⟨rfl, hb⟩; have B9 := Lib.hid (B8.out.trans (hb.mono B8.out.size)); have PL9 := Lib.hid ((PL8.out.below hb).mono hb.size); have RG9 := Lib.hid (range_below RG8.out hb S8.out); clear hb)
    | (go_at_call 18; refine (HR.out Ae Ar Ah Ce Cr Ch w9 PL9.out).mono ?_; rintro e w10 ⟨rfl, hb⟩; rw [HQ.out]; have B10 := Lib.hid (B9.out.trans (hb.mono B9.out.size)); clear hb))
  go_ret
  exact ⟨rfl, B10.out⟩
end Go.Proofs.YtgngcpbkopjjlaaDoor

/-
  WireBack: a packet's bytes are decoded as it, also with fields more that are unknown: walks.
-/
namespace Go.Proofs.YtgngcpbkopjjlaaDoor
open Go.RowKit Go.Shelf
set_option linter.unusedVariables false

/-- Items are appended, in a step of a region that draws its order. -/
theorem step_append_items {ops : Array Oper} {o : Oper} {ts : Array Value} {df : List Deferred} {w : World} {K : Act → World → Prop} {Q : Exit → Act → World → Prop} {E : Prop} (d : Nat) (hd : o.dst = some d) (hw : Region.wanted o (yielded ops ts) = true) (s x : Operand)
    (ho : o.op = .call { callee := .builtin .append, args := #[s, x], argTypes := #[42, 42] }) (base : Nat) (v : Value) (l : List It) (hs : Act.eval { tmps := ts, defers := df } s = v) (hown : OwnI w base v l)
    (A : Option Addr) (m : List It) (n c : Nat) (hx : Act.eval { tmps := ts, defers := df } x = .slice A n c) (hn : n = m.length) (hr : SrcI base w A m) (hlen : l.length + m.length ≤ 1000000) (hbase : base ≤ w.heap.size)
    (h : ∀ v' w', OwnI w' base v' (l ++ m) → Below base w w' → w.grownBy w' v.ownBlock → K { tmps := ts.setIfInBounds d v', defers := df } w') : if Region.wanted o (yielded ops (Act.tmps { tmps := ts, defers := df })) = true then Oper.wp Tryd.prog o { tmps := ts, defers := df } w K Q else E := by
  rw [if_pos hw]
  subst hn
  obtain ⟨i0, hi, hz0, hz1, hz2⟩ := info_parts Tryd.info64
  obtain ⟨xs, hrow, hc⟩ := hown
  obtain ⟨ys, hm, hsrc⟩ := hr
  have hput : ∀ (u : Value) (W : World), K { tmps := ts.setIfInBounds d u, defers := df } W → K (Act.put { tmps := ts, defers := df } o.dst u) W := fun u W hk => by
    unfold Act.put
    rw [hd]
    exact hk
  cases A with
  | none =>
    simp only at hsrc
    subst hsrc
    have hrun := run_append_nilc (P := Tryd.prog) base 42 o.type 64 i0 4 Tryd.underlying42 hi hrow c
    unfold Oper.wp
    simp [execOp, ho, resolve, invoke, builtin, hs, hx, hrun, Result.andThen]
    refine hput _ _ (h v w ?_ (Below.refl _ _) ?_)
    · rw [List.append_nil]
      exact ⟨xs, hrow, hc⟩
    · exact ⟨rfl, rfl, rfl, Nat.le_refl _, fun _ _ _ => rfl⟩
  | some ad =>
    simp only at hsrc
    refine wp_append_own w s x 42 ho base 64 i0 _ 4 48 Tryd.underlying42 hi hz0 hz1 hz2 rfl (by decide) v l.length xs hs hrow ad m.length c ys hx hm.1 hsrc hm.one_cell (by unfold maxLen; omega) (by omega) hbase ?_
    intro v' w' h1 h2 _
    have hbel := (Below.refl base w).grown h2 hbase (fun j hj => (hrow.lt j hj).1)
    exact hput _ _ (h v' w' ⟨xs ++ ys, by rw [List.length_append]; exact h1, (hc.append hm).below hbel⟩ hbel h2)
/-- A whole variable is read first. -/
theorem takeLoad {P : Program} {ops : Array Oper} {Q : Exit → Act → World → Prop} {md : Region.Mode} {S : World → Prop} {i d : Nat} {oi : Oper} {fuel : Nat} {listed : Array Bool} {ts : Array Value} {df : List Deferred} {w : World} (hi : ops[i]? = some oi) (hd : oi.dst = some d)
    (hs : Region.noSelect ops = true) (hf : Region.free md ops listed i = true) (hr : (Region.ready md ops listed).contains i = true) (hw : Region.wanted oi (yielded ops ts) = true)
    (ty : TypeId) (x : Operand) (ho : oi.op = .load ty x) (b o : Nat) (hx : Act.eval { tmps := ts, defers := df } x = .pointer (some ⟨b, o, none⟩)) (cs : List Value) (dd : TypeDesc) (hS' : ∀ w, S w → w.rangeAt b o cs)
    (hu : P.underlying ty = some dd) (hdd : dd.isRow = true) (hsz : (P.info? ty).map (·.size) = some cs.length) (hQ : ∀ c a w, Q (.panic c) (a.put oi.dst (.agg cs.toArray)) w → Q (.panic c) a w) (hS : S w)
    (h : wpAnyH P md ops Q S fuel (listed.setIfInBounds i true) { tmps := ts.setIfInBounds d (.agg cs.toArray), defers := df } w) : wpAnyH P md ops Q S (fuel + 1) listed { tmps := ts, defers := df } w := by
  refine wpAnyH_take hi hs hf hr hQ (yieldsIf_load_mid (a := { tmps := ts, defers := df }) hw ty x ho b o hx cs dd hS' hu hdd hsz) hS ?_
  unfold Act.put
  rw [hd]
  exact h
/-- Items without bytes. -/
theorem SrcI.lower {n₀ n₁ : Nat} {w : World} {A : Option Addr} {m : List It} (h : SrcI n₀ w A m) (hb : ∀ x ∈ m, x.bs = []) : SrcI n₁ w A m := by
  obtain ⟨ys, hc, h⟩ := h
  refine ⟨ys, ⟨hc.1, fun j x hx => ?_⟩, h⟩
  obtain ⟨c0, c1, c2, B, cap, c3, h1, h2, hr⟩ := hc.2 j x hx
  exact ⟨c0, c1, c2, B, cap, c3, h1, h2, fun hp => by rw [hb x (List.mem_of_getElem? hx)] at hp; simp at hp⟩
theorem came_len {w : World} {a : Option Addr} {c : Nat} {l : List It} (h : Came w a c l) : l.length ≤ 140737488351232 := by
  have := h.le
  have := h.cap
  omega
/-- A packet's fields amid others of which none is known. -/
theorem known_mid {p : PackT} {l m : List It} (hp : rightW p = true) (hl : rightB l = true) (hm : rightB m = true) (kl : knownP l = []) (km : knownP m = []) : rightB ((([] ++ l) ++ packI p) ++ m) = true ∧ knownP ((([] ++ l) ++ packI p) ++ m) = packI p := by
  have h1 : rightB ((l ++ packI p) ++ m) = true := right_both (right_both hl (pack_rightB hp)) hm
  refine ⟨h1, ?_⟩
  show knownP ((l ++ packI p) ++ m) = packI p
  unfold knownP
  rw [if_pos h1]
  rw [rightW, Bool.and_eq_true] at hp
  exact known_amid hp.1 hl hm kl km
set_option maxRecDepth 100000 in
set_option maxHeartbeats 16000000 in
theorem back_off (p : PackT) (ae ar ah : Option Addr) (ce cr ch : Nat) (a1 : Option Addr) (c1 : Nat) (l1 : List It) (a2 : Option Addr) (c2 : Nat) (l2 : List It) (w : World) (hp : Pk w.heap.size w p ae ar ah ce cr ch) (hc1 : Came w a1 c1 l1) (hc2 : Came w a2 c2 l2) (hT : Tab w) (f b1 b2 r r1 r2 : Bool) (hf : few3 p = f) (hb1 : fewB l1 = b1) (hb2 : fewB l2 = b2) (hr : rightW p = r) (hr1 : rightB l1 = r1) (hr2 : rightB l2 = r2) (hoff : (f && b1 && b2 && r && r1 && r2) = false) : Calls Tryd.prog 5 #[.agg #[.int .i64 p.kind, .int .i64 p.lie.node, .int .i64 p.lie.level, .int .i64 p.lie.pod, .int .i64 p.lie.mtu, .int .i64 p.lie.link, .int .i64 p.lie.nonce, .int .i64 p.lie.seen, .int .i64 p.lie.seenLink, .int .i64 p.lie.seenNonce, .int .i64 p.lie.hold, .bool p.lie.rep, .bool p.lie.noOffer, .int .i64 p.tie.head.id.dir, .int .i64 p.tie.head.id.orig, .int .i64 p.tie.head.id.kind, .int .i64 p.tie.head.id.nr, .int .i64 p.tie.head.seq, .int .i64 p.tie.head.life, .int .i64 p.tie.level, .bool p.tie.over, .slice ae p.tie.edges.length ce, .slice ar p.tie.reaches.length cr, .int .i64 p.frm.dir, .int .i64 p.frm.orig, .int .i64 p.frm.kind, .int .i64 p.frm.nr, .int .i64 p.to.dir, .int .i64 p.to.orig, .int .i64 p.to.kind, .int .i64 p.to.nr, .slice ah p.heads.length ch], .slice a1 l1.length c1, .slice a2 l2.length c2] w fun e w' => e = .returned (.bool true) ∧ Below w.heap.size w w' := by
  have HB0 := Lib.hid ((Below.refl w.heap.size w).alloc (Nat.le_refl _) (.cells #[.int .i64 p.kind, .int .i64 p.lie.node, .int .i64 p.lie.level, .int .i64 p.lie.pod, .int .i64 p.lie.mtu, .int .i64 p.lie.link, .int .i64 p.lie.nonce, .int .i64 p.lie.seen, .int .i64 p.lie.seenLink, .int .i64 p.lie.seenNonce, .int .i64 p.lie.hold, .bool p.lie.rep, .bool p.lie.noOffer, .int .i64 p.tie.head.id.dir, .int .i64 p.tie.head.id.orig, .int .i64 p.tie.head.id.kind, .int .i64 p.tie.head.id.nr, .int .i64 p.tie.head.seq, .int .i64 p.tie.head.life, .int .i64 p.tie.level, .bool p.tie.over, .slice ae p.tie.edges.length ce, .slice ar p.tie.reaches.length cr, .int .i64 p.frm.dir, .int .i64 p.frm.orig, .int .i64 p.frm.kind, .int .i64 p.frm.nr, .int .i64 p.to.dir, .int .i64 p.to.orig, .int .i64 p.to.kind, .int .i64 p.to.nr, .slice ah p.heads.length ch] 36))
  have RP : RowKit.Hid (∀ W, Below (w.heap.size + 1) (w.alloc (.cells #[.int .i64 p.kind, .int .i64 p.lie.node, .int .i64 p.lie.level, .int .i64 p.lie.pod, .int .i64 p.lie.mtu, .int .i64 p.lie.link, .int .i64 p.lie.nonce, .int .i64 p.lie.seen, .int .i64 p.lie.seenLink, .int .i64 p.lie.seenNonce, .int .i64 p.lie.hold, .bool p.lie.rep, .bool p.lie.noOffer, .int .i64 p.tie.head.id.dir, .int .i64 p.tie.head.id.orig, .int .i64 p.tie.head.id.kind, .int .i64 p.tie.head.id.nr, .int .i64 p.tie.head.seq, .int .i64 p.tie.head.life, .int .i64 p.tie.level, .bool p.tie.over, .slice ae p.tie.edges.length ce, .slice ar p.tie.reaches.length cr, .int .i64 p.frm.dir, .int .i64 p.frm.orig, .int .i64 p.frm.kind, .int .i64 p.frm.nr, .int .i64 p.to.dir, .int .i64 p.to.orig, .int .i64 p.to.kind, .int .i64 p.to.nr, .slice ah p.heads.length ch] 36)) W → W.rangeAt w.heap.size 0 [.int .i64 p.kind, .int .i64 p.lie.node, .int .i64 p.lie.level, .int .i64 p.lie.pod, .int .i64 p.lie.mtu, .int .i64 p.lie.link, .int .i64 p.lie.nonce, .int .i64 p.lie.seen, .int .i64 p.lie.seenLink, .int .i64 p.lie.seenNonce, .int .i64 p.lie.hold, .bool p.lie.rep, .bool p.lie.noOffer, .int .i64 p.tie.head.id.dir, .int .i64 p.tie.head.id.orig, .int .i64 p.tie.head.id.kind, .int .i64 p.tie.head.id.nr, .int .i64 p.tie.head.seq, .int .i64 p.tie.head.life, .int .i64 p.tie.level, .bool p.tie.over, .slice ae p.tie.edges.length ce, .slice ar p.tie.reaches.length cr, .int .i64 p.frm.dir, .int .i64 p.frm.orig, .int .i64 p.frm.kind, .int .i64 p.frm.nr, .int .i64 p.to.dir, .int .i64 p.to.orig, .int .i64 p.to.kind, .int .i64 p.to.nr, .slice ah p.heads.length ch]) := fun W hb => box_range (World.alloc_heap_new w _) hb (Nat.lt_succ_self _)
  have HSZ : RowKit.Hid ((w.alloc (.cells #[.int .i64 p.kind, .int .i64 p.lie.node, .int .i64 p.lie.level, .int .i64 p.lie.pod, .int .i64 p.lie.mtu, .int .i64 p.lie.link, .int .i64 p.lie.nonce, .int .i64 p.lie.seen, .int .i64 p.lie.seenLink, .int .i64 p.lie.seenNonce, .int .i64 p.lie.hold, .bool p.lie.rep, .bool p.lie.noOffer, .int .i64 p.tie.head.id.dir, .int .i64 p.tie.head.id.orig, .int .i64 p.tie.head.id.kind, .int .i64 p.tie.head.id.nr, .int .i64 p.tie.head.seq, .int .i64 p.tie.head.life, .int .i64 p.tie.level, .bool p.tie.over, .slice ae p.tie.edges.length ce, .slice ar p.tie.reaches.length cr, .int .i64 p.frm.dir, .int .i64 p.frm.orig, .int .i64 p.frm.kind, .int .i64 p.frm.nr, .int .i64 p.to.dir, .int .i64 p.to.orig, .int .i64 p.to.kind, .int .i64 p.to.nr, .slice ah p.heads.length ch] 36)).heap.size = w.heap.size + 1) := by show _ = _; simp
  have HF1 := Lib.hid (fun (W : World) (hW : Below w.heap.size w W) => few_any a1 c1 l1 (came_len hc1) hc1.bs W ((hc1.rd.below hW).mono hW.size))
  have HF2 := Lib.hid (fun (W : World) (hW : Below w.heap.size w W) => few_any a2 c2 l2 (came_len hc2) hc2.bs W ((hc2.rd.below hW).mono hW.size))
  have HV1 := Lib.hid (fun (W : World) (hW : Below w.heap.size w W) => pright_any a1 c1 l1 (came_len hc1) W ((hc1.rd.below hW).mono hW.size))
  have HV2 := Lib.hid (fun (W : World) (hW : Below w.heap.size w W) => pright_any a2 c2 l2 (came_len hc2) W ((hc2.rd.below hW).mono hW.size))
  have HR := Lib.hid (fun (W : World) (hW : Below w.heap.size w W) => wright_any p ae ar ah ce cr ch W ((hp.below hW).mono hW.size))
  have T1 : True := trivial
  have T2 : True := trivial
  have T3 : True := trivial
  have T4 : True := trivial
  have HF := Lib.hid hf
  have HB1 := Lib.hid hb1
  have HB2 := Lib.hid hb2
  have HRW := Lib.hid hr
  have HR1 := Lib.hid hr1
  have HR2 := Lib.hid hr2
  clear hp hc1 hc2 hT hf hb1 hb2 hr hr1 hr2
  cases f
  · clear hoff
    go_enter Tryd.func5, Tryd.ntmps5
    go_wp2_with (first
      | (go_at_call 8; refine (awakew_any _).mono ?_; rintro e w1 ⟨rfl, hb⟩; have B1 := Lib.hid (hb.mono (show w.heap.size + 1 ≤ _ by have := HSZ.out; omega)); clear hb)
      | (refine wpList_load_mid rfl 36 (.tmp 3) rfl _ _ rfl _ _ (RP.out _ B1.out) Tryd.underlying36 rfl (by kernel_rfl) ?_)
      | (go_at_call 17; refine (few3_any p ae ar ah ce cr ch _).mono ?_; rintro e w2 ⟨rfl, hb⟩; rw [HF.out]; have B2 := Lib.hid (B1.out.trans (hb.mono (by have := HSZ.out; have := B1.out.size; omega))); have BW2 := Lib.hid (HB0.out.trans (B2.out.mono (by omega))); clear hb)
      | (go_at_call 12; have _t := T1; (with_reducible refine (HF1.out w2 BW2.out).mono ?_); rintro e wz ⟨rfl, rfl⟩; rw [HB1.out]; clear T1)
      | (go_at_call 12; have _t := T2; (with_reducible refine (HF2.out w2 BW2.out).mono ?_); rintro e wz ⟨rfl, rfl⟩; rw [HB2.out]; clear T2)
      | (refine wpList_load_g 36 (.tmp 3) rfl _ _ rfl _ _ (RP.out _ B2.out) Tryd.underlying36 rfl (by kernel_rfl) (by rfl) ?_)
      | (go_at_call 18; (with_reducible refine (HR.out w2 BW2.out).mono ?_); rintro e w3 ⟨rfl, hb⟩; rw [HRW.out]; have B3 := Lib.hid (B2.out.trans (hb.mono (by have := HSZ.out; have := B2.out.size; omega))); have BW3 := Lib.hid (HB0.out.trans (B3.out.mono (by omega))); clear hb)
      | (go_at_call 16; have _t := T3; (with_reducible refine (HV1.out w3 BW3.out).mono ?_); rintro e w4 ⟨rfl, hb⟩; rw [HR1.out]; have B4 := Lib.hid (B3.out.trans (hb.mono (by have := HSZ.out; have := B3.out.size; omega))); have BW4 := Lib.hid (HB0.out.trans (B4.out.mono (by omega))); clear hb; clear T3)
      | (go_at_call 16; have _t := T4; (with_reducible refine (HV2.out w4 BW4.out).mono ?_); rintro e w5 ⟨rfl, hb⟩; rw [HR2.out]; have B5 := Lib.hid (B4.out.trans (hb.mono (by have := HSZ.out; have := B4.out.size; omega))); have BW5 := Lib.hid (HB0.out.trans (B5.out.mono (by omega))); clear hb; clear T4))
    go_ret
    exact ⟨rfl, BW2.out⟩
  cases b1
  · clear hoff
    go_enter Tryd.func5, Tryd.ntmps5
    go_wp2_with (first
      | (go_at_call 8; refine (awakew_any _).mono ?_; rintro e w1 ⟨rfl, hb⟩; have B1 := Lib.hid (hb.mono (show w.heap.size + 1 ≤ _ by have := HSZ.out; omega)); clear hb)
      | (refine wpList_load_mid rfl 36 (.tmp 3) rfl _ _ rfl _ _ (RP.out _ B1.out) Tryd.underlying36 rfl (by kernel_rfl) ?_)
      | (go_at_call 17; refine (few3_any p ae ar ah ce cr ch _).mono ?_; rintro e w2 ⟨rfl, hb⟩; rw [HF.out]; have B2 := Lib.hid (B1.out.trans (hb.mono (by have := HSZ.out; have := B1.out.size; omega))); have BW2 := Lib.hid (HB0.out.trans (B2.out.mono (by omega))); clear hb)
      | (go_at_call 12; have _t := T1; (with_reducible refine (HF1.out w2 BW2.out).mono ?_); rintro e wz ⟨rfl, rfl⟩; rw [HB1.out]; clear T1)
      | (go_at_call 12; have _t := T2; (with_reducible refine (HF2.out w2 BW2.out).mono ?_); rintro e wz ⟨rfl, rfl⟩; rw [HB2.out]; clear T2)
      | (refine wpList_load_g 36 (.tmp 3) rfl _ _ rfl _ _ (RP.out _ B2.out) Tryd.underlying36 rfl (by kernel_rfl) (by rfl) ?_)
      | (go_at_call 18; (with_reducible refine (HR.out w2 BW2.out).mono ?_); rintro e w3 ⟨rfl, hb⟩; rw [HRW.out]; have B3 := Lib.hid (B2.out.trans (hb.mono (by have := HSZ.out; have := B2.out.size; omega))); have BW3 := Lib.hid (HB0.out.trans (B3.out.mono (by omega))); clear hb)
      | (go_at_call 16; have _t := T3; (with_reducible refine (HV1.out w3 BW3.out).mono ?_); rintro e w4 ⟨rfl, hb⟩; rw [HR1.out]; have B4 := Lib.hid (B3.out.trans (hb.mono (by have := HSZ.out; have := B3.out.size; omega))); have BW4 := Lib.hid (HB0.out.trans (B4.out.mono (by omega))); clear hb; clear T3)
      | (go_at_call 16; have _t := T4; (with_reducible refine (HV2.out w4 BW4.out).mono ?_); rintro e w5 ⟨rfl, hb⟩; rw [HR2.out]; have B5 := Lib.hid (B4.out.trans (hb.mono (by have := HSZ.out; have := B4.out.size; omega))); have BW5 := Lib.hid (HB0.out.trans (B5.out.mono (by omega))); clear hb; clear T4))
    go_ret
    exact ⟨rfl, BW2.out⟩
  cases b2
  · clear hoff
    go_enter Tryd.func5, Tryd.ntmps5
    go_wp2_with (first
      | (go_at_call 8; refine (awakew_any _).mono ?_; rintro e w1 ⟨rfl, hb⟩; have B1 := Lib.hid (hb.mono (show w.heap.size + 1 ≤ _ by have := HSZ.out; omega)); clear hb)
      | (refine wpList_load_mid rfl 36 (.tmp 3) rfl _ _ rfl _ _ (RP.out _ B1.out) Tryd.underlying36 rfl (by kernel_rfl) ?_)
      | (go_at_call 17; refine (few3_any p ae ar ah ce cr ch _).mono ?_; rintro e w2 ⟨rfl, hb⟩; rw [HF.out]; have B2 := Lib.hid (B1.out.trans (hb.mono (by have := HSZ.out; have := B1.out.size; omega))); have BW2 := Lib.hid (HB0.out.trans (B2.out.mono (by omega))); clear hb)
      | (go_at_call 12; have _t := T1; (with_reducible refine (HF1.out w2 BW2.out).mono ?_); rintro e wz ⟨rfl, rfl⟩; rw [HB1.out]; clear T1)
      | (go_at_call 12; have _t := T2; (with_reducible refine (HF2.out w2 BW2.out).mono ?_); rintro e wz ⟨rfl, rfl⟩; rw [HB2.out]; clear T2)
      | (refine wpList_load_g 36 (.tmp 3) rfl _ _ rfl _ _ (RP.out _ B2.out) Tryd.underlying36 rfl (by kernel_rfl) (by rfl) ?_)
      | (go_at_call 18; (with_reducible refine (HR.out w2 BW2.out).mono ?_); rintro e w3 ⟨rfl, hb⟩; rw [HRW.out]; have B3 := Lib.hid (B2.out.trans (hb.mono (by have := HSZ.out; have := B2.out.size; omega))); have BW3 := Lib.hid (HB0.out.trans (B3.out.mono (by omega))); clear hb)
      | (go_at_call 16; have _t := T3; (with_reducible refine (HV1.out w3 BW3.out).mono ?_); rintro e w4 ⟨rfl, hb⟩; rw [HR1.out]; have B4 := Lib.hid (B3.out.trans (hb.mono (by have := HSZ.out; have := B3.out.size; omega))); have BW4 := Lib.hid (HB0.out.trans (B4.out.mono (by omega))); clear hb; clear T3)
      | (go_at_call 16; have _t := T4; (with_reducible refine (HV2.out w4 BW4.out).mono ?_); rintro e w5 ⟨rfl, hb⟩; rw [HR2.out]; have B5 := Lib.hid (B4.out.trans (hb.mono (by have := HSZ.out; have := B4.out.size; omega))); have BW5 := Lib.hid (HB0.out.trans (B5.out.mono (by omega))); clear hb; clear T4))
    go_ret
    exact ⟨rfl, BW2.out⟩
  cases r
  · clear hoff
    go_enter Tryd.func5, Tryd.ntmps5
    go_wp2_with (first
      | (go_at_call 8; refine (awakew_any _).mono ?_; rintro e w1 ⟨rfl, hb⟩; have B1 := Lib.hid (hb.mono (show w.heap.size + 1 ≤ _ by have := HSZ.out; omega)); clear hb)
      | (refine wpList_load_mid rfl 36 (.tmp 3) rfl _ _ rfl _ _ (RP.out _ B1.out) Tryd.underlying36 rfl (by kernel_rfl) ?_)
      | (go_at_call 17; refine (few3_any p ae ar ah ce cr ch _).mono ?_; rintro e w2 ⟨rfl, hb⟩; rw [HF.out]; have B2 := Lib.hid (B1.out.trans (hb.mono (by have := HSZ.out; have := B1.out.size; omega))); have BW2 := Lib.hid (HB0.out.trans (B2.out.mono (by omega))); clear hb)
      | (go_at_call 12; have _t := T1; (with_reducible refine (HF1.out w2 BW2.out).mono ?_); rintro e wz ⟨rfl, rfl⟩; rw [HB1.out]; clear T1)
      | (go_at_call 12; have _t := T2; (with_reducible refine (HF2.out w2 BW2.out).mono ?_); rintro e wz ⟨rfl, rfl⟩; rw [HB2.out]; clear T2)
      | (refine wpList_load_g 36 (.tmp 3) rfl _ _ rfl _ _ (RP.out _ B2.out) Tryd.underlying36 rfl (by kernel_rfl) (by rfl) ?_)
      | (go_at_call 18; (with_reducible refine (HR.out w2 BW2.out).mono ?_); rintro e w3 ⟨rfl, hb⟩; rw [HRW.out]; have B3 := Lib.hid (B2.out.trans (hb.mono (by have := HSZ.out; have := B2.out.size; omega))); have BW3 := Lib.hid (HB0.out.trans (B3.out.mono (by omega))); clear hb)
      | (go_at_call 16; have _t := T3; (with_reducible refine (HV1.out w3 BW3.out).mono ?_); rintro e w4 ⟨rfl, hb⟩; rw [HR1.out]; have B4 := Lib.hid (B3.out.trans (hb.mono (by have := HSZ.out; have := B3.out.size; omega))); have BW4 := Lib.hid (HB0.out.trans (B4.out.mono (by omega))); clear hb; clear T3)
      | (go_at_call 16; have _t := T4; (with_reducible refine (HV2.out w4 BW4.out).mono ?_); rintro e w5 ⟨rfl, hb⟩; rw [HR2.out]; have B5 := Lib.hid (B4.out.trans (hb.mono (by have := HSZ.out; have := B4.out.size; omega))); have BW5 := Lib.hid (HB0.out.trans (B5.out.mono (by omega))); clear hb; clear T4))
    go_ret
    exact ⟨rfl, BW3.out⟩
  cases r1
  · clear hoff
    go_enter Tryd.func5, Tryd.ntmps5
    go_wp2_with (first
      | (go_at_call 8; refine (awakew_any _).mono ?_; rintro e w1 ⟨rfl, hb⟩; have B1 := Lib.hid (hb.mono (show w.heap.size + 1 ≤ _ by have := HSZ.out; omega)); clear hb)
      | (refine wpList_load_mid rfl 36 (.tmp 3) rfl _ _ rfl _ _ (RP.out _ B1.out) Tryd.underlying36 rfl (by kernel_rfl) ?_)
      | (go_at_call 17; refine (few3_any p ae ar ah ce cr ch _).mono ?_; rintro e w2 ⟨rfl, hb⟩; rw [HF.out]; have B2 := Lib.hid (B1.out.trans (hb.mono (by have := HSZ.out; have := B1.out.size; omega))); have BW2 := Lib.hid (HB0.out.trans (B2.out.mono (by omega))); clear hb)
      | (go_at_call 12; have _t := T1; (with_reducible refine (HF1.out w2 BW2.out).mono ?_); rintro e wz ⟨rfl, rfl⟩; rw [HB1.out]; clear T1)
      | (go_at_call 12; have _t := T2; (with_reducible refine (HF2.out w2 BW2.out).mono ?_); rintro e wz ⟨rfl, rfl⟩; rw [HB2.out]; clear T2)
      | (refine wpList_load_g 36 (.tmp 3) rfl _ _ rfl _ _ (RP.out _ B2.out) Tryd.underlying36 rfl (by kernel_rfl) (by rfl) ?_)
      | (go_at_call 18; (with_reducible refine (HR.out w2 BW2.out).mono ?_); rintro e w3 ⟨rfl, hb⟩; rw [HRW.out]; have B3 := Lib.hid (B2.out.trans (hb.mono (by have := HSZ.out; have := B2.out.size; omega))); have BW3 := Lib.hid (HB0.out.trans (B3.out.mono (by omega))); clear hb)
      | (go_at_call 16; have _t := T3; (with_reducible refine (HV1.out w3 BW3.out).mono ?_); rintro e w4 ⟨rfl, hb⟩; rw [HR1.out]; have B4 := Lib.hid (B3.out.trans (hb.mono (by have := HSZ.out; have := B3.out.size; omega))); have BW4 := Lib.hid (HB0.out.trans (B4.out.mono (by omega))); clear hb; clear T3)
      | (go_at_call 16; have _t := T4; (with_reducible refine (HV2.out w4 BW4.out).mono ?_); rintro e w5 ⟨rfl, hb⟩; rw [HR2.out]; have B5 := Lib.hid (B4.out.trans (hb.mono (by have := HSZ.out; have := B4.out.size; omega))); have BW5 := Lib.hid (HB0.out.trans (B5.out.mono (by omega))); clear hb; clear T4))
    go_ret
    exact ⟨rfl, BW4.out⟩
  cases r2
  · clear hoff
    go_enter Tryd.func5, Tryd.ntmps5
    go_wp2_with (first
      | (go_at_call 8; refine (awakew_any _).mono ?_; rintro e w1 ⟨rfl, hb⟩; have B1 := Lib.hid (hb.mono (show w.heap.size + 1 ≤ _ by have := HSZ.out; omega)); clear hb)
      | (refine wpList_load_mid rfl 36 (.tmp 3) rfl _ _ rfl _ _ (RP.out _ B1.out) Tryd.underlying36 rfl (by kernel_rfl) ?_)
      | (go_at_call 17; refine (few3_any p ae ar ah ce cr ch _).mono ?_; rintro e w2 ⟨rfl, hb⟩; rw [HF.out]; have B2 := Lib.hid (B1.out.trans (hb.mono (by have := HSZ.out; have := B1.out.size; omega))); have BW2 := Lib.hid (HB0.out.trans (B2.out.mono (by omega))); clear hb)
      | (go_at_call 12; have _t := T1; (with_reducible refine (HF1.out w2 BW2.out).mono ?_); rintro e wz ⟨rfl, rfl⟩; rw [HB1.out]; clear T1)
      | (go_at_call 12; have _t := T2; (with_reducible refine (HF2.out w2 BW2.out).mono ?_); rintro e wz ⟨rfl, rfl⟩; rw [HB2.out]; clear T2)
      | (refine wpList_load_g 36 (.tmp 3) rfl _ _ rfl _ _ (RP.out _ B2.out) Tryd.underlying36 rfl (by kernel_rfl) (by rfl) ?_)
      | (go_at_call 18; (with_reducible refine (HR.out w2 BW2.out).mono ?_); rintro e w3 ⟨rfl, hb⟩; rw [HRW.out]; have B3 := Lib.hid (B2.out.trans (hb.mono (by have := HSZ.out; have := B2.out.size; omega))); have BW3 := Lib.hid (HB0.out.trans (B3.out.mono (by omega))); clear hb)
      | (go_at_call 16; have _t := T3; (with_reducible refine (HV1.out w3 BW3.out).mono ?_); rintro e w4 ⟨rfl, hb⟩; rw [HR1.out]; have B4 := Lib.hid (B3.out.trans (hb.mono (by have := HSZ.out; have := B3.out.size; omega))); have BW4 := Lib.hid (HB0.out.trans (B4.out.mono (by omega))); clear hb; clear T3)
      | (go_at_call 16; have _t := T4; (with_reducible refine (HV2.out w4 BW4.out).mono ?_); rintro e w5 ⟨rfl, hb⟩; rw [HR2.out]; have B5 := Lib.hid (B4.out.trans (hb.mono (by have := HSZ.out; have := B4.out.size; omega))); have BW5 := Lib.hid (HB0.out.trans (B5.out.mono (by omega))); clear hb; clear T4))
    go_ret
    exact ⟨rfl, BW5.out⟩
  cases hoff
set_option maxRecDepth 100000 in
set_option maxHeartbeats 16000000 in
theorem back_k1 (p : PackT) (ae ar ah : Option Addr) (ce cr ch : Nat) (a1 : Option Addr) (c1 : Nat) (l1 : List It) (a2 : Option Addr) (c2 : Nat) (l2 : List It) (w : World) (hp : Pk w.heap.size w p ae ar ah ce cr ch) (hc1 : Came w a1 c1 l1) (hc2 : Came w a2 c2 l2) (hT : Tab w) (hf : few3 p = true) (hb1 : fewB l1 = true) (hb2 : fewB l2 = true) (hr : rightW p = true) (hr1 : rightB l1 = true) (hr2 : rightB l2 = true) (hk1 : 0 < (knownP l1).length) : Calls Tryd.prog 5 #[.agg #[.int .i64 p.kind, .int .i64 p.lie.node, .int .i64 p.lie.level, .int .i64 p.lie.pod, .int .i64 p.lie.mtu, .int .i64 p.lie.link, .int .i64 p.lie.nonce, .int .i64 p.lie.seen, .int .i64 p.lie.seenLink, .int .i64 p.lie.seenNonce, .int .i64 p.lie.hold, .bool p.lie.rep, .bool p.lie.noOffer, .int .i64 p.tie.head.id.dir, .int .i64 p.tie.head.id.orig, .int .i64 p.tie.head.id.kind, .int .i64 p.tie.head.id.nr, .int .i64 p.tie.head.seq, .int .i64 p.tie.head.life, .int .i64 p.tie.level, .bool p.tie.over, .slice ae p.tie.edges.length ce, .slice ar p.tie.reaches.length cr, .int .i64 p.frm.dir, .int .i64 p.frm.orig, .int .i64 p.frm.kind, .int .i64 p.frm.nr, .int .i64 p.to.dir, .int .i64 p.to.orig, .int .i64 p.to.kind, .int .i64 p.to.nr, .slice ah p.heads.length ch], .slice a1 l1.length c1, .slice a2 l2.length c2] w fun e w' => e = .returned (.bool true) ∧ Below w.heap.size w w' := by
  have HB0 := Lib.hid ((Below.refl w.heap.size w).alloc (Nat.le_refl _) (.cells #[.int .i64 p.kind, .int .i64 p.lie.node, .int .i64 p.lie.level, .int .i64 p.lie.pod, .int .i64 p.lie.mtu, .int .i64 p.lie.link, .int .i64 p.lie.nonce, .int .i64 p.lie.seen, .int .i64 p.lie.seenLink, .int .i64 p.lie.seenNonce, .int .i64 p.lie.hold, .bool p.lie.rep, .bool p.lie.noOffer, .int .i64 p.tie.head.id.dir, .int .i64 p.tie.head.id.orig, .int .i64 p.tie.head.id.kind, .int .i64 p.tie.head.id.nr, .int .i64 p.tie.head.seq, .int .i64 p.tie.head.life, .int .i64 p.tie.level, .bool p.tie.over, .slice ae p.tie.edges.length ce, .slice ar p.tie.reaches.length cr, .int .i64 p.frm.dir, .int .i64 p.frm.orig, .int .i64 p.frm.kind, .int .i64 p.frm.nr, .int .i64 p.to.dir, .int .i64 p.to.orig, .int .i64 p.to.kind, .int .i64 p.to.nr, .slice ah p.heads.length ch] 36))
  have RP : RowKit.Hid (∀ W, Below (w.heap.size + 1) (w.alloc (.cells #[.int .i64 p.kind, .int .i64 p.lie.node, .int .i64 p.lie.level, .int .i64 p.lie.pod, .int .i64 p.lie.mtu, .int .i64 p.lie.link, .int .i64 p.lie.nonce, .int .i64 p.lie.seen, .int .i64 p.lie.seenLink, .int .i64 p.lie.seenNonce, .int .i64 p.lie.hold, .bool p.lie.rep, .bool p.lie.noOffer, .int .i64 p.tie.head.id.dir, .int .i64 p.tie.head.id.orig, .int .i64 p.tie.head.id.kind, .int .i64 p.tie.head.id.nr, .int .i64 p.tie.head.seq, .int .i64 p.tie.head.life, .int .i64 p.tie.level, .bool p.tie.over, .slice ae p.tie.edges.length ce, .slice ar p.tie.reaches.length cr, .int .i64 p.frm.dir, .int .i64 p.frm.orig, .int .i64 p.frm.kind, .int .i64 p.frm.nr, .int .i64 p.to.dir, .int .i64 p.to.orig, .int .i64 p.to.kind, .int .i64 p.to.nr, .slice ah p.heads.length ch] 36)) W → W.rangeAt w.heap.size 0 [.int .i64 p.kind, .int .i64 p.lie.node, .int .i64 p.lie.level, .int .i64 p.lie.pod, .int .i64 p.lie.mtu, .int .i64 p.lie.link, .int .i64 p.lie.nonce, .int .i64 p.lie.seen, .int .i64 p.lie.seenLink, .int .i64 p.lie.seenNonce, .int .i64 p.lie.hold, .bool p.lie.rep, .bool p.lie.noOffer, .int .i64 p.tie.head.id.dir, .int .i64 p.tie.head.id.orig, .int .i64 p.tie.head.id.kind, .int .i64 p.tie.head.id.nr, .int .i64 p.tie.head.seq, .int .i64 p.tie.head.life, .int .i64 p.tie.level, .bool p.tie.over, .slice ae p.tie.edges.length ce, .slice ar p.tie.reaches.length cr, .int .i64 p.frm.dir, .int .i64 p.frm.orig, .int .i64 p.frm.kind, .int .i64 p.frm.nr, .int .i64 p.to.dir, .int .i64 p.to.orig, .int .i64 p.to.kind, .int .i64 p.to.nr, .slice ah p.heads.length ch]) := fun W hb => box_range (World.alloc_heap_new w _) hb (Nat.lt_succ_self _)
  have HSZ : RowKit.Hid ((w.alloc (.cells #[.int .i64 p.kind, .int .i64 p.lie.node, .int .i64 p.lie.level, .int .i64 p.lie.pod, .int .i64 p.lie.mtu, .int .i64 p.lie.link, .int .i64 p.lie.nonce, .int .i64 p.lie.seen, .int .i64 p.lie.seenLink, .int .i64 p.lie.seenNonce, .int .i64 p.lie.hold, .bool p.lie.rep, .bool p.lie.noOffer, .int .i64 p.tie.head.id.dir, .int .i64 p.tie.head.id.orig, .int .i64 p.tie.head.id.kind, .int .i64 p.tie.head.id.nr, .int .i64 p.tie.head.seq, .int .i64 p.tie.head.life, .int .i64 p.tie.level, .bool p.tie.over, .slice ae p.tie.edges.length ce, .slice ar p.tie.reaches.length cr, .int .i64 p.frm.dir, .int .i64 p.frm.orig, .int .i64 p.frm.kind, .int .i64 p.frm.nr, .int .i64 p.to.dir, .int .i64 p.to.orig, .int .i64 p.to.kind, .int .i64 p.to.nr, .slice ah p.heads.length ch] 36)).heap.size = w.heap.size + 1) := by show _ = _; simp
  have HF1 := Lib.hid (fun (W : World) (hW : Below w.heap.size w W) => few_any a1 c1 l1 (came_len hc1) hc1.bs W ((hc1.rd.below hW).mono hW.size))
  have HF2 := Lib.hid (fun (W : World) (hW : Below w.heap.size w W) => few_any a2 c2 l2 (came_len hc2) hc2.bs W ((hc2.rd.below hW).mono hW.size))
  have HV1 := Lib.hid (fun (W : World) (hW : Below w.heap.size w W) => pright_any a1 c1 l1 (came_len hc1) W ((hc1.rd.below hW).mono hW.size))
  have HV2 := Lib.hid (fun (W : World) (hW : Below w.heap.size w W) => pright_any a2 c2 l2 (came_len hc2) W ((hc2.rd.below hW).mono hW.size))
  have HR := Lib.hid (fun (W : World) (hW : Below w.heap.size w W) => wright_any p ae ar ah ce cr ch W ((hp.below hW).mono hW.size))
  have T1 : True := trivial
  have T2 : True := trivial
  have T3 : True := trivial
  have T4 : True := trivial
  have HF := Lib.hid hf
  have HB1 := Lib.hid hb1
  have HB2 := Lib.hid hb2
  have HRW := Lib.hid hr
  have HR1 := Lib.hid hr1
  have HR2 := Lib.hid hr2
  have hpos := hT.pos
  obtain ⟨hs1, hs1b⟩ := few_small hb1
  obtain ⟨hs2, hs2b⟩ := few_small hb2
  have HK1 := Lib.hid (fun (W : World) (hW : Below w.heap.size w W) => wknown_any (a := a1) (cap := c1) (l := l1) rfl (by omega) (fun x hx => by have := hs1b x hx; omega) ((hc1.rd.below hW).mono hW.size) (hT.below hW hpos))
  have HK2 := Lib.hid (fun (W : World) (hW : Below w.heap.size w W) => wknown_any (a := a2) (cap := c2) (l := l2) rfl (by omega) (fun x hx => by have := hs2b x hx; omega) ((hc2.rd.below hW).mono hW.size) (hT.below hW hpos))
  have T5 : True := trivial
  have T6 : True := trivial
  clear hp hc1 hc2 hT hf hb1 hb2 hr hr1 hr2 hs1b hs2b
  go_enter Tryd.func5, Tryd.ntmps5
  go_wp2_with (first
    | (go_at_call 8; refine (awakew_any _).mono ?_; rintro e w1 ⟨rfl, hb⟩; have B1 := Lib.hid (hb.mono (show w.heap.size + 1 ≤ _ by have := HSZ.out; omega)); clear hb)
    | (refine wpList_load_mid rfl 36 (.tmp 3) rfl _ _ rfl _ _ (RP.out _ B1.out) Tryd.underlying36 rfl (by kernel_rfl) ?_)
    | (go_at_call 17; refine (few3_any p ae ar ah ce cr ch _).mono ?_; rintro e w2 ⟨rfl, hb⟩; rw [HF.out]; have B2 := Lib.hid (B1.out.trans (hb.mono (by have := HSZ.out; have := B1.out.size; omega))); have BW2 := Lib.hid (HB0.out.trans (B2.out.mono (by omega))); clear hb)
    | (go_at_call 12; have _t := T1; (with_reducible refine (HF1.out w2 BW2.out).mono ?_); rintro e wz ⟨rfl, rfl⟩; rw [HB1.out]; clear T1)
    | (go_at_call 12; have _t := T2; (with_reducible refine (HF2.out w2 BW2.out).mono ?_); rintro e wz ⟨rfl, rfl⟩; rw [HB2.out]; clear T2)
    | (refine wpList_load_g 36 (.tmp 3) rfl _ _ rfl _ _ (RP.out _ B2.out) Tryd.underlying36 rfl (by kernel_rfl) (by rfl) ?_)
    | (go_at_call 18; (with_reducible refine (HR.out w2 BW2.out).mono ?_); rintro e w3 ⟨rfl, hb⟩; rw [HRW.out]; have B3 := Lib.hid (B2.out.trans (hb.mono (by have := HSZ.out; have := B2.out.size; omega))); have BW3 := Lib.hid (HB0.out.trans (B3.out.mono (by omega))); clear hb)
    | (go_at_call 16; have _t := T3; (with_reducible refine (HV1.out w3 BW3.out).mono ?_); rintro e w4 ⟨rfl, hb⟩; rw [HR1.out]; have B4 := Lib.hid (B3.out.trans (hb.mono (by have := HSZ.out; have := B3.out.size; omega))); have BW4 := Lib.hid (HB0.out.trans (B4.out.mono (by omega))); clear hb; clear T3)
    | (go_at_call 16; have _t := T4; (with_reducible refine (HV2.out w4 BW4.out).mono ?_); rintro e w5 ⟨rfl, hb⟩; rw [HR2.out]; have B5 := Lib.hid (B4.out.trans (hb.mono (by have := HSZ.out; have := B4.out.size; omega))); have BW5 := Lib.hid (HB0.out.trans (B5.out.mono (by omega))); clear hb; clear T4)
    | (go_at_call 13; have _t := T5; (with_reducible refine (HK1.out w5 BW5.out).mono ?_); rintro e w6 ⟨A6, n6, c6, rfl, hn6, hc6, hm6, _, hb⟩; obtain ⟨m, rfl⟩ : ∃ m, n6 = m + 1 := ⟨n6 - 1, by omega⟩; have hm0 := hm6; unfold maxLen at hm0; clear hn6; have B6 := Lib.hid (B5.out.trans (hb.mono (by have := HSZ.out; have := B5.out.size; omega))); have BW6 := Lib.hid (HB0.out.trans (B6.out.mono (by omega))); clear hb; clear T5))
  go_ret
  exact ⟨rfl, BW6.out⟩
set_option maxRecDepth 100000 in
set_option maxHeartbeats 16000000 in
theorem back_k2 (p : PackT) (ae ar ah : Option Addr) (ce cr ch : Nat) (a1 : Option Addr) (c1 : Nat) (l1 : List It) (a2 : Option Addr) (c2 : Nat) (l2 : List It) (w : World) (hp : Pk w.heap.size w p ae ar ah ce cr ch) (hc1 : Came w a1 c1 l1) (hc2 : Came w a2 c2 l2) (hT : Tab w) (hf : few3 p = true) (hb1 : fewB l1 = true) (hb2 : fewB l2 = true) (hr : rightW p = true) (hr1 : rightB l1 = true) (hr2 : rightB l2 = true) (hk1 : (knownP l1).length = 0) (hk2 : 0 < (knownP l2).length) : Calls Tryd.prog 5 #[.agg #[.int .i64 p.kind, .int .i64 p.lie.node, .int .i64 p.lie.level, .int .i64 p.lie.pod, .int .i64 p.lie.mtu, .int .i64 p.lie.link, .int .i64 p.lie.nonce, .int .i64 p.lie.seen, .int .i64 p.lie.seenLink, .int .i64 p.lie.seenNonce, .int .i64 p.lie.hold, .bool p.lie.rep, .bool p.lie.noOffer, .int .i64 p.tie.head.id.dir, .int .i64 p.tie.head.id.orig, .int .i64 p.tie.head.id.kind, .int .i64 p.tie.head.id.nr, .int .i64 p.tie.head.seq, .int .i64 p.tie.head.life, .int .i64 p.tie.level, .bool p.tie.over, .slice ae p.tie.edges.length ce, .slice ar p.tie.reaches.length cr, .int .i64 p.frm.dir, .int .i64 p.frm.orig, .int .i64 p.frm.kind, .int .i64 p.frm.nr, .int .i64 p.to.dir, .int .i64 p.to.orig, .int .i64 p.to.kind, .int .i64 p.to.nr, .slice ah p.heads.length ch], .slice a1 l1.length c1, .slice a2 l2.length c2] w fun e w' => e = .returned (.bool true) ∧ Below w.heap.size w w' := by
  have HB0 := Lib.hid ((Below.refl w.heap.size w).alloc (Nat.le_refl _) (.cells #[.int .i64 p.kind, .int .i64 p.lie.node, .int .i64 p.lie.level, .int .i64 p.lie.pod, .int .i64 p.lie.mtu, .int .i64 p.lie.link, .int .i64 p.lie.nonce, .int .i64 p.lie.seen, .int .i64 p.lie.seenLink, .int .i64 p.lie.seenNonce, .int .i64 p.lie.hold, .bool p.lie.rep, .bool p.lie.noOffer, .int .i64 p.tie.head.id.dir, .int .i64 p.tie.head.id.orig, .int .i64 p.tie.head.id.kind, .int .i64 p.tie.head.id.nr, .int .i64 p.tie.head.seq, .int .i64 p.tie.head.life, .int .i64 p.tie.level, .bool p.tie.over, .slice ae p.tie.edges.length ce, .slice ar p.tie.reaches.length cr, .int .i64 p.frm.dir, .int .i64 p.frm.orig, .int .i64 p.frm.kind, .int .i64 p.frm.nr, .int .i64 p.to.dir, .int .i64 p.to.orig, .int .i64 p.to.kind, .int .i64 p.to.nr, .slice ah p.heads.length ch] 36))
  have RP : RowKit.Hid (∀ W, Below (w.heap.size + 1) (w.alloc (.cells #[.int .i64 p.kind, .int .i64 p.lie.node, .int .i64 p.lie.level, .int .i64 p.lie.pod, .int .i64 p.lie.mtu, .int .i64 p.lie.link, .int .i64 p.lie.nonce, .int .i64 p.lie.seen, .int .i64 p.lie.seenLink, .int .i64 p.lie.seenNonce, .int .i64 p.lie.hold, .bool p.lie.rep, .bool p.lie.noOffer, .int .i64 p.tie.head.id.dir, .int .i64 p.tie.head.id.orig, .int .i64 p.tie.head.id.kind, .int .i64 p.tie.head.id.nr, .int .i64 p.tie.head.seq, .int .i64 p.tie.head.life, .int .i64 p.tie.level, .bool p.tie.over, .slice ae p.tie.edges.length ce, .slice ar p.tie.reaches.length cr, .int .i64 p.frm.dir, .int .i64 p.frm.orig, .int .i64 p.frm.kind, .int .i64 p.frm.nr, .int .i64 p.to.dir, .int .i64 p.to.orig, .int .i64 p.to.kind, .int .i64 p.to.nr, .slice ah p.heads.length ch] 36)) W → W.rangeAt w.heap.size 0 [.int .i64 p.kind, .int .i64 p.lie.node, .int .i64 p.lie.level, .int .i64 p.lie.pod, .int .i64 p.lie.mtu, .int .i64 p.lie.link, .int .i64 p.lie.nonce, .int .i64 p.lie.seen, .int .i64 p.lie.seenLink, .int .i64 p.lie.seenNonce, .int .i64 p.lie.hold, .bool p.lie.rep, .bool p.lie.noOffer, .int .i64 p.tie.head.id.dir, .int .i64 p.tie.head.id.orig, .int .i64 p.tie.head.id.kind, .int .i64 p.tie.head.id.nr, .int .i64 p.tie.head.seq, .int .i64 p.tie.head.life, .int .i64 p.tie.level, .bool p.tie.over, .slice ae p.tie.edges.length ce, .slice ar p.tie.reaches.length cr, .int .i64 p.frm.dir, .int .i64 p.frm.orig, .int .i64 p.frm.kind, .int .i64 p.frm.nr, .int .i64 p.to.dir, .int .i64 p.to.orig, .int .i64 p.to.kind, .int .i64 p.to.nr, .slice ah p.heads.length ch]) := fun W hb => box_range (World.alloc_heap_new w _) hb (Nat.lt_succ_self _)
  have HSZ : RowKit.Hid ((w.alloc (.cells #[.int .i64 p.kind, .int .i64 p.lie.node, .int .i64 p.lie.level, .int .i64 p.lie.pod, .int .i64 p.lie.mtu, .int .i64 p.lie.link, .int .i64 p.lie.nonce, .int .i64 p.lie.seen, .int .i64 p.lie.seenLink, .int .i64 p.lie.seenNonce, .int .i64 p.lie.hold, .bool p.lie.rep, .bool p.lie.noOffer, .int .i64 p.tie.head.id.dir, .int .i64 p.tie.head.id.orig, .int .i64 p.tie.head.id.kind, .int .i64 p.tie.head.id.nr, .int .i64 p.tie.head.seq, .int .i64 p.tie.head.life, .int .i64 p.tie.level, .bool p.tie.over, .slice ae p.tie.edges.length ce, .slice ar p.tie.reaches.length cr, .int .i64 p.frm.dir, .int .i64 p.frm.orig, .int .i64 p.frm.kind, .int .i64 p.frm.nr, .int .i64 p.to.dir, .int .i64 p.to.orig, .int .i64 p.to.kind, .int .i64 p.to.nr, .slice ah p.heads.length ch] 36)).heap.size = w.heap.size + 1) := by show _ = _; simp
  have HF1 := Lib.hid (fun (W : World) (hW : Below w.heap.size w W) => few_any a1 c1 l1 (came_len hc1) hc1.bs W ((hc1.rd.below hW).mono hW.size))
  have HF2 := Lib.hid (fun (W : World) (hW : Below w.heap.size w W) => few_any a2 c2 l2 (came_len hc2) hc2.bs W ((hc2.rd.below hW).mono hW.size))
  have HV1 := Lib.hid (fun (W : World) (hW : Below w.heap.size w W) => pright_any a1 c1 l1 (came_len hc1) W ((hc1.rd.below hW).mono hW.size))
  have HV2 := Lib.hid (fun (W : World) (hW : Below w.heap.size w W) => pright_any a2 c2 l2 (came_len hc2) W ((hc2.rd.below hW).mono hW.size))
  have HR := Lib.hid (fun (W : World) (hW : Below w.heap.size w W) => wright_any p ae ar ah ce cr ch W ((hp.below hW).mono hW.size))
  have T1 : True := trivial
  have T2 : True := trivial
  have T3 : True := trivial
  have T4 : True := trivial
  have HF := Lib.hid hf
  have HB1 := Lib.hid hb1
  have HB2 := Lib.hid hb2
  have HRW := Lib.hid hr
  have HR1 := Lib.hid hr1
  have HR2 := Lib.hid hr2
  have hpos := hT.pos
  obtain ⟨hs1, hs1b⟩ := few_small hb1
  obtain ⟨hs2, hs2b⟩ := few_small hb2
  have HK1 := Lib.hid (fun (W : World) (hW : Below w.heap.size w W) => wknown_any (a := a1) (cap := c1) (l := l1) rfl (by omega) (fun x hx => by have := hs1b x hx; omega) ((hc1.rd.below hW).mono hW.size) (hT.below hW hpos))
  have HK2 := Lib.hid (fun (W : World) (hW : Below w.heap.size w W) => wknown_any (a := a2) (cap := c2) (l := l2) rfl (by omega) (fun x hx => by have := hs2b x hx; omega) ((hc2.rd.below hW).mono hW.size) (hT.below hW hpos))
  have T5 : True := trivial
  have T6 : True := trivial
  clear hp hc1 hc2 hT hf hb1 hb2 hr hr1 hr2 hs1b hs2b
  go_enter Tryd.func5, Tryd.ntmps5
  go_wp2_with (first
    | (go_at_call 8; refine (awakew_any _).mono ?_; rintro e w1 ⟨rfl, hb⟩; have B1 := Lib.hid (hb.mono (show w.heap.size + 1 ≤ _ by have := HSZ.out; omega)); clear hb)
    | (refine wpList_load_mid rfl 36 (.tmp 3) rfl _ _ rfl _ _ (RP.out _ B1.out) Tryd.underlying36 rfl (by kernel_rfl) ?_)
    | (go_at_call 17; refine (few3_any p ae ar ah ce cr ch _).mono ?_; rintro e w2 ⟨rfl, hb⟩; rw [HF.out]; have B2 := Lib.hid (B1.out.trans (hb.mono (by have := HSZ.out; have := B1.out.size; omega))); have BW2 := Lib.hid (HB0.out.trans (B2.out.mono (by omega))); clear hb)
    | (go_at_call 12; have _t := T1; (with_reducible refine (HF1.out w2 BW2.out).mono ?_); rintro e wz ⟨rfl, rfl⟩; rw [HB1.out]; clear T1)
    | (go_at_call 12; have _t := T2; (with_reducible refine (HF2.out w2 BW2.out).mono ?_); rintro e wz ⟨rfl, rfl⟩; rw [HB2.out]; clear T2)
    | (refine wpList_load_g 36 (.tmp 3) rfl _ _ rfl _ _ (RP.out _ B2.out) Tryd.underlying36 rfl (by kernel_rfl) (by rfl) ?_)
    | (go_at_call 18; (with_reducible refine (HR.out w2 BW2.out).mono ?_); rintro e w3 ⟨rfl, hb⟩; rw [HRW.out]; have B3 := Lib.hid (B2.out.trans (hb.mono (by have := HSZ.out; have := B2.out.size; omega))); have BW3 := Lib.hid (HB0.out.trans (B3.out.mono (by omega))); clear hb)
    | (go_at_call 16; have _t := T3; (with_reducible refine (HV1.out w3 BW3.out).mono ?_); rintro e w4 ⟨rfl, hb⟩; rw [HR1.out]; have B4 := Lib.hid (B3.out.trans (hb.mono (by have := HSZ.out; have := B3.out.size; omega))); have BW4 := Lib.hid (HB0.out.trans (B4.out.mono (by omega))); clear hb; clear T3)
    | (go_at_call 16; have _t := T4; (with_reducible refine (HV2.out w4 BW4.out).mono ?_); rintro e w5 ⟨rfl, hb⟩; rw [HR2.out]; have B5 := Lib.hid (B4.out.trans (hb.mono (by have := HSZ.out; have := B4.out.size; omega))); have BW5 := Lib.hid (HB0.out.trans (B5.out.mono (by omega))); clear hb; clear T4)
    | (go_at_call 13; have _t := T5; (with_reducible refine (HK1.out w5 BW5.out).mono ?_); rintro e w6 ⟨A6, n6, c6, rfl, hn6, hc6, hm6, _, hb⟩; obtain rfl : n6 = 0 := hn6.trans hk1; clear hn6; have B6 := Lib.hid (B5.out.trans (hb.mono (by have := HSZ.out; have := B5.out.size; omega))); have BW6 := Lib.hid (HB0.out.trans (B6.out.mono (by omega))); clear hb; clear T5)
    | (go_at_call 13; have _t := T6; (with_reducible refine (HK2.out w6 BW6.out).mono ?_); rintro e w7 ⟨A7, n7, c7, rfl, hn7, hc7, hm7, _, hb⟩; obtain ⟨m, rfl⟩ : ∃ m, n7 = m + 1 := ⟨n7 - 1, by omega⟩; have hm0 := hm7; unfold maxLen at hm0; clear hn7; have B7 := Lib.hid (B6.out.trans (hb.mono (by have := HSZ.out; have := B6.out.size; omega))); have BW7 := Lib.hid (HB0.out.trans (B7.out.mono (by omega))); clear hb; clear T6))
  go_ret
  exact ⟨rfl, BW7.out⟩
set_option maxRecDepth 100000 in
set_option maxHeartbeats 16000000 in
theorem back_full (p : PackT) (ae ar ah : Option Addr) (ce cr ch : Nat) (a1 : Option Addr) (c1 : Nat) (l1 : List It) (a2 : Option Addr) (c2 : Nat) (l2 : List It) (w : World) (hp : Pk w.heap.size w p ae ar ah ce cr ch) (hc1 : Came w a1 c1 l1) (hc2 : Came w a2 c2 l2) (hT : Tab w) (hf : few3 p = true) (hb1 : fewB l1 = true) (hb2 : fewB l2 = true) (hr : rightW p = true) (hr1 : rightB l1 = true) (hr2 : rightB l2 = true) (hk1 : (knownP l1).length = 0) (hk2 : (knownP l2).length = 0) (hx : 4096 < (encL ((([] ++ l1) ++ packI p) ++ l2)).length) : Calls Tryd.prog 5 #[.agg #[.int .i64 p.kind, .int .i64 p.lie.node, .int .i64 p.lie.level, .int .i64 p.lie.pod, .int .i64 p.lie.mtu, .int .i64 p.lie.link, .int .i64 p.lie.nonce, .int .i64 p.lie.seen, .int .i64 p.lie.seenLink, .int .i64 p.lie.seenNonce, .int .i64 p.lie.hold, .bool p.lie.rep, .bool p.lie.noOffer, .int .i64 p.tie.head.id.dir, .int .i64 p.tie.head.id.orig, .int .i64 p.tie.head.id.kind, .int .i64 p.tie.head.id.nr, .int .i64 p.tie.head.seq, .int .i64 p.tie.head.life, .int .i64 p.tie.level, .bool p.tie.over, .slice ae p.tie.edges.length ce, .slice ar p.tie.reaches.length cr, .int .i64 p.frm.dir, .int .i64 p.frm.orig, .int .i64 p.frm.kind, .int .i64 p.frm.nr, .int .i64 p.to.dir, .int .i64 p.to.orig, .int .i64 p.to.kind, .int .i64 p.to.nr, .slice ah p.heads.length ch], .slice a1 l1.length c1, .slice a2 l2.length c2] w fun e w' => e = .returned (.bool true) ∧ Below w.heap.size w w' := by
  have HB0 := Lib.hid ((Below.refl w.heap.size w).alloc (Nat.le_refl _) (.cells #[.int .i64 p.kind, .int .i64 p.lie.node, .int .i64 p.lie.level, .int .i64 p.lie.pod, .int .i64 p.lie.mtu, .int .i64 p.lie.link, .int .i64 p.lie.nonce, .int .i64 p.lie.seen, .int .i64 p.lie.seenLink, .int .i64 p.lie.seenNonce, .int .i64 p.lie.hold, .bool p.lie.rep, .bool p.lie.noOffer, .int .i64 p.tie.head.id.dir, .int .i64 p.tie.head.id.orig, .int .i64 p.tie.head.id.kind, .int .i64 p.tie.head.id.nr, .int .i64 p.tie.head.seq, .int .i64 p.tie.head.life, .int .i64 p.tie.level, .bool p.tie.over, .slice ae p.tie.edges.length ce, .slice ar p.tie.reaches.length cr, .int .i64 p.frm.dir, .int .i64 p.frm.orig, .int .i64 p.frm.kind, .int .i64 p.frm.nr, .int .i64 p.to.dir, .int .i64 p.to.orig, .int .i64 p.to.kind, .int .i64 p.to.nr, .slice ah p.heads.length ch] 36))
  have RP : RowKit.Hid (∀ W, Below (w.heap.size + 1) (w.alloc (.cells #[.int .i64 p.kind, .int .i64 p.lie.node, .int .i64 p.lie.level, .int .i64 p.lie.pod, .int .i64 p.lie.mtu, .int .i64 p.lie.link, .int .i64 p.lie.nonce, .int .i64 p.lie.seen, .int .i64 p.lie.seenLink, .int .i64 p.lie.seenNonce, .int .i64 p.lie.hold, .bool p.lie.rep, .bool p.lie.noOffer, .int .i64 p.tie.head.id.dir, .int .i64 p.tie.head.id.orig, .int .i64 p.tie.head.id.kind, .int .i64 p.tie.head.id.nr, .int .i64 p.tie.head.seq, .int .i64 p.tie.head.life, .int .i64 p.tie.level, .bool p.tie.over, .slice ae p.tie.edges.length ce, .slice ar p.tie.reaches.length cr, .int .i64 p.frm.dir, .int .i64 p.frm.orig, .int .i64 p.frm.kind, .int .i64 p.frm.nr, .int .i64 p.to.dir, .int .i64 p.to.orig, .int .i64 p.to.kind, .int .i64 p.to.nr, .slice ah p.heads.length ch] 36)) W → W.rangeAt w.heap.size 0 [.int .i64 p.kind, .int .i64 p.lie.node, .int .i64 p.lie.level, .int .i64 p.lie.pod, .int .i64 p.lie.mtu, .int .i64 p.lie.link, .int .i64 p.lie.nonce, .int .i64 p.lie.seen, .int .i64 p.lie.seenLink, .int .i64 p.lie.seenNonce, .int .i64 p.lie.hold, .bool p.lie.rep, .bool p.lie.noOffer, .int .i64 p.tie.head.id.dir, .int .i64 p.tie.head.id.orig, .int .i64 p.tie.head.id.kind, .int .i64 p.tie.head.id.nr, .int .i64 p.tie.head.seq, .int .i64 p.tie.head.life, .int .i64 p.tie.level, .bool p.tie.over, .slice ae p.tie.edges.length ce, .slice ar p.tie.reaches.length cr, .int .i64 p.frm.dir, .int .i64 p.frm.orig, .int .i64 p.frm.kind, .int .i64 p.frm.nr, .int .i64 p.to.dir, .int .i64 p.to.orig, .int .i64 p.to.kind, .int .i64 p.to.nr, .slice ah p.heads.length ch]) := fun W hb => box_range (World.alloc_heap_new w _) hb (Nat.lt_succ_self _)
  have HSZ : RowKit.Hid ((w.alloc (.cells #[.int .i64 p.kind, .int .i64 p.lie.node, .int .i64 p.lie.level, .int .i64 p.lie.pod, .int .i64 p.lie.mtu, .int .i64 p.lie.link, .int .i64 p.lie.nonce, .int .i64 p.lie.seen, .int .i64 p.lie.seenLink, .int .i64 p.lie.seenNonce, .int .i64 p.lie.hold, .bool p.lie.rep, .bool p.lie.noOffer, .int .i64 p.tie.head.id.dir, .int .i64 p.tie.head.id.orig, .int .i64 p.tie.head.id.kind, .int .i64 p.tie.head.id.nr, .int .i64 p.tie.head.seq, .int .i64 p.tie.head.life, .int .i64 p.tie.level, .bool p.tie.over, .slice ae p.tie.edges.length ce, .slice ar p.tie.reaches.length cr, .int .i64 p.frm.dir, .int .i64 p.frm.orig, .int .i64 p.frm.kind, .int .i64 p.frm.nr, .int .i64 p.to.dir, .int .i64 p.to.orig, .int .i64 p.to.kind, .int .i64 p.to.nr, .slice ah p.heads.length ch] 36)).heap.size = w.heap.size + 1) := by show _ = _; simp
  have HF1 := Lib.hid (fun (W : World) (hW : Below w.heap.size w W) => few_any a1 c1 l1 (came_len hc1) hc1.bs W ((hc1.rd.below hW).mono hW.size))
  have HF2 := Lib.hid (fun (W : World) (hW : Below w.heap.size w W) => few_any a2 c2 l2 (came_len hc2) hc2.bs W ((hc2.rd.below hW).mono hW.size))
  have HV1 := Lib.hid (fun (W : World) (hW : Below w.heap.size w W) => pright_any a1 c1 l1 (came_len hc1) W ((hc1.rd.below hW).mono hW.size))
  have HV2 := Lib.hid (fun (W : World) (hW : Below w.heap.size w W) => pright_any a2 c2 l2 (came_len hc2) W ((hc2.rd.below hW).mono hW.size))
  have HR := Lib.hid (fun (W : World) (hW : Below w.heap.size w W) => wright_any p ae ar ah ce cr ch W ((hp.below hW).mono hW.size))
  have T1 : True := trivial
  have T2 : True := trivial
  have T3 : True := trivial
  have T4 : True := trivial
  have HF := Lib.hid hf
  have HB1 := Lib.hid hb1
  have HB2 := Lib.hid hb2
  have HRW := Lib.hid hr
  have HR1 := Lib.hid hr1
  have HR2 := Lib.hid hr2
  have hpos := hT.pos
  obtain ⟨hs1, hs1b⟩ := few_small hb1
  obtain ⟨hs2, hs2b⟩ := few_small hb2
  have HK1 := Lib.hid (fun (W : World) (hW : Below w.heap.size w W) => wknown_any (a := a1) (cap := c1) (l := l1) rfl (by omega) (fun x hx => by have := hs1b x hx; omega) ((hc1.rd.below hW).mono hW.size) (hT.below hW hpos))
  have HK2 := Lib.hid (fun (W : World) (hW : Below w.heap.size w W) => wknown_any (a := a2) (cap := c2) (l := l2) rfl (by omega) (fun x hx => by have := hs2b x hx; omega) ((hc2.rd.below hW).mono hW.size) (hT.below hW hpos))
  have T5 : True := trivial
  have T6 : True := trivial
  have hpl := len_pack (by have h := hr; rw [rightW, Bool.and_eq_true] at h; exact h.1 : packR p = true)
  have RL1 := Lib.hid hc1.rd
  have HBS := Lib.hid (pack_bs hr)
  have RL2 := Lib.hid hc2.rd
  have HI := Lib.hid (fun (W : World) (hW : Below w.heap.size w W) => witems_yes p ae ar ah ce cr ch W ((hp.below hW).mono hW.size) hr)
  have hok : ∀ x ∈ ((([] ++ l1) ++ packI p) ++ l2), x.ok ∧ x.bs.length ≤ 10000 := fun x hx => by
    rcases List.mem_append.1 hx with h | h
    · rcases List.mem_append.1 h with h | h
      · exact ⟨hc1.ok x h, hs1b x h⟩
      · exact ⟨(pack_all hr x h).1, by rw [pack_bs hr x h]; simp⟩
    · exact ⟨hc2.ok x h, hs2b x h⟩
  obtain ⟨hrj, hkj⟩ := known_mid (p := p) hr hr1 hr2 (List.eq_nil_of_length_eq_zero hk1) (List.eq_nil_of_length_eq_zero hk2)
  have hlj : ((([] ++ l1) ++ packI p) ++ l2).length ≤ 1000000 := by simp; omega
  have HJ := Lib.hid (fun (A : Option Addr) (n c : Nat) (hn : n = ((([] ++ l1) ++ packI p) ++ l2).length) (W : World) (hrd : RdI W.heap.size W A ((([] ++ l1) ++ packI p) ++ l2)) => (show Calls Tryd.prog 20 #[.slice A n c] W (fun e w' => e = .returned (.tuple #[.slice none 0 0, .int .i64 3]) ∧ Below W.heap.size W w') by
    subst hn
    exact (pencode_any A c ((([] ++ l1) ++ packI p) ++ l2) hlj (fun x hx => by have := (hok x hx).2; omega) (fun x hx => (hok x hx).1) W hrd).mono fun e w' h => h.full hrj hx))
  clear hp hc1 hc2 hT hf hb1 hb2 hr hr1 hr2 hs1b hs2b hok hrj hkj hx hlj
  go_enter Tryd.func5, Tryd.ntmps5
  go_wp2_with (first
    | (go_at_call 8; refine (awakew_any _).mono ?_; rintro e w1 ⟨rfl, hb⟩; have B1 := Lib.hid (hb.mono (show w.heap.size + 1 ≤ _ by have := HSZ.out; omega)); clear hb)
    | (refine wpList_load_mid rfl 36 (.tmp 3) rfl _ _ rfl _ _ (RP.out _ B1.out) Tryd.underlying36 rfl (by kernel_rfl) ?_)
    | (go_at_call 17; refine (few3_any p ae ar ah ce cr ch _).mono ?_; rintro e w2 ⟨rfl, hb⟩; rw [HF.out]; have B2 := Lib.hid (B1.out.trans (hb.mono (by have := HSZ.out; have := B1.out.size; omega))); have BW2 := Lib.hid (HB0.out.trans (B2.out.mono (by omega))); clear hb)
    | (go_at_call 12; have _t := T1; (with_reducible refine (HF1.out w2 BW2.out).mono ?_); rintro e wz ⟨rfl, rfl⟩; rw [HB1.out]; clear T1)
    | (go_at_call 12; have _t := T2; (with_reducible refine (HF2.out w2 BW2.out).mono ?_); rintro e wz ⟨rfl, rfl⟩; rw [HB2.out]; clear T2)
    | (refine wpList_load_g 36 (.tmp 3) rfl _ _ rfl _ _ (RP.out _ B2.out) Tryd.underlying36 rfl (by kernel_rfl) (by rfl) ?_)
    | (go_at_call 18; (with_reducible refine (HR.out w2 BW2.out).mono ?_); rintro e w3 ⟨rfl, hb⟩; rw [HRW.out]; have B3 := Lib.hid (B2.out.trans (hb.mono (by have := HSZ.out; have := B2.out.size; omega))); have BW3 := Lib.hid (HB0.out.trans (B3.out.mono (by omega))); clear hb)
    | (go_at_call 16; have _t := T3; (with_reducible refine (HV1.out w3 BW3.out).mono ?_); rintro e w4 ⟨rfl, hb⟩; rw [HR1.out]; have B4 := Lib.hid (B3.out.trans (hb.mono (by have := HSZ.out; have := B3.out.size; omega))); have BW4 := Lib.hid (HB0.out.trans (B4.out.mono (by omega))); clear hb; clear T3)
    | (go_at_call 16; have _t := T4; (with_reducible refine (HV2.out w4 BW4.out).mono ?_); rintro e w5 ⟨rfl, hb⟩; rw [HR2.out]; have B5 := Lib.hid (B4.out.trans (hb.mono (by have := HSZ.out; have := B4.out.size; omega))); have BW5 := Lib.hid (HB0.out.trans (B5.out.mono (by omega))); clear hb; clear T4)
    | (go_at_call 13; have _t := T5; (with_reducible refine (HK1.out w5 BW5.out).mono ?_); rintro e w6 ⟨A6, n6, c6, rfl, hn6, hc6, hm6, _, hb⟩; obtain rfl : n6 = 0 := hn6.trans hk1; clear hn6; have B6 := Lib.hid (B5.out.trans (hb.mono (by have := HSZ.out; have := B5.out.size; omega))); have BW6 := Lib.hid (HB0.out.trans (B6.out.mono (by omega))); clear hb; clear T5)
    | (go_at_call 13; have _t := T6; (with_reducible refine (HK2.out w6 BW6.out).mono ?_); rintro e w7 ⟨A7, n7, c7, rfl, hn7, hc7, hm7, _, hb⟩; obtain rfl : n7 = 0 := hn7.trans hk2; clear hn7; have B7 := Lib.hid (B6.out.trans (hb.mono (by have := HSZ.out; have := B6.out.size; omega))); have BW7 := Lib.hid (HB0.out.trans (B7.out.mono (by omega))); clear hb; clear T6))
  have BD := Lib.hid (show Below (w.heap.size + 1) (w.alloc (.cells #[.int .i64 p.kind, .int .i64 p.lie.node, .int .i64 p.lie.level, .int .i64 p.lie.pod, .int .i64 p.lie.mtu, .int .i64 p.lie.link, .int .i64 p.lie.nonce, .int .i64 p.lie.seen, .int .i64 p.lie.seenLink, .int .i64 p.lie.seenNonce, .int .i64 p.lie.hold, .bool p.lie.rep, .bool p.lie.noOffer, .int .i64 p.tie.head.id.dir, .int .i64 p.tie.head.id.orig, .int .i64 p.tie.head.id.kind, .int .i64 p.tie.head.id.nr, .int .i64 p.tie.head.seq, .int .i64 p.tie.head.life, .int .i64 p.tie.level, .bool p.tie.over, .slice ae p.tie.edges.length ce, .slice ar p.tie.reaches.length cr, .int .i64 p.frm.dir, .int .i64 p.frm.orig, .int .i64 p.frm.kind, .int .i64 p.frm.nr, .int .i64 p.to.dir, .int .i64 p.to.orig, .int .i64 p.to.kind, .int .i64 p.to.nr, .slice ah p.heads.length ch] 36)) w7.drew from B7.out.drew)
  refine wp_region_held_drew (S := (fun w' : World => w'.rangeAt w.heap.size 0 [.int .i64 p.kind, .int .i64 p.lie.node, .int .i64 p.lie.level, .int .i64 p.lie.pod, .int .i64 p.lie.mtu, .int .i64 p.lie.link, .int .i64 p.lie.nonce, .int .i64 p.lie.seen, .int .i64 p.lie.seenLink, .int .i64 p.lie.seenNonce, .int .i64 p.lie.hold, .bool p.lie.rep, .bool p.lie.noOffer, .int .i64 p.tie.head.id.dir, .int .i64 p.tie.head.id.orig, .int .i64 p.tie.head.id.kind, .int .i64 p.tie.head.id.nr, .int .i64 p.tie.head.seq, .int .i64 p.tie.head.life, .int .i64 p.tie.level, .bool p.tie.over, .slice ae p.tie.edges.length ce, .slice ar p.tie.reaches.length cr, .int .i64 p.frm.dir, .int .i64 p.frm.orig, .int .i64 p.frm.kind, .int .i64 p.frm.nr, .int .i64 p.to.dir, .int .i64 p.to.orig, .int .i64 p.to.kind, .int .i64 p.to.nr, .slice ah p.heads.length ch])) (by kernel_rfl) (RP.out _ BD.out) (fun hHeld => ?_)
  refine takeD (i := 1) (d := 65) (v := ?v1) rfl rfl (by kernel_rfl) (by kernel_rfl) (by kernel_rfl) (fun _ _ _ h => h) rfl ?h1 (by assumption) ?r1
  case h1 =>
    intro w hSw
    go_simp
    try with_reducible rfl
  simp only [List.setIfInBounds_toArray, List.set_cons_zero, List.set_cons_succ]
  refine takeD (i := 6) (d := 70) (v := ?v6) rfl rfl (by kernel_rfl) (by kernel_rfl) (by kernel_rfl) (fun _ _ _ h => h) rfl ?h6 (by assumption) ?r6
  case h6 =>
    intro w hSw
    go_simp
    try with_reducible rfl
  simp only [List.setIfInBounds_toArray, List.set_cons_zero, List.set_cons_succ]
  refine takeLoad (i := 3) (d := 67) rfl rfl (by kernel_rfl) (by kernel_rfl) (by kernel_rfl) (by rfl) 36 (.tmp 3) rfl w.heap.size 0 rfl [.int .i64 p.kind, .int .i64 p.lie.node, .int .i64 p.lie.level, .int .i64 p.lie.pod, .int .i64 p.lie.mtu, .int .i64 p.lie.link, .int .i64 p.lie.nonce, .int .i64 p.lie.seen, .int .i64 p.lie.seenLink, .int .i64 p.lie.seenNonce, .int .i64 p.lie.hold, .bool p.lie.rep, .bool p.lie.noOffer, .int .i64 p.tie.head.id.dir, .int .i64 p.tie.head.id.orig, .int .i64 p.tie.head.id.kind, .int .i64 p.tie.head.id.nr, .int .i64 p.tie.head.seq, .int .i64 p.tie.head.life, .int .i64 p.tie.level, .bool p.tie.over, .slice ae p.tie.edges.length ce, .slice ar p.tie.reaches.length cr, .int .i64 p.frm.dir, .int .i64 p.frm.orig, .int .i64 p.frm.kind, .int .i64 p.frm.nr, .int .i64 p.to.dir, .int .i64 p.to.orig, .int .i64 p.to.kind, .int .i64 p.to.nr, .slice ah p.heads.length ch] _ (fun w h => h) Tryd.underlying36 rfl (by kernel_rfl) (fun _ _ _ h => h) (by assumption) ?_
  simp only [List.setIfInBounds_toArray, List.set_cons_zero, List.set_cons_succ]
  refine wpAnyH_ready (rs := [0]) (by kernel_rfl) (by simp) ?_
  refine AllReadyH.cons rfl (fun K hK => ?_) AllReadyH.nil
  go_simp
  have B8 := Lib.hid (BD.out.alloc (by have := HSZ.out; have := BD.out.size; omega) (.cells #[] 64))
  have BW8 := Lib.hid (HB0.out.trans (B8.out.mono (by omega)))
  have O8 := Lib.hid (OwnI.empty w7.drew)
  refine hK.out _ _ (RP.out _ B8.out) (fun hHeld => ?_)
  clear hK K
  refine wpAnyH_ready (rs := [2]) (by kernel_rfl) (by simp) ?_
  refine AllReadyH.cons rfl (fun K hK => ?_) AllReadyH.nil
  refine step_append_items 66 rfl (by rfl) (.tmp 64) (.tmp 65) rfl w7.heap.size _ [] rfl O8.out a1 l1 l1.length c1 rfl rfl ((RL1.out.below BW8.out).mono (by have := BW7.out.size; omega)).src (by simp; omega) (by simp) ?_
  intro v9 w9 ho hb _
  obtain ⟨V9, n9, c9, rfl, hn9, hc9⟩ := ho.form_n
  have B9 := Lib.hid (B8.out.trans (hb.mono (by have := HSZ.out; have := B7.out.size; omega)))
  have BW9 := Lib.hid (HB0.out.trans (B9.out.mono (by omega)))
  have O9 := Lib.hid ho
  have L9 := Lib.hid (show w7.heap.size ≤ w9.heap.size by have := hb.size; simp at this; omega)
  clear ho hb hn9 hc9 O8
  simp only [List.setIfInBounds_toArray, List.set_cons_zero, List.set_cons_succ]
  refine hK.out _ _ (RP.out _ B9.out) (fun hHeld => ?_)
  clear hK K
  refine wpAnyH_ready (rs := [4]) (by kernel_rfl) (by simp) ?_
  refine AllReadyH.cons rfl (fun K hK => ?_) AllReadyH.nil
  go_simp
  go_wp2_with (first
    | (go_at_call 19; refine (HI.out w9 BW9.out).mono ?_; rintro e w10 ⟨A10, n10, c10, rfl, hn10, hc10, hm10, hr10, hb⟩; have O10 := Lib.hid (O9.out.below hb (.inl (Nat.le_refl _)) L9.out); have R10 := Lib.hid hr10; have N10 := Lib.hid hn10; have L10 := Lib.hid (Nat.le_trans L9.out hb.size); have B10 := Lib.hid (B9.out.trans (hb.mono (by have := HSZ.out; have := B9.out.size; omega))); have BW10 := Lib.hid (HB0.out.trans (B10.out.mono (by omega))); clear hb hr10 hn10))
  refine hK.out _ _ (RP.out _ B10.out) (fun hHeld => ?_)
  clear hK K
  refine wpAnyH_ready (rs := [5]) (by kernel_rfl) (by simp) ?_
  refine AllReadyH.cons rfl (fun K hK => ?_) AllReadyH.nil
  refine step_append_items 69 rfl (by rfl) (.tmp 66) (.tmp 68) rfl w7.heap.size _ ([] ++ l1) rfl O10.out A10 (packI p) n10 c10 rfl N10.out ?src5 (by have := hpl; simp; omega) L10.out ?_
  case src5 => exact R10.out.src.lower HBS.out
  intro v11 w11 ho hb _
  obtain ⟨V11, n11, c11, rfl, hn11, hc11⟩ := ho.form_n
  have B11 := Lib.hid (B10.out.trans (hb.mono (by have := HSZ.out; have := B7.out.size; omega)))
  have BW11 := Lib.hid (HB0.out.trans (B11.out.mono (by omega)))
  have O11 := Lib.hid ho
  have L11 := Lib.hid (Nat.le_trans L10.out hb.size)
  clear ho hb hn11 hc11
  simp only [List.setIfInBounds_toArray, List.set_cons_zero, List.set_cons_succ]
  refine hK.out _ _ (RP.out _ B11.out) (fun hHeld => ?_)
  clear hK K
  refine wpAnyH_ready (rs := [7]) (by kernel_rfl) (by simp) ?_
  refine AllReadyH.cons rfl (fun K hK => ?_) AllReadyH.nil
  refine step_append_items 71 rfl (by rfl) (.tmp 69) (.tmp 70) rfl w7.heap.size _ (([] ++ l1) ++ packI p) rfl O11.out a2 l2 l2.length c2 rfl rfl ((RL2.out.below BW11.out).mono (by have := BW7.out.size; omega)).src (by have := hpl; simp; omega) L11.out ?_
  intro v12 w12 ho hb _
  obtain ⟨V12, n12, c12, rfl, hn12, hc12⟩ := ho.form_n
  have B12 := Lib.hid (B11.out.trans (hb.mono (by have := HSZ.out; have := B7.out.size; omega)))
  have BW12 := Lib.hid (HB0.out.trans (B12.out.mono (by omega)))
  have L12 := Nat.le_trans L11.out hb.size
  have R12 := Lib.hid (ho.rd (n₁ := w12.heap.size) L12 (Nat.le_refl _))
  have N12 := Lib.hid hn12
  clear ho hb hn12 hc12 L12
  simp only [List.setIfInBounds_toArray, List.set_cons_zero, List.set_cons_succ]
  refine hK.out _ _ (RP.out _ B12.out) (fun hHeld => ?_)
  clear hK K
  refine takeD (i := 8) (d := 11) (v := ?v8) rfl rfl (by kernel_rfl) (by kernel_rfl) (by kernel_rfl) (fun _ _ _ h => h) rfl ?h8 (by assumption) ?r8
  case h8 =>
    intro w hSw
    go_simp
    try with_reducible rfl
  simp only [List.setIfInBounds_toArray, List.set_cons_zero, List.set_cons_succ]
  refine wpAnyH_done (by kernel_rfl) ?_ _
  clear hHeld
  go_wp2_with (go_at_call 20; refine (HJ.out V12 n12 c12 N12.out w12 R12.out).mono ?_; rintro e w13 ⟨rfl, hb⟩; have BW13 := Lib.hid (BW12.out.trans (hb.mono BW12.out.size)); clear hb)
  go_ret
  exact ⟨rfl, BW13.out⟩
set_option maxRecDepth 100000 in
set_option maxHeartbeats 16000000 in
theorem back_ok (p : PackT) (ae ar ah : Option Addr) (ce cr ch : Nat) (a1 : Option Addr) (c1 : Nat) (l1 : List It) (a2 : Option Addr) (c2 : Nat) (l2 : List It) (w : World) (hp : Pk w.heap.size w p ae ar ah ce cr ch) (hc1 : Came w a1 c1 l1) (hc2 : Came w a2 c2 l2) (hT : Tab w) (hf : few3 p = true) (hb1 : fewB l1 = true) (hb2 : fewB l2 = true) (hr : rightW p = true) (hr1 : rightB l1 = true) (hr2 : rightB l2 = true) (hk1 : (knownP l1).length = 0) (hk2 : (knownP l2).length = 0) (hx : ¬ 4096 < (encL ((([] ++ l1) ++ packI p) ++ l2)).length) (ys : List Int) (hys : encL ((([] ++ l1) ++ packI p) ++ l2) = ys) : Calls Tryd.prog 5 #[.agg #[.int .i64 p.kind, .int .i64 p.lie.node, .int .i64 p.lie.level, .int .i64 p.lie.pod, .int .i64 p.lie.mtu, .int .i64 p.lie.link, .int .i64 p.lie.nonce, .int .i64 p.lie.seen, .int .i64 p.lie.seenLink, .int .i64 p.lie.seenNonce, .int .i64 p.lie.hold, .bool p.lie.rep, .bool p.lie.noOffer, .int .i64 p.tie.head.id.dir, .int .i64 p.tie.head.id.orig, .int .i64 p.tie.head.id.kind, .int .i64 p.tie.head.id.nr, .int .i64 p.tie.head.seq, .int .i64 p.tie.head.life, .int .i64 p.tie.level, .bool p.tie.over, .slice ae p.tie.edges.length ce, .slice ar p.tie.reaches.length cr, .int .i64 p.frm.dir, .int .i64 p.frm.orig, .int .i64 p.frm.kind, .int .i64 p.frm.nr, .int .i64 p.to.dir, .int .i64 p.to.orig, .int .i64 p.to.kind, .int .i64 p.to.nr, .slice ah p.heads.length ch], .slice a1 l1.length c1, .slice a2 l2.length c2] w fun e w' => e = .returned (.bool true) ∧ Below w.heap.size w w' := by
  have HB0 := Lib.hid ((Below.refl w.heap.size w).alloc (Nat.le_refl _) (.cells #[.int .i64 p.kind, .int .i64 p.lie.node, .int .i64 p.lie.level, .int .i64 p.lie.pod, .int .i64 p.lie.mtu, .int .i64 p.lie.link, .int .i64 p.lie.nonce, .int .i64 p.lie.seen, .int .i64 p.lie.seenLink, .int .i64 p.lie.seenNonce, .int .i64 p.lie.hold, .bool p.lie.rep, .bool p.lie.noOffer, .int .i64 p.tie.head.id.dir, .int .i64 p.tie.head.id.orig, .int .i64 p.tie.head.id.kind, .int .i64 p.tie.head.id.nr, .int .i64 p.tie.head.seq, .int .i64 p.tie.head.life, .int .i64 p.tie.level, .bool p.tie.over, .slice ae p.tie.edges.length ce, .slice ar p.tie.reaches.length cr, .int .i64 p.frm.dir, .int .i64 p.frm.orig, .int .i64 p.frm.kind, .int .i64 p.frm.nr, .int .i64 p.to.dir, .int .i64 p.to.orig, .int .i64 p.to.kind, .int .i64 p.to.nr, .slice ah p.heads.length ch] 36))
  have RP : RowKit.Hid (∀ W, Below (w.heap.size + 1) (w.alloc (.cells #[.int .i64 p.kind, .int .i64 p.lie.node, .int .i64 p.lie.level, .int .i64 p.lie.pod, .int .i64 p.lie.mtu, .int .i64 p.lie.link, .int .i64 p.lie.nonce, .int .i64 p.lie.seen, .int .i64 p.lie.seenLink, .int .i64 p.lie.seenNonce, .int .i64 p.lie.hold, .bool p.lie.rep, .bool p.lie.noOffer, .int .i64 p.tie.head.id.dir, .int .i64 p.tie.head.id.orig, .int .i64 p.tie.head.id.kind, .int .i64 p.tie.head.id.nr, .int .i64 p.tie.head.seq, .int .i64 p.tie.head.life, .int .i64 p.tie.level, .bool p.tie.over, .slice ae p.tie.edges.length ce, .slice ar p.tie.reaches.length cr, .int .i64 p.frm.dir, .int .i64 p.frm.orig, .int .i64 p.frm.kind, .int .i64 p.frm.nr, .int .i64 p.to.dir, .int .i64 p.to.orig, .int .i64 p.to.kind, .int .i64 p.to.nr, .slice ah p.heads.length ch] 36)) W → W.rangeAt w.heap.size 0 [.int .i64 p.kind, .int .i64 p.lie.node, .int .i64 p.lie.level, .int .i64 p.lie.pod, .int .i64 p.lie.mtu, .int .i64 p.lie.link, .int .i64 p.lie.nonce, .int .i64 p.lie.seen, .int .i64 p.lie.seenLink, .int .i64 p.lie.seenNonce, .int .i64 p.lie.hold, .bool p.lie.rep, .bool p.lie.noOffer, .int .i64 p.tie.head.id.dir, .int .i64 p.tie.head.id.orig, .int .i64 p.tie.head.id.kind, .int .i64 p.tie.head.id.nr, .int .i64 p.tie.head.seq, .int .i64 p.tie.head.life, .int .i64 p.tie.level, .bool p.tie.over, .slice ae p.tie.edges.length ce, .slice ar p.tie.reaches.length cr, .int .i64 p.frm.dir, .int .i64 p.frm.orig, .int .i64 p.frm.kind, .int .i64 p.frm.nr, .int .i64 p.to.dir, .int .i64 p.to.orig, .int .i64 p.to.kind, .int .i64 p.to.nr, .slice ah p.heads.length ch]) := fun W hb => box_range (World.alloc_heap_new w _) hb (Nat.lt_succ_self _)
  have HSZ : RowKit.Hid ((w.alloc (.cells #[.int .i64 p.kind, .int .i64 p.lie.node, .int .i64 p.lie.level, .int .i64 p.lie.pod, .int .i64 p.lie.mtu, .int .i64 p.lie.link, .int .i64 p.lie.nonce, .int .i64 p.lie.seen, .int .i64 p.lie.seenLink, .int .i64 p.lie.seenNonce, .int .i64 p.lie.hold, .bool p.lie.rep, .bool p.lie.noOffer, .int .i64 p.tie.head.id.dir, .int .i64 p.tie.head.id.orig, .int .i64 p.tie.head.id.kind, .int .i64 p.tie.head.id.nr, .int .i64 p.tie.head.seq, .int .i64 p.tie.head.life, .int .i64 p.tie.level, .bool p.tie.over, .slice ae p.tie.edges.length ce, .slice ar p.tie.reaches.length cr, .int .i64 p.frm.dir, .int .i64 p.frm.orig, .int .i64 p.frm.kind, .int .i64 p.frm.nr, .int .i64 p.to.dir, .int .i64 p.to.orig, .int .i64 p.to.kind, .int .i64 p.to.nr, .slice ah p.heads.length ch] 36)).heap.size = w.heap.size + 1) := by show _ = _; simp
  have HF1 := Lib.hid (fun (W : World) (hW : Below w.heap.size w W) => few_any a1 c1 l1 (came_len hc1) hc1.bs W ((hc1.rd.below hW).mono hW.size))
  have HF2 := Lib.hid (fun (W : World) (hW : Below w.heap.size w W) => few_any a2 c2 l2 (came_len hc2) hc2.bs W ((hc2.rd.below hW).mono hW.size))
  have HV1 := Lib.hid (fun (W : World) (hW : Below w.heap.size w W) => pright_any a1 c1 l1 (came_len hc1) W ((hc1.rd.below hW).mono hW.size))
  have HV2 := Lib.hid (fun (W : World) (hW : Below w.heap.size w W) => pright_any a2 c2 l2 (came_len hc2) W ((hc2.rd.below hW).mono hW.size))
  have HR := Lib.hid (fun (W : World) (hW : Below w.heap.size w W) => wright_any p ae ar ah ce cr ch W ((hp.below hW).mono hW.size))
  have T1 : True := trivial
  have T2 : True := trivial
  have T3 : True := trivial
  have T4 : True := trivial
  have HF := Lib.hid hf
  have HB1 := Lib.hid hb1
  have HB2 := Lib.hid hb2
  have HRW := Lib.hid hr
  have HR1 := Lib.hid hr1
  have HR2 := Lib.hid hr2
  have hpos := hT.pos
  obtain ⟨hs1, hs1b⟩ := few_small hb1
  obtain ⟨hs2, hs2b⟩ := few_small hb2
  have HK1 := Lib.hid (fun (W : World) (hW : Below w.heap.size w W) => wknown_any (a := a1) (cap := c1) (l := l1) rfl (by omega) (fun x hx => by have := hs1b x hx; omega) ((hc1.rd.below hW).mono hW.size) (hT.below hW hpos))
  have HK2 := Lib.hid (fun (W : World) (hW : Below w.heap.size w W) => wknown_any (a := a2) (cap := c2) (l := l2) rfl (by omega) (fun x hx => by have := hs2b x hx; omega) ((hc2.rd.below hW).mono hW.size) (hT.below hW hpos))
  have T5 : True := trivial
  have T6 : True := trivial
  have hpl := len_pack (by have h := hr; rw [rightW, Bool.and_eq_true] at h; exact h.1 : packR p = true)
  have RL1 := Lib.hid hc1.rd
  have HBS := Lib.hid (pack_bs hr)
  have RL2 := Lib.hid hc2.rd
  have HI := Lib.hid (fun (W : World) (hW : Below w.heap.size w W) => witems_yes p ae ar ah ce cr ch W ((hp.below hW).mono hW.size) hr)
  have hok : ∀ x ∈ ((([] ++ l1) ++ packI p) ++ l2), x.ok ∧ x.bs.length ≤ 10000 := fun x hx => by
    rcases List.mem_append.1 hx with h | h
    · rcases List.mem_append.1 h with h | h
      · exact ⟨hc1.ok x h, hs1b x h⟩
      · exact ⟨(pack_all hr x h).1, by rw [pack_bs hr x h]; simp⟩
    · exact ⟨hc2.ok x h, hs2b x h⟩
  obtain ⟨hrj, hkj⟩ := known_mid (p := p) hr hr1 hr2 (List.eq_nil_of_length_eq_zero hk1) (List.eq_nil_of_length_eq_zero hk2)
  have hlj : ((([] ++ l1) ++ packI p) ++ l2).length ≤ 1000000 := by simp; omega
  have hyb : ∀ x ∈ ys, 0 ≤ x ∧ x ≤ 255 := by rw [← hys]; exact encL_range (fun x hx => (hok x hx).1)
  have hyd : decW ys = some p := by rw [← hys]; exact dec_known hrj (fun x hx => ⟨(hok x hx).1, by have := (hok x hx).2; omega⟩) hkj hr hp.ok (by omega)
  have HJ := Lib.hid (fun (A : Option Addr) (n c : Nat) (hn : n = ((([] ++ l1) ++ packI p) ++ l2).length) (W : World) (hrd : RdI W.heap.size W A ((([] ++ l1) ++ packI p) ++ l2)) => (show Calls Tryd.prog 20 #[.slice A n c] W (GotB ys W) by
    subst hn
    exact (pencode_any A c ((([] ++ l1) ++ packI p) ++ l2) hlj (fun x hx => by have := (hok x hx).2; omega) (fun x hx => (hok x hx).1) W hrd).mono fun e w' h => h.ok hrj hx hys))
  have hyl : ys.length ≤ 4096 := by rw [← hys]; omega
  have HD2 := Lib.hid (fun (A : Option Addr) (c : Nat) (hc : ys.length ≤ c) (hm : c ≤ maxLen) (W : World) (hW : Below w.heap.size w W) (hr : Rd .u8 W.heap.size W A ys) => wdec_some (a := A) (cap := c) rfl hyd (by omega) hc (by unfold maxLen at hm; omega) hyb hr (hT.below hW hpos))
  have HP := Lib.hid hp
  clear hp hc1 hc2 hT hf hb1 hb2 hr hr1 hr2 hs1b hs2b hok hrj hkj hx hlj hys hyb hyd
  go_enter Tryd.func5, Tryd.ntmps5
  go_wp2_with (first
    | (go_at_call 8; refine (awakew_any _).mono ?_; rintro e w1 ⟨rfl, hb⟩; have B1 := Lib.hid (hb.mono (show w.heap.size + 1 ≤ _ by have := HSZ.out; omega)); clear hb)
    | (refine wpList_load_mid rfl 36 (.tmp 3) rfl _ _ rfl _ _ (RP.out _ B1.out) Tryd.underlying36 rfl (by kernel_rfl) ?_)
    | (go_at_call 17; refine (few3_any p ae ar ah ce cr ch _).mono ?_; rintro e w2 ⟨rfl, hb⟩; rw [HF.out]; have B2 := Lib.hid (B1.out.trans (hb.mono (by have := HSZ.out; have := B1.out.size; omega))); have BW2 := Lib.hid (HB0.out.trans (B2.out.mono (by omega))); clear hb)
    | (go_at_call 12; have _t := T1; (with_reducible refine (HF1.out w2 BW2.out).mono ?_); rintro e wz ⟨rfl, rfl⟩; rw [HB1.out]; clear T1)
    | (go_at_call 12; have _t := T2; (with_reducible refine (HF2.out w2 BW2.out).mono ?_); rintro e wz ⟨rfl, rfl⟩; rw [HB2.out]; clear T2)
    | (refine wpList_load_g 36 (.tmp 3) rfl _ _ rfl _ _ (RP.out _ B2.out) Tryd.underlying36 rfl (by kernel_rfl) (by rfl) ?_)
    | (go_at_call 18; (with_reducible refine (HR.out w2 BW2.out).mono ?_); rintro e w3 ⟨rfl, hb⟩; rw [HRW.out]; have B3 := Lib.hid (B2.out.trans (hb.mono (by have := HSZ.out; have := B2.out.size; omega))); have BW3 := Lib.hid (HB0.out.trans (B3.out.mono (by omega))); clear hb)
    | (go_at_call 16; have _t := T3; (with_reducible refine (HV1.out w3 BW3.out).mono ?_); rintro e w4 ⟨rfl, hb⟩; rw [HR1.out]; have B4 := Lib.hid (B3.out.trans (hb.mono (by have := HSZ.out; have := B3.out.size; omega))); have BW4 := Lib.hid (HB0.out.trans (B4.out.mono (by omega))); clear hb; clear T3)
    | (go_at_call 16; have _t := T4; (with_reducible refine (HV2.out w4 BW4.out).mono ?_); rintro e w5 ⟨rfl, hb⟩; rw [HR2.out]; have B5 := Lib.hid (B4.out.trans (hb.mono (by have := HSZ.out; have := B4.out.size; omega))); have BW5 := Lib.hid (HB0.out.trans (B5.out.mono (by omega))); clear hb; clear T4)
    | (go_at_call 13; have _t := T5; (with_reducible refine (HK1.out w5 BW5.out).mono ?_); rintro e w6 ⟨A6, n6, c6, rfl, hn6, hc6, hm6, _, hb⟩; obtain rfl : n6 = 0 := hn6.trans hk1; clear hn6; have B6 := Lib.hid (B5.out.trans (hb.mono (by have := HSZ.out; have := B5.out.size; omega))); have BW6 := Lib.hid (HB0.out.trans (B6.out.mono (by omega))); clear hb; clear T5)
    | (go_at_call 13; have _t := T6; (with_reducible refine (HK2.out w6 BW6.out).mono ?_); rintro e w7 ⟨A7, n7, c7, rfl, hn7, hc7, hm7, _, hb⟩; obtain rfl : n7 = 0 := hn7.trans hk2; clear hn7; have B7 := Lib.hid (B6.out.trans (hb.mono (by have := HSZ.out; have := B6.out.size; omega))); have BW7 := Lib.hid (HB0.out.trans (B7.out.mono (by omega))); clear hb; clear T6))
  have BD := Lib.hid (show Below (w.heap.size + 1) (w.alloc (.cells #[.int .i64 p.kind, .int .i64 p.lie.node, .int .i64 p.lie.level, .int .i64 p.lie.pod, .int .i64 p.lie.mtu, .int .i64 p.lie.link, .int .i64 p.lie.nonce, .int .i64 p.lie.seen, .int .i64 p.lie.seenLink, .int .i64 p.lie.seenNonce, .int .i64 p.lie.hold, .bool p.lie.rep, .bool p.lie.noOffer, .int .i64 p.tie.head.id.dir, .int .i64 p.tie.head.id.orig, .int .i64 p.tie.head.id.kind, .int .i64 p.tie.head.id.nr, .int .i64 p.tie.head.seq, .int .i64 p.tie.head.life, .int .i64 p.tie.level, .bool p.tie.over, .slice ae p.tie.edges.length ce, .slice ar p.tie.reaches.length cr, .int .i64 p.frm.dir, .int .i64 p.frm.orig, .int .i64 p.frm.kind, .int .i64 p.frm.nr, .int .i64 p.to.dir, .int .i64 p.to.orig, .int .i64 p.to.kind, .int .i64 p.to.nr, .slice ah p.heads.length ch] 36)) w7.drew from B7.out.drew)
  refine wp_region_held_drew (S := (fun w' : World => w'.rangeAt w.heap.size 0 [.int .i64 p.kind, .int .i64 p.lie.node, .int .i64 p.lie.level, .int .i64 p.lie.pod, .int .i64 p.lie.mtu, .int .i64 p.lie.link, .int .i64 p.lie.nonce, .int .i64 p.lie.seen, .int .i64 p.lie.seenLink, .int .i64 p.lie.seenNonce, .int .i64 p.lie.hold, .bool p.lie.rep, .bool p.lie.noOffer, .int .i64 p.tie.head.id.dir, .int .i64 p.tie.head.id.orig, .int .i64 p.tie.head.id.kind, .int .i64 p.tie.head.id.nr, .int .i64 p.tie.head.seq, .int .i64 p.tie.head.life, .int .i64 p.tie.level, .bool p.tie.over, .slice ae p.tie.edges.length ce, .slice ar p.tie.reaches.length cr, .int .i64 p.frm.dir, .int .i64 p.frm.orig, .int .i64 p.frm.kind, .int .i64 p.frm.nr, .int .i64 p.to.dir, .int .i64 p.to.orig, .int .i64 p.to.kind, .int .i64 p.to.nr, .slice ah p.heads.length ch])) (by kernel_rfl) (RP.out _ BD.out) (fun hHeld => ?_)
  refine takeD (i := 1) (d := 65) (v := ?v1) rfl rfl (by kernel_rfl) (by kernel_rfl) (by kernel_rfl) (fun _ _ _ h => h) rfl ?h1 (by assumption) ?r1
  case h1 =>
    intro w hSw
    go_simp
    try with_reducible rfl
  simp only [List.setIfInBounds_toArray, List.set_cons_zero, List.set_cons_succ]
  refine takeD (i := 6) (d := 70) (v := ?v6) rfl rfl (by kernel_rfl) (by kernel_rfl) (by kernel_rfl) (fun _ _ _ h => h) rfl ?h6 (by assumption) ?r6
  case h6 =>
    intro w hSw
    go_simp
    try with_reducible rfl
  simp only [List.setIfInBounds_toArray, List.set_cons_zero, List.set_cons_succ]
  refine takeLoad (i := 3) (d := 67) rfl rfl (by kernel_rfl) (by kernel_rfl) (by kernel_rfl) (by rfl) 36 (.tmp 3) rfl w.heap.size 0 rfl [.int .i64 p.kind, .int .i64 p.lie.node, .int .i64 p.lie.level, .int .i64 p.lie.pod, .int .i64 p.lie.mtu, .int .i64 p.lie.link, .int .i64 p.lie.nonce, .int .i64 p.lie.seen, .int .i64 p.lie.seenLink, .int .i64 p.lie.seenNonce, .int .i64 p.lie.hold, .bool p.lie.rep, .bool p.lie.noOffer, .int .i64 p.tie.head.id.dir, .int .i64 p.tie.head.id.orig, .int .i64 p.tie.head.id.kind, .int .i64 p.tie.head.id.nr, .int .i64 p.tie.head.seq, .int .i64 p.tie.head.life, .int .i64 p.tie.level, .bool p.tie.over, .slice ae p.tie.edges.length ce, .slice ar p.tie.reaches.length cr, .int .i64 p.frm.dir, .int .i64 p.frm.orig, .int .i64 p.frm.kind, .int .i64 p.frm.nr, .int .i64 p.to.dir, .int .i64 p.to.orig, .int .i64 p.to.kind, .int .i64 p.to.nr, .slice ah p.heads.length ch] _ (fun w h => h) Tryd.underlying36 rfl (by kernel_rfl) (fun _ _ _ h => h) (by assumption) ?_
  simp only [List.setIfInBounds_toArray, List.set_cons_zero, List.set_cons_succ]
  refine wpAnyH_ready (rs := [0]) (by kernel_rfl) (by simp) ?_
  refine AllReadyH.cons rfl (fun K hK => ?_) AllReadyH.nil
  go_simp
  have B8 := Lib.hid (BD.out.alloc (by have := HSZ.out; have := BD.out.size; omega) (.cells #[] 64))
  have BW8 := Lib.hid (HB0.out.trans (B8.out.mono (by omega)))
  have O8 := Lib.hid (OwnI.empty w7.drew)
  refine hK.out _ _ (RP.out _ B8.out) (fun hHeld => ?_)
  clear hK K
  refine wpAnyH_ready (rs := [2]) (by kernel_rfl) (by simp) ?_
  refine AllReadyH.cons rfl (fun K hK => ?_) AllReadyH.nil
  refine step_append_items 66 rfl (by rfl) (.tmp 64) (.tmp 65) rfl w7.heap.size _ [] rfl O8.out a1 l1 l1.length c1 rfl rfl ((RL1.out.below BW8.out).mono (by have := BW7.out.size; omega)).src (by simp; omega) (by simp) ?_
  intro v9 w9 ho hb _
  obtain ⟨V9, n9, c9, rfl, hn9, hc9⟩ := ho.form_n
  have B9 := Lib.hid (B8.out.trans (hb.mono (by have := HSZ.out; have := B7.out.size; omega)))
  have BW9 := Lib.hid (HB0.out.trans (B9.out.mono (by omega)))
  have O9 := Lib.hid ho
  have L9 := Lib.hid (show w7.heap.size ≤ w9.heap.size by have := hb.size; simp at this; omega)
  clear ho hb hn9 hc9 O8
  simp only [List.setIfInBounds_toArray, List.set_cons_zero, List.set_cons_succ]
  refine hK.out _ _ (RP.out _ B9.out) (fun hHeld => ?_)
  clear hK K
  refine wpAnyH_ready (rs := [4]) (by kernel_rfl) (by simp) ?_
  refine AllReadyH.cons rfl (fun K hK => ?_) AllReadyH.nil
  go_simp
  go_wp2_with (first
    | (go_at_call 19; refine (HI.out w9 BW9.out).mono ?_; rintro e w10 ⟨A10, n10, c10, rfl, hn10, hc10, hm10, hr10, hb⟩; have O10 := Lib.hid (O9.out.below hb (.inl (Nat.le_refl _)) L9.out); have R10 := Lib.hid hr10; have N10 := Lib.hid hn10; have L10 := Lib.hid (Nat.le_trans L9.out hb.size); have B10 := Lib.hid (B9.out.trans (hb.mono (by have := HSZ.out; have := B9.out.size; omega))); have BW10 := Lib.hid (HB0.out.trans (B10.out.mono (by omega))); clear hb hr10 hn10))
  refine hK.out _ _ (RP.out _ B10.out) (fun hHeld => ?_)
  clear hK K
  refine wpAnyH_ready (rs := [5]) (by kernel_rfl) (by simp) ?_
  refine AllReadyH.cons rfl (fun K hK => ?_) AllReadyH.nil
  refine step_append_items 69 rfl (by rfl) (.tmp 66) (.tmp 68) rfl w7.heap.size _ ([] ++ l1) rfl O10.out A10 (packI p) n10 c10 rfl N10.out ?src5 (by have := hpl; simp; omega) L10.out ?_
  case src5 => exact R10.out.src.lower HBS.out
  intro v11 w11 ho hb _
  obtain ⟨V11, n11, c11, rfl, hn11, hc11⟩ := ho.form_n
  have B11 := Lib.hid (B10.out.trans (hb.mono (by have := HSZ.out; have := B7.out.size; omega)))
  have BW11 := Lib.hid (HB0.out.trans (B11.out.mono (by omega)))
  have O11 := Lib.hid ho
  have L11 := Lib.hid (Nat.le_trans L10.out hb.size)
  clear ho hb hn11 hc11
  simp only [List.setIfInBounds_toArray, List.set_cons_zero, List.set_cons_succ]
  refine hK.out _ _ (RP.out _ B11.out) (fun hHeld => ?_)
  clear hK K
  refine wpAnyH_ready (rs := [7]) (by kernel_rfl) (by simp) ?_
  refine AllReadyH.cons rfl (fun K hK => ?_) AllReadyH.nil
  refine step_append_items 71 rfl (by rfl) (.tmp 69) (.tmp 70) rfl w7.heap.size _ (([] ++ l1) ++ packI p) rfl O11.out a2 l2 l2.length c2 rfl rfl ((RL2.out.below BW11.out).mono (by have := BW7.out.size; omega)).src (by have := hpl; simp; omega) L11.out ?_
  intro v12 w12 ho hb _
  obtain ⟨V12, n12, c12, rfl, hn12, hc12⟩ := ho.form_n
  have B12 := Lib.hid (B11.out.trans (hb.mono (by have := HSZ.out; have := B7.out.size; omega)))
  have BW12 := Lib.hid (HB0.out.trans (B12.out.mono (by omega)))
  have L12 := Nat.le_trans L11.out hb.size
  have R12 := Lib.hid (ho.rd (n₁ := w12.heap.size) L12 (Nat.le_refl _))
  have N12 := Lib.hid hn12
  clear ho hb hn12 hc12 L12
  simp only [List.setIfInBounds_toArray, List.set_cons_zero, List.set_cons_succ]
  refine hK.out _ _ (RP.out _ B12.out) (fun hHeld => ?_)
  clear hK K
  refine takeD (i := 8) (d := 11) (v := ?v8) rfl rfl (by kernel_rfl) (by kernel_rfl) (by kernel_rfl) (fun _ _ _ h => h) rfl ?h8 (by assumption) ?r8
  case h8 =>
    intro w hSw
    go_simp
    try with_reducible rfl
  simp only [List.setIfInBounds_toArray, List.set_cons_zero, List.set_cons_succ]
  refine wpAnyH_done (by kernel_rfl) ?_ _
  clear hHeld
  go_wp2_with (first
    | (go_at_call 20; refine (HJ.out V12 n12 c12 N12.out w12 R12.out).mono ?_; rintro e w13 ⟨A13, c13, rfl, hc13, hm13, hr13, hb⟩; have R13 := Lib.hid hr13; have B13 := Lib.hid (B12.out.trans (hb.mono (by have := HSZ.out; have := B12.out.size; omega))); have BW13 := Lib.hid (HB0.out.trans (B13.out.mono (by omega))); clear hb; clear hr13)
    | (go_at_call 9; (with_reducible refine (HD2.out A13 c13 hc13 hm13 w13 BW13.out R13.out).mono ?_); rintro e w14 ⟨Be, Br, Bh, De, Dr, Dh, rfl, hq, hb⟩; have PK14 := Lib.hid hq; have TH14 := Lib.hid (there_of (n := 32) (World.alloc_heap_new w14 (.cells #[.int .i64 0, .int .i64 0, .int .i64 0, .int .i64 0, .int .i64 0, .int .i64 0, .int .i64 0, .int .i64 0, .int .i64 0, .int .i64 0, .int .i64 0, .bool false, .bool false, .int .i64 0, .int .i64 0, .int .i64 0, .int .i64 0, .int .i64 0, .int .i64 0, .int .i64 0, .bool false, .slice none 0 0, .slice none 0 0, .int .i64 0, .int .i64 0, .int .i64 0, .int .i64 0, .int .i64 0, .int .i64 0, .int .i64 0, .int .i64 0, .slice none 0 0] 36)) (Nat.le_refl _)); have B14 := Lib.hid (B13.out.trans (hb.mono (by have := HSZ.out; have := B13.out.size; omega))); have BW14 := Lib.hid (HB0.out.trans (B14.out.mono (by omega))); clear hb; clear hq)
    | (refine wpList_store_mid rfl 36 (.tmp 14) (.tmp 84) rfl w14.heap.size 0 #[.int .i64 p.kind, .int .i64 p.lie.node, .int .i64 p.lie.level, .int .i64 p.lie.pod, .int .i64 p.lie.mtu, .int .i64 p.lie.link, .int .i64 p.lie.nonce, .int .i64 p.lie.seen, .int .i64 p.lie.seenLink, .int .i64 p.lie.seenNonce, .int .i64 p.lie.hold, .bool p.lie.rep, .bool p.lie.noOffer, .int .i64 p.tie.head.id.dir, .int .i64 p.tie.head.id.orig, .int .i64 p.tie.head.id.kind, .int .i64 p.tie.head.id.nr, .int .i64 p.tie.head.seq, .int .i64 p.tie.head.life, .int .i64 p.tie.level, .bool p.tie.over, .slice Be p.tie.edges.length De, .slice Br p.tie.reaches.length Dr, .int .i64 p.frm.dir, .int .i64 p.frm.orig, .int .i64 p.frm.kind, .int .i64 p.frm.nr, .int .i64 p.to.dir, .int .i64 p.to.orig, .int .i64 p.to.kind, .int .i64 p.to.nr, .slice Bh p.heads.length Dh] rfl rfl TH14.out (by kernel_rfl) (by simp [Value.oneCell']) ?_; obtain ⟨W15, hW⟩ : ∃ W, (w14.alloc (.cells #[.int .i64 0, .int .i64 0, .int .i64 0, .int .i64 0, .int .i64 0, .int .i64 0, .int .i64 0, .int .i64 0, .int .i64 0, .int .i64 0, .int .i64 0, .bool false, .bool false, .int .i64 0, .int .i64 0, .int .i64 0, .int .i64 0, .int .i64 0, .int .i64 0, .int .i64 0, .bool false, .slice none 0 0, .slice none 0 0, .int .i64 0, .int .i64 0, .int .i64 0, .int .i64 0, .int .i64 0, .int .i64 0, .int .i64 0, .int .i64 0, .slice none 0 0] 36)).setCells w14.heap.size 0 [.int .i64 p.kind, .int .i64 p.lie.node, .int .i64 p.lie.level, .int .i64 p.lie.pod, .int .i64 p.lie.mtu, .int .i64 p.lie.link, .int .i64 p.lie.nonce, .int .i64 p.lie.seen, .int .i64 p.lie.seenLink, .int .i64 p.lie.seenNonce, .int .i64 p.lie.hold, .bool p.lie.rep, .bool p.lie.noOffer, .int .i64 p.tie.head.id.dir, .int .i64 p.tie.head.id.orig, .int .i64 p.tie.head.id.kind, .int .i64 p.tie.head.id.nr, .int .i64 p.tie.head.seq, .int .i64 p.tie.head.life, .int .i64 p.tie.level, .bool p.tie.over, .slice Be p.tie.edges.length De, .slice Br p.tie.reaches.length Dr, .int .i64 p.frm.dir, .int .i64 p.frm.orig, .int .i64 p.frm.kind, .int .i64 p.frm.nr, .int .i64 p.to.dir, .int .i64 p.to.orig, .int .i64 p.to.kind, .int .i64 p.to.nr, .slice Bh p.heads.length Dh] = W := ⟨_, rfl⟩; rw [hW]; obtain ⟨hpk, hbw, hsz⟩ := boxed_pk hW BW14.out PK14.out; have h45 : Below w14.heap.size w14 W15 := (by rw [← hW]; exact below_cells ((Below.refl _ _).alloc (Nat.le_refl _) _) (Nat.le_refl _) _ _); have PK15 := Lib.hid hpk; have BW15 := Lib.hid hbw; have B15 := Lib.hid (B14.out.trans (h45.mono (by have := HSZ.out; have := B14.out.size; omega))); have RH15 := Lib.hid (boxed_range (Nat.le_refl _) hW); clear hpk hbw hsz hW h45)
    | (refine wpList_load_mid rfl 36 (.tmp 3) rfl _ _ rfl _ _ (RP.out _ B15.out) Tryd.underlying36 rfl (by kernel_rfl) ?_)
    | (refine wpList_load_mid rfl 36 (.tmp 14) rfl _ _ rfl _ _ RH15.out Tryd.underlying36 rfl (by kernel_rfl) ?_)
    | (go_at_call 11; refine (same_self p ae ar ah Be Br Bh ce cr ch De Dr Dh W15 ((HP.out.below BW15.out).mono BW15.out.size) PK15.out).mono ?_; rintro e w16 ⟨rfl, hb⟩; have BW16 := Lib.hid (BW15.out.trans (hb.mono BW15.out.size)); clear hb))
  go_ret
  exact ⟨rfl, BW16.out⟩
end Go.Proofs.YtgngcpbkopjjlaaDoor

namespace Go.Proofs.YtgngcpbkopjjlaaDoor.wireBack
open Go.ChangeShapes Go.WideShapes Go.ChangeAt Go.RowKit
set_option linter.unusedVariables false

theorem own : ownKnob Tryd.prog.godebug = none := by kernel_rfl
theorem laidOut : laidOutB Tryd.prog = true := by kernel_rfl

theorem walk (p : PackT) (ae ar ah : Option Addr) (ce cr ch : Nat) (a1 : Option Addr) (c1 : Nat) (l1 : List It) (a2 : Option Addr) (c2 : Nat) (l2 : List It) (w : World) (hp : Pk w.heap.size w p ae ar ah ce cr ch) (hc1 : Came w a1 c1 l1) (hc2 : Came w a2 c2 l2) (hT : Tab w) : Calls Tryd.prog 5 #[.agg #[.int .i64 p.kind, .int .i64 p.lie.node, .int .i64 p.lie.level, .int .i64 p.lie.pod, .int .i64 p.lie.mtu, .int .i64 p.lie.link, .int .i64 p.lie.nonce, .int .i64 p.lie.seen, .int .i64 p.lie.seenLink, .int .i64 p.lie.seenNonce, .int .i64 p.lie.hold, .bool p.lie.rep, .bool p.lie.noOffer, .int .i64 p.tie.head.id.dir, .int .i64 p.tie.head.id.orig, .int .i64 p.tie.head.id.kind, .int .i64 p.tie.head.id.nr, .int .i64 p.tie.head.seq, .int .i64 p.tie.head.life, .int .i64 p.tie.level, .bool p.tie.over, .slice ae p.tie.edges.length ce, .slice ar p.tie.reaches.length cr, .int .i64 p.frm.dir, .int .i64 p.frm.orig, .int .i64 p.frm.kind, .int .i64 p.frm.nr, .int .i64 p.to.dir, .int .i64 p.to.orig, .int .i64 p.to.kind, .int .i64 p.to.nr, .slice ah p.heads.length ch], .slice a1 l1.length c1, .slice a2 l2.length c2] w fun e w' => e = .returned (.bool true) ∧ Below w.heap.size w w' := by
  by_cases hall : (few3 p && fewB l1 && fewB l2 && rightW p && rightB l1 && rightB l2) = true
  rotate_left
  · exact back_off p ae ar ah ce cr ch a1 c1 l1 a2 c2 l2 w hp hc1 hc2 hT _ _ _ _ _ _ rfl rfl rfl rfl rfl rfl (by simpa using hall)
  simp only [Bool.and_eq_true] at hall
  obtain ⟨⟨⟨⟨⟨h1, h2⟩, h3⟩, h4⟩, h5⟩, h6⟩ := hall
  by_cases k1 : 0 < (knownP l1).length
  · exact back_k1 p ae ar ah ce cr ch a1 c1 l1 a2 c2 l2 w hp hc1 hc2 hT h1 h2 h3 h4 h5 h6 k1
  by_cases k2 : 0 < (knownP l2).length
  · exact back_k2 p ae ar ah ce cr ch a1 c1 l1 a2 c2 l2 w hp hc1 hc2 hT h1 h2 h3 h4 h5 h6 (by omega) k2
  by_cases hx : 4096 < (encL ((([] ++ l1) ++ packI p) ++ l2)).length
  · exact back_full p ae ar ah ce cr ch a1 c1 l1 a2 c2 l2 w hp hc1 hc2 hT h1 h2 h3 h4 h5 h6 (by omega) (by omega) hx
  · exact back_ok p ae ar ah ce cr ch a1 c1 l1 a2 c2 l2 w hp hc1 hc2 hT h1 h2 h3 h4 h5 h6 (by omega) (by omega) hx _ rfl

set_option maxRecDepth 100000 in
theorem lifted (os : Os) (started : os.Started) (H : Type) (enc : TypeId × Value → H) :
    ReturnsInHanded {} Tryd.checked os 5 .any (fun w args => (Rows.wireBackSpec.pre enc Tryd.prog Tryd.f5 [] false w args ∧ laidMetH Tryd.prog [("selvage/wire.places", Rows.laid_selvage_wire_places)] w) ∧ sizedMet enc Tryd.prog Tryd.f5 (OpenSpec.ofChange Rows.wireBackSpec) false w args)
      (Rows.wireBackSpec.post enc Tryd.prog Tryd.f5 false true false false) := by
  refine returnsInHanded_of_change_and (C := Tryd.checked) (X := fun w _ => laidMetH Tryd.prog [("selvage/wire.places", Rows.laid_selvage_wire_places)] w) (fun _ _ _ hh h => h.of_heap hh) own started (by kernel_rfl) Tryd.func5
    (ChangeSpec.witness_shaped (enc := enc) (C := Tryd.checked) (os := os) (X := fun w _ => laidMetH Tryd.prog [("selvage/wire.places", Rows.laid_selvage_wire_places)] w) false (World.doorLaid Tryd.prog 400 os) #[.agg #[.int .i64 0, .int .i64 0, .int .i64 0, .int .i64 0, .int .i64 0, .int .i64 0, .int .i64 0, .int .i64 0, .int .i64 0, .int .i64 0, .int .i64 0, .bool false, .bool false, .int .i64 0, .int .i64 0, .int .i64 0, .int .i64 0, .int .i64 0, .int .i64 0, .int .i64 0, .bool false, .slice none 0 0, .slice none 0 0, .int .i64 0, .int .i64 0, .int .i64 0, .int .i64 0, .int .i64 0, .int .i64 0, .int .i64 0, .int .i64 0, .slice none 0 0], .slice none 0 0, .slice none 0 0] 8 rfl (World.shaped_of_RefB (by kernel_rfl) (by kernel_rfl)) (by kernel_rfl) (by kernel_rfl) (by kernel_rfl) (door_met os _)) ?_
  intro W base args ds gs before hval0 hW _ hsz0 hL _
  have hval : ∀ (j : Nat) t v, Tryd.f5.params[j]? = some t → args[j]? = some v → Value.okWide Tryd.prog W .any base t v := hval0
  have hW' := hW
  obtain ⟨p, q, hA0, hV, rfl, hfz, hnd⟩ := hW
  have hA : DataW.TrodAll enc Tryd.prog W 0 (fun _ => true) true Tryd.f5.params.toList args.toList ds p := hA0
  have hsz : (DataW.weightsEach Tryd.prog (Tryd.f5.params.toList ++ Rows.wireBackSpec.plain.varTypes Tryd.prog) (ds ++ gs)).all (· ≤ reachBytes) = true := hsz0
  rw [Tryd.params5] at hA hval hsz
  obtain ⟨v0, vs0, d0, ds0, p0, q0, hargs, rfl, rfl, h0, r0⟩ := trodAll_cons hA
  obtain ⟨v1, vs1, d1, ds1, p1, q1, rfl, rfl, rfl, h1, r1⟩ := trodAll_cons r0
  obtain ⟨v2, vs2, d2, ds2, p2, q2, rfl, rfl, rfl, h2, r2⟩ := trodAll_cons r1
  obtain ⟨rfl, rfl, rfl⟩ := trodAll_nil r2
  obtain rfl : args = #[v0, v1, v2] := by cases args; simp_all
  obtain ⟨rfl, rfl⟩ := trodVars_none hV
  obtain ⟨cs0, rfl, _⟩ := okWide_struct Tryd.underlying36 (hval 0 36 v0 rfl rfl)
  have k0 := h0
  have lt0 : ∀ x ∈ p0, x.block < W.heap.size := by obtain ⟨m, hm⟩ := k0; exact DataW.trod_lt m _ _ _ hm
  obtain ⟨P0, ae0, ar0, ah0, ce0, cr0, ch0, rfl, w0⟩ := pk_of h0 (fun n hn => by simpa using List.all_eq_true.1 hsz n (DataW.weights_mem_each (j := 0) rfl rfl n hn))
  obtain ⟨a1, len1, cap1, rfl⟩ := okWide_slice Tryd.underlying42 (hval 1 42 v1 rfl rfl)
  have k1 := h1
  have lt1 : ∀ x ∈ p1, x.block < W.heap.size := by obtain ⟨m, hm⟩ := k1; exact DataW.trod_lt m _ _ _ hm
  obtain ⟨l1, rfl, w1⟩ := came_of h1 (fun n hn => by simpa using List.all_eq_true.1 hsz n (DataW.weights_mem_each (j := 1) rfl rfl n hn))
  obtain ⟨a2, len2, cap2, rfl⟩ := okWide_slice Tryd.underlying42 (hval 2 42 v2 rfl rfl)
  have k2 := h2
  have lt2 : ∀ x ∈ p2, x.block < W.heap.size := by obtain ⟨m, hm⟩ := k2; exact DataW.trod_lt m _ _ _ hm
  obtain ⟨l2, rfl, w2⟩ := came_of h2 (fun n hn => by simpa using List.all_eq_true.1 hsz n (DataW.weights_mem_each (j := 2) rfl rfl n hn))
  clear hA0 hval0
  refine (walk P0 ae0 ar0 ah0 ce0 cr0 ch0 a1 cap1 l1 a2 cap2 l2 W w0 w1 w2 (tab_of hL)).mono fun e W' ⟨he, bel⟩ => ?_
  subst he
  exact ⟨_, rfl, _, _, _, [], _, [], hW', trodAll_mk1 (shut_bool Tryd.underlying4 _), (trodAll_cons_mk (Below.trod laidOut (by kernel_rfl) (of_decide_eq_true (by kernel_rfl)) k0 bel lt0) (trodAll_cons_mk (Below.trod laidOut (by kernel_rfl) (of_decide_eq_true (by kernel_rfl)) k1 bel lt1) (trodAll_cons_mk (Below.trod laidOut (by kernel_rfl) (of_decide_eq_true (by kernel_rfl)) k2 bel lt2) trodAll_mk0))), rfl, bel.frame _, fun h => by cases h⟩

theorem over : Rows.wireBackRow.holds Tryd.pinned (OpenSpec.ofChange Rows.wireBackSpec) :=
  OpenClaim.holds_of_wide 5 Tryd.f5 rfl rfl rfl rfl rfl rfl rfl ⟨rfl, rfl, rfl, rfl, rfl⟩ rfl rfl rfl rfl rfl (by kernel_rfl) Tryd.func5 (by kernel_rfl)
    (of_decide_eq_true (by kernel_rfl)) (by unfold Func.isWrapper; first | (rw [if_pos (by decide +kernel)]; kernel_rfl) | (rw [if_neg (by decide +kernel)]; exact ⟨rfl, rfl⟩))
    (fun os started H enc _ => lifted os started H enc)

theorem proved : Rows.WireBackCardSaid :=
  Claim7.holds_tied_plain_at .later [] [.data] true _ false
    over (fun _ h => by cases h) (by kernel_rfl) (fun _ h => by cases h) wireBack_row_tie rfl ⟨rfl, rfl⟩ (by kernel_rfl) rfl
    (fun f fn hf hfn => by
      obtain rfl : f = 5 := Option.some.inj ((show Tryd.prog.funcNamed "selvage/selvagelaw03.WireBack" = some 5 by kernel_rfl).symm.trans hf) |>.symm
      obtain rfl : fn = Tryd.f5 := (Option.some.inj (Tryd.func5.symm.trans hfn)).symm
      exact ⟨by kernel_rfl, fun j t ht => by
        rw [Tryd.params5] at ht
        have hm : t ∈ [36, 42, 42] := by simpa using Array.mem_of_getElem? ht
        have hall : ([36, 42, 42].all fun u => !Tryd.prog.wantsStandIn u) = true := by kernel_rfl
        exact (show Tryd.prog.wantsStandIn t = false by simpa using List.all_eq_true.1 hall t hm)⟩)
    (by kernel_rfl)
#print axioms proved
end Go.Proofs.YtgngcpbkopjjlaaDoor.wireBack
