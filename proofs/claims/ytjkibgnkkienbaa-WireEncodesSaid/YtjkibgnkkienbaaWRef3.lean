/-
  THE DOCUMENT's Right: may a packet be?
-/
import Derived.Test.YtjkibgnkkienbaaWRef2
import Derived.Test.YtjkibgnkkienbaaWWrite
namespace Go.Proofs.Ytjkibgnkkienbaa
open Go.RowKit Go.Shelf
set_option linter.unusedVariables false

theorem eq_id (x : IdT) (W : World) : (Op.equalIn 10000 25 (.agg #[.int .i64 x.dir, .int .i64 x.orig, .int .i64 x.kind, .int .i64 x.nr]) (.agg #[.int .i64 0, .int .i64 0, .int .i64 0, .int .i64 0])).run Try.prog W = .ok x.nil W := by
  go_simp
  repeat' split
  all_goals simp_all [IdT.nil]
theorem eq_lie (x : LieT) (W : World) : (Op.equalIn 10000 23 (.agg #[.int .i64 x.node, .int .i64 x.level, .int .i64 x.pod, .int .i64 x.mtu, .int .i64 x.link, .int .i64 x.nonce, .int .i64 x.seen, .int .i64 x.seenLink, .int .i64 x.seenNonce, .int .i64 x.hold, .bool x.rep, .bool x.noOffer]) (.agg #[.int .i64 0, .int .i64 0, .int .i64 0, .int .i64 0, .int .i64 0, .int .i64 0, .int .i64 0, .int .i64 0, .int .i64 0, .int .i64 0, .bool false, .bool false])).run Try.prog W = .ok x.nil W := by
  go_simp
  repeat' split
  all_goals simp_all [LieT.nil]
theorem right_long {p : PackT} (h : 64 < p.heads.length) : rightW p = false := by
  have h0 : ¬ p.heads.length ≤ 64 := by omega
  have h1 : ¬ p.heads = [] := fun e => by rw [e] at h; simp at h
  unfold rightW packR unusedB headsR
  by_cases k1 : p.kind = 1
  · simp [k1, h1]
  by_cases k2 : p.kind = 2
  · simp [k2, h1]
  by_cases k3 : p.kind = 3
  · simp [k3, h0]
  by_cases k4 : p.kind = 4
  · simp [k4, h0]
  · simp [k1, k2, k3, k4]
theorem right_head {p : PackT} (h : p.heads.all headR = false) : rightW p = false := by
  have h1 : ¬ p.heads = [] := fun e => by rw [e] at h; simp at h
  unfold rightW packR unusedB headsR
  rw [h]
  by_cases k1 : p.kind = 1
  · simp [k1, h1]
  by_cases k2 : p.kind = 2
  · simp [k2, h1]
  by_cases k3 : p.kind = 3
  · simp [k3]
  by_cases k4 : p.kind = 4
  · simp [k4]
  · simp [k1, k2, k3, k4]
attribute [local go_sem high] eq_id eq_lie
theorem range_at {W : World} {b : Nat} {cs : List Value} (h : W.rangeAt b 0 cs) (i n : Nat) : W.rangeAt b i ((cs.drop i).take n) := fun j v hv => by
  have hj : j < n := by
    have := (List.getElem?_eq_some_iff.1 hv).1
    rw [List.length_take] at this
    omega
  rw [List.getElem?_take, if_pos hj, List.getElem?_drop] at hv
  have := h _ v hv
  rwa [Nat.zero_add] at this
theorem range_box {W0 W : World} {b n : Nat} {cs : List Value} {t : TypeId} (h : W0.heap[b]? = some (.cells cs.toArray t (0, 0))) (hb : Below n W0 W) (hlt : b < n) : W.rangeAt b 0 cs := fun j v hv => by
  rw [cell_of_row W b (0 + j) cs.toArray t (0, 0) ((hb.block b hlt).trans h), Nat.zero_add]
  simpa using hv
theorem cell_at {W : World} {b : Nat} {cs : List Value} (h : W.rangeAt b 0 cs) (i : Nat) {v : Value} (hv : cs[i]? = some v) : W.cell? ⟨b, i, none⟩ = some v := by
  have := h i v hv
  rwa [Nat.zero_add] at this
theorem wpList_load_gg {P : Program} {ops : Array Oper} {rest : List Oper} {op : Oper} {a : Act} {w : World} {Q : Exit → Act → World → Prop} (ty : TypeId) (x : Operand) (ho : op.op = .load ty x)
    (b o : Nat) (hx : a.eval x = .pointer (some ⟨b, o, none⟩)) (cs : List Value) (d : TypeDesc) (hc : w.rangeAt b o cs)
    (hu : P.underlying ty = some d) (hd : d.isRow = true) (hi : (P.info? ty).map (·.size) = some cs.length) (hw : Region.wanted op (yielded ops a.tmps) = true)
    (h : wpList P ops Q rest (a.put op.dst (.agg cs.toArray)) w) : wpList P ops Q (op :: rest) a w := by
  unfold wpList
  rw [if_pos hw]
  exact .inl (wp_load_mid ty x ho b o hx cs d hc hu hd hi h)
set_option maxRecDepth 100000 in
set_option maxHeartbeats 16000000 in
theorem rRight_any (p : PackT) (ae ar ah : Option Addr) (ce cr ch : Nat) (w : World) (hp : Pk w.heap.size w p ae ar ah ce cr ch) :
    Calls Try.prog 12 #[.agg #[.int .i64 p.kind, .int .i64 p.lie.node, .int .i64 p.lie.level, .int .i64 p.lie.pod, .int .i64 p.lie.mtu, .int .i64 p.lie.link, .int .i64 p.lie.nonce, .int .i64 p.lie.seen, .int .i64 p.lie.seenLink, .int .i64 p.lie.seenNonce, .int .i64 p.lie.hold, .bool p.lie.rep, .bool p.lie.noOffer, .int .i64 p.tie.head.id.dir, .int .i64 p.tie.head.id.orig, .int .i64 p.tie.head.id.kind, .int .i64 p.tie.head.id.nr, .int .i64 p.tie.head.seq, .int .i64 p.tie.head.life, .int .i64 p.tie.level, .bool p.tie.over, .slice ae p.tie.edges.length ce, .slice ar p.tie.reaches.length cr, .int .i64 p.frm.dir, .int .i64 p.frm.orig, .int .i64 p.frm.kind, .int .i64 p.frm.nr, .int .i64 p.to.dir, .int .i64 p.to.orig, .int .i64 p.to.kind, .int .i64 p.to.nr, .slice ah p.heads.length ch]] w fun e w' => e = .returned (.bool (rightW p)) ∧ Below w.heap.size w w' := by
  have HP := Lib.hid hp
  obtain ⟨nh, hnh⟩ : ∃ n, p.heads.length = n := ⟨_, rfl⟩
  rw [hnh]
  have HNH := Lib.hid hnh
  have hnl : nh ≤ 140737488351232 := by have := hp.lh.1; omega
  have HB0 := Lib.hid ((Below.refl w.heap.size w).alloc (Nat.le_refl _) (.cells #[.int .i64 p.kind, .int .i64 p.lie.node, .int .i64 p.lie.level, .int .i64 p.lie.pod, .int .i64 p.lie.mtu, .int .i64 p.lie.link, .int .i64 p.lie.nonce, .int .i64 p.lie.seen, .int .i64 p.lie.seenLink, .int .i64 p.lie.seenNonce, .int .i64 p.lie.hold, .bool p.lie.rep, .bool p.lie.noOffer, .int .i64 p.tie.head.id.dir, .int .i64 p.tie.head.id.orig, .int .i64 p.tie.head.id.kind, .int .i64 p.tie.head.id.nr, .int .i64 p.tie.head.seq, .int .i64 p.tie.head.life, .int .i64 p.tie.level, .bool p.tie.over, .slice ae p.tie.edges.length ce, .slice ar p.tie.reaches.length cr, .int .i64 p.frm.dir, .int .i64 p.frm.orig, .int .i64 p.frm.kind, .int .i64 p.frm.nr, .int .i64 p.to.dir, .int .i64 p.to.orig, .int .i64 p.to.kind, .int .i64 p.to.nr, .slice ah nh ch] 34))
  have RP : RowKit.Hid (∀ W, Below (w.heap.size + 1) (w.alloc (.cells #[.int .i64 p.kind, .int .i64 p.lie.node, .int .i64 p.lie.level, .int .i64 p.lie.pod, .int .i64 p.lie.mtu, .int .i64 p.lie.link, .int .i64 p.lie.nonce, .int .i64 p.lie.seen, .int .i64 p.lie.seenLink, .int .i64 p.lie.seenNonce, .int .i64 p.lie.hold, .bool p.lie.rep, .bool p.lie.noOffer, .int .i64 p.tie.head.id.dir, .int .i64 p.tie.head.id.orig, .int .i64 p.tie.head.id.kind, .int .i64 p.tie.head.id.nr, .int .i64 p.tie.head.seq, .int .i64 p.tie.head.life, .int .i64 p.tie.level, .bool p.tie.over, .slice ae p.tie.edges.length ce, .slice ar p.tie.reaches.length cr, .int .i64 p.frm.dir, .int .i64 p.frm.orig, .int .i64 p.frm.kind, .int .i64 p.frm.nr, .int .i64 p.to.dir, .int .i64 p.to.orig, .int .i64 p.to.kind, .int .i64 p.to.nr, .slice ah nh ch] 34)) W → W.rangeAt w.heap.size 0 [.int .i64 p.kind, .int .i64 p.lie.node, .int .i64 p.lie.level, .int .i64 p.lie.pod, .int .i64 p.lie.mtu, .int .i64 p.lie.link, .int .i64 p.lie.nonce, .int .i64 p.lie.seen, .int .i64 p.lie.seenLink, .int .i64 p.lie.seenNonce, .int .i64 p.lie.hold, .bool p.lie.rep, .bool p.lie.noOffer, .int .i64 p.tie.head.id.dir, .int .i64 p.tie.head.id.orig, .int .i64 p.tie.head.id.kind, .int .i64 p.tie.head.id.nr, .int .i64 p.tie.head.seq, .int .i64 p.tie.head.life, .int .i64 p.tie.level, .bool p.tie.over, .slice ae p.tie.edges.length ce, .slice ar p.tie.reaches.length cr, .int .i64 p.frm.dir, .int .i64 p.frm.orig, .int .i64 p.frm.kind, .int .i64 p.frm.nr, .int .i64 p.to.dir, .int .i64 p.to.orig, .int .i64 p.to.kind, .int .i64 p.to.nr, .slice ah nh ch]) := fun W hb => range_box (World.alloc_heap_new w _) hb (Nat.lt_succ_self _)
  have HSZ : RowKit.Hid ((w.alloc (.cells #[.int .i64 p.kind, .int .i64 p.lie.node, .int .i64 p.lie.level, .int .i64 p.lie.pod, .int .i64 p.lie.mtu, .int .i64 p.lie.link, .int .i64 p.lie.nonce, .int .i64 p.lie.seen, .int .i64 p.lie.seenLink, .int .i64 p.lie.seenNonce, .int .i64 p.lie.hold, .bool p.lie.rep, .bool p.lie.noOffer, .int .i64 p.tie.head.id.dir, .int .i64 p.tie.head.id.orig, .int .i64 p.tie.head.id.kind, .int .i64 p.tie.head.id.nr, .int .i64 p.tie.head.seq, .int .i64 p.tie.head.life, .int .i64 p.tie.level, .bool p.tie.over, .slice ae p.tie.edges.length ce, .slice ar p.tie.reaches.length cr, .int .i64 p.frm.dir, .int .i64 p.frm.orig, .int .i64 p.frm.kind, .int .i64 p.frm.nr, .int .i64 p.to.dir, .int .i64 p.to.orig, .int .i64 p.to.kind, .int .i64 p.to.nr, .slice ah nh ch] 34)).heap.size = w.heap.size + 1) := by show _ = _; simp
  have HTI := Lib.hid (fun (W : World) (hW : Below (w.heap.size + 1) (w.alloc (.cells #[.int .i64 p.kind, .int .i64 p.lie.node, .int .i64 p.lie.level, .int .i64 p.lie.pod, .int .i64 p.lie.mtu, .int .i64 p.lie.link, .int .i64 p.lie.nonce, .int .i64 p.lie.seen, .int .i64 p.lie.seenLink, .int .i64 p.lie.seenNonce, .int .i64 p.lie.hold, .bool p.lie.rep, .bool p.lie.noOffer, .int .i64 p.tie.head.id.dir, .int .i64 p.tie.head.id.orig, .int .i64 p.tie.head.id.kind, .int .i64 p.tie.head.id.nr, .int .i64 p.tie.head.seq, .int .i64 p.tie.head.life, .int .i64 p.tie.level, .bool p.tie.over, .slice ae p.tie.edges.length ce, .slice ar p.tie.reaches.length cr, .int .i64 p.frm.dir, .int .i64 p.frm.orig, .int .i64 p.frm.kind, .int .i64 p.frm.nr, .int .i64 p.to.dir, .int .i64 p.to.orig, .int .i64 p.to.kind, .int .i64 p.to.nr, .slice ah nh ch] 34)) W) => (rRightTie_any p.tie ae ar ce cr hp.le.1 hp.lr.1 hp.ok W ((hp.re.below (HB0.out.trans (hW.mono (by omega)))).mono (HB0.out.trans (hW.mono (by omega))).size) ((hp.rr.below (HB0.out.trans (hW.mono (by omega)))).mono (HB0.out.trans (hW.mono (by omega))).size)))
  clear hp hnh
  rcases hfr : p.frm.nil with _ | _
  all_goals
   by_cases h64 : 64 < nh
   · go_enter Try.func12, Try.ntmps12
     go_wp2_with (first
       | (refine wpList_load_mid rfl 25 (.tmp 14) rfl w.heap.size 23 rfl [.int .i64 p.frm.dir, .int .i64 p.frm.orig, .int .i64 p.frm.kind, .int .i64 p.frm.nr] _ (range_at (RP.out _ B1.out) 23 4) Try.underlying25 rfl (by kernel_rfl) ?_)
       | (refine wpList_load_gg 25 (.tmp 19) rfl w.heap.size 27 rfl [.int .i64 p.to.dir, .int .i64 p.to.orig, .int .i64 p.to.kind, .int .i64 p.to.nr] _ (range_at (RP.out _ B1.out) 27 4) Try.underlying25 rfl (by kernel_rfl) (by rfl) ?_)
       | (go_at_call 22; refine (rzeroTie_any p.tie ae ar ce cr _).mono ?_; rintro e w1 ⟨rfl, hb⟩; have B1 := Lib.hid (hb.mono (show w.heap.size + 1 ≤ _ by have := HSZ.out; omega)); have d31 := cell_at (RP.out _ B1.out) 31 (show ([.int .i64 p.kind, .int .i64 p.lie.node, .int .i64 p.lie.level, .int .i64 p.lie.pod, .int .i64 p.lie.mtu, .int .i64 p.lie.link, .int .i64 p.lie.nonce, .int .i64 p.lie.seen, .int .i64 p.lie.seenLink, .int .i64 p.lie.seenNonce, .int .i64 p.lie.hold, .bool p.lie.rep, .bool p.lie.noOffer, .int .i64 p.tie.head.id.dir, .int .i64 p.tie.head.id.orig, .int .i64 p.tie.head.id.kind, .int .i64 p.tie.head.id.nr, .int .i64 p.tie.head.seq, .int .i64 p.tie.head.life, .int .i64 p.tie.level, .bool p.tie.over, .slice ae p.tie.edges.length ce, .slice ar p.tie.reaches.length cr, .int .i64 p.frm.dir, .int .i64 p.frm.orig, .int .i64 p.frm.kind, .int .i64 p.frm.nr, .int .i64 p.to.dir, .int .i64 p.to.orig, .int .i64 p.to.kind, .int .i64 p.to.nr, .slice ah nh ch] : List Value)[31]? = some (.slice ah nh ch) from rfl); clear hb))
     go_ret
     exact ⟨ret_bool (right_long (by have := HNH.out; omega)).symm, HB0.out.trans (B1.out.mono (by omega))⟩
   · have h64' : nh ≤ 64 := by omega
     go_enter Try.func12, Try.ntmps12
     go_wp2_with (first
       | (refine wpList_load_mid rfl 25 (.tmp 14) rfl w.heap.size 23 rfl [.int .i64 p.frm.dir, .int .i64 p.frm.orig, .int .i64 p.frm.kind, .int .i64 p.frm.nr] _ (range_at (RP.out _ B1.out) 23 4) Try.underlying25 rfl (by kernel_rfl) ?_)
       | (refine wpList_load_gg 25 (.tmp 19) rfl w.heap.size 27 rfl [.int .i64 p.to.dir, .int .i64 p.to.orig, .int .i64 p.to.kind, .int .i64 p.to.nr] _ (range_at (RP.out _ B1.out) 27 4) Try.underlying25 rfl (by kernel_rfl) (by rfl) ?_)
       | (go_at_call 22; refine (rzeroTie_any p.tie ae ar ce cr _).mono ?_; rintro e w1 ⟨rfl, hb⟩; have B1 := Lib.hid (hb.mono (show w.heap.size + 1 ≤ _ by have := HSZ.out; omega)); have d31 := cell_at (RP.out _ B1.out) 31 (show ([.int .i64 p.kind, .int .i64 p.lie.node, .int .i64 p.lie.level, .int .i64 p.lie.pod, .int .i64 p.lie.mtu, .int .i64 p.lie.link, .int .i64 p.lie.nonce, .int .i64 p.lie.seen, .int .i64 p.lie.seenLink, .int .i64 p.lie.seenNonce, .int .i64 p.lie.hold, .bool p.lie.rep, .bool p.lie.noOffer, .int .i64 p.tie.head.id.dir, .int .i64 p.tie.head.id.orig, .int .i64 p.tie.head.id.kind, .int .i64 p.tie.head.id.nr, .int .i64 p.tie.head.seq, .int .i64 p.tie.head.life, .int .i64 p.tie.level, .bool p.tie.over, .slice ae p.tie.edges.length ce, .slice ar p.tie.reaches.length cr, .int .i64 p.frm.dir, .int .i64 p.frm.orig, .int .i64 p.frm.kind, .int .i64 p.frm.nr, .int .i64 p.to.dir, .int .i64 p.to.orig, .int .i64 p.to.kind, .int .i64 p.to.nr, .slice ah nh ch] : List Value)[31]? = some (.slice ah nh ch) from rfl); clear hb))
     go_loopw [6] (fun i wr => ∃ k : Nat, k ≤ nh ∧ i = .int .i64 k ∧ (p.heads.take k).all headR = true ∧ Below (w.heap.size + 1) (w.alloc (.cells #[.int .i64 p.kind, .int .i64 p.lie.node, .int .i64 p.lie.level, .int .i64 p.lie.pod, .int .i64 p.lie.mtu, .int .i64 p.lie.link, .int .i64 p.lie.nonce, .int .i64 p.lie.seen, .int .i64 p.lie.seenLink, .int .i64 p.lie.seenNonce, .int .i64 p.lie.hold, .bool p.lie.rep, .bool p.lie.noOffer, .int .i64 p.tie.head.id.dir, .int .i64 p.tie.head.id.orig, .int .i64 p.tie.head.id.kind, .int .i64 p.tie.head.id.nr, .int .i64 p.tie.head.seq, .int .i64 p.tie.head.life, .int .i64 p.tie.level, .bool p.tie.over, .slice ae p.tie.edges.length ce, .slice ar p.tie.reaches.length cr, .int .i64 p.frm.dir, .int .i64 p.frm.orig, .int .i64 p.frm.kind, .int .i64 p.frm.nr, .int .i64 p.to.dir, .int .i64 p.to.orig, .int .i64 p.to.kind, .int .i64 p.to.nr, .slice ah nh ch] 34)) wr) (fun i _ => nh - (intOf i).toNat)
     case atStart => exact ⟨0, Nat.zero_le _, rfl, rfl, B1.out⟩
     case round =>
       obtain ⟨k, hk, rfl, hpre, hbel⟩ := hrel
       have HPR := Lib.hid hpre
       have HBL := Lib.hid hbel
       have q31 := cell_at (RP.out _ hbel) 31 (show ([.int .i64 p.kind, .int .i64 p.lie.node, .int .i64 p.lie.level, .int .i64 p.lie.pod, .int .i64 p.lie.mtu, .int .i64 p.lie.link, .int .i64 p.lie.nonce, .int .i64 p.lie.seen, .int .i64 p.lie.seenLink, .int .i64 p.lie.seenNonce, .int .i64 p.lie.hold, .bool p.lie.rep, .bool p.lie.noOffer, .int .i64 p.tie.head.id.dir, .int .i64 p.tie.head.id.orig, .int .i64 p.tie.head.id.kind, .int .i64 p.tie.head.id.nr, .int .i64 p.tie.head.seq, .int .i64 p.tie.head.life, .int .i64 p.tie.level, .bool p.tie.over, .slice ae p.tie.edges.length ce, .slice ar p.tie.reaches.length cr, .int .i64 p.frm.dir, .int .i64 p.frm.orig, .int .i64 p.frm.kind, .int .i64 p.frm.nr, .int .i64 p.to.dir, .int .i64 p.to.orig, .int .i64 p.to.kind, .int .i64 p.to.nr, .slice ah nh ch] : List Value)[31]? = some (.slice ah nh ch) from rfl)
       clear hpre hbel
       by_cases hlt : k < nh
       · obtain ⟨b1, o1, rfl, hb1, hca⟩ := HP.out.rh (by have := HNH.out; omega)
         obtain ⟨u, hu⟩ : ∃ u, p.heads[k]? = some u := ⟨_, List.getElem?_eq_getElem (by have := HNH.out; omega)⟩
         have hbw := HB0.out.trans (HBL.out.mono (show w.heap.size ≤ w.heap.size + 1 by omega))
         have GR := Lib.hid (show wr.rangeAt b1 (o1 + k * 6) [.int .i64 u.id.dir, .int .i64 u.id.orig, .int .i64 u.id.kind, .int .i64 u.id.nr, .int .i64 u.seq, .int .i64 u.life] from fun j v hv => (hbw.cell (p := ⟨b1, o1 + k * 6 + j, none⟩) hb1).trans (hca k u hu j v hv))
         have HX := Lib.hid hu
         have k0 : (0 : Int) ≤ (k : Int) := Int.natCast_nonneg _
         have k1 : (k : Int) < (nh : Int) := by omega
         clear hca hu hbw
         by_cases he : headR u = true
         · have HE := Lib.hid he
           have HS := Lib.hid (all_next HPR.out HX.out he)
           clear hlt he
           go_wp2_with (first
             | (refine wpList_load_mid rfl 27 (.tmp 38) rfl b1 (o1 + k * 6) rfl [.int .i64 u.id.dir, .int .i64 u.id.orig, .int .i64 u.id.kind, .int .i64 u.id.nr, .int .i64 u.seq, .int .i64 u.life] _ GR.out Try.underlying27 rfl (by kernel_rfl) ?_)
             | (go_at_call 23; refine (rRightHead_any u _).mono ?_; rintro e w3 ⟨rfl, hb⟩; rw [HE.out]; have HB3 := Lib.hid (HBL.out.trans (hb.mono (by have := HBL.out.size; have := HSZ.out; omega))); clear hb))
           go_roundw
           case rel => exact ⟨k + 1, by omega, by go_num, HS.out, HB3.out⟩
           case measure => simp [intOf]; omega
         · have he' : headR u = false := by simpa using he
           have HE := Lib.hid he'
           clear hlt he he'
           go_wp2_with (first
             | (refine wpList_load_mid rfl 27 (.tmp 38) rfl b1 (o1 + k * 6) rfl [.int .i64 u.id.dir, .int .i64 u.id.orig, .int .i64 u.id.kind, .int .i64 u.id.nr, .int .i64 u.seq, .int .i64 u.life] _ GR.out Try.underlying27 rfl (by kernel_rfl) ?_)
             | (go_at_call 23; refine (rRightHead_any u _).mono ?_; rintro e w3 ⟨rfl, hb⟩; rw [HE.out]; have HB3 := Lib.hid (HBL.out.trans (hb.mono (by have := HBL.out.size; have := HSZ.out; omega))); clear hb))
           go_ret
           exact ⟨ret_bool (right_head (all_not HX.out HE.out)).symm, HB0.out.trans (HB3.out.mono (by omega))⟩
       · obtain rfl : nh = k := by omega
         have HALL := Lib.hid (show p.heads.all headR = true by have h := HPR.out; rwa [List.take_of_length_le (by have := HNH.out; omega)] at h)
         have q0 := cell_at (RP.out _ HBL.out) 0 (show ([.int .i64 p.kind, .int .i64 p.lie.node, .int .i64 p.lie.level, .int .i64 p.lie.pod, .int .i64 p.lie.mtu, .int .i64 p.lie.link, .int .i64 p.lie.nonce, .int .i64 p.lie.seen, .int .i64 p.lie.seenLink, .int .i64 p.lie.seenNonce, .int .i64 p.lie.hold, .bool p.lie.rep, .bool p.lie.noOffer, .int .i64 p.tie.head.id.dir, .int .i64 p.tie.head.id.orig, .int .i64 p.tie.head.id.kind, .int .i64 p.tie.head.id.nr, .int .i64 p.tie.head.seq, .int .i64 p.tie.head.life, .int .i64 p.tie.level, .bool p.tie.over, .slice ae p.tie.edges.length ce, .slice ar p.tie.reaches.length cr, .int .i64 p.frm.dir, .int .i64 p.frm.orig, .int .i64 p.frm.kind, .int .i64 p.frm.nr, .int .i64 p.to.dir, .int .i64 p.to.orig, .int .i64 p.to.kind, .int .i64 p.to.nr, .slice ah nh ch] : List Value)[0]? = some (.int .i64 p.kind) from rfl)
         obtain ⟨kd, hkd⟩ : ∃ kd, p.kind = kd := ⟨_, rfl⟩
         rw [hkd] at q0
         have HKD := Lib.hid hkd
         have HFR := Lib.hid hfr
         have T1 : True := trivial
         clear hkd hfr
         by_cases e1 : kd = 1
         · subst e1
           go_wp2_with (first
             | (refine wpList_load_mid rfl 23 (.tmp 46) rfl w.heap.size 1 rfl [.int .i64 p.lie.node, .int .i64 p.lie.level, .int .i64 p.lie.pod, .int .i64 p.lie.mtu, .int .i64 p.lie.link, .int .i64 p.lie.nonce, .int .i64 p.lie.seen, .int .i64 p.lie.seenLink, .int .i64 p.lie.seenNonce, .int .i64 p.lie.hold, .bool p.lie.rep, .bool p.lie.noOffer] _ (range_at (RP.out _ HBL.out) 1 12) Try.underlying23 rfl (by kernel_rfl) ?_)
             | (go_at_call 24; refine (rrightLie_any p.lie _).mono ?_; rintro e w5 ⟨rfl, hb⟩; have B5 := Lib.hid (HBL.out.trans (hb.mono (by have := HBL.out.size; have := HSZ.out; omega))); have e31 := cell_at (RP.out _ B5.out) 31 (show ([.int .i64 p.kind, .int .i64 p.lie.node, .int .i64 p.lie.level, .int .i64 p.lie.pod, .int .i64 p.lie.mtu, .int .i64 p.lie.link, .int .i64 p.lie.nonce, .int .i64 p.lie.seen, .int .i64 p.lie.seenLink, .int .i64 p.lie.seenNonce, .int .i64 p.lie.hold, .bool p.lie.rep, .bool p.lie.noOffer, .int .i64 p.tie.head.id.dir, .int .i64 p.tie.head.id.orig, .int .i64 p.tie.head.id.kind, .int .i64 p.tie.head.id.nr, .int .i64 p.tie.head.seq, .int .i64 p.tie.head.life, .int .i64 p.tie.level, .bool p.tie.over, .slice ae p.tie.edges.length ce, .slice ar p.tie.reaches.length cr, .int .i64 p.frm.dir, .int .i64 p.frm.orig, .int .i64 p.frm.kind, .int .i64 p.frm.nr, .int .i64 p.to.dir, .int .i64 p.to.orig, .int .i64 p.to.kind, .int .i64 p.to.nr, .slice ah nh ch] : List Value)[31]? = some (.slice ah nh ch) from rfl); clear hb))
           all_goals go_ret
           all_goals have h1 := HKD.out
           all_goals have h2 := HNH.out
           all_goals have h3 := HALL.out
           all_goals have h4 := HFR.out
           all_goals first | exact ⟨ret_bool (by simp [rightW, packR, unusedB, int_beq0, *]), HB0.out.trans (B6.out.mono (by omega))⟩ | exact ⟨ret_bool (by simp [rightW, packR, unusedB, int_beq0, *]), HB0.out.trans (B5.out.mono (by omega))⟩ | exact ⟨ret_bool (by simp [rightW, packR, unusedB, int_beq0, *]), HB0.out.trans (HBL.out.mono (by omega))⟩
         by_cases e2 : kd = 2
         · subst e2
           go_wp2_with (first
             | (refine wpList_load_mid rfl 31 (.tmp 63) rfl w.heap.size 13 rfl [.int .i64 p.tie.head.id.dir, .int .i64 p.tie.head.id.orig, .int .i64 p.tie.head.id.kind, .int .i64 p.tie.head.id.nr, .int .i64 p.tie.head.seq, .int .i64 p.tie.head.life, .int .i64 p.tie.level, .bool p.tie.over, .slice ae p.tie.edges.length ce, .slice ar p.tie.reaches.length cr] _ (range_at (RP.out _ HBL.out) 13 10) Try.underlying31 rfl (by kernel_rfl) ?_)
             | (go_at_call 25; refine (HTI.out wr HBL.out).mono ?_; rintro e w5 ⟨rfl, hb⟩; have B5 := Lib.hid (HBL.out.trans (hb.mono (by have := HBL.out.size; have := HSZ.out; omega))); have e31 := cell_at (RP.out _ B5.out) 31 (show ([.int .i64 p.kind, .int .i64 p.lie.node, .int .i64 p.lie.level, .int .i64 p.lie.pod, .int .i64 p.lie.mtu, .int .i64 p.lie.link, .int .i64 p.lie.nonce, .int .i64 p.lie.seen, .int .i64 p.lie.seenLink, .int .i64 p.lie.seenNonce, .int .i64 p.lie.hold, .bool p.lie.rep, .bool p.lie.noOffer, .int .i64 p.tie.head.id.dir, .int .i64 p.tie.head.id.orig, .int .i64 p.tie.head.id.kind, .int .i64 p.tie.head.id.nr, .int .i64 p.tie.head.seq, .int .i64 p.tie.head.life, .int .i64 p.tie.level, .bool p.tie.over, .slice ae p.tie.edges.length ce, .slice ar p.tie.reaches.length cr, .int .i64 p.frm.dir, .int .i64 p.frm.orig, .int .i64 p.frm.kind, .int .i64 p.frm.nr, .int .i64 p.to.dir, .int .i64 p.to.orig, .int .i64 p.to.kind, .int .i64 p.to.nr, .slice ah nh ch] : List Value)[31]? = some (.slice ah nh ch) from rfl); clear hb))
           all_goals go_ret
           all_goals have h1 := HKD.out
           all_goals have h2 := HNH.out
           all_goals have h3 := HALL.out
           all_goals have h4 := HFR.out
           all_goals first | exact ⟨ret_bool (by simp [rightW, packR, unusedB, int_beq0, *]), HB0.out.trans (B6.out.mono (by omega))⟩ | exact ⟨ret_bool (by simp [rightW, packR, unusedB, int_beq0, *]), HB0.out.trans (B5.out.mono (by omega))⟩ | exact ⟨ret_bool (by simp [rightW, packR, unusedB, int_beq0, *]), HB0.out.trans (HBL.out.mono (by omega))⟩
         by_cases e3 : kd = 3
         · subst e3
           go_wp2_with (first
             | (refine wpList_load_gg 25 (.tmp 85) rfl w.heap.size 23 rfl [.int .i64 p.frm.dir, .int .i64 p.frm.orig, .int .i64 p.frm.kind, .int .i64 p.frm.nr] _ (range_at (RP.out _ HBL.out) 23 4) Try.underlying25 rfl (by kernel_rfl) (by rfl) ?_)
             | (refine wpList_load_gg 25 (.tmp 90) rfl w.heap.size 27 rfl [.int .i64 p.to.dir, .int .i64 p.to.orig, .int .i64 p.to.kind, .int .i64 p.to.nr] _ (range_at (RP.out _ B5.out) 27 4) Try.underlying25 rfl (by kernel_rfl) (by rfl) ?_)
             | (go_at_call 26; have _t := T1; refine (rrightId_any p.frm wr).mono ?_; rintro e w5 ⟨rfl, hb⟩; have B5 := Lib.hid (HBL.out.trans (hb.mono (by have := HBL.out.size; have := HSZ.out; omega))); clear hb; clear T1 _t)
             | (go_at_call 26; refine (rrightId_any p.to w5).mono ?_; rintro e w6 ⟨rfl, hb⟩; have B6 := Lib.hid (B5.out.trans (hb.mono (by have := B5.out.size; have := HSZ.out; omega))); clear hb))
           all_goals go_ret
           all_goals have h1 := HKD.out
           all_goals have h2 := HNH.out
           all_goals have h3 := HALL.out
           all_goals have h4 := HFR.out
           all_goals first | exact ⟨ret_bool (by simp [rightW, packR, unusedB, headsR, *]), HB0.out.trans (B6.out.mono (by omega))⟩ | exact ⟨ret_bool (by simp [rightW, packR, unusedB, headsR, *]), HB0.out.trans (B5.out.mono (by omega))⟩ | exact ⟨ret_bool (by simp [rightW, packR, unusedB, headsR, *]), HB0.out.trans (HBL.out.mono (by omega))⟩
         by_cases e4 : kd = 4
         · subst e4
           go_wp2
           all_goals go_ret
           all_goals have h1 := HKD.out
           all_goals have h2 := HNH.out
           all_goals have h3 := HALL.out
           all_goals have h4 := HFR.out
           all_goals first | exact ⟨ret_bool (by simp [rightW, packR, unusedB, headsR, *]), HB0.out.trans (B6.out.mono (by omega))⟩ | exact ⟨ret_bool (by simp [rightW, packR, unusedB, headsR, *]), HB0.out.trans (B5.out.mono (by omega))⟩ | exact ⟨ret_bool (by simp [rightW, packR, unusedB, headsR, *]), HB0.out.trans (HBL.out.mono (by omega))⟩
         · have b1 : (kd == 1) = false := by simpa using e1
           have b2 : (kd == 2) = false := by simpa using e2
           have b3 : (kd == 3) = false := by simpa using e3
           have b4 : (kd == 4) = false := by simpa using e4
           go_wp2
           all_goals go_ret
           all_goals have h1 := HKD.out
           all_goals have h2 := HNH.out
           all_goals have h3 := HALL.out
           all_goals have h4 := HFR.out
           all_goals first | exact ⟨ret_bool (by simp [rightW, packR, unusedB, headsR, int_beq0, *]), HB0.out.trans (B6.out.mono (by omega))⟩ | exact ⟨ret_bool (by simp [rightW, packR, unusedB, headsR, int_beq0, *]), HB0.out.trans (B5.out.mono (by omega))⟩ | exact ⟨ret_bool (by simp [rightW, packR, unusedB, *]), HB0.out.trans (HBL.out.mono (by omega))⟩
end Go.Proofs.Ytjkibgnkkienbaa
