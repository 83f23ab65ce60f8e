/-
  WireEncodes: for every packet, whatever its numbers and lists, the law's function answers true, and it reads afterwards as it read before. No condition.
-/
import Derived.Test.YtjkibgnkkienbaaWRef6
import Derived.Test.YtjkibgnkkienbaaWCode
import Derived.Test.YtjkibgnkkienbaaEnc
import Derived.Test.YtjkibgnkkienbaaAwakeV
import Derived.Test.YtjkibgnkkienbaaWLaw
import Derived.Test.YtjkibgnkkienbaaWRead
import Derived.Test.YtjkibgnkkienbaaSame
import Derived.Deep.RegionHeld

/-
  THE DOCUMENT's Items of a packet: facts.
-/
namespace Go.Proofs.Ytjkibgnkkienbaa
open Go.RowKit Go.Shelf
set_option linter.unusedVariables false

def hsI (l : List HeadT) : List It := l.flatMap (fun h => opI 6 (headI h))
theorem hsI_next {l : List HeadT} {k : Nat} {u : HeadT} (hu : l[k]? = some u) : hsI (l.take (k + 1)) = hsI (l.take k) ++ opI 6 (headI u) := by
  unfold hsI
  rw [List.take_add_one, hu, List.flatMap_append]
  simp
theorem hsI_len (l : List HeadT) : (hsI l).length = l.length * 10 := by
  unfold hsI
  induction l with
  | nil => rfl
  | cons x l ih => rw [List.flatMap_cons, List.length_append, ih, List.length_cons]; simp [opI, headI, idI]; omega
theorem pack1 {p : PackT} (h : p.kind = 1) : intsI 1 [p.kind] ++ opI 2 (lieI p.lie) = packI p := by simp [packI, h, intsI]
theorem pack2 {p : PackT} (h : p.kind = 2) : intsI 1 [p.kind] ++ opI 3 (tieI p.tie) = packI p := by simp [packI, h, intsI]
theorem pack3 {p : PackT} (h : p.kind = 3) : ((intsI 1 [p.kind] ++ opI 4 (idI p.frm)) ++ opI 5 (idI p.to)) ++ hsI p.heads = packI p := by simp [packI, h, intsI, hsI]
theorem pack4 {p : PackT} (h : p.kind = 4) : intsI 1 [p.kind] ++ hsI p.heads = packI p := by simp [packI, h, intsI, hsI]
theorem right_kinds {p : PackT} (h : rightW p = true) : p.kind = 1 ∨ p.kind = 2 ∨ p.kind = 3 ∨ p.kind = 4 := by
  rw [rightW, Bool.and_eq_true] at h
  by_cases h1 : p.kind = 1
  · exact .inl h1
  by_cases h2 : p.kind = 2
  · exact .inr (.inl h2)
  by_cases h3 : p.kind = 3
  · exact .inr (.inr (.inl h3))
  by_cases h4 : p.kind = 4
  · exact .inr (.inr (.inr h4))
  · have := h.1
    simp [packR, h1, h2, h3, h4] at this
theorem right_ties {p : PackT} (h : rightW p = true) (h2 : p.kind = 2) : p.tie.edges.length ≤ 64 ∧ p.tie.reaches.length ≤ 64 := by
  rw [rightW, Bool.and_eq_true] at h
  have := h.1
  simp only [packR, h2] at this
  simp [tieR] at this
  obtain ⟨_, _, _, ⟨_, h4⟩, _, h5⟩ := this
  exact ⟨by split at h4 <;> omega, by split at h5 <;> omega⟩
theorem right_heads {p : PackT} (h : rightW p = true) : p.heads.length ≤ 64 := by
  by_cases h6 : 64 < p.heads.length
  · rw [right_long h6] at h; cases h
  · omega
theorem OwnE.nil (w : World) (b : Nat) : OwnE w b (.slice none 0 0) [] := World.ownsRow_nil _ _ _ _
end Go.Proofs.Ytjkibgnkkienbaa

/-
  THE DOCUMENT's Items of a packet.
-/
namespace Go.Proofs.Ytjkibgnkkienbaa
open Go.RowKit Go.Shelf
set_option linter.unusedVariables false
set_option linter.unusedSimpArgs false
set_option maxRecDepth 100000 in
set_option maxHeartbeats 16000000 in
theorem ritems_no (p : PackT) (ae ar ah : Option Addr) (ce cr ch : Nat) (w : World) (hp : Pk w.heap.size w p ae ar ah ce cr ch) (hr : rightW p = false) : Calls Try.prog 10 #[.agg #[.int .i64 p.kind, .int .i64 p.lie.node, .int .i64 p.lie.level, .int .i64 p.lie.pod, .int .i64 p.lie.mtu, .int .i64 p.lie.link, .int .i64 p.lie.nonce, .int .i64 p.lie.seen, .int .i64 p.lie.seenLink, .int .i64 p.lie.seenNonce, .int .i64 p.lie.hold, .bool p.lie.rep, .bool p.lie.noOffer, .int .i64 p.tie.head.id.dir, .int .i64 p.tie.head.id.orig, .int .i64 p.tie.head.id.kind, .int .i64 p.tie.head.id.nr, .int .i64 p.tie.head.seq, .int .i64 p.tie.head.life, .int .i64 p.tie.level, .bool p.tie.over, .slice ae p.tie.edges.length ce, .slice ar p.tie.reaches.length cr, .int .i64 p.frm.dir, .int .i64 p.frm.orig, .int .i64 p.frm.kind, .int .i64 p.frm.nr, .int .i64 p.to.dir, .int .i64 p.to.orig, .int .i64 p.to.kind, .int .i64 p.to.nr, .slice ah p.heads.length ch]] w (GotE [] w) := by
  obtain ⟨nh, hnh⟩ : ∃ n, p.heads.length = n := ⟨_, rfl⟩
  obtain ⟨ne, hne⟩ : ∃ n, p.tie.edges.length = n := ⟨_, rfl⟩
  obtain ⟨nr, hnr⟩ : ∃ n, p.tie.reaches.length = n := ⟨_, rfl⟩
  have hri := fun (W : World) (hW : Below w.heap.size w W) => rRight_any p ae ar ah ce cr ch W ((hp.below hW).mono hW.size)
  rw [hnh, hne, hnr] at hri ⊢
  have HNH := Lib.hid hnh
  have HNE := Lib.hid hne
  have HNR := Lib.hid hnr
  have HP := Lib.hid hp
  have HB0 := Lib.hid ((Below.refl w.heap.size w).alloc (Nat.le_refl _) (.cells #[.int .i64 p.kind, .int .i64 p.lie.node, .int .i64 p.lie.level, .int .i64 p.lie.pod, .int .i64 p.lie.mtu, .int .i64 p.lie.link, .int .i64 p.lie.nonce, .int .i64 p.lie.seen, .int .i64 p.lie.seenLink, .int .i64 p.lie.seenNonce, .int .i64 p.lie.hold, .bool p.lie.rep, .bool p.lie.noOffer, .int .i64 p.tie.head.id.dir, .int .i64 p.tie.head.id.orig, .int .i64 p.tie.head.id.kind, .int .i64 p.tie.head.id.nr, .int .i64 p.tie.head.seq, .int .i64 p.tie.head.life, .int .i64 p.tie.level, .bool p.tie.over, .slice ae ne ce, .slice ar nr cr, .int .i64 p.frm.dir, .int .i64 p.frm.orig, .int .i64 p.frm.kind, .int .i64 p.frm.nr, .int .i64 p.to.dir, .int .i64 p.to.orig, .int .i64 p.to.kind, .int .i64 p.to.nr, .slice ah nh ch] 34))
  have RP : RowKit.Hid (∀ W, Below (w.heap.size + 1) (w.alloc (.cells #[.int .i64 p.kind, .int .i64 p.lie.node, .int .i64 p.lie.level, .int .i64 p.lie.pod, .int .i64 p.lie.mtu, .int .i64 p.lie.link, .int .i64 p.lie.nonce, .int .i64 p.lie.seen, .int .i64 p.lie.seenLink, .int .i64 p.lie.seenNonce, .int .i64 p.lie.hold, .bool p.lie.rep, .bool p.lie.noOffer, .int .i64 p.tie.head.id.dir, .int .i64 p.tie.head.id.orig, .int .i64 p.tie.head.id.kind, .int .i64 p.tie.head.id.nr, .int .i64 p.tie.head.seq, .int .i64 p.tie.head.life, .int .i64 p.tie.level, .bool p.tie.over, .slice ae ne ce, .slice ar nr cr, .int .i64 p.frm.dir, .int .i64 p.frm.orig, .int .i64 p.frm.kind, .int .i64 p.frm.nr, .int .i64 p.to.dir, .int .i64 p.to.orig, .int .i64 p.to.kind, .int .i64 p.to.nr, .slice ah nh ch] 34)) W → W.rangeAt w.heap.size 0 [.int .i64 p.kind, .int .i64 p.lie.node, .int .i64 p.lie.level, .int .i64 p.lie.pod, .int .i64 p.lie.mtu, .int .i64 p.lie.link, .int .i64 p.lie.nonce, .int .i64 p.lie.seen, .int .i64 p.lie.seenLink, .int .i64 p.lie.seenNonce, .int .i64 p.lie.hold, .bool p.lie.rep, .bool p.lie.noOffer, .int .i64 p.tie.head.id.dir, .int .i64 p.tie.head.id.orig, .int .i64 p.tie.head.id.kind, .int .i64 p.tie.head.id.nr, .int .i64 p.tie.head.seq, .int .i64 p.tie.head.life, .int .i64 p.tie.level, .bool p.tie.over, .slice ae ne ce, .slice ar nr cr, .int .i64 p.frm.dir, .int .i64 p.frm.orig, .int .i64 p.frm.kind, .int .i64 p.frm.nr, .int .i64 p.to.dir, .int .i64 p.to.orig, .int .i64 p.to.kind, .int .i64 p.to.nr, .slice ah nh ch]) := fun W hb => range_box (World.alloc_heap_new w _) hb (Nat.lt_succ_self _)
  have HSZ : RowKit.Hid ((w.alloc (.cells #[.int .i64 p.kind, .int .i64 p.lie.node, .int .i64 p.lie.level, .int .i64 p.lie.pod, .int .i64 p.lie.mtu, .int .i64 p.lie.link, .int .i64 p.lie.nonce, .int .i64 p.lie.seen, .int .i64 p.lie.seenLink, .int .i64 p.lie.seenNonce, .int .i64 p.lie.hold, .bool p.lie.rep, .bool p.lie.noOffer, .int .i64 p.tie.head.id.dir, .int .i64 p.tie.head.id.orig, .int .i64 p.tie.head.id.kind, .int .i64 p.tie.head.id.nr, .int .i64 p.tie.head.seq, .int .i64 p.tie.head.life, .int .i64 p.tie.level, .bool p.tie.over, .slice ae ne ce, .slice ar nr cr, .int .i64 p.frm.dir, .int .i64 p.frm.orig, .int .i64 p.frm.kind, .int .i64 p.frm.nr, .int .i64 p.to.dir, .int .i64 p.to.orig, .int .i64 p.to.kind, .int .i64 p.to.nr, .slice ah nh ch] 34)).heap.size = w.heap.size + 1) := by show _ = _; simp
  have HRI := Lib.hid (fun (W : World) (hW : Below (w.heap.size + 1) (w.alloc (.cells #[.int .i64 p.kind, .int .i64 p.lie.node, .int .i64 p.lie.level, .int .i64 p.lie.pod, .int .i64 p.lie.mtu, .int .i64 p.lie.link, .int .i64 p.lie.nonce, .int .i64 p.lie.seen, .int .i64 p.lie.seenLink, .int .i64 p.lie.seenNonce, .int .i64 p.lie.hold, .bool p.lie.rep, .bool p.lie.noOffer, .int .i64 p.tie.head.id.dir, .int .i64 p.tie.head.id.orig, .int .i64 p.tie.head.id.kind, .int .i64 p.tie.head.id.nr, .int .i64 p.tie.head.seq, .int .i64 p.tie.head.life, .int .i64 p.tie.level, .bool p.tie.over, .slice ae ne ce, .slice ar nr cr, .int .i64 p.frm.dir, .int .i64 p.frm.orig, .int .i64 p.frm.kind, .int .i64 p.frm.nr, .int .i64 p.to.dir, .int .i64 p.to.orig, .int .i64 p.to.kind, .int .i64 p.to.nr, .slice ah nh ch] 34)) W) => hri W (HB0.out.trans (hW.mono (by omega))))
  obtain ⟨kd, hkd⟩ : ∃ kd, p.kind = kd := ⟨_, rfl⟩
  have HKD := Lib.hid hkd
  have HRT := Lib.hid hr
  have T1 : True := trivial
  have T2 : True := trivial
  clear hp hnh hne hnr hri hkd hr
  go_enter Try.func10, Try.ntmps10
  go_wp2_with (first
    | (refine wpList_load_mid rfl 34 (.tmp 1) rfl _ _ rfl _ _ (RP.out _ (Below.refl _ _)) Try.underlying34 rfl (by kernel_rfl) ?_)
    | (go_at_call 12; refine (HRI.out _ (Below.refl _ _)).mono ?_; rintro e w1 ⟨rfl, hb⟩; rw [HRT.out]; have B1 := Lib.hid (hb.mono (show w.heap.size + 1 ≤ _ by have h1 := HSZ.out; omega)); have q0 := cell_at (RP.out _ B1.out) 0 (show ([.int .i64 p.kind, .int .i64 p.lie.node, .int .i64 p.lie.level, .int .i64 p.lie.pod, .int .i64 p.lie.mtu, .int .i64 p.lie.link, .int .i64 p.lie.nonce, .int .i64 p.lie.seen, .int .i64 p.lie.seenLink, .int .i64 p.lie.seenNonce, .int .i64 p.lie.hold, .bool p.lie.rep, .bool p.lie.noOffer, .int .i64 p.tie.head.id.dir, .int .i64 p.tie.head.id.orig, .int .i64 p.tie.head.id.kind, .int .i64 p.tie.head.id.nr, .int .i64 p.tie.head.seq, .int .i64 p.tie.head.life, .int .i64 p.tie.level, .bool p.tie.over, .slice ae ne ce, .slice ar nr cr, .int .i64 p.frm.dir, .int .i64 p.frm.orig, .int .i64 p.frm.kind, .int .i64 p.frm.nr, .int .i64 p.to.dir, .int .i64 p.to.orig, .int .i64 p.to.kind, .int .i64 p.to.nr, .slice ah nh ch] : List Value)[0]? = some (.int .i64 kd) from by rw [HKD.out]; rfl); have HI := Lib.hid (ints_any 1 (by decide) (by decide) (n := 1) (cap := 1) (zs := [kd]) rfl (by simp) (rd_built w1 #[.int .i64 kd] [kd] rfl)); have BA := Lib.hid (B1.out.alloc (by have h1 := HSZ.out; have h2 := B1.out.size; omega) (.cells #[.int .i64 kd] 3)); clear hb))
  go_ret
  exact ⟨none, 0, 0, rfl, rfl, OwnE.nil _ _, HB0.out.trans (B1.out.mono (by omega))⟩
end Go.Proofs.Ytjkibgnkkienbaa

/-
  THE DOCUMENT's Items of a packet.
-/
namespace Go.Proofs.Ytjkibgnkkienbaa
open Go.RowKit Go.Shelf
set_option linter.unusedVariables false
set_option linter.unusedSimpArgs false
set_option maxRecDepth 100000 in
set_option maxHeartbeats 16000000 in
theorem ritems_1 (p : PackT) (ae ar ah : Option Addr) (ce cr ch : Nat) (w : World) (hp : Pk w.heap.size w p ae ar ah ce cr ch) (hr : rightW p = true) (hk : p.kind = 1) : Calls Try.prog 10 #[.agg #[.int .i64 p.kind, .int .i64 p.lie.node, .int .i64 p.lie.level, .int .i64 p.lie.pod, .int .i64 p.lie.mtu, .int .i64 p.lie.link, .int .i64 p.lie.nonce, .int .i64 p.lie.seen, .int .i64 p.lie.seenLink, .int .i64 p.lie.seenNonce, .int .i64 p.lie.hold, .bool p.lie.rep, .bool p.lie.noOffer, .int .i64 p.tie.head.id.dir, .int .i64 p.tie.head.id.orig, .int .i64 p.tie.head.id.kind, .int .i64 p.tie.head.id.nr, .int .i64 p.tie.head.seq, .int .i64 p.tie.head.life, .int .i64 p.tie.level, .bool p.tie.over, .slice ae p.tie.edges.length ce, .slice ar p.tie.reaches.length cr, .int .i64 p.frm.dir, .int .i64 p.frm.orig, .int .i64 p.frm.kind, .int .i64 p.frm.nr, .int .i64 p.to.dir, .int .i64 p.to.orig, .int .i64 p.to.kind, .int .i64 p.to.nr, .slice ah p.heads.length ch]] w (GotE (packI p) w) := by
  obtain ⟨nh, hnh⟩ : ∃ n, p.heads.length = n := ⟨_, rfl⟩
  obtain ⟨ne, hne⟩ : ∃ n, p.tie.edges.length = n := ⟨_, rfl⟩
  obtain ⟨nr, hnr⟩ : ∃ n, p.tie.reaches.length = n := ⟨_, rfl⟩
  have hri := fun (W : World) (hW : Below w.heap.size w W) => rRight_any p ae ar ah ce cr ch W ((hp.below hW).mono hW.size)
  rw [hnh, hne, hnr] at hri ⊢
  have HNH := Lib.hid hnh
  have HNE := Lib.hid hne
  have HNR := Lib.hid hnr
  have HP := Lib.hid hp
  have HB0 := Lib.hid ((Below.refl w.heap.size w).alloc (Nat.le_refl _) (.cells #[.int .i64 p.kind, .int .i64 p.lie.node, .int .i64 p.lie.level, .int .i64 p.lie.pod, .int .i64 p.lie.mtu, .int .i64 p.lie.link, .int .i64 p.lie.nonce, .int .i64 p.lie.seen, .int .i64 p.lie.seenLink, .int .i64 p.lie.seenNonce, .int .i64 p.lie.hold, .bool p.lie.rep, .bool p.lie.noOffer, .int .i64 p.tie.head.id.dir, .int .i64 p.tie.head.id.orig, .int .i64 p.tie.head.id.kind, .int .i64 p.tie.head.id.nr, .int .i64 p.tie.head.seq, .int .i64 p.tie.head.life, .int .i64 p.tie.level, .bool p.tie.over, .slice ae ne ce, .slice ar nr cr, .int .i64 p.frm.dir, .int .i64 p.frm.orig, .int .i64 p.frm.kind, .int .i64 p.frm.nr, .int .i64 p.to.dir, .int .i64 p.to.orig, .int .i64 p.to.kind, .int .i64 p.to.nr, .slice ah nh ch] 34))
  have RP : RowKit.Hid (∀ W, Below (w.heap.size + 1) (w.alloc (.cells #[.int .i64 p.kind, .int .i64 p.lie.node, .int .i64 p.lie.level, .int .i64 p.lie.pod, .int .i64 p.lie.mtu, .int .i64 p.lie.link, .int .i64 p.lie.nonce, .int .i64 p.lie.seen, .int .i64 p.lie.seenLink, .int .i64 p.lie.seenNonce, .int .i64 p.lie.hold, .bool p.lie.rep, .bool p.lie.noOffer, .int .i64 p.tie.head.id.dir, .int .i64 p.tie.head.id.orig, .int .i64 p.tie.head.id.kind, .int .i64 p.tie.head.id.nr, .int .i64 p.tie.head.seq, .int .i64 p.tie.head.life, .int .i64 p.tie.level, .bool p.tie.over, .slice ae ne ce, .slice ar nr cr, .int .i64 p.frm.dir, .int .i64 p.frm.orig, .int .i64 p.frm.kind, .int .i64 p.frm.nr, .int .i64 p.to.dir, .int .i64 p.to.orig, .int .i64 p.to.kind, .int .i64 p.to.nr, .slice ah nh ch] 34)) W → W.rangeAt w.heap.size 0 [.int .i64 p.kind, .int .i64 p.lie.node, .int .i64 p.lie.level, .int .i64 p.lie.pod, .int .i64 p.lie.mtu, .int .i64 p.lie.link, .int .i64 p.lie.nonce, .int .i64 p.lie.seen, .int .i64 p.lie.seenLink, .int .i64 p.lie.seenNonce, .int .i64 p.lie.hold, .bool p.lie.rep, .bool p.lie.noOffer, .int .i64 p.tie.head.id.dir, .int .i64 p.tie.head.id.orig, .int .i64 p.tie.head.id.kind, .int .i64 p.tie.head.id.nr, .int .i64 p.tie.head.seq, .int .i64 p.tie.head.life, .int .i64 p.tie.level, .bool p.tie.over, .slice ae ne ce, .slice ar nr cr, .int .i64 p.frm.dir, .int .i64 p.frm.orig, .int .i64 p.frm.kind, .int .i64 p.frm.nr, .int .i64 p.to.dir, .int .i64 p.to.orig, .int .i64 p.to.kind, .int .i64 p.to.nr, .slice ah nh ch]) := fun W hb => range_box (World.alloc_heap_new w _) hb (Nat.lt_succ_self _)
  have HSZ : RowKit.Hid ((w.alloc (.cells #[.int .i64 p.kind, .int .i64 p.lie.node, .int .i64 p.lie.level, .int .i64 p.lie.pod, .int .i64 p.lie.mtu, .int .i64 p.lie.link, .int .i64 p.lie.nonce, .int .i64 p.lie.seen, .int .i64 p.lie.seenLink, .int .i64 p.lie.seenNonce, .int .i64 p.lie.hold, .bool p.lie.rep, .bool p.lie.noOffer, .int .i64 p.tie.head.id.dir, .int .i64 p.tie.head.id.orig, .int .i64 p.tie.head.id.kind, .int .i64 p.tie.head.id.nr, .int .i64 p.tie.head.seq, .int .i64 p.tie.head.life, .int .i64 p.tie.level, .bool p.tie.over, .slice ae ne ce, .slice ar nr cr, .int .i64 p.frm.dir, .int .i64 p.frm.orig, .int .i64 p.frm.kind, .int .i64 p.frm.nr, .int .i64 p.to.dir, .int .i64 p.to.orig, .int .i64 p.to.kind, .int .i64 p.to.nr, .slice ah nh ch] 34)).heap.size = w.heap.size + 1) := by show _ = _; simp
  have HRI := Lib.hid (fun (W : World) (hW : Below (w.heap.size + 1) (w.alloc (.cells #[.int .i64 p.kind, .int .i64 p.lie.node, .int .i64 p.lie.level, .int .i64 p.lie.pod, .int .i64 p.lie.mtu, .int .i64 p.lie.link, .int .i64 p.lie.nonce, .int .i64 p.lie.seen, .int .i64 p.lie.seenLink, .int .i64 p.lie.seenNonce, .int .i64 p.lie.hold, .bool p.lie.rep, .bool p.lie.noOffer, .int .i64 p.tie.head.id.dir, .int .i64 p.tie.head.id.orig, .int .i64 p.tie.head.id.kind, .int .i64 p.tie.head.id.nr, .int .i64 p.tie.head.seq, .int .i64 p.tie.head.life, .int .i64 p.tie.level, .bool p.tie.over, .slice ae ne ce, .slice ar nr cr, .int .i64 p.frm.dir, .int .i64 p.frm.orig, .int .i64 p.frm.kind, .int .i64 p.frm.nr, .int .i64 p.to.dir, .int .i64 p.to.orig, .int .i64 p.to.kind, .int .i64 p.to.nr, .slice ah nh ch] 34)) W) => hri W (HB0.out.trans (hW.mono (by omega))))
  obtain ⟨kd, hkd⟩ : ∃ kd, p.kind = kd := ⟨_, rfl⟩
  have HKD := Lib.hid hkd
  have HRT := Lib.hid hr
  have T1 : True := trivial
  have T2 : True := trivial
  obtain rfl : kd = 1 := hkd.symm.trans hk
  clear hp hnh hne hnr hri hkd hr hk
  go_enter Try.func10, Try.ntmps10
  go_wp2_with (first
    | (refine wpList_load_mid rfl 34 (.tmp 1) rfl _ _ rfl _ _ (RP.out _ (Below.refl _ _)) Try.underlying34 rfl (by kernel_rfl) ?_)
    | (go_at_call 12; refine (HRI.out _ (Below.refl _ _)).mono ?_; rintro e w1 ⟨rfl, hb⟩; rw [HRT.out]; have B1 := Lib.hid (hb.mono (show w.heap.size + 1 ≤ _ by have h1 := HSZ.out; omega)); have q0 := cell_at (RP.out _ B1.out) 0 (show ([.int .i64 p.kind, .int .i64 p.lie.node, .int .i64 p.lie.level, .int .i64 p.lie.pod, .int .i64 p.lie.mtu, .int .i64 p.lie.link, .int .i64 p.lie.nonce, .int .i64 p.lie.seen, .int .i64 p.lie.seenLink, .int .i64 p.lie.seenNonce, .int .i64 p.lie.hold, .bool p.lie.rep, .bool p.lie.noOffer, .int .i64 p.tie.head.id.dir, .int .i64 p.tie.head.id.orig, .int .i64 p.tie.head.id.kind, .int .i64 p.tie.head.id.nr, .int .i64 p.tie.head.seq, .int .i64 p.tie.head.life, .int .i64 p.tie.level, .bool p.tie.over, .slice ae ne ce, .slice ar nr cr, .int .i64 p.frm.dir, .int .i64 p.frm.orig, .int .i64 p.frm.kind, .int .i64 p.frm.nr, .int .i64 p.to.dir, .int .i64 p.to.orig, .int .i64 p.to.kind, .int .i64 p.to.nr, .slice ah nh ch] : List Value)[0]? = some (.int .i64 1) from by rw [HKD.out]; rfl); have HI := Lib.hid (ints_any 1 (by decide) (by decide) (n := 1) (cap := 1) (zs := [1]) rfl (by simp) (rd_built w1 #[.int .i64 1] [1] rfl)); have BA := Lib.hid (B1.out.alloc (by have h1 := HSZ.out; have h2 := B1.out.size; omega) (.cells #[.int .i64 1] 3)); clear hb)
    | (go_at_call 16; refine HI.out.mono ?_; rintro e w2 ⟨A2, m2, c2, rfl, hn, ho, hb⟩; have O2 := Lib.hid (ho.less (show w.heap.size + 1 ≤ _ from (by have h1 := HSZ.out; have h2 := BA.out.size; first | omega | (simp at h2 ⊢; omega)))); have B2 := Lib.hid (BA.out.trans (hb.mono (by have h1 := HSZ.out; have h2 := BA.out.size; first | omega | (simp at h2 ⊢; omega)))); have q1 := cell_at (RP.out _ B2.out) 0 (show ([.int .i64 p.kind, .int .i64 p.lie.node, .int .i64 p.lie.level, .int .i64 p.lie.pod, .int .i64 p.lie.mtu, .int .i64 p.lie.link, .int .i64 p.lie.nonce, .int .i64 p.lie.seen, .int .i64 p.lie.seenLink, .int .i64 p.lie.seenNonce, .int .i64 p.lie.hold, .bool p.lie.rep, .bool p.lie.noOffer, .int .i64 p.tie.head.id.dir, .int .i64 p.tie.head.id.orig, .int .i64 p.tie.head.id.kind, .int .i64 p.tie.head.id.nr, .int .i64 p.tie.head.seq, .int .i64 p.tie.head.life, .int .i64 p.tie.level, .bool p.tie.over, .slice ae ne ce, .slice ar nr cr, .int .i64 p.frm.dir, .int .i64 p.frm.orig, .int .i64 p.frm.kind, .int .i64 p.frm.nr, .int .i64 p.to.dir, .int .i64 p.to.orig, .int .i64 p.to.kind, .int .i64 p.to.nr, .slice ah nh ch] : List Value)[0]? = some (.int .i64 1) from by rw [HKD.out]; rfl); clear hn ho hb HI)
    | (refine wpList_load_mid rfl 23 (.tmp 19) rfl w.heap.size 1 rfl [.int .i64 p.lie.node, .int .i64 p.lie.level, .int .i64 p.lie.pod, .int .i64 p.lie.mtu, .int .i64 p.lie.link, .int .i64 p.lie.nonce, .int .i64 p.lie.seen, .int .i64 p.lie.seenLink, .int .i64 p.lie.seenNonce, .int .i64 p.lie.hold, .bool p.lie.rep, .bool p.lie.noOffer] _ (range_at (RP.out _ B2.out) 1 12) Try.underlying23 rfl (by kernel_rfl) ?_)
    | (go_at_call 18; refine (lieItems_any p.lie w2).mono ?_; rintro e w3 ⟨A3, m3, c3, rfl, hn, ho, hb⟩; have O3 := Lib.hid (O2.out.below hb); have J3N := Lib.hid hn; have J3 := Lib.hid (ho.less (show w.heap.size + 1 ≤ _ from (by have h1 := HSZ.out; have h2 := B2.out.size; first | omega | (simp at h2 ⊢; omega)))); have B3 := Lib.hid (B2.out.trans (hb.mono (by have h1 := HSZ.out; have h2 := B2.out.size; first | omega | (simp at h2 ⊢; omega)))); clear hn ho hb)
    | (go_at_call 17; refine (open_any 2 J3N.out (by simp [lieI]) J3.out.src).mono ?_; rintro e w4 ⟨A4, m4, c4, rfl, hn, ho, hb⟩; have O4 := Lib.hid (O3.out.below hb); have J4N := Lib.hid hn; have J4 := Lib.hid (ho.less (show w.heap.size + 1 ≤ _ from (by have h1 := HSZ.out; have h2 := B3.out.size; first | omega | (simp at h2 ⊢; omega)))); have B4 := Lib.hid (B3.out.trans (hb.mono (by have h1 := HSZ.out; have h2 := B3.out.size; first | omega | (simp at h2 ⊢; omega)))); clear hn ho hb)
    | (at_builtin; refine wpList_append_E rfl _ _ rfl (w.heap.size + 1) _ (intsI 1 [1]) rfl O4.out A4 (opI 2 (lieI p.lie)) m4 c4 rfl J4N.out J4.out.src (by simp [intsI, opI, lieI, idI, headI]) (by have h1 := HSZ.out; have h2 := B4.out.size; first | omega | (simp at h2 ⊢; omega)) ?_; intro A5 m5 c5 w5 hn ho hb; have O5 := Lib.hid ho; have B5 := Lib.hid (B4.out.trans hb); clear hn ho hb))
  go_ret
  have h := O5.out
  rw [show intsI 1 [1] = intsI 1 [p.kind] by rw [HKD.out]] at h
  rw [pack1 HKD.out] at h
  exact ⟨A5, m5, c5, rfl, h.len, h.less (by omega), HB0.out.trans (B5.out.mono (by omega))⟩
end Go.Proofs.Ytjkibgnkkienbaa

/-
  THE DOCUMENT's Items of a packet.
-/
namespace Go.Proofs.Ytjkibgnkkienbaa
open Go.RowKit Go.Shelf
set_option linter.unusedVariables false
set_option linter.unusedSimpArgs false
set_option maxRecDepth 100000 in
set_option maxHeartbeats 16000000 in
theorem ritems_2 (p : PackT) (ae ar ah : Option Addr) (ce cr ch : Nat) (w : World) (hp : Pk w.heap.size w p ae ar ah ce cr ch) (hr : rightW p = true) (hk : p.kind = 2) : Calls Try.prog 10 #[.agg #[.int .i64 p.kind, .int .i64 p.lie.node, .int .i64 p.lie.level, .int .i64 p.lie.pod, .int .i64 p.lie.mtu, .int .i64 p.lie.link, .int .i64 p.lie.nonce, .int .i64 p.lie.seen, .int .i64 p.lie.seenLink, .int .i64 p.lie.seenNonce, .int .i64 p.lie.hold, .bool p.lie.rep, .bool p.lie.noOffer, .int .i64 p.tie.head.id.dir, .int .i64 p.tie.head.id.orig, .int .i64 p.tie.head.id.kind, .int .i64 p.tie.head.id.nr, .int .i64 p.tie.head.seq, .int .i64 p.tie.head.life, .int .i64 p.tie.level, .bool p.tie.over, .slice ae p.tie.edges.length ce, .slice ar p.tie.reaches.length cr, .int .i64 p.frm.dir, .int .i64 p.frm.orig, .int .i64 p.frm.kind, .int .i64 p.frm.nr, .int .i64 p.to.dir, .int .i64 p.to.orig, .int .i64 p.to.kind, .int .i64 p.to.nr, .slice ah p.heads.length ch]] w (GotE (packI p) w) := by
  obtain ⟨nh, hnh⟩ : ∃ n, p.heads.length = n := ⟨_, rfl⟩
  obtain ⟨ne, hne⟩ : ∃ n, p.tie.edges.length = n := ⟨_, rfl⟩
  obtain ⟨nr, hnr⟩ : ∃ n, p.tie.reaches.length = n := ⟨_, rfl⟩
  have hri := fun (W : World) (hW : Below w.heap.size w W) => rRight_any p ae ar ah ce cr ch W ((hp.below hW).mono hW.size)
  rw [hnh, hne, hnr] at hri ⊢
  have HNH := Lib.hid hnh
  have HNE := Lib.hid hne
  have HNR := Lib.hid hnr
  have HP := Lib.hid hp
  have HB0 := Lib.hid ((Below.refl w.heap.size w).alloc (Nat.le_refl _) (.cells #[.int .i64 p.kind, .int .i64 p.lie.node, .int .i64 p.lie.level, .int .i64 p.lie.pod, .int .i64 p.lie.mtu, .int .i64 p.lie.link, .int .i64 p.lie.nonce, .int .i64 p.lie.seen, .int .i64 p.lie.seenLink, .int .i64 p.lie.seenNonce, .int .i64 p.lie.hold, .bool p.lie.rep, .bool p.lie.noOffer, .int .i64 p.tie.head.id.dir, .int .i64 p.tie.head.id.orig, .int .i64 p.tie.head.id.kind, .int .i64 p.tie.head.id.nr, .int .i64 p.tie.head.seq, .int .i64 p.tie.head.life, .int .i64 p.tie.level, .bool p.tie.over, .slice ae ne ce, .slice ar nr cr, .int .i64 p.frm.dir, .int .i64 p.frm.orig, .int .i64 p.frm.kind, .int .i64 p.frm.nr, .int .i64 p.to.dir, .int .i64 p.to.orig, .int .i64 p.to.kind, .int .i64 p.to.nr, .slice ah nh ch] 34))
  have RP : RowKit.Hid (∀ W, Below (w.heap.size + 1) (w.alloc (.cells #[.int .i64 p.kind, .int .i64 p.lie.node, .int .i64 p.lie.level, .int .i64 p.lie.pod, .int .i64 p.lie.mtu, .int .i64 p.lie.link, .int .i64 p.lie.nonce, .int .i64 p.lie.seen, .int .i64 p.lie.seenLink, .int .i64 p.lie.seenNonce, .int .i64 p.lie.hold, .bool p.lie.rep, .bool p.lie.noOffer, .int .i64 p.tie.head.id.dir, .int .i64 p.tie.head.id.orig, .int .i64 p.tie.head.id.kind, .int .i64 p.tie.head.id.nr, .int .i64 p.tie.head.seq, .int .i64 p.tie.head.life, .int .i64 p.tie.level, .bool p.tie.over, .slice ae ne ce, .slice ar nr cr, .int .i64 p.frm.dir, .int .i64 p.frm.orig, .int .i64 p.frm.kind, .int .i64 p.frm.nr, .int .i64 p.to.dir, .int .i64 p.to.orig, .int .i64 p.to.kind, .int .i64 p.to.nr, .slice ah nh ch] 34)) W → W.rangeAt w.heap.size 0 [.int .i64 p.kind, .int .i64 p.lie.node, .int .i64 p.lie.level, .int .i64 p.lie.pod, .int .i64 p.lie.mtu, .int .i64 p.lie.link, .int .i64 p.lie.nonce, .int .i64 p.lie.seen, .int .i64 p.lie.seenLink, .int .i64 p.lie.seenNonce, .int .i64 p.lie.hold, .bool p.lie.rep, .bool p.lie.noOffer, .int .i64 p.tie.head.id.dir, .int .i64 p.tie.head.id.orig, .int .i64 p.tie.head.id.kind, .int .i64 p.tie.head.id.nr, .int .i64 p.tie.head.seq, .int .i64 p.tie.head.life, .int .i64 p.tie.level, .bool p.tie.over, .slice ae ne ce, .slice ar nr cr, .int .i64 p.frm.dir, .int .i64 p.frm.orig, .int .i64 p.frm.kind, .int .i64 p.frm.nr, .int .i64 p.to.dir, .int .i64 p.to.orig, .int .i64 p.to.kind, .int .i64 p.to.nr, .slice ah nh ch]) := fun W hb => range_box (World.alloc_heap_new w _) hb (Nat.lt_succ_self _)
  have HSZ : RowKit.Hid ((w.alloc (.cells #[.int .i64 p.kind, .int .i64 p.lie.node, .int .i64 p.lie.level, .int .i64 p.lie.pod, .int .i64 p.lie.mtu, .int .i64 p.lie.link, .int .i64 p.lie.nonce, .int .i64 p.lie.seen, .int .i64 p.lie.seenLink, .int .i64 p.lie.seenNonce, .int .i64 p.lie.hold, .bool p.lie.rep, .bool p.lie.noOffer, .int .i64 p.tie.head.id.dir, .int .i64 p.tie.head.id.orig, .int .i64 p.tie.head.id.kind, .int .i64 p.tie.head.id.nr, .int .i64 p.tie.head.seq, .int .i64 p.tie.head.life, .int .i64 p.tie.level, .bool p.tie.over, .slice ae ne ce, .slice ar nr cr, .int .i64 p.frm.dir, .int .i64 p.frm.orig, .int .i64 p.frm.kind, .int .i64 p.frm.nr, .int .i64 p.to.dir, .int .i64 p.to.orig, .int .i64 p.to.kind, .int .i64 p.to.nr, .slice ah nh ch] 34)).heap.size = w.heap.size + 1) := by show _ = _; simp
  have HRI := Lib.hid (fun (W : World) (hW : Below (w.heap.size + 1) (w.alloc (.cells #[.int .i64 p.kind, .int .i64 p.lie.node, .int .i64 p.lie.level, .int .i64 p.lie.pod, .int .i64 p.lie.mtu, .int .i64 p.lie.link, .int .i64 p.lie.nonce, .int .i64 p.lie.seen, .int .i64 p.lie.seenLink, .int .i64 p.lie.seenNonce, .int .i64 p.lie.hold, .bool p.lie.rep, .bool p.lie.noOffer, .int .i64 p.tie.head.id.dir, .int .i64 p.tie.head.id.orig, .int .i64 p.tie.head.id.kind, .int .i64 p.tie.head.id.nr, .int .i64 p.tie.head.seq, .int .i64 p.tie.head.life, .int .i64 p.tie.level, .bool p.tie.over, .slice ae ne ce, .slice ar nr cr, .int .i64 p.frm.dir, .int .i64 p.frm.orig, .int .i64 p.frm.kind, .int .i64 p.frm.nr, .int .i64 p.to.dir, .int .i64 p.to.orig, .int .i64 p.to.kind, .int .i64 p.to.nr, .slice ah nh ch] 34)) W) => hri W (HB0.out.trans (hW.mono (by omega))))
  obtain ⟨kd, hkd⟩ : ∃ kd, p.kind = kd := ⟨_, rfl⟩
  have HKD := Lib.hid hkd
  have HRT := Lib.hid hr
  have T1 : True := trivial
  have T2 : True := trivial
  obtain rfl : kd = 2 := hkd.symm.trans hk
  obtain ⟨l1, l2⟩ := right_ties hr hk
  have HTI := Lib.hid (fun (W : World) (hW : Below (w.heap.size + 1) (w.alloc (.cells #[.int .i64 p.kind, .int .i64 p.lie.node, .int .i64 p.lie.level, .int .i64 p.lie.pod, .int .i64 p.lie.mtu, .int .i64 p.lie.link, .int .i64 p.lie.nonce, .int .i64 p.lie.seen, .int .i64 p.lie.seenLink, .int .i64 p.lie.seenNonce, .int .i64 p.lie.hold, .bool p.lie.rep, .bool p.lie.noOffer, .int .i64 p.tie.head.id.dir, .int .i64 p.tie.head.id.orig, .int .i64 p.tie.head.id.kind, .int .i64 p.tie.head.id.nr, .int .i64 p.tie.head.seq, .int .i64 p.tie.head.life, .int .i64 p.tie.level, .bool p.tie.over, .slice ae ne ce, .slice ar nr cr, .int .i64 p.frm.dir, .int .i64 p.frm.orig, .int .i64 p.frm.kind, .int .i64 p.frm.nr, .int .i64 p.to.dir, .int .i64 p.to.orig, .int .i64 p.to.kind, .int .i64 p.to.nr, .slice ah nh ch] 34)) W) => tieItems_any p.tie ae ar ne nr ce cr hne hnr (by omega) (by omega) hp.ok W ((hp.re.below (HB0.out.trans (hW.mono (by omega)))).mono (HB0.out.trans (hW.mono (by omega))).size) ((hp.rr.below (HB0.out.trans (hW.mono (by omega)))).mono (HB0.out.trans (hW.mono (by omega))).size))
  have hlt : (tieI p.tie).length ≤ 1000 := by rw [← tie_parts, List.length_append, List.length_append, tieE_len, tieRs_len]; simp [opI, headI, idI, intsI]; omega
  clear hp hnh hne hnr hri hkd hr hk l1 l2
  go_enter Try.func10, Try.ntmps10
  go_wp2_with (first
    | (refine wpList_load_mid rfl 34 (.tmp 1) rfl _ _ rfl _ _ (RP.out _ (Below.refl _ _)) Try.underlying34 rfl (by kernel_rfl) ?_)
    | (go_at_call 12; refine (HRI.out _ (Below.refl _ _)).mono ?_; rintro e w1 ⟨rfl, hb⟩; rw [HRT.out]; have B1 := Lib.hid (hb.mono (show w.heap.size + 1 ≤ _ by have h1 := HSZ.out; omega)); have q0 := cell_at (RP.out _ B1.out) 0 (show ([.int .i64 p.kind, .int .i64 p.lie.node, .int .i64 p.lie.level, .int .i64 p.lie.pod, .int .i64 p.lie.mtu, .int .i64 p.lie.link, .int .i64 p.lie.nonce, .int .i64 p.lie.seen, .int .i64 p.lie.seenLink, .int .i64 p.lie.seenNonce, .int .i64 p.lie.hold, .bool p.lie.rep, .bool p.lie.noOffer, .int .i64 p.tie.head.id.dir, .int .i64 p.tie.head.id.orig, .int .i64 p.tie.head.id.kind, .int .i64 p.tie.head.id.nr, .int .i64 p.tie.head.seq, .int .i64 p.tie.head.life, .int .i64 p.tie.level, .bool p.tie.over, .slice ae ne ce, .slice ar nr cr, .int .i64 p.frm.dir, .int .i64 p.frm.orig, .int .i64 p.frm.kind, .int .i64 p.frm.nr, .int .i64 p.to.dir, .int .i64 p.to.orig, .int .i64 p.to.kind, .int .i64 p.to.nr, .slice ah nh ch] : List Value)[0]? = some (.int .i64 2) from by rw [HKD.out]; rfl); have HI := Lib.hid (ints_any 1 (by decide) (by decide) (n := 1) (cap := 1) (zs := [2]) rfl (by simp) (rd_built w1 #[.int .i64 2] [2] rfl)); have BA := Lib.hid (B1.out.alloc (by have h1 := HSZ.out; have h2 := B1.out.size; omega) (.cells #[.int .i64 2] 3)); clear hb)
    | (go_at_call 16; refine HI.out.mono ?_; rintro e w2 ⟨A2, m2, c2, rfl, hn, ho, hb⟩; have O2 := Lib.hid (ho.less (show w.heap.size + 1 ≤ _ from (by have h1 := HSZ.out; have h2 := BA.out.size; first | omega | (simp at h2 ⊢; omega)))); have B2 := Lib.hid (BA.out.trans (hb.mono (by have h1 := HSZ.out; have h2 := BA.out.size; first | omega | (simp at h2 ⊢; omega)))); have q1 := cell_at (RP.out _ B2.out) 0 (show ([.int .i64 p.kind, .int .i64 p.lie.node, .int .i64 p.lie.level, .int .i64 p.lie.pod, .int .i64 p.lie.mtu, .int .i64 p.lie.link, .int .i64 p.lie.nonce, .int .i64 p.lie.seen, .int .i64 p.lie.seenLink, .int .i64 p.lie.seenNonce, .int .i64 p.lie.hold, .bool p.lie.rep, .bool p.lie.noOffer, .int .i64 p.tie.head.id.dir, .int .i64 p.tie.head.id.orig, .int .i64 p.tie.head.id.kind, .int .i64 p.tie.head.id.nr, .int .i64 p.tie.head.seq, .int .i64 p.tie.head.life, .int .i64 p.tie.level, .bool p.tie.over, .slice ae ne ce, .slice ar nr cr, .int .i64 p.frm.dir, .int .i64 p.frm.orig, .int .i64 p.frm.kind, .int .i64 p.frm.nr, .int .i64 p.to.dir, .int .i64 p.to.orig, .int .i64 p.to.kind, .int .i64 p.to.nr, .slice ah nh ch] : List Value)[0]? = some (.int .i64 2) from by rw [HKD.out]; rfl); clear hn ho hb HI)
    | (refine wpList_load_mid rfl 31 (.tmp 27) rfl w.heap.size 13 rfl [.int .i64 p.tie.head.id.dir, .int .i64 p.tie.head.id.orig, .int .i64 p.tie.head.id.kind, .int .i64 p.tie.head.id.nr, .int .i64 p.tie.head.seq, .int .i64 p.tie.head.life, .int .i64 p.tie.level, .bool p.tie.over, .slice ae ne ce, .slice ar nr cr] _ (range_at (RP.out _ B2.out) 13 10) Try.underlying31 rfl (by kernel_rfl) ?_)
    | (go_at_call 19; refine (HTI.out w2 B2.out).mono ?_; rintro e w3 ⟨A3, m3, c3, rfl, hn, ho, hb⟩; have O3 := Lib.hid (O2.out.below hb); have J3N := Lib.hid hn; have J3 := Lib.hid (ho.less (show w.heap.size + 1 ≤ _ from (by have h1 := HSZ.out; have h2 := B2.out.size; first | omega | (simp at h2 ⊢; omega)))); have B3 := Lib.hid (B2.out.trans (hb.mono (by have h1 := HSZ.out; have h2 := B2.out.size; first | omega | (simp at h2 ⊢; omega)))); clear hn ho hb)
    | (go_at_call 17; refine (open_any 3 J3N.out (by omega) J3.out.src).mono ?_; rintro e w4 ⟨A4, m4, c4, rfl, hn, ho, hb⟩; have O4 := Lib.hid (O3.out.below hb); have J4N := Lib.hid hn; have J4 := Lib.hid (ho.less (show w.heap.size + 1 ≤ _ from (by have h1 := HSZ.out; have h2 := B3.out.size; first | omega | (simp at h2 ⊢; omega)))); have B4 := Lib.hid (B3.out.trans (hb.mono (by have h1 := HSZ.out; have h2 := B3.out.size; first | omega | (simp at h2 ⊢; omega)))); clear hn ho hb)
    | (at_builtin; refine wpList_append_E rfl _ _ rfl (w.heap.size + 1) _ (intsI 1 [2]) rfl O4.out A4 (opI 3 (tieI p.tie)) m4 c4 rfl J4N.out J4.out.src (by simp [intsI, opI]; omega) (by have h1 := HSZ.out; have h2 := B4.out.size; first | omega | (simp at h2 ⊢; omega)) ?_; intro A5 m5 c5 w5 hn ho hb; have O5 := Lib.hid ho; have B5 := Lib.hid (B4.out.trans hb); clear hn ho hb))
  go_ret
  have h := O5.out
  rw [show intsI 1 [2] = intsI 1 [p.kind] by rw [HKD.out]] at h
  rw [pack2 HKD.out] at h
  exact ⟨A5, m5, c5, rfl, h.len, h.less (by omega), HB0.out.trans (B5.out.mono (by omega))⟩
end Go.Proofs.Ytjkibgnkkienbaa

/-
  THE DOCUMENT's Items of a packet.
-/
namespace Go.Proofs.Ytjkibgnkkienbaa
open Go.RowKit Go.Shelf
set_option linter.unusedVariables false
set_option linter.unusedSimpArgs false
set_option maxRecDepth 100000 in
set_option maxHeartbeats 16000000 in
theorem ritems_3 (p : PackT) (ae ar ah : Option Addr) (ce cr ch : Nat) (w : World) (hp : Pk w.heap.size w p ae ar ah ce cr ch) (hr : rightW p = true) (hk : p.kind = 3) : Calls Try.prog 10 #[.agg #[.int .i64 p.kind, .int .i64 p.lie.node, .int .i64 p.lie.level, .int .i64 p.lie.pod, .int .i64 p.lie.mtu, .int .i64 p.lie.link, .int .i64 p.lie.nonce, .int .i64 p.lie.seen, .int .i64 p.lie.seenLink, .int .i64 p.lie.seenNonce, .int .i64 p.lie.hold, .bool p.lie.rep, .bool p.lie.noOffer, .int .i64 p.tie.head.id.dir, .int .i64 p.tie.head.id.orig, .int .i64 p.tie.head.id.kind, .int .i64 p.tie.head.id.nr, .int .i64 p.tie.head.seq, .int .i64 p.tie.head.life, .int .i64 p.tie.level, .bool p.tie.over, .slice ae p.tie.edges.length ce, .slice ar p.tie.reaches.length cr, .int .i64 p.frm.dir, .int .i64 p.frm.orig, .int .i64 p.frm.kind, .int .i64 p.frm.nr, .int .i64 p.to.dir, .int .i64 p.to.orig, .int .i64 p.to.kind, .int .i64 p.to.nr, .slice ah p.heads.length ch]] w (GotE (packI p) w) := by
  obtain ⟨nh, hnh⟩ : ∃ n, p.heads.length = n := ⟨_, rfl⟩
  obtain ⟨ne, hne⟩ : ∃ n, p.tie.edges.length = n := ⟨_, rfl⟩
  obtain ⟨nr, hnr⟩ : ∃ n, p.tie.reaches.length = n := ⟨_, rfl⟩
  have hri := fun (W : World) (hW : Below w.heap.size w W) => rRight_any p ae ar ah ce cr ch W ((hp.below hW).mono hW.size)
  rw [hnh, hne, hnr] at hri ⊢
  have HNH := Lib.hid hnh
  have HNE := Lib.hid hne
  have HNR := Lib.hid hnr
  have HP := Lib.hid hp
  have HB0 := Lib.hid ((Below.refl w.heap.size w).alloc (Nat.le_refl _) (.cells #[.int .i64 p.kind, .int .i64 p.lie.node, .int .i64 p.lie.level, .int .i64 p.lie.pod, .int .i64 p.lie.mtu, .int .i64 p.lie.link, .int .i64 p.lie.nonce, .int .i64 p.lie.seen, .int .i64 p.lie.seenLink, .int .i64 p.lie.seenNonce, .int .i64 p.lie.hold, .bool p.lie.rep, .bool p.lie.noOffer, .int .i64 p.tie.head.id.dir, .int .i64 p.tie.head.id.orig, .int .i64 p.tie.head.id.kind, .int .i64 p.tie.head.id.nr, .int .i64 p.tie.head.seq, .int .i64 p.tie.head.life, .int .i64 p.tie.level, .bool p.tie.over, .slice ae ne ce, .slice ar nr cr, .int .i64 p.frm.dir, .int .i64 p.frm.orig, .int .i64 p.frm.kind, .int .i64 p.frm.nr, .int .i64 p.to.dir, .int .i64 p.to.orig, .int .i64 p.to.kind, .int .i64 p.to.nr, .slice ah nh ch] 34))
  have RP : RowKit.Hid (∀ W, Below (w.heap.size + 1) (w.alloc (.cells #[.int .i64 p.kind, .int .i64 p.lie.node, .int .i64 p.lie.level, .int .i64 p.lie.pod, .int .i64 p.lie.mtu, .int .i64 p.lie.link, .int .i64 p.lie.nonce, .int .i64 p.lie.seen, .int .i64 p.lie.seenLink, .int .i64 p.lie.seenNonce, .int .i64 p.lie.hold, .bool p.lie.rep, .bool p.lie.noOffer, .int .i64 p.tie.head.id.dir, .int .i64 p.tie.head.id.orig, .int .i64 p.tie.head.id.kind, .int .i64 p.tie.head.id.nr, .int .i64 p.tie.head.seq, .int .i64 p.tie.head.life, .int .i64 p.tie.level, .bool p.tie.over, .slice ae ne ce, .slice ar nr cr, .int .i64 p.frm.dir, .int .i64 p.frm.orig, .int .i64 p.frm.kind, .int .i64 p.frm.nr, .int .i64 p.to.dir, .int .i64 p.to.orig, .int .i64 p.to.kind, .int .i64 p.to.nr, .slice ah nh ch] 34)) W → W.rangeAt w.heap.size 0 [.int .i64 p.kind, .int .i64 p.lie.node, .int .i64 p.lie.level, .int .i64 p.lie.pod, .int .i64 p.lie.mtu, .int .i64 p.lie.link, .int .i64 p.lie.nonce, .int .i64 p.lie.seen, .int .i64 p.lie.seenLink, .int .i64 p.lie.seenNonce, .int .i64 p.lie.hold, .bool p.lie.rep, .bool p.lie.noOffer, .int .i64 p.tie.head.id.dir, .int .i64 p.tie.head.id.orig, .int .i64 p.tie.head.id.kind, .int .i64 p.tie.head.id.nr, .int .i64 p.tie.head.seq, .int .i64 p.tie.head.life, .int .i64 p.tie.level, .bool p.tie.over, .slice ae ne ce, .slice ar nr cr, .int .i64 p.frm.dir, .int .i64 p.frm.orig, .int .i64 p.frm.kind, .int .i64 p.frm.nr, .int .i64 p.to.dir, .int .i64 p.to.orig, .int .i64 p.to.kind, .int .i64 p.to.nr, .slice ah nh ch]) := fun W hb => range_box (World.alloc_heap_new w _) hb (Nat.lt_succ_self _)
  have HSZ : RowKit.Hid ((w.alloc (.cells #[.int .i64 p.kind, .int .i64 p.lie.node, .int .i64 p.lie.level, .int .i64 p.lie.pod, .int .i64 p.lie.mtu, .int .i64 p.lie.link, .int .i64 p.lie.nonce, .int .i64 p.lie.seen, .int .i64 p.lie.seenLink, .int .i64 p.lie.seenNonce, .int .i64 p.lie.hold, .bool p.lie.rep, .bool p.lie.noOffer, .int .i64 p.tie.head.id.dir, .int .i64 p.tie.head.id.orig, .int .i64 p.tie.head.id.kind, .int .i64 p.tie.head.id.nr, .int .i64 p.tie.head.seq, .int .i64 p.tie.head.life, .int .i64 p.tie.level, .bool p.tie.over, .slice ae ne ce, .slice ar nr cr, .int .i64 p.frm.dir, .int .i64 p.frm.orig, .int .i64 p.frm.kind, .int .i64 p.frm.nr, .int .i64 p.to.dir, .int .i64 p.to.orig, .int .i64 p.to.kind, .int .i64 p.to.nr, .slice ah nh ch] 34)).heap.size = w.heap.size + 1) := by show _ = _; simp
  have HRI := Lib.hid (fun (W : World) (hW : Below (w.heap.size + 1) (w.alloc (.cells #[.int .i64 p.kind, .int .i64 p.lie.node, .int .i64 p.lie.level, .int .i64 p.lie.pod, .int .i64 p.lie.mtu, .int .i64 p.lie.link, .int .i64 p.lie.nonce, .int .i64 p.lie.seen, .int .i64 p.lie.seenLink, .int .i64 p.lie.seenNonce, .int .i64 p.lie.hold, .bool p.lie.rep, .bool p.lie.noOffer, .int .i64 p.tie.head.id.dir, .int .i64 p.tie.head.id.orig, .int .i64 p.tie.head.id.kind, .int .i64 p.tie.head.id.nr, .int .i64 p.tie.head.seq, .int .i64 p.tie.head.life, .int .i64 p.tie.level, .bool p.tie.over, .slice ae ne ce, .slice ar nr cr, .int .i64 p.frm.dir, .int .i64 p.frm.orig, .int .i64 p.frm.kind, .int .i64 p.frm.nr, .int .i64 p.to.dir, .int .i64 p.to.orig, .int .i64 p.to.kind, .int .i64 p.to.nr, .slice ah nh ch] 34)) W) => hri W (HB0.out.trans (hW.mono (by omega))))
  obtain ⟨kd, hkd⟩ : ∃ kd, p.kind = kd := ⟨_, rfl⟩
  have HKD := Lib.hid hkd
  have HRT := Lib.hid hr
  have T1 : True := trivial
  have T2 : True := trivial
  have U1 : True := trivial
  have U2 : True := trivial
  have U3 : True := trivial
  obtain rfl : kd = 3 := hkd.symm.trans hk
  have hh := right_heads hr
  rw [hnh] at hh
  clear hp hnh hne hnr hri hkd hr hk
  go_enter Try.func10, Try.ntmps10
  go_wp2_with (first
    | (refine wpList_load_mid rfl 34 (.tmp 1) rfl _ _ rfl _ _ (RP.out _ (Below.refl _ _)) Try.underlying34 rfl (by kernel_rfl) ?_)
    | (go_at_call 12; refine (HRI.out _ (Below.refl _ _)).mono ?_; rintro e w1 ⟨rfl, hb⟩; rw [HRT.out]; have B1 := Lib.hid (hb.mono (show w.heap.size + 1 ≤ _ by have h1 := HSZ.out; omega)); have q0 := cell_at (RP.out _ B1.out) 0 (show ([.int .i64 p.kind, .int .i64 p.lie.node, .int .i64 p.lie.level, .int .i64 p.lie.pod, .int .i64 p.lie.mtu, .int .i64 p.lie.link, .int .i64 p.lie.nonce, .int .i64 p.lie.seen, .int .i64 p.lie.seenLink, .int .i64 p.lie.seenNonce, .int .i64 p.lie.hold, .bool p.lie.rep, .bool p.lie.noOffer, .int .i64 p.tie.head.id.dir, .int .i64 p.tie.head.id.orig, .int .i64 p.tie.head.id.kind, .int .i64 p.tie.head.id.nr, .int .i64 p.tie.head.seq, .int .i64 p.tie.head.life, .int .i64 p.tie.level, .bool p.tie.over, .slice ae ne ce, .slice ar nr cr, .int .i64 p.frm.dir, .int .i64 p.frm.orig, .int .i64 p.frm.kind, .int .i64 p.frm.nr, .int .i64 p.to.dir, .int .i64 p.to.orig, .int .i64 p.to.kind, .int .i64 p.to.nr, .slice ah nh ch] : List Value)[0]? = some (.int .i64 3) from by rw [HKD.out]; rfl); have HI := Lib.hid (ints_any 1 (by decide) (by decide) (n := 1) (cap := 1) (zs := [3]) rfl (by simp) (rd_built w1 #[.int .i64 3] [3] rfl)); have BA := Lib.hid (B1.out.alloc (by have h1 := HSZ.out; have h2 := B1.out.size; omega) (.cells #[.int .i64 3] 3)); clear hb)
    | (go_at_call 16; refine HI.out.mono ?_; rintro e w2 ⟨A2, m2, c2, rfl, hn, ho, hb⟩; have O2 := Lib.hid (ho.less (show w.heap.size + 1 ≤ _ from (by have h1 := HSZ.out; have h2 := BA.out.size; first | omega | (simp at h2 ⊢; omega)))); have B2 := Lib.hid (BA.out.trans (hb.mono (by have h1 := HSZ.out; have h2 := BA.out.size; first | omega | (simp at h2 ⊢; omega)))); have q1 := cell_at (RP.out _ B2.out) 0 (show ([.int .i64 p.kind, .int .i64 p.lie.node, .int .i64 p.lie.level, .int .i64 p.lie.pod, .int .i64 p.lie.mtu, .int .i64 p.lie.link, .int .i64 p.lie.nonce, .int .i64 p.lie.seen, .int .i64 p.lie.seenLink, .int .i64 p.lie.seenNonce, .int .i64 p.lie.hold, .bool p.lie.rep, .bool p.lie.noOffer, .int .i64 p.tie.head.id.dir, .int .i64 p.tie.head.id.orig, .int .i64 p.tie.head.id.kind, .int .i64 p.tie.head.id.nr, .int .i64 p.tie.head.seq, .int .i64 p.tie.head.life, .int .i64 p.tie.level, .bool p.tie.over, .slice ae ne ce, .slice ar nr cr, .int .i64 p.frm.dir, .int .i64 p.frm.orig, .int .i64 p.frm.kind, .int .i64 p.frm.nr, .int .i64 p.to.dir, .int .i64 p.to.orig, .int .i64 p.to.kind, .int .i64 p.to.nr, .slice ah nh ch] : List Value)[0]? = some (.int .i64 3) from by rw [HKD.out]; rfl); clear hn ho hb HI)
    | (refine wpList_load_mid rfl 25 (.tmp 35) rfl w.heap.size 23 rfl [.int .i64 p.frm.dir, .int .i64 p.frm.orig, .int .i64 p.frm.kind, .int .i64 p.frm.nr] _ (range_at (RP.out _ B2.out) 23 4) Try.underlying25 rfl (by kernel_rfl) ?_)
    | (refine wpList_load_mid rfl 25 (.tmp 41) rfl w.heap.size 27 rfl [.int .i64 p.to.dir, .int .i64 p.to.orig, .int .i64 p.to.kind, .int .i64 p.to.nr] _ (range_at (RP.out _ B5.out) 27 4) Try.underlying25 rfl (by kernel_rfl) ?_)
    | (have tt := U1; clear U1 tt; go_at_call 20; refine (idItems_any p.frm w2).mono ?_; rintro e w3 ⟨A3, m3, c3, rfl, hn, ho, hb⟩; have O3 := Lib.hid (O2.out.below hb); have J3N := Lib.hid hn; have J3 := Lib.hid (ho.less (show w.heap.size + 1 ≤ _ from (by have h1 := HSZ.out; have h2 := B2.out.size; first | omega | (simp at h2 ⊢; omega)))); have B3 := Lib.hid (B2.out.trans (hb.mono (by have h1 := HSZ.out; have h2 := B2.out.size; first | omega | (simp at h2 ⊢; omega)))); clear hn ho hb)
    | (have tt := U2; clear U2 tt; go_at_call 17; refine (open_any 4 J3N.out (by rw [idI_len]; omega) J3.out.src).mono ?_; rintro e w4 ⟨A4, m4, c4, rfl, hn, ho, hb⟩; have O4 := Lib.hid (O3.out.below hb); have J4N := Lib.hid hn; have J4 := Lib.hid (ho.less (show w.heap.size + 1 ≤ _ from (by have h1 := HSZ.out; have h2 := B3.out.size; first | omega | (simp at h2 ⊢; omega)))); have B4 := Lib.hid (B3.out.trans (hb.mono (by have h1 := HSZ.out; have h2 := B3.out.size; first | omega | (simp at h2 ⊢; omega)))); clear hn ho hb)
    | (have tt := U3; clear U3 tt; at_builtin; refine wpList_append_E rfl _ _ rfl (w.heap.size + 1) _ (intsI 1 [3]) rfl O4.out A4 (opI 4 (idI p.frm)) m4 c4 rfl J4N.out J4.out.src (by simp [intsI, opI, lieI, idI, headI]) (by have h1 := HSZ.out; have h2 := B4.out.size; first | omega | (simp at h2 ⊢; omega)) ?_; intro A5 m5 c5 w5 hn ho hb; have O5 := Lib.hid ho; have B5 := Lib.hid (B4.out.trans hb); clear hn ho hb)
    | (go_at_call 20; refine (idItems_any p.to w5).mono ?_; rintro e w6 ⟨A6, m6, c6, rfl, hn, ho, hb⟩; have O6 := Lib.hid (O5.out.below hb); have J6N := Lib.hid hn; have J6 := Lib.hid (ho.less (show w.heap.size + 1 ≤ _ from (by have h1 := HSZ.out; have h2 := B5.out.size; first | omega | (simp at h2 ⊢; omega)))); have B6 := Lib.hid (B5.out.trans (hb.mono (by have h1 := HSZ.out; have h2 := B5.out.size; first | omega | (simp at h2 ⊢; omega)))); clear hn ho hb)
    | (go_at_call 17; refine (open_any 5 J6N.out (by rw [idI_len]; omega) J6.out.src).mono ?_; rintro e w7 ⟨A7, m7, c7, rfl, hn, ho, hb⟩; have O7 := Lib.hid (O6.out.below hb); have J7N := Lib.hid hn; have J7 := Lib.hid (ho.less (show w.heap.size + 1 ≤ _ from (by have h1 := HSZ.out; have h2 := B6.out.size; first | omega | (simp at h2 ⊢; omega)))); have B7 := Lib.hid (B6.out.trans (hb.mono (by have h1 := HSZ.out; have h2 := B6.out.size; first | omega | (simp at h2 ⊢; omega)))); clear hn ho hb)
    | (at_builtin; refine wpList_append_E rfl _ _ rfl (w.heap.size + 1) _ (intsI 1 [3] ++ opI 4 (idI p.frm)) rfl O7.out A7 (opI 5 (idI p.to)) m7 c7 rfl J7N.out J7.out.src (by simp [intsI, opI, lieI, idI, headI]) (by have h1 := HSZ.out; have h2 := B7.out.size; first | omega | (simp at h2 ⊢; omega)) ?_; intro A8 m8 c8 w8 hn ho hb; have O8 := Lib.hid ho; have B8 := Lib.hid (B7.out.trans hb); clear hn ho hb))
  go_loopw [4, 5] (fun ov iv wr => ∃ (k m c : Nat) (A : Option Addr), k ≤ nh ∧ iv = .int .i64 k ∧ ov = .slice A m c ∧ OwnE wr (w.heap.size + 1) ov (((intsI 1 [3] ++ opI 4 (idI p.frm)) ++ opI 5 (idI p.to)) ++ hsI (p.heads.take k)) ∧ Below (w.heap.size + 1) (w.alloc (.cells #[.int .i64 p.kind, .int .i64 p.lie.node, .int .i64 p.lie.level, .int .i64 p.lie.pod, .int .i64 p.lie.mtu, .int .i64 p.lie.link, .int .i64 p.lie.nonce, .int .i64 p.lie.seen, .int .i64 p.lie.seenLink, .int .i64 p.lie.seenNonce, .int .i64 p.lie.hold, .bool p.lie.rep, .bool p.lie.noOffer, .int .i64 p.tie.head.id.dir, .int .i64 p.tie.head.id.orig, .int .i64 p.tie.head.id.kind, .int .i64 p.tie.head.id.nr, .int .i64 p.tie.head.seq, .int .i64 p.tie.head.life, .int .i64 p.tie.level, .bool p.tie.over, .slice ae ne ce, .slice ar nr cr, .int .i64 p.frm.dir, .int .i64 p.frm.orig, .int .i64 p.frm.kind, .int .i64 p.frm.nr, .int .i64 p.to.dir, .int .i64 p.to.orig, .int .i64 p.to.kind, .int .i64 p.to.nr, .slice ah nh ch] 34)) wr) (fun _ iv _ => nh - (intOf iv).toNat)
  case atStart => exact ⟨0, m8, c8, A8, Nat.zero_le _, rfl, rfl, by have h := O8.out; rw [List.take_zero]; unfold hsI; rw [List.flatMap_nil, List.append_nil]; exact h, B8.out⟩
  case round =>
    obtain ⟨k, m, c, A, hk, rfl, rfl, hown, hbel⟩ := hrel
    have OL := Lib.hid hown
    have BL := Lib.hid hbel
    have q31 := cell_at (RP.out _ hbel) 31 (show ([.int .i64 p.kind, .int .i64 p.lie.node, .int .i64 p.lie.level, .int .i64 p.lie.pod, .int .i64 p.lie.mtu, .int .i64 p.lie.link, .int .i64 p.lie.nonce, .int .i64 p.lie.seen, .int .i64 p.lie.seenLink, .int .i64 p.lie.seenNonce, .int .i64 p.lie.hold, .bool p.lie.rep, .bool p.lie.noOffer, .int .i64 p.tie.head.id.dir, .int .i64 p.tie.head.id.orig, .int .i64 p.tie.head.id.kind, .int .i64 p.tie.head.id.nr, .int .i64 p.tie.head.seq, .int .i64 p.tie.head.life, .int .i64 p.tie.level, .bool p.tie.over, .slice ae ne ce, .slice ar nr cr, .int .i64 p.frm.dir, .int .i64 p.frm.orig, .int .i64 p.frm.kind, .int .i64 p.frm.nr, .int .i64 p.to.dir, .int .i64 p.to.orig, .int .i64 p.to.kind, .int .i64 p.to.nr, .slice ah nh ch] : List Value)[31]? = some (.slice ah nh ch) from rfl)
    clear hown hbel
    by_cases hlt : k < nh
    · obtain ⟨b1, o1, hae, hb1, hca⟩ := HP.out.rh (by have := HNH.out; omega)
      obtain ⟨u, hu⟩ : ∃ u, p.heads[k]? = some u := ⟨_, List.getElem?_eq_getElem (by have := HNH.out; omega)⟩
      rw [hae] at q31
      have hbw := HB0.out.trans (BL.out.mono (show w.heap.size ≤ w.heap.size + 1 by omega))
      have GR := Lib.hid (show wr.rangeAt b1 (o1 + k * 6) [.int .i64 u.id.dir, .int .i64 u.id.orig, .int .i64 u.id.kind, .int .i64 u.id.nr, .int .i64 u.seq, .int .i64 u.life] from fun j v hv => (hbw.cell (p := ⟨b1, o1 + k * 6 + j, none⟩) hb1).trans (hca k u hu j v hv))
      have HS := Lib.hid (hsI_next hu)
      have k0 : (0 : Int) ≤ (k : Int) := Int.natCast_nonneg _
      have k1 : (k : Int) < (nh : Int) := by omega
      have kl : (p.heads.take k).length ≤ 64 := by rw [List.length_take]; omega
      clear hca hu hbw hae
      go_wp2_with (first
        | (refine wpList_load_mid rfl 27 (.tmp 57) rfl b1 (o1 + k * 6) rfl [.int .i64 u.id.dir, .int .i64 u.id.orig, .int .i64 u.id.kind, .int .i64 u.id.nr, .int .i64 u.seq, .int .i64 u.life] _ GR.out Try.underlying27 rfl (by kernel_rfl) ?_)
        | (go_at_call 21; refine (headItems_any u wr).mono ?_; rintro e w13 ⟨A13, m13, c13, rfl, hn, ho, hb⟩; have J13N := Lib.hid hn; have J13 := Lib.hid (ho.less (show w.heap.size + 1 ≤ _ from (by have h1 := HSZ.out; have h2 := BL.out.size; first | omega | (simp at h2 ⊢; omega)))); have B13 := Lib.hid (BL.out.trans (hb.mono (by have h1 := HSZ.out; have h2 := BL.out.size; first | omega | (simp at h2 ⊢; omega)))); have O13 := Lib.hid (OL.out.below hb); clear hn ho hb)
        | (go_at_call 17; refine (open_any 6 J13N.out (by rw [head_len]; omega) J13.out.src).mono ?_; rintro e w14 ⟨A14, m14, c14, rfl, hn, ho, hb⟩; have O14 := Lib.hid (O13.out.below hb); have J14N := Lib.hid hn; have J14 := Lib.hid (ho.less (show w.heap.size + 1 ≤ _ from (by have h1 := HSZ.out; have h2 := B13.out.size; first | omega | (simp at h2 ⊢; omega)))); have B14 := Lib.hid (B13.out.trans (hb.mono (by have h1 := HSZ.out; have h2 := B13.out.size; first | omega | (simp at h2 ⊢; omega)))); clear hn ho hb)
        | (at_builtin; refine wpList_append_E rfl _ _ rfl (w.heap.size + 1) _ (((intsI 1 [3] ++ opI 4 (idI p.frm)) ++ opI 5 (idI p.to)) ++ hsI (p.heads.take k)) rfl O14.out A14 (opI 6 (headI u)) m14 c14 rfl J14N.out J14.out.src (by rw [List.length_append, hsI_len]; simp [intsI, opI, headI, idI]; omega) (by have h1 := HSZ.out; have h2 := B14.out.size; first | omega | (simp at h2 ⊢; omega)) ?_; intro A15 m15 c15 w15 hn ho hb; rw [List.append_assoc, ← HS.out] at ho; have O15 := Lib.hid ho; have B15 := Lib.hid (B14.out.trans hb); clear hn ho hb))
      go_roundw
      case rel => exact ⟨k + 1, m15, c15, A15, by omega, by go_num, rfl, O15.out, B15.out⟩
      case measure => simp [intOf]; omega
    · obtain rfl : nh = k := by omega
      go_wp2
      go_ret
      have h := OL.out
      rw [List.take_of_length_le (by have := HNH.out; omega)] at h
      rw [show intsI 1 [3] = intsI 1 [p.kind] by rw [HKD.out]] at h
      rw [pack3 HKD.out] at h
      exact ⟨A, m, c, rfl, h.len, h.less (by omega), HB0.out.trans (BL.out.mono (by omega))⟩
end Go.Proofs.Ytjkibgnkkienbaa

/-
  THE DOCUMENT's Items of a packet.
-/
namespace Go.Proofs.Ytjkibgnkkienbaa
open Go.RowKit Go.Shelf
set_option linter.unusedVariables false
set_option linter.unusedSimpArgs false
set_option maxRecDepth 100000 in
set_option maxHeartbeats 16000000 in
theorem ritems_4 (p : PackT) (ae ar ah : Option Addr) (ce cr ch : Nat) (w : World) (hp : Pk w.heap.size w p ae ar ah ce cr ch) (hr : rightW p = true) (hk : p.kind = 4) : Calls Try.prog 10 #[.agg #[.int .i64 p.kind, .int .i64 p.lie.node, .int .i64 p.lie.level, .int .i64 p.lie.pod, .int .i64 p.lie.mtu, .int .i64 p.lie.link, .int .i64 p.lie.nonce, .int .i64 p.lie.seen, .int .i64 p.lie.seenLink, .int .i64 p.lie.seenNonce, .int .i64 p.lie.hold, .bool p.lie.rep, .bool p.lie.noOffer, .int .i64 p.tie.head.id.dir, .int .i64 p.tie.head.id.orig, .int .i64 p.tie.head.id.kind, .int .i64 p.tie.head.id.nr, .int .i64 p.tie.head.seq, .int .i64 p.tie.head.life, .int .i64 p.tie.level, .bool p.tie.over, .slice ae p.tie.edges.length ce, .slice ar p.tie.reaches.length cr, .int .i64 p.frm.dir, .int .i64 p.frm.orig, .int .i64 p.frm.kind, .int .i64 p.frm.nr, .int .i64 p.to.dir, .int .i64 p.to.orig, .int .i64 p.to.kind, .int .i64 p.to.nr, .slice ah p.heads.length ch]] w (GotE (packI p) w) := by
  obtain ⟨nh, hnh⟩ : ∃ n, p.heads.length = n := ⟨_, rfl⟩
  obtain ⟨ne, hne⟩ : ∃ n, p.tie.edges.length = n := ⟨_, rfl⟩
  obtain ⟨nr, hnr⟩ : ∃ n, p.tie.reaches.length = n := ⟨_, rfl⟩
  have hri := fun (W : World) (hW : Below w.heap.size w W) => rRight_any p ae ar ah ce cr ch W ((hp.below hW).mono hW.size)
  rw [hnh, hne, hnr] at hri ⊢
  have HNH := Lib.hid hnh
  have HNE := Lib.hid hne
  have HNR := Lib.hid hnr
  have HP := Lib.hid hp
  have HB0 := Lib.hid ((Below.refl w.heap.size w).alloc (Nat.le_refl _) (.cells #[.int .i64 p.kind, .int .i64 p.lie.node, .int .i64 p.lie.level, .int .i64 p.lie.pod, .int .i64 p.lie.mtu, .int .i64 p.lie.link, .int .i64 p.lie.nonce, .int .i64 p.lie.seen, .int .i64 p.lie.seenLink, .int .i64 p.lie.seenNonce, .int .i64 p.lie.hold, .bool p.lie.rep, .bool p.lie.noOffer, .int .i64 p.tie.head.id.dir, .int .i64 p.tie.head.id.orig, .int .i64 p.tie.head.id.kind, .int .i64 p.tie.head.id.nr, .int .i64 p.tie.head.seq, .int .i64 p.tie.head.life, .int .i64 p.tie.level, .bool p.tie.over, .slice ae ne ce, .slice ar nr cr, .int .i64 p.frm.dir, .int .i64 p.frm.orig, .int .i64 p.frm.kind, .int .i64 p.frm.nr, .int .i64 p.to.dir, .int .i64 p.to.orig, .int .i64 p.to.kind, .int .i64 p.to.nr, .slice ah nh ch] 34))
  have RP : RowKit.Hid (∀ W, Below (w.heap.size + 1) (w.alloc (.cells #[.int .i64 p.kind, .int .i64 p.lie.node, .int .i64 p.lie.level, .int .i64 p.lie.pod, .int .i64 p.lie.mtu, .int .i64 p.lie.link, .int .i64 p.lie.nonce, .int .i64 p.lie.seen, .int .i64 p.lie.seenLink, .int .i64 p.lie.seenNonce, .int .i64 p.lie.hold, .bool p.lie.rep, .bool p.lie.noOffer, .int .i64 p.tie.head.id.dir, .int .i64 p.tie.head.id.orig, .int .i64 p.tie.head.id.kind, .int .i64 p.tie.head.id.nr, .int .i64 p.tie.head.seq, .int .i64 p.tie.head.life, .int .i64 p.tie.level, .bool p.tie.over, .slice ae ne ce, .slice ar nr cr, .int .i64 p.frm.dir, .int .i64 p.frm.orig, .int .i64 p.frm.kind, .int .i64 p.frm.nr, .int .i64 p.to.dir, .int .i64 p.to.orig, .int .i64 p.to.kind, .int .i64 p.to.nr, .slice ah nh ch] 34)) W → W.rangeAt w.heap.size 0 [.int .i64 p.kind, .int .i64 p.lie.node, .int .i64 p.lie.level, .int .i64 p.lie.pod, .int .i64 p.lie.mtu, .int .i64 p.lie.link, .int .i64 p.lie.nonce, .int .i64 p.lie.seen, .int .i64 p.lie.seenLink, .int .i64 p.lie.seenNonce, .int .i64 p.lie.hold, .bool p.lie.rep, .bool p.lie.noOffer, .int .i64 p.tie.head.id.dir, .int .i64 p.tie.head.id.orig, .int .i64 p.tie.head.id.kind, .int .i64 p.tie.head.id.nr, .int .i64 p.tie.head.seq, .int .i64 p.tie.head.life, .int .i64 p.tie.level, .bool p.tie.over, .slice ae ne ce, .slice ar nr cr, .int .i64 p.frm.dir, .int .i64 p.frm.orig, .int .i64 p.frm.kind, .int .i64 p.frm.nr, .int .i64 p.to.dir, .int .i64 p.to.orig, .int .i64 p.to.kind, .int .i64 p.to.nr, .slice ah nh ch]) := fun W hb => range_box (World.alloc_heap_new w _) hb (Nat.lt_succ_self _)
  have HSZ : RowKit.Hid ((w.alloc (.cells #[.int .i64 p.kind, .int .i64 p.lie.node, .int .i64 p.lie.level, .int .i64 p.lie.pod, .int .i64 p.lie.mtu, .int .i64 p.lie.link, .int .i64 p.lie.nonce, .int .i64 p.lie.seen, .int .i64 p.lie.seenLink, .int .i64 p.lie.seenNonce, .int .i64 p.lie.hold, .bool p.lie.rep, .bool p.lie.noOffer, .int .i64 p.tie.head.id.dir, .int .i64 p.tie.head.id.orig, .int .i64 p.tie.head.id.kind, .int .i64 p.tie.head.id.nr, .int .i64 p.tie.head.seq, .int .i64 p.tie.head.life, .int .i64 p.tie.level, .bool p.tie.over, .slice ae ne ce, .slice ar nr cr, .int .i64 p.frm.dir, .int .i64 p.frm.orig, .int .i64 p.frm.kind, .int .i64 p.frm.nr, .int .i64 p.to.dir, .int .i64 p.to.orig, .int .i64 p.to.kind, .int .i64 p.to.nr, .slice ah nh ch] 34)).heap.size = w.heap.size + 1) := by show _ = _; simp
  have HRI := Lib.hid (fun (W : World) (hW : Below (w.heap.size + 1) (w.alloc (.cells #[.int .i64 p.kind, .int .i64 p.lie.node, .int .i64 p.lie.level, .int .i64 p.lie.pod, .int .i64 p.lie.mtu, .int .i64 p.lie.link, .int .i64 p.lie.nonce, .int .i64 p.lie.seen, .int .i64 p.lie.seenLink, .int .i64 p.lie.seenNonce, .int .i64 p.lie.hold, .bool p.lie.rep, .bool p.lie.noOffer, .int .i64 p.tie.head.id.dir, .int .i64 p.tie.head.id.orig, .int .i64 p.tie.head.id.kind, .int .i64 p.tie.head.id.nr, .int .i64 p.tie.head.seq, .int .i64 p.tie.head.life, .int .i64 p.tie.level, .bool p.tie.over, .slice ae ne ce, .slice ar nr cr, .int .i64 p.frm.dir, .int .i64 p.frm.orig, .int .i64 p.frm.kind, .int .i64 p.frm.nr, .int .i64 p.to.dir, .int .i64 p.to.orig, .int .i64 p.to.kind, .int .i64 p.to.nr, .slice ah nh ch] 34)) W) => hri W (HB0.out.trans (hW.mono (by omega))))
  obtain ⟨kd, hkd⟩ : ∃ kd, p.kind = kd := ⟨_, rfl⟩
  have HKD := Lib.hid hkd
  have HRT := Lib.hid hr
  have T1 : True := trivial
  have T2 : True := trivial
  obtain rfl : kd = 4 := hkd.symm.trans hk
  have hh := right_heads hr
  rw [hnh] at hh
  clear hp hnh hne hnr hri hkd hr hk
  go_enter Try.func10, Try.ntmps10
  go_wp2_with (first
    | (refine wpList_load_mid rfl 34 (.tmp 1) rfl _ _ rfl _ _ (RP.out _ (Below.refl _ _)) Try.underlying34 rfl (by kernel_rfl) ?_)
    | (go_at_call 12; refine (HRI.out _ (Below.refl _ _)).mono ?_; rintro e w1 ⟨rfl, hb⟩; rw [HRT.out]; have B1 := Lib.hid (hb.mono (show w.heap.size + 1 ≤ _ by have h1 := HSZ.out; omega)); have q0 := cell_at (RP.out _ B1.out) 0 (show ([.int .i64 p.kind, .int .i64 p.lie.node, .int .i64 p.lie.level, .int .i64 p.lie.pod, .int .i64 p.lie.mtu, .int .i64 p.lie.link, .int .i64 p.lie.nonce, .int .i64 p.lie.seen, .int .i64 p.lie.seenLink, .int .i64 p.lie.seenNonce, .int .i64 p.lie.hold, .bool p.lie.rep, .bool p.lie.noOffer, .int .i64 p.tie.head.id.dir, .int .i64 p.tie.head.id.orig, .int .i64 p.tie.head.id.kind, .int .i64 p.tie.head.id.nr, .int .i64 p.tie.head.seq, .int .i64 p.tie.head.life, .int .i64 p.tie.level, .bool p.tie.over, .slice ae ne ce, .slice ar nr cr, .int .i64 p.frm.dir, .int .i64 p.frm.orig, .int .i64 p.frm.kind, .int .i64 p.frm.nr, .int .i64 p.to.dir, .int .i64 p.to.orig, .int .i64 p.to.kind, .int .i64 p.to.nr, .slice ah nh ch] : List Value)[0]? = some (.int .i64 4) from by rw [HKD.out]; rfl); have HI := Lib.hid (ints_any 1 (by decide) (by decide) (n := 1) (cap := 1) (zs := [4]) rfl (by simp) (rd_built w1 #[.int .i64 4] [4] rfl)); have BA := Lib.hid (B1.out.alloc (by have h1 := HSZ.out; have h2 := B1.out.size; omega) (.cells #[.int .i64 4] 3)); clear hb)
    | (go_at_call 16; refine HI.out.mono ?_; rintro e w2 ⟨A2, m2, c2, rfl, hn, ho, hb⟩; have O2 := Lib.hid (ho.less (show w.heap.size + 1 ≤ _ from (by have h1 := HSZ.out; have h2 := BA.out.size; first | omega | (simp at h2 ⊢; omega)))); have B2 := Lib.hid (BA.out.trans (hb.mono (by have h1 := HSZ.out; have h2 := BA.out.size; first | omega | (simp at h2 ⊢; omega)))); have q1 := cell_at (RP.out _ B2.out) 0 (show ([.int .i64 p.kind, .int .i64 p.lie.node, .int .i64 p.lie.level, .int .i64 p.lie.pod, .int .i64 p.lie.mtu, .int .i64 p.lie.link, .int .i64 p.lie.nonce, .int .i64 p.lie.seen, .int .i64 p.lie.seenLink, .int .i64 p.lie.seenNonce, .int .i64 p.lie.hold, .bool p.lie.rep, .bool p.lie.noOffer, .int .i64 p.tie.head.id.dir, .int .i64 p.tie.head.id.orig, .int .i64 p.tie.head.id.kind, .int .i64 p.tie.head.id.nr, .int .i64 p.tie.head.seq, .int .i64 p.tie.head.life, .int .i64 p.tie.level, .bool p.tie.over, .slice ae ne ce, .slice ar nr cr, .int .i64 p.frm.dir, .int .i64 p.frm.orig, .int .i64 p.frm.kind, .int .i64 p.frm.nr, .int .i64 p.to.dir, .int .i64 p.to.orig, .int .i64 p.to.kind, .int .i64 p.to.nr, .slice ah nh ch] : List Value)[0]? = some (.int .i64 4) from by rw [HKD.out]; rfl); clear hn ho hb HI))
  go_loopw [4, 5] (fun ov iv wr => ∃ (k m c : Nat) (A : Option Addr), k ≤ nh ∧ iv = .int .i64 k ∧ ov = .slice A m c ∧ OwnE wr (w.heap.size + 1) ov (intsI 1 [4] ++ hsI (p.heads.take k)) ∧ Below (w.heap.size + 1) (w.alloc (.cells #[.int .i64 p.kind, .int .i64 p.lie.node, .int .i64 p.lie.level, .int .i64 p.lie.pod, .int .i64 p.lie.mtu, .int .i64 p.lie.link, .int .i64 p.lie.nonce, .int .i64 p.lie.seen, .int .i64 p.lie.seenLink, .int .i64 p.lie.seenNonce, .int .i64 p.lie.hold, .bool p.lie.rep, .bool p.lie.noOffer, .int .i64 p.tie.head.id.dir, .int .i64 p.tie.head.id.orig, .int .i64 p.tie.head.id.kind, .int .i64 p.tie.head.id.nr, .int .i64 p.tie.head.seq, .int .i64 p.tie.head.life, .int .i64 p.tie.level, .bool p.tie.over, .slice ae ne ce, .slice ar nr cr, .int .i64 p.frm.dir, .int .i64 p.frm.orig, .int .i64 p.frm.kind, .int .i64 p.frm.nr, .int .i64 p.to.dir, .int .i64 p.to.orig, .int .i64 p.to.kind, .int .i64 p.to.nr, .slice ah nh ch] 34)) wr) (fun _ iv _ => nh - (intOf iv).toNat)
  case atStart => exact ⟨0, m2, c2, A2, Nat.zero_le _, rfl, rfl, by have h := O2.out; rw [List.take_zero]; unfold hsI; rw [List.flatMap_nil, List.append_nil]; exact h, B2.out⟩
  case round =>
    obtain ⟨k, m, c, A, hk, rfl, rfl, hown, hbel⟩ := hrel
    have OL := Lib.hid hown
    have BL := Lib.hid hbel
    have q31 := cell_at (RP.out _ hbel) 31 (show ([.int .i64 p.kind, .int .i64 p.lie.node, .int .i64 p.lie.level, .int .i64 p.lie.pod, .int .i64 p.lie.mtu, .int .i64 p.lie.link, .int .i64 p.lie.nonce, .int .i64 p.lie.seen, .int .i64 p.lie.seenLink, .int .i64 p.lie.seenNonce, .int .i64 p.lie.hold, .bool p.lie.rep, .bool p.lie.noOffer, .int .i64 p.tie.head.id.dir, .int .i64 p.tie.head.id.orig, .int .i64 p.tie.head.id.kind, .int .i64 p.tie.head.id.nr, .int .i64 p.tie.head.seq, .int .i64 p.tie.head.life, .int .i64 p.tie.level, .bool p.tie.over, .slice ae ne ce, .slice ar nr cr, .int .i64 p.frm.dir, .int .i64 p.frm.orig, .int .i64 p.frm.kind, .int .i64 p.frm.nr, .int .i64 p.to.dir, .int .i64 p.to.orig, .int .i64 p.to.kind, .int .i64 p.to.nr, .slice ah nh ch] : List Value)[31]? = some (.slice ah nh ch) from rfl)
    clear hown hbel
    by_cases hlt : k < nh
    · obtain ⟨b1, o1, hae, hb1, hca⟩ := HP.out.rh (by have := HNH.out; omega)
      obtain ⟨u, hu⟩ : ∃ u, p.heads[k]? = some u := ⟨_, List.getElem?_eq_getElem (by have := HNH.out; omega)⟩
      rw [hae] at q31
      have hbw := HB0.out.trans (BL.out.mono (show w.heap.size ≤ w.heap.size + 1 by omega))
      have GR := Lib.hid (show wr.rangeAt b1 (o1 + k * 6) [.int .i64 u.id.dir, .int .i64 u.id.orig, .int .i64 u.id.kind, .int .i64 u.id.nr, .int .i64 u.seq, .int .i64 u.life] from fun j v hv => (hbw.cell (p := ⟨b1, o1 + k * 6 + j, none⟩) hb1).trans (hca k u hu j v hv))
      have HS := Lib.hid (hsI_next hu)
      have k0 : (0 : Int) ≤ (k : Int) := Int.natCast_nonneg _
      have k1 : (k : Int) < (nh : Int) := by omega
      have kl : (p.heads.take k).length ≤ 64 := by rw [List.length_take]; omega
      clear hca hu hbw hae
      go_wp2_with (first
        | (refine wpList_load_mid rfl 27 (.tmp 57) rfl b1 (o1 + k * 6) rfl [.int .i64 u.id.dir, .int .i64 u.id.orig, .int .i64 u.id.kind, .int .i64 u.id.nr, .int .i64 u.seq, .int .i64 u.life] _ GR.out Try.underlying27 rfl (by kernel_rfl) ?_)
        | (go_at_call 21; refine (headItems_any u wr).mono ?_; rintro e w13 ⟨A13, m13, c13, rfl, hn, ho, hb⟩; have J13N := Lib.hid hn; have J13 := Lib.hid (ho.less (show w.heap.size + 1 ≤ _ from (by have h1 := HSZ.out; have h2 := BL.out.size; first | omega | (simp at h2 ⊢; omega)))); have B13 := Lib.hid (BL.out.trans (hb.mono (by have h1 := HSZ.out; have h2 := BL.out.size; first | omega | (simp at h2 ⊢; omega)))); have O13 := Lib.hid (OL.out.below hb); clear hn ho hb)
        | (go_at_call 17; refine (open_any 6 J13N.out (by rw [head_len]; omega) J13.out.src).mono ?_; rintro e w14 ⟨A14, m14, c14, rfl, hn, ho, hb⟩; have O14 := Lib.hid (O13.out.below hb); have J14N := Lib.hid hn; have J14 := Lib.hid (ho.less (show w.heap.size + 1 ≤ _ from (by have h1 := HSZ.out; have h2 := B13.out.size; first | omega | (simp at h2 ⊢; omega)))); have B14 := Lib.hid (B13.out.trans (hb.mono (by have h1 := HSZ.out; have h2 := B13.out.size; first | omega | (simp at h2 ⊢; omega)))); clear hn ho hb)
        | (at_builtin; refine wpList_append_E rfl _ _ rfl (w.heap.size + 1) _ (intsI 1 [4] ++ hsI (p.heads.take k)) rfl O14.out A14 (opI 6 (headI u)) m14 c14 rfl J14N.out J14.out.src (by rw [List.length_append, hsI_len]; simp [intsI, opI, headI, idI]; omega) (by have h1 := HSZ.out; have h2 := B14.out.size; first | omega | (simp at h2 ⊢; omega)) ?_; intro A15 m15 c15 w15 hn ho hb; rw [List.append_assoc, ← HS.out] at ho; have O15 := Lib.hid ho; have B15 := Lib.hid (B14.out.trans hb); clear hn ho hb))
      go_roundw
      case rel => exact ⟨k + 1, m15, c15, A15, by omega, by go_num, rfl, O15.out, B15.out⟩
      case measure => simp [intOf]; omega
    · obtain rfl : nh = k := by omega
      go_wp2
      go_ret
      have h := OL.out
      rw [List.take_of_length_le (by have := HNH.out; omega)] at h
      rw [show intsI 1 [4] = intsI 1 [p.kind] by rw [HKD.out]] at h
      rw [pack4 HKD.out] at h
      exact ⟨A, m, c, rfl, h.len, h.less (by omega), HB0.out.trans (BL.out.mono (by omega))⟩
end Go.Proofs.Ytjkibgnkkienbaa

/-
  THE DOCUMENT's Items of a packet.
-/
namespace Go.Proofs.Ytjkibgnkkienbaa
open Go.RowKit Go.Shelf
set_option linter.unusedVariables false
set_option linter.unusedSimpArgs false
theorem ritems_any (p : PackT) (ae ar ah : Option Addr) (ce cr ch : Nat) (w : World) (hp : Pk w.heap.size w p ae ar ah ce cr ch) : Calls Try.prog 10 #[.agg #[.int .i64 p.kind, .int .i64 p.lie.node, .int .i64 p.lie.level, .int .i64 p.lie.pod, .int .i64 p.lie.mtu, .int .i64 p.lie.link, .int .i64 p.lie.nonce, .int .i64 p.lie.seen, .int .i64 p.lie.seenLink, .int .i64 p.lie.seenNonce, .int .i64 p.lie.hold, .bool p.lie.rep, .bool p.lie.noOffer, .int .i64 p.tie.head.id.dir, .int .i64 p.tie.head.id.orig, .int .i64 p.tie.head.id.kind, .int .i64 p.tie.head.id.nr, .int .i64 p.tie.head.seq, .int .i64 p.tie.head.life, .int .i64 p.tie.level, .bool p.tie.over, .slice ae p.tie.edges.length ce, .slice ar p.tie.reaches.length cr, .int .i64 p.frm.dir, .int .i64 p.frm.orig, .int .i64 p.frm.kind, .int .i64 p.frm.nr, .int .i64 p.to.dir, .int .i64 p.to.orig, .int .i64 p.to.kind, .int .i64 p.to.nr, .slice ah p.heads.length ch]] w (GotE (itemsW p) w) := by
  unfold itemsW
  by_cases hr : rightW p = true
  · rw [if_pos hr]
    rcases right_kinds hr with hk | hk | hk | hk
    · exact ritems_1 p ae ar ah ce cr ch w hp hr hk
    · exact ritems_2 p ae ar ah ce cr ch w hp hr hk
    · exact ritems_3 p ae ar ah ce cr ch w hp hr hk
    · exact ritems_4 p ae ar ah ce cr ch w hp hr hk
  · rw [if_neg hr]
    exact ritems_no p ae ar ah ce cr ch w hp (by simpa using hr)
end Go.Proofs.Ytjkibgnkkienbaa

/-
  WireEncodes: the document's Encode.
-/
namespace Go.Proofs.Ytjkibgnkkienbaa
open Go.RowKit Go.Shelf
set_option linter.unusedVariables false
set_option linter.unusedSimpArgs false
/-- Bytes, and a number. -/
def GotZ (zs : List Int) (k : Int) (w : World) (e : Ending) (w' : World) : Prop := ∃ A c, e = .returned (.tuple #[.slice A zs.length c, .int .i64 k]) ∧ Rd .u8 w'.heap.size w' A zs ∧ Below w.heap.size w w'
theorem GotB.z {zs : List Int} {w w' : World} {e : Ending} (h : GotB zs w e w') : GotZ zs 0 w e w' := by
  obtain ⟨A, c, he, _, _, hr, hb⟩ := h
  exact ⟨A, c, he, hr, hb⟩
theorem got_none {k : Int} {w w' : World} (hb : Below w.heap.size w w') : GotZ [] k w (.returned (.tuple #[.slice none 0 0, .int .i64 k])) w' := ⟨none, 0, rfl, fun h => by simp at h, hb⟩
def bytesW (p : PackT) : List Int := if rightW p = true ∧ ¬ 4096 < (encL (packI p)).length then encL (packI p) else []
def errW (p : PackT) : Int := if rightW p = false then 1 else if 4096 < (encL (packI p)).length then 3 else 0
theorem pack_len {p : PackT} (hr : rightW p = true) : (packI p).length ≤ 1000 := by
  have hh := right_heads hr
  rcases right_kinds hr with h | h | h | h
  · rw [← pack1 h]; simp [intsI, opI, lieI]
  · obtain ⟨l1, l2⟩ := right_ties hr h
    rw [← pack2 h, List.length_append]
    have : (tieI p.tie).length ≤ 900 := by rw [← tie_parts, List.length_append, List.length_append, tieE_len, tieRs_len]; simp [opI, headI, idI, intsI]; omega
    simp [intsI, opI]; omega
  · rw [← pack3 h, List.length_append, hsI_len]; simp [intsI, opI, idI]; omega
  · rw [← pack4 h, List.length_append, hsI_len]; simp [intsI]; omega
theorem pack_ok {p : PackT} (hr : rightW p = true) : ∀ x ∈ packI p, x.ok := by
  rw [rightW, Bool.and_eq_true] at hr
  exact fun x hx => ((good_pack hr.1).2 x hx).2
theorem renc_call {p : PackT} (hr : rightW p = true) {A : Option Addr} {n c : Nat} {W : World} (hn : n = (packI p).length) (hrd : RdI W.heap.size W A (packI p)) : Calls Try.prog 15 #[.slice A n c] W (GotZ (bytesW p) (errW p) W) := by
  subst hn
  refine (rencode_any A c (packI p) (pack_len hr) (fun x hx => by rw [pack_bs hr x hx]; simp) (pack_ok hr) W hrd).mono fun e w' h => ?_
  by_cases hx : 4096 < (encL (packI p)).length
  · have e1 : bytesW p = [] := by unfold bytesW; rw [if_neg (fun q => q.2 hx)]
    have e2 : errW p = 3 := by unfold errW; rw [if_neg (show ¬ rightW p = false by simp [hr]), if_pos hx]
    obtain ⟨he, hb⟩ := h.full (pack_rightB hr) hx
    subst he
    rw [e1, e2]
    exact got_none hb
  · have e1 : bytesW p = encL (packI p) := by unfold bytesW; rw [if_pos ⟨hr, hx⟩]
    have e2 : errW p = 0 := by unfold errW; rw [if_neg (show ¬ rightW p = false by simp [hr]), if_neg hx]
    rw [e1, e2]
    exact (h.ok (pack_rightB hr) hx rfl).z
theorem wenc_z (p : PackT) (ae ar ah : Option Addr) (ce cr ch : Nat) (w : World) (hp : Pk w.heap.size w p ae ar ah ce cr ch) : Calls Try.prog 6 #[.agg #[.int .i64 p.kind, .int .i64 p.lie.node, .int .i64 p.lie.level, .int .i64 p.lie.pod, .int .i64 p.lie.mtu, .int .i64 p.lie.link, .int .i64 p.lie.nonce, .int .i64 p.lie.seen, .int .i64 p.lie.seenLink, .int .i64 p.lie.seenNonce, .int .i64 p.lie.hold, .bool p.lie.rep, .bool p.lie.noOffer, .int .i64 p.tie.head.id.dir, .int .i64 p.tie.head.id.orig, .int .i64 p.tie.head.id.kind, .int .i64 p.tie.head.id.nr, .int .i64 p.tie.head.seq, .int .i64 p.tie.head.life, .int .i64 p.tie.level, .bool p.tie.over, .slice ae p.tie.edges.length ce, .slice ar p.tie.reaches.length cr, .int .i64 p.frm.dir, .int .i64 p.frm.orig, .int .i64 p.frm.kind, .int .i64 p.frm.nr, .int .i64 p.to.dir, .int .i64 p.to.orig, .int .i64 p.to.kind, .int .i64 p.to.nr, .slice ah p.heads.length ch]] w (GotZ (bytesW p) (errW p) w) := by
  unfold bytesW errW
  by_cases hr : rightW p = true
  · rw [if_neg (show ¬ rightW p = false by simp [hr])]
    by_cases hx : 4096 < (encL (packI p)).length
    · rw [if_pos hx, if_neg (fun q => q.2 hx)]
      refine (wenc_full p ae ar ah ce cr ch w hp hr hx).mono fun e w' h => ?_
      obtain ⟨rfl, hb⟩ := h
      exact got_none hb
    · rw [if_neg hx, if_pos ⟨hr, hx⟩]
      exact (wenc_ok p ae ar ah ce cr ch w hp hr hx _ rfl).mono fun e w' h => h.z
  · rw [if_pos (show rightW p = false by simpa using hr), if_neg (fun q => hr q.1)]
    refine (wenc_arg p ae ar ah ce cr ch w hp (by simpa using hr)).mono fun e w' h => ?_
    obtain ⟨rfl, hb⟩ := h
    exact got_none hb
set_option maxRecDepth 100000 in
set_option maxHeartbeats 8000000 in
theorem renc_no (p : PackT) (ae ar ah : Option Addr) (ce cr ch : Nat) (w : World) (hp : Pk w.heap.size w p ae ar ah ce cr ch) (hr : rightW p = false) : Calls Try.prog 7 #[.agg #[.int .i64 p.kind, .int .i64 p.lie.node, .int .i64 p.lie.level, .int .i64 p.lie.pod, .int .i64 p.lie.mtu, .int .i64 p.lie.link, .int .i64 p.lie.nonce, .int .i64 p.lie.seen, .int .i64 p.lie.seenLink, .int .i64 p.lie.seenNonce, .int .i64 p.lie.hold, .bool p.lie.rep, .bool p.lie.noOffer, .int .i64 p.tie.head.id.dir, .int .i64 p.tie.head.id.orig, .int .i64 p.tie.head.id.kind, .int .i64 p.tie.head.id.nr, .int .i64 p.tie.head.seq, .int .i64 p.tie.head.life, .int .i64 p.tie.level, .bool p.tie.over, .slice ae p.tie.edges.length ce, .slice ar p.tie.reaches.length cr, .int .i64 p.frm.dir, .int .i64 p.frm.orig, .int .i64 p.frm.kind, .int .i64 p.frm.nr, .int .i64 p.to.dir, .int .i64 p.to.orig, .int .i64 p.to.kind, .int .i64 p.to.nr, .slice ah p.heads.length ch]] w (GotZ (bytesW p) (errW p) w) := by
  have hz : bytesW p = [] := by unfold bytesW; rw [if_neg (fun q => by rw [hr] at q; cases q.1)]
  have hk : errW p = 1 := by unfold errW; rw [if_pos hr]
  rw [hz, hk]
  have HP := Lib.hid hp
  have HB0 := Lib.hid ((Below.refl w.heap.size w).alloc (Nat.le_refl _) (.cells #[.int .i64 p.kind, .int .i64 p.lie.node, .int .i64 p.lie.level, .int .i64 p.lie.pod, .int .i64 p.lie.mtu, .int .i64 p.lie.link, .int .i64 p.lie.nonce, .int .i64 p.lie.seen, .int .i64 p.lie.seenLink, .int .i64 p.lie.seenNonce, .int .i64 p.lie.hold, .bool p.lie.rep, .bool p.lie.noOffer, .int .i64 p.tie.head.id.dir, .int .i64 p.tie.head.id.orig, .int .i64 p.tie.head.id.kind, .int .i64 p.tie.head.id.nr, .int .i64 p.tie.head.seq, .int .i64 p.tie.head.life, .int .i64 p.tie.level, .bool p.tie.over, .slice ae p.tie.edges.length ce, .slice ar p.tie.reaches.length cr, .int .i64 p.frm.dir, .int .i64 p.frm.orig, .int .i64 p.frm.kind, .int .i64 p.frm.nr, .int .i64 p.to.dir, .int .i64 p.to.orig, .int .i64 p.to.kind, .int .i64 p.to.nr, .slice ah p.heads.length ch] 34))
  have RP : RowKit.Hid (∀ W, Below (w.heap.size + 1) (w.alloc (.cells #[.int .i64 p.kind, .int .i64 p.lie.node, .int .i64 p.lie.level, .int .i64 p.lie.pod, .int .i64 p.lie.mtu, .int .i64 p.lie.link, .int .i64 p.lie.nonce, .int .i64 p.lie.seen, .int .i64 p.lie.seenLink, .int .i64 p.lie.seenNonce, .int .i64 p.lie.hold, .bool p.lie.rep, .bool p.lie.noOffer, .int .i64 p.tie.head.id.dir, .int .i64 p.tie.head.id.orig, .int .i64 p.tie.head.id.kind, .int .i64 p.tie.head.id.nr, .int .i64 p.tie.head.seq, .int .i64 p.tie.head.life, .int .i64 p.tie.level, .bool p.tie.over, .slice ae p.tie.edges.length ce, .slice ar p.tie.reaches.length cr, .int .i64 p.frm.dir, .int .i64 p.frm.orig, .int .i64 p.frm.kind, .int .i64 p.frm.nr, .int .i64 p.to.dir, .int .i64 p.to.orig, .int .i64 p.to.kind, .int .i64 p.to.nr, .slice ah p.heads.length ch] 34)) W → W.rangeAt w.heap.size 0 [.int .i64 p.kind, .int .i64 p.lie.node, .int .i64 p.lie.level, .int .i64 p.lie.pod, .int .i64 p.lie.mtu, .int .i64 p.lie.link, .int .i64 p.lie.nonce, .int .i64 p.lie.seen, .int .i64 p.lie.seenLink, .int .i64 p.lie.seenNonce, .int .i64 p.lie.hold, .bool p.lie.rep, .bool p.lie.noOffer, .int .i64 p.tie.head.id.dir, .int .i64 p.tie.head.id.orig, .int .i64 p.tie.head.id.kind, .int .i64 p.tie.head.id.nr, .int .i64 p.tie.head.seq, .int .i64 p.tie.head.life, .int .i64 p.tie.level, .bool p.tie.over, .slice ae p.tie.edges.length ce, .slice ar p.tie.reaches.length cr, .int .i64 p.frm.dir, .int .i64 p.frm.orig, .int .i64 p.frm.kind, .int .i64 p.frm.nr, .int .i64 p.to.dir, .int .i64 p.to.orig, .int .i64 p.to.kind, .int .i64 p.to.nr, .slice ah p.heads.length ch]) := fun W hb => range_box (World.alloc_heap_new w _) hb (Nat.lt_succ_self _)
  have HSZ : RowKit.Hid ((w.alloc (.cells #[.int .i64 p.kind, .int .i64 p.lie.node, .int .i64 p.lie.level, .int .i64 p.lie.pod, .int .i64 p.lie.mtu, .int .i64 p.lie.link, .int .i64 p.lie.nonce, .int .i64 p.lie.seen, .int .i64 p.lie.seenLink, .int .i64 p.lie.seenNonce, .int .i64 p.lie.hold, .bool p.lie.rep, .bool p.lie.noOffer, .int .i64 p.tie.head.id.dir, .int .i64 p.tie.head.id.orig, .int .i64 p.tie.head.id.kind, .int .i64 p.tie.head.id.nr, .int .i64 p.tie.head.seq, .int .i64 p.tie.head.life, .int .i64 p.tie.level, .bool p.tie.over, .slice ae p.tie.edges.length ce, .slice ar p.tie.reaches.length cr, .int .i64 p.frm.dir, .int .i64 p.frm.orig, .int .i64 p.frm.kind, .int .i64 p.frm.nr, .int .i64 p.to.dir, .int .i64 p.to.orig, .int .i64 p.to.kind, .int .i64 p.to.nr, .slice ah p.heads.length ch] 34)).heap.size = w.heap.size + 1) := by show _ = _; simp
  have PW : RowKit.Hid (∀ W, Below (w.heap.size + 1) (w.alloc (.cells #[.int .i64 p.kind, .int .i64 p.lie.node, .int .i64 p.lie.level, .int .i64 p.lie.pod, .int .i64 p.lie.mtu, .int .i64 p.lie.link, .int .i64 p.lie.nonce, .int .i64 p.lie.seen, .int .i64 p.lie.seenLink, .int .i64 p.lie.seenNonce, .int .i64 p.lie.hold, .bool p.lie.rep, .bool p.lie.noOffer, .int .i64 p.tie.head.id.dir, .int .i64 p.tie.head.id.orig, .int .i64 p.tie.head.id.kind, .int .i64 p.tie.head.id.nr, .int .i64 p.tie.head.seq, .int .i64 p.tie.head.life, .int .i64 p.tie.level, .bool p.tie.over, .slice ae p.tie.edges.length ce, .slice ar p.tie.reaches.length cr, .int .i64 p.frm.dir, .int .i64 p.frm.orig, .int .i64 p.frm.kind, .int .i64 p.frm.nr, .int .i64 p.to.dir, .int .i64 p.to.orig, .int .i64 p.to.kind, .int .i64 p.to.nr, .slice ah p.heads.length ch] 34)) W → Pk W.heap.size W p ae ar ah ce cr ch) := fun W hW => (hp.below (HB0.out.trans (hW.mono (by omega)))).mono (HB0.out.trans (hW.mono (by omega))).size
  clear hp
  have HRI := Lib.hid (fun (W : World) (hW : Below (w.heap.size + 1) (w.alloc (.cells #[.int .i64 p.kind, .int .i64 p.lie.node, .int .i64 p.lie.level, .int .i64 p.lie.pod, .int .i64 p.lie.mtu, .int .i64 p.lie.link, .int .i64 p.lie.nonce, .int .i64 p.lie.seen, .int .i64 p.lie.seenLink, .int .i64 p.lie.seenNonce, .int .i64 p.lie.hold, .bool p.lie.rep, .bool p.lie.noOffer, .int .i64 p.tie.head.id.dir, .int .i64 p.tie.head.id.orig, .int .i64 p.tie.head.id.kind, .int .i64 p.tie.head.id.nr, .int .i64 p.tie.head.seq, .int .i64 p.tie.head.life, .int .i64 p.tie.level, .bool p.tie.over, .slice ae p.tie.edges.length ce, .slice ar p.tie.reaches.length cr, .int .i64 p.frm.dir, .int .i64 p.frm.orig, .int .i64 p.frm.kind, .int .i64 p.frm.nr, .int .i64 p.to.dir, .int .i64 p.to.orig, .int .i64 p.to.kind, .int .i64 p.to.nr, .slice ah p.heads.length ch] 34)) W) => rRight_any p ae ar ah ce cr ch W (PW.out W hW))
  have HRT := Lib.hid hr
  clear hr hz hk
  go_enter Try.func7, Try.ntmps7
  go_wp2_with (first
    | (refine wpList_load_mid rfl 34 (.tmp 1) rfl _ _ rfl _ _ (RP.out _ (Below.refl _ _)) Try.underlying34 rfl (by kernel_rfl) ?_)
    | (go_at_call 12; refine (HRI.out _ (Below.refl _ _)).mono ?_; rintro e w1 ⟨rfl, hb⟩; rw [HRT.out]; have B1 := Lib.hid (hb.mono (show w.heap.size + 1 ≤ _ by have h1 := HSZ.out; omega)); clear hb))
  go_ret2
  exact got_none (HB0.out.trans (B1.out.mono (by omega)))
set_option maxRecDepth 100000 in
set_option maxHeartbeats 8000000 in
theorem renc_yes (p : PackT) (ae ar ah : Option Addr) (ce cr ch : Nat) (w : World) (hp : Pk w.heap.size w p ae ar ah ce cr ch) (hr : rightW p = true) : Calls Try.prog 7 #[.agg #[.int .i64 p.kind, .int .i64 p.lie.node, .int .i64 p.lie.level, .int .i64 p.lie.pod, .int .i64 p.lie.mtu, .int .i64 p.lie.link, .int .i64 p.lie.nonce, .int .i64 p.lie.seen, .int .i64 p.lie.seenLink, .int .i64 p.lie.seenNonce, .int .i64 p.lie.hold, .bool p.lie.rep, .bool p.lie.noOffer, .int .i64 p.tie.head.id.dir, .int .i64 p.tie.head.id.orig, .int .i64 p.tie.head.id.kind, .int .i64 p.tie.head.id.nr, .int .i64 p.tie.head.seq, .int .i64 p.tie.head.life, .int .i64 p.tie.level, .bool p.tie.over, .slice ae p.tie.edges.length ce, .slice ar p.tie.reaches.length cr, .int .i64 p.frm.dir, .int .i64 p.frm.orig, .int .i64 p.frm.kind, .int .i64 p.frm.nr, .int .i64 p.to.dir, .int .i64 p.to.orig, .int .i64 p.to.kind, .int .i64 p.to.nr, .slice ah p.heads.length ch]] w (GotZ (bytesW p) (errW p) w) := by
  have HP := Lib.hid hp
  have HB0 := Lib.hid ((Below.refl w.heap.size w).alloc (Nat.le_refl _) (.cells #[.int .i64 p.kind, .int .i64 p.lie.node, .int .i64 p.lie.level, .int .i64 p.lie.pod, .int .i64 p.lie.mtu, .int .i64 p.lie.link, .int .i64 p.lie.nonce, .int .i64 p.lie.seen, .int .i64 p.lie.seenLink, .int .i64 p.lie.seenNonce, .int .i64 p.lie.hold, .bool p.lie.rep, .bool p.lie.noOffer, .int .i64 p.tie.head.id.dir, .int .i64 p.tie.head.id.orig, .int .i64 p.tie.head.id.kind, .int .i64 p.tie.head.id.nr, .int .i64 p.tie.head.seq, .int .i64 p.tie.head.life, .int .i64 p.tie.level, .bool p.tie.over, .slice ae p.tie.edges.length ce, .slice ar p.tie.reaches.length cr, .int .i64 p.frm.dir, .int .i64 p.frm.orig, .int .i64 p.frm.kind, .int .i64 p.frm.nr, .int .i64 p.to.dir, .int .i64 p.to.orig, .int .i64 p.to.kind, .int .i64 p.to.nr, .slice ah p.heads.length ch] 34))
  have RP : RowKit.Hid (∀ W, Below (w.heap.size + 1) (w.alloc (.cells #[.int .i64 p.kind, .int .i64 p.lie.node, .int .i64 p.lie.level, .int .i64 p.lie.pod, .int .i64 p.lie.mtu, .int .i64 p.lie.link, .int .i64 p.lie.nonce, .int .i64 p.lie.seen, .int .i64 p.lie.seenLink, .int .i64 p.lie.seenNonce, .int .i64 p.lie.hold, .bool p.lie.rep, .bool p.lie.noOffer, .int .i64 p.tie.head.id.dir, .int .i64 p.tie.head.id.orig, .int .i64 p.tie.head.id.kind, .int .i64 p.tie.head.id.nr, .int .i64 p.tie.head.seq, .int .i64 p.tie.head.life, .int .i64 p.tie.level, .bool p.tie.over, .slice ae p.tie.edges.length ce, .slice ar p.tie.reaches.length cr, .int .i64 p.frm.dir, .int .i64 p.frm.orig, .int .i64 p.frm.kind, .int .i64 p.frm.nr, .int .i64 p.to.dir, .int .i64 p.to.orig, .int .i64 p.to.kind, .int .i64 p.to.nr, .slice ah p.heads.length ch] 34)) W → W.rangeAt w.heap.size 0 [.int .i64 p.kind, .int .i64 p.lie.node, .int .i64 p.lie.level, .int .i64 p.lie.pod, .int .i64 p.lie.mtu, .int .i64 p.lie.link, .int .i64 p.lie.nonce, .int .i64 p.lie.seen, .int .i64 p.lie.seenLink, .int .i64 p.lie.seenNonce, .int .i64 p.lie.hold, .bool p.lie.rep, .bool p.lie.noOffer, .int .i64 p.tie.head.id.dir, .int .i64 p.tie.head.id.orig, .int .i64 p.tie.head.id.kind, .int .i64 p.tie.head.id.nr, .int .i64 p.tie.head.seq, .int .i64 p.tie.head.life, .int .i64 p.tie.level, .bool p.tie.over, .slice ae p.tie.edges.length ce, .slice ar p.tie.reaches.length cr, .int .i64 p.frm.dir, .int .i64 p.frm.orig, .int .i64 p.frm.kind, .int .i64 p.frm.nr, .int .i64 p.to.dir, .int .i64 p.to.orig, .int .i64 p.to.kind, .int .i64 p.to.nr, .slice ah p.heads.length ch]) := fun W hb => range_box (World.alloc_heap_new w _) hb (Nat.lt_succ_self _)
  have HSZ : RowKit.Hid ((w.alloc (.cells #[.int .i64 p.kind, .int .i64 p.lie.node, .int .i64 p.lie.level, .int .i64 p.lie.pod, .int .i64 p.lie.mtu, .int .i64 p.lie.link, .int .i64 p.lie.nonce, .int .i64 p.lie.seen, .int .i64 p.lie.seenLink, .int .i64 p.lie.seenNonce, .int .i64 p.lie.hold, .bool p.lie.rep, .bool p.lie.noOffer, .int .i64 p.tie.head.id.dir, .int .i64 p.tie.head.id.orig, .int .i64 p.tie.head.id.kind, .int .i64 p.tie.head.id.nr, .int .i64 p.tie.head.seq, .int .i64 p.tie.head.life, .int .i64 p.tie.level, .bool p.tie.over, .slice ae p.tie.edges.length ce, .slice ar p.tie.reaches.length cr, .int .i64 p.frm.dir, .int .i64 p.frm.orig, .int .i64 p.frm.kind, .int .i64 p.frm.nr, .int .i64 p.to.dir, .int .i64 p.to.orig, .int .i64 p.to.kind, .int .i64 p.to.nr, .slice ah p.heads.length ch] 34)).heap.size = w.heap.size + 1) := by show _ = _; simp
  have PW : RowKit.Hid (∀ W, Below (w.heap.size + 1) (w.alloc (.cells #[.int .i64 p.kind, .int .i64 p.lie.node, .int .i64 p.lie.level, .int .i64 p.lie.pod, .int .i64 p.lie.mtu, .int .i64 p.lie.link, .int .i64 p.lie.nonce, .int .i64 p.lie.seen, .int .i64 p.lie.seenLink, .int .i64 p.lie.seenNonce, .int .i64 p.lie.hold, .bool p.lie.rep, .bool p.lie.noOffer, .int .i64 p.tie.head.id.dir, .int .i64 p.tie.head.id.orig, .int .i64 p.tie.head.id.kind, .int .i64 p.tie.head.id.nr, .int .i64 p.tie.head.seq, .int .i64 p.tie.head.life, .int .i64 p.tie.level, .bool p.tie.over, .slice ae p.tie.edges.length ce, .slice ar p.tie.reaches.length cr, .int .i64 p.frm.dir, .int .i64 p.frm.orig, .int .i64 p.frm.kind, .int .i64 p.frm.nr, .int .i64 p.to.dir, .int .i64 p.to.orig, .int .i64 p.to.kind, .int .i64 p.to.nr, .slice ah p.heads.length ch] 34)) W → Pk W.heap.size W p ae ar ah ce cr ch) := fun W hW => (hp.below (HB0.out.trans (hW.mono (by omega)))).mono (HB0.out.trans (hW.mono (by omega))).size
  clear hp
  have HRI := Lib.hid (fun (W : World) (hW : Below (w.heap.size + 1) (w.alloc (.cells #[.int .i64 p.kind, .int .i64 p.lie.node, .int .i64 p.lie.level, .int .i64 p.lie.pod, .int .i64 p.lie.mtu, .int .i64 p.lie.link, .int .i64 p.lie.nonce, .int .i64 p.lie.seen, .int .i64 p.lie.seenLink, .int .i64 p.lie.seenNonce, .int .i64 p.lie.hold, .bool p.lie.rep, .bool p.lie.noOffer, .int .i64 p.tie.head.id.dir, .int .i64 p.tie.head.id.orig, .int .i64 p.tie.head.id.kind, .int .i64 p.tie.head.id.nr, .int .i64 p.tie.head.seq, .int .i64 p.tie.head.life, .int .i64 p.tie.level, .bool p.tie.over, .slice ae p.tie.edges.length ce, .slice ar p.tie.reaches.length cr, .int .i64 p.frm.dir, .int .i64 p.frm.orig, .int .i64 p.frm.kind, .int .i64 p.frm.nr, .int .i64 p.to.dir, .int .i64 p.to.orig, .int .i64 p.to.kind, .int .i64 p.to.nr, .slice ah p.heads.length ch] 34)) W) => rRight_any p ae ar ah ce cr ch W (PW.out W hW))
  have HIT := Lib.hid (fun (W : World) (hW : Below (w.heap.size + 1) (w.alloc (.cells #[.int .i64 p.kind, .int .i64 p.lie.node, .int .i64 p.lie.level, .int .i64 p.lie.pod, .int .i64 p.lie.mtu, .int .i64 p.lie.link, .int .i64 p.lie.nonce, .int .i64 p.lie.seen, .int .i64 p.lie.seenLink, .int .i64 p.lie.seenNonce, .int .i64 p.lie.hold, .bool p.lie.rep, .bool p.lie.noOffer, .int .i64 p.tie.head.id.dir, .int .i64 p.tie.head.id.orig, .int .i64 p.tie.head.id.kind, .int .i64 p.tie.head.id.nr, .int .i64 p.tie.head.seq, .int .i64 p.tie.head.life, .int .i64 p.tie.level, .bool p.tie.over, .slice ae p.tie.edges.length ce, .slice ar p.tie.reaches.length cr, .int .i64 p.frm.dir, .int .i64 p.frm.orig, .int .i64 p.frm.kind, .int .i64 p.frm.nr, .int .i64 p.to.dir, .int .i64 p.to.orig, .int .i64 p.to.kind, .int .i64 p.to.nr, .slice ah p.heads.length ch] 34)) W) => ritems_any p ae ar ah ce cr ch W (PW.out W hW))
  have HRT := Lib.hid hr
  have HIW : RowKit.Hid (itemsW p = packI p) := by show _ = _; unfold itemsW; rw [if_pos hr]
  obtain ⟨zs, hzs⟩ : ∃ zs, bytesW p = zs := ⟨_, rfl⟩
  obtain ⟨k, hk⟩ : ∃ k, errW p = k := ⟨_, rfl⟩
  have HC := Lib.hid (fun (W : World) (A : Option Addr) (n c : Nat) (h1 : n = (packI p).length) (h2 : RdI W.heap.size W A (packI p)) => renc_call hr (c := c) h1 h2)
  rw [hzs, hk] at HC ⊢
  clear hr hzs hk
  go_enter Try.func7, Try.ntmps7
  have T1 : True := trivial
  go_wp2_with (first
    | (have tt := T1; clear T1 tt; (refine wpList_load_mid rfl 34 (.tmp 1) rfl _ _ rfl _ _ (RP.out _ (Below.refl _ _)) Try.underlying34 rfl (by kernel_rfl) ?_))
    | (go_at_call 12; refine (HRI.out _ (Below.refl _ _)).mono ?_; rintro e w1 ⟨rfl, hb⟩; rw [HRT.out]; have B1 := Lib.hid (hb.mono (show w.heap.size + 1 ≤ _ by have h1 := HSZ.out; omega)); clear hb)
    | (refine wpList_load_mid rfl 34 (.tmp 1) rfl _ _ rfl _ _ (RP.out _ B1.out) Try.underlying34 rfl (by kernel_rfl) ?_)
    | (go_at_call 10; refine (HIT.out _ B1.out).mono ?_; rintro e w2 ⟨A, n, c, rfl, hn, ho, hb⟩; rw [HIW.out] at hn ho; obtain ⟨A2, n2, c2, hv2, -, -, -, hrd⟩ := rdI_own ho (pack_bs HRT.out); injection hv2 with e1 e2 e3; subst e1 e2 e3; have HN := Lib.hid hn; have HRD := Lib.hid hrd; have B2 := Lib.hid (B1.out.trans (hb.mono (by have h1 := HSZ.out; have h2 := B1.out.size; omega))); clear hb hn ho hrd)
    | (go_at_call 15; refine (HC.out _ _ _ _ HN.out HRD.out).mono ?_; rintro e w3 ⟨A3, c3, rfl, hr3, hb⟩; have HR3 := Lib.hid hr3; have B3 := Lib.hid (B2.out.trans (hb.mono (by have h1 := HSZ.out; have h2 := B2.out.size; omega))); clear hb hr3))
  go_ret2
  exact ⟨A3, c3, rfl, HR3.out, HB0.out.trans (B3.out.mono (by omega))⟩
theorem renc_z (p : PackT) (ae ar ah : Option Addr) (ce cr ch : Nat) (w : World) (hp : Pk w.heap.size w p ae ar ah ce cr ch) : Calls Try.prog 7 #[.agg #[.int .i64 p.kind, .int .i64 p.lie.node, .int .i64 p.lie.level, .int .i64 p.lie.pod, .int .i64 p.lie.mtu, .int .i64 p.lie.link, .int .i64 p.lie.nonce, .int .i64 p.lie.seen, .int .i64 p.lie.seenLink, .int .i64 p.lie.seenNonce, .int .i64 p.lie.hold, .bool p.lie.rep, .bool p.lie.noOffer, .int .i64 p.tie.head.id.dir, .int .i64 p.tie.head.id.orig, .int .i64 p.tie.head.id.kind, .int .i64 p.tie.head.id.nr, .int .i64 p.tie.head.seq, .int .i64 p.tie.head.life, .int .i64 p.tie.level, .bool p.tie.over, .slice ae p.tie.edges.length ce, .slice ar p.tie.reaches.length cr, .int .i64 p.frm.dir, .int .i64 p.frm.orig, .int .i64 p.frm.kind, .int .i64 p.frm.nr, .int .i64 p.to.dir, .int .i64 p.to.orig, .int .i64 p.to.kind, .int .i64 p.to.nr, .slice ah p.heads.length ch]] w (GotZ (bytesW p) (errW p) w) := by
  by_cases hr : rightW p = true
  · exact renc_yes p ae ar ah ce cr ch w hp hr
  · exact renc_no p ae ar ah ce cr ch w hp (by simpa using hr)
end Go.Proofs.Ytjkibgnkkienbaa

/-
  WireEncodes: the law's walk.
-/
namespace Go.Proofs.Ytjkibgnkkienbaa
open Go.RowKit Go.Shelf
set_option linter.unusedVariables false
set_option linter.unusedSimpArgs false
theorem takeG {P : Program} {ops : Array Oper} {Q : Exit → Act → World → Prop} {md : Region.Mode} {S : World → Prop} {i d : Nat} {oi : Oper} {v : Value} {fuel : Nat} {listed : Array Bool} {ts : Array Value} {df : List Deferred} {w : World} (hi : ops[i]? = some oi) (hd : oi.dst = some d)
    (hs : Region.noSelect ops = true) (hf : Region.free md ops listed i = true) (hr : (Region.ready md ops listed).contains i = true)
    (hQ : ∀ c a w, Q (.panic c) (a.put oi.dst v) w → Q (.panic c) a w) (hg : Region.wanted oi (yielded ops ts) = true) (hy : ∀ w, S w → (execOp (Act.eval { tmps := ts, defers := df }) oi).run P w = .ok (.value v) w) (hS : S w)
    (h : wpAnyH P md ops Q S fuel (listed.setIfInBounds i true) { tmps := ts.setIfInBounds d v, defers := df } w) : wpAnyH P md ops Q S (fuel + 1) listed { tmps := ts, defers := df } w := by
  refine wpAnyH_take hi hs hf hr hQ (.inl ⟨hg, hy⟩) hS ?_
  unfold Act.put
  rw [hd]
  exact h
theorem takeLoad {P : Program} {ops : Array Oper} {Q : Exit → Act → World → Prop} {md : Region.Mode} {S : World → Prop} {i d : Nat} {oi : Oper} {fuel : Nat} {listed : Array Bool} {ts : Array Value} {df : List Deferred} {w : World} (hi : ops[i]? = some oi) (hd : oi.dst = some d)
    (hs : Region.noSelect ops = true) (hf : Region.free md ops listed i = true) (hr : (Region.ready md ops listed).contains i = true) (hw : Region.wanted oi (yielded ops ts) = true)
    (ty : TypeId) (x : Operand) (ho : oi.op = .load ty x) (b o : Nat) (hx : Act.eval { tmps := ts, defers := df } x = .pointer (some ⟨b, o, none⟩)) (cs : List Value) (dd : TypeDesc) (hS' : ∀ w, S w → w.rangeAt b o cs)
    (hu : P.underlying ty = some dd) (hdd : dd.isRow = true) (hsz : (P.info? ty).map (·.size) = some cs.length) (hQ : ∀ c a w, Q (.panic c) (a.put oi.dst (.agg cs.toArray)) w → Q (.panic c) a w) (hS : S w)
    (h : wpAnyH P md ops Q S fuel (listed.setIfInBounds i true) { tmps := ts.setIfInBounds d (.agg cs.toArray), defers := df } w) : wpAnyH P md ops Q S (fuel + 1) listed { tmps := ts, defers := df } w := by
  refine wpAnyH_take hi hs hf hr hQ (yieldsIf_load_mid (a := { tmps := ts, defers := df }) hw ty x ho b o hx cs dd hS' hu hdd hsz) hS ?_
  unfold Act.put
  rw [hd]
  exact h
set_option maxRecDepth 100000 in
set_option maxHeartbeats 8000000 in
theorem wencodes_few (p : PackT) (ae ar ah : Option Addr) (ce cr ch : Nat) (w : World) (hp : Pk w.heap.size w p ae ar ah ce cr ch) (hf : few3 p = false) : Calls Try.prog 3 #[.agg #[.int .i64 p.kind, .int .i64 p.lie.node, .int .i64 p.lie.level, .int .i64 p.lie.pod, .int .i64 p.lie.mtu, .int .i64 p.lie.link, .int .i64 p.lie.nonce, .int .i64 p.lie.seen, .int .i64 p.lie.seenLink, .int .i64 p.lie.seenNonce, .int .i64 p.lie.hold, .bool p.lie.rep, .bool p.lie.noOffer, .int .i64 p.tie.head.id.dir, .int .i64 p.tie.head.id.orig, .int .i64 p.tie.head.id.kind, .int .i64 p.tie.head.id.nr, .int .i64 p.tie.head.seq, .int .i64 p.tie.head.life, .int .i64 p.tie.level, .bool p.tie.over, .slice ae p.tie.edges.length ce, .slice ar p.tie.reaches.length cr, .int .i64 p.frm.dir, .int .i64 p.frm.orig, .int .i64 p.frm.kind, .int .i64 p.frm.nr, .int .i64 p.to.dir, .int .i64 p.to.orig, .int .i64 p.to.kind, .int .i64 p.to.nr, .slice ah p.heads.length ch]] w fun e w' => e = .returned (.bool true) ∧ Below w.heap.size w w' := by
  have HF := Lib.hid hf
  clear hf
  have HP := Lib.hid hp
  have HB0 := Lib.hid ((Below.refl w.heap.size w).alloc (Nat.le_refl _) (.cells #[.int .i64 p.kind, .int .i64 p.lie.node, .int .i64 p.lie.level, .int .i64 p.lie.pod, .int .i64 p.lie.mtu, .int .i64 p.lie.link, .int .i64 p.lie.nonce, .int .i64 p.lie.seen, .int .i64 p.lie.seenLink, .int .i64 p.lie.seenNonce, .int .i64 p.lie.hold, .bool p.lie.rep, .bool p.lie.noOffer, .int .i64 p.tie.head.id.dir, .int .i64 p.tie.head.id.orig, .int .i64 p.tie.head.id.kind, .int .i64 p.tie.head.id.nr, .int .i64 p.tie.head.seq, .int .i64 p.tie.head.life, .int .i64 p.tie.level, .bool p.tie.over, .slice ae p.tie.edges.length ce, .slice ar p.tie.reaches.length cr, .int .i64 p.frm.dir, .int .i64 p.frm.orig, .int .i64 p.frm.kind, .int .i64 p.frm.nr, .int .i64 p.to.dir, .int .i64 p.to.orig, .int .i64 p.to.kind, .int .i64 p.to.nr, .slice ah p.heads.length ch] 34))
  have RP : RowKit.Hid (∀ W, Below (w.heap.size + 1) (w.alloc (.cells #[.int .i64 p.kind, .int .i64 p.lie.node, .int .i64 p.lie.level, .int .i64 p.lie.pod, .int .i64 p.lie.mtu, .int .i64 p.lie.link, .int .i64 p.lie.nonce, .int .i64 p.lie.seen, .int .i64 p.lie.seenLink, .int .i64 p.lie.seenNonce, .int .i64 p.lie.hold, .bool p.lie.rep, .bool p.lie.noOffer, .int .i64 p.tie.head.id.dir, .int .i64 p.tie.head.id.orig, .int .i64 p.tie.head.id.kind, .int .i64 p.tie.head.id.nr, .int .i64 p.tie.head.seq, .int .i64 p.tie.head.life, .int .i64 p.tie.level, .bool p.tie.over, .slice ae p.tie.edges.length ce, .slice ar p.tie.reaches.length cr, .int .i64 p.frm.dir, .int .i64 p.frm.orig, .int .i64 p.frm.kind, .int .i64 p.frm.nr, .int .i64 p.to.dir, .int .i64 p.to.orig, .int .i64 p.to.kind, .int .i64 p.to.nr, .slice ah p.heads.length ch] 34)) W → W.rangeAt w.heap.size 0 [.int .i64 p.kind, .int .i64 p.lie.node, .int .i64 p.lie.level, .int .i64 p.lie.pod, .int .i64 p.lie.mtu, .int .i64 p.lie.link, .int .i64 p.lie.nonce, .int .i64 p.lie.seen, .int .i64 p.lie.seenLink, .int .i64 p.lie.seenNonce, .int .i64 p.lie.hold, .bool p.lie.rep, .bool p.lie.noOffer, .int .i64 p.tie.head.id.dir, .int .i64 p.tie.head.id.orig, .int .i64 p.tie.head.id.kind, .int .i64 p.tie.head.id.nr, .int .i64 p.tie.head.seq, .int .i64 p.tie.head.life, .int .i64 p.tie.level, .bool p.tie.over, .slice ae p.tie.edges.length ce, .slice ar p.tie.reaches.length cr, .int .i64 p.frm.dir, .int .i64 p.frm.orig, .int .i64 p.frm.kind, .int .i64 p.frm.nr, .int .i64 p.to.dir, .int .i64 p.to.orig, .int .i64 p.to.kind, .int .i64 p.to.nr, .slice ah p.heads.length ch]) := fun W hb => range_box (World.alloc_heap_new w _) hb (Nat.lt_succ_self _)
  have HSZ : RowKit.Hid ((w.alloc (.cells #[.int .i64 p.kind, .int .i64 p.lie.node, .int .i64 p.lie.level, .int .i64 p.lie.pod, .int .i64 p.lie.mtu, .int .i64 p.lie.link, .int .i64 p.lie.nonce, .int .i64 p.lie.seen, .int .i64 p.lie.seenLink, .int .i64 p.lie.seenNonce, .int .i64 p.lie.hold, .bool p.lie.rep, .bool p.lie.noOffer, .int .i64 p.tie.head.id.dir, .int .i64 p.tie.head.id.orig, .int .i64 p.tie.head.id.kind, .int .i64 p.tie.head.id.nr, .int .i64 p.tie.head.seq, .int .i64 p.tie.head.life, .int .i64 p.tie.level, .bool p.tie.over, .slice ae p.tie.edges.length ce, .slice ar p.tie.reaches.length cr, .int .i64 p.frm.dir, .int .i64 p.frm.orig, .int .i64 p.frm.kind, .int .i64 p.frm.nr, .int .i64 p.to.dir, .int .i64 p.to.orig, .int .i64 p.to.kind, .int .i64 p.to.nr, .slice ah p.heads.length ch] 34)).heap.size = w.heap.size + 1) := by show _ = _; simp
  have PW : RowKit.Hid (∀ W, Below (w.heap.size + 1) (w.alloc (.cells #[.int .i64 p.kind, .int .i64 p.lie.node, .int .i64 p.lie.level, .int .i64 p.lie.pod, .int .i64 p.lie.mtu, .int .i64 p.lie.link, .int .i64 p.lie.nonce, .int .i64 p.lie.seen, .int .i64 p.lie.seenLink, .int .i64 p.lie.seenNonce, .int .i64 p.lie.hold, .bool p.lie.rep, .bool p.lie.noOffer, .int .i64 p.tie.head.id.dir, .int .i64 p.tie.head.id.orig, .int .i64 p.tie.head.id.kind, .int .i64 p.tie.head.id.nr, .int .i64 p.tie.head.seq, .int .i64 p.tie.head.life, .int .i64 p.tie.level, .bool p.tie.over, .slice ae p.tie.edges.length ce, .slice ar p.tie.reaches.length cr, .int .i64 p.frm.dir, .int .i64 p.frm.orig, .int .i64 p.frm.kind, .int .i64 p.frm.nr, .int .i64 p.to.dir, .int .i64 p.to.orig, .int .i64 p.to.kind, .int .i64 p.to.nr, .slice ah p.heads.length ch] 34)) W → Pk W.heap.size W p ae ar ah ce cr ch) := fun W hW => (hp.below (HB0.out.trans (hW.mono (by omega)))).mono (HB0.out.trans (hW.mono (by omega))).size
  clear hp
  go_enter Try.func3, Try.ntmps3
  go_wp2_with (first
    | (go_at_call 4; refine (awakew_any _).mono ?_; rintro e w1 ⟨rfl, hb⟩; have B1 := Lib.hid (hb.mono (show w.heap.size + 1 ≤ _ by have h1 := HSZ.out; omega)); clear hb)
    | (refine wpList_load_mid rfl 34 (.tmp 1) rfl _ _ rfl _ _ (RP.out _ B1.out) Try.underlying34 rfl (by kernel_rfl) ?_)
    | (go_at_call 5; refine (few3_any p ae ar ah ce cr ch _).mono ?_; rintro e w2 ⟨rfl, hb⟩; rw [HF.out]; have B2 := Lib.hid (B1.out.trans (hb.mono (by have h1 := HSZ.out; have h2 := B1.out.size; omega))); clear hb))
  go_ret
  exact ⟨rfl, HB0.out.trans (B2.out.mono (by omega))⟩
/-- What is held in the last statement. -/
def W8S (w4 : World) (cs : List Value) (b : Nat) (W : World) : Prop := W.rangeAt b 0 cs ∧ Below w4.heap.size w4 W
set_option maxRecDepth 100000 in
set_option maxHeartbeats 8000000 in
theorem wencodes_ok (p : PackT) (ae ar ah : Option Addr) (ce cr ch : Nat) (w : World) (hp : Pk w.heap.size w p ae ar ah ce cr ch) (hf : few3 p = true) : Calls Try.prog 3 #[.agg #[.int .i64 p.kind, .int .i64 p.lie.node, .int .i64 p.lie.level, .int .i64 p.lie.pod, .int .i64 p.lie.mtu, .int .i64 p.lie.link, .int .i64 p.lie.nonce, .int .i64 p.lie.seen, .int .i64 p.lie.seenLink, .int .i64 p.lie.seenNonce, .int .i64 p.lie.hold, .bool p.lie.rep, .bool p.lie.noOffer, .int .i64 p.tie.head.id.dir, .int .i64 p.tie.head.id.orig, .int .i64 p.tie.head.id.kind, .int .i64 p.tie.head.id.nr, .int .i64 p.tie.head.seq, .int .i64 p.tie.head.life, .int .i64 p.tie.level, .bool p.tie.over, .slice ae p.tie.edges.length ce, .slice ar p.tie.reaches.length cr, .int .i64 p.frm.dir, .int .i64 p.frm.orig, .int .i64 p.frm.kind, .int .i64 p.frm.nr, .int .i64 p.to.dir, .int .i64 p.to.orig, .int .i64 p.to.kind, .int .i64 p.to.nr, .slice ah p.heads.length ch]] w fun e w' => e = .returned (.bool true) ∧ Below w.heap.size w w' := by
  have HF := Lib.hid hf
  clear hf
  have HP := Lib.hid hp
  have HB0 := Lib.hid ((Below.refl w.heap.size w).alloc (Nat.le_refl _) (.cells #[.int .i64 p.kind, .int .i64 p.lie.node, .int .i64 p.lie.level, .int .i64 p.lie.pod, .int .i64 p.lie.mtu, .int .i64 p.lie.link, .int .i64 p.lie.nonce, .int .i64 p.lie.seen, .int .i64 p.lie.seenLink, .int .i64 p.lie.seenNonce, .int .i64 p.lie.hold, .bool p.lie.rep, .bool p.lie.noOffer, .int .i64 p.tie.head.id.dir, .int .i64 p.tie.head.id.orig, .int .i64 p.tie.head.id.kind, .int .i64 p.tie.head.id.nr, .int .i64 p.tie.head.seq, .int .i64 p.tie.head.life, .int .i64 p.tie.level, .bool p.tie.over, .slice ae p.tie.edges.length ce, .slice ar p.tie.reaches.length cr, .int .i64 p.frm.dir, .int .i64 p.frm.orig, .int .i64 p.frm.kind, .int .i64 p.frm.nr, .int .i64 p.to.dir, .int .i64 p.to.orig, .int .i64 p.to.kind, .int .i64 p.to.nr, .slice ah p.heads.length ch] 34))
  have RP : RowKit.Hid (∀ W, Below (w.heap.size + 1) (w.alloc (.cells #[.int .i64 p.kind, .int .i64 p.lie.node, .int .i64 p.lie.level, .int .i64 p.lie.pod, .int .i64 p.lie.mtu, .int .i64 p.lie.link, .int .i64 p.lie.nonce, .int .i64 p.lie.seen, .int .i64 p.lie.seenLink, .int .i64 p.lie.seenNonce, .int .i64 p.lie.hold, .bool p.lie.rep, .bool p.lie.noOffer, .int .i64 p.tie.head.id.dir, .int .i64 p.tie.head.id.orig, .int .i64 p.tie.head.id.kind, .int .i64 p.tie.head.id.nr, .int .i64 p.tie.head.seq, .int .i64 p.tie.head.life, .int .i64 p.tie.level, .bool p.tie.over, .slice ae p.tie.edges.length ce, .slice ar p.tie.reaches.length cr, .int .i64 p.frm.dir, .int .i64 p.frm.orig, .int .i64 p.frm.kind, .int .i64 p.frm.nr, .int .i64 p.to.dir, .int .i64 p.to.orig, .int .i64 p.to.kind, .int .i64 p.to.nr, .slice ah p.heads.length ch] 34)) W → W.rangeAt w.heap.size 0 [.int .i64 p.kind, .int .i64 p.lie.node, .int .i64 p.lie.level, .int .i64 p.lie.pod, .int .i64 p.lie.mtu, .int .i64 p.lie.link, .int .i64 p.lie.nonce, .int .i64 p.lie.seen, .int .i64 p.lie.seenLink, .int .i64 p.lie.seenNonce, .int .i64 p.lie.hold, .bool p.lie.rep, .bool p.lie.noOffer, .int .i64 p.tie.head.id.dir, .int .i64 p.tie.head.id.orig, .int .i64 p.tie.head.id.kind, .int .i64 p.tie.head.id.nr, .int .i64 p.tie.head.seq, .int .i64 p.tie.head.life, .int .i64 p.tie.level, .bool p.tie.over, .slice ae p.tie.edges.length ce, .slice ar p.tie.reaches.length cr, .int .i64 p.frm.dir, .int .i64 p.frm.orig, .int .i64 p.frm.kind, .int .i64 p.frm.nr, .int .i64 p.to.dir, .int .i64 p.to.orig, .int .i64 p.to.kind, .int .i64 p.to.nr, .slice ah p.heads.length ch]) := fun W hb => range_box (World.alloc_heap_new w _) hb (Nat.lt_succ_self _)
  have HSZ : RowKit.Hid ((w.alloc (.cells #[.int .i64 p.kind, .int .i64 p.lie.node, .int .i64 p.lie.level, .int .i64 p.lie.pod, .int .i64 p.lie.mtu, .int .i64 p.lie.link, .int .i64 p.lie.nonce, .int .i64 p.lie.seen, .int .i64 p.lie.seenLink, .int .i64 p.lie.seenNonce, .int .i64 p.lie.hold, .bool p.lie.rep, .bool p.lie.noOffer, .int .i64 p.tie.head.id.dir, .int .i64 p.tie.head.id.orig, .int .i64 p.tie.head.id.kind, .int .i64 p.tie.head.id.nr, .int .i64 p.tie.head.seq, .int .i64 p.tie.head.life, .int .i64 p.tie.level, .bool p.tie.over, .slice ae p.tie.edges.length ce, .slice ar p.tie.reaches.length cr, .int .i64 p.frm.dir, .int .i64 p.frm.orig, .int .i64 p.frm.kind, .int .i64 p.frm.nr, .int .i64 p.to.dir, .int .i64 p.to.orig, .int .i64 p.to.kind, .int .i64 p.to.nr, .slice ah p.heads.length ch] 34)).heap.size = w.heap.size + 1) := by show _ = _; simp
  have PW : RowKit.Hid (∀ W, Below (w.heap.size + 1) (w.alloc (.cells #[.int .i64 p.kind, .int .i64 p.lie.node, .int .i64 p.lie.level, .int .i64 p.lie.pod, .int .i64 p.lie.mtu, .int .i64 p.lie.link, .int .i64 p.lie.nonce, .int .i64 p.lie.seen, .int .i64 p.lie.seenLink, .int .i64 p.lie.seenNonce, .int .i64 p.lie.hold, .bool p.lie.rep, .bool p.lie.noOffer, .int .i64 p.tie.head.id.dir, .int .i64 p.tie.head.id.orig, .int .i64 p.tie.head.id.kind, .int .i64 p.tie.head.id.nr, .int .i64 p.tie.head.seq, .int .i64 p.tie.head.life, .int .i64 p.tie.level, .bool p.tie.over, .slice ae p.tie.edges.length ce, .slice ar p.tie.reaches.length cr, .int .i64 p.frm.dir, .int .i64 p.frm.orig, .int .i64 p.frm.kind, .int .i64 p.frm.nr, .int .i64 p.to.dir, .int .i64 p.to.orig, .int .i64 p.to.kind, .int .i64 p.to.nr, .slice ah p.heads.length ch] 34)) W → Pk W.heap.size W p ae ar ah ce cr ch) := fun W hW => (hp.below (HB0.out.trans (hW.mono (by omega)))).mono (HB0.out.trans (hW.mono (by omega))).size
  clear hp
  have HE := Lib.hid (fun (W : World) (hW : Below (w.heap.size + 1) (w.alloc (.cells #[.int .i64 p.kind, .int .i64 p.lie.node, .int .i64 p.lie.level, .int .i64 p.lie.pod, .int .i64 p.lie.mtu, .int .i64 p.lie.link, .int .i64 p.lie.nonce, .int .i64 p.lie.seen, .int .i64 p.lie.seenLink, .int .i64 p.lie.seenNonce, .int .i64 p.lie.hold, .bool p.lie.rep, .bool p.lie.noOffer, .int .i64 p.tie.head.id.dir, .int .i64 p.tie.head.id.orig, .int .i64 p.tie.head.id.kind, .int .i64 p.tie.head.id.nr, .int .i64 p.tie.head.seq, .int .i64 p.tie.head.life, .int .i64 p.tie.level, .bool p.tie.over, .slice ae p.tie.edges.length ce, .slice ar p.tie.reaches.length cr, .int .i64 p.frm.dir, .int .i64 p.frm.orig, .int .i64 p.frm.kind, .int .i64 p.frm.nr, .int .i64 p.to.dir, .int .i64 p.to.orig, .int .i64 p.to.kind, .int .i64 p.to.nr, .slice ah p.heads.length ch] 34)) W) => wenc_z p ae ar ah ce cr ch W (PW.out W hW))
  have HG := Lib.hid (fun (W : World) (hW : Below (w.heap.size + 1) (w.alloc (.cells #[.int .i64 p.kind, .int .i64 p.lie.node, .int .i64 p.lie.level, .int .i64 p.lie.pod, .int .i64 p.lie.mtu, .int .i64 p.lie.link, .int .i64 p.lie.nonce, .int .i64 p.lie.seen, .int .i64 p.lie.seenLink, .int .i64 p.lie.seenNonce, .int .i64 p.lie.hold, .bool p.lie.rep, .bool p.lie.noOffer, .int .i64 p.tie.head.id.dir, .int .i64 p.tie.head.id.orig, .int .i64 p.tie.head.id.kind, .int .i64 p.tie.head.id.nr, .int .i64 p.tie.head.seq, .int .i64 p.tie.head.life, .int .i64 p.tie.level, .bool p.tie.over, .slice ae p.tie.edges.length ce, .slice ar p.tie.reaches.length cr, .int .i64 p.frm.dir, .int .i64 p.frm.orig, .int .i64 p.frm.kind, .int .i64 p.frm.nr, .int .i64 p.to.dir, .int .i64 p.to.orig, .int .i64 p.to.kind, .int .i64 p.to.nr, .slice ah p.heads.length ch] 34)) W) => renc_z p ae ar ah ce cr ch W (PW.out W hW))
  have HI := Lib.hid (fun (W : World) (hW : Below (w.heap.size + 1) (w.alloc (.cells #[.int .i64 p.kind, .int .i64 p.lie.node, .int .i64 p.lie.level, .int .i64 p.lie.pod, .int .i64 p.lie.mtu, .int .i64 p.lie.link, .int .i64 p.lie.nonce, .int .i64 p.lie.seen, .int .i64 p.lie.seenLink, .int .i64 p.lie.seenNonce, .int .i64 p.lie.hold, .bool p.lie.rep, .bool p.lie.noOffer, .int .i64 p.tie.head.id.dir, .int .i64 p.tie.head.id.orig, .int .i64 p.tie.head.id.kind, .int .i64 p.tie.head.id.nr, .int .i64 p.tie.head.seq, .int .i64 p.tie.head.life, .int .i64 p.tie.level, .bool p.tie.over, .slice ae p.tie.edges.length ce, .slice ar p.tie.reaches.length cr, .int .i64 p.frm.dir, .int .i64 p.frm.orig, .int .i64 p.frm.kind, .int .i64 p.frm.nr, .int .i64 p.to.dir, .int .i64 p.to.orig, .int .i64 p.to.kind, .int .i64 p.to.nr, .slice ah p.heads.length ch] 34)) W) => witems_any p ae ar ah ce cr ch W (PW.out W hW))
  have HJ := Lib.hid (fun (W : World) (hW : Below (w.heap.size + 1) (w.alloc (.cells #[.int .i64 p.kind, .int .i64 p.lie.node, .int .i64 p.lie.level, .int .i64 p.lie.pod, .int .i64 p.lie.mtu, .int .i64 p.lie.link, .int .i64 p.lie.nonce, .int .i64 p.lie.seen, .int .i64 p.lie.seenLink, .int .i64 p.lie.seenNonce, .int .i64 p.lie.hold, .bool p.lie.rep, .bool p.lie.noOffer, .int .i64 p.tie.head.id.dir, .int .i64 p.tie.head.id.orig, .int .i64 p.tie.head.id.kind, .int .i64 p.tie.head.id.nr, .int .i64 p.tie.head.seq, .int .i64 p.tie.head.life, .int .i64 p.tie.level, .bool p.tie.over, .slice ae p.tie.edges.length ce, .slice ar p.tie.reaches.length cr, .int .i64 p.frm.dir, .int .i64 p.frm.orig, .int .i64 p.frm.kind, .int .i64 p.frm.nr, .int .i64 p.to.dir, .int .i64 p.to.orig, .int .i64 p.to.kind, .int .i64 p.to.nr, .slice ah p.heads.length ch] 34)) W) => ritems_any p ae ar ah ce cr ch W (PW.out W hW))
  have HR := Lib.hid (fun (W : World) (hW : Below (w.heap.size + 1) (w.alloc (.cells #[.int .i64 p.kind, .int .i64 p.lie.node, .int .i64 p.lie.level, .int .i64 p.lie.pod, .int .i64 p.lie.mtu, .int .i64 p.lie.link, .int .i64 p.lie.nonce, .int .i64 p.lie.seen, .int .i64 p.lie.seenLink, .int .i64 p.lie.seenNonce, .int .i64 p.lie.hold, .bool p.lie.rep, .bool p.lie.noOffer, .int .i64 p.tie.head.id.dir, .int .i64 p.tie.head.id.orig, .int .i64 p.tie.head.id.kind, .int .i64 p.tie.head.id.nr, .int .i64 p.tie.head.seq, .int .i64 p.tie.head.life, .int .i64 p.tie.level, .bool p.tie.over, .slice ae p.tie.edges.length ce, .slice ar p.tie.reaches.length cr, .int .i64 p.frm.dir, .int .i64 p.frm.orig, .int .i64 p.frm.kind, .int .i64 p.frm.nr, .int .i64 p.to.dir, .int .i64 p.to.orig, .int .i64 p.to.kind, .int .i64 p.to.nr, .slice ah p.heads.length ch] 34)) W) => wright_any p ae ar ah ce cr ch W (PW.out W hW))
  have HQ := Lib.hid (fun (W : World) (hW : Below (w.heap.size + 1) (w.alloc (.cells #[.int .i64 p.kind, .int .i64 p.lie.node, .int .i64 p.lie.level, .int .i64 p.lie.pod, .int .i64 p.lie.mtu, .int .i64 p.lie.link, .int .i64 p.lie.nonce, .int .i64 p.lie.seen, .int .i64 p.lie.seenLink, .int .i64 p.lie.seenNonce, .int .i64 p.lie.hold, .bool p.lie.rep, .bool p.lie.noOffer, .int .i64 p.tie.head.id.dir, .int .i64 p.tie.head.id.orig, .int .i64 p.tie.head.id.kind, .int .i64 p.tie.head.id.nr, .int .i64 p.tie.head.seq, .int .i64 p.tie.head.life, .int .i64 p.tie.level, .bool p.tie.over, .slice ae p.tie.edges.length ce, .slice ar p.tie.reaches.length cr, .int .i64 p.frm.dir, .int .i64 p.frm.orig, .int .i64 p.frm.kind, .int .i64 p.frm.nr, .int .i64 p.to.dir, .int .i64 p.to.orig, .int .i64 p.to.kind, .int .i64 p.to.nr, .slice ah p.heads.length ch] 34)) W) => rRight_any p ae ar ah ce cr ch W (PW.out W hW))
  have HBS : RowKit.Hid (∀ x ∈ itemsW p, x.bs = []) := by
    show ∀ x ∈ itemsW p, x.bs = []
    unfold itemsW
    split
    · exact pack_bs (by assumption)
    · simp
  have HLN : RowKit.Hid ((itemsW p).length ≤ 1000) := by
    show _ ≤ _
    unfold itemsW
    split
    · exact pack_len (by assumption)
    · simp
  have HSM := Lib.hid (fun (W : World) (A B : Option Addr) (n m c d : Nat) (h1 : n = (itemsW p).length) (h2 : m = (itemsW p).length) (h3 : RdI W.heap.size W A (itemsW p)) (h4 : RdI W.heap.size W B (itemsW p)) => (by subst h1 h2; exact same_items A B c d (itemsW p) (by have := HLN.out; omega) W h3 h4 : Calls Try.prog 8 #[.slice A n c, .slice B m d] W fun e w' => e = .returned (.bool true) ∧ Below W.heap.size W w'))
  obtain ⟨zs, hzs⟩ : ∃ zs, bytesW p = zs := ⟨_, rfl⟩
  obtain ⟨k, hk⟩ : ∃ k, errW p = k := ⟨_, rfl⟩
  obtain ⟨rt, hrt⟩ : ∃ rt, rightW p = rt := ⟨_, rfl⟩
  rw [hzs, hk] at HE HG
  rw [hrt] at HR HQ
  clear hzs hk hrt
  go_enter Try.func3, Try.ntmps3
  have T1 : True := trivial
  have T2 : True := trivial
  have T3 : True := trivial
  go_wp2_with (first
    | (go_at_call 4; refine (awakew_any _).mono ?_; rintro e w1 ⟨rfl, hb⟩; have B1 := Lib.hid (hb.mono (show w.heap.size + 1 ≤ _ by have h1 := HSZ.out; omega)); clear hb)
    | (have tt := T1; clear T1 tt; (refine wpList_load_mid rfl 34 (.tmp 1) rfl _ _ rfl _ _ (RP.out _ B1.out) Try.underlying34 rfl (by kernel_rfl) ?_))
    | (go_at_call 5; refine (few3_any p ae ar ah ce cr ch _).mono ?_; rintro e w2 ⟨rfl, hb⟩; rw [HF.out]; have B2 := Lib.hid (B1.out.trans (hb.mono (by have h1 := HSZ.out; have h2 := B1.out.size; omega))); clear hb)
    | (have tt := T2; clear T2 tt; (refine wpList_load_mid rfl 34 (.tmp 1) rfl _ _ rfl _ _ (RP.out _ B2.out) Try.underlying34 rfl (by kernel_rfl) ?_))
    | (go_at_call 6; refine (HE.out _ B2.out).mono ?_; rintro e w3 ⟨A2, c2, rfl, hr3, hb⟩; have R2 := Lib.hid hr3; have B3 := Lib.hid (B2.out.trans (hb.mono (by have h1 := HSZ.out; have h2 := B2.out.size; omega))); clear hb hr3)
    | (have tt := T3; clear T3 tt; (refine wpList_load_mid rfl 34 (.tmp 1) rfl _ _ rfl _ _ (RP.out _ B3.out) Try.underlying34 rfl (by kernel_rfl) ?_))
    | (go_at_call 7; refine (HG.out _ B3.out).mono ?_; rintro e w4 ⟨A3, c3, rfl, hr4, hb⟩; have R3 := Lib.hid hr4; have R23 := Lib.hid (R2.out.below hb); have hle4 := hb.size; have B4 := Lib.hid (B3.out.trans (hb.mono (by have h1 := HSZ.out; have h2 := B3.out.size; omega))); clear hb hr4))
  have BD4 : RowKit.Hid (Below (w.heap.size + 1) (w.alloc (.cells #[.int .i64 p.kind, .int .i64 p.lie.node, .int .i64 p.lie.level, .int .i64 p.lie.pod, .int .i64 p.lie.mtu, .int .i64 p.lie.link, .int .i64 p.lie.nonce, .int .i64 p.lie.seen, .int .i64 p.lie.seenLink, .int .i64 p.lie.seenNonce, .int .i64 p.lie.hold, .bool p.lie.rep, .bool p.lie.noOffer, .int .i64 p.tie.head.id.dir, .int .i64 p.tie.head.id.orig, .int .i64 p.tie.head.id.kind, .int .i64 p.tie.head.id.nr, .int .i64 p.tie.head.seq, .int .i64 p.tie.head.life, .int .i64 p.tie.level, .bool p.tie.over, .slice ae p.tie.edges.length ce, .slice ar p.tie.reaches.length cr, .int .i64 p.frm.dir, .int .i64 p.frm.orig, .int .i64 p.frm.kind, .int .i64 p.frm.nr, .int .i64 p.to.dir, .int .i64 p.to.orig, .int .i64 p.to.kind, .int .i64 p.to.nr, .slice ah p.heads.length ch] 34)) w4.drew) := B4.out.drew
  have rD4 := RP.out _ BD4.out
  have BWQ : RowKit.Hid (Below w4.heap.size w4 w4.drew) := (Below.refl _ _).drew
  refine wp_region_held_drew (S := (fun W : World => W.rangeAt w.heap.size 0 [.int .i64 p.kind, .int .i64 p.lie.node, .int .i64 p.lie.level, .int .i64 p.lie.pod, .int .i64 p.lie.mtu, .int .i64 p.lie.link, .int .i64 p.lie.nonce, .int .i64 p.lie.seen, .int .i64 p.lie.seenLink, .int .i64 p.lie.seenNonce, .int .i64 p.lie.hold, .bool p.lie.rep, .bool p.lie.noOffer, .int .i64 p.tie.head.id.dir, .int .i64 p.tie.head.id.orig, .int .i64 p.tie.head.id.kind, .int .i64 p.tie.head.id.nr, .int .i64 p.tie.head.seq, .int .i64 p.tie.head.life, .int .i64 p.tie.level, .bool p.tie.over, .slice ae p.tie.edges.length ce, .slice ar p.tie.reaches.length cr, .int .i64 p.frm.dir, .int .i64 p.frm.orig, .int .i64 p.frm.kind, .int .i64 p.frm.nr, .int .i64 p.to.dir, .int .i64 p.to.orig, .int .i64 p.to.kind, .int .i64 p.to.nr, .slice ah p.heads.length ch])) (by kernel_rfl) rD4 (fun hS0 => ?_)
  refine takeLoad (i := 0) (d := 30) rfl rfl (by kernel_rfl) (by kernel_rfl) (by kernel_rfl) rfl 34 (.tmp 1) rfl w.heap.size 0 rfl [.int .i64 p.kind, .int .i64 p.lie.node, .int .i64 p.lie.level, .int .i64 p.lie.pod, .int .i64 p.lie.mtu, .int .i64 p.lie.link, .int .i64 p.lie.nonce, .int .i64 p.lie.seen, .int .i64 p.lie.seenLink, .int .i64 p.lie.seenNonce, .int .i64 p.lie.hold, .bool p.lie.rep, .bool p.lie.noOffer, .int .i64 p.tie.head.id.dir, .int .i64 p.tie.head.id.orig, .int .i64 p.tie.head.id.kind, .int .i64 p.tie.head.id.nr, .int .i64 p.tie.head.seq, .int .i64 p.tie.head.life, .int .i64 p.tie.level, .bool p.tie.over, .slice ae p.tie.edges.length ce, .slice ar p.tie.reaches.length cr, .int .i64 p.frm.dir, .int .i64 p.frm.orig, .int .i64 p.frm.kind, .int .i64 p.frm.nr, .int .i64 p.to.dir, .int .i64 p.to.orig, .int .i64 p.to.kind, .int .i64 p.to.nr, .slice ah p.heads.length ch] _ (fun w hS => hS) Try.underlying34 rfl (by kernel_rfl) (fun _ _ _ h => h) (by assumption) ?_
  simp only [List.setIfInBounds_toArray, List.set_cons_zero, List.set_cons_succ]
  refine takeLoad (i := 2) (d := 32) rfl rfl (by kernel_rfl) (by kernel_rfl) (by kernel_rfl) rfl 34 (.tmp 1) rfl w.heap.size 0 rfl [.int .i64 p.kind, .int .i64 p.lie.node, .int .i64 p.lie.level, .int .i64 p.lie.pod, .int .i64 p.lie.mtu, .int .i64 p.lie.link, .int .i64 p.lie.nonce, .int .i64 p.lie.seen, .int .i64 p.lie.seenLink, .int .i64 p.lie.seenNonce, .int .i64 p.lie.hold, .bool p.lie.rep, .bool p.lie.noOffer, .int .i64 p.tie.head.id.dir, .int .i64 p.tie.head.id.orig, .int .i64 p.tie.head.id.kind, .int .i64 p.tie.head.id.nr, .int .i64 p.tie.head.seq, .int .i64 p.tie.head.life, .int .i64 p.tie.level, .bool p.tie.over, .slice ae p.tie.edges.length ce, .slice ar p.tie.reaches.length cr, .int .i64 p.frm.dir, .int .i64 p.frm.orig, .int .i64 p.frm.kind, .int .i64 p.frm.nr, .int .i64 p.to.dir, .int .i64 p.to.orig, .int .i64 p.to.kind, .int .i64 p.to.nr, .slice ah p.heads.length ch] _ (fun w hS => hS) Try.underlying34 rfl (by kernel_rfl) (fun _ _ _ h => h) (by assumption) ?_
  simp only [List.setIfInBounds_toArray, List.set_cons_zero, List.set_cons_succ]
  refine wpAnyH_ready (rs := [1]) (by kernel_rfl) (by simp) ?_
  refine AllReadyH.cons rfl (fun K hK => ?_) AllReadyH.nil
  go_simp
  go_at_call 9
  with_reducible refine (HI.out _ BD4.out).mono ?_
  rintro e w5 ⟨A5, n5, c5, rfl, hn5, -, -, hr5, hb⟩
  have N5 := Lib.hid hn5
  have I5 := Lib.hid hr5
  clear hn5 hr5
  have hb' : Below (w.heap.size + 1) (w.alloc (.cells #[.int .i64 p.kind, .int .i64 p.lie.node, .int .i64 p.lie.level, .int .i64 p.lie.pod, .int .i64 p.lie.mtu, .int .i64 p.lie.link, .int .i64 p.lie.nonce, .int .i64 p.lie.seen, .int .i64 p.lie.seenLink, .int .i64 p.lie.seenNonce, .int .i64 p.lie.hold, .bool p.lie.rep, .bool p.lie.noOffer, .int .i64 p.tie.head.id.dir, .int .i64 p.tie.head.id.orig, .int .i64 p.tie.head.id.kind, .int .i64 p.tie.head.id.nr, .int .i64 p.tie.head.seq, .int .i64 p.tie.head.life, .int .i64 p.tie.level, .bool p.tie.over, .slice ae p.tie.edges.length ce, .slice ar p.tie.reaches.length cr, .int .i64 p.frm.dir, .int .i64 p.frm.orig, .int .i64 p.frm.kind, .int .i64 p.frm.nr, .int .i64 p.to.dir, .int .i64 p.to.orig, .int .i64 p.to.kind, .int .i64 p.to.nr, .slice ah p.heads.length ch] 34)) _ := BD4.out.trans (hb.mono (by have h1 := HSZ.out; have h2 := BD4.out.size; omega))
  have B5 := Lib.hid hb'
  have rB5 := RP.out _ hb'
  have hw' : Below w4.heap.size w4 _ := BWQ.out.trans (hb.mono (BWQ.out.size))
  clear BWQ
  have BWQ := Lib.hid hw'
  clear hb hb' hw'
  go_simp
  refine hK.out _ _ rB5 (fun hSw5 => ?_)
  clear hK K
  refine wpAnyH_ready (rs := [3]) (by kernel_rfl) (by simp) ?_
  refine AllReadyH.cons rfl (fun K hK => ?_) AllReadyH.nil
  go_simp
  go_at_call 10
  with_reducible refine (HJ.out _ B5.out).mono ?_
  rintro e w6 ⟨A6, n6, c6, rfl, hn6, ho6, hb⟩
  obtain ⟨A9, n9, c9, hv9, -, -, -, hr6⟩ := rdI_own ho6 HBS.out
  injection hv9 with e1 e2 e3
  subst e1 e2 e3
  have N6 := Lib.hid hn6
  have I6 := Lib.hid hr6
  have I56 := Lib.hid (I5.out.below hb)
  have hle := hb.size
  clear hn6 hr6 ho6
  have hb' : Below (w.heap.size + 1) (w.alloc (.cells #[.int .i64 p.kind, .int .i64 p.lie.node, .int .i64 p.lie.level, .int .i64 p.lie.pod, .int .i64 p.lie.mtu, .int .i64 p.lie.link, .int .i64 p.lie.nonce, .int .i64 p.lie.seen, .int .i64 p.lie.seenLink, .int .i64 p.lie.seenNonce, .int .i64 p.lie.hold, .bool p.lie.rep, .bool p.lie.noOffer, .int .i64 p.tie.head.id.dir, .int .i64 p.tie.head.id.orig, .int .i64 p.tie.head.id.kind, .int .i64 p.tie.head.id.nr, .int .i64 p.tie.head.seq, .int .i64 p.tie.head.life, .int .i64 p.tie.level, .bool p.tie.over, .slice ae p.tie.edges.length ce, .slice ar p.tie.reaches.length cr, .int .i64 p.frm.dir, .int .i64 p.frm.orig, .int .i64 p.frm.kind, .int .i64 p.frm.nr, .int .i64 p.to.dir, .int .i64 p.to.orig, .int .i64 p.to.kind, .int .i64 p.to.nr, .slice ah p.heads.length ch] 34)) _ := B5.out.trans (hb.mono (by have h1 := HSZ.out; have h2 := B5.out.size; omega))
  have B6 := Lib.hid hb'
  have rB6 := RP.out _ hb'
  have hw' : Below w4.heap.size w4 _ := BWQ.out.trans (hb.mono (BWQ.out.size))
  clear BWQ
  have BWQ := Lib.hid hw'
  clear hb hb' hw'
  go_simp
  refine hK.out _ _ rB6 (fun hSw6 => ?_)
  clear hK K
  refine wpAnyH_ready (rs := [4]) (by kernel_rfl) (by simp) ?_
  refine AllReadyH.cons rfl (fun K hK => ?_) AllReadyH.nil
  go_simp
  go_at_call 8
  with_reducible refine (HSM.out _ _ _ _ _ _ _ N5.out N6.out (I56.out.mono hle) I6.out).mono ?_
  rintro e w7 ⟨rfl, hb⟩
  have hb' : Below (w.heap.size + 1) (w.alloc (.cells #[.int .i64 p.kind, .int .i64 p.lie.node, .int .i64 p.lie.level, .int .i64 p.lie.pod, .int .i64 p.lie.mtu, .int .i64 p.lie.link, .int .i64 p.lie.nonce, .int .i64 p.lie.seen, .int .i64 p.lie.seenLink, .int .i64 p.lie.seenNonce, .int .i64 p.lie.hold, .bool p.lie.rep, .bool p.lie.noOffer, .int .i64 p.tie.head.id.dir, .int .i64 p.tie.head.id.orig, .int .i64 p.tie.head.id.kind, .int .i64 p.tie.head.id.nr, .int .i64 p.tie.head.seq, .int .i64 p.tie.head.life, .int .i64 p.tie.level, .bool p.tie.over, .slice ae p.tie.edges.length ce, .slice ar p.tie.reaches.length cr, .int .i64 p.frm.dir, .int .i64 p.frm.orig, .int .i64 p.frm.kind, .int .i64 p.frm.nr, .int .i64 p.to.dir, .int .i64 p.to.orig, .int .i64 p.to.kind, .int .i64 p.to.nr, .slice ah p.heads.length ch] 34)) _ := B6.out.trans (hb.mono (by have h1 := HSZ.out; have h2 := B6.out.size; omega))
  have B7 := Lib.hid hb'
  have rB7 := RP.out _ hb'
  have hw' : Below w4.heap.size w4 _ := BWQ.out.trans (hb.mono (BWQ.out.size))
  clear BWQ
  have BWQ := Lib.hid hw'
  clear hb hb' hw'
  go_simp
  refine hK.out _ _ rB7 (fun hSw7 => ?_)
  clear hK K
  refine takeD (i := 5) (d := 9) (v := ?vt5) rfl rfl (by kernel_rfl) (by kernel_rfl) (by kernel_rfl) (fun _ _ _ h => h) rfl ?ht5 (by assumption) ?rt5
  case ht5 =>
    intro w hSw
    go_simp
    try with_reducible rfl
  simp only [List.setIfInBounds_toArray, List.set_cons_zero, List.set_cons_succ]
  refine wpAnyH_done (by kernel_rfl) ?_ _
  clear hS0 hSw5 hSw6 hSw7
  go_wp2
  have BW7 := BWQ
  have BD7 : RowKit.Hid (Below (w.heap.size + 1) (w.alloc (.cells #[.int .i64 p.kind, .int .i64 p.lie.node, .int .i64 p.lie.level, .int .i64 p.lie.pod, .int .i64 p.lie.mtu, .int .i64 p.lie.link, .int .i64 p.lie.nonce, .int .i64 p.lie.seen, .int .i64 p.lie.seenLink, .int .i64 p.lie.seenNonce, .int .i64 p.lie.hold, .bool p.lie.rep, .bool p.lie.noOffer, .int .i64 p.tie.head.id.dir, .int .i64 p.tie.head.id.orig, .int .i64 p.tie.head.id.kind, .int .i64 p.tie.head.id.nr, .int .i64 p.tie.head.seq, .int .i64 p.tie.head.life, .int .i64 p.tie.level, .bool p.tie.over, .slice ae p.tie.edges.length ce, .slice ar p.tie.reaches.length cr, .int .i64 p.frm.dir, .int .i64 p.frm.orig, .int .i64 p.frm.kind, .int .i64 p.frm.nr, .int .i64 p.to.dir, .int .i64 p.to.orig, .int .i64 p.to.kind, .int .i64 p.to.nr, .slice ah p.heads.length ch] 34)) w7.drew) := B7.out.drew
  have BW : RowKit.Hid (Below w4.heap.size w4 w7.drew) := BW7.out.drew
  have hS8 : W8S w4 [.int .i64 p.kind, .int .i64 p.lie.node, .int .i64 p.lie.level, .int .i64 p.lie.pod, .int .i64 p.lie.mtu, .int .i64 p.lie.link, .int .i64 p.lie.nonce, .int .i64 p.lie.seen, .int .i64 p.lie.seenLink, .int .i64 p.lie.seenNonce, .int .i64 p.lie.hold, .bool p.lie.rep, .bool p.lie.noOffer, .int .i64 p.tie.head.id.dir, .int .i64 p.tie.head.id.orig, .int .i64 p.tie.head.id.kind, .int .i64 p.tie.head.id.nr, .int .i64 p.tie.head.seq, .int .i64 p.tie.head.life, .int .i64 p.tie.level, .bool p.tie.over, .slice ae p.tie.edges.length ce, .slice ar p.tie.reaches.length cr, .int .i64 p.frm.dir, .int .i64 p.frm.orig, .int .i64 p.frm.kind, .int .i64 p.frm.nr, .int .i64 p.to.dir, .int .i64 p.to.orig, .int .i64 p.to.kind, .int .i64 p.to.nr, .slice ah p.heads.length ch] w.heap.size w7.drew := ⟨RP.out _ BD7.out, BW.out⟩
  have CV2 : RowKit.Hid (∀ W, Below w4.heap.size w4 W → (convert 37 9 (.slice A2 zs.length c2)).run Try.prog W = .ok (.string (strOfNums zs)) W) := fun W hW => conv_rd ((R23.out.mono hle4).below hW) c2
  have CV3 : RowKit.Hid (∀ W, Below w4.heap.size w4 W → (convert 37 9 (.slice A3 zs.length c3)).run Try.prog W = .ok (.string (strOfNums zs)) W) := fun W hW => conv_rd (R3.out.below hW) c3
  have BWP := BW
  refine wp_region_held_drew (S := W8S w4 [.int .i64 p.kind, .int .i64 p.lie.node, .int .i64 p.lie.level, .int .i64 p.lie.pod, .int .i64 p.lie.mtu, .int .i64 p.lie.link, .int .i64 p.lie.nonce, .int .i64 p.lie.seen, .int .i64 p.lie.seenLink, .int .i64 p.lie.seenNonce, .int .i64 p.lie.hold, .bool p.lie.rep, .bool p.lie.noOffer, .int .i64 p.tie.head.id.dir, .int .i64 p.tie.head.id.orig, .int .i64 p.tie.head.id.kind, .int .i64 p.tie.head.id.nr, .int .i64 p.tie.head.seq, .int .i64 p.tie.head.life, .int .i64 p.tie.level, .bool p.tie.over, .slice ae p.tie.edges.length ce, .slice ar p.tie.reaches.length cr, .int .i64 p.frm.dir, .int .i64 p.frm.orig, .int .i64 p.frm.kind, .int .i64 p.frm.nr, .int .i64 p.to.dir, .int .i64 p.to.orig, .int .i64 p.to.kind, .int .i64 p.to.nr, .slice ah p.heads.length ch] w.heap.size) (by kernel_rfl) hS8 (fun hS0 => ?_)
  refine takeD (i := 0) (d := 35) (v := ?vu0) rfl rfl (by kernel_rfl) (by kernel_rfl) (by kernel_rfl) (fun _ _ _ h => h) rfl ?hu0 (by assumption) ?ru0
  case hu0 =>
    intro w hSw
    go_simp
    try with_reducible rfl
  simp only [List.setIfInBounds_toArray, List.set_cons_zero, List.set_cons_succ]
  refine takeD (i := 1) (d := 36) (v := .string (strOfNums zs)) rfl rfl (by kernel_rfl) (by kernel_rfl) (by kernel_rfl) (fun _ _ _ h => h) rfl ?hc1 (by assumption) ?rc1
  case hc1 =>
    intro w hSw
    have cv := CV2.out w hSw.2
    go_simp
    try with_reducible rfl
  simp only [List.setIfInBounds_toArray, List.set_cons_zero, List.set_cons_succ]
  refine takeD (i := 2) (d := 37) (v := ?vu2) rfl rfl (by kernel_rfl) (by kernel_rfl) (by kernel_rfl) (fun _ _ _ h => h) rfl ?hu2 (by assumption) ?ru2
  case hu2 =>
    intro w hSw
    go_simp
    try with_reducible rfl
  simp only [List.setIfInBounds_toArray, List.set_cons_zero, List.set_cons_succ]
  refine takeD (i := 3) (d := 38) (v := .string (strOfNums zs)) rfl rfl (by kernel_rfl) (by kernel_rfl) (by kernel_rfl) (fun _ _ _ h => h) rfl ?hc3 (by assumption) ?rc3
  case hc3 =>
    intro w hSw
    have cv := CV3.out w hSw.2
    go_simp
    try with_reducible rfl
  simp only [List.setIfInBounds_toArray, List.set_cons_zero, List.set_cons_succ]
  refine takeD (i := 4) (d := 39) (v := ?vu4) rfl rfl (by kernel_rfl) (by kernel_rfl) (by kernel_rfl) (fun _ _ _ h => h) rfl ?hu4 (by assumption) ?ru4
  case hu4 =>
    intro w hSw
    go_simp
    try with_reducible rfl
  simp only [List.setIfInBounds_toArray, List.set_cons_zero, List.set_cons_succ]
  refine takeD (i := 5) (d := 40) (v := ?vu5) rfl rfl (by kernel_rfl) (by kernel_rfl) (by kernel_rfl) (fun _ _ _ h => h) rfl ?hu5 (by assumption) ?ru5
  case hu5 =>
    intro w hSw
    go_simp
    try with_reducible rfl
  simp only [List.setIfInBounds_toArray, List.set_cons_zero, List.set_cons_succ]
  refine takeG (i := 6) (d := 41) (v := ?vu6) rfl rfl (by kernel_rfl) (by kernel_rfl) (by kernel_rfl) (fun _ _ _ h => h) (by kernel_rfl) ?hu6 (by assumption) ?ru6
  case hu6 =>
    intro w hSw
    go_simp
    try with_reducible rfl
  simp only [List.setIfInBounds_toArray, List.set_cons_zero, List.set_cons_succ]
  refine takeG (i := 7) (d := 42) (v := ?vu7) rfl rfl (by kernel_rfl) (by kernel_rfl) (by kernel_rfl) (fun _ _ _ h => h) (by kernel_rfl) ?hu7 (by assumption) ?ru7
  case hu7 =>
    intro w hSw
    go_simp
    try with_reducible rfl
  simp only [List.setIfInBounds_toArray, List.set_cons_zero, List.set_cons_succ]
  refine takeG (i := 8) (d := 43) (v := ?vu8) rfl rfl (by kernel_rfl) (by kernel_rfl) (by kernel_rfl) (fun _ _ _ h => h) (by kernel_rfl) ?hu8 (by assumption) ?ru8
  case hu8 =>
    intro w hSw
    go_simp
    try with_reducible rfl
  simp only [List.setIfInBounds_toArray, List.set_cons_zero, List.set_cons_succ]
  refine takeD (i := 9) (d := 44) (v := ?vu9) rfl rfl (by kernel_rfl) (by kernel_rfl) (by kernel_rfl) (fun _ _ _ h => h) rfl ?hu9 (by assumption) ?ru9
  case hu9 =>
    intro w hSw
    go_simp
    try with_reducible rfl
  simp only [List.setIfInBounds_toArray, List.set_cons_zero, List.set_cons_succ]
  refine takeD (i := 10) (d := 45) (v := ?vu10) rfl rfl (by kernel_rfl) (by kernel_rfl) (by kernel_rfl) (fun _ _ _ h => h) rfl ?hu10 (by assumption) ?ru10
  case hu10 =>
    intro w hSw
    go_simp
    try with_reducible rfl
  simp only [List.setIfInBounds_toArray, List.set_cons_zero, List.set_cons_succ]
  refine takeG (i := 11) (d := 46) (v := ?vu11) rfl rfl (by kernel_rfl) (by kernel_rfl) (by kernel_rfl) (fun _ _ _ h => h) (by kernel_rfl) ?hu11 (by assumption) ?ru11
  case hu11 =>
    intro w hSw
    go_simp
    try with_reducible rfl
  simp only [List.setIfInBounds_toArray, List.set_cons_zero, List.set_cons_succ]
  refine takeD (i := 12) (d := 47) (v := ?vu12) rfl rfl (by kernel_rfl) (by kernel_rfl) (by kernel_rfl) (fun _ _ _ h => h) rfl ?hu12 (by assumption) ?ru12
  case hu12 =>
    intro w hSw
    go_simp
    try with_reducible rfl
  simp only [List.setIfInBounds_toArray, List.set_cons_zero, List.set_cons_succ]
  refine takeD (i := 13) (d := 48) (v := ?vu13) rfl rfl (by kernel_rfl) (by kernel_rfl) (by kernel_rfl) (fun _ _ _ h => h) rfl ?hu13 (by assumption) ?ru13
  case hu13 =>
    intro w hSw
    go_simp
    try with_reducible rfl
  simp only [List.setIfInBounds_toArray, List.set_cons_zero, List.set_cons_succ]
  refine takeLoad (i := 14) (d := 49) rfl rfl (by kernel_rfl) (by kernel_rfl) (by kernel_rfl) (by kernel_rfl) 34 (.tmp 1) rfl w.heap.size 0 rfl [.int .i64 p.kind, .int .i64 p.lie.node, .int .i64 p.lie.level, .int .i64 p.lie.pod, .int .i64 p.lie.mtu, .int .i64 p.lie.link, .int .i64 p.lie.nonce, .int .i64 p.lie.seen, .int .i64 p.lie.seenLink, .int .i64 p.lie.seenNonce, .int .i64 p.lie.hold, .bool p.lie.rep, .bool p.lie.noOffer, .int .i64 p.tie.head.id.dir, .int .i64 p.tie.head.id.orig, .int .i64 p.tie.head.id.kind, .int .i64 p.tie.head.id.nr, .int .i64 p.tie.head.seq, .int .i64 p.tie.head.life, .int .i64 p.tie.level, .bool p.tie.over, .slice ae p.tie.edges.length ce, .slice ar p.tie.reaches.length cr, .int .i64 p.frm.dir, .int .i64 p.frm.orig, .int .i64 p.frm.kind, .int .i64 p.frm.nr, .int .i64 p.to.dir, .int .i64 p.to.orig, .int .i64 p.to.kind, .int .i64 p.to.nr, .slice ah p.heads.length ch] _ (fun w hS => hS.1) Try.underlying34 rfl (by kernel_rfl) (fun _ _ _ h => h) (by assumption) ?_
  simp only [List.setIfInBounds_toArray, List.set_cons_zero, List.set_cons_succ]
  refine takeLoad (i := 16) (d := 51) rfl rfl (by kernel_rfl) (by kernel_rfl) (by kernel_rfl) (by kernel_rfl) 34 (.tmp 1) rfl w.heap.size 0 rfl [.int .i64 p.kind, .int .i64 p.lie.node, .int .i64 p.lie.level, .int .i64 p.lie.pod, .int .i64 p.lie.mtu, .int .i64 p.lie.link, .int .i64 p.lie.nonce, .int .i64 p.lie.seen, .int .i64 p.lie.seenLink, .int .i64 p.lie.seenNonce, .int .i64 p.lie.hold, .bool p.lie.rep, .bool p.lie.noOffer, .int .i64 p.tie.head.id.dir, .int .i64 p.tie.head.id.orig, .int .i64 p.tie.head.id.kind, .int .i64 p.tie.head.id.nr, .int .i64 p.tie.head.seq, .int .i64 p.tie.head.life, .int .i64 p.tie.level, .bool p.tie.over, .slice ae p.tie.edges.length ce, .slice ar p.tie.reaches.length cr, .int .i64 p.frm.dir, .int .i64 p.frm.orig, .int .i64 p.frm.kind, .int .i64 p.frm.nr, .int .i64 p.to.dir, .int .i64 p.to.orig, .int .i64 p.to.kind, .int .i64 p.to.nr, .slice ah p.heads.length ch] _ (fun w hS => hS.1) Try.underlying34 rfl (by kernel_rfl) (fun _ _ _ h => h) (by assumption) ?_
  simp only [List.setIfInBounds_toArray, List.set_cons_zero, List.set_cons_succ]
  refine wpAnyH_ready (rs := [15]) (by kernel_rfl) (by simp) ?_
  refine AllReadyH.cons rfl (fun K hK => ?_) AllReadyH.nil
  go_simp
  go_at_call 11
  with_reducible refine (HR.out _ BD7.out).mono ?_
  rintro e w8 ⟨rfl, hb⟩
  have hb' : Below (w.heap.size + 1) (w.alloc (.cells #[.int .i64 p.kind, .int .i64 p.lie.node, .int .i64 p.lie.level, .int .i64 p.lie.pod, .int .i64 p.lie.mtu, .int .i64 p.lie.link, .int .i64 p.lie.nonce, .int .i64 p.lie.seen, .int .i64 p.lie.seenLink, .int .i64 p.lie.seenNonce, .int .i64 p.lie.hold, .bool p.lie.rep, .bool p.lie.noOffer, .int .i64 p.tie.head.id.dir, .int .i64 p.tie.head.id.orig, .int .i64 p.tie.head.id.kind, .int .i64 p.tie.head.id.nr, .int .i64 p.tie.head.seq, .int .i64 p.tie.head.life, .int .i64 p.tie.level, .bool p.tie.over, .slice ae p.tie.edges.length ce, .slice ar p.tie.reaches.length cr, .int .i64 p.frm.dir, .int .i64 p.frm.orig, .int .i64 p.frm.kind, .int .i64 p.frm.nr, .int .i64 p.to.dir, .int .i64 p.to.orig, .int .i64 p.to.kind, .int .i64 p.to.nr, .slice ah p.heads.length ch] 34)) _ := BD7.out.trans (hb.mono (by have h1 := HSZ.out; have h2 := BD7.out.size; omega))
  have B8 := Lib.hid hb'
  have hw' : Below w4.heap.size w4 _ := BWP.out.trans (hb.mono (BWP.out.size))
  have rB8 : W8S w4 [.int .i64 p.kind, .int .i64 p.lie.node, .int .i64 p.lie.level, .int .i64 p.lie.pod, .int .i64 p.lie.mtu, .int .i64 p.lie.link, .int .i64 p.lie.nonce, .int .i64 p.lie.seen, .int .i64 p.lie.seenLink, .int .i64 p.lie.seenNonce, .int .i64 p.lie.hold, .bool p.lie.rep, .bool p.lie.noOffer, .int .i64 p.tie.head.id.dir, .int .i64 p.tie.head.id.orig, .int .i64 p.tie.head.id.kind, .int .i64 p.tie.head.id.nr, .int .i64 p.tie.head.seq, .int .i64 p.tie.head.life, .int .i64 p.tie.level, .bool p.tie.over, .slice ae p.tie.edges.length ce, .slice ar p.tie.reaches.length cr, .int .i64 p.frm.dir, .int .i64 p.frm.orig, .int .i64 p.frm.kind, .int .i64 p.frm.nr, .int .i64 p.to.dir, .int .i64 p.to.orig, .int .i64 p.to.kind, .int .i64 p.to.nr, .slice ah p.heads.length ch] w.heap.size _ := ⟨RP.out _ hb', hw'⟩
  clear BWP
  have BWP := Lib.hid hw'
  clear hb hb' hw'
  go_simp
  refine hK.out _ _ rB8 (fun hSw8 => ?_)
  clear hK K
  refine wpAnyH_ready (rs := [17]) (by kernel_rfl) (by simp) ?_
  refine AllReadyH.cons rfl (fun K hK => ?_) AllReadyH.nil
  go_simp
  go_at_call 12
  with_reducible refine (HQ.out _ B8.out).mono ?_
  rintro e w9 ⟨rfl, hb⟩
  have hb' : Below (w.heap.size + 1) (w.alloc (.cells #[.int .i64 p.kind, .int .i64 p.lie.node, .int .i64 p.lie.level, .int .i64 p.lie.pod, .int .i64 p.lie.mtu, .int .i64 p.lie.link, .int .i64 p.lie.nonce, .int .i64 p.lie.seen, .int .i64 p.lie.seenLink, .int .i64 p.lie.seenNonce, .int .i64 p.lie.hold, .bool p.lie.rep, .bool p.lie.noOffer, .int .i64 p.tie.head.id.dir, .int .i64 p.tie.head.id.orig, .int .i64 p.tie.head.id.kind, .int .i64 p.tie.head.id.nr, .int .i64 p.tie.head.seq, .int .i64 p.tie.head.life, .int .i64 p.tie.level, .bool p.tie.over, .slice ae p.tie.edges.length ce, .slice ar p.tie.reaches.length cr, .int .i64 p.frm.dir, .int .i64 p.frm.orig, .int .i64 p.frm.kind, .int .i64 p.frm.nr, .int .i64 p.to.dir, .int .i64 p.to.orig, .int .i64 p.to.kind, .int .i64 p.to.nr, .slice ah p.heads.length ch] 34)) _ := B8.out.trans (hb.mono (by have h1 := HSZ.out; have h2 := B8.out.size; omega))
  have B9 := Lib.hid hb'
  have hw' : Below w4.heap.size w4 _ := BWP.out.trans (hb.mono (BWP.out.size))
  have rB9 : W8S w4 [.int .i64 p.kind, .int .i64 p.lie.node, .int .i64 p.lie.level, .int .i64 p.lie.pod, .int .i64 p.lie.mtu, .int .i64 p.lie.link, .int .i64 p.lie.nonce, .int .i64 p.lie.seen, .int .i64 p.lie.seenLink, .int .i64 p.lie.seenNonce, .int .i64 p.lie.hold, .bool p.lie.rep, .bool p.lie.noOffer, .int .i64 p.tie.head.id.dir, .int .i64 p.tie.head.id.orig, .int .i64 p.tie.head.id.kind, .int .i64 p.tie.head.id.nr, .int .i64 p.tie.head.seq, .int .i64 p.tie.head.life, .int .i64 p.tie.level, .bool p.tie.over, .slice ae p.tie.edges.length ce, .slice ar p.tie.reaches.length cr, .int .i64 p.frm.dir, .int .i64 p.frm.orig, .int .i64 p.frm.kind, .int .i64 p.frm.nr, .int .i64 p.to.dir, .int .i64 p.to.orig, .int .i64 p.to.kind, .int .i64 p.to.nr, .slice ah p.heads.length ch] w.heap.size _ := ⟨RP.out _ hb', hw'⟩
  clear BWP
  have BWP := Lib.hid hw'
  clear hb hb' hw'
  go_simp
  refine hK.out _ _ rB9 (fun hSw9 => ?_)
  clear hK K
  refine takeG (i := 18) (d := 53) (v := ?vu18) rfl rfl (by kernel_rfl) (by kernel_rfl) (by kernel_rfl) (fun _ _ _ h => h) (by kernel_rfl) ?hu18 (by assumption) ?ru18
  case hu18 =>
    intro w hSw
    go_simp
    try with_reducible rfl
  simp only [List.setIfInBounds_toArray, List.set_cons_zero, List.set_cons_succ]
  refine takeD (i := 19) (d := 54) (v := ?vu19) rfl rfl (by kernel_rfl) (by kernel_rfl) (by kernel_rfl) (fun _ _ _ h => h) rfl ?hu19 (by assumption) ?ru19
  case hu19 =>
    intro w hSw
    go_simp
    try with_reducible rfl
  simp only [List.setIfInBounds_toArray, List.set_cons_zero, List.set_cons_succ]
  refine takeD (i := 20) (d := 2) (v := ?vu20) rfl rfl (by kernel_rfl) (by kernel_rfl) (by kernel_rfl) (fun _ _ _ h => h) rfl ?hu20 (by assumption) ?ru20
  case hu20 =>
    intro w hSw
    go_simp
    try with_reducible rfl
  simp only [List.setIfInBounds_toArray, List.set_cons_zero, List.set_cons_succ]
  refine wpAnyH_done (by kernel_rfl) ?_ _
  clear hS0 hSw8 hSw9
  go_wp2
  go_ret
  exact ⟨rfl, HB0.out.trans (B9.out.mono (by omega))⟩
theorem wencodes_walk (p : PackT) (ae ar ah : Option Addr) (ce cr ch : Nat) (w : World) (hp : Pk w.heap.size w p ae ar ah ce cr ch) : Calls Try.prog 3 #[.agg #[.int .i64 p.kind, .int .i64 p.lie.node, .int .i64 p.lie.level, .int .i64 p.lie.pod, .int .i64 p.lie.mtu, .int .i64 p.lie.link, .int .i64 p.lie.nonce, .int .i64 p.lie.seen, .int .i64 p.lie.seenLink, .int .i64 p.lie.seenNonce, .int .i64 p.lie.hold, .bool p.lie.rep, .bool p.lie.noOffer, .int .i64 p.tie.head.id.dir, .int .i64 p.tie.head.id.orig, .int .i64 p.tie.head.id.kind, .int .i64 p.tie.head.id.nr, .int .i64 p.tie.head.seq, .int .i64 p.tie.head.life, .int .i64 p.tie.level, .bool p.tie.over, .slice ae p.tie.edges.length ce, .slice ar p.tie.reaches.length cr, .int .i64 p.frm.dir, .int .i64 p.frm.orig, .int .i64 p.frm.kind, .int .i64 p.frm.nr, .int .i64 p.to.dir, .int .i64 p.to.orig, .int .i64 p.to.kind, .int .i64 p.to.nr, .slice ah p.heads.length ch]] w fun e w' => e = .returned (.bool true) ∧ Below w.heap.size w w' := by
  by_cases hf : few3 p = true
  · exact wencodes_ok p ae ar ah ce cr ch w hp hf
  · exact wencodes_few p ae ar ah ce cr ch w hp (by simpa using hf)
end Go.Proofs.Ytjkibgnkkienbaa

namespace Go.Proofs.Ytjkibgnkkienbaa.wireEncodes
open Go.ChangeShapes Go.WideShapes Go.ChangeAt Go.RowKit
set_option linter.unusedVariables false

theorem own : ownKnob Try.prog.godebug = none := by kernel_rfl
theorem laidOut : laidOutB Try.prog = true := by kernel_rfl

set_option maxRecDepth 100000 in
theorem lifted (os : Os) (started : os.Started) (H : Type) (enc : TypeId × Value → H) :
    ReturnsInHanded {} Try.checked os 3 .any (Rows.wireEncodesSpec.pre6 enc Try.prog Try.f3 Rows.wireEncodesRow.domain false) (Rows.wireEncodesSpec.post enc Try.prog Try.f3 false true false false) := by
  refine returnsInHanded_of_change_sized (C := Try.checked) own started (by kernel_rfl) Try.func3
    (ChangeSpec.witness6 (enc := enc) (C := Try.checked) false ⟨#[], #[.agg #[.int .i64 0, .int .i64 0, .int .i64 0, .int .i64 0, .int .i64 0, .int .i64 0, .int .i64 0, .int .i64 0, .int .i64 0, .int .i64 0, .int .i64 0, .bool false, .bool false, .int .i64 0, .int .i64 0, .int .i64 0, .int .i64 0, .int .i64 0, .int .i64 0, .int .i64 0, .bool false, .slice none 0 0, .slice none 0 0, .int .i64 0, .int .i64 0, .int .i64 0, .int .i64 0, .int .i64 0, .int .i64 0, .int .i64 0, .int .i64 0, .slice none 0 0]], []⟩ 8 (by kernel_rfl) (by kernel_rfl) (by kernel_rfl) (by kernel_rfl)) ?_
  intro W base args ds gs before hval0 hW hcnd hsz0 _
  have hval : ∀ (j : Nat) t v, Try.f3.params[j]? = some t → args[j]? = some v → Value.okWide Try.prog W .any base t v := hval0
  have hW' := hW
  obtain ⟨p, q, hA0, hV, rfl, hfz, hnd⟩ := hW
  have hA : DataW.TrodAll enc Try.prog W 0 (fun _ => true) true Try.f3.params.toList args.toList ds p := hA0
  have hsz : (DataW.weightsEach Try.prog (Try.f3.params.toList ++ Rows.wireEncodesSpec.plain.varTypes Try.prog) (ds ++ gs)).all (· ≤ reachBytes) = true := hsz0
  rw [Try.params3] at hA hval hsz
  obtain ⟨v0, vs0, d0, ds0, p0, q0, hargs, rfl, rfl, h0, r0⟩ := trodAll_cons hA
  obtain ⟨rfl, rfl, rfl⟩ := trodAll_nil r0
  obtain rfl : args = #[v0] := by cases args; simp_all
  obtain ⟨rfl, rfl⟩ := trodVars_none hV
  obtain ⟨cs0, rfl, _⟩ := okWide_struct Try.underlying34 (hval 0 34 v0 rfl rfl)
  have k0 := h0
  have lt0 : ∀ x ∈ p0, x.block < W.heap.size := by obtain ⟨m, hm⟩ := k0; exact DataW.trod_lt m _ _ _ hm
  obtain ⟨P0, ae0, ar0, ah0, ce0, cr0, ch0, rfl, w0⟩ := pk_of h0 (fun n hn => by simpa using List.all_eq_true.1 hsz n (DataW.weights_mem_each (j := 0) rfl rfl n hn))
  clear hA0 hval0
  refine (wencodes_walk P0 ae0 ar0 ah0 ce0 cr0 ch0 W w0).mono fun e W' ⟨he, bel⟩ => ?_
  subst he
  exact ⟨_, rfl, _, _, _, [], _, [], hW', trodAll_mk1 (shut_bool Try.underlying4 _), (trodAll_cons_mk (Below.trod laidOut (by kernel_rfl) (of_decide_eq_true (by kernel_rfl)) k0 bel lt0) trodAll_mk0), rfl, bel.frame _, fun h => by cases h⟩

theorem over : Rows.wireEncodesRow.holds Try.pinned (OpenSpec.ofChange Rows.wireEncodesSpec) :=
  OpenClaim.holds_of_wide 3 Try.f3 rfl rfl rfl rfl rfl rfl rfl ⟨rfl, rfl, rfl, rfl, rfl⟩ rfl rfl rfl rfl rfl (by kernel_rfl) Try.func3 (by kernel_rfl)
    (of_decide_eq_true (by kernel_rfl)) (by unfold Func.isWrapper; first | (rw [if_pos (by decide +kernel)]; kernel_rfl) | (rw [if_neg (by decide +kernel)]; exact ⟨rfl, rfl⟩))
    (fun os started H enc _ => lifted os started H enc)

theorem proved : Rows.WireEncodesSaid := over
#print axioms proved
end Go.Proofs.Ytjkibgnkkienbaa.wireEncodes
