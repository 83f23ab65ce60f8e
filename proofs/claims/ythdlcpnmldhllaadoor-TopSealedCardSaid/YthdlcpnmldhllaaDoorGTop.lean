/-
  TopSealed: for every packet, key and Outer the law answers true: a packet that is encoded, and wrapped, is opened, and decoded, as it was. The tables 'places', 'start' and 'k' start as the program's text lays them (the card's tie). No other condition.
-/
import Derived.Test.YthdlcpnmldhllaaDoorGWB
import Derived.Test.YthdlcpnmldhllaaDoorGWA
import Derived.Test.YthdlcpnmldhllaaDoorGS
import Derived.Test.YthdlcpnmldhllaaDoorGH
import Derived.Test.YthdlcpnmldhllaaDoorCards
import Derived.WalkKit
import Derived.ProofKit
import Derived.OpenShut
import Derived.ShutString
import Derived.ChangeOld
import Derived.Below
import Derived.Stop.Joined
import Derived.SevenTiedAt

/-
  TopSealed: bytes as numbers, and as natural numbers; what Encode answers.
-/
namespace Go.Proofs.YthdlcpnmldhllaaDoor
open Go.RowKit Go.Shelf
set_option linter.unusedVariables false
set_option linter.unusedSimpArgs false
/-- Bytes, and a number. -/
def GotZ (zs : List Int) (k : Int) (w : World) (e : Ending) (w' : World) : Prop := ∃ A c, e = .returned (.tuple #[.slice A zs.length c, .int .i64 k]) ∧ Rd .u8 w'.heap.size w' A zs ∧ Below w.heap.size w w'
theorem GotB.z {zs : List Int} {w w' : World} {e : Ending} (h : GotB zs w e w') : GotZ zs 0 w e w' := by
  obtain ⟨A, c, he, _, _, hr, hb⟩ := h
  exact ⟨A, c, he, hr, hb⟩
theorem got_none {k : Int} {w w' : World} (hb : Below w.heap.size w w') : GotZ [] k w (.returned (.tuple #[.slice none 0 0, .int .i64 k])) w' := ⟨none, 0, rfl, fun h => by simp at h, hb⟩
def bytesW (p : PackT) : List Int := if rightW p = true ∧ ¬ 4096 < (encL (packI p)).length then encL (packI p) else []
def errW (p : PackT) : Int := if rightW p = false then 1 else if 4096 < (encL (packI p)).length then 3 else 0
theorem wenc_z (p : PackT) (ae ar ah : Option Addr) (ce cr ch : Nat) (w : World) (hp : Pk w.heap.size w p ae ar ah ce cr ch) : Calls Tryd.prog 4 #[.agg #[.int .i64 p.kind, .int .i64 p.lie.node, .int .i64 p.lie.level, .int .i64 p.lie.pod, .int .i64 p.lie.mtu, .int .i64 p.lie.link, .int .i64 p.lie.nonce, .int .i64 p.lie.seen, .int .i64 p.lie.seenLink, .int .i64 p.lie.seenNonce, .int .i64 p.lie.hold, .bool p.lie.rep, .bool p.lie.noOffer, .int .i64 p.tie.head.id.dir, .int .i64 p.tie.head.id.orig, .int .i64 p.tie.head.id.kind, .int .i64 p.tie.head.id.nr, .int .i64 p.tie.head.seq, .int .i64 p.tie.head.life, .int .i64 p.tie.level, .bool p.tie.over, .slice ae p.tie.edges.length ce, .slice ar p.tie.reaches.length cr, .int .i64 p.frm.dir, .int .i64 p.frm.orig, .int .i64 p.frm.kind, .int .i64 p.frm.nr, .int .i64 p.to.dir, .int .i64 p.to.orig, .int .i64 p.to.kind, .int .i64 p.to.nr, .slice ah p.heads.length ch]] w (GotZ (bytesW p) (errW p) w) := by
  unfold bytesW errW
  by_cases hr : rightW p = true
  · rw [if_neg (show ¬ rightW p = false by simp [hr])]
    by_cases hx : 4096 < (encL (packI p)).length
    · rw [if_pos hx, if_neg (fun q => q.2 hx)]
      refine (wenc_full p ae ar ah ce cr ch w hp hr hx).mono fun e w' h => ?_
      obtain ⟨rfl, hb⟩ := h
      exact got_none hb
    · rw [if_neg hx, if_pos ⟨hr, hx⟩]
      exact (wenc_ok p ae ar ah ce cr ch w hp hr hx _ rfl).mono fun e w' h => h.z
  · rw [if_pos (show rightW p = false by simpa using hr), if_neg (fun q => hr q.1)]
    refine (wenc_arg p ae ar ah ce cr ch w hp (by simpa using hr)).mono fun e w' h => ?_
    obtain ⟨rfl, hb⟩ := h
    exact got_none hb
def natsB (zs : List Int) : List Nat := zs.map Int.toNat
theorem nats_len (zs : List Int) : (natsB zs).length = zs.length := by simp [natsB]
theorem nats_lt {zs : List Int} (hz : ∀ x ∈ zs, 0 ≤ x ∧ x ≤ 255) : ∀ x ∈ natsB zs, x < 256 := fun x hx => by
  obtain ⟨z, hm, rfl⟩ := List.mem_map.1 hx
  have := hz z hm
  omega
theorem rdN_of {n₀ : Nat} {W : World} {a : Option Addr} {zs : List Int} (h : Rd .u8 n₀ W a zs) (hz : ∀ x ∈ zs, 0 ≤ x ∧ x ≤ 255) : sl.RdN n₀ W a (natsB zs) := fun hp => by
  obtain ⟨b, off, e, hb, hc⟩ := h (by rwa [nats_len] at hp)
  refine ⟨b, off, e, hb, fun j x hx => ?_⟩
  obtain ⟨z, hj, rfl⟩ : ∃ z, zs[j]? = some z ∧ z.toNat = x := by
    unfold natsB at hx
    rw [List.getElem?_map] at hx
    exact Option.map_eq_some_iff.1 hx
  have := hc j (List.getElem?_eq_some_iff.1 hj).1
  rw [hj] at this
  rw [this]
  have hz := hz z (List.mem_of_getElem? hj)
  simp only [Option.getD_some]
  rw [Int.toNat_of_nonneg hz.1]
theorem rd_ofN {n₀ : Nat} {W : World} {a : Option Addr} {zs : List Int} (h : sl.RdN n₀ W a (natsB zs)) (hz : ∀ x ∈ zs, 0 ≤ x ∧ x ≤ 255) : Rd .u8 n₀ W a zs := fun hp => by
  obtain ⟨b, off, e, hb, hc⟩ := h (by rwa [nats_len])
  refine ⟨b, off, e, hb, fun j hj => ?_⟩
  obtain ⟨z, hz0⟩ : ∃ z, zs[j]? = some z := ⟨_, List.getElem?_eq_getElem hj⟩
  have := hc j z.toNat (by unfold natsB; rw [List.getElem?_map, hz0]; rfl)
  rw [this, hz0]
  have hz := hz z (List.mem_of_getElem? hz0)
  simp only [Option.getD_some]
  rw [Int.toNat_of_nonneg hz.1]
theorem bytes_len (p : PackT) : (bytesW p).length ≤ 4096 := by
  unfold bytesW
  split
  · rename_i h; omega
  · simp
theorem bytes_u8 (p : PackT) : ∀ x ∈ bytesW p, 0 ≤ x ∧ x ≤ 255 := by
  unfold bytesW
  split
  · rename_i h; exact encL_range fun x hx => (pack_all h.1 x hx).1
  · simp
theorem err_ok {p : PackT} (h : errW p = 0) : rightW p = true ∧ ¬ 4096 < (encL (packI p)).length ∧ bytesW p = encL (packI p) := by
  unfold errW at h
  split at h
  · cases h
  · rename_i h1
    split at h
    · cases h
    · rename_i h2
      have h1 : rightW p = true := by simpa using h1
      exact ⟨h1, h2, by unfold bytesW; rw [if_pos ⟨h1, h2⟩]⟩
theorem arr_range {W : World} {g : Nat} {t : TypeId} {vs : List Value} (h : sl.Arr W g t vs) : W.rangeAt g 0 vs := fun j v hv => by
  rw [Nat.zero_add]
  exact (h.cell j).trans hv
end Go.Proofs.YthdlcpnmldhllaaDoor

/-
  TopSealed: the law's walk.
-/
namespace Go.Proofs.YthdlcpnmldhllaaDoor
open Go.RowKit Go.Shelf
open sl
set_option linter.unusedVariables false
set_option linter.unusedSimpArgs false
set_option maxRecDepth 100000 in
set_option maxHeartbeats 6400000 in
theorem top_few (p : PackT) (ae ar ah : Option Addr) (ce cr ch : Nat) (id : Int) (sA : Option Addr) (sc : Nat) (sec : List Nat) (k l r f : Int) (w : World) (hp : Pk w.heap.size w p ae ar ah ce cr ch) (hs : sl.InB w sA sec.length sc sec) (hT : Tab w) (hU : sl.Tabs w) (hf : few3 p = false) : Calls Tryd.prog 3 #[.agg #[.int .i64 p.kind, .int .i64 p.lie.node, .int .i64 p.lie.level, .int .i64 p.lie.pod, .int .i64 p.lie.mtu, .int .i64 p.lie.link, .int .i64 p.lie.nonce, .int .i64 p.lie.seen, .int .i64 p.lie.seenLink, .int .i64 p.lie.seenNonce, .int .i64 p.lie.hold, .bool p.lie.rep, .bool p.lie.noOffer, .int .i64 p.tie.head.id.dir, .int .i64 p.tie.head.id.orig, .int .i64 p.tie.head.id.kind, .int .i64 p.tie.head.id.nr, .int .i64 p.tie.head.seq, .int .i64 p.tie.head.life, .int .i64 p.tie.level, .bool p.tie.over, .slice ae p.tie.edges.length ce, .slice ar p.tie.reaches.length cr, .int .i64 p.frm.dir, .int .i64 p.frm.orig, .int .i64 p.frm.kind, .int .i64 p.frm.nr, .int .i64 p.to.dir, .int .i64 p.to.orig, .int .i64 p.to.kind, .int .i64 p.to.nr, .slice ah p.heads.length ch], .agg #[.int .i64 id, .slice sA sec.length sc], .agg #[.int .i64 k, .int .i64 l, .int .i64 r, .int .i64 f]] w fun e w' => e = .returned (.bool true) ∧ Below w.heap.size w w' := by
  have HF := Lib.hid hf
  clear hf
  obtain ⟨_, hsc, hsm, hsb, hsr⟩ := hs
  have hsl : sec.length ≤ 9223372036854775807 := by unfold maxLen at hsm; omega
  obtain ⟨Y, hY⟩ : ∃ Y, ((w.alloc (.cells #[.int .i64 p.kind, .int .i64 p.lie.node, .int .i64 p.lie.level, .int .i64 p.lie.pod, .int .i64 p.lie.mtu, .int .i64 p.lie.link, .int .i64 p.lie.nonce, .int .i64 p.lie.seen, .int .i64 p.lie.seenLink, .int .i64 p.lie.seenNonce, .int .i64 p.lie.hold, .bool p.lie.rep, .bool p.lie.noOffer, .int .i64 p.tie.head.id.dir, .int .i64 p.tie.head.id.orig, .int .i64 p.tie.head.id.kind, .int .i64 p.tie.head.id.nr, .int .i64 p.tie.head.seq, .int .i64 p.tie.head.life, .int .i64 p.tie.level, .bool p.tie.over, .slice ae p.tie.edges.length ce, .slice ar p.tie.reaches.length cr, .int .i64 p.frm.dir, .int .i64 p.frm.orig, .int .i64 p.frm.kind, .int .i64 p.frm.nr, .int .i64 p.to.dir, .int .i64 p.to.orig, .int .i64 p.to.kind, .int .i64 p.to.nr, .slice ah p.heads.length ch] 34)).alloc (.cells #[.int .i64 id, .slice sA sec.length sc] 37)).alloc (.cells #[.int .i64 k, .int .i64 l, .int .i64 r, .int .i64 f] 39) = Y := ⟨_, rfl⟩
  have hBY : Below w.heap.size w Y := by rw [← hY]; exact (((Below.refl w.heap.size w).alloc (Nat.le_refl _) _).alloc (by simp) _).alloc (by simp; omega) _
  have hYs : Y.heap.size = w.heap.size + 3 := by rw [← hY]; simp
  have hap : sl.Arr Y w.heap.size 34 [.int .i64 p.kind, .int .i64 p.lie.node, .int .i64 p.lie.level, .int .i64 p.lie.pod, .int .i64 p.lie.mtu, .int .i64 p.lie.link, .int .i64 p.lie.nonce, .int .i64 p.lie.seen, .int .i64 p.lie.seenLink, .int .i64 p.lie.seenNonce, .int .i64 p.lie.hold, .bool p.lie.rep, .bool p.lie.noOffer, .int .i64 p.tie.head.id.dir, .int .i64 p.tie.head.id.orig, .int .i64 p.tie.head.id.kind, .int .i64 p.tie.head.id.nr, .int .i64 p.tie.head.seq, .int .i64 p.tie.head.life, .int .i64 p.tie.level, .bool p.tie.over, .slice ae p.tie.edges.length ce, .slice ar p.tie.reaches.length cr, .int .i64 p.frm.dir, .int .i64 p.frm.orig, .int .i64 p.frm.kind, .int .i64 p.frm.nr, .int .i64 p.to.dir, .int .i64 p.to.orig, .int .i64 p.to.kind, .int .i64 p.to.nr, .slice ah p.heads.length ch] := by rw [← hY]; exact ((sl.Arr.new w 34 [.int .i64 p.kind, .int .i64 p.lie.node, .int .i64 p.lie.level, .int .i64 p.lie.pod, .int .i64 p.lie.mtu, .int .i64 p.lie.link, .int .i64 p.lie.nonce, .int .i64 p.lie.seen, .int .i64 p.lie.seenLink, .int .i64 p.lie.seenNonce, .int .i64 p.lie.hold, .bool p.lie.rep, .bool p.lie.noOffer, .int .i64 p.tie.head.id.dir, .int .i64 p.tie.head.id.orig, .int .i64 p.tie.head.id.kind, .int .i64 p.tie.head.id.nr, .int .i64 p.tie.head.seq, .int .i64 p.tie.head.life, .int .i64 p.tie.level, .bool p.tie.over, .slice ae p.tie.edges.length ce, .slice ar p.tie.reaches.length cr, .int .i64 p.frm.dir, .int .i64 p.frm.orig, .int .i64 p.frm.kind, .int .i64 p.frm.nr, .int .i64 p.to.dir, .int .i64 p.to.orig, .int .i64 p.to.kind, .int .i64 p.to.nr, .slice ah p.heads.length ch]).alloc _).alloc _
  have hak : sl.Arr Y (w.heap.size + 1) 37 [.int .i64 id, .slice sA sec.length sc] := by rw [← hY]; exact (sl.Arr.new2 w (.cells #[.int .i64 p.kind, .int .i64 p.lie.node, .int .i64 p.lie.level, .int .i64 p.lie.pod, .int .i64 p.lie.mtu, .int .i64 p.lie.link, .int .i64 p.lie.nonce, .int .i64 p.lie.seen, .int .i64 p.lie.seenLink, .int .i64 p.lie.seenNonce, .int .i64 p.lie.hold, .bool p.lie.rep, .bool p.lie.noOffer, .int .i64 p.tie.head.id.dir, .int .i64 p.tie.head.id.orig, .int .i64 p.tie.head.id.kind, .int .i64 p.tie.head.id.nr, .int .i64 p.tie.head.seq, .int .i64 p.tie.head.life, .int .i64 p.tie.level, .bool p.tie.over, .slice ae p.tie.edges.length ce, .slice ar p.tie.reaches.length cr, .int .i64 p.frm.dir, .int .i64 p.frm.orig, .int .i64 p.frm.kind, .int .i64 p.frm.nr, .int .i64 p.to.dir, .int .i64 p.to.orig, .int .i64 p.to.kind, .int .i64 p.to.nr, .slice ah p.heads.length ch] 34) 37 [.int .i64 id, .slice sA sec.length sc]).alloc _
  have hao : sl.Arr Y (w.heap.size + 2) 39 [.int .i64 k, .int .i64 l, .int .i64 r, .int .i64 f] := by rw [← hY]; simpa using sl.Arr.new2 (w.alloc (.cells #[.int .i64 p.kind, .int .i64 p.lie.node, .int .i64 p.lie.level, .int .i64 p.lie.pod, .int .i64 p.lie.mtu, .int .i64 p.lie.link, .int .i64 p.lie.nonce, .int .i64 p.lie.seen, .int .i64 p.lie.seenLink, .int .i64 p.lie.seenNonce, .int .i64 p.lie.hold, .bool p.lie.rep, .bool p.lie.noOffer, .int .i64 p.tie.head.id.dir, .int .i64 p.tie.head.id.orig, .int .i64 p.tie.head.id.kind, .int .i64 p.tie.head.id.nr, .int .i64 p.tie.head.seq, .int .i64 p.tie.head.life, .int .i64 p.tie.level, .bool p.tie.over, .slice ae p.tie.edges.length ce, .slice ar p.tie.reaches.length cr, .int .i64 p.frm.dir, .int .i64 p.frm.orig, .int .i64 p.frm.kind, .int .i64 p.frm.nr, .int .i64 p.to.dir, .int .i64 p.to.orig, .int .i64 p.to.kind, .int .i64 p.to.nr, .slice ah p.heads.length ch] 34)) (.cells #[.int .i64 id, .slice sA sec.length sc] 37) 39 [.int .i64 k, .int .i64 l, .int .i64 r, .int .i64 f]
  have HPR : RowKit.Hid (∀ W, Below Y.heap.size Y W → W.rangeAt w.heap.size 0 [.int .i64 p.kind, .int .i64 p.lie.node, .int .i64 p.lie.level, .int .i64 p.lie.pod, .int .i64 p.lie.mtu, .int .i64 p.lie.link, .int .i64 p.lie.nonce, .int .i64 p.lie.seen, .int .i64 p.lie.seenLink, .int .i64 p.lie.seenNonce, .int .i64 p.lie.hold, .bool p.lie.rep, .bool p.lie.noOffer, .int .i64 p.tie.head.id.dir, .int .i64 p.tie.head.id.orig, .int .i64 p.tie.head.id.kind, .int .i64 p.tie.head.id.nr, .int .i64 p.tie.head.seq, .int .i64 p.tie.head.life, .int .i64 p.tie.level, .bool p.tie.over, .slice ae p.tie.edges.length ce, .slice ar p.tie.reaches.length cr, .int .i64 p.frm.dir, .int .i64 p.frm.orig, .int .i64 p.frm.kind, .int .i64 p.frm.nr, .int .i64 p.to.dir, .int .i64 p.to.orig, .int .i64 p.to.kind, .int .i64 p.to.nr, .slice ah p.heads.length ch]) := fun W h => arr_range (hap.below h (by omega))
  have HAK : RowKit.Hid (∀ W, Below Y.heap.size Y W → sl.Arr W (w.heap.size + 1) 37 [.int .i64 id, .slice sA sec.length sc]) := fun W h => hak.below h (by omega)
  have HAO : RowKit.Hid (∀ W, Below Y.heap.size Y W → sl.Arr W (w.heap.size + 2) 39 [.int .i64 k, .int .i64 l, .int .i64 r, .int .i64 f]) := fun W h => hao.below h (by omega)
  have HRS : RowKit.Hid (∀ W, Below Y.heap.size Y W → sl.RdN W.heap.size W sA sec) := fun W h => ((hsr.below hBY (Nat.le_refl _)).below h (by omega)).mono (by have := h.size; omega)
  have HPK : RowKit.Hid (∀ W, Below Y.heap.size Y W → Pk W.heap.size W p ae ar ah ce cr ch) := fun W h => (hp.below (hBY.trans (h.mono (by omega)))).mono (hBY.trans (h.mono (by omega))).size
  have HTW : RowKit.Hid (∀ W, Below Y.heap.size Y W → Tab W) := fun W h => hT.below (hBY.trans (h.mono (by omega))) hT.pos
  have HUW : RowKit.Hid (∀ W, Below Y.heap.size Y W → sl.Tabs W) := fun W h => hU.below (hBY.trans (h.mono (by omega))) hU.pos
  have HBY := Lib.hid hBY
  have HLE : RowKit.Hid (w.heap.size ≤ Y.heap.size) := by show _ ≤ _; omega
  have hTE := Lib.hid (wenc_ok tireP none none none 0 0 0 Y (tire_pk Y) tire_right (by rw [tire_enc]; simp) [4, 8] tire_enc)
  have U1 : True := trivial
  have U2 : True := trivial
  clear hBY hYs hap hak hao hsr hT hU hp
  go_enter Tryd.func3, Tryd.ntmps3
  go_wp2_with (first
    | (have tt := U1; clear U1 tt; go_at_call 4; refine hTE.out.mono ?_; rintro e w1 ⟨A1, c1, rfl, -, -, -, hb⟩; have B1 := Lib.hid hb; clear hb)
    | (have tt := U2; clear U2 tt; refine wpList_load_mid rfl 34 (.tmp 3) rfl _ _ rfl _ _ (HPR.out _ B1.out) Tryd.underlying34 rfl (by kernel_rfl) ?_)
    | (go_at_call 5; refine (few3_any p ae ar ah ce cr ch _).mono ?_; rintro e w2 ⟨rfl, hb⟩; rw [HF.out]; have B2 := Lib.hid (B1.out.trans (hb.mono B1.out.size)); have ck1 := (HAK.out _ B2.out).cell 1; simp only [List.getElem?_cons_zero, List.getElem?_cons_succ] at ck1; clear hb))
  all_goals go_ret
  all_goals exact ⟨rfl, HBY.out.trans (B2.out.mono HLE.out)⟩
set_option maxRecDepth 100000 in
set_option maxHeartbeats 6400000 in
theorem top_long (p : PackT) (ae ar ah : Option Addr) (ce cr ch : Nat) (id : Int) (sA : Option Addr) (sc : Nat) (sec : List Nat) (k l r f : Int) (w : World) (hp : Pk w.heap.size w p ae ar ah ce cr ch) (hs : sl.InB w sA sec.length sc sec) (hT : Tab w) (hU : sl.Tabs w) (hf : few3 p = true) (hx : 200 < sec.length) : Calls Tryd.prog 3 #[.agg #[.int .i64 p.kind, .int .i64 p.lie.node, .int .i64 p.lie.level, .int .i64 p.lie.pod, .int .i64 p.lie.mtu, .int .i64 p.lie.link, .int .i64 p.lie.nonce, .int .i64 p.lie.seen, .int .i64 p.lie.seenLink, .int .i64 p.lie.seenNonce, .int .i64 p.lie.hold, .bool p.lie.rep, .bool p.lie.noOffer, .int .i64 p.tie.head.id.dir, .int .i64 p.tie.head.id.orig, .int .i64 p.tie.head.id.kind, .int .i64 p.tie.head.id.nr, .int .i64 p.tie.head.seq, .int .i64 p.tie.head.life, .int .i64 p.tie.level, .bool p.tie.over, .slice ae p.tie.edges.length ce, .slice ar p.tie.reaches.length cr, .int .i64 p.frm.dir, .int .i64 p.frm.orig, .int .i64 p.frm.kind, .int .i64 p.frm.nr, .int .i64 p.to.dir, .int .i64 p.to.orig, .int .i64 p.to.kind, .int .i64 p.to.nr, .slice ah p.heads.length ch], .agg #[.int .i64 id, .slice sA sec.length sc], .agg #[.int .i64 k, .int .i64 l, .int .i64 r, .int .i64 f]] w fun e w' => e = .returned (.bool true) ∧ Below w.heap.size w w' := by
  have HF := Lib.hid hf
  clear hf
  obtain ⟨_, hsc, hsm, hsb, hsr⟩ := hs
  have hsl : sec.length ≤ 9223372036854775807 := by unfold maxLen at hsm; omega
  obtain ⟨Y, hY⟩ : ∃ Y, ((w.alloc (.cells #[.int .i64 p.kind, .int .i64 p.lie.node, .int .i64 p.lie.level, .int .i64 p.lie.pod, .int .i64 p.lie.mtu, .int .i64 p.lie.link, .int .i64 p.lie.nonce, .int .i64 p.lie.seen, .int .i64 p.lie.seenLink, .int .i64 p.lie.seenNonce, .int .i64 p.lie.hold, .bool p.lie.rep, .bool p.lie.noOffer, .int .i64 p.tie.head.id.dir, .int .i64 p.tie.head.id.orig, .int .i64 p.tie.head.id.kind, .int .i64 p.tie.head.id.nr, .int .i64 p.tie.head.seq, .int .i64 p.tie.head.life, .int .i64 p.tie.level, .bool p.tie.over, .slice ae p.tie.edges.length ce, .slice ar p.tie.reaches.length cr, .int .i64 p.frm.dir, .int .i64 p.frm.orig, .int .i64 p.frm.kind, .int .i64 p.frm.nr, .int .i64 p.to.dir, .int .i64 p.to.orig, .int .i64 p.to.kind, .int .i64 p.to.nr, .slice ah p.heads.length ch] 34)).alloc (.cells #[.int .i64 id, .slice sA sec.length sc] 37)).alloc (.cells #[.int .i64 k, .int .i64 l, .int .i64 r, .int .i64 f] 39) = Y := ⟨_, rfl⟩
  have hBY : Below w.heap.size w Y := by rw [← hY]; exact (((Below.refl w.heap.size w).alloc (Nat.le_refl _) _).alloc (by simp) _).alloc (by simp; omega) _
  have hYs : Y.heap.size = w.heap.size + 3 := by rw [← hY]; simp
  have hap : sl.Arr Y w.heap.size 34 [.int .i64 p.kind, .int .i64 p.lie.node, .int .i64 p.lie.level, .int .i64 p.lie.pod, .int .i64 p.lie.mtu, .int .i64 p.lie.link, .int .i64 p.lie.nonce, .int .i64 p.lie.seen, .int .i64 p.lie.seenLink, .int .i64 p.lie.seenNonce, .int .i64 p.lie.hold, .bool p.lie.rep, .bool p.lie.noOffer, .int .i64 p.tie.head.id.dir, .int .i64 p.tie.head.id.orig, .int .i64 p.tie.head.id.kind, .int .i64 p.tie.head.id.nr, .int .i64 p.tie.head.seq, .int .i64 p.tie.head.life, .int .i64 p.tie.level, .bool p.tie.over, .slice ae p.tie.edges.length ce, .slice ar p.tie.reaches.length cr, .int .i64 p.frm.dir, .int .i64 p.frm.orig, .int .i64 p.frm.kind, .int .i64 p.frm.nr, .int .i64 p.to.dir, .int .i64 p.to.orig, .int .i64 p.to.kind, .int .i64 p.to.nr, .slice ah p.heads.length ch] := by rw [← hY]; exact ((sl.Arr.new w 34 [.int .i64 p.kind, .int .i64 p.lie.node, .int .i64 p.lie.level, .int .i64 p.lie.pod, .int .i64 p.lie.mtu, .int .i64 p.lie.link, .int .i64 p.lie.nonce, .int .i64 p.lie.seen, .int .i64 p.lie.seenLink, .int .i64 p.lie.seenNonce, .int .i64 p.lie.hold, .bool p.lie.rep, .bool p.lie.noOffer, .int .i64 p.tie.head.id.dir, .int .i64 p.tie.head.id.orig, .int .i64 p.tie.head.id.kind, .int .i64 p.tie.head.id.nr, .int .i64 p.tie.head.seq, .int .i64 p.tie.head.life, .int .i64 p.tie.level, .bool p.tie.over, .slice ae p.tie.edges.length ce, .slice ar p.tie.reaches.length cr, .int .i64 p.frm.dir, .int .i64 p.frm.orig, .int .i64 p.frm.kind, .int .i64 p.frm.nr, .int .i64 p.to.dir, .int .i64 p.to.orig, .int .i64 p.to.kind, .int .i64 p.to.nr, .slice ah p.heads.length ch]).alloc _).alloc _
  have hak : sl.Arr Y (w.heap.size + 1) 37 [.int .i64 id, .slice sA sec.length sc] := by rw [← hY]; exact (sl.Arr.new2 w (.cells #[.int .i64 p.kind, .int .i64 p.lie.node, .int .i64 p.lie.level, .int .i64 p.lie.pod, .int .i64 p.lie.mtu, .int .i64 p.lie.link, .int .i64 p.lie.nonce, .int .i64 p.lie.seen, .int .i64 p.lie.seenLink, .int .i64 p.lie.seenNonce, .int .i64 p.lie.hold, .bool p.lie.rep, .bool p.lie.noOffer, .int .i64 p.tie.head.id.dir, .int .i64 p.tie.head.id.orig, .int .i64 p.tie.head.id.kind, .int .i64 p.tie.head.id.nr, .int .i64 p.tie.head.seq, .int .i64 p.tie.head.life, .int .i64 p.tie.level, .bool p.tie.over, .slice ae p.tie.edges.length ce, .slice ar p.tie.reaches.length cr, .int .i64 p.frm.dir, .int .i64 p.frm.orig, .int .i64 p.frm.kind, .int .i64 p.frm.nr, .int .i64 p.to.dir, .int .i64 p.to.orig, .int .i64 p.to.kind, .int .i64 p.to.nr, .slice ah p.heads.length ch] 34) 37 [.int .i64 id, .slice sA sec.length sc]).alloc _
  have hao : sl.Arr Y (w.heap.size + 2) 39 [.int .i64 k, .int .i64 l, .int .i64 r, .int .i64 f] := by rw [← hY]; simpa using sl.Arr.new2 (w.alloc (.cells #[.int .i64 p.kind, .int .i64 p.lie.node, .int .i64 p.lie.level, .int .i64 p.lie.pod, .int .i64 p.lie.mtu, .int .i64 p.lie.link, .int .i64 p.lie.nonce, .int .i64 p.lie.seen, .int .i64 p.lie.seenLink, .int .i64 p.lie.seenNonce, .int .i64 p.lie.hold, .bool p.lie.rep, .bool p.lie.noOffer, .int .i64 p.tie.head.id.dir, .int .i64 p.tie.head.id.orig, .int .i64 p.tie.head.id.kind, .int .i64 p.tie.head.id.nr, .int .i64 p.tie.head.seq, .int .i64 p.tie.head.life, .int .i64 p.tie.level, .bool p.tie.over, .slice ae p.tie.edges.length ce, .slice ar p.tie.reaches.length cr, .int .i64 p.frm.dir, .int .i64 p.frm.orig, .int .i64 p.frm.kind, .int .i64 p.frm.nr, .int .i64 p.to.dir, .int .i64 p.to.orig, .int .i64 p.to.kind, .int .i64 p.to.nr, .slice ah p.heads.length ch] 34)) (.cells #[.int .i64 id, .slice sA sec.length sc] 37) 39 [.int .i64 k, .int .i64 l, .int .i64 r, .int .i64 f]
  have HPR : RowKit.Hid (∀ W, Below Y.heap.size Y W → W.rangeAt w.heap.size 0 [.int .i64 p.kind, .int .i64 p.lie.node, .int .i64 p.lie.level, .int .i64 p.lie.pod, .int .i64 p.lie.mtu, .int .i64 p.lie.link, .int .i64 p.lie.nonce, .int .i64 p.lie.seen, .int .i64 p.lie.seenLink, .int .i64 p.lie.seenNonce, .int .i64 p.lie.hold, .bool p.lie.rep, .bool p.lie.noOffer, .int .i64 p.tie.head.id.dir, .int .i64 p.tie.head.id.orig, .int .i64 p.tie.head.id.kind, .int .i64 p.tie.head.id.nr, .int .i64 p.tie.head.seq, .int .i64 p.tie.head.life, .int .i64 p.tie.level, .bool p.tie.over, .slice ae p.tie.edges.length ce, .slice ar p.tie.reaches.length cr, .int .i64 p.frm.dir, .int .i64 p.frm.orig, .int .i64 p.frm.kind, .int .i64 p.frm.nr, .int .i64 p.to.dir, .int .i64 p.to.orig, .int .i64 p.to.kind, .int .i64 p.to.nr, .slice ah p.heads.length ch]) := fun W h => arr_range (hap.below h (by omega))
  have HAK : RowKit.Hid (∀ W, Below Y.heap.size Y W → sl.Arr W (w.heap.size + 1) 37 [.int .i64 id, .slice sA sec.length sc]) := fun W h => hak.below h (by omega)
  have HAO : RowKit.Hid (∀ W, Below Y.heap.size Y W → sl.Arr W (w.heap.size + 2) 39 [.int .i64 k, .int .i64 l, .int .i64 r, .int .i64 f]) := fun W h => hao.below h (by omega)
  have HRS : RowKit.Hid (∀ W, Below Y.heap.size Y W → sl.RdN W.heap.size W sA sec) := fun W h => ((hsr.below hBY (Nat.le_refl _)).below h (by omega)).mono (by have := h.size; omega)
  have HPK : RowKit.Hid (∀ W, Below Y.heap.size Y W → Pk W.heap.size W p ae ar ah ce cr ch) := fun W h => (hp.below (hBY.trans (h.mono (by omega)))).mono (hBY.trans (h.mono (by omega))).size
  have HTW : RowKit.Hid (∀ W, Below Y.heap.size Y W → Tab W) := fun W h => hT.below (hBY.trans (h.mono (by omega))) hT.pos
  have HUW : RowKit.Hid (∀ W, Below Y.heap.size Y W → sl.Tabs W) := fun W h => hU.below (hBY.trans (h.mono (by omega))) hU.pos
  have HBY := Lib.hid hBY
  have HLE : RowKit.Hid (w.heap.size ≤ Y.heap.size) := by show _ ≤ _; omega
  have hTE := Lib.hid (wenc_ok tireP none none none 0 0 0 Y (tire_pk Y) tire_right (by rw [tire_enc]; simp) [4, 8] tire_enc)
  have U1 : True := trivial
  have U2 : True := trivial
  clear hBY hYs hap hak hao hsr hT hU hp
  go_enter Tryd.func3, Tryd.ntmps3
  go_wp2_with (first
    | (have tt := U1; clear U1 tt; go_at_call 4; refine hTE.out.mono ?_; rintro e w1 ⟨A1, c1, rfl, -, -, -, hb⟩; have B1 := Lib.hid hb; clear hb)
    | (have tt := U2; clear U2 tt; refine wpList_load_mid rfl 34 (.tmp 3) rfl _ _ rfl _ _ (HPR.out _ B1.out) Tryd.underlying34 rfl (by kernel_rfl) ?_)
    | (go_at_call 5; refine (few3_any p ae ar ah ce cr ch _).mono ?_; rintro e w2 ⟨rfl, hb⟩; rw [HF.out]; have B2 := Lib.hid (B1.out.trans (hb.mono B1.out.size)); have ck1 := (HAK.out _ B2.out).cell 1; simp only [List.getElem?_cons_zero, List.getElem?_cons_succ] at ck1; clear hb))
  all_goals go_ret
  all_goals exact ⟨rfl, HBY.out.trans (B2.out.mono HLE.out)⟩
set_option maxRecDepth 100000 in
set_option maxHeartbeats 6400000 in
theorem top_bad0 (p : PackT) (ae ar ah : Option Addr) (ce cr ch : Nat) (id : Int) (sA : Option Addr) (sc : Nat) (sec : List Nat) (k l r f : Int) (w : World) (hp : Pk w.heap.size w p ae ar ah ce cr ch) (hs : sl.InB w sA sec.length sc sec) (hT : Tab w) (hU : sl.Tabs w) (hf : few3 p = true) (hx : ¬ 200 < sec.length) (hbad : ¬ (okO k l r f ∧ okW id sec.length k)) (zs : List Int) (ke : Int) (hzs : bytesW p = zs) (hke : errW p = ke) (hkb : (ke == 0) = true) : Calls Tryd.prog 3 #[.agg #[.int .i64 p.kind, .int .i64 p.lie.node, .int .i64 p.lie.level, .int .i64 p.lie.pod, .int .i64 p.lie.mtu, .int .i64 p.lie.link, .int .i64 p.lie.nonce, .int .i64 p.lie.seen, .int .i64 p.lie.seenLink, .int .i64 p.lie.seenNonce, .int .i64 p.lie.hold, .bool p.lie.rep, .bool p.lie.noOffer, .int .i64 p.tie.head.id.dir, .int .i64 p.tie.head.id.orig, .int .i64 p.tie.head.id.kind, .int .i64 p.tie.head.id.nr, .int .i64 p.tie.head.seq, .int .i64 p.tie.head.life, .int .i64 p.tie.level, .bool p.tie.over, .slice ae p.tie.edges.length ce, .slice ar p.tie.reaches.length cr, .int .i64 p.frm.dir, .int .i64 p.frm.orig, .int .i64 p.frm.kind, .int .i64 p.frm.nr, .int .i64 p.to.dir, .int .i64 p.to.orig, .int .i64 p.to.kind, .int .i64 p.to.nr, .slice ah p.heads.length ch], .agg #[.int .i64 id, .slice sA sec.length sc], .agg #[.int .i64 k, .int .i64 l, .int .i64 r, .int .i64 f]] w fun e w' => e = .returned (.bool true) ∧ Below w.heap.size w w' := by
  have HF := Lib.hid hf
  clear hf
  obtain ⟨_, hsc, hsm, hsb, hsr⟩ := hs
  have hsl : sec.length ≤ 9223372036854775807 := by unfold maxLen at hsm; omega
  obtain ⟨Y, hY⟩ : ∃ Y, ((w.alloc (.cells #[.int .i64 p.kind, .int .i64 p.lie.node, .int .i64 p.lie.level, .int .i64 p.lie.pod, .int .i64 p.lie.mtu, .int .i64 p.lie.link, .int .i64 p.lie.nonce, .int .i64 p.lie.seen, .int .i64 p.lie.seenLink, .int .i64 p.lie.seenNonce, .int .i64 p.lie.hold, .bool p.lie.rep, .bool p.lie.noOffer, .int .i64 p.tie.head.id.dir, .int .i64 p.tie.head.id.orig, .int .i64 p.tie.head.id.kind, .int .i64 p.tie.head.id.nr, .int .i64 p.tie.head.seq, .int .i64 p.tie.head.life, .int .i64 p.tie.level, .bool p.tie.over, .slice ae p.tie.edges.length ce, .slice ar p.tie.reaches.length cr, .int .i64 p.frm.dir, .int .i64 p.frm.orig, .int .i64 p.frm.kind, .int .i64 p.frm.nr, .int .i64 p.to.dir, .int .i64 p.to.orig, .int .i64 p.to.kind, .int .i64 p.to.nr, .slice ah p.heads.length ch] 34)).alloc (.cells #[.int .i64 id, .slice sA sec.length sc] 37)).alloc (.cells #[.int .i64 k, .int .i64 l, .int .i64 r, .int .i64 f] 39) = Y := ⟨_, rfl⟩
  have hBY : Below w.heap.size w Y := by rw [← hY]; exact (((Below.refl w.heap.size w).alloc (Nat.le_refl _) _).alloc (by simp) _).alloc (by simp; omega) _
  have hYs : Y.heap.size = w.heap.size + 3 := by rw [← hY]; simp
  have hap : sl.Arr Y w.heap.size 34 [.int .i64 p.kind, .int .i64 p.lie.node, .int .i64 p.lie.level, .int .i64 p.lie.pod, .int .i64 p.lie.mtu, .int .i64 p.lie.link, .int .i64 p.lie.nonce, .int .i64 p.lie.seen, .int .i64 p.lie.seenLink, .int .i64 p.lie.seenNonce, .int .i64 p.lie.hold, .bool p.lie.rep, .bool p.lie.noOffer, .int .i64 p.tie.head.id.dir, .int .i64 p.tie.head.id.orig, .int .i64 p.tie.head.id.kind, .int .i64 p.tie.head.id.nr, .int .i64 p.tie.head.seq, .int .i64 p.tie.head.life, .int .i64 p.tie.level, .bool p.tie.over, .slice ae p.tie.edges.length ce, .slice ar p.tie.reaches.length cr, .int .i64 p.frm.dir, .int .i64 p.frm.orig, .int .i64 p.frm.kind, .int .i64 p.frm.nr, .int .i64 p.to.dir, .int .i64 p.to.orig, .int .i64 p.to.kind, .int .i64 p.to.nr, .slice ah p.heads.length ch] := by rw [← hY]; exact ((sl.Arr.new w 34 [.int .i64 p.kind, .int .i64 p.lie.node, .int .i64 p.lie.level, .int .i64 p.lie.pod, .int .i64 p.lie.mtu, .int .i64 p.lie.link, .int .i64 p.lie.nonce, .int .i64 p.lie.seen, .int .i64 p.lie.seenLink, .int .i64 p.lie.seenNonce, .int .i64 p.lie.hold, .bool p.lie.rep, .bool p.lie.noOffer, .int .i64 p.tie.head.id.dir, .int .i64 p.tie.head.id.orig, .int .i64 p.tie.head.id.kind, .int .i64 p.tie.head.id.nr, .int .i64 p.tie.head.seq, .int .i64 p.tie.head.life, .int .i64 p.tie.level, .bool p.tie.over, .slice ae p.tie.edges.length ce, .slice ar p.tie.reaches.length cr, .int .i64 p.frm.dir, .int .i64 p.frm.orig, .int .i64 p.frm.kind, .int .i64 p.frm.nr, .int .i64 p.to.dir, .int .i64 p.to.orig, .int .i64 p.to.kind, .int .i64 p.to.nr, .slice ah p.heads.length ch]).alloc _).alloc _
  have hak : sl.Arr Y (w.heap.size + 1) 37 [.int .i64 id, .slice sA sec.length sc] := by rw [← hY]; exact (sl.Arr.new2 w (.cells #[.int .i64 p.kind, .int .i64 p.lie.node, .int .i64 p.lie.level, .int .i64 p.lie.pod, .int .i64 p.lie.mtu, .int .i64 p.lie.link, .int .i64 p.lie.nonce, .int .i64 p.lie.seen, .int .i64 p.lie.seenLink, .int .i64 p.lie.seenNonce, .int .i64 p.lie.hold, .bool p.lie.rep, .bool p.lie.noOffer, .int .i64 p.tie.head.id.dir, .int .i64 p.tie.head.id.orig, .int .i64 p.tie.head.id.kind, .int .i64 p.tie.head.id.nr, .int .i64 p.tie.head.seq, .int .i64 p.tie.head.life, .int .i64 p.tie.level, .bool p.tie.over, .slice ae p.tie.edges.length ce, .slice ar p.tie.reaches.length cr, .int .i64 p.frm.dir, .int .i64 p.frm.orig, .int .i64 p.frm.kind, .int .i64 p.frm.nr, .int .i64 p.to.dir, .int .i64 p.to.orig, .int .i64 p.to.kind, .int .i64 p.to.nr, .slice ah p.heads.length ch] 34) 37 [.int .i64 id, .slice sA sec.length sc]).alloc _
  have hao : sl.Arr Y (w.heap.size + 2) 39 [.int .i64 k, .int .i64 l, .int .i64 r, .int .i64 f] := by rw [← hY]; simpa using sl.Arr.new2 (w.alloc (.cells #[.int .i64 p.kind, .int .i64 p.lie.node, .int .i64 p.lie.level, .int .i64 p.lie.pod, .int .i64 p.lie.mtu, .int .i64 p.lie.link, .int .i64 p.lie.nonce, .int .i64 p.lie.seen, .int .i64 p.lie.seenLink, .int .i64 p.lie.seenNonce, .int .i64 p.lie.hold, .bool p.lie.rep, .bool p.lie.noOffer, .int .i64 p.tie.head.id.dir, .int .i64 p.tie.head.id.orig, .int .i64 p.tie.head.id.kind, .int .i64 p.tie.head.id.nr, .int .i64 p.tie.head.seq, .int .i64 p.tie.head.life, .int .i64 p.tie.level, .bool p.tie.over, .slice ae p.tie.edges.length ce, .slice ar p.tie.reaches.length cr, .int .i64 p.frm.dir, .int .i64 p.frm.orig, .int .i64 p.frm.kind, .int .i64 p.frm.nr, .int .i64 p.to.dir, .int .i64 p.to.orig, .int .i64 p.to.kind, .int .i64 p.to.nr, .slice ah p.heads.length ch] 34)) (.cells #[.int .i64 id, .slice sA sec.length sc] 37) 39 [.int .i64 k, .int .i64 l, .int .i64 r, .int .i64 f]
  have HPR : RowKit.Hid (∀ W, Below Y.heap.size Y W → W.rangeAt w.heap.size 0 [.int .i64 p.kind, .int .i64 p.lie.node, .int .i64 p.lie.level, .int .i64 p.lie.pod, .int .i64 p.lie.mtu, .int .i64 p.lie.link, .int .i64 p.lie.nonce, .int .i64 p.lie.seen, .int .i64 p.lie.seenLink, .int .i64 p.lie.seenNonce, .int .i64 p.lie.hold, .bool p.lie.rep, .bool p.lie.noOffer, .int .i64 p.tie.head.id.dir, .int .i64 p.tie.head.id.orig, .int .i64 p.tie.head.id.kind, .int .i64 p.tie.head.id.nr, .int .i64 p.tie.head.seq, .int .i64 p.tie.head.life, .int .i64 p.tie.level, .bool p.tie.over, .slice ae p.tie.edges.length ce, .slice ar p.tie.reaches.length cr, .int .i64 p.frm.dir, .int .i64 p.frm.orig, .int .i64 p.frm.kind, .int .i64 p.frm.nr, .int .i64 p.to.dir, .int .i64 p.to.orig, .int .i64 p.to.kind, .int .i64 p.to.nr, .slice ah p.heads.length ch]) := fun W h => arr_range (hap.below h (by omega))
  have HAK : RowKit.Hid (∀ W, Below Y.heap.size Y W → sl.Arr W (w.heap.size + 1) 37 [.int .i64 id, .slice sA sec.length sc]) := fun W h => hak.below h (by omega)
  have HAO : RowKit.Hid (∀ W, Below Y.heap.size Y W → sl.Arr W (w.heap.size + 2) 39 [.int .i64 k, .int .i64 l, .int .i64 r, .int .i64 f]) := fun W h => hao.below h (by omega)
  have HRS : RowKit.Hid (∀ W, Below Y.heap.size Y W → sl.RdN W.heap.size W sA sec) := fun W h => ((hsr.below hBY (Nat.le_refl _)).below h (by omega)).mono (by have := h.size; omega)
  have HPK : RowKit.Hid (∀ W, Below Y.heap.size Y W → Pk W.heap.size W p ae ar ah ce cr ch) := fun W h => (hp.below (hBY.trans (h.mono (by omega)))).mono (hBY.trans (h.mono (by omega))).size
  have HTW : RowKit.Hid (∀ W, Below Y.heap.size Y W → Tab W) := fun W h => hT.below (hBY.trans (h.mono (by omega))) hT.pos
  have HUW : RowKit.Hid (∀ W, Below Y.heap.size Y W → sl.Tabs W) := fun W h => hU.below (hBY.trans (h.mono (by omega))) hU.pos
  have HBY := Lib.hid hBY
  have HLE : RowKit.Hid (w.heap.size ≤ Y.heap.size) := by show _ ≤ _; omega
  have hTE := Lib.hid (wenc_ok tireP none none none 0 0 0 Y (tire_pk Y) tire_right (by rw [tire_enc]; simp) [4, 8] tire_enc)
  have U1 : True := trivial
  have U2 : True := trivial
  clear hBY hYs hap hak hao hsr hT hU hp
  have hE : RowKit.Hid (∀ W, Below Y.heap.size Y W → Calls Tryd.prog 4 #[.agg #[.int .i64 p.kind, .int .i64 p.lie.node, .int .i64 p.lie.level, .int .i64 p.lie.pod, .int .i64 p.lie.mtu, .int .i64 p.lie.link, .int .i64 p.lie.nonce, .int .i64 p.lie.seen, .int .i64 p.lie.seenLink, .int .i64 p.lie.seenNonce, .int .i64 p.lie.hold, .bool p.lie.rep, .bool p.lie.noOffer, .int .i64 p.tie.head.id.dir, .int .i64 p.tie.head.id.orig, .int .i64 p.tie.head.id.kind, .int .i64 p.tie.head.id.nr, .int .i64 p.tie.head.seq, .int .i64 p.tie.head.life, .int .i64 p.tie.level, .bool p.tie.over, .slice ae p.tie.edges.length ce, .slice ar p.tie.reaches.length cr, .int .i64 p.frm.dir, .int .i64 p.frm.orig, .int .i64 p.frm.kind, .int .i64 p.frm.nr, .int .i64 p.to.dir, .int .i64 p.to.orig, .int .i64 p.to.kind, .int .i64 p.to.nr, .slice ah p.heads.length ch]] W (GotZ zs ke W)) := fun W hW => by
    rw [← hzs, ← hke]
    exact wenc_z p ae ar ah ce cr ch W (HPK.out W hW)
  clear hzs hke
  have hw := fun W v => wrap_bad id sA sec.length sc (by omega) k l r f hbad v W
  clear hbad
  go_enter Tryd.func3, Tryd.ntmps3
  go_wp2_with (first
    | (have tt := U1; clear U1 tt; go_at_call 4; refine hTE.out.mono ?_; rintro e w1 ⟨A1, c1, rfl, -, -, -, hb⟩; have B1 := Lib.hid hb; clear hb)
    | (have tt := U2; clear U2 tt; refine wpList_load_mid rfl 34 (.tmp 3) rfl _ _ rfl _ _ (HPR.out _ B1.out) Tryd.underlying34 rfl (by kernel_rfl) ?_)
    | (go_at_call 5; refine (few3_any p ae ar ah ce cr ch _).mono ?_; rintro e w2 ⟨rfl, hb⟩; rw [HF.out]; have B2 := Lib.hid (B1.out.trans (hb.mono B1.out.size)); have ck1 := (HAK.out _ B2.out).cell 1; simp only [List.getElem?_cons_zero, List.getElem?_cons_succ] at ck1; clear hb)
    | (refine wpList_load_mid rfl 34 (.tmp 3) rfl _ _ rfl _ _ (HPR.out _ B2.out) Tryd.underlying34 rfl (by kernel_rfl) ?_)
    | (go_at_call 4; refine (hE.out w2 B2.out).mono ?_; rintro e w3 ⟨A3, c3, rfl, hr3, hb⟩; have R3 := Lib.hid hr3; have B3 := Lib.hid (B2.out.trans (hb.mono B2.out.size)); clear hb hr3 ck1)
    | (refine wpList_load_arr rfl 37 (.tmp 4) rfl (w.heap.size + 1) rfl (HAK.out _ B3.out) Tryd.underlying37 rfl sizeK rfl ?_)
    | (refine wpList_load_arr rfl 39 (.tmp 5) rfl (w.heap.size + 2) rfl (HAO.out _ B3.out) Tryd.underlying39 rfl sizeO rfl ?_)
    | (go_at_call 6; refine (hw _ _).mono ?_; rintro e w4 ⟨rfl, hb⟩; have B4 := Lib.hid (B3.out.trans (hb.mono B3.out.size)); clear hb))
  all_goals go_ret
  all_goals exact ⟨rfl, HBY.out.trans (B4.out.mono HLE.out)⟩
set_option maxRecDepth 100000 in
set_option maxHeartbeats 6400000 in
theorem top_bad1 (p : PackT) (ae ar ah : Option Addr) (ce cr ch : Nat) (id : Int) (sA : Option Addr) (sc : Nat) (sec : List Nat) (k l r f : Int) (w : World) (hp : Pk w.heap.size w p ae ar ah ce cr ch) (hs : sl.InB w sA sec.length sc sec) (hT : Tab w) (hU : sl.Tabs w) (hf : few3 p = true) (hx : ¬ 200 < sec.length) (hbad : ¬ (okO k l r f ∧ okW id sec.length k)) (zs : List Int) (ke : Int) (hzs : bytesW p = zs) (hke : errW p = ke) (hkb : (ke == 0) = false) : Calls Tryd.prog 3 #[.agg #[.int .i64 p.kind, .int .i64 p.lie.node, .int .i64 p.lie.level, .int .i64 p.lie.pod, .int .i64 p.lie.mtu, .int .i64 p.lie.link, .int .i64 p.lie.nonce, .int .i64 p.lie.seen, .int .i64 p.lie.seenLink, .int .i64 p.lie.seenNonce, .int .i64 p.lie.hold, .bool p.lie.rep, .bool p.lie.noOffer, .int .i64 p.tie.head.id.dir, .int .i64 p.tie.head.id.orig, .int .i64 p.tie.head.id.kind, .int .i64 p.tie.head.id.nr, .int .i64 p.tie.head.seq, .int .i64 p.tie.head.life, .int .i64 p.tie.level, .bool p.tie.over, .slice ae p.tie.edges.length ce, .slice ar p.tie.reaches.length cr, .int .i64 p.frm.dir, .int .i64 p.frm.orig, .int .i64 p.frm.kind, .int .i64 p.frm.nr, .int .i64 p.to.dir, .int .i64 p.to.orig, .int .i64 p.to.kind, .int .i64 p.to.nr, .slice ah p.heads.length ch], .agg #[.int .i64 id, .slice sA sec.length sc], .agg #[.int .i64 k, .int .i64 l, .int .i64 r, .int .i64 f]] w fun e w' => e = .returned (.bool true) ∧ Below w.heap.size w w' := by
  have HF := Lib.hid hf
  clear hf
  obtain ⟨_, hsc, hsm, hsb, hsr⟩ := hs
  have hsl : sec.length ≤ 9223372036854775807 := by unfold maxLen at hsm; omega
  obtain ⟨Y, hY⟩ : ∃ Y, ((w.alloc (.cells #[.int .i64 p.kind, .int .i64 p.lie.node, .int .i64 p.lie.level, .int .i64 p.lie.pod, .int .i64 p.lie.mtu, .int .i64 p.lie.link, .int .i64 p.lie.nonce, .int .i64 p.lie.seen, .int .i64 p.lie.seenLink, .int .i64 p.lie.seenNonce, .int .i64 p.lie.hold, .bool p.lie.rep, .bool p.lie.noOffer, .int .i64 p.tie.head.id.dir, .int .i64 p.tie.head.id.orig, .int .i64 p.tie.head.id.kind, .int .i64 p.tie.head.id.nr, .int .i64 p.tie.head.seq, .int .i64 p.tie.head.life, .int .i64 p.tie.level, .bool p.tie.over, .slice ae p.tie.edges.length ce, .slice ar p.tie.reaches.length cr, .int .i64 p.frm.dir, .int .i64 p.frm.orig, .int .i64 p.frm.kind, .int .i64 p.frm.nr, .int .i64 p.to.dir, .int .i64 p.to.orig, .int .i64 p.to.kind, .int .i64 p.to.nr, .slice ah p.heads.length ch] 34)).alloc (.cells #[.int .i64 id, .slice sA sec.length sc] 37)).alloc (.cells #[.int .i64 k, .int .i64 l, .int .i64 r, .int .i64 f] 39) = Y := ⟨_, rfl⟩
  have hBY : Below w.heap.size w Y := by rw [← hY]; exact (((Below.refl w.heap.size w).alloc (Nat.le_refl _) _).alloc (by simp) _).alloc (by simp; omega) _
  have hYs : Y.heap.size = w.heap.size + 3 := by rw [← hY]; simp
  have hap : sl.Arr Y w.heap.size 34 [.int .i64 p.kind, .int .i64 p.lie.node, .int .i64 p.lie.level, .int .i64 p.lie.pod, .int .i64 p.lie.mtu, .int .i64 p.lie.link, .int .i64 p.lie.nonce, .int .i64 p.lie.seen, .int .i64 p.lie.seenLink, .int .i64 p.lie.seenNonce, .int .i64 p.lie.hold, .bool p.lie.rep, .bool p.lie.noOffer, .int .i64 p.tie.head.id.dir, .int .i64 p.tie.head.id.orig, .int .i64 p.tie.head.id.kind, .int .i64 p.tie.head.id.nr, .int .i64 p.tie.head.seq, .int .i64 p.tie.head.life, .int .i64 p.tie.level, .bool p.tie.over, .slice ae p.tie.edges.length ce, .slice ar p.tie.reaches.length cr, .int .i64 p.frm.dir, .int .i64 p.frm.orig, .int .i64 p.frm.kind, .int .i64 p.frm.nr, .int .i64 p.to.dir, .int .i64 p.to.orig, .int .i64 p.to.kind, .int .i64 p.to.nr, .slice ah p.heads.length ch] := by rw [← hY]; exact ((sl.Arr.new w 34 [.int .i64 p.kind, .int .i64 p.lie.node, .int .i64 p.lie.level, .int .i64 p.lie.pod, .int .i64 p.lie.mtu, .int .i64 p.lie.link, .int .i64 p.lie.nonce, .int .i64 p.lie.seen, .int .i64 p.lie.seenLink, .int .i64 p.lie.seenNonce, .int .i64 p.lie.hold, .bool p.lie.rep, .bool p.lie.noOffer, .int .i64 p.tie.head.id.dir, .int .i64 p.tie.head.id.orig, .int .i64 p.tie.head.id.kind, .int .i64 p.tie.head.id.nr, .int .i64 p.tie.head.seq, .int .i64 p.tie.head.life, .int .i64 p.tie.level, .bool p.tie.over, .slice ae p.tie.edges.length ce, .slice ar p.tie.reaches.length cr, .int .i64 p.frm.dir, .int .i64 p.frm.orig, .int .i64 p.frm.kind, .int .i64 p.frm.nr, .int .i64 p.to.dir, .int .i64 p.to.orig, .int .i64 p.to.kind, .int .i64 p.to.nr, .slice ah p.heads.length ch]).alloc _).alloc _
  have hak : sl.Arr Y (w.heap.size + 1) 37 [.int .i64 id, .slice sA sec.length sc] := by rw [← hY]; exact (sl.Arr.new2 w (.cells #[.int .i64 p.kind, .int .i64 p.lie.node, .int .i64 p.lie.level, .int .i64 p.lie.pod, .int .i64 p.lie.mtu, .int .i64 p.lie.link, .int .i64 p.lie.nonce, .int .i64 p.lie.seen, .int .i64 p.lie.seenLink, .int .i64 p.lie.seenNonce, .int .i64 p.lie.hold, .bool p.lie.rep, .bool p.lie.noOffer, .int .i64 p.tie.head.id.dir, .int .i64 p.tie.head.id.orig, .int .i64 p.tie.head.id.kind, .int .i64 p.tie.head.id.nr, .int .i64 p.tie.head.seq, .int .i64 p.tie.head.life, .int .i64 p.tie.level, .bool p.tie.over, .slice ae p.tie.edges.length ce, .slice ar p.tie.reaches.length cr, .int .i64 p.frm.dir, .int .i64 p.frm.orig, .int .i64 p.frm.kind, .int .i64 p.frm.nr, .int .i64 p.to.dir, .int .i64 p.to.orig, .int .i64 p.to.kind, .int .i64 p.to.nr, .slice ah p.heads.length ch] 34) 37 [.int .i64 id, .slice sA sec.length sc]).alloc _
  have hao : sl.Arr Y (w.heap.size + 2) 39 [.int .i64 k, .int .i64 l, .int .i64 r, .int .i64 f] := by rw [← hY]; simpa using sl.Arr.new2 (w.alloc (.cells #[.int .i64 p.kind, .int .i64 p.lie.node, .int .i64 p.lie.level, .int .i64 p.lie.pod, .int .i64 p.lie.mtu, .int .i64 p.lie.link, .int .i64 p.lie.nonce, .int .i64 p.lie.seen, .int .i64 p.lie.seenLink, .int .i64 p.lie.seenNonce, .int .i64 p.lie.hold, .bool p.lie.rep, .bool p.lie.noOffer, .int .i64 p.tie.head.id.dir, .int .i64 p.tie.head.id.orig, .int .i64 p.tie.head.id.kind, .int .i64 p.tie.head.id.nr, .int .i64 p.tie.head.seq, .int .i64 p.tie.head.life, .int .i64 p.tie.level, .bool p.tie.over, .slice ae p.tie.edges.length ce, .slice ar p.tie.reaches.length cr, .int .i64 p.frm.dir, .int .i64 p.frm.orig, .int .i64 p.frm.kind, .int .i64 p.frm.nr, .int .i64 p.to.dir, .int .i64 p.to.orig, .int .i64 p.to.kind, .int .i64 p.to.nr, .slice ah p.heads.length ch] 34)) (.cells #[.int .i64 id, .slice sA sec.length sc] 37) 39 [.int .i64 k, .int .i64 l, .int .i64 r, .int .i64 f]
  have HPR : RowKit.Hid (∀ W, Below Y.heap.size Y W → W.rangeAt w.heap.size 0 [.int .i64 p.kind, .int .i64 p.lie.node, .int .i64 p.lie.level, .int .i64 p.lie.pod, .int .i64 p.lie.mtu, .int .i64 p.lie.link, .int .i64 p.lie.nonce, .int .i64 p.lie.seen, .int .i64 p.lie.seenLink, .int .i64 p.lie.seenNonce, .int .i64 p.lie.hold, .bool p.lie.rep, .bool p.lie.noOffer, .int .i64 p.tie.head.id.dir, .int .i64 p.tie.head.id.orig, .int .i64 p.tie.head.id.kind, .int .i64 p.tie.head.id.nr, .int .i64 p.tie.head.seq, .int .i64 p.tie.head.life, .int .i64 p.tie.level, .bool p.tie.over, .slice ae p.tie.edges.length ce, .slice ar p.tie.reaches.length cr, .int .i64 p.frm.dir, .int .i64 p.frm.orig, .int .i64 p.frm.kind, .int .i64 p.frm.nr, .int .i64 p.to.dir, .int .i64 p.to.orig, .int .i64 p.to.kind, .int .i64 p.to.nr, .slice ah p.heads.length ch]) := fun W h => arr_range (hap.below h (by omega))
  have HAK : RowKit.Hid (∀ W, Below Y.heap.size Y W → sl.Arr W (w.heap.size + 1) 37 [.int .i64 id, .slice sA sec.length sc]) := fun W h => hak.below h (by omega)
  have HAO : RowKit.Hid (∀ W, Below Y.heap.size Y W → sl.Arr W (w.heap.size + 2) 39 [.int .i64 k, .int .i64 l, .int .i64 r, .int .i64 f]) := fun W h => hao.below h (by omega)
  have HRS : RowKit.Hid (∀ W, Below Y.heap.size Y W → sl.RdN W.heap.size W sA sec) := fun W h => ((hsr.below hBY (Nat.le_refl _)).below h (by omega)).mono (by have := h.size; omega)
  have HPK : RowKit.Hid (∀ W, Below Y.heap.size Y W → Pk W.heap.size W p ae ar ah ce cr ch) := fun W h => (hp.below (hBY.trans (h.mono (by omega)))).mono (hBY.trans (h.mono (by omega))).size
  have HTW : RowKit.Hid (∀ W, Below Y.heap.size Y W → Tab W) := fun W h => hT.below (hBY.trans (h.mono (by omega))) hT.pos
  have HUW : RowKit.Hid (∀ W, Below Y.heap.size Y W → sl.Tabs W) := fun W h => hU.below (hBY.trans (h.mono (by omega))) hU.pos
  have HBY := Lib.hid hBY
  have HLE : RowKit.Hid (w.heap.size ≤ Y.heap.size) := by show _ ≤ _; omega
  have hTE := Lib.hid (wenc_ok tireP none none none 0 0 0 Y (tire_pk Y) tire_right (by rw [tire_enc]; simp) [4, 8] tire_enc)
  have U1 : True := trivial
  have U2 : True := trivial
  clear hBY hYs hap hak hao hsr hT hU hp
  have hE : RowKit.Hid (∀ W, Below Y.heap.size Y W → Calls Tryd.prog 4 #[.agg #[.int .i64 p.kind, .int .i64 p.lie.node, .int .i64 p.lie.level, .int .i64 p.lie.pod, .int .i64 p.lie.mtu, .int .i64 p.lie.link, .int .i64 p.lie.nonce, .int .i64 p.lie.seen, .int .i64 p.lie.seenLink, .int .i64 p.lie.seenNonce, .int .i64 p.lie.hold, .bool p.lie.rep, .bool p.lie.noOffer, .int .i64 p.tie.head.id.dir, .int .i64 p.tie.head.id.orig, .int .i64 p.tie.head.id.kind, .int .i64 p.tie.head.id.nr, .int .i64 p.tie.head.seq, .int .i64 p.tie.head.life, .int .i64 p.tie.level, .bool p.tie.over, .slice ae p.tie.edges.length ce, .slice ar p.tie.reaches.length cr, .int .i64 p.frm.dir, .int .i64 p.frm.orig, .int .i64 p.frm.kind, .int .i64 p.frm.nr, .int .i64 p.to.dir, .int .i64 p.to.orig, .int .i64 p.to.kind, .int .i64 p.to.nr, .slice ah p.heads.length ch]] W (GotZ zs ke W)) := fun W hW => by
    rw [← hzs, ← hke]
    exact wenc_z p ae ar ah ce cr ch W (HPK.out W hW)
  clear hzs hke
  have hw := fun W v => wrap_bad id sA sec.length sc (by omega) k l r f hbad v W
  clear hbad
  go_enter Tryd.func3, Tryd.ntmps3
  go_wp2_with (first
    | (have tt := U1; clear U1 tt; go_at_call 4; refine hTE.out.mono ?_; rintro e w1 ⟨A1, c1, rfl, -, -, -, hb⟩; have B1 := Lib.hid hb; clear hb)
    | (have tt := U2; clear U2 tt; refine wpList_load_mid rfl 34 (.tmp 3) rfl _ _ rfl _ _ (HPR.out _ B1.out) Tryd.underlying34 rfl (by kernel_rfl) ?_)
    | (go_at_call 5; refine (few3_any p ae ar ah ce cr ch _).mono ?_; rintro e w2 ⟨rfl, hb⟩; rw [HF.out]; have B2 := Lib.hid (B1.out.trans (hb.mono B1.out.size)); have ck1 := (HAK.out _ B2.out).cell 1; simp only [List.getElem?_cons_zero, List.getElem?_cons_succ] at ck1; clear hb)
    | (refine wpList_load_mid rfl 34 (.tmp 3) rfl _ _ rfl _ _ (HPR.out _ B2.out) Tryd.underlying34 rfl (by kernel_rfl) ?_)
    | (go_at_call 4; refine (hE.out w2 B2.out).mono ?_; rintro e w3 ⟨A3, c3, rfl, hr3, hb⟩; have R3 := Lib.hid hr3; have B3 := Lib.hid (B2.out.trans (hb.mono B2.out.size)); clear hb hr3 ck1)
    | (refine wpList_load_arr rfl 37 (.tmp 4) rfl (w.heap.size + 1) rfl (HAK.out _ B3.out) Tryd.underlying37 rfl sizeK rfl ?_)
    | (refine wpList_load_arr rfl 39 (.tmp 5) rfl (w.heap.size + 2) rfl (HAO.out _ B3.out) Tryd.underlying39 rfl sizeO rfl ?_)
    | (go_at_call 6; refine (hw _ _).mono ?_; rintro e w4 ⟨rfl, hb⟩; have B4 := Lib.hid (B3.out.trans (hb.mono B3.out.size)); clear hb))
  all_goals go_ret
  all_goals exact ⟨rfl, HBY.out.trans (B4.out.mono HLE.out)⟩
set_option maxRecDepth 100000 in
set_option maxHeartbeats 6400000 in
theorem top_err (p : PackT) (ae ar ah : Option Addr) (ce cr ch : Nat) (id : Int) (sA : Option Addr) (sc : Nat) (sec : List Nat) (k l r f : Int) (w : World) (hp : Pk w.heap.size w p ae ar ah ce cr ch) (hs : sl.InB w sA sec.length sc sec) (hT : Tab w) (hU : sl.Tabs w) (hf : few3 p = true) (hx : ¬ 200 < sec.length) (ho : okO k l r f) (hw0 : okW id sec.length k) (zs : List Int) (ke : Int) (hzs : bytesW p = zs) (hke : errW p = ke) (hk0 : ¬ ke = 0) : Calls Tryd.prog 3 #[.agg #[.int .i64 p.kind, .int .i64 p.lie.node, .int .i64 p.lie.level, .int .i64 p.lie.pod, .int .i64 p.lie.mtu, .int .i64 p.lie.link, .int .i64 p.lie.nonce, .int .i64 p.lie.seen, .int .i64 p.lie.seenLink, .int .i64 p.lie.seenNonce, .int .i64 p.lie.hold, .bool p.lie.rep, .bool p.lie.noOffer, .int .i64 p.tie.head.id.dir, .int .i64 p.tie.head.id.orig, .int .i64 p.tie.head.id.kind, .int .i64 p.tie.head.id.nr, .int .i64 p.tie.head.seq, .int .i64 p.tie.head.life, .int .i64 p.tie.level, .bool p.tie.over, .slice ae p.tie.edges.length ce, .slice ar p.tie.reaches.length cr, .int .i64 p.frm.dir, .int .i64 p.frm.orig, .int .i64 p.frm.kind, .int .i64 p.frm.nr, .int .i64 p.to.dir, .int .i64 p.to.orig, .int .i64 p.to.kind, .int .i64 p.to.nr, .slice ah p.heads.length ch], .agg #[.int .i64 id, .slice sA sec.length sc], .agg #[.int .i64 k, .int .i64 l, .int .i64 r, .int .i64 f]] w fun e w' => e = .returned (.bool true) ∧ Below w.heap.size w w' := by
  have HF := Lib.hid hf
  clear hf
  obtain ⟨K, rfl⟩ : ∃ K : Nat, k = K := ⟨k.toNat, by unfold okO okIn at ho; omega⟩
  obtain ⟨LL, rfl⟩ : ∃ L : Nat, l = L := ⟨l.toNat, by unfold okO okIn at ho; omega⟩
  obtain ⟨RR, rfl⟩ : ∃ R : Nat, r = R := ⟨r.toNat, by unfold okO okIn at ho; omega⟩
  obtain ⟨FF, rfl⟩ : ∃ F : Nat, f = F := ⟨f.toNat, by unfold okO okIn at ho; omega⟩
  have hzl := bytes_len p
  have hz8 := bytes_u8 p
  rw [hzs] at hzl hz8
  obtain ⟨_, hsc, hsm, hsb, hsr⟩ := hs
  have hsl : sec.length ≤ 9223372036854775807 := by unfold maxLen at hsm; omega
  obtain ⟨Y, hY⟩ : ∃ Y, ((w.alloc (.cells #[.int .i64 p.kind, .int .i64 p.lie.node, .int .i64 p.lie.level, .int .i64 p.lie.pod, .int .i64 p.lie.mtu, .int .i64 p.lie.link, .int .i64 p.lie.nonce, .int .i64 p.lie.seen, .int .i64 p.lie.seenLink, .int .i64 p.lie.seenNonce, .int .i64 p.lie.hold, .bool p.lie.rep, .bool p.lie.noOffer, .int .i64 p.tie.head.id.dir, .int .i64 p.tie.head.id.orig, .int .i64 p.tie.head.id.kind, .int .i64 p.tie.head.id.nr, .int .i64 p.tie.head.seq, .int .i64 p.tie.head.life, .int .i64 p.tie.level, .bool p.tie.over, .slice ae p.tie.edges.length ce, .slice ar p.tie.reaches.length cr, .int .i64 p.frm.dir, .int .i64 p.frm.orig, .int .i64 p.frm.kind, .int .i64 p.frm.nr, .int .i64 p.to.dir, .int .i64 p.to.orig, .int .i64 p.to.kind, .int .i64 p.to.nr, .slice ah p.heads.length ch] 34)).alloc (.cells #[.int .i64 id, .slice sA sec.length sc] 37)).alloc (.cells #[.int .i64 K, .int .i64 LL, .int .i64 RR, .int .i64 FF] 39) = Y := ⟨_, rfl⟩
  have hBY : Below w.heap.size w Y := by rw [← hY]; exact (((Below.refl w.heap.size w).alloc (Nat.le_refl _) _).alloc (by simp) _).alloc (by simp; omega) _
  have hYs : Y.heap.size = w.heap.size + 3 := by rw [← hY]; simp
  have hap : sl.Arr Y w.heap.size 34 [.int .i64 p.kind, .int .i64 p.lie.node, .int .i64 p.lie.level, .int .i64 p.lie.pod, .int .i64 p.lie.mtu, .int .i64 p.lie.link, .int .i64 p.lie.nonce, .int .i64 p.lie.seen, .int .i64 p.lie.seenLink, .int .i64 p.lie.seenNonce, .int .i64 p.lie.hold, .bool p.lie.rep, .bool p.lie.noOffer, .int .i64 p.tie.head.id.dir, .int .i64 p.tie.head.id.orig, .int .i64 p.tie.head.id.kind, .int .i64 p.tie.head.id.nr, .int .i64 p.tie.head.seq, .int .i64 p.tie.head.life, .int .i64 p.tie.level, .bool p.tie.over, .slice ae p.tie.edges.length ce, .slice ar p.tie.reaches.length cr, .int .i64 p.frm.dir, .int .i64 p.frm.orig, .int .i64 p.frm.kind, .int .i64 p.frm.nr, .int .i64 p.to.dir, .int .i64 p.to.orig, .int .i64 p.to.kind, .int .i64 p.to.nr, .slice ah p.heads.length ch] := by rw [← hY]; exact ((sl.Arr.new w 34 [.int .i64 p.kind, .int .i64 p.lie.node, .int .i64 p.lie.level, .int .i64 p.lie.pod, .int .i64 p.lie.mtu, .int .i64 p.lie.link, .int .i64 p.lie.nonce, .int .i64 p.lie.seen, .int .i64 p.lie.seenLink, .int .i64 p.lie.seenNonce, .int .i64 p.lie.hold, .bool p.lie.rep, .bool p.lie.noOffer, .int .i64 p.tie.head.id.dir, .int .i64 p.tie.head.id.orig, .int .i64 p.tie.head.id.kind, .int .i64 p.tie.head.id.nr, .int .i64 p.tie.head.seq, .int .i64 p.tie.head.life, .int .i64 p.tie.level, .bool p.tie.over, .slice ae p.tie.edges.length ce, .slice ar p.tie.reaches.length cr, .int .i64 p.frm.dir, .int .i64 p.frm.orig, .int .i64 p.frm.kind, .int .i64 p.frm.nr, .int .i64 p.to.dir, .int .i64 p.to.orig, .int .i64 p.to.kind, .int .i64 p.to.nr, .slice ah p.heads.length ch]).alloc _).alloc _
  have hak : sl.Arr Y (w.heap.size + 1) 37 [.int .i64 id, .slice sA sec.length sc] := by rw [← hY]; exact (sl.Arr.new2 w (.cells #[.int .i64 p.kind, .int .i64 p.lie.node, .int .i64 p.lie.level, .int .i64 p.lie.pod, .int .i64 p.lie.mtu, .int .i64 p.lie.link, .int .i64 p.lie.nonce, .int .i64 p.lie.seen, .int .i64 p.lie.seenLink, .int .i64 p.lie.seenNonce, .int .i64 p.lie.hold, .bool p.lie.rep, .bool p.lie.noOffer, .int .i64 p.tie.head.id.dir, .int .i64 p.tie.head.id.orig, .int .i64 p.tie.head.id.kind, .int .i64 p.tie.head.id.nr, .int .i64 p.tie.head.seq, .int .i64 p.tie.head.life, .int .i64 p.tie.level, .bool p.tie.over, .slice ae p.tie.edges.length ce, .slice ar p.tie.reaches.length cr, .int .i64 p.frm.dir, .int .i64 p.frm.orig, .int .i64 p.frm.kind, .int .i64 p.frm.nr, .int .i64 p.to.dir, .int .i64 p.to.orig, .int .i64 p.to.kind, .int .i64 p.to.nr, .slice ah p.heads.length ch] 34) 37 [.int .i64 id, .slice sA sec.length sc]).alloc _
  have hao : sl.Arr Y (w.heap.size + 2) 39 [.int .i64 K, .int .i64 LL, .int .i64 RR, .int .i64 FF] := by rw [← hY]; simpa using sl.Arr.new2 (w.alloc (.cells #[.int .i64 p.kind, .int .i64 p.lie.node, .int .i64 p.lie.level, .int .i64 p.lie.pod, .int .i64 p.lie.mtu, .int .i64 p.lie.link, .int .i64 p.lie.nonce, .int .i64 p.lie.seen, .int .i64 p.lie.seenLink, .int .i64 p.lie.seenNonce, .int .i64 p.lie.hold, .bool p.lie.rep, .bool p.lie.noOffer, .int .i64 p.tie.head.id.dir, .int .i64 p.tie.head.id.orig, .int .i64 p.tie.head.id.kind, .int .i64 p.tie.head.id.nr, .int .i64 p.tie.head.seq, .int .i64 p.tie.head.life, .int .i64 p.tie.level, .bool p.tie.over, .slice ae p.tie.edges.length ce, .slice ar p.tie.reaches.length cr, .int .i64 p.frm.dir, .int .i64 p.frm.orig, .int .i64 p.frm.kind, .int .i64 p.frm.nr, .int .i64 p.to.dir, .int .i64 p.to.orig, .int .i64 p.to.kind, .int .i64 p.to.nr, .slice ah p.heads.length ch] 34)) (.cells #[.int .i64 id, .slice sA sec.length sc] 37) 39 [.int .i64 K, .int .i64 LL, .int .i64 RR, .int .i64 FF]
  have HPR : RowKit.Hid (∀ W, Below Y.heap.size Y W → W.rangeAt w.heap.size 0 [.int .i64 p.kind, .int .i64 p.lie.node, .int .i64 p.lie.level, .int .i64 p.lie.pod, .int .i64 p.lie.mtu, .int .i64 p.lie.link, .int .i64 p.lie.nonce, .int .i64 p.lie.seen, .int .i64 p.lie.seenLink, .int .i64 p.lie.seenNonce, .int .i64 p.lie.hold, .bool p.lie.rep, .bool p.lie.noOffer, .int .i64 p.tie.head.id.dir, .int .i64 p.tie.head.id.orig, .int .i64 p.tie.head.id.kind, .int .i64 p.tie.head.id.nr, .int .i64 p.tie.head.seq, .int .i64 p.tie.head.life, .int .i64 p.tie.level, .bool p.tie.over, .slice ae p.tie.edges.length ce, .slice ar p.tie.reaches.length cr, .int .i64 p.frm.dir, .int .i64 p.frm.orig, .int .i64 p.frm.kind, .int .i64 p.frm.nr, .int .i64 p.to.dir, .int .i64 p.to.orig, .int .i64 p.to.kind, .int .i64 p.to.nr, .slice ah p.heads.length ch]) := fun W h => arr_range (hap.below h (by omega))
  have HAK : RowKit.Hid (∀ W, Below Y.heap.size Y W → sl.Arr W (w.heap.size + 1) 37 [.int .i64 id, .slice sA sec.length sc]) := fun W h => hak.below h (by omega)
  have HAO : RowKit.Hid (∀ W, Below Y.heap.size Y W → sl.Arr W (w.heap.size + 2) 39 [.int .i64 K, .int .i64 LL, .int .i64 RR, .int .i64 FF]) := fun W h => hao.below h (by omega)
  have HRS : RowKit.Hid (∀ W, Below Y.heap.size Y W → sl.RdN W.heap.size W sA sec) := fun W h => ((hsr.below hBY (Nat.le_refl _)).below h (by omega)).mono (by have := h.size; omega)
  have HPK : RowKit.Hid (∀ W, Below Y.heap.size Y W → Pk W.heap.size W p ae ar ah ce cr ch) := fun W h => (hp.below (hBY.trans (h.mono (by omega)))).mono (hBY.trans (h.mono (by omega))).size
  have HTW : RowKit.Hid (∀ W, Below Y.heap.size Y W → Tab W) := fun W h => hT.below (hBY.trans (h.mono (by omega))) hT.pos
  have HUW : RowKit.Hid (∀ W, Below Y.heap.size Y W → sl.Tabs W) := fun W h => hU.below (hBY.trans (h.mono (by omega))) hU.pos
  have HBY := Lib.hid hBY
  have HLE : RowKit.Hid (w.heap.size ≤ Y.heap.size) := by show _ ≤ _; omega
  have hTE := Lib.hid (wenc_ok tireP none none none 0 0 0 Y (tire_pk Y) tire_right (by rw [tire_enc]; simp) [4, 8] tire_enc)
  have U1 : True := trivial
  have U2 : True := trivial
  clear hBY hYs hap hak hao hsr hT hU hp
  have hE : RowKit.Hid (∀ W, Below Y.heap.size Y W → Calls Tryd.prog 4 #[.agg #[.int .i64 p.kind, .int .i64 p.lie.node, .int .i64 p.lie.level, .int .i64 p.lie.pod, .int .i64 p.lie.mtu, .int .i64 p.lie.link, .int .i64 p.lie.nonce, .int .i64 p.lie.seen, .int .i64 p.lie.seenLink, .int .i64 p.lie.seenNonce, .int .i64 p.lie.hold, .bool p.lie.rep, .bool p.lie.noOffer, .int .i64 p.tie.head.id.dir, .int .i64 p.tie.head.id.orig, .int .i64 p.tie.head.id.kind, .int .i64 p.tie.head.id.nr, .int .i64 p.tie.head.seq, .int .i64 p.tie.head.life, .int .i64 p.tie.level, .bool p.tie.over, .slice ae p.tie.edges.length ce, .slice ar p.tie.reaches.length cr, .int .i64 p.frm.dir, .int .i64 p.frm.orig, .int .i64 p.frm.kind, .int .i64 p.frm.nr, .int .i64 p.to.dir, .int .i64 p.to.orig, .int .i64 p.to.kind, .int .i64 p.to.nr, .slice ah p.heads.length ch]] W (GotZ zs ke W)) := fun W hW => by
    rw [← hzs, ← hke]
    exact wenc_z p ae ar ah ce cr ch W (HPK.out W hW)
  clear hzs hke
  have hw := fun A W c h1 h2 h3 => wrap_ok id sA sc sec hsb hsc (by omega) K LL RR FF ho hw0 A c (natsB zs) (nats_lt hz8) (by rw [nats_len]; exact hzl) W h1 h2 h3
  rw [nats_len] at hw
  have HZ8 := Lib.hid hz8
  clear ho hw0 hz8
  go_enter Tryd.func3, Tryd.ntmps3
  go_wp2_with (first
    | (have tt := U1; clear U1 tt; go_at_call 4; refine hTE.out.mono ?_; rintro e w1 ⟨A1, c1, rfl, -, -, -, hb⟩; have B1 := Lib.hid hb; clear hb)
    | (have tt := U2; clear U2 tt; refine wpList_load_mid rfl 34 (.tmp 3) rfl _ _ rfl _ _ (HPR.out _ B1.out) Tryd.underlying34 rfl (by kernel_rfl) ?_)
    | (go_at_call 5; refine (few3_any p ae ar ah ce cr ch _).mono ?_; rintro e w2 ⟨rfl, hb⟩; rw [HF.out]; have B2 := Lib.hid (B1.out.trans (hb.mono B1.out.size)); have ck1 := (HAK.out _ B2.out).cell 1; simp only [List.getElem?_cons_zero, List.getElem?_cons_succ] at ck1; clear hb)
    | (refine wpList_load_mid rfl 34 (.tmp 3) rfl _ _ rfl _ _ (HPR.out _ B2.out) Tryd.underlying34 rfl (by kernel_rfl) ?_)
    | (go_at_call 4; refine (hE.out w2 B2.out).mono ?_; rintro e w3 ⟨A3, c3, rfl, hr3, hb⟩; have R3 := Lib.hid hr3; have B3 := Lib.hid (B2.out.trans (hb.mono B2.out.size)); clear hb hr3 ck1)
    | (refine wpList_load_arr rfl 37 (.tmp 4) rfl (w.heap.size + 1) rfl (HAK.out _ B3.out) Tryd.underlying37 rfl sizeK rfl ?_)
    | (refine wpList_load_arr rfl 39 (.tmp 5) rfl (w.heap.size + 2) rfl (HAO.out _ B3.out) Tryd.underlying39 rfl sizeO rfl ?_)
    | (go_at_call 6; refine (hw _ _ _ (HRS.out _ B3.out) (rdN_of R3.out HZ8.out) (HUW.out _ B3.out)).mono ?_; rintro e w4 ⟨⟨v4, rfl, -⟩, hb⟩; have B4 := Lib.hid (B3.out.trans (hb.mono B3.out.size)); clear hb))
  all_goals go_ret
  all_goals exact ⟨rfl, HBY.out.trans (B4.out.mono HLE.out)⟩
set_option maxRecDepth 100000 in
set_option maxHeartbeats 6400000 in
theorem top_ok (p : PackT) (ae ar ah : Option Addr) (ce cr ch : Nat) (id : Int) (sA : Option Addr) (sc : Nat) (sec : List Nat) (k l r f : Int) (w : World) (hp : Pk w.heap.size w p ae ar ah ce cr ch) (hs : sl.InB w sA sec.length sc sec) (hT : Tab w) (hU : sl.Tabs w) (hf : few3 p = true) (hx : ¬ 200 < sec.length) (ho : okO k l r f) (hw0 : okW id sec.length k) (zs : List Int) (hzs : bytesW p = zs) (hke0 : errW p = 0) : Calls Tryd.prog 3 #[.agg #[.int .i64 p.kind, .int .i64 p.lie.node, .int .i64 p.lie.level, .int .i64 p.lie.pod, .int .i64 p.lie.mtu, .int .i64 p.lie.link, .int .i64 p.lie.nonce, .int .i64 p.lie.seen, .int .i64 p.lie.seenLink, .int .i64 p.lie.seenNonce, .int .i64 p.lie.hold, .bool p.lie.rep, .bool p.lie.noOffer, .int .i64 p.tie.head.id.dir, .int .i64 p.tie.head.id.orig, .int .i64 p.tie.head.id.kind, .int .i64 p.tie.head.id.nr, .int .i64 p.tie.head.seq, .int .i64 p.tie.head.life, .int .i64 p.tie.level, .bool p.tie.over, .slice ae p.tie.edges.length ce, .slice ar p.tie.reaches.length cr, .int .i64 p.frm.dir, .int .i64 p.frm.orig, .int .i64 p.frm.kind, .int .i64 p.frm.nr, .int .i64 p.to.dir, .int .i64 p.to.orig, .int .i64 p.to.kind, .int .i64 p.to.nr, .slice ah p.heads.length ch], .agg #[.int .i64 id, .slice sA sec.length sc], .agg #[.int .i64 k, .int .i64 l, .int .i64 r, .int .i64 f]] w fun e w' => e = .returned (.bool true) ∧ Below w.heap.size w w' := by
  have HF := Lib.hid hf
  clear hf
  obtain ⟨K, rfl⟩ : ∃ K : Nat, k = K := ⟨k.toNat, by unfold okO okIn at ho; omega⟩
  obtain ⟨LL, rfl⟩ : ∃ L : Nat, l = L := ⟨l.toNat, by unfold okO okIn at ho; omega⟩
  obtain ⟨RR, rfl⟩ : ∃ R : Nat, r = R := ⟨r.toNat, by unfold okO okIn at ho; omega⟩
  obtain ⟨FF, rfl⟩ : ∃ F : Nat, f = F := ⟨f.toNat, by unfold okO okIn at ho; omega⟩
  obtain ⟨ke, hke, hkz⟩ : ∃ ke, errW p = ke ∧ ke = 0 := ⟨_, rfl, hke0⟩
  obtain ⟨hrt, hl4, hbe⟩ := err_ok hke0
  have hzl := bytes_len p
  have hz8 := bytes_u8 p
  have hyd : decW zs = some p := by rw [← hzs, hbe]; exact dec_back hrt hp.ok (by omega)
  rw [hzs] at hzl hz8
  subst hkz
  clear hke0 hl4 hbe hrt
  obtain ⟨_, hsc, hsm, hsb, hsr⟩ := hs
  have hsl : sec.length ≤ 9223372036854775807 := by unfold maxLen at hsm; omega
  obtain ⟨Y, hY⟩ : ∃ Y, ((w.alloc (.cells #[.int .i64 p.kind, .int .i64 p.lie.node, .int .i64 p.lie.level, .int .i64 p.lie.pod, .int .i64 p.lie.mtu, .int .i64 p.lie.link, .int .i64 p.lie.nonce, .int .i64 p.lie.seen, .int .i64 p.lie.seenLink, .int .i64 p.lie.seenNonce, .int .i64 p.lie.hold, .bool p.lie.rep, .bool p.lie.noOffer, .int .i64 p.tie.head.id.dir, .int .i64 p.tie.head.id.orig, .int .i64 p.tie.head.id.kind, .int .i64 p.tie.head.id.nr, .int .i64 p.tie.head.seq, .int .i64 p.tie.head.life, .int .i64 p.tie.level, .bool p.tie.over, .slice ae p.tie.edges.length ce, .slice ar p.tie.reaches.length cr, .int .i64 p.frm.dir, .int .i64 p.frm.orig, .int .i64 p.frm.kind, .int .i64 p.frm.nr, .int .i64 p.to.dir, .int .i64 p.to.orig, .int .i64 p.to.kind, .int .i64 p.to.nr, .slice ah p.heads.length ch] 34)).alloc (.cells #[.int .i64 id, .slice sA sec.length sc] 37)).alloc (.cells #[.int .i64 K, .int .i64 LL, .int .i64 RR, .int .i64 FF] 39) = Y := ⟨_, rfl⟩
  have hBY : Below w.heap.size w Y := by rw [← hY]; exact (((Below.refl w.heap.size w).alloc (Nat.le_refl _) _).alloc (by simp) _).alloc (by simp; omega) _
  have hYs : Y.heap.size = w.heap.size + 3 := by rw [← hY]; simp
  have hap : sl.Arr Y w.heap.size 34 [.int .i64 p.kind, .int .i64 p.lie.node, .int .i64 p.lie.level, .int .i64 p.lie.pod, .int .i64 p.lie.mtu, .int .i64 p.lie.link, .int .i64 p.lie.nonce, .int .i64 p.lie.seen, .int .i64 p.lie.seenLink, .int .i64 p.lie.seenNonce, .int .i64 p.lie.hold, .bool p.lie.rep, .bool p.lie.noOffer, .int .i64 p.tie.head.id.dir, .int .i64 p.tie.head.id.orig, .int .i64 p.tie.head.id.kind, .int .i64 p.tie.head.id.nr, .int .i64 p.tie.head.seq, .int .i64 p.tie.head.life, .int .i64 p.tie.level, .bool p.tie.over, .slice ae p.tie.edges.length ce, .slice ar p.tie.reaches.length cr, .int .i64 p.frm.dir, .int .i64 p.frm.orig, .int .i64 p.frm.kind, .int .i64 p.frm.nr, .int .i64 p.to.dir, .int .i64 p.to.orig, .int .i64 p.to.kind, .int .i64 p.to.nr, .slice ah p.heads.length ch] := by rw [← hY]; exact ((sl.Arr.new w 34 [.int .i64 p.kind, .int .i64 p.lie.node, .int .i64 p.lie.level, .int .i64 p.lie.pod, .int .i64 p.lie.mtu, .int .i64 p.lie.link, .int .i64 p.lie.nonce, .int .i64 p.lie.seen, .int .i64 p.lie.seenLink, .int .i64 p.lie.seenNonce, .int .i64 p.lie.hold, .bool p.lie.rep, .bool p.lie.noOffer, .int .i64 p.tie.head.id.dir, .int .i64 p.tie.head.id.orig, .int .i64 p.tie.head.id.kind, .int .i64 p.tie.head.id.nr, .int .i64 p.tie.head.seq, .int .i64 p.tie.head.life, .int .i64 p.tie.level, .bool p.tie.over, .slice ae p.tie.edges.length ce, .slice ar p.tie.reaches.length cr, .int .i64 p.frm.dir, .int .i64 p.frm.orig, .int .i64 p.frm.kind, .int .i64 p.frm.nr, .int .i64 p.to.dir, .int .i64 p.to.orig, .int .i64 p.to.kind, .int .i64 p.to.nr, .slice ah p.heads.length ch]).alloc _).alloc _
  have hak : sl.Arr Y (w.heap.size + 1) 37 [.int .i64 id, .slice sA sec.length sc] := by rw [← hY]; exact (sl.Arr.new2 w (.cells #[.int .i64 p.kind, .int .i64 p.lie.node, .int .i64 p.lie.level, .int .i64 p.lie.pod, .int .i64 p.lie.mtu, .int .i64 p.lie.link, .int .i64 p.lie.nonce, .int .i64 p.lie.seen, .int .i64 p.lie.seenLink, .int .i64 p.lie.seenNonce, .int .i64 p.lie.hold, .bool p.lie.rep, .bool p.lie.noOffer, .int .i64 p.tie.head.id.dir, .int .i64 p.tie.head.id.orig, .int .i64 p.tie.head.id.kind, .int .i64 p.tie.head.id.nr, .int .i64 p.tie.head.seq, .int .i64 p.tie.head.life, .int .i64 p.tie.level, .bool p.tie.over, .slice ae p.tie.edges.length ce, .slice ar p.tie.reaches.length cr, .int .i64 p.frm.dir, .int .i64 p.frm.orig, .int .i64 p.frm.kind, .int .i64 p.frm.nr, .int .i64 p.to.dir, .int .i64 p.to.orig, .int .i64 p.to.kind, .int .i64 p.to.nr, .slice ah p.heads.length ch] 34) 37 [.int .i64 id, .slice sA sec.length sc]).alloc _
  have hao : sl.Arr Y (w.heap.size + 2) 39 [.int .i64 K, .int .i64 LL, .int .i64 RR, .int .i64 FF] := by rw [← hY]; simpa using sl.Arr.new2 (w.alloc (.cells #[.int .i64 p.kind, .int .i64 p.lie.node, .int .i64 p.lie.level, .int .i64 p.lie.pod, .int .i64 p.lie.mtu, .int .i64 p.lie.link, .int .i64 p.lie.nonce, .int .i64 p.lie.seen, .int .i64 p.lie.seenLink, .int .i64 p.lie.seenNonce, .int .i64 p.lie.hold, .bool p.lie.rep, .bool p.lie.noOffer, .int .i64 p.tie.head.id.dir, .int .i64 p.tie.head.id.orig, .int .i64 p.tie.head.id.kind, .int .i64 p.tie.head.id.nr, .int .i64 p.tie.head.seq, .int .i64 p.tie.head.life, .int .i64 p.tie.level, .bool p.tie.over, .slice ae p.tie.edges.length ce, .slice ar p.tie.reaches.length cr, .int .i64 p.frm.dir, .int .i64 p.frm.orig, .int .i64 p.frm.kind, .int .i64 p.frm.nr, .int .i64 p.to.dir, .int .i64 p.to.orig, .int .i64 p.to.kind, .int .i64 p.to.nr, .slice ah p.heads.length ch] 34)) (.cells #[.int .i64 id, .slice sA sec.length sc] 37) 39 [.int .i64 K, .int .i64 LL, .int .i64 RR, .int .i64 FF]
  have HPR : RowKit.Hid (∀ W, Below Y.heap.size Y W → W.rangeAt w.heap.size 0 [.int .i64 p.kind, .int .i64 p.lie.node, .int .i64 p.lie.level, .int .i64 p.lie.pod, .int .i64 p.lie.mtu, .int .i64 p.lie.link, .int .i64 p.lie.nonce, .int .i64 p.lie.seen, .int .i64 p.lie.seenLink, .int .i64 p.lie.seenNonce, .int .i64 p.lie.hold, .bool p.lie.rep, .bool p.lie.noOffer, .int .i64 p.tie.head.id.dir, .int .i64 p.tie.head.id.orig, .int .i64 p.tie.head.id.kind, .int .i64 p.tie.head.id.nr, .int .i64 p.tie.head.seq, .int .i64 p.tie.head.life, .int .i64 p.tie.level, .bool p.tie.over, .slice ae p.tie.edges.length ce, .slice ar p.tie.reaches.length cr, .int .i64 p.frm.dir, .int .i64 p.frm.orig, .int .i64 p.frm.kind, .int .i64 p.frm.nr, .int .i64 p.to.dir, .int .i64 p.to.orig, .int .i64 p.to.kind, .int .i64 p.to.nr, .slice ah p.heads.length ch]) := fun W h => arr_range (hap.below h (by omega))
  have HAK : RowKit.Hid (∀ W, Below Y.heap.size Y W → sl.Arr W (w.heap.size + 1) 37 [.int .i64 id, .slice sA sec.length sc]) := fun W h => hak.below h (by omega)
  have HAO : RowKit.Hid (∀ W, Below Y.heap.size Y W → sl.Arr W (w.heap.size + 2) 39 [.int .i64 K, .int .i64 LL, .int .i64 RR, .int .i64 FF]) := fun W h => hao.below h (by omega)
  have HRS : RowKit.Hid (∀ W, Below Y.heap.size Y W → sl.RdN W.heap.size W sA sec) := fun W h => ((hsr.below hBY (Nat.le_refl _)).below h (by omega)).mono (by have := h.size; omega)
  have HPK : RowKit.Hid (∀ W, Below Y.heap.size Y W → Pk W.heap.size W p ae ar ah ce cr ch) := fun W h => (hp.below (hBY.trans (h.mono (by omega)))).mono (hBY.trans (h.mono (by omega))).size
  have HTW : RowKit.Hid (∀ W, Below Y.heap.size Y W → Tab W) := fun W h => hT.below (hBY.trans (h.mono (by omega))) hT.pos
  have HUW : RowKit.Hid (∀ W, Below Y.heap.size Y W → sl.Tabs W) := fun W h => hU.below (hBY.trans (h.mono (by omega))) hU.pos
  have HBY := Lib.hid hBY
  have HLE : RowKit.Hid (w.heap.size ≤ Y.heap.size) := by show _ ≤ _; omega
  have hTE := Lib.hid (wenc_ok tireP none none none 0 0 0 Y (tire_pk Y) tire_right (by rw [tire_enc]; simp) [4, 8] tire_enc)
  have U1 : True := trivial
  have U2 : True := trivial
  clear hBY hYs hap hak hao hsr hT hU hp
  have hE : RowKit.Hid (∀ W, Below Y.heap.size Y W → Calls Tryd.prog 4 #[.agg #[.int .i64 p.kind, .int .i64 p.lie.node, .int .i64 p.lie.level, .int .i64 p.lie.pod, .int .i64 p.lie.mtu, .int .i64 p.lie.link, .int .i64 p.lie.nonce, .int .i64 p.lie.seen, .int .i64 p.lie.seenLink, .int .i64 p.lie.seenNonce, .int .i64 p.lie.hold, .bool p.lie.rep, .bool p.lie.noOffer, .int .i64 p.tie.head.id.dir, .int .i64 p.tie.head.id.orig, .int .i64 p.tie.head.id.kind, .int .i64 p.tie.head.id.nr, .int .i64 p.tie.head.seq, .int .i64 p.tie.head.life, .int .i64 p.tie.level, .bool p.tie.over, .slice ae p.tie.edges.length ce, .slice ar p.tie.reaches.length cr, .int .i64 p.frm.dir, .int .i64 p.frm.orig, .int .i64 p.frm.kind, .int .i64 p.frm.nr, .int .i64 p.to.dir, .int .i64 p.to.orig, .int .i64 p.to.kind, .int .i64 p.to.nr, .slice ah p.heads.length ch]] W (GotZ zs 0 W)) := fun W hW => by
    have q := wenc_z p ae ar ah ce cr ch W (HPK.out W hW)
    rw [hzs, hke] at q
    exact q
  clear hzs hke
  obtain ⟨b, hbN⟩ : ∃ b, natsB zs = b := ⟨_, rfl⟩
  have hb8 : ∀ x ∈ b, x < 256 := by rw [← hbN]; exact nats_lt hz8
  have hbl : b.length = zs.length := by rw [← hbN, nats_len]
  have HBB : RowKit.Hid (∀ (W : World) (A : Option Addr), Rd .u8 W.heap.size W A zs → sl.RdN W.heap.size W A b) := fun W A h => by rw [← hbN]; exact rdN_of h hz8
  have HD : RowKit.Hid (∀ (A : Option Addr) (c : Nat), zs.length ≤ c → c ≤ maxLen → ∀ W, Below Y.heap.size Y W → sl.RdN W.heap.size W A b → Calls Tryd.prog 8 #[.slice A zs.length c] W (GotP p W)) := fun A c hc hm W hW hr => wdec_some (a := A) (cap := c) rfl hyd (by omega) (by omega) (by unfold maxLen at hm; omega) hz8 (rd_ofN (by rw [hbN]; exact hr) hz8) (HTW.out W hW)
  obtain ⟨sA', sc', sec', hsb', hsc', hsl', hWe, HRS', hfnd⟩ : ∃ (sA' : Option Addr) (sc' : Nat) (sec' : List Nat), (∀ x ∈ sec', x < 256) ∧ sec'.length ≤ sc' ∧ sec'.length ≤ 1000000 ∧ wrapL K LL RR FF sec b = wrapL K LL RR FF sec' b ∧ RowKit.Hid (∀ W, Below Y.heap.size Y W → sl.RdN W.heap.size W sA' sec') ∧
      (∀ (kA : Option Addr) (kc : Nat) (W0 : World), RdK W0.heap.size W0 kA [⟨id, sA, sec.length, sc⟩] → ∀ W, Below W0.heap.size W0 W → Calls Tryd.prog 18 #[.slice kA 1 kc, .int .i64 K] W fun e w' => e = .returned (.tuple #[.agg #[.int .i64 K, .slice sA' sec'.length sc'], .bool true]) ∧ Below W.heap.size W w') := by
    by_cases hK : K = 0
    · subst hK
      exact ⟨none, 0, [], by simp, by simp, by simp, wrapL_zero _ _ _ _ _ _, fun W _ => sl.RdN.nil _ _ _, fun kA kc W0 _ W _ => find_zero _ W⟩
    · have hwk : okK id sec.length ∧ id = (K : Int) := (by rcases hw0 with h | h; exact absurd h (by omega); exact h)
      obtain ⟨hk1, rfl⟩ := hwk
      exact ⟨sA, sc, sec, hsb, hsc, by omega, rfl, HRS, fun kA kc W0 hr W hW => find_one K (by omega) sA sec.length sc hk1 kA kc W0 hr W hW⟩
  have hw := fun W A c h1 h2 h3 => wrap_ok id sA sc sec hsb hsc (by omega) K LL RR FF ho hw0 A c b hb8 (by omega) W h1 h2 h3
  have hWn := wrapL_len K LL RR FF sec b
  have hop1 := fun kv W g c h1 h2 h3 h4 h5 h6 => open_gen kv K sA' sc' sec' hsb' hsc' hsl' g c LL RR FF ho b hb8 (by omega) W h1 h2 h3 h4 h5 h6
  rw [hWe] at hw hWn
  obtain ⟨WL, hWL⟩ : ∃ WL, wrapL K LL RR FF sec' b = WL := ⟨_, rfl⟩
  rw [hWL] at hw hWn hop1
  rw [hWn] at hw
  rw [hbl] at hw hWn hop1
  have HWN := Lib.hid hWn
  have HFN := Lib.hid hfnd
  have HBL := Lib.hid hbl
  clear hWe hWn hfnd hWL hbl hbN hb8 hz8 hyd ho hw0 hzl
  go_enter Tryd.func3, Tryd.ntmps3
  go_wp2_with (first
    | (have tt := U1; clear U1 tt; go_at_call 4; refine hTE.out.mono ?_; rintro e w1 ⟨A1, c1, rfl, -, -, -, hb⟩; have B1 := Lib.hid hb; clear hb)
    | (have tt := U2; clear U2 tt; refine wpList_load_mid rfl 34 (.tmp 3) rfl _ _ rfl _ _ (HPR.out _ B1.out) Tryd.underlying34 rfl (by kernel_rfl) ?_)
    | (go_at_call 5; refine (few3_any p ae ar ah ce cr ch _).mono ?_; rintro e w2 ⟨rfl, hb⟩; rw [HF.out]; have B2 := Lib.hid (B1.out.trans (hb.mono B1.out.size)); have ck1 := (HAK.out _ B2.out).cell 1; simp only [List.getElem?_cons_zero, List.getElem?_cons_succ] at ck1; clear hb)
    | (refine wpList_load_mid rfl 34 (.tmp 3) rfl _ _ rfl _ _ (HPR.out _ B2.out) Tryd.underlying34 rfl (by kernel_rfl) ?_)
    | (go_at_call 4; refine (hE.out w2 B2.out).mono ?_; rintro e w3 ⟨A3, c3, rfl, hr3, hb⟩; have R3 := Lib.hid hr3; have B3 := Lib.hid (B2.out.trans (hb.mono B2.out.size)); clear hb hr3 ck1)
    | (refine wpList_load_arr rfl 37 (.tmp 4) rfl (w.heap.size + 1) rfl (HAK.out _ B3.out) Tryd.underlying37 rfl sizeK rfl ?_)
    | (refine wpList_load_arr rfl 39 (.tmp 5) rfl (w.heap.size + 2) rfl (HAO.out _ B3.out) Tryd.underlying39 rfl sizeO rfl ?_)
    | (go_at_call 6; refine (hw _ _ _ (HRS.out _ B3.out) (HBB.out _ _ R3.out) (HUW.out _ B3.out)).mono ?_; rintro e w4 ⟨⟨v4, rfl, HO4⟩, hb⟩; have B4 := Lib.hid (B3.out.trans (hb.mono B3.out.size)); have ho4 : World.ownsRow w4 w3.heap.size 5 1 v4 WL.length (u8s WL) := (by rw [HWN.out]; exact HO4.out); obtain ⟨g, c, rfl, hc, hcm, hvg, hr4⟩ := own_rd ho4 (by rw [HWN.out]; omega); rw [HWN.out] at hc ⊢; have HCM : RowKit.Hid (c ≤ 9223372036854775807) := (by show _ ≤ _; unfold maxLen at hcm; omega); have HRC := Lib.hid (show ∀ W, Below w4.heap.size w4 W → sl.RdN W.heap.size W (some ⟨g, 0, none⟩) WL from fun W h => (hr4.below h (Nat.le_refl _)).mono h.size); have R5 := Lib.hid ((Below.refl w4.heap.size w4).alloc (Nat.le_refl _) (.cells #[.int .i64 id, .slice sA sec.length sc] 37)); have B5 := Lib.hid (B4.out.alloc B4.out.size (.cells #[.int .i64 id, .slice sA sec.length sc] 37)); have hK5 := Lib.hid (RdK.one (n₀ := (w4.alloc (.cells #[.int .i64 id, .slice sA sec.length sc] 37)).heap.size) (sl.Arr.new w4 37 [.int .i64 id, .slice sA sec.length sc]) (by omega) (by simp)); clear hb HO4 ho4 hr4 hcm hvg)
    | (refine wpList_load_arr rfl 37 (.tmp 4) rfl (w.heap.size + 1) rfl (HAK.out _ B4.out) Tryd.underlying37 rfl sizeK rfl ?_)
    | (go_at_call 7; refine (hop1 (.slice (some ⟨w4.heap.size, 0, none⟩) 1 1) (w4.alloc (.cells #[.int .i64 id, .slice sA sec.length sc] 37)) g c hc HCM.out (HRC.out _ R5.out) (HRS'.out _ B5.out) (HUW.out _ B5.out) (HFN.out _ 1 _ hK5.out)).mono ?_; rintro e w6 ⟨⟨v6, rfl, HO6⟩, hb⟩; obtain ⟨ad6, c6, rfl, hc6, hr6⟩ := own_rd0 HO6.out HBL.out; have hm6 := Lib.hid (own_cap HO6.out); have HC6 := Lib.hid hc6; have B6 := Lib.hid (B5.out.trans (hb.mono B5.out.size)); have R6 := Lib.hid hr6; clear hb HO6 hr6 hc6 hK5 R5)
    | (refine wpList_store_arr rfl 39 (.tmp 12) (.tmp 63) rfl w6.heap.size rfl (vs := [.int .i64 K, .int .i64 LL, .int .i64 RR, .int .i64 FF]) rfl (show sl.Arr _ w6.heap.size 39 [.int .i64 0, .int .i64 0, .int .i64 0, .int .i64 0] from sl.Arr.new w6 39 [.int .i64 0, .int .i64 0, .int .i64 0, .int .i64 0]) sizeO rfl rfl (by simp [Value.oneCell']) ?_; intro W7 A7 B7x hsz7 O7; have K7 := Lib.hid (((Below.refl w6.heap.size w6).alloc (Nat.le_refl _) _).trans B7x.out); have B7 := Lib.hid (B6.out.trans (K7.out.mono B6.out.size)); have R7 := Lib.hid ((R6.out.below K7.out (Nat.le_refl _)).mono K7.out.size); have AA7 := Lib.hid A7; clear B7x hsz7 O7 R6 K7 A7)
    | (go_at_call 8; refine (HD.out ad6 c6 HC6.out hm6.out W7 B7.out R7.out).mono ?_; rintro e w8 ⟨Be, Br, Bh, De, Dr, Dh, rfl, hq, hb⟩; have PK8 := Lib.hid hq; have AA8 := Lib.hid (AA7.out.below hb AA7.out.lt); have TH8 := Lib.hid (there_of (n := 32) (World.alloc_heap_new w8 (.cells #[.int .i64 0, .int .i64 0, .int .i64 0, .int .i64 0, .int .i64 0, .int .i64 0, .int .i64 0, .int .i64 0, .int .i64 0, .int .i64 0, .int .i64 0, .bool false, .bool false, .int .i64 0, .int .i64 0, .int .i64 0, .int .i64 0, .int .i64 0, .int .i64 0, .int .i64 0, .bool false, .slice none 0 0, .slice none 0 0, .int .i64 0, .int .i64 0, .int .i64 0, .int .i64 0, .int .i64 0, .int .i64 0, .int .i64 0, .int .i64 0, .slice none 0 0] 34)) (Nat.le_refl _)); have B8 := Lib.hid (B7.out.trans (hb.mono B7.out.size)); clear hb hq)
    | (refine wpList_store_mid rfl 34 (.tmp 15) (.tmp 69) rfl w8.heap.size 0 #[.int .i64 p.kind, .int .i64 p.lie.node, .int .i64 p.lie.level, .int .i64 p.lie.pod, .int .i64 p.lie.mtu, .int .i64 p.lie.link, .int .i64 p.lie.nonce, .int .i64 p.lie.seen, .int .i64 p.lie.seenLink, .int .i64 p.lie.seenNonce, .int .i64 p.lie.hold, .bool p.lie.rep, .bool p.lie.noOffer, .int .i64 p.tie.head.id.dir, .int .i64 p.tie.head.id.orig, .int .i64 p.tie.head.id.kind, .int .i64 p.tie.head.id.nr, .int .i64 p.tie.head.seq, .int .i64 p.tie.head.life, .int .i64 p.tie.level, .bool p.tie.over, .slice Be p.tie.edges.length De, .slice Br p.tie.reaches.length Dr, .int .i64 p.frm.dir, .int .i64 p.frm.orig, .int .i64 p.frm.kind, .int .i64 p.frm.nr, .int .i64 p.to.dir, .int .i64 p.to.orig, .int .i64 p.to.kind, .int .i64 p.to.nr, .slice Bh p.heads.length Dh] rfl rfl TH8.out (by kernel_rfl) (by simp [Value.oneCell']) ?_; obtain ⟨W9, hW⟩ : ∃ W, (w8.alloc (.cells #[.int .i64 0, .int .i64 0, .int .i64 0, .int .i64 0, .int .i64 0, .int .i64 0, .int .i64 0, .int .i64 0, .int .i64 0, .int .i64 0, .int .i64 0, .bool false, .bool false, .int .i64 0, .int .i64 0, .int .i64 0, .int .i64 0, .int .i64 0, .int .i64 0, .int .i64 0, .bool false, .slice none 0 0, .slice none 0 0, .int .i64 0, .int .i64 0, .int .i64 0, .int .i64 0, .int .i64 0, .int .i64 0, .int .i64 0, .int .i64 0, .slice none 0 0] 34)).setCells w8.heap.size 0 [.int .i64 p.kind, .int .i64 p.lie.node, .int .i64 p.lie.level, .int .i64 p.lie.pod, .int .i64 p.lie.mtu, .int .i64 p.lie.link, .int .i64 p.lie.nonce, .int .i64 p.lie.seen, .int .i64 p.lie.seenLink, .int .i64 p.lie.seenNonce, .int .i64 p.lie.hold, .bool p.lie.rep, .bool p.lie.noOffer, .int .i64 p.tie.head.id.dir, .int .i64 p.tie.head.id.orig, .int .i64 p.tie.head.id.kind, .int .i64 p.tie.head.id.nr, .int .i64 p.tie.head.seq, .int .i64 p.tie.head.life, .int .i64 p.tie.level, .bool p.tie.over, .slice Be p.tie.edges.length De, .slice Br p.tie.reaches.length Dr, .int .i64 p.frm.dir, .int .i64 p.frm.orig, .int .i64 p.frm.kind, .int .i64 p.frm.nr, .int .i64 p.to.dir, .int .i64 p.to.orig, .int .i64 p.to.kind, .int .i64 p.to.nr, .slice Bh p.heads.length Dh] = W := ⟨_, rfl⟩; rw [hW]; obtain ⟨hpk, hbw, hsz⟩ := boxed_pk hW B8.out PK8.out; have h89 : Below w8.heap.size w8 W9 := (by rw [← hW]; exact below_cells ((Below.refl _ _).alloc (Nat.le_refl _) _) (Nat.le_refl _) _ _); have PK9 := Lib.hid hpk; have B9 := Lib.hid hbw; have AA9 := Lib.hid (AA8.out.below h89 AA8.out.lt); have RH9 := Lib.hid (boxed_range (Nat.le_refl _) hW); clear hpk hbw hsz hW h89)
    | (refine wpList_load_mid rfl 34 (.tmp 15) rfl _ _ rfl _ _ RH9.out Tryd.underlying34 rfl (by kernel_rfl) ?_)
    | (refine wpList_load_mid rfl 34 (.tmp 3) rfl _ _ rfl _ _ (HPR.out _ B9.out) Tryd.underlying34 rfl (by kernel_rfl) ?_)
    | (go_at_call 9; refine (same_self p Be Br Bh ae ar ah De Dr Dh ce cr ch W9 PK9.out (HPK.out _ B9.out)).mono ?_; rintro e w10 ⟨rfl, hb⟩; have B10 := Lib.hid (B9.out.trans (hb.mono B9.out.size)); have AAx := AA9.out.below hb AA9.out.lt; have p0 := AAx.cell 0; have p1 := AAx.cell 1; have p2 := AAx.cell 2; have p3 := AAx.cell 3; have AO := HAO.out _ B10.out; have t0 := AO.cell 0; have t1 := AO.cell 1; have t2 := AO.cell 2; have t3 := AO.cell 3; simp only [List.getElem?_cons_zero, List.getElem?_cons_succ] at p0 p1 p2 p3 t0 t1 t2 t3; clear hb AAx AO))
  all_goals go_ret
  all_goals exact ⟨rfl, HBY.out.trans (B10.out.mono HLE.out)⟩
theorem top_walk (p : PackT) (ae ar ah : Option Addr) (ce cr ch : Nat) (id : Int) (sA : Option Addr) (sc : Nat) (sec : List Nat) (k l r f : Int) (w : World) (hp : Pk w.heap.size w p ae ar ah ce cr ch) (hs : sl.InB w sA sec.length sc sec) (hT : Tab w) (hU : sl.Tabs w) : Calls Tryd.prog 3 #[.agg #[.int .i64 p.kind, .int .i64 p.lie.node, .int .i64 p.lie.level, .int .i64 p.lie.pod, .int .i64 p.lie.mtu, .int .i64 p.lie.link, .int .i64 p.lie.nonce, .int .i64 p.lie.seen, .int .i64 p.lie.seenLink, .int .i64 p.lie.seenNonce, .int .i64 p.lie.hold, .bool p.lie.rep, .bool p.lie.noOffer, .int .i64 p.tie.head.id.dir, .int .i64 p.tie.head.id.orig, .int .i64 p.tie.head.id.kind, .int .i64 p.tie.head.id.nr, .int .i64 p.tie.head.seq, .int .i64 p.tie.head.life, .int .i64 p.tie.level, .bool p.tie.over, .slice ae p.tie.edges.length ce, .slice ar p.tie.reaches.length cr, .int .i64 p.frm.dir, .int .i64 p.frm.orig, .int .i64 p.frm.kind, .int .i64 p.frm.nr, .int .i64 p.to.dir, .int .i64 p.to.orig, .int .i64 p.to.kind, .int .i64 p.to.nr, .slice ah p.heads.length ch], .agg #[.int .i64 id, .slice sA sec.length sc], .agg #[.int .i64 k, .int .i64 l, .int .i64 r, .int .i64 f]] w fun e w' => e = .returned (.bool true) ∧ Below w.heap.size w w' := by
  by_cases hf : few3 p = true
  rotate_left
  · exact top_few p ae ar ah ce cr ch id sA sc sec k l r f w hp hs hT hU (by simpa using hf)
  by_cases hx : 200 < sec.length
  · exact top_long p ae ar ah ce cr ch id sA sc sec k l r f w hp hs hT hU hf hx
  by_cases hok : okO k l r f ∧ okW id sec.length k
  · by_cases he : errW p = 0
    · exact top_ok p ae ar ah ce cr ch id sA sc sec k l r f w hp hs hT hU hf hx hok.1 hok.2 _ rfl he
    · exact top_err p ae ar ah ce cr ch id sA sc sec k l r f w hp hs hT hU hf hx hok.1 hok.2 _ _ rfl rfl (by simpa using he)
  · by_cases he : errW p = 0
    · exact top_bad0 p ae ar ah ce cr ch id sA sc sec k l r f w hp hs hT hU hf hx hok _ _ rfl rfl (by simpa using he)
    · exact top_bad1 p ae ar ah ce cr ch id sA sc sec k l r f w hp hs hT hU hf hx hok _ _ rfl rfl (by simpa using he)
end Go.Proofs.YthdlcpnmldhllaaDoor

namespace Go.Proofs.YthdlcpnmldhllaaDoor.topSealed
open Go.ChangeShapes Go.WideShapes Go.ChangeAt Go.RowKit
set_option linter.unusedVariables false

theorem own : ownKnob Tryd.prog.godebug = none := by kernel_rfl
theorem laidOut : laidOutB Tryd.prog = true := by kernel_rfl

set_option maxRecDepth 100000 in
theorem lifted (os : Os) (started : os.Started) (H : Type) (enc : TypeId × Value → H) :
    ReturnsInHanded {} Tryd.checked os 3 .any (fun w args => (Rows.topSealedSpec.pre enc Tryd.prog Tryd.f3 [] false w args ∧ laidMetH Tryd.prog [("selvage/sha.start", Rows.laid_selvage_sha_start), ("selvage/sha.k", Rows.laid_selvage_sha_k), ("selvage/wire.places", Rows.laid_selvage_wire_places)] w) ∧ sizedMet enc Tryd.prog Tryd.f3 (OpenSpec.ofChange Rows.topSealedSpec) false w args)
      (Rows.topSealedSpec.post enc Tryd.prog Tryd.f3 false true false false) := by
  refine returnsInHanded_of_change_and (C := Tryd.checked) (X := fun w _ => laidMetH Tryd.prog [("selvage/sha.start", Rows.laid_selvage_sha_start), ("selvage/sha.k", Rows.laid_selvage_sha_k), ("selvage/wire.places", Rows.laid_selvage_wire_places)] w) (fun _ _ _ hh h => h.of_heap hh) own started (by kernel_rfl) Tryd.func3
    (ChangeSpec.witness_shaped (enc := enc) (C := Tryd.checked) (os := os) (X := fun w _ => laidMetH Tryd.prog [("selvage/sha.start", Rows.laid_selvage_sha_start), ("selvage/sha.k", Rows.laid_selvage_sha_k), ("selvage/wire.places", Rows.laid_selvage_wire_places)] w) false (World.doorLaid Tryd.prog 400 os) #[.agg #[.int .i64 0, .int .i64 0, .int .i64 0, .int .i64 0, .int .i64 0, .int .i64 0, .int .i64 0, .int .i64 0, .int .i64 0, .int .i64 0, .int .i64 0, .bool false, .bool false, .int .i64 0, .int .i64 0, .int .i64 0, .int .i64 0, .int .i64 0, .int .i64 0, .int .i64 0, .bool false, .slice none 0 0, .slice none 0 0, .int .i64 0, .int .i64 0, .int .i64 0, .int .i64 0, .int .i64 0, .int .i64 0, .int .i64 0, .int .i64 0, .slice none 0 0], .agg #[.int .i64 0, .slice none 0 0], .agg #[.int .i64 0, .int .i64 0, .int .i64 0, .int .i64 0]] 8 rfl (World.shaped_of_RefB (by kernel_rfl) (by kernel_rfl)) (by kernel_rfl) (by kernel_rfl) (by kernel_rfl) (door_met os _)) ?_
  intro W base args ds gs before hval0 hW _ hsz0 hL _
  have hval : ∀ (j : Nat) t v, Tryd.f3.params[j]? = some t → args[j]? = some v → Value.okWide Tryd.prog W .any base t v := hval0
  have hW' := hW
  obtain ⟨p, q, hA0, hV, rfl, hfz, hnd⟩ := hW
  have hA : DataW.TrodAll enc Tryd.prog W 0 (fun _ => true) true Tryd.f3.params.toList args.toList ds p := hA0
  have hsz : (DataW.weightsEach Tryd.prog (Tryd.f3.params.toList ++ Rows.topSealedSpec.plain.varTypes Tryd.prog) (ds ++ gs)).all (· ≤ reachBytes) = true := hsz0
  rw [Tryd.params3] at hA hval hsz
  obtain ⟨v0, vs0, d0, ds0, p0, q0, hargs, rfl, rfl, h0, r0⟩ := trodAll_cons hA
  obtain ⟨v1, vs1, d1, ds1, p1, q1, rfl, rfl, rfl, h1, r1⟩ := trodAll_cons r0
  obtain ⟨v2, vs2, d2, ds2, p2, q2, rfl, rfl, rfl, h2, r2⟩ := trodAll_cons r1
  obtain ⟨rfl, rfl, rfl⟩ := trodAll_nil r2
  obtain rfl : args = #[v0, v1, v2] := by cases args; simp_all
  obtain ⟨rfl, rfl⟩ := trodVars_none hV
  obtain ⟨cs0, rfl, _⟩ := okWide_struct Tryd.underlying34 (hval 0 34 v0 rfl rfl)
  have k0 := h0
  have lt0 : ∀ x ∈ p0, x.block < W.heap.size := by obtain ⟨m, hm⟩ := k0; exact DataW.trod_lt m _ _ _ hm
  obtain ⟨P0, ae0, ar0, ah0, ce0, cr0, ch0, rfl, w0⟩ := pk_of h0 (fun n hn => by simpa using List.all_eq_true.1 hsz n (DataW.weights_mem_each (j := 0) rfl rfl n hn))
  obtain ⟨cs1, rfl, _⟩ := okWide_struct Tryd.underlying37 (hval 1 37 v1 rfl rfl)
  have k1 := h1
  have lt1 : ∀ x ∈ p1, x.block < W.heap.size := by obtain ⟨m, hm⟩ := k1; exact DataW.trod_lt m _ _ _ hm
  obtain ⟨id1, sA1, sc1, sec1, rfl, bd1, w1⟩ := sl.key_of h1
  obtain ⟨cs2, rfl, _⟩ := okWide_struct Tryd.underlying39 (hval 2 39 v2 rfl rfl)
  have k2 := h2
  have lt2 : ∀ x ∈ p2, x.block < W.heap.size := by obtain ⟨m, hm⟩ := k2; exact DataW.trod_lt m _ _ _ hm
  obtain ⟨k2k, k2l, k2r, k2f, rfl⟩ := sl.outer_of h2
  clear hA0 hval0
  refine (top_walk P0 ae0 ar0 ah0 ce0 cr0 ch0 id1 sA1 sc1 sec1 k2k k2l k2r k2f W w0 w1 (tab_of hL) (sl.tabs_of hL)).mono fun e W' ⟨he, bel⟩ => ?_
  subst he
  exact ⟨_, rfl, _, _, _, [], _, [], hW', trodAll_mk1 (shut_bool Tryd.underlying4 _), (trodAll_cons_mk (Below.trod laidOut (by kernel_rfl) (of_decide_eq_true (by kernel_rfl)) k0 bel lt0) (trodAll_cons_mk (Below.trod laidOut (by kernel_rfl) (of_decide_eq_true (by kernel_rfl)) k1 bel lt1) (trodAll_cons_mk (Below.trod laidOut (by kernel_rfl) (of_decide_eq_true (by kernel_rfl)) k2 bel lt2) trodAll_mk0))), rfl, bel.frame _, fun h => by cases h⟩

theorem over : Rows.topSealedRow.holds Tryd.pinned (OpenSpec.ofChange Rows.topSealedSpec) :=
  OpenClaim.holds_of_wide 3 Tryd.f3 rfl rfl rfl rfl rfl rfl rfl ⟨rfl, rfl, rfl, rfl, rfl⟩ rfl rfl rfl rfl rfl (by kernel_rfl) Tryd.func3 (by kernel_rfl)
    (of_decide_eq_true (by kernel_rfl)) (by unfold Func.isWrapper; first | (rw [if_pos (by decide +kernel)]; kernel_rfl) | (rw [if_neg (by decide +kernel)]; exact ⟨rfl, rfl⟩))
    (fun os started H enc _ => lifted os started H enc)

theorem proved : Rows.TopSealedCardSaid :=
  Claim7.holds_tied_plain_at .later [] [.data, .data, .data] true _ false
    over (fun _ h => by cases h) (by kernel_rfl) (fun _ h => by cases h) topSealed_row_tie rfl ⟨rfl, rfl⟩ (by kernel_rfl) rfl
    (fun f fn hf hfn => by
      obtain rfl : f = 3 := Option.some.inj ((show Tryd.prog.funcNamed "selvage/selvagetop.TopSealed" = some 3 by kernel_rfl).symm.trans hf) |>.symm
      obtain rfl : fn = Tryd.f3 := (Option.some.inj (Tryd.func3.symm.trans hfn)).symm
      exact ⟨by kernel_rfl, fun j t ht => by
        rw [Tryd.params3] at ht
        have hm : t ∈ [34, 37, 39] := by simpa using Array.mem_of_getElem? ht
        have hall : ([34, 37, 39].all fun u => !Tryd.prog.wantsStandIn u) = true := by kernel_rfl
        exact (show Tryd.prog.wantsStandIn t = false by simpa using List.all_eq_true.1 hall t hm)⟩)
    (by kernel_rfl)
#print axioms proved
end Go.Proofs.YthdlcpnmldhllaaDoor.topSealed
