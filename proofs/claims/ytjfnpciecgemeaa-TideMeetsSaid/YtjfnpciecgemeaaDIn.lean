/-
  MAY A HEAD BE: a packet of it; the search for one that may not; a copy of heads; rows of heads, ids, packets.
-/
import Derived.Test.YtjfnpciecgemeaaDMath
import Derived.Test.YtjfnpciecgemeaaWCode
import Derived.Test.YtjfnpciecgemeaaTPutH
import Derived.Test.YtjfnpciecgemeaaTMerge
import Derived.Test.YtjfnpciecgemeaaVClone
namespace Go.Proofs.Ytjfnpciecgemeaa.ti
set_option linter.unusedSimpArgs false
set_option linter.unusedVariables false
open Go.RowKit
theorem rdh_of {W : World} {a : Option Addr} {hs : List THd} (h : RdT W a hs) : _root_.Go.Proofs.Ytjfnpciecgemeaa.RdR 6 encHead W.heap.size W a (hs.map toH) := fun hp => by
  rw [List.length_map] at hp
  obtain ⟨g, o, e, hg, _⟩ := h 0 _ (List.getElem?_eq_getElem hp)
  refine ⟨g, o, e, hg, fun j x hx i v hv => ?_⟩
  rw [List.getElem?_map] at hx
  obtain ⟨y, hy, rfl⟩ := Option.map_eq_some_iff.1 hx
  obtain ⟨g', o', e', _, hc⟩ := h j y hy
  rw [e] at e'
  cases e'
  exact hc i v hv
def tideP (f t : TId) (hs : List THd) : PackT := { PackT.zero with kind := 3, frm := toId f, to := toId t, heads := hs.map toH }
def tireP4 (hs : List THd) : PackT := { PackT.zero with kind := 4, heads := hs.map toH }
theorem heads_all (hs : List THd) : headsR (hs.map toH) = (hs.all rgtH && decide (hs.length ≤ 64)) := by
  unfold headsR
  rw [List.all_map, List.length_map]
  rfl
theorem tire_is (hs : List THd) : rightW (tireP4 hs) = (hs.all rgtH && decide (hs.length ≤ 64)) := by
  rw [← heads_all]
  unfold rightW packR unusedB tireP4
  simp [PackT.zero, LieT.zero, LieT.nil, TieT.zero, TieT.nil, HeadT.zero, HeadT.nil, IdT.zero, IdT.nil]
theorem tide_is {f t : TId} (hf : rightT f) (ht : rightT t) {hs : List THd} (h : ∀ x ∈ hs, rgtH x = true) (hl : hs.length ≤ 64) : rightW (tideP f t hs) = true := by
  have h1 := right_idR hf
  have h2 := right_idR ht
  have h3 : headsR (hs.map toH) = true := by rw [heads_all, List.all_eq_true.2 h]; simpa using hl
  unfold rightW packR unusedB tideP
  simp [PackT.zero, LieT.zero, LieT.nil, TieT.zero, TieT.nil, HeadT.zero, HeadT.nil, IdT.zero, IdT.nil, h1, h2, h3]
theorem pk_of_rd {W : World} {p : PackT} {a : Option Addr} {c : Nat} (he : p.tie.edges = []) (hr : p.tie.reaches = []) {hs : List THd} (hh : p.heads = hs.map toH) (h : RdT W a hs) (hl : hs.length ≤ 140737488351232) (hc : hs.length ≤ c) (hm : c ≤ maxLen) : Pk W.heap.size W p none none a 0 0 c :=
  ⟨by rw [he]; exact fun q => by simp at q, by rw [hr]; exact fun q => by simp at q, by rw [hh]; exact rdh_of h, by rw [he]; simp [maxLen], by rw [hr]; simp [maxLen], by rw [hh, List.length_map]; exact ⟨hl, hc, hm⟩, by rw [hr]; simp⟩
/-- wire.Right of a packet without more than a kind and heads. -/
theorem wtire_any (hs : List THd) (a : Option Addr) (n c : Nat) (w : World) (hn : n = hs.length) (h : RdT w a hs) (hl : hs.length ≤ 140737488351232) (hc : n ≤ c) (hm : c ≤ maxLen) :
    Calls Try.prog 29 #[.agg #[.int .i64 4, .int .i64 0, .int .i64 0, .int .i64 0, .int .i64 0, .int .i64 0, .int .i64 0, .int .i64 0, .int .i64 0, .int .i64 0, .int .i64 0, .bool false, .bool false, .int .i64 0, .int .i64 0, .int .i64 0, .int .i64 0, .int .i64 0, .int .i64 0, .int .i64 0, .bool false, .slice none 0 0, .slice none 0 0, .int .i64 0, .int .i64 0, .int .i64 0, .int .i64 0, .int .i64 0, .int .i64 0, .int .i64 0, .int .i64 0, .slice a n c]] w fun e w' => e = .returned (.bool (hs.all rgtH && decide (hs.length ≤ 64))) ∧ Below w.heap.size w w' := by
  subst hn
  have := wright_any (tireP4 hs) none none a 0 0 c w (pk_of_rd rfl rfl rfl h hl hc hm)
  rw [tire_is] at this
  unfold tireP4 at this
  rw [List.length_map] at this
  exact this
theorem wtide_any (f t : TId) (hs : List THd) (a : Option Addr) (n c : Nat) (w : World) (hn : n = hs.length) (h : RdT w a hs) (hl : hs.length ≤ 140737488351232) (hc : n ≤ c) (hm : c ≤ maxLen) :
    Calls Try.prog 29 #[.agg #[.int .i64 3, .int .i64 0, .int .i64 0, .int .i64 0, .int .i64 0, .int .i64 0, .int .i64 0, .int .i64 0, .int .i64 0, .int .i64 0, .int .i64 0, .bool false, .bool false, .int .i64 0, .int .i64 0, .int .i64 0, .int .i64 0, .int .i64 0, .int .i64 0, .int .i64 0, .bool false, .slice none 0 0, .slice none 0 0, .int .i64 f.d, .int .i64 f.o, .int .i64 f.k, .int .i64 f.n, .int .i64 t.d, .int .i64 t.o, .int .i64 t.k, .int .i64 t.n, .slice a n c]] w fun e w' => e = .returned (.bool (rightW (tideP f t hs))) ∧ Below w.heap.size w w' := by
  subst hn
  have := wright_any (tideP f t hs) none none a 0 0 c w (pk_of_rd rfl rfl rfl h hl hc hm)
  rw [show (tideP f t hs).heads.length = hs.length from List.length_map ..] at this
  exact this
set_option maxHeartbeats 1600000 in
set_option maxRecDepth 100000 in
theorem wrong_any (h : THd) (w : World) : Calls Try.prog 20 #[.agg #[.int .i64 h.id.d, .int .i64 h.id.o, .int .i64 h.id.k, .int .i64 h.id.n, .int .i64 h.seq, .int .i64 h.life]] w fun e w' => e = .returned (.bool (!rgtH h)) ∧ Below w.heap.size w w' := by
  have HR : Hid (∀ g W, RdT W (some ⟨g, 0, none⟩) [h] → Calls Try.prog 29 #[.agg #[.int .i64 4, .int .i64 0, .int .i64 0, .int .i64 0, .int .i64 0, .int .i64 0, .int .i64 0, .int .i64 0, .int .i64 0, .int .i64 0, .int .i64 0, .bool false, .bool false, .int .i64 0, .int .i64 0, .int .i64 0, .int .i64 0, .int .i64 0, .int .i64 0, .int .i64 0, .bool false, .slice none 0 0, .slice none 0 0, .int .i64 0, .int .i64 0, .int .i64 0, .int .i64 0, .int .i64 0, .int .i64 0, .int .i64 0, .int .i64 0, .slice (some ⟨g, 0, none⟩) 1 1]] W fun e w' => e = .returned (.bool (rgtH h)) ∧ Below W.heap.size W w') := fun g W hr => by
    have := wtire_any [h] (some ⟨g, 0, none⟩) 1 1 W rfl hr (by simp) (by simp) (by simp [maxLen])
    simpa using this
  have BX : Hid (∀ A B : Obj, Below w.heap.size w ((w.alloc A).alloc B)) := fun A B => ((Below.refl _ w).alloc (Nat.le_refl _) _).alloc (by simp) _
  have RX : Hid (∀ A : Obj, RdT ((w.alloc A).alloc (.cells #[.int .i64 h.id.d, .int .i64 h.id.o, .int .i64 h.id.k, .int .i64 h.id.n, .int .i64 h.seq, .int .i64 h.life] 34)) (some ⟨w.heap.size + 1, 0, none⟩) [h]) := fun A => by
    have := RdT.made (W := w.alloc A) (W' := (w.alloc A).alloc (.cells #[.int .i64 h.id.d, .int .i64 h.id.o, .int .i64 h.id.k, .int .i64 h.id.n, .int .i64 h.seq, .int .i64 h.life] 34)) (h := h) (Below.refl _ _)
    simpa using this
  go_enter Try.func20, Try.ntmps20
  go_wp2_with (first
    | (go_at_call 29; refine (HR.out _ _ (RX.out _)).mono ?_; rintro e w1 ⟨rfl, hb⟩; have HB := Lib.hid ((BX.out _ _).trans (hb.mono (by simp; omega))); clear hb))
  go_ret
  exact ⟨rfl, HB.out⟩
def FirstW (l : List THd) (i : Int) : Prop := (i = -1 ∧ l.all rgtH = true) ∨ (0 ≤ i ∧ l.all rgtH = false)
theorem all_not_at {l : List THd} {k : Nat} {h : THd} (hh : l[k]? = some h) (h2 : rgtH h = false) : l.all rgtH = false := by
  cases q : l.all rgtH with
  | false => rfl
  | true => rw [List.all_eq_true.1 q h (List.mem_of_getElem? hh)] at h2; cases h2
set_option maxHeartbeats 1600000 in
set_option maxRecDepth 100000 in
theorem index_any (l : List THd) (a : Option Addr) (c : Nat) (w : World) (ha : RdT w a l) (hl : l.length ≤ 9223372036854775807) (hc : l.length ≤ c) :
    Calls Try.prog 34 #[.slice a l.length c, .func (.func 20) #[] #[]] w fun e w' => (∃ i, e = .returned (.int .i64 i) ∧ FirstW l i) ∧ Below w.heap.size w w' := by
  obtain ⟨len, hlen⟩ : ∃ len, l.length = len := ⟨_, rfl⟩
  rw [hlen] at hl hc ⊢
  have HL := Lib.hid hlen
  have HA := Lib.hid ha
  have HW := Lib.hid wrong_any
  clear ha hlen
  go_enter Try.func34, Try.ntmps34
  go_wp2
  go_loopw [8] (fun iv wr => ∃ k : Nat, k ≤ len ∧ iv = .int .i64 k ∧ Hid (∀ (j : Nat) (h : THd), j < k → l[j]? = some h → rgtH h = true) ∧ Hid (Below w.heap.size w wr)) (fun iv _ => len - (intOf iv).toNat)
  case atStart => exact ⟨0, Nat.zero_le _, rfl, fun j h hj => absurd hj (by omega), Below.refl _ _⟩
  case round =>
    obtain ⟨k, hk, rfl, HN, HB⟩ := hrel
    by_cases hlt : k < len
    · obtain ⟨h, hh⟩ : ∃ h, l[k]? = some h := ⟨_, List.getElem?_eq_getElem (by have := HL.out; omega)⟩
      obtain ⟨g, o, rfl, hg, hr, -⟩ := (HA.out.below HB.out).at hh
      have HH := Lib.hid hh
      have HR := Lib.hid hr
      clear hh hr
      have x0 := mid_cell0 HR.out rfl
      have x1 := mid_cell HR.out 1 rfl
      have x2 := mid_cell HR.out 2 rfl
      have x3 := mid_cell HR.out 3 rfl
      have x4 := mid_cell HR.out 4 rfl
      have x5 := mid_cell HR.out 5 rfl
      rcases hq : rgtH h with _ | _
      · have HQ := Lib.hid hq
        clear hq
        go_wp2_with (first
          | (go_at_call 20; refine (HW.out h _).mono ?_; rintro e w1 ⟨rfl, hb⟩; rw [HQ.out]; have HB2 := Lib.hid (HB.out.trans (hb.mono HB.out.size)); clear hb))
        go_ret
        exact ⟨⟨_, rfl, .inr ⟨by omega, all_not_at HH.out HQ.out⟩⟩, HB2.out⟩
      · have HQ := Lib.hid hq
        clear hq
        go_wp2_with (first
          | (go_at_call 20; refine (HW.out h _).mono ?_; rintro e w1 ⟨rfl, hb⟩; rw [HQ.out]; have HB2 := Lib.hid (HB.out.trans (hb.mono HB.out.size)); clear hb))
        go_roundw
        case rel => exact ⟨k + 1, by omega, by go_num, fun j x hj hx => by
          rcases Nat.lt_or_ge j k with q | q
          · exact HN.out j x q hx
          · rw [show j = k by omega, HH.out] at hx; cases hx; exact HQ.out, HB2.out⟩
        case measure => simp [intOf]; omega
    · obtain rfl : k = len := by omega
      go_wp2
      go_ret
      refine ⟨⟨_, rfl, .inl ⟨rfl, List.all_eq_true.2 fun x hx => ?_⟩⟩, HB.out⟩
      obtain ⟨j, hj, e⟩ := List.getElem_of_mem hx
      exact HN.out j x (by have := HL.out; omega) (by rw [List.getElem?_eq_getElem hj, e])
set_option maxHeartbeats 1600000 in
set_option maxRecDepth 100000 in
theorem contains_any (l : List THd) (a : Option Addr) (c : Nat) (w : World) (ha : RdT w a l) (hl : l.length ≤ 9223372036854775807) (hc : l.length ≤ c) :
    Calls Try.prog 19 #[.slice a l.length c, .func (.func 20) #[] #[]] w fun e w' => e = .returned (.bool (!l.all rgtH)) ∧ Below w.heap.size w w' := by
  have hi := index_any l a c w ha hl hc
  clear ha
  generalize l.length = len at *
  go_enter Try.func19, Try.ntmps19
  go_wp2_with (first
    | (go_at_call 34; refine hi.mono ?_; rintro e w1 ⟨⟨i, rfl, hi⟩, hb⟩; have HI := Lib.hid hi; have HB := Lib.hid hb; clear hi hb))
  go_ret
  refine ⟨?_, HB.out⟩
  rcases HI.out with ⟨rfl, h⟩ | ⟨h1, h⟩
  · rw [h]; rfl
  · rw [h]; simp [h1]
/-! Rows. -/
theorem kindH : KindE 22 34 6 48 (.agg #[.int .i64 0, .int .i64 0, .int .i64 0, .int .i64 0, .int .i64 0, .int .i64 0]) cellsT := ⟨by kernel_rfl, by kernel_rfl, rfl, by decide, fun _ => rfl, fun x u hu => by simp [cellsT] at hu; rcases hu with rfl | rfl | rfl | rfl | rfl | rfl <;> rfl⟩
theorem kindI : KindE 45 24 4 32 (.agg #[.int .i64 0, .int .i64 0, .int .i64 0, .int .i64 0]) cellsI := ⟨by kernel_rfl, by kernel_rfl, rfl, by decide, fun _ => rfl, fun x u hu => by simp [cellsI] at hu; rcases hu with rfl | rfl | rfl | rfl <;> rfl⟩
/-- A packet of a description, with where its heads lie. -/
structure DpS where
  p : Dp
  a : Option Addr
  c : Nat
def encD (s : DpS) : List Value := [.int .i64 3, .int .i64 0, .int .i64 0, .int .i64 0, .int .i64 0, .int .i64 0, .int .i64 0, .int .i64 0, .int .i64 0, .int .i64 0, .int .i64 0, .bool false, .bool false, .int .i64 0, .int .i64 0, .int .i64 0, .int .i64 0, .int .i64 0, .int .i64 0, .int .i64 0, .bool false, .slice none 0 0, .slice none 0 0, .int .i64 s.p.frm.d, .int .i64 s.p.frm.o, .int .i64 s.p.frm.k, .int .i64 s.p.frm.n, .int .i64 s.p.to.d, .int .i64 s.p.to.o, .int .i64 s.p.to.k, .int .i64 s.p.to.n, .slice s.a s.p.hs.length s.c]
theorem kindP : KindE 26 40 32 296 (.agg #[.int .i64 0, .int .i64 0, .int .i64 0, .int .i64 0, .int .i64 0, .int .i64 0, .int .i64 0, .int .i64 0, .int .i64 0, .int .i64 0, .int .i64 0, .bool false, .bool false, .int .i64 0, .int .i64 0, .int .i64 0, .int .i64 0, .int .i64 0, .int .i64 0, .int .i64 0, .bool false, .slice none 0 0, .slice none 0 0, .int .i64 0, .int .i64 0, .int .i64 0, .int .i64 0, .int .i64 0, .int .i64 0, .int .i64 0, .int .i64 0, .slice none 0 0]) encD := ⟨by kernel_rfl, by kernel_rfl, rfl, by decide, fun _ => rfl, fun x u hu => by simp [encD] at hu; rcases hu with rfl | rfl | rfl | rfl | rfl | rfl | rfl | rfl | rfl | rfl | rfl | rfl | rfl | rfl | rfl | rfl <;> rfl⟩
theorem OwnH.toE {T : TypeId} {W : World} {b : Nat} {v : Value} {l : List THd} (h : OwnH T W b v l) : OwnE T 6 cellsT W b v l := h
theorem OwnH.ofE {T : TypeId} {W : World} {b : Nat} {v : Value} {l : List THd} (h : OwnE T 6 cellsT W b v l) : OwnH T W b v l := h
theorem RdT.toE {W : World} {a : Option Addr} {l : List THd} (h : RdT W a l) : RdE 6 cellsT W a l := h
theorem RdT.ofE {W : World} {a : Option Addr} {l : List THd} (h : RdE 6 cellsT W a l) : RdT W a l := h
set_option maxHeartbeats 1600000 in
set_option maxRecDepth 100000 in
theorem pclone_any (a : Option Addr) (l : List THd) (c : Nat) (w : World) (hr : RdT w a l) (hl : l.length ≤ 1000) (hn : a = none → c = 0) :
    Calls Try.prog 22 #[.slice a l.length c] w fun e w' => ∃ v, e = .returned v ∧ OwnH 34 w' w.heap.size v l ∧ Below w.heap.size w w' := by
  cases a with
  | none =>
    obtain rfl : c = 0 := hn rfl
    have hl0 : l = [] := by
      rcases Nat.eq_zero_or_pos l.length with h0 | h0
      · exact List.eq_nil_of_length_eq_zero h0
      · obtain ⟨_, _, h', _⟩ := kindH.src hr h0; cases h'
    subst hl0
    clear hr hl hn
    have q := eq_nilS Try.underlying22 none 0 0
    go_enter Try.func22, Try.ntmps22
    go_wp2
    go_ret
    exact ⟨_, rfl, OwnH.nil _ _ _, Below.refl _ _⟩
  | some ad =>
    have HR := Lib.hid hr
    obtain ⟨n, hln⟩ : ∃ n, l.length = n := ⟨_, rfl⟩
    have HL := Lib.hid hln
    rw [hln] at hl ⊢
    clear hr hn hln
    have q := eq_nilS Try.underlying22 (some ad) n c
    have HB : Hid (Below w.heap.size w (w.alloc (.cells #[] 34))) := (Below.refl _ _).alloc (Nat.le_refl _) _
    go_enter Try.func22, Try.ntmps22
    go_wp2_with (first
      | (refine kindH.wp_build0 rfl rfl ?_)
      | (at_builtin; refine kindH.wp_append rfl _ _ rfl w.heap.size _ [] rfl (kindH.own0 w) (some ad) l n c rfl HL.out.symm (HR.out.toE.below ((Below.refl _ _).alloc (Nat.le_refl _) _)) (by have := HL.out; unfold maxLen; simp; omega) (by have := HL.out; simp; omega) (by simp) ?_; intro A2 n2 c2 w3 hn2 HO3 hb3 _; have HO := Lib.hid HO3; have HB3 := Lib.hid (HB.out.trans hb3); clear HO3 hb3 hn2))
    go_ret
    exact ⟨_, rfl, HO.out, HB3.out⟩
end Go.Proofs.Ytjfnpciecgemeaa.ti
