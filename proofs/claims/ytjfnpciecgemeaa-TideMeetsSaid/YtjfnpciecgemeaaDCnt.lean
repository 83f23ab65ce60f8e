/-
  WHICH IDS COUNT for the answer to a packet; the heads of a list that count.
-/
import Derived.Test.YtjfnpciecgemeaaDFnd
import Derived.Test.YtjfnpciecgemeaaTSort
namespace Go.Proofs.Ytjfnpciecgemeaa.ti
set_option linter.unusedSimpArgs false
set_option linter.unusedVariables false
open Go.RowKit
/-- Does an id count? -/
def cntB (kind : Int) (f t i : TId) : Bool := decide (kind = 4) || (decide (cmpT f i ≤ 0) && decide (cmpT i t ≤ 0))
theorem cnt_tide {f t i : TId} : cntB 3 f t i = inB f t i := by
  unfold cntB inB
  have h1 : cmpT f i ≤ 0 ↔ ¬ lexT i f := by rw [← cmp_pos]; omega
  have h2 : cmpT i t ≤ 0 ↔ ¬ lexT t i := by rw [← cmp_pos]; omega
  simp [h1, h2]
theorem cnt_tire {f t i : TId} : cntB 4 f t i = true := by unfold cntB; simp
/-- A packet in a box: its kind, its range. -/
structure PkBox (W : World) (B : Nat) (kind : Int) (f t : TId) : Prop where
  k0 : W.cell? ⟨B, 0, none⟩ = some (.int .i64 kind)
  f0 : W.cell? ⟨B, 23, none⟩ = some (.int .i64 f.d)
  f1 : W.cell? ⟨B, 24, none⟩ = some (.int .i64 f.o)
  f2 : W.cell? ⟨B, 25, none⟩ = some (.int .i64 f.k)
  f3 : W.cell? ⟨B, 26, none⟩ = some (.int .i64 f.n)
  t0 : W.cell? ⟨B, 27, none⟩ = some (.int .i64 t.d)
  t1 : W.cell? ⟨B, 28, none⟩ = some (.int .i64 t.o)
  t2 : W.cell? ⟨B, 29, none⟩ = some (.int .i64 t.k)
  t3 : W.cell? ⟨B, 30, none⟩ = some (.int .i64 t.n)
  lt : B < W.heap.size
theorem PkBox.below {W W' : World} {B : Nat} {kind : Int} {f t : TId} (h : PkBox W B kind f t) (k : Below W.heap.size W W') : PkBox W' B kind f t :=
  ⟨(k.cell (p := ⟨B, _, none⟩) h.lt).trans h.k0, (k.cell (p := ⟨B, _, none⟩) h.lt).trans h.f0, (k.cell (p := ⟨B, _, none⟩) h.lt).trans h.f1, (k.cell (p := ⟨B, _, none⟩) h.lt).trans h.f2, (k.cell (p := ⟨B, _, none⟩) h.lt).trans h.f3, (k.cell (p := ⟨B, _, none⟩) h.lt).trans h.t0, (k.cell (p := ⟨B, _, none⟩) h.lt).trans h.t1, (k.cell (p := ⟨B, _, none⟩) h.lt).trans h.t2, (k.cell (p := ⟨B, _, none⟩) h.lt).trans h.t3, Nat.lt_of_lt_of_le h.lt k.size⟩
set_option maxHeartbeats 6400000 in
set_option maxRecDepth 100000 in
theorem counts_any (B : Nat) (kind : Int) (f t i : TId) (w : World) (hB : PkBox w B kind f t) : Calls Try.prog 42 #[.agg #[.int .i64 i.d, .int .i64 i.o, .int .i64 i.k, .int .i64 i.n], .pointer (some ⟨B, 0, none⟩)] w fun e w' => e = .returned (.bool (cntB kind f t i)) ∧ Below w.heap.size w w' := by
  have HB0 := Lib.hid ((Below.refl w.heap.size w).alloc (Nat.le_refl _) (.cells #[.int .i64 i.d, .int .i64 i.o, .int .i64 i.k, .int .i64 i.n] 24))
  have hb0 := hB.below HB0.out
  have HX : Hid (∀ W, Below (w.heap.size + 1) (w.alloc (.cells #[.int .i64 i.d, .int .i64 i.o, .int .i64 i.k, .int .i64 i.n] 24)) W → W.cell? ⟨w.heap.size, 0, none⟩ = some (.int .i64 i.d) ∧ W.cell? ⟨w.heap.size, 1, none⟩ = some (.int .i64 i.o) ∧ W.cell? ⟨w.heap.size, 2, none⟩ = some (.int .i64 i.k) ∧ W.cell? ⟨w.heap.size, 3, none⟩ = some (.int .i64 i.n)) := fun W hb => by
    have := (hb.block w.heap.size (by omega)).trans (heap_alloc_new w _)
    simp [World.cell?, this]
  obtain ⟨k0, f0, f1, f2, f3, t0, t1, t2, t3, hlt⟩ := hb0
  have HBB := Lib.hid (hB.below HB0.out)
  have hc1 := fun V => pcompare_any f i V
  have hc2 := fun V => pcompare_any i t V
  unfold cntB
  generalize cmpT f i = r1 at hc1 ⊢
  generalize cmpT i t = r2 at hc2 ⊢
  by_cases h4 : kind = 4
  · have d : (kind == 4) = true := by simpa using h4
    have hd : decide (kind = 4) = true := decide_eq_true h4
    rw [hd]
    subst h4
    clear hB hd d
    go_enter Try.func42, Try.ntmps42
    go_wp2
    go_ret
    exact ⟨rfl, HB0.out⟩
  · have d : (kind == 4) = false := by simpa using h4
    have hd : decide (kind = 4) = false := decide_eq_false h4
    rw [hd, Bool.false_or]
    clear hB hd h4
    by_cases h1 : r1 ≤ 0
    · have d1 : decide (r1 ≤ 0) = true := decide_eq_true h1
      rw [d1, Bool.true_and]
      clear h1
      go_enter Try.func42, Try.ntmps42
      go_wp2_with (first
        | (go_at_call_of 9 (Value.agg #[.int .i64 f.d, .int .i64 f.o, .int .i64 f.k, .int .i64 f.n]); refine (hc1 _).mono ?_; rintro e w1 ⟨rfl, hf⟩; have S1 := Lib.hid hf.bel; obtain ⟨a0, a1, a2, a3⟩ := HX.out w1 (S1.out.mono (by simp)); obtain ⟨b0, b1, b2, b3, b4, c0, c1, c2, c3, cl⟩ := HBB.out.below S1.out; clear hf hc1)
        | (go_at_call 9; refine (hc2 _).mono ?_; rintro e w2 ⟨rfl, hf⟩; have S2 := Lib.hid hf.bel; clear hf))
      go_ret
      exact ⟨rfl, HB0.out.trans ((S1.out.trans (S2.out.mono S1.out.size)).mono (by simp))⟩
    · have d1 : decide (r1 ≤ 0) = false := decide_eq_false h1
      rw [d1, Bool.false_and]
      clear h1
      go_enter Try.func42, Try.ntmps42
      go_wp2_with (first
        | (go_at_call 9; refine (hc1 _).mono ?_; rintro e w1 ⟨rfl, hf⟩; have S1 := Lib.hid hf.bel; clear hf))
      go_ret
      exact ⟨rfl, HB0.out.trans (S1.out.mono (by simp))⟩
set_option maxHeartbeats 6400000 in
set_option maxRecDepth 100000 in
theorem counted_any (l : List THd) (a : Option Addr) (ca : Nat) (B : Nat) (kind : Int) (f t : TId) (w : World) (ha : RdT w a l) (hl : l.length ≤ 4000) (hca : l.length ≤ ca) (hok : ∀ x ∈ l, okH x) (hB : PkBox w B kind f t) :
    Calls Try.prog 31 #[.slice a l.length ca, .func (.func 42) #[] #[.pointer (some ⟨B, 0, none⟩)]] w fun e w' => (∃ v, e = .returned v ∧ OwnH 34 w' w.heap.size v (mergeT (l.filter fun x => cntB kind f t x.id) [])) ∧ Below w.heap.size w w' := by
  obtain ⟨len, hlen⟩ : ∃ len, l.length = len := ⟨_, rfl⟩
  have hm : ∀ (W : World) (A : Option Addr) (n c : Nat), n = (l.filter fun x => cntB kind f t x.id).length → n ≤ c → RdT W A (l.filter fun x => cntB kind f t x.id) → Calls Try.prog 12 #[.slice A n c, .slice none 0 0] W fun e w' => ∃ v, e = .returned v ∧ OwnH 34 w' W.heap.size v (mergeT (l.filter fun x => cntB kind f t x.id) []) ∧ Below W.heap.size W w' := fun W A n c hn hc hr => by
    have hfl := List.length_filter_le (fun x : THd => cntB kind f t x.id) l
    have := pmergeB_any (l.filter fun x => cntB kind f t x.id) [] A none c 0 W hr (fun j p h => by simp at h) (by simp; omega) (by have := merge_len (l.filter fun x => cntB kind f t x.id) []; simp at this; omega) (by omega) (Nat.le_refl _) (fun x hx => hok x (by simp at hx; exact hx.1))
    rw [← hn] at this
    exact this
  rw [hlen] at hl hca ⊢
  have HM := Lib.hid hm
  have HL := Lib.hid hlen
  have HA := Lib.hid ha
  have HBX := Lib.hid hB
  have hcnt := fun (i : TId) (W : World) (hb : Below w.heap.size w W) => counts_any B kind f t i W (hB.below hb)
  have HCN := Lib.hid hcnt
  clear hm hlen ha hB hcnt hok
  go_enter Try.func31, Try.ntmps31
  go_wp2
  go_loopw [5, 10] (fun v u wr => ∃ k : Nat, k ≤ len ∧ u = .int .i64 k ∧ (∃ A n c, v = .slice A n c ∧ n = ((l.take k).filter fun x => cntB kind f t x.id).length) ∧ Hid (OwnH 34 wr w.heap.size v ((l.take k).filter fun x => cntB kind f t x.id)) ∧ Hid (Below w.heap.size w wr)) (fun _ u _ => len - (intOf u).toNat)
  case atStart => exact ⟨0, Nat.zero_le _, rfl, ⟨none, 0, 0, rfl, rfl⟩, by rw [List.take_zero]; exact OwnH.nil _ _ _, Below.refl _ _⟩
  case round =>
    obtain ⟨k, hk, rfl, ⟨A, n, c, rfl, hn⟩, HO, HB⟩ := hrel
    by_cases hlt : k < len
    · obtain ⟨h, hh⟩ : ∃ h, l[k]? = some h := ⟨_, List.getElem?_eq_getElem (by have := HL.out; omega)⟩
      obtain ⟨g, o, rfl, hg, hr, -⟩ := (HA.out.below HB.out).at hh
      have hnext : (l.take (k + 1)).filter (fun x => cntB kind f t x.id) = (l.take k).filter (fun x => cntB kind f t x.id) ++ [h].filter (fun x => cntB kind f t x.id) := by
        rw [List.take_add_one, hh, List.filter_append]; rfl
      have x0 := mid_cell0 hr rfl
      have x1 := mid_cell hr 1 rfl
      have x2 := mid_cell hr 2 rfl
      have x3 := mid_cell hr 3 rfl
      have x4 := mid_cell hr 4 rfl
      have x5 := mid_cell hr 5 rfl
      obtain ⟨kept, hkept⟩ : ∃ kept, (l.take k).filter (fun x => cntB kind f t x.id) = kept := ⟨_, rfl⟩
      rw [hkept] at hn HO hnext
      have hkl : kept.length ≤ k := by rw [← hkept]; have := List.length_filter_le (fun x : THd => cntB kind f t x.id) (l.take k); have := List.length_take_le k l; omega
      have BA : Hid (Below w.heap.size w (wr.alloc (.cells #[.int .i64 h.id.d, .int .i64 h.id.o, .int .i64 h.id.k, .int .i64 h.id.n, .int .i64 h.seq, .int .i64 h.life] 34))) := HB.out.alloc HB.out.size _
      have XA : Hid (∀ W, Below (wr.heap.size + 1) (wr.alloc (.cells #[.int .i64 h.id.d, .int .i64 h.id.o, .int .i64 h.id.k, .int .i64 h.id.n, .int .i64 h.seq, .int .i64 h.life] 34)) W → W.cell? ⟨wr.heap.size, 0, none⟩ = some (.int .i64 h.id.d) ∧ W.cell? ⟨wr.heap.size, 1, none⟩ = some (.int .i64 h.id.o) ∧ W.cell? ⟨wr.heap.size, 2, none⟩ = some (.int .i64 h.id.k) ∧ W.cell? ⟨wr.heap.size, 3, none⟩ = some (.int .i64 h.id.n) ∧ W.cell? ⟨wr.heap.size, 4, none⟩ = some (.int .i64 h.seq) ∧ W.cell? ⟨wr.heap.size, 5, none⟩ = some (.int .i64 h.life)) := fun W hb => by
        have := (hb.block wr.heap.size (by omega)).trans (heap_alloc_new wr _)
        simp [World.cell?, this]
      have ZA : Hid ((wr.alloc (.cells #[.int .i64 h.id.d, .int .i64 h.id.o, .int .i64 h.id.k, .int .i64 h.id.n, .int .i64 h.seq, .int .i64 h.life] 34)).heap.size = wr.heap.size + 1) := by unfold Hid; simp
      clear hr hkept hh
      rcases hq : cntB kind f t h.id with _ | _
      · have hnx : (l.take (k + 1)).filter (fun x => cntB kind f t x.id) = kept := by rw [hnext]; simp [hq]
        have HNX := Lib.hid hnx
        have HQ := Lib.hid hq
        have HNN := Lib.hid hn
        clear hnext hq hnx hn
        go_wp2_with (first
          | (go_at_call 42; refine (HCN.out h.id _ BA.out).mono ?_; rintro e w5 ⟨rfl, hb⟩; rw [HQ.out]; have B5 := Lib.hid hb; clear hb))
        go_roundw
        case rel => exact ⟨k + 1, by omega, by go_num, ⟨_, _, _, rfl, by rw [HNX.out]; exact HNN.out⟩, by unfold Hid; rw [HNX.out]; exact (HO.out.below ((Below.refl _ _).alloc (Nat.le_refl _) _)).below B5.out, BA.out.trans (B5.out.mono BA.out.size)⟩
        case measure => simp [intOf]; omega
      · have hnx : (l.take (k + 1)).filter (fun x => cntB kind f t x.id) = kept ++ [h] := by rw [hnext]; simp [hq]
        have HNX := Lib.hid hnx
        have HQ := Lib.hid hq
        have HNN := Lib.hid hn
        clear hnext hq hnx hn
        go_wp2_with (first
          | (go_at_call 42; refine (HCN.out h.id _ BA.out).mono ?_; rintro e w5 ⟨rfl, hb⟩; rw [HQ.out]; obtain ⟨c0, c1, c2, c3, c4, c5⟩ := XA.out _ (hb.mono (by rw [ZA.out]; exact Nat.le_refl _)); have B5 := Lib.hid (BA.out.trans (hb.mono BA.out.size)); have O5 := Lib.hid ((HO.out.below ((Below.refl wr.heap.size wr).alloc (Nat.le_refl _) (.cells #[.int .i64 h.id.d, .int .i64 h.id.o, .int .i64 h.id.k, .int .i64 h.id.n, .int .i64 h.seq, .int .i64 h.life] 34))).below hb); clear hb)
          | (at_builtin; refine wpList_append_T rfl _ _ rfl w.heap.size _ kept rfl (O5.out.below ((Below.refl _ _).alloc (Nat.le_refl _) _)) _ [h] 1 1 rfl rfl (by have := RdT.made (W := w5) (h := h) (Below.refl _ _); exact this) (by simp; omega) (by have := B5.out.size; simp; omega) ?_; intro A2 n2 c2' w6 hn6 ho6 hb6 _; have B6 := Lib.hid ((B5.out.alloc B5.out.size _).trans hb6); have O6 := Lib.hid ho6; have N6 := Lib.hid hn6; clear hn6 ho6 hb6))
        go_roundw
        case rel => exact ⟨k + 1, by omega, by go_num, ⟨_, _, _, rfl, by rw [HNX.out]; exact N6.out⟩, by unfold Hid; rw [HNX.out]; exact O6.out, B6.out⟩
        case measure => simp [intOf]; omega
    · obtain rfl : k = len := by omega
      have htk : l.take k = l := List.take_of_length_le (by have := HL.out; omega)
      rw [htk] at hn HO
      have HNN := Lib.hid hn
      have hnc : n ≤ c := by have := HO.out.cap; rcases HO.out.form with ⟨e, _⟩ | ⟨g', cap, e, h1, h2, h3, _⟩ <;> cases e <;> omega
      clear hn htk
      go_wp2_with (first
        | (go_at_call 12; refine (HM.out _ _ _ _ HNN.out hnc HO.out.rd).mono ?_; rintro e w7 ⟨v, rfl, ho, hb⟩; have O7 := Lib.hid ho; have B7 := Lib.hid hb; clear ho hb))
      go_ret
      exact ⟨⟨_, rfl, O7.out.mono HB.out.size⟩, HB.out.trans (B7.out.mono HB.out.size)⟩
end Go.Proofs.Ytjfnpciecgemeaa.ti
