/-
  THE PROGRAM's Pack and Unpack, and the document's Same, at lists of many numbers: what Pack packs is unpacked as it was; what is unpacked was packed so; Same answers true of a list and itself.
-/
import Derived.Test.YtkjckljighploaaUnpack
import Derived.Test.YtkjckljighploaaRowIn
import Derived.Deep.QuietTactic
import Derived.BigQuiet
import Derived.WalkSmall
namespace Go.Proofs.Ytkjckljighploaa
open Go.RowKit

set_option maxHeartbeats 1600000 in
set_option maxRecDepth 100000 in
theorem pack_big (a : Option Addr) (cap : Nat) (zs : List Int) (hlen : zs.length ≤ 100000) (hzs : Ints64 zs) (w : World) (hr : Rd .i64 w.heap.size w a zs) :
    Calls Try.prog 22 #[.slice a zs.length cap] w fun e w' => ∃ v, e = .returned v ∧ w'.ownsRow w.heap.size 5 1 v (packL zs).length ((packL zs).map (Value.int .u8)) ∧ Below w.heap.size w w' := by
  obtain ⟨i0, hi, hz0, hz1, hz2⟩ := info_parts Try.info5
  go_enter Try.func22, Try.ntmps22
  go_wp2
  go_loopw [3, 8] (fun v i wr => ∃ k : Nat, k ≤ zs.length ∧ i = .int .i64 k ∧ wr.ownsRow w.heap.size 5 1 v (packL (zs.take k)).length ((packL (zs.take k)).map (Value.int .u8)) ∧ Below w.heap.size w wr)
    (fun _ i _ => zs.length - (intOf i).toNat)
  case atStart => exact ⟨0, Nat.zero_le _, rfl, World.ownsRow_nil _ _ _ _, Below.refl _ _⟩
  case round =>
    obtain ⟨k, hk, rfl, hown, hbel⟩ := hrel
    by_cases hlt : k < zs.length
    · obtain ⟨b, off, rfl, hb, hc⟩ := hr (by omega)
      have hc1 := (hbel.cell (p := ⟨b, off + k, none⟩) hb).trans (hc k hlt)
      have hx := hzs k
      obtain ⟨x, hxe⟩ : ∃ x, zs[k]?.getD 0 = x := ⟨_, rfl⟩
      rw [hxe] at hc1 hx
      have hzr := zig_range hx.1 hx.2
      obtain ⟨u, hu, huz⟩ : ∃ u : Nat, u < 18446744073709551616 ∧ zigI x = u := ⟨(zigI x).toNat, by omega, by omega⟩
      have hnext : packL (zs.take (k + 1)) = packL (zs.take k) ++ putL u := by
        have e : zs.take (k + 1) = zs.take k ++ [x] := by
          rw [List.take_add_one, List.getElem?_eq_getElem hlt]
          rw [List.getElem?_eq_getElem hlt] at hxe
          simp at hxe
          simp [hxe]
        rw [e, packL_snoc, huz]; rfl
      have hpl := packL_len k zs hzs
      have hl10 := putL_len10 hu
      have HN := Lib.hid hnext
      have HO := Lib.hid hown
      have HB := Lib.hid hbel
      have hz := zig_any x hx.1 hx.2
      rw [huz] at hz
      clear hxe hnext hown hc hr hzr huz hzs
      obtain ⟨pre, hpre⟩ : ∃ pre, packL (zs.take k) = pre := ⟨_, rfl⟩
      rw [hpre] at HO HN hpl
      clear hpre
      go_wp2_with (first
        | (go_at_call 13; refine (hz _).mono ?_; rintro e w' ⟨rfl, rfl⟩)
        | (go_at_call 11; refine (put_any _ (by omega) _).mono ?_; rintro e w1 ⟨g, c1, rfl, ho, hb1⟩; have hs := hb1.size; have hs0 := HB.out.size; have H1 := Lib.hid (own_below HO.out hb1 (fun k hk => (HO.out.lt k hk).2)); have H2 := Lib.hid ho; have H3 := Lib.hid (HB.out.trans (hb1.mono HB.out.size)); clear ho hb1)
        | (at_builtin; refine wpList_append_own _ rfl _ _ 24 rfl w.heap.size 5 i0 (.int .u8 0) 1 1 Try.underlying24 hi hz0 hz1 hz2 rfl (by decide) _ _ _ rfl H1.out ⟨g, 0, none⟩ _ _ ((putL u).map (Value.int .u8)) rfl ?c0 ?c1 ?c2 ?c3 ?c4 ?c5 ?_))
      case c0 => simp
      case c1 => exact H2.out.cells rfl
      case c2 => intro x hx; obtain ⟨y, _, rfl⟩ := List.mem_map.1 hx; rfl
      case c3 => unfold maxLen; omega
      case c4 => omega
      case c5 => omega
      intro v' w2 hown' hgrow _
      have HF := Lib.hid hown'
      have HG := Lib.hid hgrow
      clear hown' hgrow
      go_wp2
      go_roundw
      case rel => exact ⟨k + 1, by omega, by go_num, by rw [HN.out]; simpa using HF.out, H3.out.grown HG.out (by omega) (fun j hj => (HO.out.lt j hj).1)⟩
      case measure => simp [intOf]; omega
    · obtain rfl : k = zs.length := by omega
      have HO := Lib.hid hown
      clear hown
      go_wp2
      go_ret
      exact ⟨_, rfl, by have := HO.out; rwa [List.take_of_length_le (Nat.le_refl _)] at this, hbel⟩

theorem rd_of_row {W : World} {base : Nat} {e : TypeId} {k : IntKind} {A : Option Addr} {n m c : Nat} {zs : List Int} (h : W.ownsRow base e 1 (.slice A m c) n (zs.map (Value.int k))) : Rd k W.heap.size W A zs := fun hp => by
  have hn : 0 < n := by have := h.1; simp at this; omega
  obtain ⟨g, c', e', _, _⟩ := h.form hn
  injection e' with e1 e2 e3
  subst e1 e2 e3
  exact Rd.of_own (n := m) h hp

/-- Pack, what it returns as it reads. -/
theorem pack_rd (a : Option Addr) (cap : Nat) (zs : List Int) (hlen : zs.length ≤ 100000) (hzs : Ints64 zs) (w : World) (hr : Rd .i64 w.heap.size w a zs) :
    Calls Try.prog 22 #[.slice a zs.length cap] w fun e w' => ∃ A c, e = .returned (.slice A (packL zs).length c) ∧ Rd .u8 w'.heap.size w' A (packL zs) ∧ Below w.heap.size w w' := by
  refine (pack_big a cap zs hlen hzs w hr).mono ?_
  rintro e w' ⟨v, rfl, ho, hb⟩
  obtain ⟨A, c, rfl, _⟩ := own_form ho
  exact ⟨A, c, rfl, rd_of_row ho, hb⟩

/-- Unpack where the numbers' bytes are all there are. -/
theorem unpack_yes (a : Option Addr) (cap : Nat) (zs : List Int) (hlen : zs.length ≤ 100000) (hbs : ∀ x ∈ zs, 0 ≤ x ∧ x ≤ 255) (w : World) (hr : Rd .u8 w.heap.size w a zs) (hu : used (scan 0 0 zs) = zs.length) {l : List Int} (hl : zags (scan 0 0 zs) = l) :
    Calls Try.prog 19 #[.slice a zs.length cap] w fun e w' => ∃ A c, e = .returned (.tuple #[.slice A l.length c, .int .i64 0]) ∧ Rd .i64 w'.heap.size w' A l ∧ Below w.heap.size w w' := by
  subst hl
  refine (unpack_any a cap zs hlen (bytes_of hbs) w hr).mono ?_
  rintro e w' ⟨h, hb⟩
  rw [if_pos hu] at h
  obtain ⟨v, rfl, ho⟩ := h
  obtain ⟨A, c, rfl, _⟩ := own_form ho
  exact ⟨A, c, rfl, rd_of_row ho, hb⟩
theorem unpack_no (a : Option Addr) (cap : Nat) (zs : List Int) (hlen : zs.length ≤ 100000) (hbs : ∀ x ∈ zs, 0 ≤ x ∧ x ≤ 255) (w : World) (hr : Rd .u8 w.heap.size w a zs) (hu : used (scan 0 0 zs) ≠ zs.length) :
    Calls Try.prog 19 #[.slice a zs.length cap] w fun e w' => e = .returned (.tuple #[.slice none 0 0, .int .i64 2]) ∧ Below w.heap.size w w' := by
  refine (unpack_any a cap zs hlen (bytes_of hbs) w hr).mono ?_
  rintro e w' ⟨h, hb⟩
  rw [if_neg hu] at h
  exact ⟨h, hb⟩

/-! ### The lists -/
theorem zig64 {n : Int} (h : (Lit.int .i64 n).wf = true) : (zigI n).toNat < 18446744073709551616 ∧ (((zigI n).toNat : Nat) : Int) = zigI n := by
  have := wf_i64 h
  have := zig_range this.1 this.2
  omega
theorem packL_cons (n : Int) (l : List Int) : packL (n :: l) = putL (zigI n).toNat ++ packL l := by simp [packL]
theorem scan_pack (l : List Int) (hl : ∀ x ∈ l, (Lit.int .i64 x).wf = true) : zags (scan 0 0 (packL l)) = l ∧ used (scan 0 0 (packL l)) = (packL l).length := by
  induction l with
  | nil => exact ⟨rfl, rfl⟩
  | cons n l ih =>
    obtain ⟨h1, h2⟩ := ih (fun x hx => hl x (by simp [hx]))
    obtain ⟨z1, z2⟩ := zig64 (hl n (by simp))
    rw [packL_cons, scan_put0 z1]
    have e : zags (Num.of (zigI n).toNat (putL (zigI n).toNat).length :: scan 0 0 (packL l)) = zagI ((Num.of (zigI n).toNat (putL (zigI n).toNat).length).n : Nat) :: zags (scan 0 0 (packL l)) := rfl
    have e2 : used (Num.of (zigI n).toNat (putL (zigI n).toNat).length :: scan 0 0 (packL l)) = (Num.of (zigI n).toNat (putL (zigI n).toNat).length).k + used (scan 0 0 (packL l)) := rfl
    rw [e, e2, h1, h2, Num.of_n z1, z2, zag_zig, Num.of_k (putL_len10 z1), List.length_append]
    exact ⟨rfl, rfl⟩
theorem packL_bytes (l : List Int) : ∀ x ∈ packL l, 0 ≤ x ∧ x ≤ 255 := by
  intro x hx
  obtain ⟨n, _, h⟩ := List.mem_flatMap.1 hx
  exact putL_range _ x h
theorem pack_scan : ∀ (k : Nat) (zs : List Int), zs.length ≤ k → (∀ x ∈ zs, 0 ≤ x ∧ x ≤ 255) → used (scan 0 0 zs) = zs.length → packL (zags (scan 0 0 zs)) = zs := by
  intro k
  induction k with
  | zero =>
    intro zs h _ _
    obtain rfl := List.eq_nil_of_length_eq_zero (by omega : zs.length = 0)
    rfl
  | succ k ih =>
    intro zs h hb hu
    rcases hsc : scan 0 0 zs with _ | ⟨q, qs⟩
    · rw [hsc] at hu
      have h0 : zs.length = 0 := hu.symm
      obtain rfl := List.eq_nil_of_length_eq_zero h0
      rfl
    · obtain ⟨h0, h1, h2, h3⟩ := scan_first0 hb hsc
      rw [hsc] at hu
      have hu' : q.k + used qs = zs.length := hu
      rw [h3] at hu' ⊢
      have hq := q.hn
      have e : zags (q :: scan 0 0 (zs.drop q.k)) = zagI (q.n : Nat) :: zags (scan 0 0 (zs.drop q.k)) := rfl
      rw [e, packL_cons, zig_zag (by omega), ih (zs.drop q.k) (by rw [List.length_drop]; omega) (fun x hx => hb x (List.mem_of_mem_drop hx)) (by rw [List.length_drop]; omega)]
      rw [show ((q.n : Int)).toNat = q.n by omega, ← h2, List.take_append_drop]
theorem zags_ints (l : List Num) : Ints64 (zags l) := fun j => by
  rcases hz : (zags l)[j]? with _ | x
  · simp
  · obtain ⟨q, _, rfl⟩ := List.mem_map.1 (List.mem_of_getElem? hz)
    have := q.hn
    have := zag_range (u := (q.n : Int)) (by omega) (by omega)
    simpa using this
theorem zags_len (l : List Num) : (zags l).length = l.length := by simp [zags]
theorem used_ge (l : List Num) (h : ∀ q ∈ l, 0 < q.k) : l.length ≤ used l := by
  induction l with
  | nil => simp [used]
  | cons q l ih =>
    have h1 := h q (by simp)
    have h2 := ih (fun x hx => h x (by simp [hx]))
    have e : used (q :: l) = q.k + used l := rfl
    simp only [List.length_cons]
    omega
theorem scan_len : ∀ (k : Nat) (zs : List Int), zs.length ≤ k → (∀ x ∈ zs, 0 ≤ x ∧ x ≤ 255) → (scan 0 0 zs).length ≤ zs.length := by
  intro k
  induction k with
  | zero =>
    intro zs h _
    obtain rfl := List.eq_nil_of_length_eq_zero (by omega : zs.length = 0)
    exact Nat.le_refl _
  | succ k ih =>
    intro zs h hb
    rcases hsc : scan 0 0 zs with _ | ⟨q, qs⟩
    · simp
    · obtain ⟨h0, h1, h2, h3⟩ := scan_first0 hb hsc
      have := ih (zs.drop q.k) (by rw [List.length_drop]; omega) (fun x hx => hb x (List.mem_of_mem_drop hx))
      rw [List.length_drop, ← h3] at this
      simp only [List.length_cons]
      omega

set_option maxHeartbeats 1600000 in
set_option maxRecDepth 100000 in
/-- The document's Same answers true of two slices that read as the same numbers. -/
theorem same_any (a b : Option Addr) (c1 c2 : Nat) (zs : List Int) (hlen : zs.length ≤ 100000) (w : World) (hra : Rd .i64 w.heap.size w a zs) (hrb : Rd .i64 w.heap.size w b zs) :
    Calls Try.prog 21 #[.slice a zs.length c1, .slice b zs.length c2] w fun e w' => e = .returned (.bool true) ∧ Below w.heap.size w w' := by
  go_enter Try.func21, Try.ntmps21
  go_wp2
  go_loopw [5] (fun i wr => ∃ k : Nat, k ≤ zs.length ∧ i = .int .i64 k ∧ Below w.heap.size w wr) (fun i _ => zs.length - (intOf i).toNat)
  case atStart => exact ⟨0, Nat.zero_le _, rfl, Below.refl _ _⟩
  case round =>
    obtain ⟨k, hk, rfl, hbel⟩ := hrel
    by_cases hlt : k < zs.length
    · obtain ⟨b1, o1, rfl, hb1, hc1⟩ := hra (by omega)
      obtain ⟨b2, o2, rfl, hb2, hc2⟩ := hrb (by omega)
      have g1 := (hbel.cell (p := ⟨b1, o1 + k, none⟩) hb1).trans (hc1 k hlt)
      have g2 := (hbel.cell (p := ⟨b2, o2 + k, none⟩) hb2).trans (hc2 k hlt)
      have i0 : (0 : Int) ≤ (k : Int) := Int.natCast_nonneg _
      have i1 : (k : Int) < (zs.length : Int) := by omega
      clear hc1 hc2 hra hrb
      go_wp2_with fail
      go_quiet (fail)
      go_wp2
      go_roundw
      case rel => exact ⟨k + 1, by omega, by go_num, below_drewN hbel _⟩
      case measure => simp [intOf]; omega
    · go_wp2
      go_ret
      exact ⟨rfl, hbel⟩
end Go.Proofs.Ytkjckljighploaa
