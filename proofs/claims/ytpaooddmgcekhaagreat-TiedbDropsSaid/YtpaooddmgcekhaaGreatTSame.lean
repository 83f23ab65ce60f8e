/-
  ARE TWO LISTS OF HEADS THE SAME (selvageref03.SameHeads).
-/
import Derived.Test.YtpaooddmgcekhaaGreatTMem
namespace Go.Proofs.YtpaooddmgcekhaaGreat.ti
set_option linter.unusedSimpArgs false
set_option linter.unusedVariables false
open Go.RowKit
theorem mid_cell {W : World} {g o : Nat} {cs : List Value} (h : W.rangeAt g o cs) (i : Nat) {v : Value} (hi : cs[i]? = some v) : W.cell? ⟨g, o + i, none⟩ = some v := h i v hi
theorem mid_cell0 {W : World} {g o : Nat} {cs : List Value} (h : W.rangeAt g o cs) {v : Value} (hi : cs[0]? = some v) : W.cell? ⟨g, o, none⟩ = some v := h 0 v hi
theorem eq_id (x y : TId) (W : World) : (Op.equalIn 10000 33 (.agg #[.int .i64 x.d, .int .i64 x.o, .int .i64 x.k, .int .i64 x.n]) (.agg #[.int .i64 y.d, .int .i64 y.o, .int .i64 y.k, .int .i64 y.n])).run Tryz.prog W = .ok (decide (x = y)) W := by
  go_simp
  repeat' split
  all_goals simp_all [TId.ext_iff]
set_option maxRecDepth 100000 in
theorem eq_head (x y : THd) (W : World) : (Op.equalIn 10000 35 (.agg #[.int .i64 x.id.d, .int .i64 x.id.o, .int .i64 x.id.k, .int .i64 x.id.n, .int .i64 x.seq, .int .i64 x.life]) (.agg #[.int .i64 y.id.d, .int .i64 y.id.o, .int .i64 y.id.k, .int .i64 y.id.n, .int .i64 y.seq, .int .i64 y.life])).run Tryz.prog W = .ok (decide (x = y)) W := by
  go_simp
  repeat' split
  all_goals simp_all [THd.ext_iff, TId.ext_iff]
/-- Two lists are alike so far. -/
def AlkT (l m : List THd) (k : Nat) : Prop := ∀ i, i < k → l[i]? = m[i]?
theorem AlkT.all {l m : List THd} (h : AlkT l m l.length) (hl : l.length = m.length) : l = m := List.ext_getElem? fun i => by
  by_cases hi : i < l.length
  · exact h i hi
  · rw [List.getElem?_eq_none (by omega), List.getElem?_eq_none (by omega)]
theorem AlkT.next {l m : List THd} {k : Nat} {p q : THd} (h : AlkT l m k) (hp : l[k]? = some p) (hq : m[k]? = some q) (e : p = q) : AlkT l m (k + 1) := fun i hi => by
  by_cases h1 : i = k
  · subst h1; rw [hp, hq, e]
  · exact h i (by omega)
theorem not_alk {l m : List THd} {k : Nat} {p q : THd} (hp : l[k]? = some p) (hq : m[k]? = some q) (e : p ≠ q) : l ≠ m := by
  rintro rfl
  rw [hp] at hq
  cases hq
  exact e rfl
section
attribute [local go_sem high] eq_head eq_id
set_option maxHeartbeats 1600000 in
set_option maxRecDepth 100000 in
theorem same_any (l m : List THd) (a b : Option Addr) (ca cb : Nat) (w : World) (ha : RdT w a l) (hb : RdT w b m) (hl : l.length ≤ 4000) (hm : m.length ≤ 4000) (hca : l.length ≤ ca) (hcb : m.length ≤ cb) : Calls Tryz.prog 13 #[.slice a l.length ca, .slice b m.length cb] w fun e w' => e = .returned (.bool (decide (l = m))) ∧ ∃ n, w' = w.drewN n := by
  obtain ⟨len, hlen⟩ : ∃ len, l.length = len := ⟨_, rfl⟩
  obtain ⟨len2, hlen2⟩ : ∃ len, m.length = len := ⟨_, rfl⟩
  rw [hlen] at hl hca ⊢
  rw [hlen2] at hm hcb ⊢
  by_cases hq : len = len2
  · subst hq
    have HL := Lib.hid hlen
    have HM := Lib.hid hlen2
    have HA := Lib.hid ha
    have HB := Lib.hid hb
    clear ha hb hlen hlen2
    go_enter Tryz.func13, Tryz.ntmps13
    go_wp2
    go_loopw [5] (fun i wr => ∃ k n : Nat, k ≤ len ∧ i = .int .i64 k ∧ RowKit.Hid (AlkT l m k) ∧ wr = w.drewN n) (fun i _ => len - (intOf i).toNat)
    case atStart => exact ⟨0, 0, Nat.zero_le _, rfl, fun i hi => by omega, rfl⟩
    case round =>
      obtain ⟨k, n, hk, rfl, HN, rfl⟩ := hrel
      by_cases hlt : k < len
      · obtain ⟨p, hp⟩ : ∃ p, l[k]? = some p := ⟨_, List.getElem?_eq_getElem (by have := HL.out; omega)⟩
        obtain ⟨q, hq⟩ : ∃ q, m[k]? = some q := ⟨_, List.getElem?_eq_getElem (by have := HM.out; omega)⟩
        obtain ⟨g, o, rfl, hg, hr, -⟩ := HA.out.at hp
        obtain ⟨g2, o2, rfl, hg2, hr2, -⟩ := HB.out.at hq
        have HR := Lib.hid hr
        have HR2 := Lib.hid hr2
        have HP := Lib.hid hp
        have HQ := Lib.hid hq
        clear hr hr2 hp hq
        have x0 := mid_cell0 HR.out rfl
        have x1 := mid_cell HR.out 1 rfl
        have x2 := mid_cell HR.out 2 rfl
        have x3 := mid_cell HR.out 3 rfl
        have x4 := mid_cell HR.out 4 rfl
        have x5 := mid_cell HR.out 5 rfl
        have y0 := mid_cell0 HR2.out rfl
        have y1 := mid_cell HR2.out 1 rfl
        have y2 := mid_cell HR2.out 2 rfl
        have y3 := mid_cell HR2.out 3 rfl
        have y4 := mid_cell HR2.out 4 rfl
        have y5 := mid_cell HR2.out 5 rfl
        have hr' := HA
        clear HA HB
        by_cases he : p = q
        · have hd : decide (p = q) = true := decide_eq_true he
          have HN2 := Lib.hid (HN.out.next HP.out HQ.out he)
          clear he
          go_wp2
          go_quiet (fail)
          go_wp2
          go_roundw
          case rel => exact ⟨k + 1, _, by omega, by go_num, HN2, rfl⟩
          case measure => simp [intOf]; omega
        · have hd : decide (p = q) = false := decide_eq_false he
          have HN2 := Lib.hid (not_alk HP.out HQ.out he)
          clear he
          go_wp2
          go_quiet (fail)
          go_wp2
          go_ret
          exact ⟨by rw [decide_eq_false HN2.out]; rfl, n + nq, by rw [World.drewN_drewN]⟩
      · obtain rfl : k = len := by omega
        have hd : l = m := by
          have h1 := HN.out
          rw [← HL.out] at h1
          exact h1.all (HL.out.trans HM.out.symm)
        have HD := Lib.hid hd
        clear hd
        go_wp2
        go_ret
        exact ⟨by rw [decide_eq_true HD.out]; rfl, _, rfl⟩
  · have hne : l ≠ m := by rintro rfl; exact hq (hlen.symm.trans hlen2)
    have hz : ((len : Int) == (len2 : Int)) = false := by simp; omega
    have HN := Lib.hid hne
    clear hne hlen hlen2 ha hb hq
    go_enter Tryz.func13, Tryz.ntmps13
    go_wp2
    go_ret
    exact ⟨by rw [decide_eq_false HN.out]; rfl, 0, rfl⟩
end
end Go.Proofs.YtpaooddmgcekhaaGreat.ti
