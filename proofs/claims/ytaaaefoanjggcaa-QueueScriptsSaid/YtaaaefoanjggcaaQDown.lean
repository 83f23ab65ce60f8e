/-
  THE LIBRARY's HEAP: a job is moved down.
-/
import Derived.Test.YtaaaefoanjggcaaQUp
namespace Go.Proofs.Ytaaaefoanjggcaa
set_option linter.unusedSimpArgs false
set_option linter.unusedVariables false
open Go.RowKit
/-- Where it ends. -/
def DnEnd (w0 : World) (base qb mb n : Nat) (g : Option Nat) (l : List Job) (m i0 : Nat) (b : Bool) (wr : World) : Prop := ∃ l', Mv w0 base qb mb n g l m l' wr ∧ (b = true → Ok l' m) ∧ (b = false → UpOk l' m i0)
theorem DnEnd.of {w0 wr : World} {base qb mb n m i i0 : Nat} {g : Option Nat} {l l1 : List Job} (h : Mv w0 base qb mb n g l m l1 wr) (hi : i0 ≤ i) (k : (i0 < i → Ok l1 m) ∧ (i = i0 → UpOk l1 m i0)) : DnEnd w0 base qb mb n g l m i0 (decide (i0 < i)) wr :=
  ⟨l1, h, fun e => k.1 (by have := of_decide_eq_true e; omega), fun e => k.2 (by have := of_decide_eq_false e; omega)⟩
theorem DnEnd.below {w0 wr w1 : World} {base qb mb n m i0 : Nat} {g : Option Nat} {l : List Job} {b : Bool} (h : DnEnd w0 base qb mb n g l m i0 b wr) (k : Below wr.heap.size wr w1) : DnEnd w0 base qb mb n g l m i0 b w1 := by
  obtain ⟨l1, a, c⟩ := h
  exact ⟨l1, a.below k, c⟩
theorem below2 {w w1 w2 : World} (h : Below w.heap.size w w1) (k : Below w1.heap.size w1 w2) : Below w.heap.size w w2 := h.trans (k.mono h.size)
def DnPost (w0 : World) (base qb mb n : Nat) (g : Option Nat) (l : List Job) (m i0 : Nat) (e : Ending) (w' : World) : Prop := ∃ b, e = .returned (.bool b) ∧ DnEnd w0 base qb mb n g l m i0 b w'
theorem DnPost.mk {w0 : World} {base qb mb n : Nat} {g : Option Nat} {l : List Job} {m i0 : Nat} {e : Ending} {w' : World} {b : Bool} (he : e = .returned (.bool b)) (h : DnEnd w0 base qb mb n g l m i0 b w') : DnPost w0 base qb mb n g l m i0 e w' := ⟨b, he, h⟩
set_option maxHeartbeats 8000000 in
set_option maxRecDepth 100000 in
theorem down_any {base qb mb n : Nat} {g : Option Nat} {l : List Job} (w0 w : World) {l0 : List Job} (m : Nat) (h : Mv w0 base qb mb n g l m l0 w) (hm : m ≤ l.length) (hbig : l.length ≤ 1000000) (i0 : Nat) (hi : i0 < m) (ho : DownOk l0 m i0 i0) :
    Calls Try.prog 28 #[.iface 53 (.pointer (some ⟨qb, 0, none⟩)), .int .i64 i0, .int .i64 m] w fun e w' => DnPost w0 base qb mb n g l m i0 e w' := by
  have m1 := mLess (some ⟨qb, 0, none⟩)
  have m2 := mSwap (some ⟨qb, 0, none⟩)
  have e1 := eLess
  have e2 := eSwap
  have H := Lib.hid h
  have HO := Lib.hid ho
  clear h ho
  go_enter Try.func28, Try.ntmps28
  go_wp2
  go_loopw [7] (fun iv wr => ∃ (i : Nat) (l' : List Job), iv = .int .i64 i ∧ i < m ∧ Hid (Mv w0 base qb mb n g l m l' wr) ∧ Hid (DownOk l' m i i0)) (fun iv _ => m - (intOf iv).toNat)
  case atStart => exact ⟨i0, l0, rfl, hi, H, HO⟩
  case round =>
    clear H HO hi
    obtain ⟨i, l1, rfl, hi, H, HO⟩ := hrel
    have hle := HO.out.2.2
    by_cases hA : m ≤ 2 * i + 1
    · have hE := DnEnd.of H.out hle (HO.out.fin hA)
      have HE := Lib.hid hE
      clear H HO hE
      go_wp2
      go_ret
      exact DnPost.mk rfl HE.out
    · obtain ⟨kk, hkk⟩ : ∃ kk, kidL l1 m i = kk := ⟨_, rfl⟩
      obtain ⟨p1, p2, p3⟩ := kidL_is (l := l1) (n := m) (i := i) (by omega)
      have hln := H.out.perm.length_eq
      have hstay := fun hl => DnEnd.of H.out hle (HO.out.stay hl)
      have hstep := fun hl => HO.out.step (by omega) (by omega) hl
      have hsw := fun W (hW : Below wr.heap.size wr W) => mv_swap (H.out.below hW) hm i (kidL l1 m i) (by omega) p1 (by omega)
      have hlk := fun W (hW : Below wr.heap.size wr W) => mv_less (H.out.below hW) (kidL l1 m i) i (by omega) (by omega)
      have HSTAY := Lib.hid hstay
      have HSTEP := Lib.hid hstep
      clear hstay hstep HO hln
      by_cases hB : 2 * i + 2 < m
      · by_cases hK : lessJ (at' l1 (2 * i + 2)) (at' l1 (2 * i + 1))
        · have hk : kidL l1 m i = 2 * i + 2 := if_pos ⟨hB, hK⟩
          rw [hk] at HSTAY HSTEP hsw hlk p1 p2 p3
          have hc1 : ((2 * i + 2 : Nat) : Int) = 2 * (i : Int) + 1 + 1 := by omega
          simp only [hc1] at hsw hlk
          clear hc1 hk hkk
          have HSW := Lib.hid hsw
          clear hsw
          have hl1 := mv_less H.out (2 * i + 2) (2 * i + 1) (by omega) (by omega)
          rw [decide_eq_true hK, show ((2 * i + 2 : Nat) : Int) = 2 * (i : Int) + 1 + 1 by omega, show ((2 * i + 1 : Nat) : Int) = 2 * (i : Int) + 1 by omega] at hl1
          have HLK := Lib.hid hlk
          clear hlk H
          by_cases hs : lessJ (at' l1 (2 * i + 2)) (at' l1 i)
          · have HN := Lib.hid (HSTEP.out hs)
            rw [show decide (lessJ (at' l1 (2 * i + 2)) (at' l1 i)) = true from decide_eq_true hs] at HLK
            clear hs HSTAY HSTEP
            have TT1 : True := trivial
            go_wp2_with (first
              | (go_at_fn 46; have t1 := TT1; clear TT1 t1; (with_reducible refine hl1.mono ?_); rintro e w1 ⟨rfl, hb1⟩; have HB1 := Lib.hid hb1; clear hb1)
              | (go_at_fn 46; refine (HLK.out _ HB1.out).mono ?_; rintro e w2 ⟨rfl, hb2⟩; have HB2 := Lib.hid (below2 HB1.out hb2); clear hb2)
              | (go_at_fn 49; refine (HSW.out _ HB2.out).mono ?_; rintro e w3 ⟨rfl, hmv⟩; have HM := Lib.hid hmv; clear hmv))
            go_roundw
            case rel => exact ⟨2 * i + 2, _, by go_num, by omega, HM, HN⟩
            case measure => simp [intOf]; omega
          · have HN := Lib.hid (HSTAY.out hs)
            rw [show decide (lessJ (at' l1 (2 * i + 2)) (at' l1 i)) = false from decide_eq_false hs] at HLK
            clear hs HSTAY HSTEP HSW
            have TT1 : True := trivial
            go_wp2_with (first
              | (go_at_fn 46; have t1 := TT1; clear TT1 t1; (with_reducible refine hl1.mono ?_); rintro e w1 ⟨rfl, hb1⟩; have HB1 := Lib.hid hb1; clear hb1)
              | (go_at_fn 46; refine (HLK.out _ HB1.out).mono ?_; rintro e w2 ⟨rfl, hb2⟩; have HB2 := Lib.hid (below2 HB1.out hb2); clear hb2))
            go_ret
            exact DnPost.mk rfl (HN.out.below HB2.out)
        · have hk : kidL l1 m i = 2 * i + 1 := if_neg (fun h => hK h.2)
          rw [hk] at HSTAY HSTEP hsw hlk p1 p2 p3
          have hc1 : ((2 * i + 1 : Nat) : Int) = 2 * (i : Int) + 1 := by omega
          simp only [hc1] at hsw hlk
          clear hc1 hk hkk
          have HSW := Lib.hid hsw
          clear hsw
          have hl1 := mv_less H.out (2 * i + 2) (2 * i + 1) (by omega) (by omega)
          rw [decide_eq_false hK, show ((2 * i + 2 : Nat) : Int) = 2 * (i : Int) + 1 + 1 by omega, show ((2 * i + 1 : Nat) : Int) = 2 * (i : Int) + 1 by omega] at hl1
          have HLK := Lib.hid hlk
          clear hlk H
          by_cases hs : lessJ (at' l1 (2 * i + 1)) (at' l1 i)
          · have HN := Lib.hid (HSTEP.out hs)
            rw [show decide (lessJ (at' l1 (2 * i + 1)) (at' l1 i)) = true from decide_eq_true hs] at HLK
            clear hs HSTAY HSTEP
            have TT1 : True := trivial
            go_wp2_with (first
              | (go_at_fn 46; have t1 := TT1; clear TT1 t1; (with_reducible refine hl1.mono ?_); rintro e w1 ⟨rfl, hb1⟩; have HB1 := Lib.hid hb1; clear hb1)
              | (go_at_fn 46; refine (HLK.out _ HB1.out).mono ?_; rintro e w2 ⟨rfl, hb2⟩; have HB2 := Lib.hid (below2 HB1.out hb2); clear hb2)
              | (go_at_fn 49; refine (HSW.out _ HB2.out).mono ?_; rintro e w3 ⟨rfl, hmv⟩; have HM := Lib.hid hmv; clear hmv))
            go_roundw
            case rel => exact ⟨2 * i + 1, _, by go_num, by omega, HM, HN⟩
            case measure => simp [intOf]; omega
          · have HN := Lib.hid (HSTAY.out hs)
            rw [show decide (lessJ (at' l1 (2 * i + 1)) (at' l1 i)) = false from decide_eq_false hs] at HLK
            clear hs HSTAY HSTEP HSW
            have TT1 : True := trivial
            go_wp2_with (first
              | (go_at_fn 46; have t1 := TT1; clear TT1 t1; (with_reducible refine hl1.mono ?_); rintro e w1 ⟨rfl, hb1⟩; have HB1 := Lib.hid hb1; clear hb1)
              | (go_at_fn 46; refine (HLK.out _ HB1.out).mono ?_; rintro e w2 ⟨rfl, hb2⟩; have HB2 := Lib.hid (below2 HB1.out hb2); clear hb2))
            go_ret
            exact DnPost.mk rfl (HN.out.below HB2.out)
      · have hk : kidL l1 m i = 2 * i + 1 := if_neg (fun h => hB h.1)
        rw [hk] at HSTAY HSTEP hsw hlk p1 p2 p3
        have hc1 : ((2 * i + 1 : Nat) : Int) = 2 * (i : Int) + 1 := by omega
        simp only [hc1] at hsw hlk
        clear hc1 hk hkk
        have HSW := Lib.hid hsw
        clear hsw
        have HLK := Lib.hid hlk
        clear hlk H
        by_cases hs : lessJ (at' l1 (2 * i + 1)) (at' l1 i)
        · have HN := Lib.hid (HSTEP.out hs)
          rw [show decide (lessJ (at' l1 (2 * i + 1)) (at' l1 i)) = true from decide_eq_true hs] at HLK
          clear hs HSTAY HSTEP
          go_wp2_with (first
            | (go_at_fn 46; refine (HLK.out _ (Below.refl _ _)).mono ?_; rintro e w2 ⟨rfl, hb2⟩; have HB2 := Lib.hid hb2; clear hb2)
            | (go_at_fn 49; refine (HSW.out _ HB2.out).mono ?_; rintro e w3 ⟨rfl, hmv⟩; have HM := Lib.hid hmv; clear hmv))
          go_roundw
          case rel => exact ⟨2 * i + 1, _, by go_num, by omega, HM, HN⟩
          case measure => simp [intOf]; omega
        · have HN := Lib.hid (HSTAY.out hs)
          rw [show decide (lessJ (at' l1 (2 * i + 1)) (at' l1 i)) = false from decide_eq_false hs] at HLK
          clear hs HSTAY HSTEP HSW
          go_wp2_with (first
            | (go_at_fn 46; refine (HLK.out _ (Below.refl _ _)).mono ?_; rintro e w2 ⟨rfl, hb2⟩; have HB2 := Lib.hid hb2; clear hb2))
          go_ret
          exact DnPost.mk rfl (HN.out.below HB2.out)
end Go.Proofs.Ytaaaefoanjggcaa
