/-
  QueueScripts: the law's walk.
-/
import Derived.Test.YtaaaefoanjggcaaQScr
namespace Go.Proofs.Ytaaaefoanjggcaa
set_option linter.unusedSimpArgs false
set_option linter.unusedVariables false
open Go.RowKit
theorem scr_no (a : Option Addr) (cap : Nat) (l : List Job) (hl : l.length ≤ 9223372036854775807) (hno : 200 < l.length) (b : Option Addr) (bcap : Nat) (m : List Stp) (w : World) :
    Calls Try.prog 3 #[.slice a l.length cap, .slice b m.length bcap] w fun e w' => e = .returned (.bool true) ∧ Below w.heap.size w w' := by
  have haw := awake_any
  generalize l.length = len at *
  generalize m.length = ml at *
  go_enter Try.func3, Try.ntmps3
  go_wp2_with (go_at_call 8; refine (haw _).mono ?_; rintro e w1 ⟨rfl, hb1⟩)
  go_ret
  exact ⟨rfl, hb1⟩
set_option maxHeartbeats 8000000 in
set_option maxRecDepth 100000 in
theorem scr_ok (a : Option Addr) (cap : Nat) (l : List Job) (hl : l.length ≤ 200) (b : Option Addr) (bcap : Nat) (m : List Stp) (hm : m.length ≤ 9223372036854775807) (w : World) (hr : RdJ w.heap.size w a l) (hs : RdS w.heap.size w b m) :
    Calls Try.prog 3 #[.slice a l.length cap, .slice b m.length bcap] w fun e w' => e = .returned (.bool true) ∧ Below w.heap.size w w' := by
  have haw := awake_any
  have hnw := fun W (hW : Below w.heap.size w W) => newP a cap l (by omega) W ((hr.below hW (Nat.le_refl _)).mono hW.size)
  have hrn := fun W (hW : Below w.heap.size w W) => rnew_any a cap l hl W ((hr.below hW (Nat.le_refl _)).mono hW.size)
  have HN := Lib.hid hnw
  have HRN := Lib.hid hrn
  have HS := Lib.hid hs
  have hal : (allR l).length ≤ 200 := by have := fold_len l []; unfold allR; simp at this; omega
  obtain ⟨R0, hR0⟩ : ∃ R, allR l = R := ⟨_, rfl⟩
  rw [hR0] at HN HRN hal
  obtain ⟨len, hlen⟩ : ∃ len, l.length = len := ⟨_, rfl⟩
  rw [hlen] at hl HN HRN ⊢
  obtain ⟨ml, hml⟩ : ∃ ml, m.length = ml := ⟨_, rfl⟩
  have HML := Lib.hid hml
  rw [hml] at hm ⊢
  clear hnw hrn hr hs hR0 hlen hml
  go_enter Try.func3, Try.ntmps3
  go_wp2_with (first
    | (go_at_call 8; refine (haw _).mono ?_; rintro e w1 ⟨rfl, hb1⟩; have HB1 := Lib.hid hb1; clear hb1)
    | (go_at_call 9; refine (HN.out _ HB1.out).mono ?_; rintro e w2 ⟨rfl, hq⟩; have Q2 := Lib.hid hq; have HB2 := Lib.hid (HB1.out.trans (hq.bel.mono HB1.out.size)); clear hq)
    | (go_at_call 10; refine (HRN.out _ HB2.out).mono ?_; rintro e w3 ⟨rfl, hq⟩; have Q3 := Lib.hid (Bo.mk2 Q2.out hq); clear hq))
  clear haw HN HRN Q2
  go_loopw [8] (fun i wr => ∃ (k n : Nat) (R : List Job), i = .int .i64 k ∧ k ≤ ml ∧ k ≤ 200 ∧ R.length ≤ 200 + k ∧ n ≤ 200 + k ∧ Hid (Bo w1 w2 n R R wr)) (fun i _ => ml - (intOf i).toNat)
  case atStart => exact ⟨0, len, R0, rfl, by omega, by omega, by omega, by omega, Q3⟩
  case round =>
    obtain ⟨k, n, R, rfl, hk1, hk2, hRl, hn, HA⟩ := hrel
    clear Q3
    by_cases hlt : k < ml ∧ k < 200
    · obtain ⟨hlt, hlt2⟩ := hlt
      obtain ⟨s, hs⟩ : ∃ s, m[k]? = some s := ⟨_, List.getElem?_eq_getElem (by have := HML.out; omega)⟩
      obtain ⟨hsk, bb, off, hb0, hbn, x0, x1, x2⟩ := HS.out k s hs
      subst hb0
      have hbw := HB1.out.trans (HA.out.q.bel.mono HB1.out.size)
      have y0 := keepC hbw hbn x0
      have y1 := keepC hbw hbn x1
      have y2 := keepC hbw hbn x2
      have hpl := putR_len R s.j
      have hdl : (dropR R s.j.k).length ≤ R.length := List.length_filter_le _ _
      have hrl : (restR R).length ≤ R.length := by
        unfold restR
        split
        · simp
        · exact List.length_filter_le _ _
      have hsb : StB (wr.alloc (.cells #[.int .i64 s.d, .int .i64 s.j.k, .int .i64 s.j.a] 32)) wr.heap.size s := heap_alloc_new wr _
      have hbo := HA.out.below ((Below.refl wr.heap.size wr).alloc (Nat.le_refl _) (.cells #[.int .i64 s.d, .int .i64 s.j.k, .int .i64 s.j.a] 32))
      have hpq := bqPut hbo s.j hsk (by omega)
      have hpr := fun n W (h : Bo w1 w2 n (putR R s.j) R W) => brPut h s.j hsk (by omega)
      have hnq := bqNext hbo
      have hnr := fun W (h : Bo w1 w2 n (restR R) R W) => brNext h
      have hdq := bqDrop hbo s.j.k hsk
      have hdr := fun W (h : Bo w1 w2 n (dropR R s.j.k) R W) => brDrop h s.j.k
      have hatq := fun n R' W (h : Bo w1 w2 n R' R' W) => bqAt h s.j.k hsk
      have hatr := fun n R' W (h : Bo w1 w2 n R' R' W) => brAt h s.j.k
      have hlnq := fun n R' W (h : Bo w1 w2 n R' R' W) => lenP h.q
      obtain ⟨sd, sk, sa⟩ := s
      simp only at hsk x0 x1 x2 y0 y1 y2 hpl hdl hsb hbo hpq hpr hdq hdr hatq hatr
      have HSB := Lib.hid hsb
      have HAQ := Lib.hid hatq
      have HAR := Lib.hid hatr
      have HLQ := Lib.hid hlnq
      clear hs x0 x1 x2 hbw hsb hbo HA hatq hatr hlnq
      by_cases hd : sd = 0
      · subst hd
        generalize newsR R ⟨sk, sa⟩ = z at *
        clear hnq hnr hdq hdr hdl hrl
        go_wp2_with (first
          | (go_at_call 11; ((with_reducible refine hpq.mono ?_); rintro e w5 ⟨rfl, hq, hkq⟩); have Q5 := Lib.hid hq; have hsb5 := HSB.out.keepQ hkq; have SB5 := Lib.hid hsb5; obtain ⟨a0, a1, a2⟩ := hsb5.cells; clear hq hkq hsb5)
          | (go_at_call 12; ((with_reducible refine (hpr _ _ Q5.out).mono ?_); rintro e w6 ⟨rfl, hq, hkq⟩); have QB := Lib.hid hq; have hsb6 := SB5.out.keepO hkq (by decide); have SB := Lib.hid hsb6; obtain ⟨a0, a1, a2⟩ := hsb6.cells; clear hq hkq hsb6)
          | (go_at_call 17; ((with_reducible refine (HAQ.out _ _ _ QB.out).mono ?_); rintro e w7 ⟨rfl, hq, hkq⟩); have Q7 := Lib.hid hq; have hsb7 := SB.out.keepQ hkq; obtain ⟨a0, a1, a2⟩ := hsb7.cells; clear hq hkq hsb7)
          | (go_at_call 18; ((with_reducible refine (HAR.out _ _ _ Q7.out).mono ?_); rintro e w8 ⟨rfl, rfl⟩)))
        generalize (getR (putR R ⟨sk, sa⟩) sk).getD 0 = va at *
        generalize (getR (putR R ⟨sk, sa⟩) sk).isSome = vb at *
        have hlq := fun q => (HLQ.out _ _ _ (Q7.out.below (bel_drawn (Below.refl _ _) q))).mono fun e w' (h : e = .returned (.int .i64 (putR R ⟨sk, sa⟩).length) ∧ w7.drewN q = w') => (⟨h.1, h.2.symm⟩ : e = .returned (.int .i64 (putR R ⟨sk, sa⟩).length) ∧ w' = w7.drewN q)
        obtain ⟨vv, hrq⟩ := Q7.out.r
        obtain ⟨r0, _, _⟩ := hrq.cells
        obtain ⟨ra, rc, rfl⟩ := hrq.own.shape
        have hlen3 : (putR R ⟨sk, sa⟩).length ≤ 1000 := hrq.len
        have HLEN : Hid ((putR R ⟨sk, sa⟩).length ≤ 200 + (k + 1)) := by unfold Hid; omega
        obtain ⟨L3, hL3⟩ : ∃ L3, (putR R ⟨sk, sa⟩).length = L3 := ⟨_, rfl⟩
        rw [hL3] at hlq r0 hlen3
        clear hrq hL3
        go_quiet ((go_at_call 19; exact Calls.quiet_of_same (hlq _)))
        have Q9 : Hid (Bo w1 w2 (n + 1) (putR R ⟨sk, sa⟩) (putR R ⟨sk, sa⟩) (w7.drewN nq)) := Q7.out.below (bel_drawn (Below.refl _ _) nq)
        clear Q7
        generalize w7.drewN nq = w9 at *
        go_wp2
        go_roundw
        case rel => exact ⟨k + 1, (n + 1), putR R ⟨sk, sa⟩, by go_num, by omega, by omega, HLEN.out, by omega, Q9⟩
        case measure => simp [intOf]; omega
      · by_cases hd' : sd = 1
        · have hd := hd'
          subst hd
          obtain ⟨xj, hxj⟩ : ∃ x, nextR R = x := ⟨_, rfl⟩
          generalize nextIs R = z at *
          rw [hxj] at hnq hnr
          obtain ⟨jk, ja⟩ := xj
          simp only at hnq hnr
          clear hpq hpr hdq hdr hdl hpl hxj
          go_wp2_with (first
            | (go_at_call 13; ((with_reducible refine hnq.mono ?_); rintro e w5 ⟨rfl, hq, hkq⟩); have Q5 := Lib.hid (hq.below ((Below.refl _ _).alloc (Nat.le_refl _) (.cells #[.int .i64 jk, .int .i64 ja] 30))); have hsb5 := (HSB.out.keepQ hkq).alloc (.cells #[.int .i64 jk, .int .i64 ja] 30); have SB5 := Lib.hid hsb5; have BX := Lib.hid (BxJ.new 30 w5 ⟨jk, ja⟩); clear hq hkq hsb5)
            | (go_at_call 14; ((with_reducible refine (hnr _ Q5.out).mono ?_); rintro e w6 ⟨rfl, hq, hkq⟩); have QB := Lib.hid (hq.below ((Below.refl _ _).alloc (Nat.le_refl _) (.cells #[.int .i64 jk, .int .i64 ja] 30))); have hsb6 := (SB5.out.keepO hkq (by decide)).alloc (.cells #[.int .i64 jk, .int .i64 ja] 30); have SB := Lib.hid hsb6; have bx6 : BxJ 30 w6 w5.heap.size ⟨jk, ja⟩ := hkq.cells (by decide) BX.out; have bx7 := (bx6.same (heap_alloc_old w6 (.cells #[.int .i64 jk, .int .i64 ja] 30) bx6.lt)).cells; have bx8 := (BxJ.new 30 w6 ⟨jk, ja⟩).cells; obtain ⟨p0, p1, _, _⟩ := bx7; obtain ⟨q0, q1, _, _⟩ := bx8; simp only at p0 p1 q0 q1; obtain ⟨a0, a1, a2⟩ := hsb6.cells; clear hq hkq hsb6 bx6)
            | (go_at_call 17; ((with_reducible refine (HAQ.out _ _ _ QB.out).mono ?_); rintro e w7 ⟨rfl, hq, hkq⟩); have Q7 := Lib.hid hq; have hsb7 := SB.out.keepQ hkq; obtain ⟨a0, a1, a2⟩ := hsb7.cells; clear hq hkq hsb7)
            | (go_at_call 18; ((with_reducible refine (HAR.out _ _ _ Q7.out).mono ?_); rintro e w8 ⟨rfl, rfl⟩)))
          generalize (getR (restR R) sk).getD 0 = va at *
          generalize (getR (restR R) sk).isSome = vb at *
          have hlq := fun q => (HLQ.out _ _ _ (Q7.out.below (bel_drawn (Below.refl _ _) q))).mono fun e w' (h : e = .returned (.int .i64 (restR R).length) ∧ w7.drewN q = w') => (⟨h.1, h.2.symm⟩ : e = .returned (.int .i64 (restR R).length) ∧ w' = w7.drewN q)
          obtain ⟨vv, hrq⟩ := Q7.out.r
          obtain ⟨r0, _, _⟩ := hrq.cells
          obtain ⟨ra, rc, rfl⟩ := hrq.own.shape
          have hlen3 : (restR R).length ≤ 1000 := hrq.len
          have HLEN : Hid ((restR R).length ≤ 200 + (k + 1)) := by unfold Hid; omega
          obtain ⟨L3, hL3⟩ : ∃ L3, (restR R).length = L3 := ⟨_, rfl⟩
          rw [hL3] at hlq r0 hlen3
          clear hrq hL3
          go_quiet ((go_at_call 19; exact Calls.quiet_of_same (hlq _)))
          have Q9 : Hid (Bo w1 w2 n (restR R) (restR R) (w7.drewN nq)) := Q7.out.below (bel_drawn (Below.refl _ _) nq)
          clear Q7
          generalize w7.drewN nq = w9 at *
          go_wp2
          go_roundw
          case rel => exact ⟨k + 1, n, restR R, by go_num, by omega, by omega, HLEN.out, by omega, Q9⟩
          case measure => simp [intOf]; omega
        · have hd0 : (sd == 0) = false := by simpa using hd
          have hd1 : (sd == 1) = false := by simpa using hd'
          have T5 : True := trivial
          clear hpq hpr hnq hnr hrl hpl
          go_wp2_with (first
            | (go_at_call 15; ((with_reducible refine hdq.mono ?_); rintro e w5 ⟨rfl, hq, hkq⟩); have Q5 := Lib.hid hq; have hsb5 := HSB.out.keepQ hkq; have SB5 := Lib.hid hsb5; obtain ⟨a0, a1, a2⟩ := hsb5.cells; clear hq hkq hsb5)
            | (go_at_call 16; ((with_reducible refine (hdr _ Q5.out).mono ?_); rintro e w6 ⟨rfl, hq, hkq⟩); have QB := Lib.hid hq; have hsb6 := SB5.out.keepO hkq (by decide); have SB := Lib.hid hsb6; obtain ⟨a0, a1, a2⟩ := hsb6.cells; clear hq hkq hsb6)
            | (go_at_call 17; ((with_reducible refine (HAQ.out _ _ _ QB.out).mono ?_); rintro e w7 ⟨rfl, hq, hkq⟩); have Q7 := Lib.hid hq; have hsb7 := SB.out.keepQ hkq; obtain ⟨a0, a1, a2⟩ := hsb7.cells; clear hq hkq hsb7)
            | (go_at_call 18; ((with_reducible refine (HAR.out _ _ _ Q7.out).mono ?_); rintro e w8 ⟨rfl, rfl⟩)))
          generalize (getR (dropR R sk) sk).getD 0 = va at *
          generalize (getR (dropR R sk) sk).isSome = vb at *
          have hlq := fun q => (HLQ.out _ _ _ (Q7.out.below (bel_drawn (Below.refl _ _) q))).mono fun e w' (h : e = .returned (.int .i64 (dropR R sk).length) ∧ w7.drewN q = w') => (⟨h.1, h.2.symm⟩ : e = .returned (.int .i64 (dropR R sk).length) ∧ w' = w7.drewN q)
          obtain ⟨vv, hrq⟩ := Q7.out.r
          obtain ⟨r0, _, _⟩ := hrq.cells
          obtain ⟨ra, rc, rfl⟩ := hrq.own.shape
          have hlen3 : (dropR R sk).length ≤ 1000 := hrq.len
          have HLEN : Hid ((dropR R sk).length ≤ 200 + (k + 1)) := by unfold Hid; omega
          obtain ⟨L3, hL3⟩ : ∃ L3, (dropR R sk).length = L3 := ⟨_, rfl⟩
          rw [hL3] at hlq r0 hlen3
          clear hrq hL3
          go_quiet ((go_at_call 19; exact Calls.quiet_of_same (hlq _)))
          have Q9 : Hid (Bo w1 w2 n (dropR R sk) (dropR R sk) (w7.drewN nq)) := Q7.out.below (bel_drawn (Below.refl _ _) nq)
          clear Q7
          generalize w7.drewN nq = w9 at *
          go_wp2
          go_roundw
          case rel => exact ⟨k + 1, n, dropR R sk, by go_num, by omega, by omega, HLEN.out, by omega, Q9⟩
          case measure => simp [intOf]; omega
    · have hfin : Below w.heap.size w wr := HB1.out.trans (HA.out.q.bel.mono HB1.out.size)
      have HF := Lib.hid hfin
      clear hfin HA
      by_cases hlt1 : k < ml
      · obtain rfl : k = 200 := by omega
        go_wp2
        go_ret
        exact ⟨rfl, HF.out⟩
      · obtain rfl : k = ml := by omega
        go_wp2
        go_ret
        exact ⟨rfl, HF.out⟩
theorem scr_walk (a : Option Addr) (cap : Nat) (l : List Job) (hl : l.length ≤ 9223372036854775807) (b : Option Addr) (bcap : Nat) (m : List Stp) (hm : m.length ≤ 9223372036854775807) (w : World) (hr : RdJ w.heap.size w a l) (hs : RdS w.heap.size w b m) :
    Calls Try.prog 3 #[.slice a l.length cap, .slice b m.length bcap] w fun e w' => e = .returned (.bool true) ∧ Below w.heap.size w w' := by
  by_cases h : l.length ≤ 200
  · exact scr_ok a cap l h b bcap m hm w hr hs
  · exact scr_no a cap l hl (by omega) b bcap m w
end Go.Proofs.Ytaaaefoanjggcaa
