/-
  QueueDrops: the law's walk: two queues.
-/
import Derived.Test.YtaaaefoanjggcaaQLaw
import Derived.Deep.LoopGhost
namespace Go.Proofs.Ytaaaefoanjggcaa
set_option linter.unusedSimpArgs false
set_option linter.unusedVariables false
open Go.RowKit
theorem QG.keepFr {W W' : World} {base qb mb n : Nat} {g : Option Nat} {R : List Job} (h : QG W base qb mb n g R) {qb' mb' : Nat} {g' : Option Nat} (k : Fr qb' mb' g' W W') (hd : ∀ i, (i = qb ∨ i = mb ∨ some i = g) → i ≠ qb' ∧ i ≠ mb' ∧ some i ≠ g') : QG W' base qb mb n g R := by
  obtain ⟨l, ⟨⟨f, a, v, q⟩, c⟩, d⟩ := h
  exact ⟨l, ⟨⟨f, a, v, q.same fun i hi hs => k.block i hi (hd i hs).1 (hd i hs).2.1 (hd i hs).2.2⟩, c⟩, d⟩
/-- Two queues: one of u, one of v. -/
structure Duo (u v : World) (n : Nat) (A B : List Job) (W : World) : Prop where
  le : u.heap.size + 2 ≤ v.heap.size
  two : ∃ ga gb, QG W u.heap.size (u.heap.size + 1) u.heap.size n ga A ∧ QG W v.heap.size (v.heap.size + 1) v.heap.size n gb B ∧ (∀ i, some i = ga → i < v.heap.size)
  bel : Below u.heap.size u W
section
variable {u v W W' : World} {n : Nat} {A B : List Job}
theorem Duo.mk2 (h : Newed u n A v) (k : Newed v n B W) : Duo u v n A B W := by
  obtain ⟨ga, qa, ba⟩ := h
  obtain ⟨gb, qb, bb⟩ := k
  obtain ⟨a1, a2, a3, a4, a5, a6⟩ := qa.at
  exact ⟨by omega, ⟨ga, gb, qa.below bb, qb, fun i hi => a6 i hi.symm⟩, ba.trans (bb.mono ba.size)⟩
theorem Duo.below (h : Duo u v n A B W) (k : Below W.heap.size W W') : Duo u v n A B W' := by
  obtain ⟨l, ⟨ga, gb, qa, qb, hd⟩, b⟩ := h
  exact ⟨l, ⟨ga, gb, qa.below k, qb.below k, hd⟩, b.trans (k.mono b.size)⟩
theorem Duo.a {A' : List Job} (h : Duo u v n A B W) (k : ∀ ga, QG W u.heap.size (u.heap.size + 1) u.heap.size n ga A → DropEnd W u.heap.size (u.heap.size + 1) u.heap.size n ga A' W') : Duo u v n A' B W' := by
  obtain ⟨l, ⟨ga, gb, qa, qb, hd⟩, b⟩ := h
  obtain ⟨q, f⟩ := k ga qa
  obtain ⟨a1, a2, a3, a4, a5, a6⟩ := qa.at
  obtain ⟨b1, b2, b3, b4, b5, b6⟩ := qb.at
  refine ⟨l, ⟨ga, gb, q, qb.keepFr f fun i hi => ?_, hd⟩, b.trans (f.below a1 a2 a3 (by omega))⟩
  have hv : v.heap.size ≤ i := by
    rcases hi with rfl | rfl | hi
    · exact b1
    · exact b2
    · exact b3 i hi.symm
  exact ⟨by omega, by omega, fun e => by have := hd i e; omega⟩
theorem Duo.b {B' : List Job} (h : Duo u v n A B W) (k : ∀ gb, QG W v.heap.size (v.heap.size + 1) v.heap.size n gb B → DropEnd W v.heap.size (v.heap.size + 1) v.heap.size n gb B' W') : Duo u v n A B' W' := by
  obtain ⟨l, ⟨ga, gb, qa, qb, hd⟩, b⟩ := h
  obtain ⟨q, f⟩ := k gb qb
  obtain ⟨a1, a2, a3, a4, a5, a6⟩ := qa.at
  obtain ⟨b1, b2, b3, b4, b5, b6⟩ := qb.at
  refine ⟨l, ⟨ga, gb, qa.keepFr f fun i hi => ?_, q, hd⟩, b.trans ((f.below b1 b2 b3 (by omega)).mono (by omega))⟩
  have hv : i < v.heap.size := by
    rcases hi with rfl | rfl | hi
    · omega
    · omega
    · exact hd i hi
  exact ⟨by omega, by omega, fun e => by have := b3 i e.symm; omega⟩
theorem Duo.ka (h : Duo u v n A B W) (k : ∀ ga, QG W u.heap.size (u.heap.size + 1) u.heap.size n ga A → Fr (u.heap.size + 1) u.heap.size ga W W') : KQ W W' := by
  obtain ⟨l, ⟨ga, gb, qa, qb, hd⟩, b⟩ := h
  exact qa.keeps (k ga qa)
theorem aAt (h : Duo u v n A B W) (key : Int) (hk : InI key) : Calls Try.prog 17 #[.pointer (some ⟨u.heap.size + 1, 0, none⟩), .int .i64 key] W fun e w' => e = .returned (.tuple #[.int .i64 ((getR A key).getD 0), .bool (getR A key).isSome]) ∧ Duo u v n A B w' := by
  obtain ⟨ga, gb, qa, qb, hd⟩ := h.two
  exact (at_any qa key hk).mono fun e w' ⟨he, hb⟩ => ⟨he, h.below hb⟩
theorem aDrop (h : Duo u v n A B W) (key : Int) (hk : InI key) : Calls Try.prog 15 #[.pointer (some ⟨u.heap.size + 1, 0, none⟩), .int .i64 key] W fun e w' => e = .returned (.bool (getR A key).isSome) ∧ Duo u v n (dropR A key) B w' := by
  obtain ⟨l, ⟨ga, gb, qa, qb, hd⟩, b⟩ := h
  obtain ⟨a1, a2, a3, a4, a5, a6⟩ := qa.at
  obtain ⟨b1, b2, b3, b4, b5, b6⟩ := qb.at
  refine (drop_any qa key hk).mono fun e w' ⟨he, q, f⟩ => ⟨he, l, ⟨ga, gb, q, qb.keepFr f fun i hi => ?_, hd⟩, b.trans (f.below a1 a2 a3 (by omega))⟩
  have hv : v.heap.size ≤ i := by
    rcases hi with rfl | rfl | hi
    · exact b1
    · exact b2
    · exact b3 i hi.symm
  exact ⟨by omega, by omega, fun e => by have := hd i e; omega⟩
theorem aNext (h : Duo u v n A B W) : Calls Try.prog 13 #[.pointer (some ⟨u.heap.size + 1, 0, none⟩)] W fun e w' => e = .returned (.tuple #[.agg #[.int .i64 (nextR A).k, .int .i64 (nextR A).a], .bool (nextIs A)]) ∧ Duo u v n (restR A) B w' ∧ KQ W w' := by
  obtain ⟨l, ⟨ga, gb, qa, qb, hd⟩, b⟩ := h
  obtain ⟨a1, a2, a3, a4, a5, a6⟩ := qa.at
  obtain ⟨b1, b2, b3, b4, b5, b6⟩ := qb.at
  refine (next_any qa).mono fun e w' ⟨he, q, f⟩ => ⟨he, ⟨l, ⟨ga, gb, q, qb.keepFr f fun i hi => ?_, hd⟩, b.trans (f.below a1 a2 a3 (by omega))⟩, qa.keeps f⟩
  have hv : v.heap.size ≤ i := by
    rcases hi with rfl | rfl | hi
    · exact b1
    · exact b2
    · exact b3 i hi.symm
  exact ⟨by omega, by omega, fun e => by have := hd i e; omega⟩
theorem bNext (h : Duo u v n A B W) : Calls Try.prog 13 #[.pointer (some ⟨v.heap.size + 1, 0, none⟩)] W fun e w' => e = .returned (.tuple #[.agg #[.int .i64 (nextR B).k, .int .i64 (nextR B).a], .bool (nextIs B)]) ∧ Duo u v n A (restR B) w' ∧ KQ W w' := by
  have hq := h.two
  obtain ⟨l, ⟨ga, gb, qa, qb, hd⟩, b⟩ := h
  obtain ⟨a1, a2, a3, a4, a5, a6⟩ := qa.at
  obtain ⟨b1, b2, b3, b4, b5, b6⟩ := qb.at
  refine (next_any qb).mono fun e w' ⟨he, q, f⟩ => ⟨he, ⟨l, ⟨ga, gb, qa.keepFr f fun i hi => ?_, q, hd⟩, b.trans ((f.below b1 b2 b3 (by omega)).mono (by omega))⟩, qb.keeps f⟩
  have hv : i < v.heap.size := by
    rcases hi with rfl | rfl | hi
    · omega
    · omega
    · exact hd i hi
  exact ⟨by omega, by omega, fun e => by have := b3 i e.symm; omega⟩
theorem aLen (h : Duo u v n A B W) : Calls Try.prog 19 #[.pointer (some ⟨u.heap.size + 1, 0, none⟩)] W fun e w' => e = .returned (.int .i64 A.length) ∧ W = w' := by
  obtain ⟨ga, gb, qa, qb, hd⟩ := h.two
  exact len_any qa
theorem bLen (h : Duo u v n A B W) : Calls Try.prog 19 #[.pointer (some ⟨v.heap.size + 1, 0, none⟩)] W fun e w' => e = .returned (.int .i64 B.length) ∧ W = w' := by
  obtain ⟨ga, gb, qa, qb, hd⟩ := h.two
  exact len_any qb
theorem Duo.lenB (h : Duo u v n A B W) : B.length ≤ 1000000 ∧ Nd B := by
  obtain ⟨ga, gb, qa, qb, hd⟩ := h.two
  have := qb.len
  exact ⟨by omega, qb.nd⟩
end
theorem drop_drop (R : List Job) (a b : Int) : dropR (dropR R a) b = dropR (dropR R b) a := by
  unfold dropR
  rw [List.filter_filter, List.filter_filter]
  congr 1
  funext y
  rw [Bool.and_comm]
theorem drop_same (R : List Job) (a : Int) : dropR (dropR R a) a = dropR R a := by
  unfold dropR
  rw [List.filter_filter]
  congr 1
  funext y
  simp
theorem getR_drop (R : List Job) (a : Int) : getR (dropR R a) a = none := by
  rw [getR_none]
  unfold dropR
  intro y hy
  have := (List.mem_filter.1 hy).2
  simpa using this
theorem nd_drop {R : List Job} (h : Nd R) (a : Int) : Nd (dropR R a) := List.Pairwise.sublist List.filter_sublist h
/-- One step of the law's loop. -/
theorem drops_step {S : List Job} {key : Int} (hS : S ≠ []) : nextIs S = true ∧ (restR S).length < S.length ∧ ((nextR S).k = key → dropR (restR S) key = dropR S key) ∧ ((nextR S).k ≠ key → nextIs (dropR S key) = true ∧ nextR (dropR S key) = nextR S ∧ restR (dropR S key) = dropR (restR S) key) := by
  have e1 : nextR S = minR S := if_neg hS
  have e2 : restR S = dropR S (minR S).k := if_neg hS
  have hm := minR_mem hS
  refine ⟨decide_eq_true hS, ?_, fun e => ?_, fun e => ?_⟩
  · rw [e2]
    unfold dropR
    refine Nat.lt_of_le_of_ne (List.length_filter_le _ _) fun h => ?_
    have := List.length_filter_eq_length_iff.1 h _ hm
    simp at this
  · rw [e2, ← e, e1, drop_same]
  · rw [e1] at e
    have hmem : minR S ∈ dropR S key := by unfold dropR; exact List.mem_filter.2 ⟨hm, by simpa using e⟩
    have hne : dropR S key ≠ [] := List.ne_nil_of_mem hmem
    have e3 : minR (dropR S key) = minR S := by
      refine (least_eq hmem fun y hy => ?_).symm
      unfold dropR at hy
      exact minR_least y (List.mem_filter.1 hy).1
    refine ⟨decide_eq_true hne, ?_, ?_⟩
    · unfold nextR; rw [if_neg hne, if_neg hS, e3]
    · unfold restR; rw [if_neg hne, if_neg hS, e3, drop_drop]
theorem drops_no (a : Option Addr) (cap : Nat) (l : List Job) (hl : l.length ≤ 9223372036854775807) (key : Int) (hno : 200 < l.length) (w : World) :
    Calls Try.prog 5 #[.slice a l.length cap, .int .i64 key] w fun e w' => e = .returned (.bool true) ∧ Below w.heap.size w w' := by
  have haw := awake_any
  generalize l.length = len at *
  go_enter Try.func5, Try.ntmps5
  go_wp2_with (go_at_call 8; refine (haw _).mono ?_; rintro e w1 ⟨rfl, hb1⟩)
  go_ret
  exact ⟨rfl, hb1⟩
set_option maxHeartbeats 4000000 in
set_option maxRecDepth 100000 in
theorem drops_ok (a : Option Addr) (cap : Nat) (l : List Job) (hl : l.length ≤ 200) (key : Int) (hk : InI key) (w : World) (hr : RdJ w.heap.size w a l) :
    Calls Try.prog 5 #[.slice a l.length cap, .int .i64 key] w fun e w' => e = .returned (.bool true) ∧ Below w.heap.size w w' := by
  have haw := awake_any
  have hnw := fun W (hW : Below w.heap.size w W) => newP a cap l (by omega) W ((hr.below hW (Nat.le_refl _)).mono hW.size)
  have HN := Lib.hid hnw
  have HN2 := Lib.hid hnw
  have hat := fun u v W (h : Duo u v l.length (allR l) (allR l) W) => aAt h key hk
  have hd1 := fun u v W (h : Duo u v l.length (allR l) (allR l) W) => aDrop h key hk
  have hd2 := fun u v W (h : Duo u v l.length (dropR (allR l) key) (allR l) W) => aDrop h key hk
  simp only [getR_drop, drop_same, Option.isSome_none] at hd2
  obtain ⟨R, hR⟩ : ∃ R, allR l = R := ⟨_, rfl⟩
  rw [hR] at HN HN2 hat hd1 hd2
  clear hnw hr hR
  obtain ⟨len, hlen⟩ : ∃ len, l.length = len := ⟨_, rfl⟩
  rw [hlen] at hl HN HN2 hat hd1 hd2 ⊢
  generalize getR R key = G at *
  have HAT := Lib.hid hat
  have HD1 := Lib.hid hd1
  have HD2 := Lib.hid hd2
  have T1 : True := trivial
  have T2 : True := trivial
  clear hat hd1 hd2 hlen
  go_enter Try.func5, Try.ntmps5
  go_wp2_with (first
    | (go_at_call 8; refine (haw _).mono ?_; rintro e w1 ⟨rfl, hb1⟩; have HB1 := Lib.hid hb1; clear hb1)
    | (go_at_call 9; have t1 := T1; clear T1 t1; ((with_reducible refine (HN.out _ HB1.out).mono ?_); rintro e w2 ⟨rfl, hq⟩); have Q2 := Lib.hid hq; have HB2 := Lib.hid (HB1.out.trans (hq.bel.mono HB1.out.size)); clear hq)
    | (go_at_call 9; ((with_reducible refine (HN2.out _ HB2.out).mono ?_); rintro e w3 ⟨rfl, hq⟩); have Q3 := Lib.hid (Duo.mk2 Q2.out hq); clear hq)
    | (go_at_call 17; ((with_reducible refine (HAT.out _ _ _ Q3.out).mono ?_); rintro e w4 ⟨rfl, hq⟩); have Q4 := Lib.hid hq; clear hq)
    | (go_at_call 15; have t2 := T2; clear T2 t2; ((with_reducible refine (HD1.out _ _ _ Q4.out).mono ?_); rintro e w5 ⟨rfl, hq⟩); have Q5 := Lib.hid hq; clear hq)
    | (go_at_call 15; ((with_reducible refine (HD2.out _ _ _ Q5.out).mono ?_); rintro e w6 ⟨rfl, hq⟩); have Q6 := Lib.hid hq; clear hq))
  clear HAT HD1 HD2 HN HN2 haw Q2 Q3 Q4 Q5
  go_loopg [12] R.length (fun gg _ wr => ∃ S : List Job, S.length ≤ gg ∧ Hid (Duo w1 w2 len (dropR S key) S wr))
  case atStart => exact ⟨R, Nat.le_refl _, Q6⟩
  case round =>
    clear Q6
    obtain ⟨S, hS, H⟩ := hrel
    have hln := bLen H.out
    have hbig := H.out.lenB.1
    by_cases hne : S = []
    · subst hne
      have hla := fun W (h : Duo w1 w2 len (dropR [] key) [] W) => aLen h
      rw [show (dropR [] key).length = 0 from rfl] at hla
      rw [show ([] : List Job).length = 0 from rfl] at hln
      rw [show ((0 : Nat) : Int) = 0 from rfl] at hla hln
      go_wp2_with (first
        | (go_at_call 19; ((with_reducible refine hln.mono ?_); rintro e w7 ⟨rfl, rfl⟩))
        | (go_at_call 19; ((with_reducible refine (hla _ H.out).mono ?_); rintro e w7 ⟨rfl, rfl⟩)))
      go_ret
      exact ⟨rfl, HB1.out.trans (H.out.bel.mono HB1.out.size)⟩
    · obtain ⟨f1, f2, f3, f4⟩ := drops_step (key := key) hne
      obtain ⟨sl, hsl⟩ : ∃ sl, S.length = sl + 1 := ⟨S.length - 1, by have := List.length_pos_iff.2 hne; omega⟩
      have hnx := bNext H.out
      have hanx := fun W (h : Duo w1 w2 len (dropR S key) (restR S) W) => aNext h
      rw [f1] at hnx
      rw [hsl] at hln hS hbig
      have hgs : (restR S).length < gk := by omega
      by_cases hj : (nextR S).k = key
      · have f3 := f3 hj
        have hgo : ∀ W, Duo w1 w2 len (dropR S key) (restR S) W → Duo w1 w2 len (dropR (restR S) key) (restR S) W := fun W h => by rw [f3]; exact h
        have HGO := Lib.hid hgo
        have HGS := Lib.hid hgs
        generalize restR S = S' at *
        generalize nextR S = x at *
        obtain ⟨jk, ja⟩ := x
        simp only at hj hnx
        subst hj
        clear f1 f2 f3 f4 hne hanx hgo hgs hS hsl H
        go_wp2_with (first
          | (go_at_call 19; ((with_reducible refine hln.mono ?_); rintro e w7 ⟨rfl, rfl⟩))
          | (go_at_call 13; ((with_reducible refine hnx.mono ?_); rintro e w8 ⟨rfl, hq, hkq⟩); have Q8 := Lib.hid (hq.below ((Below.refl _ _).alloc (Nat.le_refl _) (.cells #[.int .i64 jk, .int .i64 ja] 30))); clear hq hkq))
        go_roundg S'.length
        case measure => exact HGS.out
        case rel => exact ⟨S', Nat.le_refl _, HGO.out _ Q8.out⟩
      · obtain ⟨g1, g2, g3⟩ := f4 hj
        rw [g1, g2, g3] at hanx
        have HGS := Lib.hid hgs
        generalize restR S = S' at *
        generalize nextR S = x at *
        obtain ⟨jk, ja⟩ := x
        simp only at hj hnx hanx
        have hj : (jk == key) = false := by simpa using hj
        have HAN := Lib.hid hanx
        clear f1 f2 f3 f4 g1 g2 g3 hne hanx hgs hS hsl H
        have T3 : True := trivial
        go_wp2_with (first
          | (go_at_call 19; ((with_reducible refine hln.mono ?_); rintro e w7 ⟨rfl, rfl⟩))
          | (go_at_call 13; have t3 := T3; clear T3 t3; ((with_reducible refine hnx.mono ?_); rintro e w8 ⟨rfl, hq, hkq⟩); have Q8 := Lib.hid (hq.below ((Below.refl _ _).alloc (Nat.le_refl _) (.cells #[.int .i64 jk, .int .i64 ja] 30))); have BX := Lib.hid (BxJ.new 30 w8 ⟨jk, ja⟩); clear hq hkq)
          | (go_at_call 13; ((with_reducible refine (HAN.out _ Q8.out).mono ?_); rintro e w9 ⟨rfl, hq, hkq⟩); have Q9 := Lib.hid (hq.below ((Below.refl _ _).alloc (Nat.le_refl _) (.cells #[.int .i64 jk, .int .i64 ja] 30))); have bx1 := BX.out.keep (by decide) (by decide) hkq; have bx2 := (bx1.same (heap_alloc_old w9 (.cells #[.int .i64 jk, .int .i64 ja] 30) bx1.lt)).cells; have bx3 := (BxJ.new 30 w9 ⟨jk, ja⟩).cells; obtain ⟨b0, b1, _, _⟩ := bx2; obtain ⟨c0, c1, _, _⟩ := bx3; simp only at b0 b1 c0 c1; clear hq hkq bx1))
        go_roundg S'.length
        case measure => exact HGS.out
        case rel => exact ⟨S', Nat.le_refl _, Q9.out⟩
theorem drops_walk (a : Option Addr) (cap : Nat) (l : List Job) (hl : l.length ≤ 9223372036854775807) (key : Int) (hk : InI key) (w : World) (hr : RdJ w.heap.size w a l) :
    Calls Try.prog 5 #[.slice a l.length cap, .int .i64 key] w fun e w' => e = .returned (.bool true) ∧ Below w.heap.size w w' := by
  by_cases h : l.length ≤ 200
  · exact drops_ok a cap l h key hk w hr
  · exact drops_no a cap l hl key (by omega) w
end Go.Proofs.Ytaaaefoanjggcaa
