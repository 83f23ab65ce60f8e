/-
  QueueMixed: the law's walk.
-/
import Derived.Test.YtaaaefoanjggcaaQLaw
namespace Go.Proofs.Ytaaaefoanjggcaa
set_option linter.unusedSimpArgs false
set_option linter.unusedVariables false
open Go.RowKit
theorem next_facts {R : List Job} (h : R ≠ []) : nextIs R = true ∧ ∀ key v, getR (restR R) key = some v → ¬ lessJ ⟨key, v⟩ (nextR R) ∧ key ≠ (nextR R).k := by
  refine ⟨decide_eq_true h, fun key v hg => ?_⟩
  have e1 : nextR R = minR R := if_neg h
  have e2 : restR R = dropR R (minR R).k := if_neg h
  rw [e2] at hg
  rw [e1]
  have hm := getR_some hg
  unfold dropR at hm
  obtain ⟨h1, h2⟩ := List.mem_filter.1 hm
  exact ⟨minR_least _ h1, by simpa using h2⟩
theorem mixed_no (a : Option Addr) (cap : Nat) (l : List Job) (hl : l.length ≤ 9223372036854775807) (t : Int) (hno : 200 < l.length ∨ t < 0 ∨ 300 < t) (w : World) :
    Calls Try.prog 7 #[.slice a l.length cap, .int .i64 t] w fun e w' => e = .returned (.bool true) ∧ Below w.heap.size w w' := by
  have haw := awake_any
  generalize l.length = len at *
  by_cases h1 : 200 < len
  · clear hno
    go_enter Try.func7, Try.ntmps7
    go_wp2_with (go_at_call 8; refine (haw _).mono ?_; rintro e w1 ⟨rfl, hb1⟩)
    go_ret
    exact ⟨rfl, hb1⟩
  · by_cases h2 : t < 0
    · clear hno
      go_enter Try.func7, Try.ntmps7
      go_wp2_with (go_at_call 8; refine (haw _).mono ?_; rintro e w1 ⟨rfl, hb1⟩)
      go_ret
      exact ⟨rfl, hb1⟩
    · have h3 : 300 < t := by omega
      clear hno
      go_enter Try.func7, Try.ntmps7
      go_wp2_with (go_at_call 8; refine (haw _).mono ?_; rintro e w1 ⟨rfl, hb1⟩)
      go_ret
      exact ⟨rfl, hb1⟩
set_option maxHeartbeats 4000000 in
set_option maxRecDepth 100000 in
theorem mixed_ok (a : Option Addr) (cap : Nat) (l : List Job) (hl : l.length ≤ 200) (t : Int) (ht0 : 0 ≤ t) (ht1 : t ≤ 300) (w : World) (hr : RdJ w.heap.size w a l) :
    Calls Try.prog 7 #[.slice a l.length cap, .int .i64 t] w fun e w' => e = .returned (.bool true) ∧ Below w.heap.size w w' := by
  have haw := awake_any
  have hnw := fun W (hW : Below w.heap.size w W) => newP a cap l (by omega) W ((hr.below hW (Nat.le_refl _)).mono hW.size)
  have HN := Lib.hid hnw
  have HR := Lib.hid hr
  obtain ⟨len, hlen⟩ : ∃ len, l.length = len := ⟨_, rfl⟩
  have HL := Lib.hid hlen
  rw [hlen] at hl hnw ⊢
  rw [hlen] at HN
  clear hnw hr hlen
  go_enter Try.func7, Try.ntmps7
  go_wp2_with (first
    | (go_at_call 8; refine (haw _).mono ?_; rintro e w1 ⟨rfl, hb1⟩; have HB1 := Lib.hid hb1; clear hb1)
    | (go_at_call 9; refine (HN.out _ HB1.out).mono ?_; rintro e w2 ⟨rfl, hq⟩; have Q2 := Lib.hid hq; clear hq))
  clear HN haw
  go_loopw [7] (fun i wr => ∃ (k : Nat) (R : List Job), i = .int .i64 k ∧ (k : Int) ≤ t ∧ Hid (Newed w1 len R wr)) (fun i _ => t.toNat - (intOf i).toNat)
  case atStart => exact ⟨0, _, rfl, by omega, Q2⟩
  case round =>
    obtain ⟨k, R, rfl, hk, HA⟩ := hrel
    clear Q2
    by_cases hlt : (k : Int) < t
    · have hnx := nextP HA.out
      by_cases hR : R = []
      · subst hR
        have hln := fun W (h : Newed w1 len [] W) => lenP h
        rw [show nextR [] = ⟨0, 0⟩ from rfl, show nextIs [] = false from rfl, show restR [] = [] from rfl] at hnx
        rw [show ((([] : List Job).length : Nat) : Int) = 0 from rfl] at hln
        simp only at hnx
        clear HA
        go_wp2_with (first
          | (go_at_call 13; refine hnx.mono ?_; rintro e w3 ⟨rfl, hq, _⟩; have Q3 := Lib.hid (hq.below ((Below.refl _ _).alloc (Nat.le_refl _) (.cells #[.int .i64 0, .int .i64 0] 30))); clear hq)
          | (go_at_call 19; refine (hln _ Q3.out).mono ?_; rintro e w4 ⟨rfl, rfl⟩))
        go_ret
        exact ⟨rfl, HB1.out.trans (Q3.out.bel.mono HB1.out.size)⟩
      · obtain ⟨f1, f2⟩ := next_facts hR
        rw [f1] at hnx
        have hat := fun W key (h : Newed w1 len (restR R) W) (hk : InI key) => atP h key hk
        generalize restR R = R' at *
        generalize nextR R = x at *
        obtain ⟨jk, ja⟩ := x
        simp only at hnx f2
        have HF := Lib.hid f2
        have HAT := Lib.hid hat
        clear f1 f2 hR HA hat
        have hwr : True := trivial
        go_wp2_with (go_at_call 13; refine hnx.mono ?_; rintro e w3 ⟨rfl, hq, _⟩; have Q3 := Lib.hid (hq.below ((Below.refl _ _).alloc (Nat.le_refl _) (.cells #[.int .i64 jk, .int .i64 ja] 30))); have BX := Lib.hid (BxJ.new 30 w3 ⟨jk, ja⟩); clear hq)
        clear hnx
        obtain ⟨w0, hw0⟩ : ∃ w0, w0 = wr := ⟨_, rfl⟩
        clear hw0
        go_loopw [10] (fun i wr => ∃ (m : Nat), i = .int .i64 m ∧ m ≤ len ∧ Hid (Newed w1 len R' wr) ∧ Hid (BxJ 30 wr w3.heap.size ⟨jk, ja⟩)) (fun i _ => len - (intOf i).toNat)
        case atStart => exact ⟨0, rfl, Nat.zero_le _, Q3, BX⟩
        case round =>
          obtain ⟨m, rfl, hm, HA, HX⟩ := hrel
          clear Q3 BX
          by_cases hml : m < len
          · obtain ⟨x, hx⟩ : ∃ x, l[m]? = some x := ⟨_, List.getElem?_eq_getElem (by have := HL.out; omega)⟩
            obtain ⟨⟨hxk, _⟩, b, off, ha, hb, x0, x1⟩ := HR.out m x hx
            subst ha
            have hbl := HB1.out.trans (HA.out.bel.mono HB1.out.size)
            have y0 := keepC hbl hb x0
            have hct := HAT.out _ x.k HA.out hxk
            have hkp : ∀ W W' : World, Below w.heap.size w W → KQ W W' → True := fun _ _ _ _ => trivial
            have hff := HF.out x.k
            obtain ⟨xk, xa⟩ := x
            simp only at *
            have X0 := x0
            clear hx x0 x1 hkp
            cases hg : getR R' xk with
            | none =>
              rw [hg] at hct
              simp only [Option.getD_none, Option.isSome_none] at hct
              clear hff hg
              by_cases e1 : xk = jk
              · have e1 := e1.symm
                subst e1
                go_wp2_with (go_at_call 17; refine hct.mono ?_; rintro e w5 ⟨rfl, hq, hkq⟩; have Q5 := Lib.hid hq; have bx5 := HX.out.keep (by decide) (by decide) hkq; have BX5 := Lib.hid bx5; obtain ⟨b0, b1, _, _⟩ := bx5.cells; have z0 := keepC (HB1.out.trans (hq.bel.mono HB1.out.size)) hb X0; simp only at b0 b1; clear hq hkq bx5)
                go_quiet (fail)
                have hbd := bel_drawn (Below.refl w5.heap.size w5) nq
                have Q6 := Lib.hid (Q5.out.below hbd)
                have BX6 : Hid (BxJ 30 (w5.drewN nq) w3.heap.size ⟨jk, ja⟩) := BX5.out
                clear hbd Q5 BX5
                generalize w5.drewN nq = w6 at *
                go_wp2
                go_roundw
                case rel => exact ⟨m + 1, by go_num, by omega, Q6, BX6⟩
                case measure => simp [intOf]; omega
              · have e1 : (xk == jk) = false := by simpa using e1
                go_wp2_with (go_at_call 17; refine hct.mono ?_; rintro e w5 ⟨rfl, hq, hkq⟩; have Q5 := Lib.hid hq; have bx5 := HX.out.keep (by decide) (by decide) hkq; have BX5 := Lib.hid bx5; obtain ⟨b0, b1, _, _⟩ := bx5.cells; have z0 := keepC (HB1.out.trans (hq.bel.mono HB1.out.size)) hb X0; simp only at b0 b1; clear hq hkq bx5)
                go_quiet (fail)
                have hbd := bel_drawn (Below.refl w5.heap.size w5) nq
                have Q6 := Lib.hid (Q5.out.below hbd)
                have BX6 : Hid (BxJ 30 (w5.drewN nq) w3.heap.size ⟨jk, ja⟩) := BX5.out
                clear hbd Q5 BX5
                generalize w5.drewN nq = w6 at *
                go_wp2
                go_roundw
                case rel => exact ⟨m + 1, by go_num, by omega, Q6, BX6⟩
                case measure => simp [intOf]; omega
            | some v =>
              rw [hg] at hct
              simp only [Option.getD_some, Option.isSome_some] at hct
              obtain ⟨g1, g2⟩ := hff v hg
              clear hff hg
              have e1 : (xk == jk) = false := by simpa using g2
              by_cases e2 : v = ja
              · have e2 := e2.symm
                subst e2
                have e3 : decide (xk < jk) = false := decide_eq_false (fun h => g1 (.inr ⟨rfl, h⟩))
                clear g1 g2
                go_wp2_with (go_at_call 17; refine hct.mono ?_; rintro e w5 ⟨rfl, hq, hkq⟩; have Q5 := Lib.hid hq; have bx5 := HX.out.keep (by decide) (by decide) hkq; have BX5 := Lib.hid bx5; obtain ⟨b0, b1, _, _⟩ := bx5.cells; have z0 := keepC (HB1.out.trans (hq.bel.mono HB1.out.size)) hb X0; simp only at b0 b1; clear hq hkq bx5)
                go_quiet (fail)
                have hbd := bel_drawn (Below.refl w5.heap.size w5) nq
                have Q6 := Lib.hid (Q5.out.below hbd)
                have BX6 : Hid (BxJ 30 (w5.drewN nq) w3.heap.size ⟨jk, ja⟩) := BX5.out
                clear hbd Q5 BX5
                generalize w5.drewN nq = w6 at *
                go_wp2
                go_roundw
                case rel => exact ⟨m + 1, by go_num, by omega, Q6, BX6⟩
                case measure => simp [intOf]; omega
              · have e4 : decide (v < ja) = false := decide_eq_false (fun h => g1 (.inl h))
                have e2 : (v == ja) = false := by simpa using e2
                clear g1 g2
                go_wp2_with (go_at_call 17; refine hct.mono ?_; rintro e w5 ⟨rfl, hq, hkq⟩; have Q5 := Lib.hid hq; have bx5 := HX.out.keep (by decide) (by decide) hkq; have BX5 := Lib.hid bx5; obtain ⟨b0, b1, _, _⟩ := bx5.cells; have z0 := keepC (HB1.out.trans (hq.bel.mono HB1.out.size)) hb X0; simp only at b0 b1; clear hq hkq bx5)
                go_quiet (fail)
                have hbd := bel_drawn (Below.refl w5.heap.size w5) nq
                have Q6 := Lib.hid (Q5.out.below hbd)
                have BX6 : Hid (BxJ 30 (w5.drewN nq) w3.heap.size ⟨jk, ja⟩) := BX5.out
                clear hbd Q5 BX5
                generalize w5.drewN nq = w6 at *
                go_wp2
                go_roundw
                case rel => exact ⟨m + 1, by go_num, by omega, Q6, BX6⟩
                case measure => simp [intOf]; omega
          · obtain rfl : m = len := by omega
            go_wp2
            go_roundw
            case rel => exact ⟨k + 1, _, by go_num, by omega, HA⟩
            case measure => simp [intOf]; omega
    · have hln := lenP HA.out
      have hle := HA.out.len.1
      have hd : decide ((R.length : Int) ≤ len) = true := decide_eq_true (by omega)
      go_wp2_with (go_at_call 19; refine hln.mono ?_; rintro e w4 ⟨rfl, rfl⟩)
      go_ret
      exact ⟨rfl, HB1.out.trans (HA.out.bel.mono HB1.out.size)⟩
theorem mixed_walk (a : Option Addr) (cap : Nat) (l : List Job) (hl : l.length ≤ 9223372036854775807) (t : Int) (_ : InI t) (w : World) (hr : RdJ w.heap.size w a l) :
    Calls Try.prog 7 #[.slice a l.length cap, .int .i64 t] w fun e w' => e = .returned (.bool true) ∧ Below w.heap.size w w' := by
  by_cases h : 200 < l.length ∨ t < 0 ∨ 300 < t
  · exact mixed_no a cap l hl t h w
  · exact mixed_ok a cap l (by omega) t (by omega) (by omega) w hr
end Go.Proofs.Ytaaaefoanjggcaa
