/-
  THE DOCUMENT's QUEUE: a key is dropped; the next job; a new queue.
-/
import Derived.Test.YtaaaefoanjggcaaQRTake
import Derived.Test.YtaaaefoanjggcaaQRIs
namespace Go.Proofs.Ytaaaefoanjggcaa
set_option linter.unusedSimpArgs false
set_option linter.unusedVariables false
open Go.RowKit
section
variable {base rb : Nat} {R : List Job} {w : World}
theorem rdrop_any (h : RefP w base rb R) (key : Int) :
    Calls Try.prog 16 #[.pointer (some ⟨rb, 0, none⟩), .int .i64 key] w fun e w' => e = .returned (.bool (getR R key).isSome) ∧ REnd [41] w base rb (dropR R key) w' := by
  have hpl := rplace_any w h key
  cases hg : getR R key with
  | none =>
    rw [plcV_none hg] at hpl
    have he : REnd [41] w base rb (dropR R key) w := by
      rw [dropR_not (getR_none.1 hg)]
      exact h.stay (Below.refl _ _)
    have HE := Lib.hid he
    simp only [Option.isSome_none]
    clear h hg he
    go_enter Try.func16, Try.ntmps16
    go_wp2_with (go_at_call 23; refine hpl.mono ?_; rintro e w1 ⟨rfl, rfl⟩)
    go_ret
    exact ⟨rfl, HE.out⟩
  | some x =>
    rw [plcV_some hg] at hpl
    obtain ⟨h1, h2⟩ := plc_spec.1 x hg
    have htk := rtake_any h _ h1
    rw [h2] at htk
    have hlen : R.length ≤ 1000 := by obtain ⟨v, h⟩ := h; exact h.len
    have hp0 : plc R key ≤ 1000 := by omega
    simp only [Option.isSome_some]
    generalize plc R key = p at *
    simp only at htk
    clear h hg h1 h2
    go_enter Try.func16, Try.ntmps16
    go_wp2_with (first
      | (go_at_call 23; refine hpl.mono ?_; rintro e w1 ⟨rfl, rfl⟩)
      | (go_at_call 25; refine htk.mono ?_; rintro e w2 ⟨rfl, he, _⟩))
    go_ret
    exact ⟨rfl, he⟩
theorem rput_any (h : RefP w base rb R) (x : Job) (hx : InI x.k) (hl : R.length < 1000) :
    Calls Try.prog 12 #[.pointer (some ⟨rb, 0, none⟩), .agg #[.int .i64 x.k, .int .i64 x.a]] w fun e w' => e = .returned (.bool (newsR R x)) ∧ REnd [41, 30] w base rb (putR R x) w' := by
  cases hg : getR R x.k with
  | none =>
    obtain ⟨e1, e2⟩ := putR_none hg
    rw [e1, e2]
    exact (rput_new h x hx hg hl).mono fun e w' ⟨he, a, b, c⟩ => ⟨he, a, b, c.more (by simp)⟩
  | some n => exact rput_is h x hx hg
/-- The end of Next: the result's box is written. -/
theorem rnext_end {w2 w3 : World} {R' : List Job} {x : Job} (hw : w2 = w.alloc (.cells #[.int .i64 0, .int .i64 0] 30)) {W : World} (hW : Below w2.heap.size w2 W) (hb : base ≤ w.heap.size) (hrb : rb < w.heap.size) (he : REnd [41] W base rb R' w3) (hf : RFar W base rb R' w3) :
    BxJ 30 w3 w.heap.size ⟨0, 0⟩ ∧ REnd [41] w base rb R' ((w3.setCell ⟨w.heap.size, 0, none⟩ (.int .i64 x.k)).setCell ⟨w.heap.size, 1, none⟩ (.int .i64 x.a)) := by
  subst hw
  have hb0 : BxJ 30 (w.alloc (.cells #[.int .i64 0, .int .i64 0] 30)) w.heap.size ⟨0, 0⟩ := BxJ.new 30 w ⟨0, 0⟩
  have hb1 : BxJ 30 W w.heap.size ⟨0, 0⟩ := hb0.same (hW.block _ hb0.lt)
  have hb3 : BxJ 30 w3 w.heap.size ⟨0, 0⟩ := he.2.2.cells (by decide) hb1
  have hsz : w.heap.size < W.heap.size := hb1.lt
  refine ⟨hb3, ?_, ?_, ?_⟩
  · obtain ⟨v, hr, hg⟩ := hf
    refine ⟨v, ⟨?_, hr.own.same fun g hgb => ?_, hr.le, hr.nd, hr.len, by have := hr.base; simp; omega, hr.keys⟩⟩
    · rw [heap_setCell_other _ _ _ _ (show rb ≠ w.heap.size by omega), heap_setCell_other _ _ _ _ (show rb ≠ w.heap.size by omega)]
      exact hr.box
    · have := hg g hgb
      rw [heap_setCell_other _ _ _ _ (show g ≠ w.heap.size by omega), heap_setCell_other _ _ _ _ (show g ≠ w.heap.size by omega)]
  · have h1 : Below base w W := ((Below.refl w.heap.size w).alloc (Nat.le_refl _) _ |>.trans (hW.mono (by simp))).mono hb
    exact ((h1.trans he.2.1).setCell (p := ⟨w.heap.size, 0, none⟩) hb _).setCell (p := ⟨w.heap.size, 1, none⟩) hb _
  · have hbw : Below w.heap.size w W := (Below.refl w.heap.size w).alloc (Nat.le_refl _) _ |>.trans (hW.mono (by simp))
    have k1 := (KeepO.below hbw).trans he.2.2
    refine ⟨by have := k1.1; simpa using this, fun i o ho hc => ?_⟩
    have hi : i < w.heap.size := (Array.getElem?_eq_some_iff.1 hc).1
    rw [heap_setCell_other _ _ _ _ (show i ≠ w.heap.size by omega), heap_setCell_other _ _ _ _ (show i ≠ w.heap.size by omega)]
    exact k1.2 i o ho hc
set_option maxHeartbeats 4000000 in
set_option maxRecDepth 100000 in
theorem rnext_any (h : RefP w base rb R) :
    Calls Try.prog 14 #[.pointer (some ⟨rb, 0, none⟩)] w fun e w' => e = .returned (.tuple #[.agg #[.int .i64 (nextR R).k, .int .i64 (nextR R).a], .bool (nextIs R)]) ∧ REnd [41] w base rb (restR R) w' := by
  have hal : Below w.heap.size w (w.alloc (.cells #[.int .i64 0, .int .i64 0] 30)) := (Below.refl _ _).alloc (Nat.le_refl _) _
  have hH : ∀ W, Below w.heap.size w W → RefP W base rb R := fun W hW => h.below hW
  have h0 := h
  obtain ⟨v, h⟩ := h
  obtain ⟨c0, f0, hrb⟩ := h.cells
  have hbase := h.base
  have hlen := h.len
  have hnd := h.nd
  obtain ⟨a, c, rfl⟩ := h.own.shape
  by_cases hR : R = []
  · subst hR
    have HE : Hid (REnd [41] w base rb [] (w.alloc (.cells #[.int .i64 0, .int .i64 0] 30))) := h0.stay hal
    have HB := Lib.hid (BxJ.new 30 w ⟨0, 0⟩)
    rw [show nextR [] = ⟨0, 0⟩ from rfl, show nextIs [] = false from rfl, show restR [] = [] from rfl]
    rw [show (([] : List Job).length) = 0 from rfl] at c0
    clear h h0 hH hal hlen
    go_enter Try.func14, Try.ntmps14
    go_wp2
    refine bodyPost_ret (results_job2 rfl rfl HB.out) rfl ?_
    exact ⟨rfl, HE.out⟩
  · have e1 : nextR R = minR R := if_neg hR
    have e2 : nextIs R = true := decide_eq_true hR
    have e3 : restR R = dropR R (minR R).k := if_neg hR
    rw [e1, e2, e3]
    have hpos : 0 < R.length := List.length_pos_iff.2 hR
    have hcl : ∀ W, Below w.heap.size w W → W.cell? ⟨rb, 0, none⟩ = some (.slice a R.length c) := fun W hW => (h.below hW).cells.1
    obtain ⟨b, rfl, hcap⟩ : ∃ b, a = some ⟨b, 0, none⟩ ∧ R.length ≤ c := by
      rcases h.own.form with ⟨_, e⟩ | ⟨b, cap, e, _, _, hcap, _⟩
      · exact absurd e hR
      · injection e with e1 e2 e3
        subst e1 e3
        exact ⟨b, rfl, hcap⟩
    have hce : ∀ W, Below w.heap.size w W → ∀ j, j < R.length → W.cell? ⟨b, j * 2, none⟩ = some (.int .i64 (at' R j).k) ∧ W.cell? ⟨b, j * 2 + 1, none⟩ = some (.int .i64 (at' R j).a) := fun W hW j hj => (h.below hW).own.cell (at_some hj)
    have htk : ∀ W, Below w.heap.size w W → ∀ p, p < R.length → (∀ m, m < R.length → ¬ lessJ (at' R m) (at' R p)) → Calls Try.prog 25 #[.pointer (some ⟨rb, 0, none⟩), .int .i64 p] W fun e w' => e = .returned (.agg #[.int .i64 (minR R).k, .int .i64 (minR R).a]) ∧ REnd [41] W base rb (dropR R (minR R).k) w' ∧ RFar W base rb (dropR R (minR R).k) w' := fun W hW p hp hm => by
      have em : at' R p = minR R := least_eq (at_mem hp) fun y hy => by
        obtain ⟨m, hml, rfl⟩ := mem_at hy
        exact hm m hml
      rw [← em]
      exact rtake_any (hH W hW) p hp
    generalize minR R = x at *
    generalize dropR R x.k = R' at *
    have hfin := fun (W w3 : World) (hW : Below (w.alloc (.cells #[.int .i64 0, .int .i64 0] 30)).heap.size (w.alloc (.cells #[.int .i64 0, .int .i64 0] 30)) W) he hf => rnext_end (R' := R') (x := x) (w2 := w.alloc (.cells #[.int .i64 0, .int .i64 0] 30)) (w3 := w3) rfl hW hbase hrb he hf
    obtain ⟨len, hl⟩ : ∃ len, R.length = len := ⟨_, rfl⟩
    rw [hl] at c0 hlen hcl hce htk hcap hpos
    have HCL := Lib.hid hcl
    have HCE := Lib.hid hce
    have HTK := Lib.hid htk
    have HFIN := Lib.hid hfin
    have HAL := Lib.hid hal
    clear h h0 hH hcl hce htk hl hR e1 e2 e3 hnd hal hfin
    have hz : ((len : Int) == 0) = false := by simp only [beq_eq_false_iff_ne]; omega
    go_enter Try.func14, Try.ntmps14
    go_wp2
    have HB0 := Lib.hid (Below.refl (w.alloc (.cells #[.int .i64 0, .int .i64 0] 30)).heap.size (w.alloc (.cells #[.int .i64 0, .int .i64 0] 30)))
    generalize w.alloc (.cells #[.int .i64 0, .int .i64 0] 30) = w2 at *
    go_loopw [4, 5] (fun kv iv wr => ∃ k i : Nat, kv = .int .i64 k ∧ iv = .int .i64 i ∧ k < i ∧ i ≤ len ∧ Hid (Below w2.heap.size w2 wr) ∧ Hid (∀ m, m < i → ¬ lessJ (at' R m) (at' R k))) (fun _ iv _ => len - (intOf iv).toNat)
    case atStart => exact ⟨0, 1, rfl, rfl, by omega, by omega, HB0, fun m hm => by obtain rfl : m = 0 := (by omega); exact lessJ_irrefl _⟩
    case round =>
      obtain ⟨k, i, rfl, rfl, hki, hil, HB, HM⟩ := hrel
      clear HB0
      have hbw := HAL.out.trans (HB.out.mono HAL.out.size)
      have t1 := HCL.out _ hbw
      by_cases hlt : i < len
      · obtain ⟨x0, x1⟩ := HCE.out _ hbw i hlt
        obtain ⟨y0, y1⟩ := HCE.out _ hbw k (by omega)
        have hnew : lessJ (at' R i) (at' R k) → ∀ m, m < i + 1 → ¬ lessJ (at' R m) (at' R i) := fun h m hm => by
          by_cases e : m = i
          · rw [e]; exact lessJ_irrefl _
          · exact fun h2 => HM.out m (by omega) (lessJ_trans h2 h)
        have hold : ¬ lessJ (at' R i) (at' R k) → ∀ m, m < i + 1 → ¬ lessJ (at' R m) (at' R k) := fun h m hm => by
          by_cases e : m = i
          · rw [e]; exact h
          · exact HM.out m (by omega)
        have HNEW := Lib.hid hnew
        have HOLD := Lib.hid hold
        obtain ⟨ik, hik⟩ : ∃ z, (at' R i).k = z := ⟨_, rfl⟩
        obtain ⟨ia, hia⟩ : ∃ z, (at' R i).a = z := ⟨_, rfl⟩
        obtain ⟨kk, hkk⟩ : ∃ z, (at' R k).k = z := ⟨_, rfl⟩
        obtain ⟨ka, hka⟩ : ∃ z, (at' R k).a = z := ⟨_, rfl⟩
        have hless : lessJ (at' R i) (at' R k) ↔ (ia < ka ∨ (ia = ka ∧ ik < kk)) := by unfold lessJ; rw [hik, hia, hkk, hka]
        rw [hik] at x0
        rw [hia] at x1
        rw [hkk] at y0
        rw [hka] at y1
        have HLS := Lib.hid hless
        clear hnew hold hik hia hkk hka hless hbw
        by_cases q1 : ia < ka
        · have HY := Lib.hid (HNEW.out (HLS.out.2 (.inl q1)))
          go_wp2
          go_quiet (fail)
          have HB3 := Lib.hid (bel_drawn HB.out nq)
          generalize wr.drewN nq = w4 at *
          go_wp2
          go_roundw
          case rel => exact ⟨i, i + 1, rfl, by go_num, by omega, by omega, HB3, HY⟩
          case measure => simp [intOf]; omega
        · have q1' : decide (ia < ka) = false := decide_eq_false q1
          by_cases q2 : ia = ka
          · by_cases q3 : ik < kk
            · have HY := Lib.hid (HNEW.out (HLS.out.2 (.inr ⟨q2, q3⟩)))
              subst q2
              go_wp2
              go_quiet (fail)
              have HB3 := Lib.hid (bel_drawn HB.out nq)
              generalize wr.drewN nq = w4 at *
              go_wp2
              go_roundw
              case rel => exact ⟨i, i + 1, rfl, by go_num, by omega, by omega, HB3, HY⟩
              case measure => simp [intOf]; omega
            · have HY := Lib.hid (HOLD.out (fun h => by rcases HLS.out.1 h with h | ⟨_, h⟩ <;> omega))
              have q3' : decide (ik < kk) = false := decide_eq_false q3
              subst q2
              go_wp2
              go_quiet (fail)
              have HB3 := Lib.hid (bel_drawn HB.out nq)
              generalize wr.drewN nq = w4 at *
              go_wp2
              go_roundw
              case rel => exact ⟨k, i + 1, rfl, by go_num, by omega, by omega, HB3, HY⟩
              case measure => simp [intOf]; omega
          · have HY := Lib.hid (HOLD.out (fun h => by rcases HLS.out.1 h with h | ⟨h, _⟩ <;> omega))
            have q2' : (ia == ka) = false := by simpa using q2
            go_wp2
            go_quiet (fail)
            have HB3 := Lib.hid (bel_drawn HB.out nq)
            generalize wr.drewN nq = w4 at *
            go_wp2
            go_roundw
            case rel => exact ⟨k, i + 1, rfl, by go_num, by omega, by omega, HB3, HY⟩
            case measure => simp [intOf]; omega
      · obtain rfl : i = len := by omega
        have htake := HTK.out _ hbw k (by omega) HM.out
        clear hbw
        go_wp2_with (go_at_call 25; refine htake.mono ?_; rintro e w5 ⟨rfl, he, hf⟩; obtain ⟨hb, hd⟩ := HFIN.out _ _ HB.out he hf; obtain ⟨b0, b1, b2, b3⟩ := hb.cells; have HBS := Lib.hid (hb.set x); have HD := Lib.hid hd; clear hb hd he hf)
        refine bodyPost_ret (results_job2 rfl rfl HBS.out) rfl ?_
        exact ⟨rfl, HD.out⟩
end
end Go.Proofs.Ytaaaefoanjggcaa
