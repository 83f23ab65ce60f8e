/-
  THE DOCUMENT's TABLE: the longest net of an address.
-/
import Derived.Test.YtpoognkppnplpaaYRPl
import Derived.Test.YtpoognkppnplpaaYFind
namespace Go.Proofs.Ytpoognkppnplpaa
set_option linter.unusedSimpArgs false
set_option linter.unusedVariables false
open Go.RowKit
theorem results_bx3 {fn : Func} {tmps : Array Value} {W : World} {a s t k : Nat} {x y : Value} (hf : fn.results = #[.cell a 25, .tmp s, .tmp t]) (ha : tmps.getD a undef = .pointer (some ⟨k, 0, none⟩)) (h : Bx W k x y) :
    (results fn tmps).run Try.prog W = .ok (.tuple #[.agg #[x, y], tmps.getD s undef, tmps.getD t undef]) W := by
  unfold results
  rw [hf]
  have h0 := run_loadVar_mid W k 0 25 [x, y] _ h.range Try.underlying25 rfl sizePx
  have ha' : tmps[a]?.getD undef = .pointer (some ⟨k, 0, none⟩) := by simpa using ha
  simp [ha', asAddr, h0, Result.andThen_ok]
/-- Of two nets that hold an address the later one is longer. -/
theorem longer {p q : Nat × Int} {a : Nat} (hp : rightP p = true) (hq : rightP q = true) (ip : inP p a = true) (iq : inP q a = true) (h : lessP p q) : p.2 < q.2 := by
  obtain ⟨d, hd, _, _⟩ := right_cases hp
  obtain ⟨e, he, _, _⟩ := right_cases hq
  rw [hd] at hp ip
  rw [he] at hq iq
  have h1 := (in_nat hp a).1 ip
  have h2 := (in_nat hq a).1 iq
  rw [hd, he] at h ⊢
  unfold lessP at h
  simp only at h ⊢
  by_cases hde : d < e
  · omega
  · have := cut_mono a (show e ≤ d by omega)
    omega
/-- Where the loop of Find stands. -/
def BestAt (L : List Ent) (a k : Nat) (best : Int) : Prop :=
  (best = -1 ∧ onL a (L.take k) = []) ∨ ∃ (j : Nat) (x : Ent), best = j ∧ j < k ∧ L[j]? = some x ∧ inP x.1 a = true ∧ (onL a (L.take k)).getLast? = some x
theorem onL_succ {L : List Ent} {a k : Nat} {x : Ent} (h : L[k]? = some x) : onL a (L.take (k + 1)) = onL a (L.take k) ++ if inP x.1 a = true then [x] else [] := by
  unfold onL
  rw [List.take_add_one, h, List.filter_append]
  by_cases hi : inP x.1 a = true
  · rw [if_pos hi]; simp [hi]
  · rw [if_neg hi]; simp [hi]
theorem BestAt.no {L : List Ent} {a k : Nat} {best : Int} {x : Ent} (h : BestAt L a k best) (hx : L[k]? = some x) (hi : inP x.1 a = false) : BestAt L a (k + 1) best := by
  have e := onL_succ (a := a) hx
  rw [if_neg (by rw [hi]; decide), List.append_nil] at e
  rcases h with ⟨h1, h2⟩ | ⟨j, y, h1, h2, h3, h4, h5⟩
  · exact .inl ⟨h1, by rw [e]; exact h2⟩
  · exact .inr ⟨j, y, h1, by omega, h3, h4, by rw [e]; exact h5⟩
theorem BestAt.yes {L : List Ent} {a k : Nat} {x : Ent} (hx : L[k]? = some x) (hi : inP x.1 a = true) : BestAt L a (k + 1) k := by
  have e := onL_succ (a := a) hx
  rw [if_pos hi] at e
  exact .inr ⟨k, x, rfl, by omega, hx, hi, by rw [e]; simp⟩
structure RFdAt (w : World) (L : List Ent) (a k : Nat) (best : Int) (wr : World) : Prop where
  le : k ≤ L.length
  best : BestAt L a k best
  bel : Below w.heap.size w wr
  box : Bx wr w.heap.size (.int .u32 0) (.int .i64 0)
set_option maxHeartbeats 4000000 in
set_option maxRecDepth 100000 in
theorem rfind_any (base rb a : Nat) (ha : a < 4294967296) (room : Int) (L : List Ent) (w : World) (h : RefP w base rb room L) (x : Ent) (is : Bool) (hres : (lastE (onL a L), hasE (onL a L)) = (x, is)) :
    Calls Try.prog 18 #[pt (some rb), .int .u32 a] w fun e w' => e = .returned (.tuple #[.agg #[.int .u32 x.1.1, .int .i64 x.1.2], .int .i64 x.2, .bool is]) ∧ Below w.heap.size w w' := by
  obtain ⟨v, h⟩ := h
  have hat : RFdAt w L a 0 (-1) (w.alloc (.cells #[.int .u32 0, .int .i64 0] 25)) := ⟨Nat.zero_le _, .inl ⟨rfl, rfl⟩, (Below.refl _ _).alloc (Nat.le_refl _) _, Bx.new _ _ _⟩
  have HAT := Lib.hid hat
  obtain ⟨ad, c, hv⟩ := h.shape
  have hlen := h.len
  have hgood := h.good
  obtain ⟨len, hl⟩ : ∃ len, L.length = len := ⟨_, rfl⟩
  rw [hl] at hv hlen
  have HL := Lib.hid hl
  have H := Lib.hid h
  have HRES := Lib.hid hres
  subst hv
  clear hat h hl hres
  unfold pt
  simp only [Option.map_some]
  go_enter Try.func18, Try.ntmps18
  go_wp2
  go_loopw [7, 8] (fun bv i wr => ∃ (k : Nat) (best : Int), i = .int .i64 k ∧ bv = .int .i64 best ∧ Hid (RFdAt w L a k best wr)) (fun _ i _ => len - (intOf i).toNat)
  case atStart => exact ⟨0, -1, rfl, rfl, HAT⟩
  case round =>
    obtain ⟨k, best, rfl, rfl, HA⟩ := hrel
    clear HAT
    have hR := H.out.below HA.out.bel
    obtain ⟨_, r1, _, _, rl⟩ := hR.cells
    have hkl := HA.out.le
    rw [HL.out] at hkl
    by_cases hlt : k < len
    · obtain ⟨y, hy⟩ : ∃ y, L[k]? = some y := ⟨_, List.getElem?_eq_getElem (by have := HL.out; omega)⟩
      obtain ⟨g, had⟩ : ∃ g, ad = some ⟨g, 0, none⟩ := by
        rcases hR.own.form with ⟨e, _⟩ | ⟨g, cap, e, _⟩
        · injection e with _ e2 _; omega
        · injection e with e1 _ _; exact ⟨g, e1⟩
      subst had
      obtain ⟨x0, x1, _⟩ := hR.own.cell hy
      have hyr := hgood.right _ (List.mem_of_getElem? hy)
      have hin := rin_any y.1.1 hyr.2 y.1.2 a ha
      have HY := Lib.hid hy
      have hk5 : 0 < len := by omega
      have hstep : ∀ w2, Below wr.heap.size wr w2 → Below w.heap.size w w2 ∧ Bx w2 w.heap.size (.int .u32 0) (.int .i64 0) ∧ Ref w2 base rb room L (.slice (some ⟨g, 0, none⟩) len c) := fun w2 hb => ⟨HA.out.bel.trans (hb.mono HA.out.bel.size), HA.out.box.keep hb HA.out.box.lt, hR.below hb⟩
      have HSTEP := Lib.hid hstep
      have HYR := Lib.hid hyr
      clear hR hstep hyr
      cases hi : inP (y.1.1, y.1.2) a with
      | false =>
        rw [hi] at hin
        have HI := Lib.hid hi
        clear hi hy
        go_wp2_with (go_at_call 31; refine (hin _).mono ?_; rintro e w2 ⟨rfl, hb2⟩; obtain ⟨k1, k2, k3⟩ := HSTEP.out _ hb2; have K1 := Lib.hid k1; have K2 := Lib.hid k2; have K3 := Lib.hid k3; clear hb2 k1 k2 k3)
        go_quiet (fail)
        go_wp2
        go_roundw
        case rel => exact ⟨k + 1, best, by go_num, rfl, by have := HL.out; omega, HA.out.best.no HY.out HI.out, bel_drawn K1.out _, K2.out⟩
        case measure => simp [intOf]; omega
      | true =>
        rw [hi] at hin
        have HI := Lib.hid hi
        rcases HA.out.best with ⟨hb1, hb0⟩ | ⟨j, z, hb1, hjk, hz, hzi, hb0⟩
        · subst hb1
          clear hi hy hb0
          go_wp2_with (go_at_call 31; refine (hin _).mono ?_; rintro e w2 ⟨rfl, hb2⟩; obtain ⟨k1, k2, k3⟩ := HSTEP.out _ hb2; have K1 := Lib.hid k1; have K2 := Lib.hid k2; have K3 := Lib.hid k3; clear hb2 k1 k2 k3)
          go_quiet (fail)
          go_wp2
          go_roundw
          case rel => exact ⟨k + 1, k, by go_num, rfl, by have := HL.out; omega, BestAt.yes HY.out HI.out, bel_drawn K1.out _, K2.out⟩
          case measure => simp [intOf]; omega
        · subst hb1
          have hzr := hgood.right _ (List.mem_of_getElem? hz)
          have hless : lessP z.1 y.1 := by
            have hp := hgood.rises
            rw [List.pairwise_iff_getElem] at hp
            obtain ⟨h1, e1⟩ := List.getElem?_eq_some_iff.1 hz
            obtain ⟨h2, e2⟩ := List.getElem?_eq_some_iff.1 hy
            have := hp j k h1 h2 hjk
            rwa [e1, e2] at this
          have hlong := longer hzr.1 HYR.out.1 hzi hi hless
          have hd1 : decide (((j : Nat) : Int) < 0) = false := decide_eq_false (by omega)
          have hd2 : decide (z.1.2 < y.1.2) = true := decide_eq_true hlong
          have hj0 : (0 : Int) ≤ j := by omega
          have hjl : j < len := by omega
          have HZ := Lib.hid hz
          clear hi hy hb0 hzr hless hzi hz hlong
          go_wp2_with (go_at_call 31; refine (hin _).mono ?_; rintro e w2 ⟨rfl, hb2⟩; obtain ⟨k1, k2, k3⟩ := HSTEP.out _ hb2; obtain ⟨y0, y1, _⟩ := k3.own.cell HY.out; obtain ⟨z0, z1, _⟩ := k3.own.cell HZ.out; obtain ⟨_, s1, _, _, sl⟩ := k3.cells; have K1 := Lib.hid k1; have K2 := Lib.hid k2; clear hb2 k1 k2 k3)
          go_quiet (fail)
          go_wp2
          go_roundw
          case rel => exact ⟨k + 1, k, by go_num, rfl, by have := HL.out; omega, BestAt.yes HY.out HI.out, bel_drawn K1.out _, K2.out⟩
          case measure => simp [intOf]; omega
    · obtain rfl : k = len := by omega
      have hf : L.take k = L := List.take_of_length_le (by rw [HL.out]; omega)
      have hres := HRES.out
      have hbest := HA.out.best
      unfold BestAt at hbest
      rw [hf] at hbest
      obtain ⟨f0, f1, g0, g1⟩ := HA.out.box.cells
      have hz := HA.out.box.lt
      rcases hbest with ⟨hb1, hb0⟩ | ⟨j, z, hb1, hjk, hz2, hzi, hb0⟩
      · subst hb1
        have e : x = ((0, 0), 0) ∧ is = false := by
          rw [hb0] at hres
          injection hres with e1 e2
          exact ⟨e1.symm, e2.symm⟩
        obtain ⟨rfl, rfl⟩ := e
        clear hR hf hres hb0
        go_wp2
        refine bodyPost_ret (results_bx3 rfl rfl (HA.out.box.set _ _)) rfl ⟨rfl, ?_⟩
        exact (HA.out.bel.setCell (p := ⟨w.heap.size, 0, none⟩) (Nat.le_refl _) _).setCell (p := ⟨w.heap.size, 1, none⟩) (Nat.le_refl _) _
      · subst hb1
        have e : x = z ∧ is = true := by
          unfold lastE hasE at hres
          rw [hb0] at hres
          injection hres with e1 e2
          refine ⟨e1.symm, ?_⟩
          rw [← e2]
          cases hon : onL a L with
          | nil => rw [hon] at hb0; simp at hb0
          | cons _ _ => rfl
        obtain ⟨rfl, rfl⟩ := e
        obtain ⟨g, had⟩ : ∃ g, ad = some ⟨g, 0, none⟩ := by
          rcases hR.own.form with ⟨e, _⟩ | ⟨g, cap, e, _⟩
          · injection e with _ e2 _; omega
          · injection e with e1 _ _; exact ⟨g, e1⟩
        subst had
        obtain ⟨x0, x1, x2⟩ := hR.own.cell hz2
        have hj0 : (0 : Int) ≤ j := by omega
        have hd1 : decide (((j : Nat) : Int) < 0) = false := decide_eq_false (by omega)
        have rlt : rb < w.heap.size := H.out.cells.2.2.2.2
        have glt : g < w.heap.size := by
          rcases H.out.own.form with ⟨e, _⟩ | ⟨g', cap, e, _, h2, _⟩
          · injection e with e1; cases e1
          · injection e with e1; injection e1 with e1; injection e1 with e1; omega
        have rne : rb ≠ w.heap.size := Nat.ne_of_lt rlt
        have gne : g ≠ w.heap.size := Nat.ne_of_lt glt
        have rne2 : ¬ w.heap.size = rb := fun e => rne e.symm
        have gne2 : ¬ w.heap.size = g := fun e => gne e.symm
        clear hR hf hres hb0 hz2 hzi
        go_wp2
        first | (go_region) | fail
        go_wp2
        refine bodyPost_ret (results_bx3 rfl rfl (HA.out.box.set _ _)) rfl ⟨rfl, ?_⟩
        exact ((HA.out.bel.setCell (p := ⟨w.heap.size, 0, none⟩) (Nat.le_refl _) _).setCell (p := ⟨w.heap.size, 1, none⟩) (Nat.le_refl _) _).drew
end Go.Proofs.Ytpoognkppnplpaa
