/-
  THE DOCUMENT's TABLE: an empty one; the place of a net; its number.
-/
import Derived.Test.YtpoognkppnplpaaYRow
namespace Go.Proofs.Ytpoognkppnplpaa
set_option linter.unusedSimpArgs false
set_option linter.unusedVariables false
open Go.RowKit
theorem rnew_no (room : Int) (h : room < 1 ∨ 4096 < room) (w : World) : Calls Try.prog 26 #[.int .i64 room] w fun e w' => e = .returned (.tuple #[.pointer none, .int .i64 1]) ∧ w = w' := by
  by_cases h1 : room < 1
  · have d1 : decide (room < 1) = true := decide_eq_true h1
    clear h
    go_enter Try.func26, Try.ntmps26
    go_wp2
    go_ret2
    exact ⟨rfl, rfl⟩
  · have d1 : decide (room < 1) = false := decide_eq_false h1
    have h2 : 4096 < room := by omega
    have d2 : decide (4096 < room) = true := decide_eq_true h2
    clear h
    go_enter Try.func26, Try.ntmps26
    go_wp2
    go_ret2
    exact ⟨rfl, rfl⟩
theorem rnew_ok (room : Int) (h1 : 1 ≤ room) (h2 : room ≤ 4096) (w : World) : Calls Try.prog 26 #[.int .i64 room] w fun e w' => e = .returned (.tuple #[pt (some w.heap.size), .int .i64 0]) ∧ w.alloc (.cells #[.int .i64 room, .slice none 0 0] 36) = w' := by
  have d1 : decide (room < 1) = false := decide_eq_false (by omega)
  have d2 : decide (4096 < room) = false := decide_eq_false (by omega)
  go_enter Try.func26, Try.ntmps26
  go_wp2
  go_ret2
  exact ⟨rfl, rfl⟩
theorem RefP.new (w : World) {room : Int} (h2 : room ≤ 4096) : RefP (w.alloc (.cells #[.int .i64 room, .slice none 0 0] 36)) w.heap.size w.heap.size room [] :=
  ⟨_, heap_alloc_new w _, OwnE.nil _ _, Nat.le_refl _, Good.nil, by simp, h2, by simp⟩
/-- Where the loop of place stands. -/
structure RPlAt (w : World) (L : List Ent) (p : Nat × Int) (k : Nat) (wr : World) : Prop where
  le : k ≤ L.length
  less : ∀ j, j < k → ∃ x, L[j]? = some x ∧ lessP x.1 p
  bel : Below w.heap.size w wr
  box : Bx wr w.heap.size (.int .u32 p.1) (.int .i64 p.2)
set_option maxHeartbeats 1600000 in
set_option maxRecDepth 100000 in
theorem rplace_any (base rb n : Nat) (b : Int) (room : Int) (L : List Ent) (w : World) (h : RefP w base rb room L) :
    Calls Try.prog 29 #[pt (some rb), .agg #[.int .u32 n, .int .i64 b]] w fun e w' => e = .returned (.tuple #[.int .i64 (placeN L (n, b)), .bool (placeIs L (n, b))]) ∧ Below w.heap.size w w' := by
  obtain ⟨v, h⟩ := h
  have hat : RPlAt w L (n, b) 0 (w.alloc (.cells #[.int .u32 n, .int .i64 b] 25)) := ⟨Nat.zero_le _, fun j hj => by omega, (Below.refl _ _).alloc (Nat.le_refl _) _, Bx.new _ _ _⟩
  have HAT := Lib.hid hat
  obtain ⟨a, c, hv⟩ := h.shape
  have hlen := h.len
  obtain ⟨len, hl⟩ : ∃ len, L.length = len := ⟨_, rfl⟩
  rw [hl] at hv hlen
  have HL := Lib.hid hl
  have H := Lib.hid h
  subst hv
  clear hat h hl
  unfold pt
  simp only [Option.map_some]
  go_enter Try.func29, Try.ntmps29
  go_wp2
  go_loopw [6] (fun i wr => ∃ k : Nat, i = .int .i64 k ∧ Hid (RPlAt w L (n, b) k wr)) (fun i _ => len - (intOf i).toNat)
  case atStart => exact ⟨0, rfl, HAT⟩
  case round =>
    obtain ⟨k, rfl, HA⟩ := hrel
    clear HAT
    have hR := H.out.below HA.out.bel
    obtain ⟨_, r1, _, _, rl⟩ := hR.cells
    have hkl := HA.out.le
    rw [HL.out] at hkl
    by_cases hlt : k < len
    · obtain ⟨x, hx⟩ : ∃ x, L[k]? = some x := ⟨_, List.getElem?_eq_getElem (by have := HL.out; omega)⟩
      obtain ⟨g, ha⟩ : ∃ g, a = some ⟨g, 0, none⟩ := by
        rcases hR.own.form with ⟨e, _⟩ | ⟨g, cap, e, _⟩
        · injection e with _ e2 _; omega
        · injection e with e1 _ _; exact ⟨g, e1⟩
      subst ha
      obtain ⟨W1, hW1⟩ : ∃ W1, wr.drew = W1 := ⟨_, rfl⟩
      have hb1 : Below wr.heap.size wr W1 := by rw [← hW1]; exact (Below.refl _ _).drew
      have hR1 := hR.below hb1
      obtain ⟨_, q1, _, _, ql⟩ := hR1.cells
      obtain ⟨x0, x1, _⟩ := hR1.own.cell hx
      obtain ⟨p0, p1, _, _⟩ := (HA.out.box.keep hb1 HA.out.box.lt).cells
      have hcm := rcompare_any x.1.1 x.1.2 n b W1
      have HX := Lib.hid hx
      have HW := Lib.hid hW1
      have HB1 := Lib.hid hb1
      have hk5 : 0 < len := by omega
      generalize hZ : cmpP (x.1.1, x.1.2) (n, b) = Z at *
      have HZ := Lib.hid hZ
      clear hR hR1 hx hZ hb1
      go_wp2
      refine region_tail 9 (by kernel_rfl) (by kernel_rfl) W1 HW.out ?_
      simp only [List.take_succ_cons, List.take_zero, List.drop_succ_cons, List.drop_zero]
      clear hW1
      iterate 9 still_step
      refine wpStill_nil ?_
      have hcases : (decide (0 ≤ Z) = false ∧ lessP x.1 (n, b)) ∨ (decide (0 ≤ Z) = true ∧ ¬ lessP x.1 (n, b)) := by
        have h1 := cmpP_neg (x.1.1, x.1.2) (n, b)
        rw [HZ.out] at h1
        by_cases h0 : 0 ≤ Z
        · exact .inr ⟨decide_eq_true h0, fun hl => by have := h1.2 hl; omega⟩
        · exact .inl ⟨decide_eq_false h0, h1.1 (by omega)⟩
      rcases hcases with ⟨hz, hle⟩ | ⟨hz, hle⟩
      · have HLE := Lib.hid hle
        clear hle
        go_wp2_with (go_at_call 42; with_reducible refine hcm.mono ?_; rintro e w2 ⟨rfl, hb2⟩; have hbb := HB1.out.trans (hb2.mono HB1.out.size); have HBB := Lib.hid hbb; clear hb2 hbb)
        go_roundw
        case rel =>
          have hk1 : k + 1 ≤ L.length := by have := HL.out; omega
          exact ⟨k + 1, by go_num, hk1, fun j hj => by
            by_cases hj2 : j < k
            · exact HA.out.less j hj2
            · obtain rfl : j = k := by omega
              exact ⟨x, HX.out, HLE.out⟩, HA.out.bel.trans (HBB.out.mono HA.out.bel.size), HA.out.box.keep HBB.out HA.out.box.lt⟩
        case measure => simp [intOf]; omega
      · have hpl : placeN L (n, b) = k := placeN_at HA.out.less (.inr ⟨x, HX.out, hle⟩)
        have hpi : placeIs L (n, b) = (Z == 0) := by
          unfold placeIs
          rw [hpl, HX.out]
          have h1 := cmpP_zero (x.1.1, x.1.2) (n, b)
          rw [HZ.out] at h1
          show decide (x.1 = (n, b)) = _
          by_cases h0 : Z = 0
          · rw [decide_eq_true (h1.1 h0)]; simp [h0]
          · rw [decide_eq_false (fun e => h0 (h1.2 e))]; simp [h0]
        have HP := Lib.hid hpl
        have HI := Lib.hid hpi
        clear hpl hpi hle
        go_wp2_with (go_at_call 42; with_reducible refine hcm.mono ?_; rintro e w2 ⟨rfl, hb2⟩; have hbb := HB1.out.trans (hb2.mono HB1.out.size); have HBB := Lib.hid hbb; clear hb2 hbb)
        go_ret2
        rw [HP.out, HI.out]
        exact ⟨rfl, HA.out.bel.trans (HBB.out.mono HA.out.bel.size)⟩
    · obtain rfl : k = len := by omega
      have hpl : placeN L (n, b) = k := placeN_at HA.out.less (.inl HL.out.symm)
      have hpi : placeIs L (n, b) = false := by
        unfold placeIs
        rw [hpl, List.getElem?_eq_none (by have := HL.out; omega)]
      have HP := Lib.hid hpl
      have HI := Lib.hid hpi
      clear hR hpl hpi
      go_wp2
      go_ret2
      rw [HP.out, HI.out]
      exact ⟨rfl, HA.out.bel⟩
theorem rget_is (base rb n : Nat) (b : Int) (room : Int) (L : List Ent) (w : World) (h : RefP w base rb room L) {m : Int} (hg : getL L (n, b) = some m) :
    Calls Try.prog 12 #[pt (some rb), .agg #[.int .u32 n, .int .i64 b]] w fun e w' => e = .returned (.tuple #[.int .i64 m, .bool true]) ∧ Below w.heap.size w w' := by
  have hp := rplace_any base rb n b room L _ (h.below ((Below.refl _ w).alloc (Nat.le_refl _) (.cells #[.int .u32 n, .int .i64 b] 25)))
  obtain ⟨v, h⟩ := h
  have hgd := h.good
  have hx := place_get hgd.rises hg
  have hi := placeIs_get hgd.rises (n, b)
  rw [hg] at hi
  rw [hi] at hp
  have hlt := (List.getElem?_eq_some_iff.1 hx).1
  have hlen := h.len
  obtain ⟨g, c, rfl⟩ : ∃ g c, v = .slice (some ⟨g, 0, none⟩) L.length c := by
    rcases h.own.form with ⟨_, e⟩ | ⟨g, cap, e, _⟩
    · rw [e] at hlt; simp at hlt
    · exact ⟨g, cap, e⟩
  obtain ⟨len, hl⟩ : ∃ len, L.length = len := ⟨_, rfl⟩
  have H := Lib.hid h
  rw [hl] at hlt hlen
  have hcell : ∀ W, Below w.heap.size w W → W.cell? ⟨rb, 1, none⟩ = some (.slice (some ⟨g, 0, none⟩) len c) ∧ W.cell? ⟨g, placeN L (n, b) * 3 + 2, none⟩ = some (.int .i64 m) := fun W hW => by
    rw [← hl]
    exact ⟨(H.out.below hW).cells.2.1, ((H.out.below hW).own.cell hx).2.2⟩
  have HC := Lib.hid hcell
  generalize placeN L (n, b) = k at *
  have HB := Lib.hid ((Below.refl w.heap.size w).alloc (Nat.le_refl _) (.cells #[.int .u32 n, .int .i64 b] 25))
  clear h hgd hx hi hcell hg
  unfold pt at hp ⊢
  simp only [Option.isSome_some] at hp
  go_enter Try.func12, Try.ntmps12
  go_wp2_with (go_at_call 29; refine hp.mono ?_; rintro e w1 ⟨rfl, hb1⟩; have hb2 := HB.out.trans (hb1.mono (by simp)); obtain ⟨c0, c1⟩ := HC.out _ hb2; have HB2 := Lib.hid hb2; clear hb1 hb2)
  go_ret2
  exact ⟨rfl, HB2.out⟩
theorem rget_not (base rb n : Nat) (b : Int) (room : Int) (L : List Ent) (w : World) (h : RefP w base rb room L) (hg : getL L (n, b) = none) :
    Calls Try.prog 12 #[pt (some rb), .agg #[.int .u32 n, .int .i64 b]] w fun e w' => e = .returned (.tuple #[.int .i64 0, .bool false]) ∧ Below w.heap.size w w' := by
  have hp := rplace_any base rb n b room L _ (h.below ((Below.refl _ w).alloc (Nat.le_refl _) (.cells #[.int .u32 n, .int .i64 b] 25)))
  obtain ⟨v, h⟩ := h
  have hi := placeIs_get h.good.rises (n, b)
  rw [hg] at hi
  rw [hi] at hp
  generalize placeN L (n, b) = k at *
  have HB := Lib.hid ((Below.refl w.heap.size w).alloc (Nat.le_refl _) (.cells #[.int .u32 n, .int .i64 b] 25))
  clear h hi hg
  unfold pt at hp ⊢
  simp only [Option.isSome_none] at hp
  go_enter Try.func12, Try.ntmps12
  go_wp2_with (go_at_call 29; refine hp.mono ?_; rintro e w1 ⟨rfl, hb1⟩; have HB2 := Lib.hid (HB.out.trans (hb1.mono (by simp))); clear hb1)
  go_ret2
  exact ⟨rfl, HB2.out⟩
end Go.Proofs.Ytpoognkppnplpaa
