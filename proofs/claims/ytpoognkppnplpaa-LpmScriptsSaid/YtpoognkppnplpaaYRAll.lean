/-
  THE DOCUMENT's TABLE: all nets; whether two rows of nets are the same.
-/
import Derived.Test.YtpoognkppnplpaaYRPl
import Derived.Test.YtpoognkppnplpaaYAll
namespace Go.Proofs.Ytpoognkppnplpaa
set_option linter.unusedSimpArgs false
set_option linter.unusedVariables false
open Go.RowKit
structure RAllAt (w : World) (L : List Ent) (k : Nat) (v : Value) (wr : World) : Prop where
  le : k ≤ L.length
  own : OwnP wr w.heap.size v (netsL (L.take k))
  bel : Below w.heap.size w wr
theorem netsL_take {L : List Ent} {k : Nat} {x : Ent} (h : L[k]? = some x) : netsL (L.take (k + 1)) = netsL (L.take k) ++ [x.1] := by
  unfold netsL
  rw [List.take_add_one, h, List.map_append]
  rfl
set_option maxHeartbeats 1600000 in
set_option maxRecDepth 100000 in
theorem rall_any (base rb : Nat) (room : Int) (L : List Ent) (w : World) (h : RefP w base rb room L) :
    Calls Try.prog 16 #[pt (some rb)] w fun e w' => (∃ v, e = .returned v ∧ OwnP w' w.heap.size v (netsL L)) ∧ Below w.heap.size w w' := by
  obtain ⟨v, h⟩ := h
  have hat : RAllAt w L 0 (.slice none 0 0) w := ⟨Nat.zero_le _, OwnP.nil _ _, Below.refl _ _⟩
  have HAT := Lib.hid hat
  obtain ⟨a, c, hv⟩ := h.shape
  have hlen := h.len
  obtain ⟨len, hl⟩ : ∃ len, L.length = len := ⟨_, rfl⟩
  rw [hl] at hv hlen
  have HL := Lib.hid hl
  have H := Lib.hid h
  subst hv
  obtain ⟨i0, hi, hz0, hz1, hz2⟩ := info_parts Try.infoPx
  clear hat h hl
  unfold pt
  simp only [Option.map_some]
  go_enter Try.func16, Try.ntmps16
  go_wp2
  go_loopw [3, 4] (fun v i wr => ∃ k : Nat, i = .int .i64 k ∧ Hid (RAllAt w L k v wr)) (fun _ i _ => len - (intOf i).toNat)
  case atStart => exact ⟨0, rfl, HAT⟩
  case round =>
    obtain ⟨k, rfl, HA⟩ := hrel
    clear HAT
    have hR := H.out.below HA.out.bel
    obtain ⟨_, r1, _, _, rl⟩ := hR.cells
    have hkl := HA.out.le
    rw [HL.out] at hkl
    by_cases hlt : k < len
    · obtain ⟨x, hx⟩ : ∃ x, L[k]? = some x := ⟨_, List.getElem?_eq_getElem (by have := HL.out; omega)⟩
      obtain ⟨g, ha⟩ : ∃ g, a = some ⟨g, 0, none⟩ := by
        rcases hR.own.form with ⟨e, _⟩ | ⟨g, cap, e, _⟩
        · injection e with _ e2 _; omega
        · injection e with e1 _ _; exact ⟨g, e1⟩
      subst ha
      obtain ⟨x0, x1, _⟩ := hR.own.cell hx
      have HX := Lib.hid hx
      have hk5 : 0 < len := by omega
      clear hR hx
      go_wp2_with (at_builtin; skip; refine Hid.out ?_)
      refine Lib.hid ?_
      have hnl : (netsL (L.take k)).length = k := by unfold netsL; rw [List.length_map, List.length_take, HL.out]; omega
      have ow := HA.out.own.alloc (.cells #[.int .u32 x.1.1, .int .i64 x.1.2] 25)
      have be := HA.out.bel.alloc HA.out.bel.size (.cells #[.int .u32 x.1.1, .int .i64 x.1.2] 25)
      have hsz := HA.out.bel.size
      refine wpList_append_own _ rfl _ _ 38 rfl w.heap.size 25 i0 (.agg #[.int .u32 0, .int .i64 0]) 2 16 Try.underlying38 hi hz0 hz1 hz2 rfl (by decide) _ _ _ rfl ow ⟨_, 0, none⟩ 1 1 (cellsP x.1) rfl rfl (cell_two_new wr _ _ _) (rowP_one_cell1 x.1) (by rw [hnl]; unfold maxLen; omega) (by rw [hnl]; omega) (by simp; omega) ?_
      intro v2 w2 ho2 hg2 _
      have HO : Hid (OwnP w2 w.heap.size v2 (netsL (L.take k) ++ [x.1])) := OwnP.push ho2
      have HB2 := Lib.hid (be.grown hg2 (by simp; omega) (fun j hj => (World.ownsRow.lt ow j hj).1))
      obtain ⟨A2, m2, c2, rfl⟩ : ∃ A m c, v2 = .slice A m c := by
        rcases HO.out.form with ⟨e, _⟩ | ⟨g2, c2, e, _⟩
        · exact ⟨_, _, _, e⟩
        · exact ⟨_, _, _, e⟩
      clear ho2 hg2 ow be hnl hsz
      go_wp2
      go_roundw
      case rel => exact ⟨k + 1, by go_num, by have := HL.out; omega, by rw [netsL_take HX.out]; exact HO.out, HB2.out⟩
      case measure => simp [intOf]; omega
    · obtain rfl : k = len := by omega
      have hf : L.take k = L := List.take_of_length_le (by rw [HL.out]; omega)
      have ow := HA.out.own
      rw [hf] at ow
      have OW := Lib.hid ow
      clear hR hf ow
      go_wp2
      go_ret
      exact ⟨⟨_, rfl, OW.out⟩, HA.out.bel⟩
structure SameAt (w : World) (l m : List (Nat × Int)) (k : Nat) (wr : World) : Prop where
  le : k ≤ l.length
  eq : l.take k = m.take k
  bel : Below w.heap.size w wr
theorem take_eq_succ {l m : List (Nat × Int)} {k : Nat} {p : Nat × Int} (h : l.take k = m.take k) (hl : l[k]? = some p) (hm : m[k]? = some p) : l.take (k + 1) = m.take (k + 1) := by
  rw [List.take_add_one, List.take_add_one, h, hl, hm]
set_option maxHeartbeats 1600000 in
set_option maxRecDepth 100000 in
theorem same_any (a b : Option Addr) (c1 c2 : Nat) (l m : List (Nat × Int)) (hll : l.length ≤ 5000) (hmm : m.length ≤ 5000) (w : World) (hl : RdP w.heap.size w a l) (hm : RdP w.heap.size w b m) :
    Calls Try.prog 14 #[.slice a l.length c1, .slice b m.length c2] w fun e w' => e = .returned (.bool (decide (l = m))) ∧ Below w.heap.size w w' := by
  by_cases he : l.length = m.length
  · have hat : SameAt w l m 0 w := ⟨Nat.zero_le _, rfl, Below.refl _ _⟩
    have HAT := Lib.hid hat
    obtain ⟨len, hlen⟩ : ∃ len, l.length = len := ⟨_, rfl⟩
    have HL := Lib.hid hlen
    have HM := Lib.hid (he.symm.trans hlen)
    have HR1 := Lib.hid hl
    have HR2 := Lib.hid hm
    rw [← he, hlen]
    rw [hlen] at hll
    clear hat hl hm hlen he hmm
    go_enter Try.func14, Try.ntmps14
    go_wp2
    go_loopw [5] (fun i wr => ∃ k : Nat, i = .int .i64 k ∧ Hid (SameAt w l m k wr)) (fun i _ => len - (intOf i).toNat)
    case atStart => exact ⟨0, rfl, HAT⟩
    case round =>
      obtain ⟨k, rfl, HA⟩ := hrel
      clear HAT
      have hkl := HA.out.le
      rw [HL.out] at hkl
      by_cases hlt : k < len
      · obtain ⟨p, hp⟩ : ∃ p, l[k]? = some p := ⟨_, List.getElem?_eq_getElem (by have := HL.out; omega)⟩
        obtain ⟨q, hq⟩ : ∃ q, m[k]? = some q := ⟨_, List.getElem?_eq_getElem (by have := HM.out; omega)⟩
        obtain ⟨b1, o1, ha, hb1, hc1⟩ := HR1.out (by have := HL.out; omega)
        obtain ⟨b2, o2, hb, hb2, hc2⟩ := HR2.out (by have := HM.out; omega)
        subst ha hb
        have x0 := keepC HA.out.bel hb1 (hc1 k p hp).1
        have x1 := keepC HA.out.bel hb1 (hc1 k p hp).2
        have y0 := keepC HA.out.bel hb2 (hc2 k q hq).1
        have y1 := keepC HA.out.bel hb2 (hc2 k q hq).2
        have HP := Lib.hid hp
        have HQ := Lib.hid hq
        have hk0 : (0 : Int) ≤ k := by omega
        have hk1 : (k : Int) < len := by omega
        obtain ⟨pn, pb⟩ := p
        obtain ⟨qn, qb⟩ := q
        simp only at x0 x1 y0 y1
        clear hc1 hc2 hp hq
        by_cases h1 : pn = qn
        · by_cases h2 : pb = qb
          · subst h1 h2
            go_wp2
            go_quiet (fail)
            go_wp2
            go_roundw
            case rel => exact ⟨k + 1, by go_num, by have := HL.out; omega, take_eq_succ HA.out.eq HP.out HQ.out, bel_drawn HA.out.bel _⟩
            case measure => simp [intOf]; omega
          · subst h1
            have hne : l ≠ m := fun e => h2 (by have e1 := HP.out; rw [e, HQ.out] at e1; injection e1 with e1; injection e1 with _ e1; exact e1.symm)
            have HNE := Lib.hid hne
            have hd : (pb == qb) = false := by simpa using h2
            clear hne
            go_wp2
            go_quiet (fail)
            go_wp2
            go_ret
            exact ⟨by rw [decide_eq_false HNE.out]; rfl, bel_drawn HA.out.bel _⟩
        · have hne : l ≠ m := fun e => h1 (by have e1 := HP.out; rw [e, HQ.out] at e1; injection e1 with e1; injection e1 with e1 _; exact e1.symm)
          have HNE := Lib.hid hne
          have hd : ((pn : Int) == (qn : Int)) = false := by
            have h1' : ¬ (pn : Int) = qn := by omega
            simpa using h1'
          clear hne
          go_wp2
          go_quiet (fail)
          go_wp2
          go_ret
          exact ⟨by rw [decide_eq_false HNE.out]; rfl, bel_drawn HA.out.bel _⟩
      · obtain rfl : k = len := by omega
        have heq : l = m := by
          have := HA.out.eq
          rwa [List.take_of_length_le (by rw [HL.out]; omega), List.take_of_length_le (by rw [HM.out]; omega)] at this
        have HE := Lib.hid heq
        clear heq
        go_wp2
        go_ret
        exact ⟨by rw [decide_eq_true HE.out]; rfl, HA.out.bel⟩
  · have hne : l ≠ m := fun e => he (by rw [e])
    have HNE := Lib.hid hne
    have hd : ((l.length : Int) == m.length) = false := by
      have : ¬ (l.length : Int) = m.length := by omega
      simpa using this
    generalize l.length = l1 at *
    generalize m.length = m1 at *
    have hne2 : decide (l1 = m1) = false := decide_eq_false he
    clear hne hl hm
    go_enter Try.func14, Try.ntmps14
    go_wp2
    go_ret
    exact ⟨by rw [decide_eq_false HNE.out]; rfl, Below.refl _ _⟩
end Go.Proofs.Ytpoognkppnplpaa
