/-
  SAME of two ties.
-/
import Derived.Test.YtpaooddmgcekhaaWSame
namespace Go.Proofs.Ytpaooddmgcekhaa
open Go.RowKit Go.Shelf
set_option linter.unusedVariables false

theorem tie_eq {x y : TieT} (e_head_id_dir : x.head.id.dir = y.head.id.dir) (e_head_id_orig : x.head.id.orig = y.head.id.orig) (e_head_id_kind : x.head.id.kind = y.head.id.kind) (e_head_id_nr : x.head.id.nr = y.head.id.nr) (e_head_seq : x.head.seq = y.head.seq) (e_head_life : x.head.life = y.head.life) (e_level : x.level = y.level) (e_over : x.over = y.over) (h1 : x.edges = y.edges) (h2 : x.reaches = y.reaches) : x = y := by
  obtain ⟨⟨⟨a, b, c, d⟩, e, f⟩, g, h, i, j⟩ := x
  obtain ⟨⟨⟨a', b', c', d'⟩, e', f'⟩, g', h', i', j'⟩ := y
  simp only at e_head_id_dir e_head_id_orig e_head_id_kind e_head_id_nr e_head_seq e_head_life e_level e_over h1 h2
  subst e_head_id_dir e_head_id_orig e_head_id_kind e_head_id_nr e_head_seq e_head_life e_level e_over h1 h2
  rfl
set_option maxRecDepth 100000 in
set_option maxHeartbeats 16000000 in
theorem sameTie_eq (hd : HeadT) (lv : Int) (ov : Bool) (xe ye : List EdgeT) (xr yr : List ReachT) (ae ar be br : Option Addr) (ce cr de dr : Nat) (hx1 : xe.length ≤ 140737488351232) (hx2 : xr.length ≤ 140737488351232) (w : World)
    (r1 : RdR 3 encEdge w.heap.size w ae xe) (r2 : RdR 3 encReach w.heap.size w ar xr) (r3 : RdR 3 encEdge w.heap.size w be ye) (r4 : RdR 3 encReach w.heap.size w br yr) (hl1 : xe.length = ye.length) (hl2 : xr.length = yr.length) :
    Calls Try.prog 11 #[.agg #[.int .i64 hd.id.dir, .int .i64 hd.id.orig, .int .i64 hd.id.kind, .int .i64 hd.id.nr, .int .i64 hd.seq, .int .i64 hd.life, .int .i64 lv, .bool ov, .slice ae xe.length ce, .slice ar xr.length cr], .agg #[.int .i64 hd.id.dir, .int .i64 hd.id.orig, .int .i64 hd.id.kind, .int .i64 hd.id.nr, .int .i64 hd.seq, .int .i64 hd.life, .int .i64 lv, .bool ov, .slice be ye.length de, .slice br yr.length dr]] w fun e w' => ∃ r, e = .returned (.bool r) ∧ (r = true ↔ xe = ye ∧ xr = yr) ∧ Below w.heap.size w w' := by
  obtain ⟨n1, hn1⟩ : ∃ n, xe.length = n := ⟨_, rfl⟩
  obtain ⟨n2, hn2⟩ : ∃ n, xr.length = n := ⟨_, rfl⟩
  rw [hn1] at hl1 hx1
  rw [hn2] at hl2 hx2
  rw [← hl1, ← hl2, hn1, hn2]
  have HN1 := Lib.hid hn1
  have HN2 := Lib.hid hn2
  have HM1 := Lib.hid hl1
  have HM2 := Lib.hid hl2
  have RE := Lib.hid r1
  have RR := Lib.hid r2
  have RY1 := Lib.hid r3
  have RY2 := Lib.hid r4
  obtain ⟨Z0, hZ0⟩ : ∃ Z0, ((w.alloc (.cells #[.int .i64 hd.id.dir, .int .i64 hd.id.orig, .int .i64 hd.id.kind, .int .i64 hd.id.nr, .int .i64 hd.seq, .int .i64 hd.life, .int .i64 lv, .bool ov, .slice ae n1 ce, .slice ar n2 cr] 39)).alloc (.cells #[.int .i64 hd.id.dir, .int .i64 hd.id.orig, .int .i64 hd.id.kind, .int .i64 hd.id.nr, .int .i64 hd.seq, .int .i64 hd.life, .int .i64 lv, .bool ov, .slice be n1 de, .slice br n2 dr] 39)) = Z0 := ⟨_, rfl⟩
  have a1 := (At.new w.heap.size w (Nat.le_refl _) [.int .i64 hd.id.dir, .int .i64 hd.id.orig, .int .i64 hd.id.kind, .int .i64 hd.id.nr, .int .i64 hd.seq, .int .i64 hd.life, .int .i64 lv, .bool ov, .slice ae n1 ce, .slice ar n2 cr] 39 rfl).alloc (by simp) (.cells #[.int .i64 hd.id.dir, .int .i64 hd.id.orig, .int .i64 hd.id.kind, .int .i64 hd.id.nr, .int .i64 hd.seq, .int .i64 hd.life, .int .i64 lv, .bool ov, .slice be n1 de, .slice br n2 dr] 39)
  have HQ8 : RowKit.Hid (Z0.cell? ⟨w.heap.size, 8, none⟩ = some (.slice ae n1 ce)) := by rw [← hZ0]; exact a1.cellZ 8 rfl
  have HQ9 : RowKit.Hid (Z0.cell? ⟨w.heap.size, 9, none⟩ = some (.slice ar n2 cr)) := by rw [← hZ0]; exact a1.cellZ 9 rfl
  have h8 : Z0.cell? ⟨w.heap.size + 1, 8, none⟩ = some (.slice be n1 de) := by rw [← hZ0]; simp
  have HP8 := Lib.hid h8
  have h9 : Z0.cell? ⟨w.heap.size + 1, 9, none⟩ = some (.slice br n2 dr) := by rw [← hZ0]; simp
  have HP9 := Lib.hid h9
  clear h8 h9
  have hz : Z0.heap.size = w.heap.size + 1 + 1 := by rw [← hZ0]; simp
  have HZ := Lib.hid hz
  clear hz
  have HZB : RowKit.Hid (Below w.heap.size w Z0) := by rw [← hZ0]; exact ((Below.refl _ _).alloc (Nat.le_refl _) _).alloc (by simp) _
  have HZ0 := Lib.hid hZ0
  clear hn1 hn2 hl1 hl2 r1 r2 r3 r4 a1 hZ0
  go_enter Try.func11, Try.ntmps11
  go_wp2
  rw [HZ0.out]
  go_loopw [5] (fun i wr => ∃ k : Nat, k ≤ n1 ∧ i = .int .i64 k ∧ xe.take k = ye.take k ∧ Below Z0.heap.size Z0 wr) (fun i _ => n1 - (intOf i).toNat)
  case atStart => exact ⟨0, Nat.zero_le _, rfl, rfl, Below.refl _ _⟩
  case round =>
    obtain ⟨k, hk, rfl, hpre, hbel⟩ := hrel
    have HP := Lib.hid hpre
    have HBL := Lib.hid hbel
    clear hpre hbel
    have q8 : wr.cell? ⟨w.heap.size, 8, none⟩ = some (.slice ae n1 ce) := (HBL.out.cell (p := ⟨w.heap.size, 8, none⟩) (by have := HZ.out; show w.heap.size < Z0.heap.size; omega)).trans (HQ8.out)
    have p8 : wr.cell? ⟨w.heap.size + 1, 8, none⟩ = some (.slice be n1 de) := (HBL.out.cell (p := ⟨w.heap.size + 1, 8, none⟩) (by have := HZ.out; show w.heap.size + 1 < Z0.heap.size; omega)).trans (HP8.out)
    by_cases hlt : k < n1
    · obtain ⟨b1, o1, rfl, hb1, hca⟩ := RE.out (by have := HN1.out; omega)
      obtain ⟨b2, o2, rfl, hb2, hcb⟩ := RY1.out (by have := HM1.out; omega)
      obtain ⟨u, hu⟩ : ∃ u, xe[k]? = some u := ⟨_, List.getElem?_eq_getElem (by have := HN1.out; omega)⟩
      obtain ⟨v, hv⟩ : ∃ v, ye[k]? = some v := ⟨_, List.getElem?_eq_getElem (by have := HM1.out; omega)⟩
      have g0 : wr.cell? ⟨b1, o1 + k * 3, none⟩ = some _ := (HBL.out.cell (by have := HZ.out; show b1 < Z0.heap.size; omega)).trans ((HZB.out.cell hb1).trans (hca k u hu 0 _ rfl))
      have f0 : wr.cell? ⟨b2, o2 + k * 3, none⟩ = some _ := (HBL.out.cell (by have := HZ.out; show b2 < Z0.heap.size; omega)).trans ((HZB.out.cell hb2).trans (hcb k v hv 0 _ rfl))
      have g1 : wr.cell? ⟨b1, o1 + k * 3 + 1, none⟩ = some _ := (HBL.out.cell (by have := HZ.out; show b1 < Z0.heap.size; omega)).trans ((HZB.out.cell hb1).trans (hca k u hu 1 _ rfl))
      have f1 : wr.cell? ⟨b2, o2 + k * 3 + 1, none⟩ = some _ := (HBL.out.cell (by have := HZ.out; show b2 < Z0.heap.size; omega)).trans ((HZB.out.cell hb2).trans (hcb k v hv 1 _ rfl))
      have g2 : wr.cell? ⟨b1, o1 + k * 3 + 2, none⟩ = some _ := (HBL.out.cell (by have := HZ.out; show b1 < Z0.heap.size; omega)).trans ((HZB.out.cell hb1).trans (hca k u hu 2 _ rfl))
      have f2 : wr.cell? ⟨b2, o2 + k * 3 + 2, none⟩ = some _ := (HBL.out.cell (by have := HZ.out; show b2 < Z0.heap.size; omega)).trans ((HZB.out.cell hb2).trans (hcb k v hv 2 _ rfl))
      have HX := Lib.hid hu
      have HY := Lib.hid hv
      have k0 : (0 : Int) ≤ (k : Int) := Int.natCast_nonneg _
      have k1 : (k : Int) < (n1 : Int) := by omega
      clear hca hcb hu hv
      by_cases hxy : u = v
      · subst hxy
        have HS := Lib.hid (heads_next HP.out HX.out HY.out rfl)
        clear hlt
        go_wp2
        go_quiet (fail)
        go_wp2
        go_roundw
        case rel => exact ⟨k + 1, by omega, by go_num, HS.out, below_drewN HBL.out _⟩
        case measure => simp [intOf]; omega
      · have HXY := Lib.hid hxy
        clear hxy
        by_cases d_node : u.node = v.node
        rotate_left
        · clear hlt
          go_wp2
          go_quiet (fail)
          go_wp2
          go_ret
          exact ⟨false, rfl, by simp; exact fun h _ => list_ne HX.out HY.out HXY.out h, HZB.out.trans ((below_drewN HBL.out _).mono (by have := HZ.out; omega))⟩
        by_cases d_level : u.level = v.level
        rotate_left
        · clear hlt
          go_wp2
          go_quiet (fail)
          go_wp2
          go_ret
          exact ⟨false, rfl, by simp; exact fun h _ => list_ne HX.out HY.out HXY.out h, HZB.out.trans ((below_drewN HBL.out _).mono (by have := HZ.out; omega))⟩
        by_cases d_cost : u.cost = v.cost
        rotate_left
        · clear hlt
          go_wp2
          go_quiet (fail)
          go_wp2
          go_ret
          exact ⟨false, rfl, by simp; exact fun h _ => list_ne HX.out HY.out HXY.out h, HZB.out.trans ((below_drewN HBL.out _).mono (by have := HZ.out; omega))⟩
        exact absurd (edge_eq d_node d_level d_cost) HXY.out
    · have HE1 : RowKit.Hid (xe = ye) := by
        have hp := HP.out
        have h1 := HN1.out
        have h2 := HM1.out
        rw [List.take_of_length_le (by omega), List.take_of_length_le (by omega)] at hp
        exact hp
      go_wp2
      clear hlt hk q8 p8 HP
      go_loopw [6] (fun i wr => ∃ k : Nat, k ≤ n2 ∧ i = .int .i64 k ∧ xr.take k = yr.take k ∧ Below Z0.heap.size Z0 wr) (fun i _ => n2 - (intOf i).toNat)
      case atStart => exact ⟨0, Nat.zero_le _, rfl, rfl, HBL.out⟩
      case round =>
        obtain ⟨k, hk, rfl, hpre, hbel⟩ := hrel
        have HP := Lib.hid hpre
        have HBL := Lib.hid hbel
        clear hpre hbel
        have q8 : wr.cell? ⟨w.heap.size, 9, none⟩ = some (.slice ar n2 cr) := (HBL.out.cell (p := ⟨w.heap.size, 9, none⟩) (by have := HZ.out; show w.heap.size < Z0.heap.size; omega)).trans (HQ9.out)
        have p8 : wr.cell? ⟨w.heap.size + 1, 9, none⟩ = some (.slice br n2 dr) := (HBL.out.cell (p := ⟨w.heap.size + 1, 9, none⟩) (by have := HZ.out; show w.heap.size + 1 < Z0.heap.size; omega)).trans (HP9.out)
        by_cases hlt : k < n2
        · obtain ⟨b1, o1, rfl, hb1, hca⟩ := RR.out (by have := HN2.out; omega)
          obtain ⟨b2, o2, rfl, hb2, hcb⟩ := RY2.out (by have := HM2.out; omega)
          obtain ⟨u, hu⟩ : ∃ u, xr[k]? = some u := ⟨_, List.getElem?_eq_getElem (by have := HN2.out; omega)⟩
          obtain ⟨v, hv⟩ : ∃ v, yr[k]? = some v := ⟨_, List.getElem?_eq_getElem (by have := HM2.out; omega)⟩
          have g0 : wr.cell? ⟨b1, o1 + k * 3, none⟩ = some _ := (HBL.out.cell (by have := HZ.out; show b1 < Z0.heap.size; omega)).trans ((HZB.out.cell hb1).trans (hca k u hu 0 _ rfl))
          have f0 : wr.cell? ⟨b2, o2 + k * 3, none⟩ = some _ := (HBL.out.cell (by have := HZ.out; show b2 < Z0.heap.size; omega)).trans ((HZB.out.cell hb2).trans (hcb k v hv 0 _ rfl))
          have g1 : wr.cell? ⟨b1, o1 + k * 3 + 1, none⟩ = some _ := (HBL.out.cell (by have := HZ.out; show b1 < Z0.heap.size; omega)).trans ((HZB.out.cell hb1).trans (hca k u hu 1 _ rfl))
          have f1 : wr.cell? ⟨b2, o2 + k * 3 + 1, none⟩ = some _ := (HBL.out.cell (by have := HZ.out; show b2 < Z0.heap.size; omega)).trans ((HZB.out.cell hb2).trans (hcb k v hv 1 _ rfl))
          have g2 : wr.cell? ⟨b1, o1 + k * 3 + 2, none⟩ = some _ := (HBL.out.cell (by have := HZ.out; show b1 < Z0.heap.size; omega)).trans ((HZB.out.cell hb1).trans (hca k u hu 2 _ rfl))
          have f2 : wr.cell? ⟨b2, o2 + k * 3 + 2, none⟩ = some _ := (HBL.out.cell (by have := HZ.out; show b2 < Z0.heap.size; omega)).trans ((HZB.out.cell hb2).trans (hcb k v hv 2 _ rfl))
          have HX := Lib.hid hu
          have HY := Lib.hid hv
          have k0 : (0 : Int) ≤ (k : Int) := Int.natCast_nonneg _
          have k1 : (k : Int) < (n2 : Int) := by omega
          clear hca hcb hu hv
          by_cases hxy : u = v
          · subst hxy
            have HS := Lib.hid (heads_next HP.out HX.out HY.out rfl)
            clear hlt
            go_wp2
            go_quiet (fail)
            go_wp2
            go_roundw
            case rel => exact ⟨k + 1, by omega, by go_num, HS.out, below_drewN HBL.out _⟩
            case measure => simp [intOf]; omega
          · have HXY := Lib.hid hxy
            clear hxy
            by_cases d_net : u.net = v.net
            rotate_left
            · clear hlt
              go_wp2
              go_quiet (fail)
              go_wp2
              go_ret
              exact ⟨false, rfl, by simp; exact fun _ h => list_ne HX.out HY.out HXY.out h, HZB.out.trans ((below_drewN HBL.out _).mono (by have := HZ.out; omega))⟩
            by_cases d_bits : u.bits = v.bits
            rotate_left
            · clear hlt
              go_wp2
              go_quiet (fail)
              go_wp2
              go_ret
              exact ⟨false, rfl, by simp; exact fun _ h => list_ne HX.out HY.out HXY.out h, HZB.out.trans ((below_drewN HBL.out _).mono (by have := HZ.out; omega))⟩
            by_cases d_metric : u.metric = v.metric
            rotate_left
            · clear hlt
              go_wp2
              go_quiet (fail)
              go_wp2
              go_ret
              exact ⟨false, rfl, by simp; exact fun _ h => list_ne HX.out HY.out HXY.out h, HZB.out.trans ((below_drewN HBL.out _).mono (by have := HZ.out; omega))⟩
            exact absurd (reach_eq d_net d_bits d_metric) HXY.out
        · have HE2 : RowKit.Hid (xr = yr) := by
            have hp := HP.out
            have h1 := HN2.out
            have h2 := HM2.out
            rw [List.take_of_length_le (by omega), List.take_of_length_le (by omega)] at hp
            exact hp
          go_wp2
          clear hlt hk q8 p8 HP
          go_ret
          exact ⟨true, rfl, by simp; exact ⟨HE1.out, HE2.out⟩, HZB.out.trans (HBL.out.mono (by have := HZ.out; omega))⟩

end Go.Proofs.Ytpaooddmgcekhaa
