/-
  SAME of two lists of heads, of two ties, of two packets.
-/
import Derived.Test.YtcfgjhlecfhecaaWCode
namespace Go.Proofs.Ytcfgjhlecfhecaa
open Go.RowKit Go.Shelf
set_option linter.unusedVariables false

theorem list_ne {E : Type} {l m : List E} {k : Nat} {x y : E} (hx : l[k]? = some x) (hy : m[k]? = some y) (h : ¬ x = y) : ¬ l = m := fun e => by
  subst e
  rw [hx] at hy
  exact h (Option.some.inj hy)
theorem head_eq {x y : HeadT} (e1 : x.id.dir = y.id.dir) (e2 : x.id.orig = y.id.orig) (e3 : x.id.kind = y.id.kind) (e4 : x.id.nr = y.id.nr) (e5 : x.seq = y.seq) (e6 : x.life = y.life) : x = y := by
  obtain ⟨⟨a, b, c, d⟩, e, f⟩ := x
  obtain ⟨⟨a', b', c', d'⟩, e', f'⟩ := y
  simp only at e1 e2 e3 e4 e5 e6
  subst e1 e2 e3 e4 e5 e6
  rfl
theorem edge_eq {x y : EdgeT} (e1 : x.node = y.node) (e2 : x.level = y.level) (e3 : x.cost = y.cost) : x = y := by
  obtain ⟨a, b, c⟩ := x
  obtain ⟨a', b', c'⟩ := y
  simp only at e1 e2 e3
  subst e1 e2 e3
  rfl
theorem reach_eq {x y : ReachT} (e1 : x.net = y.net) (e2 : x.bits = y.bits) (e3 : x.metric = y.metric) : x = y := by
  obtain ⟨a, b, c⟩ := x
  obtain ⟨a', b', c'⟩ := y
  simp only at e1 e2 e3
  subst e1 e2 e3
  rfl
theorem heads_next {E : Type} {l m : List E} {k : Nat} {x y : E} (h : l.take k = m.take k) (hx : l[k]? = some x) (hy : m[k]? = some y) (e : x = y) : l.take (k + 1) = m.take (k + 1) := by
  rw [List.take_add_one, List.take_add_one, h, hx, hy, e]
set_option maxRecDepth 100000 in
set_option maxHeartbeats 8000000 in
theorem sameHeads_any (a b : Option Addr) (c1 c2 : Nat) (l m : List HeadT) (hl : l.length ≤ 140737488351232) (hm : m.length ≤ 140737488351232) (w : World) (hra : RdR 6 encHead w.heap.size w a l) (hrb : RdR 6 encHead w.heap.size w b m) :
    Calls Try.prog 30 #[.slice a l.length c1, .slice b m.length c2] w fun e w' => ∃ r, e = .returned (.bool r) ∧ (r = true ↔ l = m) ∧ Below w.heap.size w w' := by
  by_cases hlen : l.length = m.length
  · have HA := Lib.hid hra
    have HB := Lib.hid hrb
    obtain ⟨n, hn⟩ : ∃ n, l.length = n := ⟨_, rfl⟩
    have hmn : m.length = n := by omega
    rw [hn] at hl ⊢
    rw [hmn]
    have HN := Lib.hid hn
    have HM := Lib.hid hmn
    clear hra hrb hlen hn hmn hm
    go_enter Try.func30, Try.ntmps30
    go_wp2
    go_loopw [5] (fun i wr => ∃ k : Nat, k ≤ n ∧ i = .int .i64 k ∧ l.take k = m.take k ∧ Below w.heap.size w wr) (fun i _ => n - (intOf i).toNat)
    case atStart => exact ⟨0, Nat.zero_le _, rfl, rfl, Below.refl _ _⟩
    case round =>
      obtain ⟨k, hk, rfl, hpre, hbel⟩ := hrel
      have HP := Lib.hid hpre
      have HBL := Lib.hid hbel
      clear hpre hbel
      by_cases hlt : k < n
      · obtain ⟨b1, o1, rfl, hb1, hca⟩ := HA.out (by have := HN.out; omega)
        obtain ⟨b2, o2, rfl, hb2, hcb⟩ := HB.out (by have := HM.out; omega)
        obtain ⟨x, hx⟩ : ∃ x, l[k]? = some x := ⟨_, List.getElem?_eq_getElem (by have := HN.out; omega)⟩
        obtain ⟨y, hy⟩ : ∃ y, m[k]? = some y := ⟨_, List.getElem?_eq_getElem (by have := HM.out; omega)⟩
        have g0 : wr.cell? ⟨b1, o1 + k * 6, none⟩ = some _ := (HBL.out.cell hb1).trans (hca k x hx 0 _ rfl)
        have f0 : wr.cell? ⟨b2, o2 + k * 6, none⟩ = some _ := (HBL.out.cell hb2).trans (hcb k y hy 0 _ rfl)
        have g1 : wr.cell? ⟨b1, o1 + k * 6 + 1, none⟩ = some _ := (HBL.out.cell hb1).trans (hca k x hx 1 _ rfl)
        have f1 : wr.cell? ⟨b2, o2 + k * 6 + 1, none⟩ = some _ := (HBL.out.cell hb2).trans (hcb k y hy 1 _ rfl)
        have g2 : wr.cell? ⟨b1, o1 + k * 6 + 2, none⟩ = some _ := (HBL.out.cell hb1).trans (hca k x hx 2 _ rfl)
        have f2 : wr.cell? ⟨b2, o2 + k * 6 + 2, none⟩ = some _ := (HBL.out.cell hb2).trans (hcb k y hy 2 _ rfl)
        have g3 : wr.cell? ⟨b1, o1 + k * 6 + 3, none⟩ = some _ := (HBL.out.cell hb1).trans (hca k x hx 3 _ rfl)
        have f3 : wr.cell? ⟨b2, o2 + k * 6 + 3, none⟩ = some _ := (HBL.out.cell hb2).trans (hcb k y hy 3 _ rfl)
        have g4 : wr.cell? ⟨b1, o1 + k * 6 + 4, none⟩ = some _ := (HBL.out.cell hb1).trans (hca k x hx 4 _ rfl)
        have f4 : wr.cell? ⟨b2, o2 + k * 6 + 4, none⟩ = some _ := (HBL.out.cell hb2).trans (hcb k y hy 4 _ rfl)
        have g5 : wr.cell? ⟨b1, o1 + k * 6 + 5, none⟩ = some _ := (HBL.out.cell hb1).trans (hca k x hx 5 _ rfl)
        have f5 : wr.cell? ⟨b2, o2 + k * 6 + 5, none⟩ = some _ := (HBL.out.cell hb2).trans (hcb k y hy 5 _ rfl)
        have HX := Lib.hid hx
        have HY := Lib.hid hy
        have k0 : (0 : Int) ≤ (k : Int) := Int.natCast_nonneg _
        have k1 : (k : Int) < (n : Int) := by omega
        clear hca hcb hx hy
        by_cases hxy : x = y
        · subst hxy
          have HS := Lib.hid (heads_next HP.out HX.out HY.out rfl)
          clear hlt
          go_wp2
          go_quiet (fail)
          go_wp2
          go_roundw
          case rel => exact ⟨k + 1, by omega, by go_num, HS.out, below_drewN HBL.out _⟩
          case measure => simp [intOf]; omega
        · have HXY := Lib.hid hxy
          clear hxy
          by_cases e_id_dir : x.id.dir = y.id.dir
          rotate_left
          · clear hlt
            go_wp2
            go_quiet (fail)
            go_wp2
            go_ret
            exact ⟨false, rfl, by simp; exact list_ne HX.out HY.out HXY.out, below_drewN HBL.out _⟩
          by_cases e_id_orig : x.id.orig = y.id.orig
          rotate_left
          · clear hlt
            go_wp2
            go_quiet (fail)
            go_wp2
            go_ret
            exact ⟨false, rfl, by simp; exact list_ne HX.out HY.out HXY.out, below_drewN HBL.out _⟩
          by_cases e_id_kind : x.id.kind = y.id.kind
          rotate_left
          · clear hlt
            go_wp2
            go_quiet (fail)
            go_wp2
            go_ret
            exact ⟨false, rfl, by simp; exact list_ne HX.out HY.out HXY.out, below_drewN HBL.out _⟩
          by_cases e_id_nr : x.id.nr = y.id.nr
          rotate_left
          · clear hlt
            go_wp2
            go_quiet (fail)
            go_wp2
            go_ret
            exact ⟨false, rfl, by simp; exact list_ne HX.out HY.out HXY.out, below_drewN HBL.out _⟩
          by_cases e_seq : x.seq = y.seq
          rotate_left
          · clear hlt
            go_wp2
            go_quiet (fail)
            go_wp2
            go_ret
            exact ⟨false, rfl, by simp; exact list_ne HX.out HY.out HXY.out, below_drewN HBL.out _⟩
          by_cases e_life : x.life = y.life
          rotate_left
          · clear hlt
            go_wp2
            go_quiet (fail)
            go_wp2
            go_ret
            exact ⟨false, rfl, by simp; exact list_ne HX.out HY.out HXY.out, below_drewN HBL.out _⟩
          exact absurd (head_eq e_id_dir e_id_orig e_id_kind e_id_nr e_seq e_life) HXY.out
      · have HF : RowKit.Hid (l = m) := by
          have hp := HP.out
          have h1 := HN.out
          have h2 := HM.out
          rw [List.take_of_length_le (by omega), List.take_of_length_le (by omega)] at hp
          exact hp
        go_wp2
        go_ret
        exact ⟨_, rfl, by simp [HF.out], HBL.out⟩
  · have HL := Lib.hid hlen
    go_enter Try.func30, Try.ntmps30
    go_wp2
    go_ret
    exact ⟨_, rfl, by simp; intro h; subst h; exact HL.out rfl, Below.refl _ _⟩
end Go.Proofs.Ytcfgjhlecfhecaa
