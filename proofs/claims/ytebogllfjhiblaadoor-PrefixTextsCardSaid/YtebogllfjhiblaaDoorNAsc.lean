/-
  PREFIXES: the valid ones of a list, ascending; a list joined: what the program answers, as soon as its sort does.
-/
import Derived.Test.YtebogllfjhiblaaDoorNAdd
import Derived.Sort.LotA
namespace Go.Proofs.YtebogllfjhiblaaDoor
set_option linter.unusedVariables false
open Go.RowKit
/-- A block that holds one value. -/
def Bx1 (W : World) (k : Nat) (T : TypeId) (v : Value) : Prop := W.heap[k]? = some (.cells #[v] T (0, 0))
theorem Bx1.lt {W : World} {k : Nat} {T : TypeId} {a : Value} (h : Bx1 W k T a) : k < W.heap.size := (Array.getElem?_eq_some_iff.1 h).1
theorem Bx1.new (w : World) (T : TypeId) (a : Value) : Bx1 (w.alloc (.cells #[a] T)) w.heap.size T a := heap_alloc_new w _
theorem Bx1.alloc {W : World} {k : Nat} {T : TypeId} {a : Value} (h : Bx1 W k T a) (o : Obj) : Bx1 (W.alloc o) k T a := by
  have hl := h.lt
  unfold Bx1 at h ⊢
  rw [heap_alloc_old W o hl, h]
theorem Bx1.keep {B : Nat} {W W' : World} {k : Nat} {T : TypeId} {a : Value} (h : Bx1 W k T a) (hb : Go.RowKit.Below B W W') (hk : k < B) : Bx1 W' k T a := by
  unfold Bx1 at h ⊢
  rw [hb.block k hk, h]
theorem Bx1.grown {W W' : World} {k : Nat} {T : TypeId} {a : Value} {r : Option Nat} (h : Bx1 W k T a) (hg : W.grownBy W' r) (hr : some k ≠ r) : Bx1 W' k T a := by
  have hl := h.lt
  unfold Bx1 at h ⊢
  rw [hg.block k hl hr, h]
theorem Bx1.cells {W : World} {k : Nat} {T : TypeId} {a : Value} (h : Bx1 W k T a) : W.cell? ⟨k, 0, none⟩ = some a ∧ W.frozen? ⟨k, 0, none⟩ = false := by
  unfold Bx1 at h
  simp [World.cell?, World.frozen?, h]
theorem Bx1.set {W : World} {k : Nat} {T : TypeId} {a : Value} (h : Bx1 W k T a) (x : Value) : Bx1 (W.setCell ⟨k, 0, none⟩ x) k T x := by
  unfold Bx1 at h ⊢
  rw [heap_setCell_same W k 0 _ _ x h]
  rfl
theorem set1_grown (W : World) (k : Nat) (x : Value) : W.grownBy (W.setCell ⟨k, 0, none⟩ x) (some k) :=
  ⟨rfl, rfl, rfl, by simp, fun j _ hne => by
    have hj : j ≠ k := fun e => hne (by rw [e])
    rw [heap_setCell_other _ _ _ _ hj]⟩
def ltP (p q : Nat × Int) : Bool := decide (cmpP p q < 0)
def sortP (l : List (Nat × Int)) : List (Nat × Int) := l.mergeSort fun x y => !ltP y x
/-- What the program's sort owes. -/
def SortOk (L : List (Nat × Int)) : Prop := ∀ (base Bs : Nat) (v : Value) (W : World), OwnP W base v L → Bx1 W Bs 37 v → Bs < base → base ≤ W.heap.size →
  Calls Tryd.prog 47 #[.iface 37 v, .func (.func 48) #[] #[.pointer (some ⟨Bs, 0, none⟩)]] W fun e w' => e = .returned (.tuple #[]) ∧ OwnP w' base v (sortP L) ∧ W.grownBy w' v.ownBlock
theorem own_mono {W : World} {base b : Nat} {v : Value} {l : List (Nat × Int)} (h : OwnP W base v l) (hb : b ≤ base) : OwnP W b v l := by
  refine ⟨h.1, ?_⟩
  rcases h.2 with h2 | ⟨g, cap, cur, e, hg, r⟩
  · exact .inl h2
  · exact .inr ⟨g, cap, cur, e, by omega, r⟩
structure AscAt (w : World) (l : List (Nat × Int)) (k : Nat) (v : Value) (wr : World) : Prop where
  box : Bx1 wr w.heap.size 37 v
  own : OwnP wr (w.heap.size + 1) v ((l.take k).filter rightP)
  bel : Below w.heap.size w wr
theorem AscAt.step {w : World} {l : List (Nat × Int)} {k : Nat} {v : Value} {wr w1 : World} (h : AscAt w l k v wr) (hb : Below wr.heap.size wr w1) : AscAt w l k v w1 :=
  ⟨h.box.keep hb h.box.lt, h.own.below hb (Nat.le_refl _), h.bel.trans (hb.mono h.bel.size)⟩
theorem filter_take_len (l : List (Nat × Int)) (k : Nat) (p : Nat × Int → Bool) : ((l.take k).filter p).length ≤ l.length := Nat.le_trans (List.length_filter_le _ _) (by rw [List.length_take]; omega)
theorem filter_take_succ {l : List (Nat × Int)} {k : Nat} {p : Nat × Int} (hp : l[k]? = some p) (f : Nat × Int → Bool) : (l.take (k + 1)).filter f = (l.take k).filter f ++ if f p = true then [p] else [] := by
  rw [List.take_add_one, hp, List.filter_append]
  by_cases h : f p = true
  · rw [if_pos h]; simp [h]
  · rw [if_neg h]; simp [h]
set_option maxHeartbeats 1600000 in
set_option maxRecDepth 100000 in
theorem asc_any (a : Option Addr) (cap : Nat) (l : List (Nat × Int)) (hl : l.length ≤ 1000) (hn : ∀ p ∈ l, p.1 < 4294967296) (hs : SortOk (l.filter rightP)) (w : World) (hr : RdP w.heap.size w a l) :
    Calls Tryd.prog 39 #[.slice a l.length cap] w fun e w' => (∃ v', e = .returned v' ∧ OwnP w' w.heap.size v' (sortP (l.filter rightP))) ∧ Below w.heap.size w w' := by
  have hat : AscAt w l 0 (.slice none 0 0) (w.alloc (.cells #[.slice none 0 0] 37)) := ⟨Bx1.new _ _ _, OwnP.nil _ _, (Below.refl _ _).alloc (Nat.le_refl _) _⟩
  have HAT := Lib.hid hat
  have HR := Lib.hid hr
  have HN := Lib.hid hn
  have HS := Lib.hid hs
  obtain ⟨n, hnl⟩ : ∃ n, l.length = n := ⟨_, rfl⟩
  rw [hnl] at hl ⊢
  have HNL := Lib.hid hnl
  obtain ⟨i0, hi, hz0, hz1, hz2⟩ := info_parts Tryd.infoPx
  clear hat hr hn hs hnl
  go_enter Tryd.func39, Tryd.ntmps39
  go_wp2
  go_loopw [8] (fun i wr => ∃ (k : Nat) (v : Value), Hid (k ≤ n) ∧ i = .int .i64 k ∧ Hid (AscAt w l k v wr)) (fun i _ => n - (intOf i).toNat)
  case atStart => exact ⟨0, _, Nat.zero_le _, rfl, HAT⟩
  case round =>
    obtain ⟨k, v, HK, rfl, HA⟩ := hrel
    clear HAT
    obtain ⟨v0, _⟩ := HA.out.box.cells
    have hz := HA.out.box.lt
    by_cases hlt : k < n
    · obtain ⟨p, hp⟩ : ∃ p, l[k]? = some p := ⟨_, List.getElem?_eq_getElem (by have := HNL.out; omega)⟩
      obtain ⟨b, off, ha, hbn, hc⟩ := HR.out (by have := HNL.out; omega)
      subst ha
      have c0 := keepC HA.out.bel hbn (hc k p hp).1
      have c1 := keepC HA.out.bel hbn (hc k p hp).2
      have HP := Lib.hid hp
      have hrt := right_any p.1 (HN.out p (List.mem_of_getElem? hp)) p.2
      clear hc hp
      cases hright : rightP p with
      | false =>
        rw [show ((p.1, p.2) : Nat × Int) = p from rfl, hright] at hrt
        have HF := Lib.hid hright
        clear hright
        go_wp2_with (go_at_call 16; refine (hrt _).mono ?_; rintro e w1 ⟨rfl, hb1⟩; have HA1 := Lib.hid (HA.out.step (boxedA hb1)); clear hb1)
        go_roundw
        case rel =>
          have e := filter_take_succ HP.out rightP
          rw [if_neg (by rw [HF.out]; decide), List.append_nil] at e
          exact ⟨k + 1, v, by unfold Hid; omega, by go_num, ⟨HA1.out.box, by rw [e]; exact HA1.out.own, HA1.out.bel⟩⟩
        case measure => simp [intOf]; omega
      | true =>
        rw [show ((p.1, p.2) : Nat × Int) = p from rfl, hright] at hrt
        have HT := Lib.hid hright
        clear hright
        go_wp2_with (first
          | (go_at_call 16; refine (hrt _).mono ?_; rintro e w1 ⟨rfl, hb1⟩; have k5 := (Bx.new wr (.int .u32 p.1) (.int .i64 p.2)).keep hb1 (by simp); obtain ⟨e0, e1, _, _⟩ := k5.cells; have ha1 := HA.out.step (boxedA hb1); obtain ⟨v1, f1⟩ := ha1.box.cells; have z1 : w.heap.size < w1.heap.size := ha1.box.lt; have HA1 := Lib.hid ha1; clear hb1 ha1 k5)
          | (at_builtin; skip; refine Hid.out ?_))
        refine Lib.hid ?_
        have ow := HA1.out.own.alloc (.cells #[.int .u32 p.1, .int .i64 p.2] 24)
        have be := HA1.out.bel.alloc HA1.out.bel.size (.cells #[.int .u32 p.1, .int .i64 p.2] 24)
        have bx := HA1.out.box.alloc (.cells #[.int .u32 p.1, .int .i64 p.2] 24)
        have hfl := filter_take_len l k rightP
        have hln := HNL.out
        refine wpList_append_own _ rfl _ _ 37 rfl (w.heap.size + 1) 24 i0 (.agg #[.int .u32 0, .int .i64 0]) 2 16 Tryd.underlying37 hi hz0 hz1 hz2 rfl (by decide) _ _ _ rfl ow ⟨_, 0, none⟩ 1 1 (cellsP p) rfl rfl (cell_two_new w1 _ _ _) (rowP_one_cell1 p) (by unfold maxLen; omega) (by omega) (by simp only [World.size_alloc]; omega) ?_
        intro v2 w2 ho2 hg2 hn2
        have HO : Hid (OwnP w2 (w.heap.size + 1) v2 ((l.take k).filter rightP ++ [p])) := OwnP.push ho2
        have hne : some w.heap.size ≠ v.ownBlock := fun e => by have := (World.ownsRow.lt ow _ e.symm).1; omega
        have b2 := bx.grown hg2 hne
        obtain ⟨g0, g1⟩ := b2.cells
        have HB2 := Lib.hid b2
        have HL2 := Lib.hid (be.grown hg2 (by simp only [World.size_alloc]; omega) (fun j hj => by have := (World.ownsRow.lt ow _ hj).1; omega))
        obtain ⟨A2, m2, c2, rfl⟩ : ∃ A m c, v2 = .slice A m c := by
          rcases HO.out.form with ⟨e, _⟩ | ⟨g2, c2, e, _⟩
          · exact ⟨_, _, _, e⟩
          · exact ⟨_, _, _, e⟩
        clear ho2 hg2 hn2 ow be bx hne b2 hfl hln
        go_wp2
        go_roundw
        case rel =>
          have e := filter_take_succ HP.out rightP
          rw [if_pos HT.out] at e
          have ow3 : OwnP (w2.setCell ⟨w.heap.size, 0, none⟩ (.slice A2 m2 c2)) (w.heap.size + 1) (.slice A2 m2 c2) ((l.take (k + 1)).filter rightP) := by
            rw [e]
            refine World.ownsRow.kept HO.out (set1_grown w2 w.heap.size (.slice A2 m2 c2)) ?_
            cases hv : (Value.slice A2 m2 c2).ownBlock with
            | none => exact .inl rfl
            | some g => exact .inr (fun e2 => by injection e2 with e2; have := (World.ownsRow.lt HO.out g hv).1; omega)
          exact ⟨k + 1, _, by unfold Hid; omega, by go_num, ⟨HB2.out.set _, ow3, HL2.out.setCell (p := ⟨w.heap.size, 0, none⟩) (Nat.le_refl _) _⟩⟩
        case measure => simp [intOf]; omega
    · obtain rfl : k = n := by have := HK.out; omega
      have hf : (l.take k).filter rightP = l.filter rightP := by rw [List.take_of_length_le (by have := HNL.out; omega)]
      have ow := HA.out.own
      rw [hf] at ow
      have hsrt := HS.out (w.heap.size + 1) w.heap.size v wr ow HA.out.box (by omega) (by omega)
      have hne : some w.heap.size ≠ v.ownBlock := fun e => by have := (World.ownsRow.lt ow _ e.symm).1; omega
      have hrow : ∀ j, v.ownBlock = some j → w.heap.size ≤ j := fun j hj => by have := (World.ownsRow.lt ow _ hj).1; omega
      have HNE := Lib.hid hne
      have HRW := Lib.hid hrow
      clear hf ow hne hrow
      go_wp2_with (go_at_call 47; refine hsrt.mono ?_; rintro e w1 ⟨rfl, ho1, hg1⟩; have b1 := HA.out.box.grown hg1 HNE.out; obtain ⟨x0, _⟩ := b1.cells; have HO := Lib.hid ho1; have HL := Lib.hid (HA.out.bel.grown hg1 HA.out.bel.size HRW.out); clear ho1 hg1 b1)
      go_ret
      exact ⟨⟨v, rfl, own_mono HO.out (Nat.le_succ _)⟩, HL.out⟩
end Go.Proofs.YtebogllfjhiblaaDoor
