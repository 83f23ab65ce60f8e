/-
  THE DOCUMENT's TABLE: a net is dropped.
-/
import Derived.Test.YtpoognkppnplpaaYRIns
import Derived.Test.YtpoognkppnplpaaYDrop
import Derived.Deep.RegionLaw
import Derived.IntWalk
namespace Go.Proofs.Ytpoognkppnplpaa
set_option linter.unusedSimpArgs false
set_option linter.unusedVariables false
open Go.RowKit
/-- append to a row of one's own, as one step of a region that draws. -/
theorem step_append_own {P : Program} {ops : Array Oper} {o : Oper} {a : Act} {w : World} {K : Act → World → Prop} {Q : Exit → Act → World → Prop} {E : Prop} (hgd : o.guard = none) (s x : Operand) (t : TypeId)
    (ho : o.op = .call { callee := .builtin .append, args := #[s, x], argTypes := #[t, t] })
    (base : Nat) (e : TypeId) (i : TypeInfo) (z : Value) (size bytes : Nat) (ht : P.underlying t = some (.slice e)) (hi : P.info? e = some i) (hz : i.zero = some z)
    (hsize : i.size = size) (hby : i.bytes = bytes) (hzs : z.cells.size = size) (hsz : 0 < size)
    (v : Value) (n : Nat) (xs : List Value) (hs : a.eval s = v) (hown : w.ownsRow base e size v n xs)
    (ad : Addr) (m c : Nat) (news : List Value) (hx : a.eval x = .slice (some ad) m c) (hl : news.length = m * size) (hnews : ∀ j u, news[j]? = some u → w.cell? (ad.add j) = some u) (h1 : ∀ u ∈ news, u.oneCell' = true)
    (h63 : n + m ≤ maxLen) (hbytes : (n + m) * bytes ≤ 140737488355328) (hbase : base ≤ w.heap.size)
    (h : ∀ v' w', w'.ownsRow base e size v' (n + m) (xs ++ news) → w.grownBy w' v.ownBlock → K (a.put o.dst v') w') :
    if Region.wanted o (yielded ops a.tmps) = true then Oper.wp P o a w K Q else E := by
  have hw : Region.wanted o (yielded ops a.tmps) = true := by simp [Region.wanted, hgd]
  rw [if_pos hw]
  exact wp_append_own w s x t ho base e i z size bytes ht hi hz hsize hby hzs hsz v n xs hs hown ad m c news hx hl hnews h1 h63 hbytes hbase (fun v' w' a b _ => h v' w' a b)
theorem slice_tail (g len c kk : Nat) (hk : kk ≤ len) (hc : len ≤ c) : ∃ ad : Addr, (∀ W : World, (Instr.slice 34 (.slice (some ⟨g, 0, none⟩) len c) (some (.int .i64 (kk : Nat))) none none).run Try.prog W = .ok (.slice (some ad) (len - kk) (c - kk)) W) ∧ ((c = kk ∧ ad = ⟨g, 0, none⟩) ∨ (c ≠ kk ∧ ad = ⟨g, kk * 3, none⟩)) := by
  by_cases hck : c = kk
  · refine ⟨⟨g, 0, none⟩, fun W => ?_, .inl ⟨hck, rfl⟩⟩
    have h2 : len = kk := by omega
    subst hck h2
    go_simp
  · refine ⟨⟨g, kk * 3, none⟩, fun W => ?_, .inr ⟨hck, rfl⟩⟩
    go_simp
theorem rdrop_not (base rb n : Nat) (b : Int) (room : Int) (L : List Ent) (w : World) (h : RefP w base rb room L) (hg : getL L (n, b) = none) :
    Calls Try.prog 21 #[pt (some rb), .agg #[.int .u32 n, .int .i64 b]] w fun e w' => e = .returned (.bool false) ∧ Below w.heap.size w w' := by
  have hp := rplace_any base rb n b room L _ (h.below ((Below.refl _ w).alloc (Nat.le_refl _) (.cells #[.int .u32 n, .int .i64 b] 25)))
  obtain ⟨v, h⟩ := h
  have hi := placeIs_get h.good.rises (n, b)
  rw [hg] at hi
  rw [hi] at hp
  generalize placeN L (n, b) = k at *
  have HB := Lib.hid ((Below.refl w.heap.size w).alloc (Nat.le_refl _) (.cells #[.int .u32 n, .int .i64 b] 25))
  clear h hi hg
  unfold pt at hp ⊢
  simp only [Option.isSome_none] at hp
  go_enter Try.func21, Try.ntmps21
  go_wp2_with (go_at_call 29; refine hp.mono ?_; rintro e w1 ⟨rfl, hb1⟩; have HB2 := Lib.hid (HB.out.trans (hb1.mono (by simp))); clear hb1)
  go_ret
  exact ⟨rfl, HB2.out⟩
set_option maxHeartbeats 4000000 in
set_option maxRecDepth 100000 in
theorem rdrop_is (base rb n : Nat) (b m : Int) (room : Int) (L : List Ent) (w : World) (h : RefP w base rb room L) (hg : getL L (n, b) = some m) :
    Calls Try.prog 21 #[pt (some rb), .agg #[.int .u32 n, .int .i64 b]] w fun e w' => e = .returned (.bool true) ∧ RPutEnd w base rb room (dropL (n, b) L) w' := by
  have hpl := rplace_any base rb n b room L _ (h.below ((Below.refl _ w).alloc (Nat.le_refl _) (.cells #[.int .u32 n, .int .i64 b] 25)))
  obtain ⟨v, h⟩ := h
  have hi := placeIs_get h.good.rises (n, b)
  rw [hg] at hi
  rw [hi] at hpl
  have hpp := drop_place h.good.rises hg
  have hx := place_get h.good.rises hg
  have hlt := (List.getElem?_eq_some_iff.1 hx).1
  have hlen := h.len
  have hgood := h.good.drop (n, b)
  obtain ⟨g, c, rfl, hcap⟩ : ∃ g c, v = .slice (some ⟨g, 0, none⟩) L.length c ∧ L.length ≤ c := by
    rcases h.own.form with ⟨_, e⟩ | ⟨g, cap, e, _, _, hc, _⟩
    · rw [e] at hlt; simp at hlt
    · exact ⟨g, cap, e, hc⟩
  have hH : ∀ W, Below w.heap.size w W → Ref W base rb room L (.slice (some ⟨g, 0, none⟩) L.length c) := fun W hW => h.below hW
  have hll : (dropL (n, b) L).length ≤ 4096 := Nat.le_trans (List.length_filter_le _ _) h.len
  have hfin : ∀ (W : World) (v3 : Value) (B : Nat), w.heap.size ≤ B → Below w.heap.size w W → OwnE W B v3 (dropL (n, b) L) → RPutEnd w base rb room (dropL (n, b) L) (W.setCell ⟨rb, 1, none⟩ v3) := fun W v3 B hB hW ow => by
    have h2 := hH W hW
    have hbb := h.base
    exact ⟨⟨v3, h2.setRow (own_monoE ow (Nat.le_trans hbb hB)) hgood hll⟩, ⟨(hW.mono hbb).setCell (p := ⟨rb, 1, none⟩) h.le _, (KeepT.below hW).trans (KeepT.setCell h2.box (by unfold SR; decide) _)⟩⟩
  rw [hpp] at hfin
  rw [hpp]
  obtain ⟨len, hl⟩ : ∃ len, L.length = len := ⟨_, rfl⟩
  rw [hl] at hH hlt hlen hcap
  have HH := Lib.hid hH
  have HFIN := Lib.hid hfin
  have HL := Lib.hid hl
  have hcl : ∀ (W : World), Below w.heap.size w W → _ := fun W hW => (hH W hW).cells
  have HCL := Lib.hid hcl
  have HB := Lib.hid ((Below.refl w.heap.size w).alloc (Nat.le_refl _) (.cells #[.int .u32 n, .int .i64 b] 25))
  obtain ⟨i0, hi0, hz0, hz1, hz2⟩ := info_parts Try.infoKn
  generalize placeN L (n, b) = k at *
  have htk : (L.take k).length = k := by rw [List.length_take, hl]; omega
  have HTK := Lib.hid htk
  have HRL : Hid ((rowE (L.take k)).length = k * 3) := by unfold Hid; rw [rowE_length, htk]
  have HRD : Hid ((rowE (L.drop (k + 1))).length = (len - (k + 1)) * 3) := by unfold Hid; rw [rowE_length, List.length_drop, hl]
  clear h hi hg hpp hx hgood hH hll hfin hl hcl htk
  unfold pt at hpl ⊢
  simp only [Option.isSome_some, Option.map_some] at hpl ⊢
  have hk0 : (0 : Int) ≤ k := by omega
  have hkc : k ≤ c := by omega
  have ek : IntKind.i64.wrap ((k : Int) + 1) = (k : Int) + 1 := IntWalk.i64_in _ (by omega)
  go_enter Try.func21, Try.ntmps21
  go_wp2_with (go_at_call 29; refine hpl.mono ?_; rintro e w2 ⟨rfl, hb1⟩; have hb3 := HB.out.trans (hb1.mono (by simp)); obtain ⟨_, t1, _, f1, t4⟩ := HCL.out _ hb3; have HB2 := Lib.hid hb3; clear hb1 hb3)
  have hbe : Below w2.heap.size w2 (w2.alloc (.cells #[] 62)).drew := ((Below.refl _ _).alloc (Nat.le_refl _) _).drew
  have HE : Hid (OwnE (w2.alloc (.cells #[] 62)).drew w2.heap.size (.slice (some ⟨w2.heap.size, 0, none⟩) 0 0) []) := OwnE.empty w2 (Nat.le_refl _)
  have R4 := HH.out _ (HB2.out.trans (hbe.mono HB2.out.size))
  have HF4 := Lib.hid (R4.own.firsts k)
  have HBE := Lib.hid hbe
  clear R4 hbe
  obtain ⟨ad, hsl, hpart⟩ : ∃ ad : Addr, (∀ W : World, (Instr.slice 34 (.slice (some ⟨g, 0, none⟩) len c) (some (.int .i64 ((k : Int) + 1))) none none).run Try.prog W = .ok (.slice (some ad) (len - (k + 1)) (c - (k + 1))) W) ∧ ∀ W, Below w.heap.size w W → ∀ j u, (rowE (L.drop (k + 1)))[j]? = some u → W.cell? (ad.add j) = some u := by
    obtain ⟨ad, hrun, hcs⟩ := slice_tail g len c (k + 1) (by omega) hcap
    refine ⟨ad, fun W => ?_, fun W hW j u hu => ?_⟩
    · have h := hrun W
      rw [show ((k + 1 : Nat) : Int) = (k : Int) + 1 by omega] at h
      exact h
    · rcases hcs with ⟨h1, rfl⟩ | ⟨h1, rfl⟩
      · have : L.drop (k + 1) = [] := List.drop_eq_nil_of_le (by rw [HL.out]; omega)
        rw [this] at hu
        simp [rowE] at hu
      · exact (HH.out W hW).own.part (k + 1) j u hu
  have HPT := Lib.hid hpart
  clear hpart
  go_region_law (first
    | (refine step_append_own rfl (.tmp 15) (.tmp 21) 34 rfl w2.heap.size 62 i0 (.agg #[.int .u32 0, .int .i64 0, .int .i64 0]) 3 24 Try.underlying34 hi0 hz0 hz1 hz2 rfl (by decide) _ 0 [] rfl HE.out ⟨g, 0, none⟩ k c (rowE (L.take k)) rfl HRL.out HF4.out rowE_one_cell (by unfold maxLen; omega) (by omega) (by simp) ?_; intro v1 w4 ho1 hg1; have HO1 : Hid (OwnE w4 w2.heap.size v1 ([] ++ L.take k)) := OwnE.join HTK.out.symm ho1; have hb4 : Below w2.heap.size w2 w4 := HBE.out.grown hg1 (by simp) (fun j hj => (World.ownsRow.lt HE.out j hj).1); have HB5 := Lib.hid hb4; have hbw := HB2.out.trans (hb4.mono HB2.out.size); have HBW := Lib.hid hbw; obtain ⟨_, t1, _, f1, t4⟩ := HCL.out _ hbw; clear ho1 hg1 hb4 hbw; obtain ⟨A1, m1, c1, rfl⟩ : ∃ A m c, v1 = .slice A m c := (by rcases HO1.out.form with ⟨e, _⟩ | ⟨g2, c2, e, _⟩ <;> exact ⟨_, _, _, e⟩))
    | (refine step_append_own rfl (.tmp 22) (.tmp 29) 34 rfl w2.heap.size 62 i0 (.agg #[.int .u32 0, .int .i64 0, .int .i64 0]) 3 24 Try.underlying34 hi0 hz0 hz1 hz2 rfl (by decide) _ _ _ rfl HO1.out ad (len - (k + 1)) (c - (k + 1)) (rowE (L.drop (k + 1))) rfl HRD.out (HPT.out _ HBW.out) rowE_one_cell (by rw [List.nil_append, HTK.out]; unfold maxLen; omega) (by rw [List.nil_append, HTK.out]; omega) HB5.out.size ?_; intro v2 w5 ho2 hg2; have HO2 : Hid (OwnE w5 w2.heap.size v2 (([] ++ L.take k) ++ L.drop (k + 1))) := OwnE.join (by rw [List.length_drop, HL.out]) ho2; have hb6 : Below w2.heap.size w2 w5 := HB5.out.grown hg2 HB5.out.size (fun j hj => (World.ownsRow.lt HO1.out j hj).1); have hbw2 := HB2.out.trans (hb6.mono HB2.out.size); have HBW2 := Lib.hid hbw2; obtain ⟨_, t1, _, f1, t4⟩ := HCL.out _ hbw2; clear ho2 hg2 hb6 hbw2; obtain ⟨A2, m2, c2, rfl⟩ : ∃ A m c, v2 = .slice A m c := (by rcases HO2.out.form with ⟨e, _⟩ | ⟨g2, c2, e, _⟩ <;> exact ⟨_, _, _, e⟩)))
  all_goals
    go_wp2
    go_ret
    exact ⟨rfl, HFIN.out w5 _ w2.heap.size HB2.out.size HBW2.out HO2.out⟩
theorem rdrop_any (base rb n : Nat) (b : Int) (room : Int) (L : List Ent) (w : World) (h : RefP w base rb room L) :
    Calls Try.prog 21 #[pt (some rb), .agg #[.int .u32 n, .int .i64 b]] w fun e w' => e = .returned (.bool (dropE L (n, b))) ∧ RPutEnd w base rb room (dropL (n, b) L) w' := by
  have hb : base ≤ w.heap.size := by obtain ⟨v, h⟩ := h; exact h.base
  unfold dropE
  cases hg : getL L (n, b) with
  | none =>
    rw [dropL_none hg]
    exact (rdrop_not base rb n b room L w h hg).mono fun e w' ⟨he, hw⟩ => ⟨he, h.below hw, TurnsR.below hw hb⟩
  | some m => exact rdrop_is base rb n b m room L w h hg
end Go.Proofs.Ytpoognkppnplpaa
