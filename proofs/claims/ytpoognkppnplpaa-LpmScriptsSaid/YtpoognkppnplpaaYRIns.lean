/-
  THE DOCUMENT's TABLE: a net is put that was not known.
-/
import Derived.Test.YtpoognkppnplpaaYRPut
namespace Go.Proofs.Ytpoognkppnplpaa
set_option linter.unusedSimpArgs false
set_option linter.unusedVariables false
open Go.RowKit
theorem OwnE.empty (W : World) {base : Nat} (hb : base ≤ W.heap.size) : OwnE (W.alloc (.cells #[] 62)) base (.slice (some ⟨W.heap.size, 0, none⟩) 0 0) [] :=
  ⟨rfl, .inr ⟨W.heap.size, 0, #[], rfl, hb, heap_alloc_new W _, Nat.le_refl _, by unfold maxLen; omega, rfl, rfl⟩⟩
theorem OwnE.below {W W' : World} {base : Nat} {v : Value} {l : List Ent} (h : OwnE W base v l) (k : Below W.heap.size W W') : OwnE W' base v l := h.keepT (S := SP) (by unfold SP; decide) (KeepT.below k)
theorem OwnE.join {W : World} {base : Nat} {v : Value} {l m : List Ent} {k : Nat} (hk : k = m.length) (h : W.ownsRow base 62 3 v (l.length + k) (rowE l ++ rowE m)) : OwnE W base v (l ++ m) := by
  subst hk
  unfold OwnE
  rw [rowE_append, List.length_append]
  exact h
theorem cellsE_one (p : Ent) : ∀ u ∈ cellsE p, u.oneCell' = true := by rw [← rowE_one]; exact rowE_one_cell
theorem cells_three_new (W : World) (x : Ent) (T : TypeId) : ∀ j u, (cellsE x)[j]? = some u → (W.alloc (.cells #[.int .u32 x.1.1, .int .i64 x.1.2, .int .i64 x.2] T)).cell? ((⟨W.heap.size, 0, none⟩ : Addr).add j) = some u := by
  intro j u hu
  have hadd : (⟨W.heap.size, 0, none⟩ : Addr).add j = ⟨W.heap.size, j, none⟩ := by unfold Addr.add; split <;> simp_all
  rw [hadd]
  exact (World.cell?_alloc_new (w := W) _ _ j).trans (by simpa [cellsE] using hu)
/-- What a part of a row reads. -/
theorem OwnE.part {W : World} {base g n cap : Nat} {l : List Ent} (h : OwnE W base (.slice (some ⟨g, 0, none⟩) n cap) l) (k : Nat) : ∀ j u, (rowE (l.drop k))[j]? = some u → W.cell? ((⟨g, k * 3, none⟩ : Addr).add j) = some u := by
  intro j u hu
  rw [rowE_drop, List.getElem?_drop] at hu
  have := World.ownsRow.cells h (g := g) rfl _ _ hu
  have h1 : (⟨g, 0, none⟩ : Addr).add (k * 3 + j) = ⟨g, k * 3 + j, none⟩ := by unfold Addr.add; split <;> simp_all
  have h2 : (⟨g, k * 3, none⟩ : Addr).add j = ⟨g, k * 3 + j, none⟩ := by unfold Addr.add; split <;> simp_all
  rw [h1] at this
  rw [h2]
  exact this
theorem OwnE.firsts {W : World} {base g n cap : Nat} {l : List Ent} (h : OwnE W base (.slice (some ⟨g, 0, none⟩) n cap) l) (k : Nat) : ∀ j u, (rowE (l.take k))[j]? = some u → W.cell? ((⟨g, 0, none⟩ : Addr).add j) = some u := by
  intro j u hu
  rw [rowE_take, List.getElem?_take] at hu
  split at hu
  · exact World.ownsRow.cells h (g := g) rfl _ _ hu
  · cases hu
theorem Ref.setRow {W : World} {base rb : Nat} {room : Int} {L L' : List Ent} {v v' : Value} (h : Ref W base rb room L v) (ow : OwnE W base v' L') (hg : Good L') (hl : L'.length ≤ 4096) : Ref (W.setCell ⟨rb, 1, none⟩ v') base rb room L' v' :=
  ⟨heap_setCell_same W rb 1 _ _ v' h.box, ow.keepT (S := fun T => T = 62) rfl (KeepT.setCell h.box (by decide) _), h.le, hg, hl, h.room, by simpa using h.base⟩
theorem rput_new (base rb n : Nat) (hn : n < 4294967296) (b kk : Int) (room : Int) (L : List Ent) (w : World) (h : RefP w base rb room L) (hr : rightP (n, b) = true) (hg : getL L (n, b) = none) (hroom : (L.length : Int) < room) :
    Calls Try.prog 27 #[pt (some rb), .agg #[.int .u32 n, .int .i64 b], .int .i64 kk] w fun e w' => e = .returned (.int .i64 0) ∧ RPutEnd w base rb room (putL (n, b) kk L) w' := by
  have hrt := rright_any n hn b
  rw [hr] at hrt
  have hpl := fun W (hW : Below w.heap.size w W) => rplace_any base rb n b room L W (h.below hW)
  obtain ⟨v, h⟩ := h
  have hi := placeIs_get h.good.rises (n, b)
  rw [hg] at hi
  rw [hi] at hpl
  have hpp := put_place h.good.rises (n, b) kk
  rw [hg] at hpp
  simp only [Option.isSome_none, Bool.false_eq_true, if_false] at hpp
  have hple := placeN_le L (n, b)
  have hlen := h.len
  have hgood := h.good.put hr hn kk
  have hr2 := h.room
  obtain ⟨a, c, hv⟩ := h.shape
  have hnil : a = none → L = [] ∧ c = 0 := fun e => by
    rcases h.own.form with ⟨e1, e2⟩ | ⟨g, cap, e1, _⟩
    · rw [hv] at e1; injection e1 with _ _ e3; exact ⟨e2, e3⟩
    · rw [hv] at e1; injection e1 with e3; rw [e] at e3; cases e3
  have hsome : ∀ x, a = some x → ∃ g, x = ⟨g, 0, none⟩ ∧ L.length ≤ c := fun x e => by
    rcases h.own.form with ⟨e1, e2⟩ | ⟨g, cap, e1, _, _, e2, _⟩
    · rw [hv, e] at e1; injection e1 with e3; cases e3
    · rw [hv, e] at e1; injection e1 with e3 e4 e5; injection e3 with e3; exact ⟨g, e3, by omega⟩
  have hH : ∀ W, Below w.heap.size w W → Ref W base rb room L v := fun W hW => h.below hW
  obtain ⟨len, hl⟩ : ∃ len, L.length = len := ⟨_, rfl⟩
  rw [hl] at hv hroom hple hlen hsome
  subst hv
  have HH := Lib.hid hH
  have HPP := Lib.hid hpp
  have HGOOD := Lib.hid hgood
  have HL := Lib.hid hl
  have HPL := Lib.hid hpl
  have HB := Lib.hid ((Below.refl w.heap.size w).alloc (Nat.le_refl _) (.cells #[.int .u32 n, .int .i64 b] 25))
  have BX := Lib.hid (Bx.new w (.int .u32 n) (.int .i64 b))
  have HBASE := Lib.hid h.base
  have hcl := fun (W : World) (hW : Below w.heap.size w W) => (hH W hW).cells
  have HCL := Lib.hid hcl
  have hll : (putL (n, b) kk L).length ≤ 4096 := by
    rw [hpp, List.length_append, List.length_append, List.length_take, List.length_drop]
    simp
    omega
  have hfin : ∀ (W : World) (v3 : Value) (B : Nat), w.heap.size ≤ B → Below w.heap.size w W → OwnE W B v3 (putL (n, b) kk L) → RPutEnd w base rb room (putL (n, b) kk L) (W.setCell ⟨rb, 1, none⟩ v3) := fun W v3 B hB hW ow => by
    have h2 := hH W hW
    have hbb := h.base
    exact ⟨⟨v3, h2.setRow (own_monoE ow (Nat.le_trans hbb hB)) hgood hll⟩, ⟨(hW.mono hbb).setCell (p := ⟨rb, 1, none⟩) h.le _, (KeepT.below hW).trans (KeepT.setCell h2.box (by unfold SR; decide) _)⟩⟩
  rw [hpp] at hfin
  rw [hpp]
  have HFIN := Lib.hid hfin
  obtain ⟨i0, hi0, hz0, hz1, hz2⟩ := info_parts Try.infoKn
  have hd : decide (room ≤ (len : Int)) = false := decide_eq_false (by omega)
  generalize placeN L (n, b) = k at *
  have HS := Lib.hid hsome
  have HN := Lib.hid hnil
  clear hpl h hi hr hg hpp hgood hl hH hcl hsome hnil hfin hll HPP HGOOD
  unfold pt at HPL ⊢
  simp only [Option.isSome_none, Option.map_some] at HPL ⊢
  go_enter Try.func27, Try.ntmps27
  go_wp2_with (first
    | (go_at_call 39; refine (hrt _).mono ?_; rintro e w1 ⟨rfl, hb1⟩; have k5 := BX.out.keep hb1 (by simp); obtain ⟨c0, c1, _, _⟩ := k5.cells; have BX1 := Lib.hid k5; have HB1 := Lib.hid (HB.out.trans (hb1.mono (by simp))); clear hb1 k5)
    | (go_at_call 29; refine (HPL.out _ HB1.out).mono ?_; rintro e w2 ⟨rfl, hb2⟩; have hb3 := HB1.out.trans (hb2.mono HB1.out.size); obtain ⟨t0, t1, _, _, t4⟩ := HCL.out _ hb3; have k6 := BX1.out.keep hb2 BX1.out.lt; have BX2 := Lib.hid k6; have HB2 := Lib.hid hb3; clear hb2 hb3 k6))
  go_quiet (fail)
  have hb3 := bel_drawn HB2.out nq
  have bx3 : Bx (w2.drewN nq) w.heap.size (.int .u32 n) (.int .i64 b) := BX2.out
  generalize w2.drewN nq = w3 at *
  obtain ⟨t0, t1, _, _, t4⟩ := HCL.out _ hb3
  have HB3 := Lib.hid hb3
  have BX3 := Lib.hid bx3
  clear hb3 bx3 BX2 HB2 BX1 HB1
  have HE := Lib.hid (OwnE.empty w3 (base := w3.heap.size) (Nat.le_refl _))
  have HB4 := Lib.hid ((Below.refl w3.heap.size w3).alloc (Nat.le_refl _) (.cells #[] 62))
  cases a with
  | none =>
    obtain ⟨hLn, hc⟩ := HN.out rfl
    subst hc
    obtain rfl : len = 0 := by rw [← HL.out, hLn]; rfl
    obtain rfl : k = 0 := by omega
    have HLN := Lib.hid hLn
    clear hLn HS HN
    obtain ⟨d0, d1, _, _⟩ := BX3.out.cells
    have z3 := BX3.out.lt
    go_wp2_with (at_builtin; skip; refine Hid.out ?_)
    refine Lib.hid ?_
    refine wpList_append_own_none rfl _ _ 34 rfl w3.heap.size 62 i0 3 Try.underlying34 hi0 _ _ _ rfl HE.out rfl ?_
    go_wp2_with (at_builtin; skip; refine Hid.out ?_)
    refine Lib.hid ?_
    have ow := HE.out.below ((Below.refl _ (w3.alloc (.cells #[] 62))).alloc (Nat.le_refl _) (.cells #[.int .u32 n, .int .i64 b, .int .i64 kk] 62))
    have hnw := cells_three_new (w3.alloc (.cells #[] 62)) ((n, b), kk) 62
    rw [World.size_alloc] at hnw
    refine wpList_append_own _ rfl _ _ 34 rfl w3.heap.size 62 i0 (.agg #[.int .u32 0, .int .i64 0, .int .i64 0]) 3 24 Try.underlying34 hi0 hz0 hz1 hz2 rfl (by decide) _ _ _ rfl ow ⟨_, 0, none⟩ 1 1 (cellsE ((n, b), kk)) rfl rfl hnw (cellsE_one _) (by simp; unfold maxLen; omega) (by simp) (by simp; omega) ?_
    intro v2 w5 ho2 hg2 _
    have HO2 : Hid (OwnE w5 w3.heap.size v2 ([] ++ [((n, b), kk)])) := OwnE.join rfl (by rw [rowE_one]; exact ho2)
    have hb5 : Below w3.heap.size w3 w5 := (HB4.out.alloc (by simp) (.cells #[.int .u32 n, .int .i64 b, .int .i64 kk] 62)).grown hg2 (by simp; omega) (fun j hj => (World.ownsRow.lt ow j hj).1)
    have HB5 := Lib.hid hb5
    have hbw := HB3.out.trans (hb5.mono HB3.out.size)
    have HBW := Lib.hid hbw
    clear ho2 hg2 ow hnw hb5
    obtain ⟨t0, t1, _, _, t4⟩ := HCL.out _ hbw
    obtain ⟨_, _, _, f1, _⟩ := HCL.out _ hbw
    clear hbw
    obtain ⟨A2, m2, c2, rfl⟩ : ∃ A m c, v2 = .slice A m c := by
      rcases HO2.out.form with ⟨e, _⟩ | ⟨g2, c2, e, _⟩
      · exact ⟨_, _, _, e⟩
      · exact ⟨_, _, _, e⟩
    go_wp2_with (at_builtin; skip; refine Hid.out ?_)
    refine Lib.hid ?_
    refine wpList_append_own_none rfl _ _ 34 rfl w3.heap.size 62 i0 3 Try.underlying34 hi0 _ _ _ rfl HO2.out rfl ?_
    go_wp2
    go_ret
    refine ⟨rfl, HFIN.out w5 _ w3.heap.size HB3.out.size HBW.out ?_⟩
    rw [HLN.out]
    exact HO2.out
  | some x =>
    obtain ⟨g, rfl, hcap⟩ := HS.out x rfl
    clear HS HN
    obtain ⟨d0, d1, _, _⟩ := BX3.out.cells
    have z3 := BX3.out.lt
    have htk : (L.take k).length = k := by rw [List.length_take, HL.out]; omega
    have HTK := Lib.hid htk
    have hrl : (rowE (L.take k)).length = k * 3 := by rw [rowE_length, htk]
    have hrd : (rowE (L.drop k)).length = (len - k) * 3 := by rw [rowE_length, List.length_drop, HL.out]
    have HRL := Lib.hid hrl
    have HRD := Lib.hid hrd
    clear htk hrl hrd
    have hk0 : (0 : Int) ≤ k := by omega
    have hkc : k ≤ c := by omega
    have R4 := HH.out _ (HB3.out.trans (HB4.out.mono HB3.out.size))
    have hf4 := R4.own.firsts k
    have HF4 := Lib.hid hf4
    clear R4 hf4
    go_wp2_with (at_builtin; skip; refine Hid.out ?_)
    refine Lib.hid ?_
    refine wpList_append_own _ rfl _ _ 34 rfl w3.heap.size 62 i0 (.agg #[.int .u32 0, .int .i64 0, .int .i64 0]) 3 24 Try.underlying34 hi0 hz0 hz1 hz2 rfl (by decide) _ _ _ rfl HE.out ⟨g, 0, none⟩ k c (rowE (L.take k)) rfl HRL.out HF4.out rowE_one_cell (by simp; unfold maxLen; omega) (by simp; omega) (by simp) ?_
    intro v1 w4 ho1 hg1 _
    have HO1 : Hid (OwnE w4 w3.heap.size v1 ([] ++ L.take k)) := OwnE.join HTK.out.symm ho1
    have hb4 : Below w3.heap.size w3 w4 := HB4.out.grown hg1 (by simp) (fun j hj => (World.ownsRow.lt HE.out j hj).1)
    have HB5 := Lib.hid hb4
    have bx4 := BX3.out.keep hb4 z3
    obtain ⟨d0, d1, _, _⟩ := bx4.cells
    have z4 := bx4.lt
    clear ho1 hg1 hb4 bx4
    obtain ⟨A1, m1, c1, rfl⟩ : ∃ A m c, v1 = .slice A m c := by
      rcases HO1.out.form with ⟨e, _⟩ | ⟨g2, c2, e, _⟩
      · exact ⟨_, _, _, e⟩
      · exact ⟨_, _, _, e⟩
    go_wp2_with (at_builtin; skip; refine Hid.out ?_)
    refine Lib.hid ?_
    have ow := HO1.out.below ((Below.refl _ w4).alloc (Nat.le_refl _) (.cells #[.int .u32 n, .int .i64 b, .int .i64 kk] 62))
    have hnw := cells_three_new w4 ((n, b), kk) 62
    have hsz4 := HB5.out.size
    have hln : ([] ++ L.take k).length = k := by rw [List.nil_append]; exact HTK.out
    refine wpList_append_own _ rfl _ _ 34 rfl w3.heap.size 62 i0 (.agg #[.int .u32 0, .int .i64 0, .int .i64 0]) 3 24 Try.underlying34 hi0 hz0 hz1 hz2 rfl (by decide) _ _ _ rfl ow ⟨_, 0, none⟩ 1 1 (cellsE ((n, b), kk)) rfl rfl hnw (cellsE_one _) (by rw [hln]; unfold maxLen; omega) (by rw [hln]; omega) (by simp; omega) ?_
    intro v2 w5 ho2 hg2 _
    have HO2 : Hid (OwnE w5 w3.heap.size v2 (([] ++ L.take k) ++ [((n, b), kk)])) := OwnE.join rfl (by rw [rowE_one]; exact ho2)
    have hb5 : Below w3.heap.size w3 w5 := (HB5.out.alloc hsz4 (.cells #[.int .u32 n, .int .i64 b, .int .i64 kk] 62)).grown hg2 (by simp; omega) (fun j hj => (World.ownsRow.lt ow j hj).1)
    have HB6 := Lib.hid hb5
    have hbw := HB3.out.trans (hb5.mono HB3.out.size)
    have HBW := Lib.hid hbw
    clear ho2 hg2 ow hnw hb5 hln d0 d1
    obtain ⟨t0, t1, _, f1, t4⟩ := HCL.out _ hbw
    have R5 := HH.out _ hbw
    obtain ⟨ad, had, hsl, hpart⟩ : ∃ ad : Addr, (if c = k then some (⟨g, 0, none⟩ : Addr) else some ⟨g, k * 3, none⟩) = some ad ∧ (∀ W : World, (Instr.slice 34 (.slice (some ⟨g, 0, none⟩) len c) (some (.int .i64 (k : Nat))) none none).run Try.prog W = .ok (.slice (some ad) (len - k) (c - k)) W) ∧ ∀ j u, (rowE (L.drop k))[j]? = some u → w5.cell? (ad.add j) = some u := by
      by_cases hck : c = k
      · refine ⟨⟨g, 0, none⟩, by rw [if_pos hck], fun W => ?_, fun j u hu => ?_⟩
        · have h2 : len = k := by omega
          subst hck h2
          go_simp
        · have : L.drop k = [] := List.drop_eq_nil_of_le (by rw [HL.out]; omega)
          rw [this] at hu
          simp [rowE] at hu
      · refine ⟨⟨g, k * 3, none⟩, by rw [if_neg hck], fun W => ?_, R5.own.part k⟩
        have hle : k ≤ len := hple
        go_simp
    have HPT := Lib.hid hpart
    clear hbw R5 hpart had
    obtain ⟨A2, m2, c2, rfl⟩ : ∃ A m c, v2 = .slice A m c := by
      rcases HO2.out.form with ⟨e, _⟩ | ⟨g2, c2, e, _⟩
      · exact ⟨_, _, _, e⟩
      · exact ⟨_, _, _, e⟩
    go_wp2_with (at_builtin; skip; refine Hid.out ?_)
    refine Lib.hid ?_
    have hln : (([] ++ L.take k) ++ [((n, b), kk)]).length = k + 1 := by rw [List.nil_append, List.length_append, HTK.out]; rfl
    refine wpList_append_own _ rfl _ _ 34 rfl w3.heap.size 62 i0 (.agg #[.int .u32 0, .int .i64 0, .int .i64 0]) 3 24 Try.underlying34 hi0 hz0 hz1 hz2 rfl (by decide) _ _ _ rfl HO2.out ad (len - k) (c - k) (rowE (L.drop k)) rfl HRD.out HPT.out rowE_one_cell (by rw [hln]; unfold maxLen; omega) (by rw [hln]; omega) (by have := HB6.out.size; omega) ?_
    intro v3 w6 ho3 hg3 _
    have HO3 : Hid (OwnE w6 w3.heap.size v3 ((([] ++ L.take k) ++ [((n, b), kk)]) ++ L.drop k)) := OwnE.join (by rw [List.length_drop, HL.out]) ho3
    have hb6 : Below w3.heap.size w3 w6 := HB6.out.grown hg3 HB6.out.size (fun j hj => (World.ownsRow.lt HO2.out j hj).1)
    have hbw := HB3.out.trans (hb6.mono HB3.out.size)
    have HBW2 := Lib.hid hbw
    obtain ⟨t0, t1, _, f1, t4⟩ := HCL.out _ hbw
    clear ho3 hg3 hb6 hbw hln hsl
    obtain ⟨A3, m3, c3, rfl⟩ : ∃ A m c, v3 = .slice A m c := by
      rcases HO3.out.form with ⟨e, _⟩ | ⟨g2, c2, e, _⟩
      · exact ⟨_, _, _, e⟩
      · exact ⟨_, _, _, e⟩
    go_wp2
    go_ret
    exact ⟨rfl, HFIN.out w6 _ w3.heap.size HB3.out.size HBW2.out HO3.out⟩
theorem rput_any (base rb n : Nat) (hn : n < 4294967296) (b kk : Int) (room : Int) (L : List Ent) (w : World) (h : RefP w base rb room L) (hle : (L.length : Int) ≤ room) :
    Calls Try.prog 27 #[pt (some rb), .agg #[.int .u32 n, .int .i64 b], .int .i64 kk] w fun e w' => e = .returned (.int .i64 (putE room L (n, b))) ∧ RPutEnd w base rb room (putA room L (n, b) kk) w' := by
  have hb : base ≤ w.heap.size := by obtain ⟨v, h⟩ := h; exact h.base
  have same : ∀ w', Below w.heap.size w w' → RPutEnd w base rb room L w' := fun w' hw => ⟨h.below hw, TurnsR.below hw hb⟩
  cases hr : rightP (n, b) with
  | false =>
    have e : putE room L (n, b) = 1 := by unfold putE; rw [hr]; rfl
    unfold putA
    rw [e]
    exact (rput_bad base rb n hn b kk w hr).mono fun e w' ⟨he, hw⟩ => ⟨he, same w' hw⟩
  | true =>
    by_cases hf : getL L (n, b) = none ∧ (L.length : Int) = room
    · have e : putE room L (n, b) = 3 := by unfold putE; rw [hr, if_pos rfl, if_pos hf]
      unfold putA
      rw [e]
      exact (rput_full base rb n hn b kk room L w h hr hf.1 (by omega)).mono fun e w' ⟨he, hw⟩ => ⟨he, same w' hw⟩
    · have e : putE room L (n, b) = 0 := by unfold putE; rw [hr, if_pos rfl, if_neg hf]
      unfold putA
      rw [e, if_pos rfl]
      cases hg : getL L (n, b) with
      | some m => exact rput_is base rb n hn b m kk room L w h hr hg
      | none => exact rput_new base rb n hn b kk room L w h hr hg (by have : ¬ (L.length : Int) = room := fun e => hf ⟨hg, e⟩; omega)
end Go.Proofs.Ytpoognkppnplpaa
