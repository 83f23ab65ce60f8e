/-
  TideSpans: the packets that tell heads span all ids, each once, and tell each head once, in its span. No condition.
-/
import Derived.Test.YtjfnpciecgemeaaDLw
import Derived.Deep.RegionHeld
import Derived.Test.YtjfnpciecgemeaaChecked
import Derived.Test.YtjfnpciecgemeaaRows

/-
  THE LAW TideSpans: its walk.
-/
namespace Go.Proofs.Ytjfnpciecgemeaa.ti
set_option linter.unusedSimpArgs false
set_option linter.unusedVariables false
open Go.RowKit
theorem takeNo {P : Program} {ops : Array Oper} {Q : Exit → Act → World → Prop} {md : Region.Mode} {S : World → Prop} {i d : Nat} {oi : Oper} {fuel : Nat} {listed : Array Bool} {ts : Array Value} {df : List Deferred} {w : World} (hi : ops[i]? = some oi) (hd : oi.dst = some d)
    (hs : Region.noSelect ops = true) (hf : Region.free md ops listed i = true) (hr : (Region.ready md ops listed).contains i = true)
    (hQ : ∀ c a w, Q (.panic c) (a.put oi.dst undef) w → Q (.panic c) a w) (hg : Region.wanted oi (yielded ops ts) = false) (hS : S w)
    (h : wpAnyH P md ops Q S fuel (listed.setIfInBounds i true) { tmps := ts.setIfInBounds d undef, defers := df } w) : wpAnyH P md ops Q S (fuel + 1) listed { tmps := ts, defers := df } w := by
  refine wpAnyH_take hi hs hf hr hQ (.inr ⟨hg, rfl⟩) hS ?_
  unfold Act.put
  rw [hd]
  exact h
set_option maxHeartbeats 32000000 in
set_option maxRecDepth 100000 in
theorem tspans_walk (l : List THd) (a : Option Addr) (ca : Nat) (hca : l.length ≤ ca) (hcm : ca ≤ maxLen) (hok : ∀ x ∈ l, okH x) (per : Int) (id : TId) (hid : okI id) (w : World) (ha : RdT w a l) : Calls Try.prog 3 #[.slice a l.length ca, .int .i64 per, .agg #[.int .i64 id.d, .int .i64 id.o, .int .i64 id.k, .int .i64 id.n]] w fun e w' => e = .returned (.bool true) ∧ Below w.heap.size w w' := by
  have hl63 : l.length ≤ 9223372036854775807 := by unfold maxLen at hcm; omega
  have HAW := Lib.hid awake_any
  have hD := fun W (hb : Below w.heap.size w W) => describe_any l a ca l.length per W (ha.below hb) hl63 rfl hca hok
  have B0 : Hid (Below w.heap.size w (w.alloc (.cells #[.int .i64 id.d, .int .i64 id.o, .int .i64 id.k, .int .i64 id.n] 24))) := (Below.refl _ _).alloc (Nat.le_refl _) _
  have HCM : Hid (∀ (x y : TId) (W : World), Calls Try.prog 9 #[.agg #[.int .i64 x.d, .int .i64 x.o, .int .i64 x.k, .int .i64 x.n], .agg #[.int .i64 y.d, .int .i64 y.o, .int .i64 y.k, .int .i64 y.n]] W fun e w' => e = .returned (.int .i64 (cmpT x y)) ∧ Below W.heap.size W w') := fun x y W => (pcompare_any x y W).mono fun _ _ h => ⟨h.1, h.2.bel⟩
  by_cases hm : mayD l per
  · have hD2 : ∀ W, Below w.heap.size w W → Calls Try.prog 8 #[.slice a l.length ca, .int .i64 per] W fun e w' => (∃ A n c, e = .returned (.tuple #[.slice A n c, .int .i64 0]) ∧ n = (descT per.toNat (mergeT l [])).length ∧ n ≤ c ∧ RdDs w' A (descT per.toNat (mergeT l []))) ∧ Below W.heap.size W w' := fun W hb => Calls.mono (hD W hb) fun e w' h => ⟨h.1 hm, h.2.2⟩
    by_cases h150 : 150 < l.length
    · obtain ⟨nl, hnl⟩ : ∃ nl, l.length = nl := ⟨_, rfl⟩
      rw [hnl] at hD2 h150 ⊢
      have hd : decide (150 < (nl : Int)) = true := decide_eq_true (by omega)
      have HD := Lib.hid hD2
      clear hD hD2 ha hm hnl
      go_enter Try.func3, Try.ntmps3
      go_wp2_with (first
        | (go_at_call 7; refine (HAW.out _).mono ?_; rintro e w1 ⟨rfl, hb⟩; have B1 := Lib.hid (B0.out.trans (hb.mono B0.out.size)); clear hb)
        | (go_at_call 8; refine (HD.out _ B1.out).mono ?_; rintro e w2 ⟨⟨A, n, c, rfl, -, -, -⟩, hb⟩; have B2 := Lib.hid (B1.out.trans (hb.mono B1.out.size)); clear hb))
      all_goals (go_ret; exact ⟨by simp, B2.out⟩)
    · have hper1 := hm.1.1
      have hper2 := hm.1.2
      obtain ⟨pr, hpr⟩ : ∃ pr : Nat, per = pr := ⟨per.toNat, by omega⟩
      obtain ⟨HR, _⟩ := may_all hm
      have hpos : 0 < pr := by omega
      obtain ⟨all, hall⟩ : ∃ all, mergeT l [] = all := ⟨_, rfl⟩
      have hal : all.length ≤ 150 := by have := merge_len l []; rw [hall] at this; simp at this; omega
      have hdo := fun (k : Nat) (p : Dp) (hp : (descT per.toNat (mergeT l []))[k]? = some p) => desc_ok hm hp
      rw [hpr, Int.toNat_natCast, hall] at hdo
      rw [hpr, Int.toNat_natCast, hall] at hD2
      rw [hall] at HR
      rw [← hpr] at hD2
      have HMG : Hid (∀ W, Below w.heap.size w W → Calls Try.prog 12 #[.slice a l.length ca, .slice none 0 0] W fun e w' => (∃ A n c, e = .returned (.slice A n c) ∧ n = all.length ∧ n ≤ c ∧ RdT w' A all) ∧ Below W.heap.size W w') := fun W hb => by
        have := pmergeB_any l [] a none ca 0 W (ha.below hb) (fun j p h => by simp at h) (by simpa using hl63) (by rw [hall]; omega) hca (Nat.le_refl _) (by simpa using hok)
        rw [hall] at this
        refine this.mono ?_
        rintro e w' ⟨v, rfl, ho, hb⟩
        obtain ⟨A, n, c, rfl, h1, h2⟩ := own_formN ho
        exact ⟨⟨A, n, c, rfl, h1, h2, ho.rd⟩, hb⟩
      obtain ⟨nl, hnl⟩ : ∃ nl, l.length = nl := ⟨_, rfl⟩
      rw [hnl] at hD2 h150 HMG ⊢
      have hd : decide (150 < (nl : Int)) = false := decide_eq_false (by omega)
      have HD := Lib.hid hD2
      have HDO := Lib.hid hdo
      have HHR := Lib.hid HR
      have IDB : Hid (∀ W, Below (w.heap.size + 1) (w.alloc (.cells #[.int .i64 id.d, .int .i64 id.o, .int .i64 id.k, .int .i64 id.n] 24)) W → W.cell? ⟨w.heap.size, 0, none⟩ = some (.int .i64 id.d) ∧ W.cell? ⟨w.heap.size, 1, none⟩ = some (.int .i64 id.o) ∧ W.cell? ⟨w.heap.size, 2, none⟩ = some (.int .i64 id.k) ∧ W.cell? ⟨w.heap.size, 3, none⟩ = some (.int .i64 id.n) ∧ w.heap.size < W.heap.size) := fun W hb => by
        have h0 := (hb.block w.heap.size (by omega)).trans (heap_alloc_new w _)
        have h1 := hb.size
        simp at h1
        simp [World.cell?, h0]
        omega
      clear hD hD2 ha hm hnl hdo hpr HR hall
      go_enter Try.func3, Try.ntmps3
      go_wp2_with (first
        | (go_at_call 7; refine (HAW.out _).mono ?_; rintro e w1 ⟨rfl, hb⟩; have B1 := Lib.hid (B0.out.trans (hb.mono B0.out.size)); have S1 := Lib.hid (hb.mono (show w.heap.size + 1 ≤ _ by simp)); clear hb)
        | (go_at_call 8; refine (HD.out _ B1.out).mono ?_; rintro e w2 ⟨⟨A, cn, c, rfl, hcn, hcc, hrd⟩, hb⟩; have B2 := Lib.hid (B1.out.trans (hb.mono B1.out.size)); have S2 := Lib.hid (S1.out.trans (hb.mono (by have := S1.out.size; simp at this; omega))); have HCN := Lib.hid hcn; have HRD := Lib.hid hrd; clear hb hcn hrd))
      have hcnt : Hid (cn = cntT pr all.length) := HCN.out.trans (desc_len _ _)
      have hcn1 : cn ≤ 151 := by rw [hcnt.out]; have := cnt_le hpos all.length; omega
      have hc0 : 0 < cn := by rw [hcnt.out]; exact cnt_pos hpos _
      have hw2 : w.heap.size + 1 ≤ w2.heap.size := by have := S2.out.size; simp at this; omega
      obtain ⟨g, o, pa0, pc0, rfl, _⟩ := HRD.out 0 _ (List.getElem?_eq_getElem (by rw [← HCN.out]; exact hc0))
      go_loopw [10, 11, 12] (fun u s v wr => ∃ k : Nat, k ≤ cn ∧ v = .int .i64 k ∧ s = .int .i64 (spnT pr all id k : Nat) ∧ (∃ X n c, u = .slice X n c ∧ n = (all.take (k * pr)).length ∧ n ≤ c) ∧ Hid (OwnE 34 6 cellsT wr w2.heap.size u (all.take (k * pr))) ∧ Hid (Below w2.heap.size w2 wr)) (fun _ _ v _ => cn - (intOf v).toNat)
      case atStart => exact ⟨0, Nat.zero_le _, rfl, rfl, ⟨none, 0, 0, rfl, by simp, Nat.le_refl _⟩, by rw [Nat.zero_mul, List.take_zero]; exact OwnE.nil _ _, Below.refl _ _⟩
      case round =>
        obtain ⟨k, hk, rfl, rfl, ⟨X, n, c0, rfl, hn, hnc⟩, HO, HB⟩ := hrel
        obtain ⟨W0, rfl⟩ : ∃ W0, W0 = wr := ⟨_, rfl⟩
        have BW : Hid (Below w.heap.size w W0) := B2.out.trans (HB.out.mono B2.out.size)
        by_cases hlt : k < cn
        · obtain ⟨p, hp⟩ : ∃ p, (descT pr all)[k]? = some p := ⟨_, List.getElem?_eq_getElem (by rw [← HCN.out]; exact hlt)⟩
          obtain ⟨hok, hkc, hpe⟩ := HDO.out k p hp
          obtain ⟨g', o', pa, pc, e, hg, hcell, hhs, hc1, hc2⟩ := (HRD.out.below HB.out) k p hp
          cases e
          obtain ⟨pn, hpn⟩ : ∃ pn, p.hs.length = pn := ⟨_, rfl⟩
          have hpl := hok.len
          have hpg : p.hs = grpT pr all k := by rw [hpe]; rfl
          have hgt : all.take ((k + 1) * pr) = all.take (k * pr) ++ p.hs := by rw [← grp_take, hpg]
          have hs1 : (all.take (k * pr)).length ≤ 150 := by simp; omega
          have hsn := spn_next pr all id k
          have hsl := spn_le pr all id k
          rw [show frmT pr all k = p.frm by rw [hpe]; rfl, show toT pr all k = p.to by rw [hpe]; rfl] at hsn
          have HIN : Hid (∀ h ∈ p.hs, ¬ lexT h.id p.frm ∧ ¬ lexT p.to h.id) := fun h hh => by
            rw [hpg] at hh
            rw [hpe]
            exact grp_in hpos HHR.out hkc hh
          unfold encD at hcell
          rw [hpn] at hcell hc1 hpl
          dsimp only at hcell
          have HPK : Hid (∀ W, Below W0.heap.size W0 W → (W.cell? ⟨g, o + k * 32 + 23, none⟩ = some (.int .i64 p.frm.d) ∧ W.cell? ⟨g, o + k * 32 + 24, none⟩ = some (.int .i64 p.frm.o) ∧ W.cell? ⟨g, o + k * 32 + 25, none⟩ = some (.int .i64 p.frm.k) ∧ W.cell? ⟨g, o + k * 32 + 26, none⟩ = some (.int .i64 p.frm.n) ∧ W.cell? ⟨g, o + k * 32 + 27, none⟩ = some (.int .i64 p.to.d) ∧ W.cell? ⟨g, o + k * 32 + 28, none⟩ = some (.int .i64 p.to.o) ∧ W.cell? ⟨g, o + k * 32 + 29, none⟩ = some (.int .i64 p.to.k) ∧ W.cell? ⟨g, o + k * 32 + 30, none⟩ = some (.int .i64 p.to.n)) ∧ W.cell? ⟨g, o + k * 32 + 31, none⟩ = some (.slice pa pn pc) ∧ g < W.heap.size ∧ (W.cell? ⟨w.heap.size, 0, none⟩ = some (.int .i64 id.d) ∧ W.cell? ⟨w.heap.size, 1, none⟩ = some (.int .i64 id.o) ∧ W.cell? ⟨w.heap.size, 2, none⟩ = some (.int .i64 id.k) ∧ W.cell? ⟨w.heap.size, 3, none⟩ = some (.int .i64 id.n)) ∧ w.heap.size < W.heap.size) := fun W hb => by
            have hb2 : ∀ j v, W0.cell? ⟨g, o + k * 32 + j, none⟩ = some v → W.cell? ⟨g, o + k * 32 + j, none⟩ = some v := fun j v h => (hb.cell (p := ⟨g, _, none⟩) hg).trans h
            refine ⟨⟨hb2 23 _ (hcell 23 _ rfl), hb2 24 _ (hcell 24 _ rfl), hb2 25 _ (hcell 25 _ rfl), hb2 26 _ (hcell 26 _ rfl), hb2 27 _ (hcell 27 _ rfl), hb2 28 _ (hcell 28 _ rfl), hb2 29 _ (hcell 29 _ rfl), hb2 30 _ (hcell 30 _ rfl)⟩, hb2 31 _ (hcell 31 _ rfl), Nat.lt_of_lt_of_le hg hb.size, ?_⟩
            obtain ⟨h0, h1, h2, h3, h4⟩ := IDB.out W (S2.out.trans ((HB.out.trans (hb.mono HB.out.size)).mono hw2))
            exact ⟨⟨h0, h1, h2, h3⟩, h4⟩
          have HHS : Hid (∀ W, Below W0.heap.size W0 W → RdT W pa p.hs) := fun W hb => hhs.below hb
          have HGT := Lib.hid hgt
          have HPN : Hid (pn = p.hs.length) := hpn.symm
          have HPL := Lib.hid (show p.hs.length ≤ 64 by omega)
          have hp64 : pn ≤ 64 := by omega
          have HNN := Lib.hid hn
          have HHC1 := Lib.hid hc1
          have k0 : (0 : Int) ≤ (k : Int) := Int.natCast_nonneg _
          have k1 : (k : Int) < (cn : Int) := by omega
          obtain ⟨SS, hS⟩ : ∃ SS, all.take (k * pr) = SS := ⟨_, rfl⟩
          rw [hS] at hs1 HGT HNN HO
          have HS1 := Lib.hid hs1
          obtain ⟨s, hss⟩ : ∃ s, spnT pr all id k = s := ⟨_, rfl⟩
          rw [hss] at hsn hsl ⊢
          have hs151 : s ≤ 151 := by omega
          obtain ⟨v1, hv1⟩ : ∃ v1, cmpT id p.frm = v1 := ⟨_, rfl⟩
          obtain ⟨v2, hv2⟩ : ∃ v2, cmpT id p.to = v2 := ⟨_, rfl⟩
          have hin : inB p.frm p.to id = true ↔ 0 ≤ v1 ∧ v2 ≤ 0 := by
            rw [inB_is, ← hv1, ← hv2, ← cmp_neg, ← cmp_pos]
            omega
          have HV1 := Lib.hid hv1
          have HV2 := Lib.hid hv2
          have T0 : True := trivial
          have BD0 : Hid (Below W0.heap.size W0 W0.drew) := (Below.refl _ _).drew
          obtain ⟨⟨f0, f1, f2, f3, t0, t1, t2, t3⟩, h31, LG, ⟨i0, i1, i2, i3⟩, LI⟩ := HPK.out W0.drew BD0.out
          clear hcell hgt hp hok hkc hpe hhs hpn hS hn hpg hs1 hpl hg hv1 hv2 hss hsl hc1
          by_cases q1 : 0 ≤ v1
          · have d1 : decide (0 ≤ v1) = true := decide_eq_true q1
            by_cases q2 : v2 ≤ 0
            · have d2 : decide (v2 ≤ 0) = true := decide_eq_true q2
              rw [if_pos (hin.2 ⟨q1, q2⟩)] at hsn
              have HSN := Lib.hid hsn
              clear hsn hin q1 q2 hlt
              go_wp2
              go_region_held (fun W => W.cell? ⟨w.heap.size, 0, none⟩ = some (.int .i64 id.d) ∧ W.cell? ⟨w.heap.size, 1, none⟩ = some (.int .i64 id.o) ∧ W.cell? ⟨w.heap.size, 2, none⟩ = some (.int .i64 id.k) ∧ W.cell? ⟨w.heap.size, 3, none⟩ = some (.int .i64 id.n) ∧ W.cell? ⟨g, o + k * 32 + 23, none⟩ = some (.int .i64 p.frm.d) ∧ W.cell? ⟨g, o + k * 32 + 24, none⟩ = some (.int .i64 p.frm.o) ∧ W.cell? ⟨g, o + k * 32 + 25, none⟩ = some (.int .i64 p.frm.k) ∧ W.cell? ⟨g, o + k * 32 + 26, none⟩ = some (.int .i64 p.frm.n) ∧ W.cell? ⟨g, o + k * 32 + 27, none⟩ = some (.int .i64 p.to.d) ∧ W.cell? ⟨g, o + k * 32 + 28, none⟩ = some (.int .i64 p.to.o) ∧ W.cell? ⟨g, o + k * 32 + 29, none⟩ = some (.int .i64 p.to.k) ∧ W.cell? ⟨g, o + k * 32 + 30, none⟩ = some (.int .i64 p.to.n)) (first | exact ⟨i0, i1, i2, i3, f0, f1, f2, f3, t0, t1, t2, t3⟩ | exact ⟨by assumption, by assumption, by assumption, by assumption, by assumption, by assumption, by assumption, by assumption, by assumption, by assumption, by assumption, by assumption⟩) (first | (go_at_call 9; have _t := T0; clear T0 _t; refine (HCM.out id p.frm _).mono ?_; rintro e w5 ⟨rfl, hb⟩; rw [HV1.out]; have ci0 := (hb.cell (p := ⟨w.heap.size, 0, none⟩) LI).trans i0; have ci1 := (hb.cell (p := ⟨w.heap.size, 1, none⟩) LI).trans i1; have ci2 := (hb.cell (p := ⟨w.heap.size, 2, none⟩) LI).trans i2; have ci3 := (hb.cell (p := ⟨w.heap.size, 3, none⟩) LI).trans i3; have cf0 := (hb.cell (p := ⟨g, o + k * 32 + 23, none⟩) LG).trans f0; have cf1 := (hb.cell (p := ⟨g, o + k * 32 + 24, none⟩) LG).trans f1; have cf2 := (hb.cell (p := ⟨g, o + k * 32 + 25, none⟩) LG).trans f2; have cf3 := (hb.cell (p := ⟨g, o + k * 32 + 26, none⟩) LG).trans f3; have ct0 := (hb.cell (p := ⟨g, o + k * 32 + 27, none⟩) LG).trans t0; have ct1 := (hb.cell (p := ⟨g, o + k * 32 + 28, none⟩) LG).trans t1; have ct2 := (hb.cell (p := ⟨g, o + k * 32 + 29, none⟩) LG).trans t2; have ct3 := (hb.cell (p := ⟨g, o + k * 32 + 30, none⟩) LG).trans t3; have LI5 := Nat.lt_of_lt_of_le LI hb.size; have LG5 := Nat.lt_of_lt_of_le LG hb.size; have B5 := Lib.hid (BD0.out.trans (hb.mono BD0.out.size)); clear hb) | (go_at_call 9; refine (HCM.out id p.to _).mono ?_; rintro e w6 ⟨rfl, hb⟩; rw [HV2.out]; have di0 := (hb.cell (p := ⟨w.heap.size, 0, none⟩) LI5).trans ci0; have di1 := (hb.cell (p := ⟨w.heap.size, 1, none⟩) LI5).trans ci1; have di2 := (hb.cell (p := ⟨w.heap.size, 2, none⟩) LI5).trans ci2; have di3 := (hb.cell (p := ⟨w.heap.size, 3, none⟩) LI5).trans ci3; have df0 := (hb.cell (p := ⟨g, o + k * 32 + 23, none⟩) LG5).trans cf0; have df1 := (hb.cell (p := ⟨g, o + k * 32 + 24, none⟩) LG5).trans cf1; have df2 := (hb.cell (p := ⟨g, o + k * 32 + 25, none⟩) LG5).trans cf2; have df3 := (hb.cell (p := ⟨g, o + k * 32 + 26, none⟩) LG5).trans cf3; have dt0 := (hb.cell (p := ⟨g, o + k * 32 + 27, none⟩) LG5).trans ct0; have dt1 := (hb.cell (p := ⟨g, o + k * 32 + 28, none⟩) LG5).trans ct1; have dt2 := (hb.cell (p := ⟨g, o + k * 32 + 29, none⟩) LG5).trans ct2; have dt3 := (hb.cell (p := ⟨g, o + k * 32 + 30, none⟩) LG5).trans ct3; have B6' := Lib.hid (B5.out.trans (hb.mono B5.out.size)); clear hb))
              clear i0 i1 i2 i3 f0 f1 f2 f3 t0 t1 t2 t3
              have B1 := Lib.hid (B6'.out)
              go_wp2
              go_loopw [13] (fun u wz => ∃ j : Nat, j ≤ pn ∧ u = .int .i64 j ∧ Hid (Below W0.heap.size W0 wz)) (fun u _ => pn - (intOf u).toNat)
              case atStart => exact ⟨0, Nat.zero_le _, rfl, B1.out⟩
              case round =>
                obtain ⟨j, hj, rfl, HZ⟩ := hrel
                obtain ⟨⟨f0, f1, f2, f3, t0, t1, t2, t3⟩, h31, LG, -⟩ := HPK.out wr HZ.out
                have k0 : (0 : Int) ≤ (k : Int) := Int.natCast_nonneg _
                have k1 : (k : Int) < (cn : Int) := by omega
                by_cases hjl : j < pn
                · obtain ⟨h, hh⟩ : ∃ h, p.hs[j]? = some h := ⟨_, List.getElem?_eq_getElem (by have := HPN.out; omega)⟩
                  obtain ⟨gh, oh, e, hgh, hr, hri⟩ := (HHS.out wr HZ.out).at hh
                  obtain ⟨hn1, hn2⟩ := HIN.out h (List.mem_of_getElem? hh)
                  subst e
                  have y0 := mid_cell0 hri rfl
                  have y1 := mid_cell hri 1 rfl
                  have y2 := mid_cell hri 2 rfl
                  have y3 := mid_cell hri 3 rfl
                  have j0 : (0 : Int) ≤ (j : Int) := Int.natCast_nonneg _
                  have j1 : (j : Int) < (pn : Int) := by omega
                  obtain ⟨c1, hc1⟩ : ∃ c1, cmpT h.id p.frm = c1 := ⟨_, rfl⟩
                  obtain ⟨c2, hc2⟩ : ∃ c2, cmpT h.id p.to = c2 := ⟨_, rfl⟩
                  have d1 : decide (c1 < 0) = false := decide_eq_false (by rw [← hc1]; exact fun q => hn1 (cmp_neg.1 q))
                  have d2 : decide (0 < c2) = false := decide_eq_false (by rw [← hc2]; exact fun q => hn2 (cmp_pos.1 q))
                  have HC1 := Lib.hid hc1
                  have HC2 := Lib.hid hc2
                  have T1 : True := trivial
                  have bx : Below wr.heap.size wr (wr.alloc (.cells #[.int .i64 h.id.d, .int .i64 h.id.o, .int .i64 h.id.k, .int .i64 h.id.n] 24)) := (Below.refl _ _).alloc (Nat.le_refl _) _
                  obtain ⟨⟨a0, a1, a2, a3, b0, b1, b2, b3⟩, -, LG2, -⟩ := HPK.out _ (HZ.out.trans (bx.mono HZ.out.size)).drew
                  have AR : Arr (wr.alloc (.cells #[.int .i64 h.id.d, .int .i64 h.id.o, .int .i64 h.id.k, .int .i64 h.id.n] 24)).drew wr.heap.size 24 (cellsI h.id) := Arr.new wr 24 (cellsI h.id)
                  have x0 := AR.cell 0
                  have x1 := AR.cell 1
                  have x2 := AR.cell 2
                  have x3 := AR.cell 3
                  simp only [cellsI, List.getElem?_cons_zero, List.getElem?_cons_succ] at x0 x1 x2 x3
                  have LH : wr.heap.size < (wr.alloc (.cells #[.int .i64 h.id.d, .int .i64 h.id.o, .int .i64 h.id.k, .int .i64 h.id.n] 24)).drew.heap.size := by simp
                  have BX := Lib.hid (HZ.out.trans (bx.mono HZ.out.size)).drew
                  have HMM := Lib.hid hh
                  clear hr hri hh hn1 hn2 hc1 hc2 bx AR
                  go_wp2
                  go_region_held (fun W => W.cell? ⟨wr.heap.size, 0, none⟩ = some (.int .i64 h.id.d) ∧ W.cell? ⟨wr.heap.size, 1, none⟩ = some (.int .i64 h.id.o) ∧ W.cell? ⟨wr.heap.size, 2, none⟩ = some (.int .i64 h.id.k) ∧ W.cell? ⟨wr.heap.size, 3, none⟩ = some (.int .i64 h.id.n) ∧ W.cell? ⟨g, o + k * 32 + 23, none⟩ = some (.int .i64 p.frm.d) ∧ W.cell? ⟨g, o + k * 32 + 24, none⟩ = some (.int .i64 p.frm.o) ∧ W.cell? ⟨g, o + k * 32 + 25, none⟩ = some (.int .i64 p.frm.k) ∧ W.cell? ⟨g, o + k * 32 + 26, none⟩ = some (.int .i64 p.frm.n) ∧ W.cell? ⟨g, o + k * 32 + 27, none⟩ = some (.int .i64 p.to.d) ∧ W.cell? ⟨g, o + k * 32 + 28, none⟩ = some (.int .i64 p.to.o) ∧ W.cell? ⟨g, o + k * 32 + 29, none⟩ = some (.int .i64 p.to.k) ∧ W.cell? ⟨g, o + k * 32 + 30, none⟩ = some (.int .i64 p.to.n)) (first | exact ⟨x0, x1, x2, x3, a0, a1, a2, a3, b0, b1, b2, b3⟩ | exact ⟨by assumption, by assumption, by assumption, by assumption, by assumption, by assumption, by assumption, by assumption, by assumption, by assumption, by assumption, by assumption⟩) (first | (go_at_call 9; have _t := T1; clear T1 _t; refine (HCM.out h.id p.frm _).mono ?_; rintro e w8 ⟨rfl, hb⟩; rw [HC1.out]; have cx0 := (hb.cell (p := ⟨wr.heap.size, 0, none⟩) LH).trans x0; have cx1 := (hb.cell (p := ⟨wr.heap.size, 1, none⟩) LH).trans x1; have cx2 := (hb.cell (p := ⟨wr.heap.size, 2, none⟩) LH).trans x2; have cx3 := (hb.cell (p := ⟨wr.heap.size, 3, none⟩) LH).trans x3; have ca0 := (hb.cell (p := ⟨g, o + k * 32 + 23, none⟩) LG2).trans a0; have ca1 := (hb.cell (p := ⟨g, o + k * 32 + 24, none⟩) LG2).trans a1; have ca2 := (hb.cell (p := ⟨g, o + k * 32 + 25, none⟩) LG2).trans a2; have ca3 := (hb.cell (p := ⟨g, o + k * 32 + 26, none⟩) LG2).trans a3; have cb0 := (hb.cell (p := ⟨g, o + k * 32 + 27, none⟩) LG2).trans b0; have cb1 := (hb.cell (p := ⟨g, o + k * 32 + 28, none⟩) LG2).trans b1; have cb2 := (hb.cell (p := ⟨g, o + k * 32 + 29, none⟩) LG2).trans b2; have cb3 := (hb.cell (p := ⟨g, o + k * 32 + 30, none⟩) LG2).trans b3; have LH8 := Nat.lt_of_lt_of_le LH hb.size; have LG8 := Nat.lt_of_lt_of_le LG2 hb.size; have B8 := Lib.hid (BX.out.trans (hb.mono BX.out.size)); clear hb) | (go_at_call 9; refine (HCM.out h.id p.to _).mono ?_; rintro e w9 ⟨rfl, hb⟩; rw [HC2.out]; have dx0 := (hb.cell (p := ⟨wr.heap.size, 0, none⟩) LH8).trans cx0; have dx1 := (hb.cell (p := ⟨wr.heap.size, 1, none⟩) LH8).trans cx1; have dx2 := (hb.cell (p := ⟨wr.heap.size, 2, none⟩) LH8).trans cx2; have dx3 := (hb.cell (p := ⟨wr.heap.size, 3, none⟩) LH8).trans cx3; have da0 := (hb.cell (p := ⟨g, o + k * 32 + 23, none⟩) LG8).trans ca0; have da1 := (hb.cell (p := ⟨g, o + k * 32 + 24, none⟩) LG8).trans ca1; have da2 := (hb.cell (p := ⟨g, o + k * 32 + 25, none⟩) LG8).trans ca2; have da3 := (hb.cell (p := ⟨g, o + k * 32 + 26, none⟩) LG8).trans ca3; have db0 := (hb.cell (p := ⟨g, o + k * 32 + 27, none⟩) LG8).trans cb0; have db1 := (hb.cell (p := ⟨g, o + k * 32 + 28, none⟩) LG8).trans cb1; have db2 := (hb.cell (p := ⟨g, o + k * 32 + 29, none⟩) LG8).trans cb2; have db3 := (hb.cell (p := ⟨g, o + k * 32 + 30, none⟩) LG8).trans cb3; have B9 := Lib.hid (B8.out.trans (hb.mono B8.out.size)); clear hb))
                  go_wp2
                  go_roundw
                  case rel => exact ⟨j + 1, by omega, by go_num, B9.out⟩
                  case measure => simp [intOf]; omega
                · obtain rfl : j = pn := by omega
                  have OZ := Lib.hid (HO.out.below HZ.out)
                  have HSZ := Lib.hid (HHS.out wr HZ.out)
                  clear hjl
                  go_wp2_with (first
                    | (at_builtin; refine kindH.wp_append rfl _ _ rfl w2.heap.size _ SS rfl OZ.out pa p.hs j pc rfl HPN.out HSZ.out.toE (by have := HS1.out; have := HPL.out; unfold maxLen; omega) (by have := HS1.out; have := HPL.out; omega) (by have := HZ.out.size; have := HB.out.size; omega) ?_; intro A6 n6 c6 w6 hn6 ho6 hb6 _; have N6 := Lib.hid hn6; have O6 := Lib.hid ho6; have B6 := Lib.hid ((HB.out.trans (HZ.out.mono HB.out.size)).trans hb6); clear hn6 ho6 hb6))
                  go_roundw
                  case rel => exact ⟨k + 1, by omega, by go_num, by rw [HSN.out]; go_num, ⟨A6, n6, c6, rfl, by rw [HGT.out]; exact N6.out, (OwnH.ofE O6.out).cap⟩, by unfold Hid; rw [HGT.out]; exact O6.out, B6.out⟩
                  case measure => simp [intOf]; omega
            · have d2 : decide (v2 ≤ 0) = false := decide_eq_false q2
              rw [if_neg (fun h => q2 (hin.1 h).2)] at hsn
              have HSN := Lib.hid hsn
              clear hsn hin q1 q2 hlt
              go_wp2
              go_region_held (fun W => W.cell? ⟨w.heap.size, 0, none⟩ = some (.int .i64 id.d) ∧ W.cell? ⟨w.heap.size, 1, none⟩ = some (.int .i64 id.o) ∧ W.cell? ⟨w.heap.size, 2, none⟩ = some (.int .i64 id.k) ∧ W.cell? ⟨w.heap.size, 3, none⟩ = some (.int .i64 id.n) ∧ W.cell? ⟨g, o + k * 32 + 23, none⟩ = some (.int .i64 p.frm.d) ∧ W.cell? ⟨g, o + k * 32 + 24, none⟩ = some (.int .i64 p.frm.o) ∧ W.cell? ⟨g, o + k * 32 + 25, none⟩ = some (.int .i64 p.frm.k) ∧ W.cell? ⟨g, o + k * 32 + 26, none⟩ = some (.int .i64 p.frm.n) ∧ W.cell? ⟨g, o + k * 32 + 27, none⟩ = some (.int .i64 p.to.d) ∧ W.cell? ⟨g, o + k * 32 + 28, none⟩ = some (.int .i64 p.to.o) ∧ W.cell? ⟨g, o + k * 32 + 29, none⟩ = some (.int .i64 p.to.k) ∧ W.cell? ⟨g, o + k * 32 + 30, none⟩ = some (.int .i64 p.to.n)) (first | exact ⟨i0, i1, i2, i3, f0, f1, f2, f3, t0, t1, t2, t3⟩ | exact ⟨by assumption, by assumption, by assumption, by assumption, by assumption, by assumption, by assumption, by assumption, by assumption, by assumption, by assumption, by assumption⟩) (first | (go_at_call 9; have _t := T0; clear T0 _t; refine (HCM.out id p.frm _).mono ?_; rintro e w5 ⟨rfl, hb⟩; rw [HV1.out]; have ci0 := (hb.cell (p := ⟨w.heap.size, 0, none⟩) LI).trans i0; have ci1 := (hb.cell (p := ⟨w.heap.size, 1, none⟩) LI).trans i1; have ci2 := (hb.cell (p := ⟨w.heap.size, 2, none⟩) LI).trans i2; have ci3 := (hb.cell (p := ⟨w.heap.size, 3, none⟩) LI).trans i3; have cf0 := (hb.cell (p := ⟨g, o + k * 32 + 23, none⟩) LG).trans f0; have cf1 := (hb.cell (p := ⟨g, o + k * 32 + 24, none⟩) LG).trans f1; have cf2 := (hb.cell (p := ⟨g, o + k * 32 + 25, none⟩) LG).trans f2; have cf3 := (hb.cell (p := ⟨g, o + k * 32 + 26, none⟩) LG).trans f3; have ct0 := (hb.cell (p := ⟨g, o + k * 32 + 27, none⟩) LG).trans t0; have ct1 := (hb.cell (p := ⟨g, o + k * 32 + 28, none⟩) LG).trans t1; have ct2 := (hb.cell (p := ⟨g, o + k * 32 + 29, none⟩) LG).trans t2; have ct3 := (hb.cell (p := ⟨g, o + k * 32 + 30, none⟩) LG).trans t3; have LI5 := Nat.lt_of_lt_of_le LI hb.size; have LG5 := Nat.lt_of_lt_of_le LG hb.size; have B5 := Lib.hid (BD0.out.trans (hb.mono BD0.out.size)); clear hb) | (go_at_call 9; refine (HCM.out id p.to _).mono ?_; rintro e w6 ⟨rfl, hb⟩; rw [HV2.out]; have di0 := (hb.cell (p := ⟨w.heap.size, 0, none⟩) LI5).trans ci0; have di1 := (hb.cell (p := ⟨w.heap.size, 1, none⟩) LI5).trans ci1; have di2 := (hb.cell (p := ⟨w.heap.size, 2, none⟩) LI5).trans ci2; have di3 := (hb.cell (p := ⟨w.heap.size, 3, none⟩) LI5).trans ci3; have df0 := (hb.cell (p := ⟨g, o + k * 32 + 23, none⟩) LG5).trans cf0; have df1 := (hb.cell (p := ⟨g, o + k * 32 + 24, none⟩) LG5).trans cf1; have df2 := (hb.cell (p := ⟨g, o + k * 32 + 25, none⟩) LG5).trans cf2; have df3 := (hb.cell (p := ⟨g, o + k * 32 + 26, none⟩) LG5).trans cf3; have dt0 := (hb.cell (p := ⟨g, o + k * 32 + 27, none⟩) LG5).trans ct0; have dt1 := (hb.cell (p := ⟨g, o + k * 32 + 28, none⟩) LG5).trans ct1; have dt2 := (hb.cell (p := ⟨g, o + k * 32 + 29, none⟩) LG5).trans ct2; have dt3 := (hb.cell (p := ⟨g, o + k * 32 + 30, none⟩) LG5).trans ct3; have B6' := Lib.hid (B5.out.trans (hb.mono B5.out.size)); clear hb))
              clear i0 i1 i2 i3 f0 f1 f2 f3 t0 t1 t2 t3
              have B1 := Lib.hid (B6'.out)
              go_wp2
              go_loopw [13] (fun u wz => ∃ j : Nat, j ≤ pn ∧ u = .int .i64 j ∧ Hid (Below W0.heap.size W0 wz)) (fun u _ => pn - (intOf u).toNat)
              case atStart => exact ⟨0, Nat.zero_le _, rfl, B1.out⟩
              case round =>
                obtain ⟨j, hj, rfl, HZ⟩ := hrel
                obtain ⟨⟨f0, f1, f2, f3, t0, t1, t2, t3⟩, h31, LG, -⟩ := HPK.out wr HZ.out
                have k0 : (0 : Int) ≤ (k : Int) := Int.natCast_nonneg _
                have k1 : (k : Int) < (cn : Int) := by omega
                by_cases hjl : j < pn
                · obtain ⟨h, hh⟩ : ∃ h, p.hs[j]? = some h := ⟨_, List.getElem?_eq_getElem (by have := HPN.out; omega)⟩
                  obtain ⟨gh, oh, e, hgh, hr, hri⟩ := (HHS.out wr HZ.out).at hh
                  obtain ⟨hn1, hn2⟩ := HIN.out h (List.mem_of_getElem? hh)
                  subst e
                  have y0 := mid_cell0 hri rfl
                  have y1 := mid_cell hri 1 rfl
                  have y2 := mid_cell hri 2 rfl
                  have y3 := mid_cell hri 3 rfl
                  have j0 : (0 : Int) ≤ (j : Int) := Int.natCast_nonneg _
                  have j1 : (j : Int) < (pn : Int) := by omega
                  obtain ⟨c1, hc1⟩ : ∃ c1, cmpT h.id p.frm = c1 := ⟨_, rfl⟩
                  obtain ⟨c2, hc2⟩ : ∃ c2, cmpT h.id p.to = c2 := ⟨_, rfl⟩
                  have d1 : decide (c1 < 0) = false := decide_eq_false (by rw [← hc1]; exact fun q => hn1 (cmp_neg.1 q))
                  have d2 : decide (0 < c2) = false := decide_eq_false (by rw [← hc2]; exact fun q => hn2 (cmp_pos.1 q))
                  have HC1 := Lib.hid hc1
                  have HC2 := Lib.hid hc2
                  have T1 : True := trivial
                  have bx : Below wr.heap.size wr (wr.alloc (.cells #[.int .i64 h.id.d, .int .i64 h.id.o, .int .i64 h.id.k, .int .i64 h.id.n] 24)) := (Below.refl _ _).alloc (Nat.le_refl _) _
                  obtain ⟨⟨a0, a1, a2, a3, b0, b1, b2, b3⟩, -, LG2, -⟩ := HPK.out _ (HZ.out.trans (bx.mono HZ.out.size)).drew
                  have AR : Arr (wr.alloc (.cells #[.int .i64 h.id.d, .int .i64 h.id.o, .int .i64 h.id.k, .int .i64 h.id.n] 24)).drew wr.heap.size 24 (cellsI h.id) := Arr.new wr 24 (cellsI h.id)
                  have x0 := AR.cell 0
                  have x1 := AR.cell 1
                  have x2 := AR.cell 2
                  have x3 := AR.cell 3
                  simp only [cellsI, List.getElem?_cons_zero, List.getElem?_cons_succ] at x0 x1 x2 x3
                  have LH : wr.heap.size < (wr.alloc (.cells #[.int .i64 h.id.d, .int .i64 h.id.o, .int .i64 h.id.k, .int .i64 h.id.n] 24)).drew.heap.size := by simp
                  have BX := Lib.hid (HZ.out.trans (bx.mono HZ.out.size)).drew
                  have HMM := Lib.hid hh
                  clear hr hri hh hn1 hn2 hc1 hc2 bx AR
                  go_wp2
                  go_region_held (fun W => W.cell? ⟨wr.heap.size, 0, none⟩ = some (.int .i64 h.id.d) ∧ W.cell? ⟨wr.heap.size, 1, none⟩ = some (.int .i64 h.id.o) ∧ W.cell? ⟨wr.heap.size, 2, none⟩ = some (.int .i64 h.id.k) ∧ W.cell? ⟨wr.heap.size, 3, none⟩ = some (.int .i64 h.id.n) ∧ W.cell? ⟨g, o + k * 32 + 23, none⟩ = some (.int .i64 p.frm.d) ∧ W.cell? ⟨g, o + k * 32 + 24, none⟩ = some (.int .i64 p.frm.o) ∧ W.cell? ⟨g, o + k * 32 + 25, none⟩ = some (.int .i64 p.frm.k) ∧ W.cell? ⟨g, o + k * 32 + 26, none⟩ = some (.int .i64 p.frm.n) ∧ W.cell? ⟨g, o + k * 32 + 27, none⟩ = some (.int .i64 p.to.d) ∧ W.cell? ⟨g, o + k * 32 + 28, none⟩ = some (.int .i64 p.to.o) ∧ W.cell? ⟨g, o + k * 32 + 29, none⟩ = some (.int .i64 p.to.k) ∧ W.cell? ⟨g, o + k * 32 + 30, none⟩ = some (.int .i64 p.to.n)) (first | exact ⟨x0, x1, x2, x3, a0, a1, a2, a3, b0, b1, b2, b3⟩ | exact ⟨by assumption, by assumption, by assumption, by assumption, by assumption, by assumption, by assumption, by assumption, by assumption, by assumption, by assumption, by assumption⟩) (first | (go_at_call 9; have _t := T1; clear T1 _t; refine (HCM.out h.id p.frm _).mono ?_; rintro e w8 ⟨rfl, hb⟩; rw [HC1.out]; have cx0 := (hb.cell (p := ⟨wr.heap.size, 0, none⟩) LH).trans x0; have cx1 := (hb.cell (p := ⟨wr.heap.size, 1, none⟩) LH).trans x1; have cx2 := (hb.cell (p := ⟨wr.heap.size, 2, none⟩) LH).trans x2; have cx3 := (hb.cell (p := ⟨wr.heap.size, 3, none⟩) LH).trans x3; have ca0 := (hb.cell (p := ⟨g, o + k * 32 + 23, none⟩) LG2).trans a0; have ca1 := (hb.cell (p := ⟨g, o + k * 32 + 24, none⟩) LG2).trans a1; have ca2 := (hb.cell (p := ⟨g, o + k * 32 + 25, none⟩) LG2).trans a2; have ca3 := (hb.cell (p := ⟨g, o + k * 32 + 26, none⟩) LG2).trans a3; have cb0 := (hb.cell (p := ⟨g, o + k * 32 + 27, none⟩) LG2).trans b0; have cb1 := (hb.cell (p := ⟨g, o + k * 32 + 28, none⟩) LG2).trans b1; have cb2 := (hb.cell (p := ⟨g, o + k * 32 + 29, none⟩) LG2).trans b2; have cb3 := (hb.cell (p := ⟨g, o + k * 32 + 30, none⟩) LG2).trans b3; have LH8 := Nat.lt_of_lt_of_le LH hb.size; have LG8 := Nat.lt_of_lt_of_le LG2 hb.size; have B8 := Lib.hid (BX.out.trans (hb.mono BX.out.size)); clear hb) | (go_at_call 9; refine (HCM.out h.id p.to _).mono ?_; rintro e w9 ⟨rfl, hb⟩; rw [HC2.out]; have dx0 := (hb.cell (p := ⟨wr.heap.size, 0, none⟩) LH8).trans cx0; have dx1 := (hb.cell (p := ⟨wr.heap.size, 1, none⟩) LH8).trans cx1; have dx2 := (hb.cell (p := ⟨wr.heap.size, 2, none⟩) LH8).trans cx2; have dx3 := (hb.cell (p := ⟨wr.heap.size, 3, none⟩) LH8).trans cx3; have da0 := (hb.cell (p := ⟨g, o + k * 32 + 23, none⟩) LG8).trans ca0; have da1 := (hb.cell (p := ⟨g, o + k * 32 + 24, none⟩) LG8).trans ca1; have da2 := (hb.cell (p := ⟨g, o + k * 32 + 25, none⟩) LG8).trans ca2; have da3 := (hb.cell (p := ⟨g, o + k * 32 + 26, none⟩) LG8).trans ca3; have db0 := (hb.cell (p := ⟨g, o + k * 32 + 27, none⟩) LG8).trans cb0; have db1 := (hb.cell (p := ⟨g, o + k * 32 + 28, none⟩) LG8).trans cb1; have db2 := (hb.cell (p := ⟨g, o + k * 32 + 29, none⟩) LG8).trans cb2; have db3 := (hb.cell (p := ⟨g, o + k * 32 + 30, none⟩) LG8).trans cb3; have B9 := Lib.hid (B8.out.trans (hb.mono B8.out.size)); clear hb))
                  go_wp2
                  go_roundw
                  case rel => exact ⟨j + 1, by omega, by go_num, B9.out⟩
                  case measure => simp [intOf]; omega
                · obtain rfl : j = pn := by omega
                  have OZ := Lib.hid (HO.out.below HZ.out)
                  have HSZ := Lib.hid (HHS.out wr HZ.out)
                  clear hjl
                  go_wp2_with (first
                    | (at_builtin; refine kindH.wp_append rfl _ _ rfl w2.heap.size _ SS rfl OZ.out pa p.hs j pc rfl HPN.out HSZ.out.toE (by have := HS1.out; have := HPL.out; unfold maxLen; omega) (by have := HS1.out; have := HPL.out; omega) (by have := HZ.out.size; have := HB.out.size; omega) ?_; intro A6 n6 c6 w6 hn6 ho6 hb6 _; have N6 := Lib.hid hn6; have O6 := Lib.hid ho6; have B6 := Lib.hid ((HB.out.trans (HZ.out.mono HB.out.size)).trans hb6); clear hn6 ho6 hb6))
                  go_roundw
                  case rel => exact ⟨k + 1, by omega, by go_num, by rw [HSN.out]; rfl, ⟨A6, n6, c6, rfl, by rw [HGT.out]; exact N6.out, (OwnH.ofE O6.out).cap⟩, by unfold Hid; rw [HGT.out]; exact O6.out, B6.out⟩
                  case measure => simp [intOf]; omega
          · have d1 : decide (0 ≤ v1) = false := decide_eq_false q1
            rw [if_neg (fun h => q1 (hin.1 h).1)] at hsn
            have HSN := Lib.hid hsn
            clear hsn hin q1 hlt
            go_wp2
            refine wp_region_held_drew (S := (fun W => W.cell? ⟨w.heap.size, 0, none⟩ = some (.int .i64 id.d) ∧ W.cell? ⟨w.heap.size, 1, none⟩ = some (.int .i64 id.o) ∧ W.cell? ⟨w.heap.size, 2, none⟩ = some (.int .i64 id.k) ∧ W.cell? ⟨w.heap.size, 3, none⟩ = some (.int .i64 id.n) ∧ W.cell? ⟨g, o + k * 32 + 23, none⟩ = some (.int .i64 p.frm.d) ∧ W.cell? ⟨g, o + k * 32 + 24, none⟩ = some (.int .i64 p.frm.o) ∧ W.cell? ⟨g, o + k * 32 + 25, none⟩ = some (.int .i64 p.frm.k) ∧ W.cell? ⟨g, o + k * 32 + 26, none⟩ = some (.int .i64 p.frm.n) ∧ W.cell? ⟨g, o + k * 32 + 27, none⟩ = some (.int .i64 p.to.d) ∧ W.cell? ⟨g, o + k * 32 + 28, none⟩ = some (.int .i64 p.to.o) ∧ W.cell? ⟨g, o + k * 32 + 29, none⟩ = some (.int .i64 p.to.k) ∧ W.cell? ⟨g, o + k * 32 + 30, none⟩ = some (.int .i64 p.to.n))) (by kernel_rfl) ⟨i0, i1, i2, i3, f0, f1, f2, f3, t0, t1, t2, t3⟩ (fun hHeld => ?_)
            refine takeD (i := 0) (d := 51) (v := ?va0) rfl rfl (by kernel_rfl) (by kernel_rfl) (by kernel_rfl) (fun _ _ _ h => h) rfl ?ha0 (by assumption) ?ra0
            case ha0 =>
              intro w hSw
              obtain ⟨s0, s1, s2, s3, s4, s5, s6, s7, s8, s9, s10, s11⟩ := hSw
              go_simp
              try with_reducible rfl
            simp only [List.setIfInBounds_toArray, List.set_cons_zero, List.set_cons_succ]
            refine takeD (i := 1) (d := 52) (v := ?va1) rfl rfl (by kernel_rfl) (by kernel_rfl) (by kernel_rfl) (fun _ _ _ h => h) rfl ?ha1 (by assumption) ?ra1
            case ha1 =>
              intro w hSw
              obtain ⟨s0, s1, s2, s3, s4, s5, s6, s7, s8, s9, s10, s11⟩ := hSw
              go_simp
              try with_reducible rfl
            simp only [List.setIfInBounds_toArray, List.set_cons_zero, List.set_cons_succ]
            refine takeD (i := 2) (d := 53) (v := ?va2) rfl rfl (by kernel_rfl) (by kernel_rfl) (by kernel_rfl) (fun _ _ _ h => h) rfl ?ha2 (by assumption) ?ra2
            case ha2 =>
              intro w hSw
              obtain ⟨s0, s1, s2, s3, s4, s5, s6, s7, s8, s9, s10, s11⟩ := hSw
              go_simp
              try with_reducible rfl
            simp only [List.setIfInBounds_toArray, List.set_cons_zero, List.set_cons_succ]
            refine takeD (i := 3) (d := 54) (v := ?va3) rfl rfl (by kernel_rfl) (by kernel_rfl) (by kernel_rfl) (fun _ _ _ h => h) rfl ?ha3 (by assumption) ?ra3
            case ha3 =>
              intro w hSw
              obtain ⟨s0, s1, s2, s3, s4, s5, s6, s7, s8, s9, s10, s11⟩ := hSw
              go_simp
              try with_reducible rfl
            simp only [List.setIfInBounds_toArray, List.set_cons_zero, List.set_cons_succ]
            refine takeD (i := 4) (d := 55) (v := ?va4) rfl rfl (by kernel_rfl) (by kernel_rfl) (by kernel_rfl) (fun _ _ _ h => h) rfl ?ha4 (by assumption) ?ra4
            case ha4 =>
              intro w hSw
              obtain ⟨s0, s1, s2, s3, s4, s5, s6, s7, s8, s9, s10, s11⟩ := hSw
              go_simp
              try with_reducible rfl
            simp only [List.setIfInBounds_toArray, List.set_cons_zero, List.set_cons_succ]
            refine takeD (i := 5) (d := 56) (v := ?va5) rfl rfl (by kernel_rfl) (by kernel_rfl) (by kernel_rfl) (fun _ _ _ h => h) rfl ?ha5 (by assumption) ?ra5
            case ha5 =>
              intro w hSw
              obtain ⟨s0, s1, s2, s3, s4, s5, s6, s7, s8, s9, s10, s11⟩ := hSw
              go_simp
              try with_reducible rfl
            simp only [List.setIfInBounds_toArray, List.set_cons_zero, List.set_cons_succ]
            refine wpAnyH_ready (rs := [6]) (by kernel_rfl) (by simp) ?_
            refine AllReadyH.cons rfl (fun K hK => ?_) AllReadyH.nil
            go_simp
            go_wp2_with (first | (go_at_call 9; refine (HCM.out id p.frm _).mono ?_; rintro e w5 ⟨rfl, hb⟩; rw [HV1.out]; have B5 := Lib.hid (BD0.out.trans (hb.mono BD0.out.size)); clear hb))
            obtain ⟨⟨cf0, cf1, cf2, cf3, ct0, ct1, ct2, ct3⟩, -, -, ⟨ci0, ci1, ci2, ci3⟩, -⟩ := HPK.out w5 B5.out
            refine hK.out _ _ ⟨ci0, ci1, ci2, ci3, cf0, cf1, cf2, cf3, ct0, ct1, ct2, ct3⟩ (fun hHeld => ?_)
            clear hK K
            refine takeD (i := 7) (d := 58) (v := ?va7) rfl rfl (by kernel_rfl) (by kernel_rfl) (by kernel_rfl) (fun _ _ _ h => h) rfl ?ha7 (by assumption) ?ra7
            case ha7 =>
              intro w hSw
              obtain ⟨s0, s1, s2, s3, s4, s5, s6, s7, s8, s9, s10, s11⟩ := hSw
              go_simp
              try with_reducible rfl
            simp only [List.setIfInBounds_toArray, List.set_cons_zero, List.set_cons_succ]
            refine takeD (i := 8) (d := 59) (v := ?va8) rfl rfl (by kernel_rfl) (by kernel_rfl) (by kernel_rfl) (fun _ _ _ h => h) rfl ?ha8 (by assumption) ?ra8
            case ha8 =>
              intro w hSw
              obtain ⟨s0, s1, s2, s3, s4, s5, s6, s7, s8, s9, s10, s11⟩ := hSw
              go_simp
              try with_reducible rfl
            simp only [List.setIfInBounds_toArray, List.set_cons_zero, List.set_cons_succ]
            refine takeNo (i := 9) (d := 60) rfl rfl (by kernel_rfl) (by kernel_rfl) (by kernel_rfl) (fun _ _ _ h => h) (by kernel_rfl) (by assumption) ?_
            simp only [List.setIfInBounds_toArray, List.set_cons_zero, List.set_cons_succ]
            refine takeNo (i := 10) (d := 61) rfl rfl (by kernel_rfl) (by kernel_rfl) (by kernel_rfl) (fun _ _ _ h => h) (by kernel_rfl) (by assumption) ?_
            simp only [List.setIfInBounds_toArray, List.set_cons_zero, List.set_cons_succ]
            refine takeNo (i := 11) (d := 62) rfl rfl (by kernel_rfl) (by kernel_rfl) (by kernel_rfl) (fun _ _ _ h => h) (by kernel_rfl) (by assumption) ?_
            simp only [List.setIfInBounds_toArray, List.set_cons_zero, List.set_cons_succ]
            refine takeNo (i := 12) (d := 63) rfl rfl (by kernel_rfl) (by kernel_rfl) (by kernel_rfl) (fun _ _ _ h => h) (by kernel_rfl) (by assumption) ?_
            simp only [List.setIfInBounds_toArray, List.set_cons_zero, List.set_cons_succ]
            refine takeNo (i := 13) (d := 64) rfl rfl (by kernel_rfl) (by kernel_rfl) (by kernel_rfl) (fun _ _ _ h => h) (by kernel_rfl) (by assumption) ?_
            simp only [List.setIfInBounds_toArray, List.set_cons_zero, List.set_cons_succ]
            refine takeNo (i := 14) (d := 65) rfl rfl (by kernel_rfl) (by kernel_rfl) (by kernel_rfl) (fun _ _ _ h => h) (by kernel_rfl) (by assumption) ?_
            simp only [List.setIfInBounds_toArray, List.set_cons_zero, List.set_cons_succ]
            refine takeNo (i := 15) (d := 66) rfl rfl (by kernel_rfl) (by kernel_rfl) (by kernel_rfl) (fun _ _ _ h => h) (by kernel_rfl) (by assumption) ?_
            simp only [List.setIfInBounds_toArray, List.set_cons_zero, List.set_cons_succ]
            refine takeNo (i := 16) (d := 67) rfl rfl (by kernel_rfl) (by kernel_rfl) (by kernel_rfl) (fun _ _ _ h => h) (by kernel_rfl) (by assumption) ?_
            simp only [List.setIfInBounds_toArray, List.set_cons_zero, List.set_cons_succ]
            refine takeD (i := 17) (d := 68) (v := ?va17) rfl rfl (by kernel_rfl) (by kernel_rfl) (by kernel_rfl) (fun _ _ _ h => h) rfl ?ha17 (by assumption) ?ra17
            case ha17 =>
              intro w hSw
              obtain ⟨s0, s1, s2, s3, s4, s5, s6, s7, s8, s9, s10, s11⟩ := hSw
              go_simp
              try with_reducible rfl
            simp only [List.setIfInBounds_toArray, List.set_cons_zero, List.set_cons_succ]
            refine wpAnyH_done (by kernel_rfl) ?_ _
            clear hHeld cf0 cf1 cf2 cf3 ct0 ct1 ct2 ct3 ci0 ci1 ci2 ci3
            all_goals
              clear i0 i1 i2 i3 f0 f1 f2 f3 t0 t1 t2 t3
              have B1 := Lib.hid (B5.out)
              go_wp2
              go_loopw [13] (fun u wz => ∃ j : Nat, j ≤ pn ∧ u = .int .i64 j ∧ Hid (Below W0.heap.size W0 wz)) (fun u _ => pn - (intOf u).toNat)
              case atStart => exact ⟨0, Nat.zero_le _, rfl, B1.out⟩
              case round =>
                obtain ⟨j, hj, rfl, HZ⟩ := hrel
                obtain ⟨⟨f0, f1, f2, f3, t0, t1, t2, t3⟩, h31, LG, -⟩ := HPK.out wr HZ.out
                have k0 : (0 : Int) ≤ (k : Int) := Int.natCast_nonneg _
                have k1 : (k : Int) < (cn : Int) := by omega
                by_cases hjl : j < pn
                · obtain ⟨h, hh⟩ : ∃ h, p.hs[j]? = some h := ⟨_, List.getElem?_eq_getElem (by have := HPN.out; omega)⟩
                  obtain ⟨gh, oh, e, hgh, hr, hri⟩ := (HHS.out wr HZ.out).at hh
                  obtain ⟨hn1, hn2⟩ := HIN.out h (List.mem_of_getElem? hh)
                  subst e
                  have y0 := mid_cell0 hri rfl
                  have y1 := mid_cell hri 1 rfl
                  have y2 := mid_cell hri 2 rfl
                  have y3 := mid_cell hri 3 rfl
                  have j0 : (0 : Int) ≤ (j : Int) := Int.natCast_nonneg _
                  have j1 : (j : Int) < (pn : Int) := by omega
                  obtain ⟨c1, hc1⟩ : ∃ c1, cmpT h.id p.frm = c1 := ⟨_, rfl⟩
                  obtain ⟨c2, hc2⟩ : ∃ c2, cmpT h.id p.to = c2 := ⟨_, rfl⟩
                  have d1 : decide (c1 < 0) = false := decide_eq_false (by rw [← hc1]; exact fun q => hn1 (cmp_neg.1 q))
                  have d2 : decide (0 < c2) = false := decide_eq_false (by rw [← hc2]; exact fun q => hn2 (cmp_pos.1 q))
                  have HC1 := Lib.hid hc1
                  have HC2 := Lib.hid hc2
                  have T1 : True := trivial
                  have bx : Below wr.heap.size wr (wr.alloc (.cells #[.int .i64 h.id.d, .int .i64 h.id.o, .int .i64 h.id.k, .int .i64 h.id.n] 24)) := (Below.refl _ _).alloc (Nat.le_refl _) _
                  obtain ⟨⟨a0, a1, a2, a3, b0, b1, b2, b3⟩, -, LG2, -⟩ := HPK.out _ (HZ.out.trans (bx.mono HZ.out.size)).drew
                  have AR : Arr (wr.alloc (.cells #[.int .i64 h.id.d, .int .i64 h.id.o, .int .i64 h.id.k, .int .i64 h.id.n] 24)).drew wr.heap.size 24 (cellsI h.id) := Arr.new wr 24 (cellsI h.id)
                  have x0 := AR.cell 0
                  have x1 := AR.cell 1
                  have x2 := AR.cell 2
                  have x3 := AR.cell 3
                  simp only [cellsI, List.getElem?_cons_zero, List.getElem?_cons_succ] at x0 x1 x2 x3
                  have LH : wr.heap.size < (wr.alloc (.cells #[.int .i64 h.id.d, .int .i64 h.id.o, .int .i64 h.id.k, .int .i64 h.id.n] 24)).drew.heap.size := by simp
                  have BX := Lib.hid (HZ.out.trans (bx.mono HZ.out.size)).drew
                  have HMM := Lib.hid hh
                  clear hr hri hh hn1 hn2 hc1 hc2 bx AR
                  go_wp2
                  go_region_held (fun W => W.cell? ⟨wr.heap.size, 0, none⟩ = some (.int .i64 h.id.d) ∧ W.cell? ⟨wr.heap.size, 1, none⟩ = some (.int .i64 h.id.o) ∧ W.cell? ⟨wr.heap.size, 2, none⟩ = some (.int .i64 h.id.k) ∧ W.cell? ⟨wr.heap.size, 3, none⟩ = some (.int .i64 h.id.n) ∧ W.cell? ⟨g, o + k * 32 + 23, none⟩ = some (.int .i64 p.frm.d) ∧ W.cell? ⟨g, o + k * 32 + 24, none⟩ = some (.int .i64 p.frm.o) ∧ W.cell? ⟨g, o + k * 32 + 25, none⟩ = some (.int .i64 p.frm.k) ∧ W.cell? ⟨g, o + k * 32 + 26, none⟩ = some (.int .i64 p.frm.n) ∧ W.cell? ⟨g, o + k * 32 + 27, none⟩ = some (.int .i64 p.to.d) ∧ W.cell? ⟨g, o + k * 32 + 28, none⟩ = some (.int .i64 p.to.o) ∧ W.cell? ⟨g, o + k * 32 + 29, none⟩ = some (.int .i64 p.to.k) ∧ W.cell? ⟨g, o + k * 32 + 30, none⟩ = some (.int .i64 p.to.n)) (first | exact ⟨x0, x1, x2, x3, a0, a1, a2, a3, b0, b1, b2, b3⟩ | exact ⟨by assumption, by assumption, by assumption, by assumption, by assumption, by assumption, by assumption, by assumption, by assumption, by assumption, by assumption, by assumption⟩) (first | (go_at_call 9; have _t := T1; clear T1 _t; refine (HCM.out h.id p.frm _).mono ?_; rintro e w8 ⟨rfl, hb⟩; rw [HC1.out]; have cx0 := (hb.cell (p := ⟨wr.heap.size, 0, none⟩) LH).trans x0; have cx1 := (hb.cell (p := ⟨wr.heap.size, 1, none⟩) LH).trans x1; have cx2 := (hb.cell (p := ⟨wr.heap.size, 2, none⟩) LH).trans x2; have cx3 := (hb.cell (p := ⟨wr.heap.size, 3, none⟩) LH).trans x3; have ca0 := (hb.cell (p := ⟨g, o + k * 32 + 23, none⟩) LG2).trans a0; have ca1 := (hb.cell (p := ⟨g, o + k * 32 + 24, none⟩) LG2).trans a1; have ca2 := (hb.cell (p := ⟨g, o + k * 32 + 25, none⟩) LG2).trans a2; have ca3 := (hb.cell (p := ⟨g, o + k * 32 + 26, none⟩) LG2).trans a3; have cb0 := (hb.cell (p := ⟨g, o + k * 32 + 27, none⟩) LG2).trans b0; have cb1 := (hb.cell (p := ⟨g, o + k * 32 + 28, none⟩) LG2).trans b1; have cb2 := (hb.cell (p := ⟨g, o + k * 32 + 29, none⟩) LG2).trans b2; have cb3 := (hb.cell (p := ⟨g, o + k * 32 + 30, none⟩) LG2).trans b3; have LH8 := Nat.lt_of_lt_of_le LH hb.size; have LG8 := Nat.lt_of_lt_of_le LG2 hb.size; have B8 := Lib.hid (BX.out.trans (hb.mono BX.out.size)); clear hb) | (go_at_call 9; refine (HCM.out h.id p.to _).mono ?_; rintro e w9 ⟨rfl, hb⟩; rw [HC2.out]; have dx0 := (hb.cell (p := ⟨wr.heap.size, 0, none⟩) LH8).trans cx0; have dx1 := (hb.cell (p := ⟨wr.heap.size, 1, none⟩) LH8).trans cx1; have dx2 := (hb.cell (p := ⟨wr.heap.size, 2, none⟩) LH8).trans cx2; have dx3 := (hb.cell (p := ⟨wr.heap.size, 3, none⟩) LH8).trans cx3; have da0 := (hb.cell (p := ⟨g, o + k * 32 + 23, none⟩) LG8).trans ca0; have da1 := (hb.cell (p := ⟨g, o + k * 32 + 24, none⟩) LG8).trans ca1; have da2 := (hb.cell (p := ⟨g, o + k * 32 + 25, none⟩) LG8).trans ca2; have da3 := (hb.cell (p := ⟨g, o + k * 32 + 26, none⟩) LG8).trans ca3; have db0 := (hb.cell (p := ⟨g, o + k * 32 + 27, none⟩) LG8).trans cb0; have db1 := (hb.cell (p := ⟨g, o + k * 32 + 28, none⟩) LG8).trans cb1; have db2 := (hb.cell (p := ⟨g, o + k * 32 + 29, none⟩) LG8).trans cb2; have db3 := (hb.cell (p := ⟨g, o + k * 32 + 30, none⟩) LG8).trans cb3; have B9 := Lib.hid (B8.out.trans (hb.mono B8.out.size)); clear hb))
                  go_wp2
                  go_roundw
                  case rel => exact ⟨j + 1, by omega, by go_num, B9.out⟩
                  case measure => simp [intOf]; omega
                · obtain rfl : j = pn := by omega
                  have OZ := Lib.hid (HO.out.below HZ.out)
                  have HSZ := Lib.hid (HHS.out wr HZ.out)
                  clear hjl
                  go_wp2_with (first
                    | (at_builtin; refine kindH.wp_append rfl _ _ rfl w2.heap.size _ SS rfl OZ.out pa p.hs j pc rfl HPN.out HSZ.out.toE (by have := HS1.out; have := HPL.out; unfold maxLen; omega) (by have := HS1.out; have := HPL.out; omega) (by have := HZ.out.size; have := HB.out.size; omega) ?_; intro A6 n6 c6 w6 hn6 ho6 hb6 _; have N6 := Lib.hid hn6; have O6 := Lib.hid ho6; have B6 := Lib.hid ((HB.out.trans (HZ.out.mono HB.out.size)).trans hb6); clear hn6 ho6 hb6))
                  go_roundw
                  case rel => exact ⟨k + 1, by omega, by go_num, by rw [HSN.out]; rfl, ⟨A6, n6, c6, rfl, by rw [HGT.out]; exact N6.out, (OwnH.ofE O6.out).cap⟩, by unfold Hid; rw [HGT.out]; exact O6.out, B6.out⟩
                  case measure => simp [intOf]; omega
        · obtain rfl : k = cn := by omega
          have hs : all.take (k * pr) = all := by rw [hcnt.out, cnt_all hpos]
          rw [hs] at hn HO
          obtain ⟨i0, i1, i2, i3, LI⟩ := IDB.out W0 (S2.out.trans (HB.out.mono hw2))
          have hsm : ∀ W A4 n4 c4, n4 = all.length → n4 ≤ c4 → RdT W A4 all → Below W0.heap.size W0 W → Calls Try.prog 11 #[.slice X n c0, .slice A4 n4 c4] W fun e w' => e = .returned (.bool true) ∧ Below W.heap.size W w' := fun W A4 n4 c4 h4 h44 hr4 hb => by
            have := same_any all all X A4 c0 c4 W ((OwnH.ofE HO.out).rd.below hb) hr4 (by omega) (by omega) (by omega) (by omega)
            rw [← h4] at this
            have hnn : n = n4 := by rw [hn, h4]
            rw [hnn]
            refine Calls.mono this ?_
            rintro e w' ⟨rfl, m, rfl⟩
            exact ⟨by simp, ⟨rfl, rfl, rfl, Nat.le_refl _, fun _ _ => rfl⟩⟩
          have HSM := Lib.hid hsm
          have HRI := Lib.hid (rright_any id)
          by_cases hr : rightT id
          · have hsp : spnT pr all id k = 1 := by rw [hcnt.out]; exact spn_all hpos HHR.out hr
            have HDR := Lib.hid (decide_eq_true hr)
            rw [hsp]
            clear hs hn hsm hlt hsp hr
            go_wp2_with (first
              | (go_at_call 10; refine (HRI.out _).mono ?_; rintro e w5 ⟨rfl, hb⟩; rw [HDR.out]; have S5 := Lib.hid hb; clear hb)
              | (go_at_call 12; refine (HMG.out _ (BW.out.trans (S5.out.mono BW.out.size))).mono ?_; rintro e w6 ⟨⟨A4, n4, c4, rfl, h4, h44, hr4⟩, hb⟩; have H4 := Lib.hid h4; have H44 := Lib.hid h44; have R4 := Lib.hid hr4; have S6 := Lib.hid (S5.out.trans (hb.mono S5.out.size)); clear hb h4 h44 hr4)
              | (go_at_call 11; refine (HSM.out _ _ _ _ H4.out H44.out R4.out S6.out).mono ?_; rintro e w7 ⟨rfl, hb⟩; have B7 := Lib.hid (BW.out.trans ((S6.out.trans (hb.mono S6.out.size)).mono BW.out.size)); clear hb))
            go_ret
            exact ⟨by simp, B7.out⟩
          · have HDR := Lib.hid (decide_eq_false hr)
            generalize spnT pr all id k = sp
            clear hs hn hsm hlt hr
            go_wp2_with (first
              | (go_at_call 10; refine (HRI.out _).mono ?_; rintro e w5 ⟨rfl, hb⟩; rw [HDR.out]; have S5 := Lib.hid hb; clear hb)
              | (go_at_call 12; refine (HMG.out _ (BW.out.trans (S5.out.mono BW.out.size))).mono ?_; rintro e w6 ⟨⟨A4, n4, c4, rfl, h4, h44, hr4⟩, hb⟩; have H4 := Lib.hid h4; have H44 := Lib.hid h44; have R4 := Lib.hid hr4; have S6 := Lib.hid (S5.out.trans (hb.mono S5.out.size)); clear hb h4 h44 hr4)
              | (go_at_call 11; refine (HSM.out _ _ _ _ H4.out H44.out R4.out S6.out).mono ?_; rintro e w7 ⟨rfl, hb⟩; have B7 := Lib.hid (BW.out.trans ((S6.out.trans (hb.mono S6.out.size)).mono BW.out.size)); clear hb))
            go_ret
            exact ⟨by simp, B7.out⟩
  · have hD2 : ∀ W, Below w.heap.size w W → Calls Try.prog 8 #[.slice a l.length ca, .int .i64 per] W fun e w' => e = .returned (.tuple #[.slice none 0 0, .int .i64 1]) ∧ Below W.heap.size W w' := fun W hb => Calls.mono (hD W hb) fun e w' h => ⟨h.2.1 hm, h.2.2⟩
    generalize l.length = nl at *
    have HD := Lib.hid hD2
    clear hD hD2 ha hm
    go_enter Try.func3, Try.ntmps3
    go_wp2_with (first
      | (go_at_call 7; refine (HAW.out _).mono ?_; rintro e w1 ⟨rfl, hb⟩; have B1 := Lib.hid (B0.out.trans (hb.mono B0.out.size)); clear hb)
      | (go_at_call 8; refine (HD.out _ B1.out).mono ?_; rintro e w2 ⟨rfl, hb⟩; have B2 := Lib.hid (B1.out.trans (hb.mono B1.out.size)); clear hb))
    go_ret
    exact ⟨by simp, B2.out⟩
end Go.Proofs.Ytjfnpciecgemeaa.ti

namespace Go.Proofs.Ytjfnpciecgemeaa.tideSpans
open Go.ChangeShapes Go.WideShapes Go.ChangeAt Go.RowKit Go.Proofs.Ytjfnpciecgemeaa.ti
set_option linter.unusedVariables false
theorem okWide_array {P : Program} {w : World} {r : Reach} {base : Nat} {t e : TypeId} {n : Nat} {v : Value} (ht : P.underlying t = some (.array n e)) (h : Value.okWide P w r base t v) : ∃ cs, v = .agg cs ∧ cs.size = P.cellsOf t := by
  simp only [Value.okWide, ht] at h
  obtain ⟨cs, h1, h2, _⟩ := h
  exact ⟨cs, h1, h2⟩
theorem own : ownKnob Try.prog.godebug = none := by kernel_rfl
theorem laidOut : laidOutB Try.prog = true := by kernel_rfl
set_option maxRecDepth 100000 in
theorem lifted (os : Os) (started : os.Started) (H : Type) (enc : TypeId × Value → H) :
    ReturnsInHanded {} Try.checked os 3 .any (Rows.tideSpansSpec.pre6 enc Try.prog Try.f3 Rows.tideSpansRow.domain false) (Rows.tideSpansSpec.post enc Try.prog Try.f3 false true false false) := by
  refine returnsInHanded_of_change_sized (C := Try.checked) own started (by kernel_rfl) Try.func3
    (ChangeSpec.witness6 (enc := enc) (C := Try.checked) false ⟨#[], #[.slice none 0 0, .int .i64 0, .agg #[.int .i64 0, .int .i64 0, .int .i64 0, .int .i64 0]], []⟩ 8 (by kernel_rfl) (by kernel_rfl) (by kernel_rfl) (by kernel_rfl)) ?_
  intro W base args ds gs before hval0 hW hcnd hsz0 _
  have hval : ∀ (j : Nat) t v, Try.f3.params[j]? = some t → args[j]? = some v → Value.okWide Try.prog W .any base t v := hval0
  have hW' := hW
  obtain ⟨p, q, hA0, hV, rfl, hfz, hnd⟩ := hW
  have hA : DataW.TrodAll enc Try.prog W 0 (fun _ => true) true Try.f3.params.toList args.toList ds p := hA0
  rw [Try.params3] at hA hval
  obtain ⟨v0, vs0, d0, ds0, p0, q0, hargs, rfl, rfl, h0, r0⟩ := trodAll_cons hA
  obtain ⟨v1, vs1, d1, ds1, p1, q1, rfl, rfl, rfl, h1, r1⟩ := trodAll_cons r0
  obtain ⟨v2, vs2, d2, ds2, p2, q2, rfl, rfl, rfl, h2, r2⟩ := trodAll_cons r1
  obtain ⟨rfl, rfl, rfl⟩ := trodAll_nil r2
  obtain rfl : args = #[v0, v1, v2] := by cases args; simp_all
  obtain ⟨rfl, rfl⟩ := trodVars_none hV
  obtain ⟨a0, len0, cap0, rfl⟩ := okWide_slice Try.underlying22 (hval 0 22 v0 rfl rfl)
  have k0 := h0
  have lt0 : ∀ x ∈ p0, x.block < W.heap.size := by obtain ⟨m, hm⟩ := k0; exact DataW.trod_lt m _ _ _ hm
  obtain ⟨z0, zl0, zn0, w0⟩ := heads_of h0
  obtain rfl := zl0
  obtain ⟨a1, rfl, rfl, rfl, w1⟩ := open_int Try.underlying3 (hval 1 3 v1 rfl rfl) h1
  obtain ⟨cs2, rfl, _⟩ := okWide_struct Try.underlying24 (hval 2 24 v2 rfl rfl)
  have k2 := h2
  have lt2 : ∀ x ∈ p2, x.block < W.heap.size := by obtain ⟨m, hm⟩ := k2; exact DataW.trod_lt m _ _ _ hm
  obtain ⟨x2, rfl, nb2⟩ := id_of h2
  clear hA0 hval0
  refine (tspans_walk z0 a0 cap0 zn0.1 zn0.2.1 zn0.2.2 a1 x2 nb2 W w0).mono fun e W' ⟨he, bel⟩ => ?_
  subst he
  exact ⟨_, rfl, _, _, _, [], _, [], hW', trodAll_mk1 (shut_bool Try.underlying4 _), (trodAll_cons_mk (Below.trod laidOut (by kernel_rfl) (of_decide_eq_true (by kernel_rfl)) k0 bel lt0) (trodAll_cons_mk (shut_int Try.underlying3 w1) (trodAll_cons_mk (Below.trod laidOut (by kernel_rfl) (of_decide_eq_true (by kernel_rfl)) k2 bel lt2) trodAll_mk0))), rfl, bel.frame _, fun h => by cases h⟩
theorem over : Rows.tideSpansRow.holds Try.pinned (OpenSpec.ofChange Rows.tideSpansSpec) :=
  OpenClaim.holds_of_wide 3 Try.f3 rfl rfl rfl rfl rfl rfl rfl ⟨rfl, rfl, rfl, rfl, rfl⟩ rfl rfl rfl rfl rfl (by kernel_rfl) Try.func3 (by kernel_rfl)
    (of_decide_eq_true (by kernel_rfl)) (by unfold Func.isWrapper; first | (rw [if_pos (by decide +kernel)]; kernel_rfl) | (rw [if_neg (by decide +kernel)]; exact ⟨rfl, rfl⟩))
    (fun os started H enc _ => lifted os started H enc)
theorem proved : Rows.TideSpansSaid := over
#print axioms proved
end Go.Proofs.Ytjfnpciecgemeaa.tideSpans
