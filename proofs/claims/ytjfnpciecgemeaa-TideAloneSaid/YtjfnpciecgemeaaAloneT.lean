/-
  TideAlone: who knows nothing asks for all; to who knows nothing all is sent. No condition.
-/
import Derived.Test.YtjfnpciecgemeaaDLw
import Derived.Test.YtjfnpciecgemeaaChecked
import Derived.Test.YtjfnpciecgemeaaRows

/-
  THE LAW TideAlone: its walk.
-/
namespace Go.Proofs.Ytjfnpciecgemeaa.ti
set_option linter.unusedSimpArgs false
set_option linter.unusedVariables false
open Go.RowKit
theorem ans_none {per : Nat} (hp : 0 < per) {all : List THd} (H : AllR all) {k : Nat} (hk : k < cntT per all.length) : ansA [] (dpT per all k) = grpT per all k ∧ ansS [] (dpT per all k) = [] ∧ ansK [] (dpT per all k) = [] := by
  have e1 : ansM [] (dpT per all k) = [] := rfl
  have e2 := ansT_eq hp H hk
  have hg := grp_asc (per := per) H.1 k
  obtain ⟨g, hgg⟩ : ∃ g, grpT per all k = g := ⟨_, rfl⟩
  unfold ansA ansS ansK
  rw [e1, e2, hgg, merge_none (by rw [← hgg]; exact hg)]
  rw [hgg] at hg
  have key : ∀ x ∈ g, askF [] g x = [x] ∧ sendF true [] g x = [] ∧ knowF [] g x = [] := fun x hx => by
    have h0 : findT [] x.id = none := rfl
    unfold askF sendF knowF
    rw [findT_some hg hx, h0]
    exact ⟨rfl, rfl, rfl⟩
  refine ⟨?_, List.flatMap_eq_nil_iff.2 fun x hx => (key x hx).2.1, List.flatMap_eq_nil_iff.2 fun x hx => (key x hx).2.2⟩
  rw [flat_congr g (fun x hx => (key x hx).1)]
  simp
theorem desc_none (per : Nat) (hp : 0 < per) : descT per [] = [⟨firstT, lastT, []⟩] := by
  unfold descT
  rw [show cntT per ([] : List THd).length = 1 from rfl]
  show [dpT per [] 0] = _
  unfold dpT frmT toT grpT
  simp
theorem ans_all {l all : List THd} (ha : mergeT l [] = all) (H : AllR all) : ansA l ⟨firstT, lastT, []⟩ = [] ∧ ansS l ⟨firstT, lastT, []⟩ = all.map THd.id := by
  have e1 : ansM l ⟨firstT, lastT, []⟩ = all := by
    unfold ansM
    rw [← merge_filter (fun i => cntB 3 firstT lastT i) l, ha]
    exact List.filter_eq_self.2 fun x hx => by rw [cnt_tide, inB_is]; exact right_span (H.2 x hx)
  have e2 : ansT ⟨firstT, lastT, []⟩ = [] := rfl
  unfold ansA ansS
  rw [e1, e2, merge_nil H.1]
  have key : ∀ x ∈ all, askF all [] x = [] ∧ sendF true all [] x = [x.id] := fun x hx => by
    have h0 : findT [] x.id = none := rfl
    unfold askF sendF
    rw [findT_some H.1 hx, h0]
    exact ⟨rfl, rfl⟩
  refine ⟨List.flatMap_eq_nil_iff.2 fun x hx => (key x hx).1, ?_⟩
  rw [flat_congr all (fun x hx => (key x hx).2), List.map_eq_flatMap]
set_option maxHeartbeats 6400000 in
set_option maxRecDepth 100000 in
theorem talone_walk (l : List THd) (a : Option Addr) (ca : Nat) (hca : l.length ≤ ca) (hcm : ca ≤ maxLen) (hok : ∀ x ∈ l, okH x) (per : Int) (w : World) (ha : RdT w a l) : Calls Try.prog 6 #[.slice a l.length ca, .int .i64 per] w fun e w' => e = .returned (.bool true) ∧ Below w.heap.size w w' := by
  have hl63 : l.length ≤ 9223372036854775807 := by unfold maxLen at hcm; omega
  have HAW := Lib.hid awake_any
  have hD := fun W (hb : Below w.heap.size w W) => describe_any l a ca l.length per W (ha.below hb) hl63 rfl hca hok
  have hN := fun W => describe_any [] none 0 0 per W (fun j p h => by simp at h) (by simp) rfl (Nat.le_refl _) (by simp)
  have T1 : True := trivial
  by_cases hm : mayD l per
  · have hm0 : mayD [] per := ⟨hm.1, rfl⟩
    have hD2 : ∀ W, Below w.heap.size w W → Calls Try.prog 8 #[.slice a l.length ca, .int .i64 per] W fun e w' => (∃ A n c, e = .returned (.tuple #[.slice A n c, .int .i64 0]) ∧ n = (descT per.toNat (mergeT l [])).length ∧ n ≤ c ∧ RdDs w' A (descT per.toNat (mergeT l []))) ∧ Below W.heap.size W w' := fun W hb => Calls.mono (hD W hb) fun e w' h => ⟨h.1 hm, h.2.2⟩
    have hN2 : ∀ W, Calls Try.prog 8 #[.slice none 0 0, .int .i64 per] W fun e w' => (∃ A c, e = .returned (.tuple #[.slice A 1 c, .int .i64 0]) ∧ RdDs w' A [⟨firstT, lastT, []⟩]) ∧ Below W.heap.size W w' := fun W => Calls.mono (hN W) fun e w' h => by
      obtain ⟨A, n, c, he, hn, hc, hr⟩ := h.1 hm0
      rw [show mergeT [] [] = [] from rfl, desc_none per.toNat (by have := hm.1.1; omega)] at hn hr
      have hn1 : n = 1 := hn
      subst hn1
      exact ⟨⟨A, c, he, hr⟩, h.2.2⟩
    by_cases h150 : 150 < l.length
    · obtain ⟨nl, hnl⟩ : ∃ nl, l.length = nl := ⟨_, rfl⟩
      rw [hnl] at hD2 h150 ⊢
      have hd : decide (150 < (nl : Int)) = true := decide_eq_true (by omega)
      have HD := Lib.hid hD2
      have HN := Lib.hid hN2
      clear hD hD2 ha hm hnl hN hN2 hm0
      go_enter Try.func6, Try.ntmps6
      go_wp2_with (first
        | (go_at_call 7; refine (HAW.out _).mono ?_; rintro e w1 ⟨rfl, hb⟩; have B1 := Lib.hid hb; clear hb)
        | (go_at_call 8; have _t := T1; clear T1 _t; refine (HD.out _ B1.out).mono ?_; rintro e w2 ⟨⟨A, n, c, rfl, _, _, _⟩, hb⟩; have B2 := Lib.hid (B1.out.trans (hb.mono B1.out.size)); clear hb)
        | (go_at_call 8; refine (HN.out _).mono ?_; rintro e w3 ⟨⟨A', c', rfl, _⟩, hb⟩; have B3 := Lib.hid (B2.out.trans (hb.mono B2.out.size)); clear hb))
      go_ret
      exact ⟨rfl, B3.out⟩
    · have hper1 := hm.1.1
      have hper2 := hm.1.2
      obtain ⟨pr, hpr⟩ : ∃ pr : Nat, per = pr := ⟨per.toNat, by omega⟩
      obtain ⟨HR, HRG⟩ := may_all hm
      have hpos : 0 < pr := by omega
      obtain ⟨all, hall⟩ : ∃ all, mergeT l [] = all := ⟨_, rfl⟩
      have hal : all.length ≤ 150 := by have := merge_len l []; rw [hall] at this; simp at this; omega
      have hdo := fun (k : Nat) (p : Dp) (hp : (descT per.toNat (mergeT l []))[k]? = some p) => desc_ok hm hp
      rw [hpr, Int.toNat_natCast, hall] at hdo
      rw [hpr, Int.toNat_natCast, hall] at hD2
      rw [hall] at HR
      rw [← hpr] at hD2
      have HMG : Hid (∀ W, Below w.heap.size w W → Calls Try.prog 12 #[.slice a l.length ca, .slice none 0 0] W fun e w' => (∃ A n c, e = .returned (.slice A n c) ∧ n = all.length ∧ n ≤ c ∧ RdT w' A all) ∧ Below W.heap.size W w') := fun W hb => by
        have := pmergeB_any l [] a none ca 0 W (ha.below hb) (fun j p h => by simp at h) (by simpa using hl63) (by rw [hall]; omega) hca (Nat.le_refl _) (by simpa using hok)
        rw [hall] at this
        refine this.mono ?_
        rintro e w' ⟨v, rfl, ho, hb⟩
        obtain ⟨A, n, c, rfl, h1, h2⟩ := own_formN ho
        exact ⟨⟨A, n, c, rfl, h1, h2, ho.rd⟩, hb⟩
      have hAN := fun (p : Dp) (hp : OkDp p) (pa : Option Addr) (pn pc : Nat) (W : World) (hr : RdT W pa p.hs) (hn : pn = p.hs.length) (h1 : pn ≤ pc) (h2 : pc ≤ maxLen) => answerD_any [] none 0 0 p pa pc pn W (fun j p h => by simp at h) (by simp) rfl (Nat.le_refl _) (by simp) hp hr hn h1 h2
      have hAL := fun (p : Dp) (hp : OkDp p) (pa : Option Addr) (pn pc : Nat) (W : World) (hb : Below w.heap.size w W) (hr : RdT W pa p.hs) (hn : pn = p.hs.length) (h1 : pn ≤ pc) (h2 : pc ≤ maxLen) => answerD_any l a ca l.length p pa pc pn W (ha.below hb) (by omega) rfl hca hok hp hr hn h1 h2
      obtain ⟨nl, hnl⟩ : ∃ nl, l.length = nl := ⟨_, rfl⟩
      rw [hnl] at hD2 h150 hAL HMG ⊢
      have hd : decide (150 < (nl : Int)) = false := decide_eq_false (by omega)
      have HD := Lib.hid hD2
      have HN := Lib.hid hN2
      have HAN := Lib.hid hAN
      have HLL := Lib.hid hAL
      have HDO := Lib.hid hdo
      have HHR := Lib.hid HR
      have HAL := Lib.hid hall
      clear hD hD2 ha hm hnl hAN hAL hdo hpr HR HRG hall hN hN2 hm0
      go_enter Try.func6, Try.ntmps6
      go_wp2_with (first
        | (go_at_call 7; refine (HAW.out _).mono ?_; rintro e w1 ⟨rfl, hb⟩; have B1 := Lib.hid hb; clear hb)
        | (go_at_call 8; have _t := T1; clear T1 _t; refine (HD.out _ B1.out).mono ?_; rintro e w2 ⟨⟨A, cn, c, rfl, hcn, hcc, hrd⟩, hb⟩; have B2 := Lib.hid (B1.out.trans (hb.mono B1.out.size)); have HCN := Lib.hid hcn; have HRD := Lib.hid hrd; clear hb hcn hrd)
        | (go_at_call 8; refine (HN.out _).mono ?_; rintro e w3 ⟨⟨A', c', rfl, hrd⟩, hb⟩; have B3 := Lib.hid (B2.out.trans (hb.mono B2.out.size)); have HRD3 := Lib.hid (HRD.out.below hb); have HRN := Lib.hid hrd; clear hb hrd)
        | (go_at_call 12; refine (HMG.out _ B3.out).mono ?_; rintro e w4 ⟨⟨A4, n4, c4, rfl, h4, h44, hr4⟩, hb⟩; have B4 := Lib.hid (B3.out.trans (hb.mono B3.out.size)); have HRD4 := Lib.hid (HRD3.out.below hb); have HRN4 := Lib.hid (HRN.out.below hb); have H4 := Lib.hid h4; have R4 := Lib.hid hr4; clear hb h4 hr4))
      have hcnt : Hid (cn = cntT pr all.length) := HCN.out.trans (desc_len _ _)
      have hcn1 : cn ≤ 151 := by rw [hcnt.out]; have := cnt_le hpos all.length; omega
      have hc0 : 0 < cn := by rw [hcnt.out]; exact cnt_pos hpos _
      have hn4 : n4 ≤ 150 := by rw [H4.out]; exact hal
      obtain ⟨g, o, pa0, pc0, rfl, _⟩ := HRD4.out 0 _ (List.getElem?_eq_getElem (by rw [← HCN.out]; exact hc0))
      go_loopw [11, 12] (fun u v wr => ∃ k : Nat, k ≤ cn ∧ v = .int .i64 k ∧ (∃ X n c, u = .slice X n c ∧ n = (all.take (k * pr)).length ∧ n ≤ c) ∧ Hid (OwnE 34 6 cellsT wr w4.heap.size u (all.take (k * pr))) ∧ Hid (Below w4.heap.size w4 wr)) (fun _ v _ => cn - (intOf v).toNat)
      case atStart => exact ⟨0, Nat.zero_le _, rfl, ⟨none, 0, 0, rfl, by simp, Nat.le_refl _⟩, by rw [Nat.zero_mul, List.take_zero]; exact OwnE.nil _ _, Below.refl _ _⟩
      case round =>
        obtain ⟨k, hk, rfl, ⟨X, n, c0, rfl, hn, hnc⟩, HO, HB⟩ := hrel
        have BW : Hid (Below w.heap.size w wr) := B4.out.trans (HB.out.mono B4.out.size)
        by_cases hlt : k < cn
        · obtain ⟨p, hp⟩ : ∃ p, (descT pr all)[k]? = some p := ⟨_, List.getElem?_eq_getElem (by rw [← HCN.out]; exact hlt)⟩
          obtain ⟨hok, hkc, hpe⟩ := HDO.out k p hp
          obtain ⟨g', o', pa, pc, e, hg, hcell, hhs, hc1, hc2⟩ := (HRD4.out.below HB.out) k p hp
          cases e
          obtain ⟨pn, hpn⟩ : ∃ pn, p.hs.length = pn := ⟨_, rfl⟩
          have hpl := hok.len
          have hpg : p.hs = grpT pr all k := by rw [hpe]; rfl
          have hgt : all.take ((k + 1) * pr) = all.take (k * pr) ++ p.hs := by rw [← grp_take, hpg]
          have hs1 : (all.take (k * pr)).length ≤ 150 := by simp; omega
          unfold encD at hcell
          rw [hpn] at hcell hc1 hpl
          dsimp only at hcell
          have hA := HAN.out p hok pa pn pc wr hhs hpn.symm hc1 hc2
          have hA2 : Calls Try.prog 13 #[.slice none 0 0, .agg #[.int .i64 3, .int .i64 0, .int .i64 0, .int .i64 0, .int .i64 0, .int .i64 0, .int .i64 0, .int .i64 0, .int .i64 0, .int .i64 0, .int .i64 0, .bool false, .bool false, .int .i64 0, .int .i64 0, .int .i64 0, .int .i64 0, .int .i64 0, .int .i64 0, .int .i64 0, .bool false, .slice none 0 0, .slice none 0 0, .int .i64 p.frm.d, .int .i64 p.frm.o, .int .i64 p.frm.k, .int .i64 p.frm.n, .int .i64 p.to.d, .int .i64 p.to.o, .int .i64 p.to.k, .int .i64 p.to.n, .slice pa pn pc]] wr fun e w' => (∃ A1 n1 c1 A2 c2 A3 c3, e = .returned (.tuple #[.slice A1 n1 c1, .slice A2 0 c2, .slice A3 0 c3]) ∧ n1 = p.hs.length ∧ RdT w' A1 p.hs) ∧ Below wr.heap.size wr w' := Calls.mono hA fun e w' ⟨⟨A1, n1, c1, A2, n2, c2, A3, n3, c3, he, ⟨q1, _, q1r⟩, ⟨q2, _, _⟩, q3⟩, hb⟩ => by
            obtain ⟨s1, s2, s3⟩ := ans_none hpos HHR.out hkc
            rw [hpe, s1, ← hpg] at q1 q1r
            rw [hpe, s2] at q2
            rw [hpe, s3] at q3
            subst q2 q3
            exact ⟨⟨A1, n1, c1, A2, c2, A3, c3, he, q1, q1r⟩, hb⟩
          have HA2 := Lib.hid hA2
          have HCE := Lib.hid hcell
          have HGT := Lib.hid hgt
          have HNN := Lib.hid hn
          have HPL := Lib.hid (show p.hs.length ≤ 64 by omega)
          have k0 : (0 : Int) ≤ (k : Int) := Int.natCast_nonneg _
          have k1 : (k : Int) < (cn : Int) := by omega
          obtain ⟨S, hS⟩ : ∃ S, all.take (k * pr) = S := ⟨_, rfl⟩
          rw [hS] at hs1 HGT HNN HO
          have HS1 := Lib.hid hs1
          clear hA hA2 hcell hgt hp hok hkc hpe hhs hpn hS hn hpg hs1 hpl
          go_wp2_with (first
            | (refine wpList_load_mid rfl 40 (.tmp 58) rfl g (o + k * 32) rfl [.int .i64 3, .int .i64 0, .int .i64 0, .int .i64 0, .int .i64 0, .int .i64 0, .int .i64 0, .int .i64 0, .int .i64 0, .int .i64 0, .int .i64 0, .bool false, .bool false, .int .i64 0, .int .i64 0, .int .i64 0, .int .i64 0, .int .i64 0, .int .i64 0, .int .i64 0, .bool false, .slice none 0 0, .slice none 0 0, .int .i64 p.frm.d, .int .i64 p.frm.o, .int .i64 p.frm.k, .int .i64 p.frm.n, .int .i64 p.to.d, .int .i64 p.to.o, .int .i64 p.to.k, .int .i64 p.to.n, .slice pa pn pc] _ HCE.out Try.underlying40 rfl (by kernel_rfl) ?_)
            | (go_at_call 13; refine HA2.out.mono ?_; rintro e w5 ⟨⟨A1, n1, c1, A2, c2, A3, c3, rfl, hn1, hr1⟩, hb⟩; have B5 := Lib.hid (HB.out.trans (hb.mono HB.out.size)); have O5 := Lib.hid (HO.out.below hb); have N1 := Lib.hid hn1; have R1 := Lib.hid hr1; clear hb hn1 hr1)
            | (at_builtin; refine kindH.wp_append rfl _ _ rfl w4.heap.size _ S rfl O5.out A1 p.hs n1 c1 rfl N1.out R1.out.toE (by have := HS1.out; have := HPL.out; unfold maxLen; omega) (by have := HS1.out; have := HPL.out; omega) B5.out.size ?_; intro A6 n6 c6 w6 hn6 ho6 hb6 _; have N6 := Lib.hid hn6; have O6 := Lib.hid ho6; have B6 := Lib.hid (B5.out.trans hb6); clear hn6 ho6 hb6))
          go_roundw
          case rel => exact ⟨k + 1, by omega, by go_num, ⟨A6, n6, c6, rfl, by rw [HGT.out]; exact N6.out, (OwnH.ofE O6.out).cap⟩, by unfold Hid; rw [HGT.out]; exact O6.out, B6.out⟩
          case measure => simp [intOf]; omega
        · obtain rfl : k = cn := by omega
          have hs : all.take (k * pr) = all := by rw [hcnt.out, cnt_all hpos]
          rw [hs] at hn HO
          obtain ⟨g', o', pa, pc, rfl, hg, hcell, hhs, hc1, hc2⟩ := (HRN4.out.below HB.out) 0 _ rfl
          have hcell2 : wr.rangeAt g' o' [.int .i64 3, .int .i64 0, .int .i64 0, .int .i64 0, .int .i64 0, .int .i64 0, .int .i64 0, .int .i64 0, .int .i64 0, .int .i64 0, .int .i64 0, .bool false, .bool false, .int .i64 0, .int .i64 0, .int .i64 0, .int .i64 0, .int .i64 0, .int .i64 0, .int .i64 0, .bool false, .slice none 0 0, .slice none 0 0, .int .i64 1, .int .i64 1, .int .i64 1, .int .i64 0, .int .i64 2, .int .i64 1000, .int .i64 4, .int .i64 65535, .slice pa 0 pc] := by have := hcell; rw [Nat.zero_mul, Nat.add_zero] at this; exact this
          have hA := HLL.out ⟨firstT, lastT, []⟩ ⟨by unfold rightT firstT; decide, by unfold rightT lastT; decide, by simp, by simp⟩ pa 0 pc wr BW.out hhs rfl (Nat.zero_le _) hc2
          have hA2 : Calls Try.prog 13 #[.slice a nl ca, .agg #[.int .i64 3, .int .i64 0, .int .i64 0, .int .i64 0, .int .i64 0, .int .i64 0, .int .i64 0, .int .i64 0, .int .i64 0, .int .i64 0, .int .i64 0, .bool false, .bool false, .int .i64 0, .int .i64 0, .int .i64 0, .int .i64 0, .int .i64 0, .int .i64 0, .int .i64 0, .bool false, .slice none 0 0, .slice none 0 0, .int .i64 1, .int .i64 1, .int .i64 1, .int .i64 0, .int .i64 2, .int .i64 1000, .int .i64 4, .int .i64 65535, .slice pa 0 pc]] wr fun e w' => (∃ A1 c1 A2 n2 c2 A3 n3 c3, e = .returned (.tuple #[.slice A1 0 c1, .slice A2 n2 c2, .slice A3 n3 c3]) ∧ n2 = all.length) ∧ Below wr.heap.size wr w' := Calls.mono hA fun e w' ⟨⟨A1, n1, c1, A2, n2, c2, A3, n3, c3, he, ⟨q1, _, _⟩, ⟨q2, _, _⟩, q3⟩, hb⟩ => by
            obtain ⟨s1, s2⟩ := ans_all HAL.out HHR.out
            rw [s1] at q1
            rw [s2, List.length_map] at q2
            subst q1
            exact ⟨⟨A1, c1, A2, n2, c2, A3, n3, c3, he, q2⟩, hb⟩
          have HA2 := Lib.hid hA2
          have HCE := Lib.hid hcell2
          have hsm : ∀ W, Below wr.heap.size wr W → Calls Try.prog 11 #[.slice X n c0, .slice A4 n4 c4] W fun e w' => e = .returned (.bool true) ∧ Below W.heap.size W w' := fun W hb => by
            have := same_any all all X A4 c0 c4 W ((OwnH.ofE HO.out).rd.below hb) ((R4.out.below HB.out).below hb) (by omega) (by omega) (by omega) (by have := H4.out; omega)
            rw [← H4.out] at this
            have hnn : n = n4 := by rw [hn, ← H4.out]
            rw [hnn]
            refine Calls.mono this ?_
            rintro e w' ⟨rfl, m, rfl⟩
            exact ⟨by simp, ⟨rfl, rfl, rfl, Nat.le_refl _, fun _ _ => rfl⟩⟩
          have HSM := Lib.hid hsm
          clear hA hA2 hcell hcell2 hhs hs hn hsm hlt hg
          go_wp2_with (first
            | (refine wpList_load_mid rfl 40 (.tmp 76) rfl g' o' rfl [.int .i64 3, .int .i64 0, .int .i64 0, .int .i64 0, .int .i64 0, .int .i64 0, .int .i64 0, .int .i64 0, .int .i64 0, .int .i64 0, .int .i64 0, .bool false, .bool false, .int .i64 0, .int .i64 0, .int .i64 0, .int .i64 0, .int .i64 0, .int .i64 0, .int .i64 0, .bool false, .slice none 0 0, .slice none 0 0, .int .i64 1, .int .i64 1, .int .i64 1, .int .i64 0, .int .i64 2, .int .i64 1000, .int .i64 4, .int .i64 65535, .slice pa 0 pc] _ HCE.out Try.underlying40 rfl (by kernel_rfl) ?_)
            | (go_at_call 13; refine HA2.out.mono ?_; rintro e w6 ⟨⟨A1, c1, A2, n2, c2, A3, n3, c3, rfl, hn2⟩, hb⟩; obtain rfl : n2 = n4 := hn2.trans H4.out.symm; have B6 := Lib.hid (BW.out.trans (hb.mono BW.out.size)); have S6 := Lib.hid hb; clear hb hn2)
            | (go_at_call 11; refine (HSM.out _ S6.out).mono ?_; rintro e w7 ⟨rfl, hb⟩; have B7 := Lib.hid (B6.out.trans (hb.mono B6.out.size)); clear hb))
          go_ret
          exact ⟨by simp, B7.out⟩
  · have hD2 : ∀ W, Below w.heap.size w W → Calls Try.prog 8 #[.slice a l.length ca, .int .i64 per] W fun e w' => e = .returned (.tuple #[.slice none 0 0, .int .i64 1]) ∧ Below W.heap.size W w' := fun W hb => Calls.mono (hD W hb) fun e w' h => ⟨h.2.1 hm, h.2.2⟩
    have hN2 : ∀ W, Calls Try.prog 8 #[.slice none 0 0, .int .i64 per] W fun e w' => (∃ A n c er, e = .returned (.tuple #[.slice A n c, .int .i64 er])) ∧ Below W.heap.size W w' := fun W => Calls.mono (hN W) fun e w' h => by
      refine ⟨?_, h.2.2⟩
      by_cases q : mayD [] per
      · obtain ⟨A, n, c, he, _⟩ := h.1 q
        exact ⟨A, n, c, 0, he⟩
      · exact ⟨none, 0, 0, 1, h.2.1 q⟩
    generalize l.length = nl at *
    have HD := Lib.hid hD2
    have HN := Lib.hid hN2
    clear hD hD2 ha hm hN hN2
    go_enter Try.func6, Try.ntmps6
    go_wp2_with (first
      | (go_at_call 7; refine (HAW.out _).mono ?_; rintro e w1 ⟨rfl, hb⟩; have B1 := Lib.hid hb; clear hb)
      | (go_at_call 8; have _t := T1; clear T1 _t; refine (HD.out _ B1.out).mono ?_; rintro e w2 ⟨rfl, hb⟩; have B2 := Lib.hid (B1.out.trans (hb.mono B1.out.size)); clear hb)
      | (go_at_call 8; refine (HN.out _).mono ?_; rintro e w3 ⟨⟨A', n', c', er, rfl⟩, hb⟩; have B3 := Lib.hid (B2.out.trans (hb.mono B2.out.size)); clear hb))
    go_ret
    exact ⟨rfl, B3.out⟩
end Go.Proofs.Ytjfnpciecgemeaa.ti

namespace Go.Proofs.Ytjfnpciecgemeaa.tideAlone
open Go.ChangeShapes Go.WideShapes Go.ChangeAt Go.RowKit Go.Proofs.Ytjfnpciecgemeaa.ti
set_option linter.unusedVariables false
theorem okWide_array {P : Program} {w : World} {r : Reach} {base : Nat} {t e : TypeId} {n : Nat} {v : Value} (ht : P.underlying t = some (.array n e)) (h : Value.okWide P w r base t v) : ∃ cs, v = .agg cs ∧ cs.size = P.cellsOf t := by
  simp only [Value.okWide, ht] at h
  obtain ⟨cs, h1, h2, _⟩ := h
  exact ⟨cs, h1, h2⟩
theorem own : ownKnob Try.prog.godebug = none := by kernel_rfl
theorem laidOut : laidOutB Try.prog = true := by kernel_rfl
set_option maxRecDepth 100000 in
theorem lifted (os : Os) (started : os.Started) (H : Type) (enc : TypeId × Value → H) :
    ReturnsInHanded {} Try.checked os 6 .any (Rows.tideAloneSpec.pre6 enc Try.prog Try.f6 Rows.tideAloneRow.domain false) (Rows.tideAloneSpec.post enc Try.prog Try.f6 false true false false) := by
  refine returnsInHanded_of_change_sized (C := Try.checked) own started (by kernel_rfl) Try.func6
    (ChangeSpec.witness6 (enc := enc) (C := Try.checked) false ⟨#[], #[.slice none 0 0, .int .i64 0], []⟩ 8 (by kernel_rfl) (by kernel_rfl) (by kernel_rfl) (by kernel_rfl)) ?_
  intro W base args ds gs before hval0 hW hcnd hsz0 _
  have hval : ∀ (j : Nat) t v, Try.f6.params[j]? = some t → args[j]? = some v → Value.okWide Try.prog W .any base t v := hval0
  have hW' := hW
  obtain ⟨p, q, hA0, hV, rfl, hfz, hnd⟩ := hW
  have hA : DataW.TrodAll enc Try.prog W 0 (fun _ => true) true Try.f6.params.toList args.toList ds p := hA0
  rw [Try.params6] at hA hval
  obtain ⟨v0, vs0, d0, ds0, p0, q0, hargs, rfl, rfl, h0, r0⟩ := trodAll_cons hA
  obtain ⟨v1, vs1, d1, ds1, p1, q1, rfl, rfl, rfl, h1, r1⟩ := trodAll_cons r0
  obtain ⟨rfl, rfl, rfl⟩ := trodAll_nil r1
  obtain rfl : args = #[v0, v1] := by cases args; simp_all
  obtain ⟨rfl, rfl⟩ := trodVars_none hV
  obtain ⟨a0, len0, cap0, rfl⟩ := okWide_slice Try.underlying22 (hval 0 22 v0 rfl rfl)
  have k0 := h0
  have lt0 : ∀ x ∈ p0, x.block < W.heap.size := by obtain ⟨m, hm⟩ := k0; exact DataW.trod_lt m _ _ _ hm
  obtain ⟨z0, zl0, zn0, w0⟩ := heads_of h0
  obtain rfl := zl0
  obtain ⟨a1, rfl, rfl, rfl, w1⟩ := open_int Try.underlying3 (hval 1 3 v1 rfl rfl) h1
  clear hA0 hval0
  refine (talone_walk z0 a0 cap0 zn0.1 zn0.2.1 zn0.2.2 a1 W w0).mono fun e W' ⟨he, bel⟩ => ?_
  subst he
  exact ⟨_, rfl, _, _, _, [], _, [], hW', trodAll_mk1 (shut_bool Try.underlying4 _), (trodAll_cons_mk (Below.trod laidOut (by kernel_rfl) (of_decide_eq_true (by kernel_rfl)) k0 bel lt0) (trodAll_cons_mk (shut_int Try.underlying3 w1) trodAll_mk0)), rfl, bel.frame _, fun h => by cases h⟩
theorem over : Rows.tideAloneRow.holds Try.pinned (OpenSpec.ofChange Rows.tideAloneSpec) :=
  OpenClaim.holds_of_wide 6 Try.f6 rfl rfl rfl rfl rfl rfl rfl ⟨rfl, rfl, rfl, rfl, rfl⟩ rfl rfl rfl rfl rfl (by kernel_rfl) Try.func6 (by kernel_rfl)
    (of_decide_eq_true (by kernel_rfl)) (by unfold Func.isWrapper; first | (rw [if_pos (by decide +kernel)]; kernel_rfl) | (rw [if_neg (by decide +kernel)]; exact ⟨rfl, rfl⟩))
    (fun os started H enc _ => lifted os started H enc)
theorem proved : Rows.TideAloneSaid := over
#print axioms proved
end Go.Proofs.Ytjfnpciecgemeaa.tideAlone
