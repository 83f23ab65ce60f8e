/-
  TideSame: nodes that know the same ask for nothing, and send nothing: all is known at both ends. No condition.
-/
import Derived.Test.YtjfnpciecgemeaaDLw
import Derived.Test.YtjfnpciecgemeaaChecked
import Derived.Test.YtjfnpciecgemeaaRows

/-
  THE LAW TideSame: its walk.
-/
namespace Go.Proofs.Ytjfnpciecgemeaa.ti
set_option linter.unusedSimpArgs false
set_option linter.unusedVariables false
open Go.RowKit
set_option maxHeartbeats 6400000 in
set_option maxRecDepth 100000 in
theorem tsame_walk (l : List THd) (a : Option Addr) (ca : Nat) (hca : l.length ≤ ca) (hcm : ca ≤ maxLen) (hok : ∀ x ∈ l, okH x) (per : Int) (w : World) (ha : RdT w a l) : Calls Try.prog 5 #[.slice a l.length ca, .int .i64 per] w fun e w' => e = .returned (.bool true) ∧ Below w.heap.size w w' := by
  have hl63 : l.length ≤ 9223372036854775807 := by unfold maxLen at hcm; omega
  have HAW := Lib.hid awake_any
  have hD := fun W (hb : Below w.heap.size w W) => describe_any l a ca l.length per W (ha.below hb) hl63 rfl hca hok
  by_cases hm : mayD l per
  · have hD2 : ∀ W, Below w.heap.size w W → Calls Try.prog 8 #[.slice a l.length ca, .int .i64 per] W fun e w' => (∃ A n c, e = .returned (.tuple #[.slice A n c, .int .i64 0]) ∧ n = (descT per.toNat (mergeT l [])).length ∧ n ≤ c ∧ RdDs w' A (descT per.toNat (mergeT l []))) ∧ Below W.heap.size W w' := fun W hb => Calls.mono (hD W hb) fun e w' h => ⟨h.1 hm, h.2.2⟩
    by_cases h150 : 150 < l.length
    · obtain ⟨nl, hnl⟩ : ∃ nl, l.length = nl := ⟨_, rfl⟩
      rw [hnl] at hD2 h150 ⊢
      have hd : decide (150 < (nl : Int)) = true := decide_eq_true (by omega)
      have HD := Lib.hid hD2
      clear hD hD2 ha hm hnl
      go_enter Try.func5, Try.ntmps5
      go_wp2_with (first
        | (go_at_call 7; refine (HAW.out _).mono ?_; rintro e w1 ⟨rfl, hb⟩; have B1 := Lib.hid hb; clear hb)
        | (go_at_call 8; refine (HD.out _ B1.out).mono ?_; rintro e w2 ⟨⟨A, n, c, rfl, _, _, _⟩, hb⟩; have B2 := Lib.hid (B1.out.trans (hb.mono B1.out.size)); clear hb))
      go_ret
      exact ⟨rfl, B2.out⟩
    · have hper1 := hm.1.1
      have hper2 := hm.1.2
      obtain ⟨pr, hpr⟩ : ∃ pr : Nat, per = pr := ⟨per.toNat, by omega⟩
      obtain ⟨HR, _⟩ := may_all hm
      have hpos : 0 < pr := by omega
      obtain ⟨all, hall⟩ : ∃ all, mergeT l [] = all := ⟨_, rfl⟩
      have hal : all.length ≤ 150 := by have := merge_len l []; rw [hall] at this; simp at this; omega
      have hdo := fun (k : Nat) (p : Dp) (hp : (descT per.toNat (mergeT l []))[k]? = some p) => desc_ok hm hp
      rw [hpr, Int.toNat_natCast, hall] at hdo
      rw [hpr, Int.toNat_natCast, hall] at hD2
      rw [hall] at HR
      rw [← hpr] at hD2
      have HMG : Hid (∀ W, Below w.heap.size w W → Calls Try.prog 12 #[.slice a l.length ca, .slice none 0 0] W fun e w' => ∃ v, e = .returned v ∧ OwnH 34 w' W.heap.size v all ∧ Below W.heap.size W w') := fun W hb => by
        have := pmergeB_any l [] a none ca 0 W (ha.below hb) (fun j p h => by simp at h) (by simpa using hl63) (by rw [hall]; omega) hca (Nat.le_refl _) (by simpa using hok)
        rw [hall] at this
        exact this
      have hAN := fun (k : Nat) (p : Dp) (hk : k < cntT pr all.length) (e : p = dpT pr all k) (hp : OkDp p) (pa : Option Addr) (pn pc : Nat) (W : World) (hb : Below w.heap.size w W) (hr : RdT W pa p.hs) (hn : pn = p.hs.length) (h1 : pn ≤ pc) (h2 : pc ≤ maxLen) => answerD_any l a ca l.length p pa pc pn W (ha.below hb) (by omega) rfl hca hok hp hr hn h1 h2
      obtain ⟨nl, hnl⟩ : ∃ nl, l.length = nl := ⟨_, rfl⟩
      rw [hnl] at hD2 h150 hAN HMG ⊢
      have hd : decide (150 < (nl : Int)) = false := decide_eq_false (by omega)
      have HD := Lib.hid hD2
      have HAN := Lib.hid hAN
      have HDO := Lib.hid hdo
      have HHR := Lib.hid HR
      have HAL := Lib.hid hall
      clear hD hD2 ha hm hnl hAN hdo hpr HR hall
      go_enter Try.func5, Try.ntmps5
      go_wp2_with (first
        | (go_at_call 7; refine (HAW.out _).mono ?_; rintro e w1 ⟨rfl, hb⟩; have B1 := Lib.hid hb; clear hb)
        | (go_at_call 8; refine (HD.out _ B1.out).mono ?_; rintro e w2 ⟨⟨A, cn, c, rfl, hcn, hcc, hrd⟩, hb⟩; have B2 := Lib.hid (B1.out.trans (hb.mono B1.out.size)); have HCN := Lib.hid hcn; have HRD := Lib.hid hrd; clear hb hcn hrd))
      have hcnt : Hid (cn = cntT pr all.length) := HCN.out.trans (desc_len _ _)
      have hcn1 : cn ≤ 151 := by rw [hcnt.out]; have := cnt_le hpos all.length; omega
      have hc0 : 0 < cn := by rw [hcnt.out]; exact cnt_pos hpos _
      obtain ⟨g, o, pa0, pc0, rfl, _⟩ := HRD.out 0 _ (List.getElem?_eq_getElem (by rw [← HCN.out]; exact hc0))
      go_loopw [8, 9] (fun u v wr => ∃ k : Nat, k ≤ cn ∧ v = .int .i64 k ∧ u = .int .i64 (all.take (k * pr)).length ∧ Hid (Below w2.heap.size w2 wr)) (fun _ v _ => cn - (intOf v).toNat)
      case atStart => exact ⟨0, Nat.zero_le _, rfl, by simp, Below.refl _ _⟩
      case round =>
        obtain ⟨k, hk, rfl, rfl, HB⟩ := hrel
        have BW : Hid (Below w.heap.size w wr) := B2.out.trans (HB.out.mono B2.out.size)
        by_cases hlt : k < cn
        · obtain ⟨p, hp⟩ : ∃ p, (descT pr all)[k]? = some p := ⟨_, List.getElem?_eq_getElem (by rw [← HCN.out]; exact hlt)⟩
          obtain ⟨hok, hkc, hpe⟩ := HDO.out k p hp
          obtain ⟨g', o', pa, pc, e, hg, hcell, hhs, hc1, hc2⟩ := (HRD.out.below HB.out) k p hp
          cases e
          obtain ⟨pn, hpn⟩ : ∃ pn, p.hs.length = pn := ⟨_, rfl⟩
          have hpl := hok.len
          have hgt : (all.take ((k + 1) * pr)).length = (all.take (k * pr)).length + pn := by rw [← grp_take, List.length_append, ← hpn, hpe]; rfl
          have hs1 : (all.take (k * pr)).length ≤ 150 := by simp; omega
          unfold encD at hcell
          rw [hpn] at hcell hc1 hpl
          dsimp only at hcell
          have hA := HAN.out k p hkc hpe hok pa pn pc wr BW.out hhs hpn.symm hc1 hc2
          have hA2 : Calls Try.prog 13 #[.slice a nl ca, .agg #[.int .i64 3, .int .i64 0, .int .i64 0, .int .i64 0, .int .i64 0, .int .i64 0, .int .i64 0, .int .i64 0, .int .i64 0, .int .i64 0, .int .i64 0, .bool false, .bool false, .int .i64 0, .int .i64 0, .int .i64 0, .int .i64 0, .int .i64 0, .int .i64 0, .int .i64 0, .bool false, .slice none 0 0, .slice none 0 0, .int .i64 p.frm.d, .int .i64 p.frm.o, .int .i64 p.frm.k, .int .i64 p.frm.n, .int .i64 p.to.d, .int .i64 p.to.o, .int .i64 p.to.k, .int .i64 p.to.n, .slice pa pn pc]] wr fun e w' => (∃ A1 c1 A2 c2 A3 c3, e = .returned (.tuple #[.slice A1 0 c1, .slice A2 0 c2, .slice A3 pn c3])) ∧ Below wr.heap.size wr w' := Calls.mono hA fun e w' ⟨⟨A1, n1, c1, A2, n2, c2, A3, n3, c3, he, ⟨q1, _, _⟩, ⟨q2, _, _⟩, q3⟩, hb⟩ => by
            obtain ⟨s1, s2, s3⟩ := ans_same hpos HAL.out HHR.out hkc
            rw [hpe] at q1 q2 q3
            rw [s1] at q1
            rw [s2] at q2
            rw [s3] at q3
            have e3 : n3 = pn := by rw [q3, ← hpn, hpe]; rfl
            subst q1 q2 e3
            exact ⟨⟨A1, c1, A2, c2, A3, c3, he⟩, hb⟩
          have HA2 := Lib.hid hA2
          have HCE := Lib.hid hcell
          have HGT := Lib.hid hgt
          have k0 : (0 : Int) ≤ (k : Int) := Int.natCast_nonneg _
          have k1 : (k : Int) < (cn : Int) := by omega
          obtain ⟨s, hs⟩ : ∃ s, (all.take (k * pr)).length = s := ⟨_, rfl⟩
          rw [hs] at hs1 HGT ⊢
          clear hA hA2 hcell hgt hp hok hkc hpe hhs hpn hs
          go_wp2_with (first
            | (refine wpList_load_mid rfl 40 (.tmp 42) rfl g (o + k * 32) rfl [.int .i64 3, .int .i64 0, .int .i64 0, .int .i64 0, .int .i64 0, .int .i64 0, .int .i64 0, .int .i64 0, .int .i64 0, .int .i64 0, .int .i64 0, .bool false, .bool false, .int .i64 0, .int .i64 0, .int .i64 0, .int .i64 0, .int .i64 0, .int .i64 0, .int .i64 0, .bool false, .slice none 0 0, .slice none 0 0, .int .i64 p.frm.d, .int .i64 p.frm.o, .int .i64 p.frm.k, .int .i64 p.frm.n, .int .i64 p.to.d, .int .i64 p.to.o, .int .i64 p.to.k, .int .i64 p.to.n, .slice pa pn pc] _ HCE.out Try.underlying40 rfl (by kernel_rfl) ?_)
            | (go_at_call 13; refine HA2.out.mono ?_; rintro e w5 ⟨⟨A1, c1, A2, c2, A3, c3, rfl⟩, hb⟩; have B5 := Lib.hid (HB.out.trans (hb.mono HB.out.size)); clear hb))
          go_roundw
          case rel => exact ⟨k + 1, by omega, by go_num, by rw [HGT.out]; go_num, B5.out⟩
          case measure => simp [intOf]; omega
        · obtain rfl : k = cn := by omega
          have hs : (all.take (k * pr)).length = all.length := by rw [hcnt.out, cnt_all hpos]
          rw [hs]
          obtain ⟨al, hal2⟩ : ∃ al, all.length = al := ⟨_, rfl⟩
          rw [hal2]
          have HAL2 := Lib.hid hal2
          clear hs hal2 hlt
          go_wp2_with (first
            | (go_at_call 12; refine (HMG.out _ BW.out).mono ?_; rintro e w6 ⟨v6, rfl, ho, hb⟩; obtain ⟨A6, n6, c6, rfl, h6, h66⟩ := own_formN ho; obtain rfl : n6 = al := h6.trans HAL2.out; have B6 := Lib.hid (BW.out.trans (hb.mono BW.out.size)); clear ho hb h6))
          go_ret
          exact ⟨by simp, B6.out⟩
  · have hD2 : ∀ W, Below w.heap.size w W → Calls Try.prog 8 #[.slice a l.length ca, .int .i64 per] W fun e w' => e = .returned (.tuple #[.slice none 0 0, .int .i64 1]) ∧ Below W.heap.size W w' := fun W hb => Calls.mono (hD W hb) fun e w' h => ⟨h.2.1 hm, h.2.2⟩
    generalize l.length = nl at *
    have HD := Lib.hid hD2
    clear hD hD2 ha hm
    go_enter Try.func5, Try.ntmps5
    go_wp2_with (first
      | (go_at_call 7; refine (HAW.out _).mono ?_; rintro e w1 ⟨rfl, hb⟩; have B1 := Lib.hid hb; clear hb)
      | (go_at_call 8; refine (HD.out _ B1.out).mono ?_; rintro e w2 ⟨rfl, hb⟩; have B2 := Lib.hid (B1.out.trans (hb.mono B1.out.size)); clear hb))
    go_ret
    exact ⟨rfl, B2.out⟩
end Go.Proofs.Ytjfnpciecgemeaa.ti

namespace Go.Proofs.Ytjfnpciecgemeaa.tideSame
open Go.ChangeShapes Go.WideShapes Go.ChangeAt Go.RowKit Go.Proofs.Ytjfnpciecgemeaa.ti
set_option linter.unusedVariables false
theorem okWide_array {P : Program} {w : World} {r : Reach} {base : Nat} {t e : TypeId} {n : Nat} {v : Value} (ht : P.underlying t = some (.array n e)) (h : Value.okWide P w r base t v) : ∃ cs, v = .agg cs ∧ cs.size = P.cellsOf t := by
  simp only [Value.okWide, ht] at h
  obtain ⟨cs, h1, h2, _⟩ := h
  exact ⟨cs, h1, h2⟩
theorem own : ownKnob Try.prog.godebug = none := by kernel_rfl
theorem laidOut : laidOutB Try.prog = true := by kernel_rfl
set_option maxRecDepth 100000 in
theorem lifted (os : Os) (started : os.Started) (H : Type) (enc : TypeId × Value → H) :
    ReturnsInHanded {} Try.checked os 5 .any (Rows.tideSameSpec.pre6 enc Try.prog Try.f5 Rows.tideSameRow.domain false) (Rows.tideSameSpec.post enc Try.prog Try.f5 false true false false) := by
  refine returnsInHanded_of_change_sized (C := Try.checked) own started (by kernel_rfl) Try.func5
    (ChangeSpec.witness6 (enc := enc) (C := Try.checked) false ⟨#[], #[.slice none 0 0, .int .i64 0], []⟩ 8 (by kernel_rfl) (by kernel_rfl) (by kernel_rfl) (by kernel_rfl)) ?_
  intro W base args ds gs before hval0 hW hcnd hsz0 _
  have hval : ∀ (j : Nat) t v, Try.f5.params[j]? = some t → args[j]? = some v → Value.okWide Try.prog W .any base t v := hval0
  have hW' := hW
  obtain ⟨p, q, hA0, hV, rfl, hfz, hnd⟩ := hW
  have hA : DataW.TrodAll enc Try.prog W 0 (fun _ => true) true Try.f5.params.toList args.toList ds p := hA0
  rw [Try.params5] at hA hval
  obtain ⟨v0, vs0, d0, ds0, p0, q0, hargs, rfl, rfl, h0, r0⟩ := trodAll_cons hA
  obtain ⟨v1, vs1, d1, ds1, p1, q1, rfl, rfl, rfl, h1, r1⟩ := trodAll_cons r0
  obtain ⟨rfl, rfl, rfl⟩ := trodAll_nil r1
  obtain rfl : args = #[v0, v1] := by cases args; simp_all
  obtain ⟨rfl, rfl⟩ := trodVars_none hV
  obtain ⟨a0, len0, cap0, rfl⟩ := okWide_slice Try.underlying22 (hval 0 22 v0 rfl rfl)
  have k0 := h0
  have lt0 : ∀ x ∈ p0, x.block < W.heap.size := by obtain ⟨m, hm⟩ := k0; exact DataW.trod_lt m _ _ _ hm
  obtain ⟨z0, zl0, zn0, w0⟩ := heads_of h0
  obtain rfl := zl0
  obtain ⟨a1, rfl, rfl, rfl, w1⟩ := open_int Try.underlying3 (hval 1 3 v1 rfl rfl) h1
  clear hA0 hval0
  refine (tsame_walk z0 a0 cap0 zn0.1 zn0.2.1 zn0.2.2 a1 W w0).mono fun e W' ⟨he, bel⟩ => ?_
  subst he
  exact ⟨_, rfl, _, _, _, [], _, [], hW', trodAll_mk1 (shut_bool Try.underlying4 _), (trodAll_cons_mk (Below.trod laidOut (by kernel_rfl) (of_decide_eq_true (by kernel_rfl)) k0 bel lt0) (trodAll_cons_mk (shut_int Try.underlying3 w1) trodAll_mk0)), rfl, bel.frame _, fun h => by cases h⟩
theorem over : Rows.tideSameRow.holds Try.pinned (OpenSpec.ofChange Rows.tideSameSpec) :=
  OpenClaim.holds_of_wide 5 Try.f5 rfl rfl rfl rfl rfl rfl rfl ⟨rfl, rfl, rfl, rfl, rfl⟩ rfl rfl rfl rfl rfl (by kernel_rfl) Try.func5 (by kernel_rfl)
    (of_decide_eq_true (by kernel_rfl)) (by unfold Func.isWrapper; first | (rw [if_pos (by decide +kernel)]; kernel_rfl) | (rw [if_neg (by decide +kernel)]; exact ⟨rfl, rfl⟩))
    (fun os started H enc _ => lifted os started H enc)
theorem proved : Rows.TideSameSaid := over
#print axioms proved
end Go.Proofs.Ytjfnpciecgemeaa.tideSame
