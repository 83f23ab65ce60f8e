/-
  THE TRAVERSAL's lists: heads.
-/
import Derived.Test.YtpaooddmgcekhaaGreatWEach
namespace Go.Proofs.YtpaooddmgcekhaaGreat
open Go.RowKit Go.Shelf
set_option linter.unusedVariables false
section
variable {σ : Type}

/-- The closure that goes through one of a list. -/
theorem eachHead1_any {E : Env σ} (ok : E.Ok) (q1 q2 : Nat) (x : HeadT) {r : Nat} (t : σ × Bool) (W : World) (h : E.St (r + 8) t W)
    (h1 : At E.base W q1 0 [.func (.func 93) #[.pointer (some ⟨E.bt, 0, none⟩)] #[]]) (ha : At E.base W q2 0 (encHead x)) :
    Calls Tryz.prog 108 #[.pointer (some ⟨q1, 0, none⟩), .pointer (some ⟨q2, 0, none⟩)] W fun e w' =>
      e = .returned (.tuple #[]) ∧ E.St r (headM E.M x t).2 w' ∧ Chg E.base q2 0 6 W w' ∧ At E.base w' q2 0 (encHead (headM E.M x t).1) := by
  have c1 := h1.cell0 rfl
  have hc := Lib.hid (head_any ok q2 0 x t W h ha)
  clear h h1 ha
  go_enter Tryz.func108, Tryz.ntmps108
  go_wp2_with (first
    | (go_at_call 93; refine hc.out.mono ?_; rintro e w1 ⟨rfl, hs1, hc1, ha1⟩; have S1 := Lib.hid hs1; have C1 := Lib.hid hc1; have A1 := Lib.hid ha1; clear hs1 hc1 ha1 c1))
  go_end0
  exact ⟨rfl, S1.out, C1.out, A1.out⟩

theorem Tryz.info35 : (Tryz.prog.info? 35).map (fun i => (i.zero, i.size, i.bytes)) = some (some (.agg #[.int .i64 0, .int .i64 0, .int .i64 0, .int .i64 0, .int .i64 0, .int .i64 0]), 6, 48) := by kernel_rfl

set_option maxRecDepth 100000 in
set_option maxHeartbeats 4000000 in
theorem eachHead_any {E : Env σ} (ok : E.Ok) (id : Int) (a : Option Addr) (cap : Nat) (l : List HeadT) (hlen : l.length ≤ 140737488351232) (n : Nat) (hn : n ≤ 64) {r : Nat} (t : σ × Bool) (W : World) (h : E.St (r + n * 10) t W) (hr : RdR 6 encHead E.base W a l) :
    Calls Tryz.prog 92 #[.pointer (some ⟨E.bt, 0, none⟩), .int .i64 id, .slice a l.length cap, .int .i64 n, .func (.func 93) #[.pointer (some ⟨E.bt, 0, none⟩)] #[]] W fun e w' =>
      ∃ v, e = .returned v ∧ E.St r (eachM E.M id (headM E.M) HeadT.zero l n [] t).2 w' ∧ Keep E.base W w' ∧ w'.ownsRow W.heap.size 35 6 v (eachM E.M id (headM E.M) HeadT.zero l n [] t).1.length ((eachM E.M id (headM E.M) HeadT.zero l n [] t).1.flatMap encHead) := by
  obtain ⟨i0, hi, hz0, hz1, hz2⟩ := info_parts Tryz.info35
  obtain ⟨R, hR⟩ : ∃ R, eachM E.M id (headM E.M) HeadT.zero l n [] t = R := ⟨_, rfl⟩
  rw [hR]
  have hb : E.base ≤ W.heap.size := by have := h.lt; have := ok.le; omega
  have hbt := h.lt
  have K0 := Lib.hid ((Keep.refl E.base W).alloc hb (.cells #[.func (.func 93) #[.pointer (some ⟨E.bt, 0, none⟩)] #[]] 157))
  have S0 := Lib.hid (h.alloc ok (.cells #[.func (.func 93) #[.pointer (some ⟨E.bt, 0, none⟩)] #[]] 157))
  have B0 := Lib.hid (At.new E.base W hb [.func (.func 93) #[.pointer (some ⟨E.bt, 0, none⟩)] #[]] 157 rfl)
  have HR := Lib.hid hR
  have RD := Lib.hid hr
  have he : ∀ (args : Array Value) (w : World), (callFunc 108 args).run Tryz.prog w = .ok (.enter 108 args) w := enters_of Tryz.func108 (by kernel_rfl) rfl
  have HE := Lib.hid he
  have he4 : ∀ (args : Array Value) (w : World), (callFunc E.g4 args).run Tryz.prog w = .ok (.enter E.g4 args) w := ok.e4
  clear h hr hR he
  go_enter Tryz.func92, Tryz.ntmps92
  go_wp2
  go_loopw [11] (fun v wr => ∃ (m k : Nat) (gone : List HeadT) (t' : σ × Bool) (A : Option Addr) (c : Nat), v = .slice A k c ∧ k = gone.length ∧ wr.ownsRow (W.heap.size + 1) 35 6 v k (gone.flatMap encHead) ∧ m + k = n ∧ E.St (r + m * 10) t' wr ∧ Keep E.base (W.alloc (.cells #[.func (.func 93) #[.pointer (some ⟨E.bt, 0, none⟩)] #[]] 157)) wr ∧ eachM E.M id (headM E.M) HeadT.zero l m gone t' = R) (fun v _ => 64 - lenV v)
  case atStart => exact ⟨n, 0, [], t, none, 0, rfl, rfl, World.ownsRow_nil _ _ _ _, rfl, S0.out, Keep.refl _ _, HR.out⟩
  case round =>
    obtain ⟨m, k, gone, t', A, c, rfl, hkg, hown, hmk, hst, hkp, hres⟩ := hrel
    have HO := Lib.hid hown
    have HS := Lib.hid hst
    have HK := Lib.hid hkp
    have HRES := Lib.hid hres
    have HKG := Lib.hid hkg
    have hc3 : wr.cell? ⟨E.bt, 3, none⟩ = some (.func (.func E.g4) #[.pointer (some ⟨E.bw, 0, none⟩)] #[]) := hst.cell 3
    clear hown hst hkp hres hkg
    have hkl : k ≤ 64 := by omega
    have k0 : (0 : Int) ≤ (k : Int) := Int.natCast_nonneg _
    by_cases hm : E.M.more t'.1 id (decide (k < l.length)) = true
    · by_cases hm0 : m = 0
      · subst hm0
        obtain rfl : k = n := by omega
        have RF := Lib.hid (each_full (f := headM E.M) (z := HeadT.zero) (l := l) (gone := gone) (by rw [← HKG.out]; exact hm))
        clear hmk
        go_wp2_with (first
          | (go_at_fn E.g4; refine (ok.more _ id _ wr HS.out.mi).mono ?_; rintro e w1 ⟨rfl, hi1, hk1, ht1⟩; have S1 := Lib.hid (Env.St.mk HS.out.room (ht1 _ _ _ HS.out.tb) hi1 : E.St _ t' w1); have K1 := Lib.hid (HK.out.trans hk1); have O1 := Lib.hid (own_keep HO.out rfl hk1); clear hi1 hk1 ht1 hc3)
          | (go_at_call 101; refine (must_any ok false _ _ S1.out).mono ?_; rintro e w2 ⟨rfl, hs2, hk2⟩; have S2 := Lib.hid hs2; have K2 := Lib.hid (K1.out.trans hk2); have O2 := Lib.hid (own_keep O1.out rfl hk2); clear hs2 hk2))
        go_ret
        have hR2 := HRES.out
        rw [RF.out] at hR2
        subst hR2
        refine ⟨_, rfl, by simpa using S2.out, K0.out.trans K2.out, ?_⟩
        have := own_less O2.out (Nat.le_succ _)
        have hk := HKG.out
        subst hk
        exact this
      · obtain ⟨m, rfl⟩ : ∃ m', m = m' + 1 := ⟨m - 1, by omega⟩
        have hkn : ¬ (k : Int) = (n : Int) := by omega
        by_cases hlt : k < l.length
        · obtain ⟨b, off, rfl, hblt, hcells⟩ := RD.out (by omega)
          obtain ⟨x, hx⟩ : ∃ x, l[k]? = some x := ⟨_, List.getElem?_eq_getElem hlt⟩
          have HCX := Lib.hid (hcells k x hx)
          have hlti : (k : Int) < (l.length : Int) := by omega
          have RF := Lib.hid (each_next (n := m) (f := headM E.M) (z := HeadT.zero) (l := l) (gone := gone) (by rw [← HKG.out]; exact hm) x (by rw [← HKG.out, hx]; rfl))
          clear hcells hx
          rw [show decide (k < l.length) = true from decide_eq_true hlt] at hm
          go_wp2_with (first
            | (go_at_fn E.g4; refine (ok.more _ id true wr HS.out.mi).mono ?_; rintro e w1 ⟨rfl, hi1, hk1, ht1⟩; have S1 := Lib.hid (Env.St.mk HS.out.room (ht1 _ _ _ HS.out.tb) hi1 : E.St _ t' w1); have K1 := Lib.hid (HK.out.trans hk1); have O1 := Lib.hid (own_keep HO.out rfl hk1); have hb1 : E.base ≤ w1.heap.size := Nat.le_trans hb (Nat.le_trans (Nat.le_succ _) (by have := K1.out.bel.size; simpa using this)); have g0 : w1.cell? ⟨b, off + k * 6, none⟩ = some _ := ((K0.out.trans K1.out).bel.cell hblt).trans (HCX.out 0 _ rfl); have g1 : w1.cell? ⟨b, off + k * 6 + 1, none⟩ = some _ := ((K0.out.trans K1.out).bel.cell hblt).trans (HCX.out 1 _ rfl); have g2 : w1.cell? ⟨b, off + k * 6 + 2, none⟩ = some _ := ((K0.out.trans K1.out).bel.cell hblt).trans (HCX.out 2 _ rfl); have g3 : w1.cell? ⟨b, off + k * 6 + 3, none⟩ = some _ := ((K0.out.trans K1.out).bel.cell hblt).trans (HCX.out 3 _ rfl); have g4 : w1.cell? ⟨b, off + k * 6 + 4, none⟩ = some _ := ((K0.out.trans K1.out).bel.cell hblt).trans (HCX.out 4 _ rfl); have g5 : w1.cell? ⟨b, off + k * 6 + 5, none⟩ = some _ := ((K0.out.trans K1.out).bel.cell hblt).trans (HCX.out 5 _ rfl); have hbw : b < w1.heap.size := Nat.lt_of_lt_of_le hblt hb1; clear hi1 hk1 ht1 hc3)
            | (go_at_call 84; refine (within_any ok id _ HE.out _ _ w1.heap.size 0 6 (fun w => At E.base w w1.heap.size 0 (encHead (headM E.M x (openM E.M id t')).1)) (fun _ _ h k => h.keep k) t' (headM E.M x (openM E.M id t')).2 _ ((S1.out.alloc ok _).less (r' := r + m * 10 + 10) (by omega)) (fun W1 hk hs => eachHead1_any ok W.heap.size w1.heap.size x (openM E.M id t') W1 hs (((B0.out.keep K1.out).alloc hb1 _).keep hk) ((At.new E.base w1 hb1 (encHead x) 35 rfl).keep hk))).mono ?_; rintro e w2 ⟨rfl, hs2, hc2, ha2⟩; have S2 := Lib.hid hs2; have K2' := Lib.hid (Chg.fresh ((Keep.refl E.base w1).alloc hb1 _) hc2 (Nat.le_refl _)); have K2 := Lib.hid (K1.out.trans K2'.out); have O2 := Lib.hid (own_keep O1.out rfl K2'.out); have A2 := Lib.hid ha2; have hb2 : E.base ≤ w2.heap.size := Nat.le_trans hb1 K2'.out.bel.size; have a0 : w2.cell? ⟨w1.heap.size, 0, none⟩ = some _ := A2.out.cellZ 0 rfl; have a1 : w2.cell? ⟨w1.heap.size, 1, none⟩ = some _ := A2.out.cellZ 1 rfl; have a2 : w2.cell? ⟨w1.heap.size, 2, none⟩ = some _ := A2.out.cellZ 2 rfl; have a3 : w2.cell? ⟨w1.heap.size, 3, none⟩ = some _ := A2.out.cellZ 3 rfl; have a4 : w2.cell? ⟨w1.heap.size, 4, none⟩ = some _ := A2.out.cellZ 4 rfl; have a5 : w2.cell? ⟨w1.heap.size, 5, none⟩ = some _ := A2.out.cellZ 5 rfl; clear hs2 hc2 ha2)
            | (at_builtin; refine wpList_append_lies _ rfl _ _ 47 rfl (W.heap.size + 1) 35 i0 _ 6 48 Tryz.underlying47 hi hz0 hz1 hz2 rfl (by decide) _ k _ rfl (O2.out.alloc _) ⟨w2.heap.size, 0, none⟩ 1 1 (encHead (headM E.M x (openM E.M id t')).1) rfl rfl (World.news_of_block (World.alloc_heap_new w2 _)) (one_encHead _) (by decide) (by unfold maxLen; omega) (by omega) (by have := K2.out.bel.size; simp at this ⊢; omega) _ rfl ?_; intro g c3 w3 ho3 hg3 _ _; have S3 := Lib.hid ((S2.out.alloc ok _).grown ok (O2.out.alloc _) rfl (Nat.lt_succ_of_lt hbt) hg3); have K3 := Lib.hid ((K2.out.alloc hb2 _).past hg3 (by simp; omega) (fun r hr => by have := (O2.out.lt r hr).1; simpa using this)); have O3 := Lib.hid ho3; clear ho3 hg3))
          go_roundw
          case rel => exact ⟨m, k + 1, gone ++ [(headM E.M x (openM E.M id t')).1], _, _, c3, rfl, by have := HKG.out; simp [this], by rw [List.flatMap_append, List.flatMap_singleton]; exact O3.out, by omega, S3.out, K3.out, RF.out.symm.trans HRES.out⟩
          case measure => simp [lenV]; omega
        · have hlti : ¬ (k : Int) < (l.length : Int) := by omega
          have RF := Lib.hid (each_next (n := m) (f := headM E.M) (z := HeadT.zero) (l := l) (gone := gone) (by rw [← HKG.out]; exact hm) HeadT.zero (by rw [← HKG.out, List.getElem?_eq_none (by omega)]; rfl))
          rw [show decide (k < l.length) = false from decide_eq_false hlt] at hm
          go_wp2_with (first
            | (go_at_fn E.g4; refine (ok.more _ id false wr HS.out.mi).mono ?_; rintro e w1 ⟨rfl, hi1, hk1, ht1⟩; have S1 := Lib.hid (Env.St.mk HS.out.room (ht1 _ _ _ HS.out.tb) hi1 : E.St _ t' w1); have K1 := Lib.hid (HK.out.trans hk1); have O1 := Lib.hid (own_keep HO.out rfl hk1); have hb1 : E.base ≤ w1.heap.size := Nat.le_trans hb (Nat.le_trans (Nat.le_succ _) (by have := K1.out.bel.size; simpa using this)); clear hi1 hk1 ht1 hc3)
            | (go_at_call 84; refine (within_any ok id _ HE.out _ _ w1.heap.size 0 6 (fun w => At E.base w w1.heap.size 0 (encHead (headM E.M HeadT.zero (openM E.M id t')).1)) (fun _ _ h k => h.keep k) t' (headM E.M HeadT.zero (openM E.M id t')).2 _ ((S1.out.alloc ok _).less (r' := r + m * 10 + 10) (by omega)) (fun W1 hk hs => eachHead1_any ok W.heap.size w1.heap.size HeadT.zero (openM E.M id t') W1 hs (((B0.out.keep K1.out).alloc hb1 _).keep hk) ((At.new E.base w1 hb1 (encHead HeadT.zero) 35 rfl).keep hk))).mono ?_; rintro e w2 ⟨rfl, hs2, hc2, ha2⟩; have S2 := Lib.hid hs2; have K2' := Lib.hid (Chg.fresh ((Keep.refl E.base w1).alloc hb1 _) hc2 (Nat.le_refl _)); have K2 := Lib.hid (K1.out.trans K2'.out); have O2 := Lib.hid (own_keep O1.out rfl K2'.out); have A2 := Lib.hid ha2; have hb2 : E.base ≤ w2.heap.size := Nat.le_trans hb1 K2'.out.bel.size; have a0 : w2.cell? ⟨w1.heap.size, 0, none⟩ = some _ := A2.out.cellZ 0 rfl; have a1 : w2.cell? ⟨w1.heap.size, 1, none⟩ = some _ := A2.out.cellZ 1 rfl; have a2 : w2.cell? ⟨w1.heap.size, 2, none⟩ = some _ := A2.out.cellZ 2 rfl; have a3 : w2.cell? ⟨w1.heap.size, 3, none⟩ = some _ := A2.out.cellZ 3 rfl; have a4 : w2.cell? ⟨w1.heap.size, 4, none⟩ = some _ := A2.out.cellZ 4 rfl; have a5 : w2.cell? ⟨w1.heap.size, 5, none⟩ = some _ := A2.out.cellZ 5 rfl; clear hs2 hc2 ha2)
            | (at_builtin; refine wpList_append_lies _ rfl _ _ 47 rfl (W.heap.size + 1) 35 i0 _ 6 48 Tryz.underlying47 hi hz0 hz1 hz2 rfl (by decide) _ k _ rfl (O2.out.alloc _) ⟨w2.heap.size, 0, none⟩ 1 1 (encHead (headM E.M HeadT.zero (openM E.M id t')).1) rfl rfl (World.news_of_block (World.alloc_heap_new w2 _)) (one_encHead _) (by decide) (by unfold maxLen; omega) (by omega) (by have := K2.out.bel.size; simp at this ⊢; omega) _ rfl ?_; intro g c3 w3 ho3 hg3 _ _; have S3 := Lib.hid ((S2.out.alloc ok _).grown ok (O2.out.alloc _) rfl (Nat.lt_succ_of_lt hbt) hg3); have K3 := Lib.hid ((K2.out.alloc hb2 _).past hg3 (by simp; omega) (fun r hr => by have := (O2.out.lt r hr).1; simpa using this)); have O3 := Lib.hid ho3; clear ho3 hg3))
          go_roundw
          case rel => exact ⟨m, k + 1, gone ++ [(headM E.M HeadT.zero (openM E.M id t')).1], _, _, c3, rfl, by have := HKG.out; simp [this], by rw [List.flatMap_append, List.flatMap_singleton]; exact O3.out, by omega, S3.out, K3.out, RF.out.symm.trans HRES.out⟩
          case measure => simp [lenV]; omega
    · have RF := Lib.hid (each_stop (n := m) (f := headM E.M) (z := HeadT.zero) (l := l) (gone := gone) (by rw [← HKG.out]; exact hm))
      have hmf : E.M.more t'.1 id (decide (k < l.length)) = false := by simpa using hm
      clear hm hmk
      go_wp2_with (first
          | (go_at_fn E.g4; refine (ok.more _ id _ wr HS.out.mi).mono ?_; rintro e w1 ⟨rfl, hi1, hk1, ht1⟩; have S1 := Lib.hid (Env.St.mk HS.out.room (ht1 _ _ _ HS.out.tb) hi1 : E.St _ t' w1); have K1 := Lib.hid (HK.out.trans hk1); have O1 := Lib.hid (own_keep HO.out rfl hk1); clear hi1 hk1 ht1 hc3))
      go_ret
      have hR2 := HRES.out
      rw [RF.out] at hR2
      subst hR2
      refine ⟨_, rfl, S1.out.less (Nat.le_add_right _ _), K0.out.trans K1.out, ?_⟩
      have := own_less O1.out (Nat.le_succ _)
      have hk := HKG.out
      subst hk
      exact this
end
end Go.Proofs.YtpaooddmgcekhaaGreat
