/-
  THE LIBRARY's HEAP: a job is moved up.
-/
import Derived.Test.YtaaaefoanjggcaaQPP
import Derived.Test.YtaaaefoanjggcaaQSwap
import Derived.Shelf.Abstract
namespace Go.Proofs.Ytaaaefoanjggcaa
set_option linter.unusedSimpArgs false
set_option linter.unusedVariables false
open Go.RowKit
theorem mLess (p : Option Addr) (w : World) : (method 184 53 (.pointer p) "Less").run Try.prog w = .ok (46, .pointer p) w := by kernel_rfl
theorem mSwap (p : Option Addr) (w : World) : (method 184 53 (.pointer p) "Swap").run Try.prog w = .ok (49, .pointer p) w := by kernel_rfl
theorem mLen (p : Option Addr) (w : World) : (method 184 53 (.pointer p) "Len").run Try.prog w = .ok (26, .pointer p) w := by kernel_rfl
theorem mPush (p : Option Addr) (w : World) : (method 184 53 (.pointer p) "Push").run Try.prog w = .ok (48, .pointer p) w := by kernel_rfl
theorem mPop (p : Option Addr) (w : World) : (method 184 53 (.pointer p) "Pop").run Try.prog w = .ok (47, .pointer p) w := by kernel_rfl
/-- What moving does: the jobs change places, those of the first m. -/
structure Mv (w : World) (base qb mb n : Nat) (g : Option Nat) (l : List Job) (m : Nat) (l' : List Job) (wr : World) : Prop where
  perm : l'.Perm l
  keep : ∀ i, m ≤ i → at' l' i = at' l i
  mem : ∃ f', PI f' l' ∧ QP wr base qb mb g n f' l'
  fr : Fr qb mb g w wr
theorem Mv.refl {w : World} {base qb mb n : Nat} {g : Option Nat} {f : Int → Option Int} {l : List Job} (m : Nat) (hp : PI f l) (h : QP w base qb mb g n f l) : Mv w base qb mb n g l m l w :=
  ⟨List.Perm.refl l, fun _ _ => rfl, ⟨f, hp, h⟩, Fr.refl _ _ _ _⟩
theorem Mv.trans {w w1 w2 : World} {base qb mb n m : Nat} {g : Option Nat} {l l1 l2 : List Job} (h : Mv w base qb mb n g l m l1 w1) (k : Mv w1 base qb mb n g l1 m l2 w2) : Mv w base qb mb n g l m l2 w2 :=
  ⟨k.perm.trans h.perm, fun i hi => (k.keep i hi).trans (h.keep i hi), k.mem, h.fr.trans k.fr⟩
theorem Mv.below {w w1 w2 : World} {base qb mb n m : Nat} {g : Option Nat} {l l1 : List Job} (h : Mv w base qb mb n g l m l1 w1) (k : Below w1.heap.size w1 w2) : Mv w base qb mb n g l m l1 w2 :=
  ⟨h.perm, h.keep, by obtain ⟨f, a, b⟩ := h.mem; exact ⟨f, a, b.below k⟩, h.fr.trans (Fr.of_below k)⟩
theorem mv_less {w w1 : World} {base qb mb n m : Nat} {g : Option Nat} {l l1 : List Job} (h : Mv w base qb mb n g l m l1 w1) (i j : Nat) (hi : i < l.length) (hj : j < l.length) :
    Calls Try.prog 46 #[.pointer (some ⟨qb, 0, none⟩), .int .i64 i, .int .i64 j] w1 fun e w' => e = .returned (.bool (decide (lessJ (at' l1 i) (at' l1 j)))) ∧ Below w1.heap.size w1 w' := by
  obtain ⟨f, a, b⟩ := h.mem
  have hl := h.perm.length_eq
  exact hless_any w1 b i j (by omega) (by omega)
theorem mv_swap {w w1 : World} {base qb mb n m : Nat} {g : Option Nat} {l l1 : List Job} (h : Mv w base qb mb n g l m l1 w1) (hm : m ≤ l.length) (i j : Nat) (hi : i < m) (hj : j < m) (hij : i ≠ j) :
    Calls Try.prog 49 #[.pointer (some ⟨qb, 0, none⟩), .int .i64 i, .int .i64 j] w1 fun e w' => e = .returned (.tuple #[]) ∧ Mv w base qb mb n g l m (swapL l1 i j) w' := by
  obtain ⟨f, a, b⟩ := h.mem
  have hl := h.perm.length_eq
  refine (hswap_any w1 b a i j (by omega) (by omega) hij).mono fun e w' ⟨he, hq, hf⟩ => ⟨he, ?_, fun k hk => ?_, ⟨_, a.swap (by omega) (by omega), hq⟩, h.fr.trans hf⟩
  · exact (swap_perm (by omega) (by omega)).trans h.perm
  · rw [at_swap (by omega) (by omega), if_neg (by omega), if_neg (by omega)]
    exact h.keep k hk
theorem eLess : ∀ args w, (callFunc 46 args).run Try.prog w = .ok (.enter 46 args) w := enters_of Try.func46 (by kernel_rfl) rfl
theorem eSwap : ∀ args w, (callFunc 49 args).run Try.prog w = .ok (.enter 49 args) w := enters_of Try.func49 (by kernel_rfl) rfl
set_option maxHeartbeats 2000000 in
set_option maxRecDepth 100000 in
theorem up_any {base qb mb n : Nat} {g : Option Nat} {l : List Job} (w0 w : World) {l0 : List Job} (m : Nat) (h : Mv w0 base qb mb n g l m l0 w) (hm : m ≤ l.length) (hbig : l.length ≤ 1000000) (j : Nat) (hj : j < m) (ho : UpOk l0 m j) :
    Calls Try.prog 27 #[.iface 53 (.pointer (some ⟨qb, 0, none⟩)), .int .i64 j] w fun e w' => e = .returned (.tuple #[]) ∧ ∃ l', Mv w0 base qb mb n g l m l' w' ∧ Ok l' m := by
  have m1 := mLess (some ⟨qb, 0, none⟩)
  have m2 := mSwap (some ⟨qb, 0, none⟩)
  have e1 := eLess
  have e2 := eSwap
  have H := Lib.hid h
  have HO := Lib.hid ho
  clear h ho
  go_enter Try.func27, Try.ntmps27
  go_wp2
  go_loopw [1] (fun jv wr => ∃ (j : Nat) (l' : List Job), jv = .int .i64 j ∧ j < m ∧ Hid (Mv w0 base qb mb n g l m l' wr) ∧ Hid (UpOk l' m j)) (fun jv _ => (intOf jv).toNat)
  case atStart => exact ⟨j, l0, rfl, hj, H, HO⟩
  case round =>
    clear H HO hj
    obtain ⟨j, l1, rfl, hj, H, HO⟩ := hrel
    rcases Nat.eq_zero_or_pos j with rfl | hpos
    · have hE : Hid (∃ l', Mv w0 base qb mb n g l m l' wr ∧ Ok l' m) := ⟨l1, H.out, HO.out.top⟩
      clear H HO
      go_wp2
      go_end0
      exact ⟨rfl, hE.out⟩
    · obtain ⟨k, rfl⟩ : ∃ k, j = k + 1 := ⟨j - 1, by omega⟩
      have hl := mv_less H.out (k + 1) (k / 2) (by omega) (by omega)
      have hsw := fun W (hW : Below wr.heap.size wr W) => mv_swap (H.out.below hW) hm (k / 2) (k + 1) (by omega) (by omega) (by omega)
      have hd : ((k : Int) / 2 == (k : Int) + 1) = false := by simp only [beq_eq_false_iff_ne]; omega
      have hc1 : ((k + 1 : Nat) : Int) = (k : Int) + 1 := by omega
      have hc2 : ((k / 2 : Nat) : Int) = (k : Int) / 2 := by omega
      simp only [hc1, hc2] at hl hsw
      clear hc1 hc2
      by_cases hs : lessJ (at' l1 (k + 1)) (at' l1 (k / 2))
      · have hstep := HO.out.step hpos hj (by have := H.out.perm.length_eq; omega) hs
        have HST := Lib.hid hstep
        have HSW := Lib.hid hsw
        rw [decide_eq_true hs] at hl
        clear hs hstep hsw HO H
        go_wp2_with (first
          | (go_at_fn 46; refine hl.mono ?_; rintro e w1 ⟨rfl, hb1⟩; have HB1 := Lib.hid hb1; clear hb1)
          | (go_at_fn 49; refine (HSW.out _ HB1.out).mono ?_; rintro e w2 ⟨rfl, hmv⟩; have HM := Lib.hid hmv; clear hmv))
        go_roundw
        case rel => exact ⟨k / 2, _, by go_num, by omega, HM, by unfold Hid; exact HST.out⟩
        case measure => simp [intOf]; omega
      · have hfin : Ok l1 m := HO.out.done hs
        have HF := Lib.hid hfin
        rw [decide_eq_false hs] at hl
        clear hs hfin hsw HO
        go_wp2_with (go_at_fn 46; refine hl.mono ?_; rintro e w1 ⟨rfl, hb1⟩)
        go_end0
        exact ⟨rfl, l1, H.out.below hb1, HF.out⟩
end Go.Proofs.Ytaaaefoanjggcaa
