/-
  TieMerges: lists of heads as one, held against the document's.
-/
import Derived.Test.YticbdodpclnanaaTSort
namespace Go.Proofs.Yticbdodpclnanaa
set_option linter.unusedSimpArgs false
set_option linter.unusedVariables false
open Go.RowKit
set_option maxHeartbeats 1600000 in
set_option maxRecDepth 100000 in
theorem merges_law (l : List THd) (a : Option Addr) (ca : Nat) (hca : l.length ≤ ca) (hol : ∀ x ∈ l, okH x) (m : List THd) (b : Option Addr) (cb : Nat) (hcb : m.length ≤ cb) (hom : ∀ x ∈ m, okH x) (w : World) (ra : RdT w a l) (rb : RdT w b m) : Calls Try.prog 4 #[.slice a l.length ca, .slice b m.length cb] w fun e w' => e = .returned (.bool true) ∧ Below w.heap.size w w' := by
  have hw := awake_any progT
  have hlen := merge_len l m
  have hok : ∀ x ∈ l ++ m, okH x := fun x hx => (List.mem_append.1 hx).elim (hol x) (hom x)
  have hp : ∀ w1, Below w.heap.size w w1 → l.length ≤ 100 → m.length ≤ 100 → Calls Try.prog 23 #[.slice a l.length ca, .slice b m.length cb] w1 fun e w' => ∃ v, e = .returned v ∧ OwnH 29 w' w1.heap.size v (mergeT l m) ∧ Below w1.heap.size w1 w' := fun w1 hb h1 h2 => pmerge_any l m a b ca cb w1 (ra.below hb) (rb.below hb) (by omega) hca hcb hok
  have hr : ∀ w1, Below w.heap.size w w1 → l.length ≤ 100 → m.length ≤ 100 → Calls Try.prog 24 #[.slice a l.length ca, .slice b m.length cb] w1 fun e w' => ∃ v, e = .returned v ∧ OwnH 29 w' w1.heap.size v (mergeT l m) ∧ Below w1.heap.size w1 w' := fun w1 hb h1 h2 => rmerge_any l m a b ca cb w1 (ra.below hb) (rb.below hb) (by omega) hca hcb (fun x hx => (hok x hx).2.2)
  have hs : ∀ (A B : Option Addr) (c d : Nat) (W : World), RdT W A (mergeT l m) → RdT W B (mergeT l m) → l.length ≤ 100 → m.length ≤ 100 → (mergeT l m).length ≤ c → (mergeT l m).length ≤ d → Calls Try.prog 22 #[.slice A (mergeT l m).length c, .slice B (mergeT l m).length d] W fun e w' => e = .returned (.bool true) ∧ ∃ n, w' = W.drewN n := fun A B c d W h1 h2 h3 h4 h5 h6 => by
    have := same_any (mergeT l m) (mergeT l m) A B c d W h1 h2 (by omega) (by omega) h5 h6
    rwa [decide_eq_true rfl] at this
  obtain ⟨nl, hnl⟩ : ∃ n, l.length = n := ⟨_, rfl⟩
  obtain ⟨nm, hnm⟩ : ∃ n, m.length = n := ⟨_, rfl⟩
  rw [hnl] at hp hr hs ⊢
  rw [hnm] at hp hr hs ⊢
  generalize mergeT l m = R at *
  have HP := Lib.hid hp
  have HR := Lib.hid hr
  have HS := Lib.hid hs
  clear hp hr hs hlen hok hnl hnm hol hom hca hcb ra rb
  by_cases h1 : nl ≤ 100
  · have g1 : decide ((100 : Int) < (nl : Int)) = false := decide_eq_false (by omega)
    by_cases h2 : nm ≤ 100
    · have g2 : decide ((100 : Int) < (nm : Int)) = false := decide_eq_false (by omega)
      have N1 := Lib.hid h1
      have N2 := Lib.hid h2
      go_enter Try.func4, Try.ntmps4
      go_wp2_with (first
        | (go_at_call 11; refine (hw _).mono ?_; rintro e w1 ⟨rfl, hb⟩; have B1 := Lib.hid hb; clear hb)
        | (go_at_call 23; refine (HP.out _ B1.out N1.out N2.out).mono ?_; rintro e w2 ⟨v, rfl, ho, hb⟩; have O2 := Lib.hid ho; have B2 := Lib.hid (B1.out.trans (hb.mono B1.out.size)); clear ho hb)
        | (go_at_call 24; refine (HR.out _ B2.out N1.out N2.out).mono ?_; rintro e w3 ⟨v3, rfl, ho, hb⟩; have O4 := O2.out.below hb; have B3 := Lib.hid (B2.out.trans (hb.mono B2.out.size)); obtain ⟨A, c, rfl⟩ := O4.shape; obtain ⟨B, d, rfl⟩ := ho.shape; have O5 := Lib.hid O4; have O6 := Lib.hid ho; clear ho hb O4 O2)
        | (go_at_call 22; refine (HS.out A B c d _ O5.out.rd O6.out.rd N1.out N2.out O5.out.cap O6.out.cap).mono ?_; rintro e w4 ⟨rfl, n, rfl⟩))
      go_ret
      exact ⟨rfl, B3.out.trans ⟨rfl, rfl, rfl, Nat.le_refl _, fun _ _ => rfl⟩⟩
    · have g2 : decide ((100 : Int) < (nm : Int)) = true := decide_eq_true (by omega)
      clear h1 h2 HP HR HS
      go_enter Try.func4, Try.ntmps4
      go_wp2_with (first
        | (go_at_call 11; refine (hw _).mono ?_; rintro e w1 ⟨rfl, hb⟩; have B1 := Lib.hid hb; clear hb))
      go_ret
      exact ⟨rfl, B1.out⟩
  · have g1 : decide ((100 : Int) < (nl : Int)) = true := decide_eq_true (by omega)
    clear h1 HP HR HS
    go_enter Try.func4, Try.ntmps4
    go_wp2_with (first
      | (go_at_call 11; refine (hw _).mono ?_; rintro e w1 ⟨rfl, hb⟩; have B1 := Lib.hid hb; clear hb))
    go_ret
    exact ⟨rfl, B1.out⟩
end Go.Proofs.Yticbdodpclnanaa
