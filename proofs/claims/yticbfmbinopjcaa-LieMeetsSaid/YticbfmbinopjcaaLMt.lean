/-
  LieMeets: two ends that hear one another are ThreeWay behind two rounds, if both accept what the other one says, and stay so; else neither ever is.
-/
import Derived.Test.YticbfmbinopjcaaLBoth
namespace Go.Proofs.Yticbfmbinopjcaa
set_option linter.unusedSimpArgs false
set_option linter.unusedVariables false
open Go.RowKit
/-- The ends behind the round of the moment now, where both accept; where they don't. -/
def mA (p q : PortT) (now : Int) : EndT := ⟨p, 2, now + 2, ⟨q.node, q.link, q.level, now + 2⟩, now + q.hold⟩
def mB (p q : PortT) (now : Int) : EndT := ⟨q, if now = 0 then 1 else 2, now + 2, ⟨p.node, p.link, p.level, now + 2⟩, now + p.hold⟩
def nA (p : PortT) (now : Int) : EndT := ⟨p, 0, now + 2, OtherT.zero, 0⟩
def Meet (z : Bool) (p q : PortT) (k : Nat) : EndT × EndT := if k = 0 then (newE p, newE q) else if z = true then (mA p q ((k : Int) - 1), mB p q ((k : Int) - 1)) else (nA p ((k : Int) - 1), nA q ((k : Int) - 1))
theorem nextN_small {n : Int} (h1 : 1 ≤ n) (h2 : n < 65535) : nextN n = n + 1 := by unfold nextN; rw [if_pos ⟨h1, h2⟩]
theorem tick_none (e : EndT) (now : Int) (ht : timeB now) (h : ¬ (e.s ≠ 0 ∧ e.till ≤ now)) : (tickE e now).2 = { e with nonce := nextN e.nonce } := by
  unfold tickE
  rw [if_neg (by simpa using ht), if_neg h]
theorem take_hears (e : EndT) (x : LieT) (now : Int) (ht : timeB now) (hx : lieR x = true) (ha : accB e.p x) (hs : ¬ e.s = 3) (ho : ¬ (e.o.node ≠ 0 ∧ ¬ sameO e.o x)) : (takeE e x now).2 = hearE e x now := by
  unfold takeE
  rw [if_neg (by simpa using ht), if_neg (by simp [hx]), if_neg (by simpa using ha), if_neg hs, if_neg ho]
theorem take_refuses (e : EndT) (x : LieT) (now : Int) (ht : timeB now) (hx : lieR x = true) (ha : ¬ accB e.p x) (ho : ¬ sameO e.o x) : (takeE e x now).2 = e := by
  unfold takeE
  rw [if_neg (by simpa using ht), if_neg (by simp [hx]), if_pos ha, if_neg ho]
theorem say_right {e : EndT} (hp : portB e.p) (hn : 0 ≤ e.nonce ∧ e.nonce ≤ 65535) (h1 : 0 ≤ e.o.node ∧ e.o.node ≤ 1000) (h2 : 0 ≤ e.o.link ∧ e.o.link ≤ 65535) (h3 : 0 ≤ e.o.nonce ∧ e.o.nonce ≤ 65535) : lieR (sayE e) = true := by
  unfold portB at hp
  simp only [lieR, sayE, rgB, Bool.and_eq_true]
  and_intros
  all_goals (refine decide_eq_true ?_; omega)
theorem acc_says {p : PortT} {e f : EndT} (h : e.p = f.p) : accB p (sayE e) ↔ accB p (sayE f) := by
  unfold accB
  simp only [sayE, h]
theorem fresh_near {a b : Int} (h1 : 1 ≤ a) (h2 : a ≤ b) (h3 : b ≤ a + 1) (h4 : b ≤ 65535) : freshN a b 16 := by
  unfold freshN okIn stepsN slackN
  refine ⟨by omega, by omega, ?_⟩
  rw [if_neg (by decide), if_neg (by decide)]
  omega
section
variable {p q : PortT}
theorem meet_zero (hp : portB p) (hq : portB q) (hph : 2 ≤ p.hold) (hqh : 2 ≤ q.hold) (hz : accB p (sayE (newE q))) : roundE (newE p) (newE q) 0 = (mA p q 0, mB p q 0) := by
  have hz2 := (acc_both p q).1 hz
  have t0 : timeB 0 := by unfold timeB; omega
  have pp := hp
  have qq := hq
  unfold portB at pp qq
  unfold roundE
  rw [tick_none (newE p) 0 t0 (fun h => h.1 rfl), tick_none (newE q) 0 t0 (fun h => h.1 rfl)]
  rw [show nextN (newE p).nonce = 2 from by unfold nextN; rfl, show nextN (newE q).nonce = 2 from by unfold nextN; rfl]
  have e1 : (takeE { newE q with nonce := 2 } (sayE { newE p with nonce := 2 }) 0).2 = mB p q 0 := by
    rw [take_hears _ _ _ t0 (say_right hp (by simp) (by simp [newE, OtherT.zero]) (by simp [newE, OtherT.zero]) (by simp [newE, OtherT.zero])) ((acc_says (e := { newE p with nonce := 2 }) (f := newE p) rfl).2 hz2) (by simp [newE]) (fun h => h.1 rfl)]
    unfold hearE mB
    rw [if_neg (fun h => by have := h.1; simp [sayE, newE, OtherT.zero] at this; omega), if_pos rfl]
    simp [sayE, newE]
  rw [e1]
  refine Prod.ext ?_ rfl
  show (takeE { newE p with nonce := 2 } (sayE (mB p q 0)) 0).2 = mA p q 0
  rw [take_hears _ _ _ t0 (say_right hq (by simp [mB]) (by simp [mB]; omega) (by simp [mB]; omega) (by simp [mB])) ((acc_says (e := mB p q 0) (f := newE q) rfl).2 hz) (by simp [newE]) (fun h => h.1 rfl)]
  unfold hearE mA
  rw [if_pos ⟨rfl, rfl, fresh_near (by simp [sayE, mB]) (by simp [sayE, mB]) (by simp [sayE, mB]) (by simp)⟩]
  simp [sayE, mB, newE]
theorem meet_more (hp : portB p) (hq : portB q) (hph : 2 ≤ p.hold) (hqh : 2 ≤ q.hold) (hz : accB p (sayE (newE q))) (n : Int) (h0 : 0 ≤ n) (h1 : n ≤ 100) : roundE (mA p q n) (mB p q n) (n + 1) = (mA p q (n + 1), mB p q (n + 1)) := by
  have hz2 := (acc_both p q).1 hz
  have t0 : timeB (n + 1) := by unfold timeB; omega
  have pp := hp
  have qq := hq
  unfold portB at pp qq
  unfold roundE
  rw [tick_none (mA p q n) (n + 1) t0 (fun h => by have := h.2; simp only [mA] at this; omega), tick_none (mB p q n) (n + 1) t0 (fun h => by have := h.2; simp only [mB] at this; omega)]
  rw [show nextN (mA p q n).nonce = n + 3 from by rw [nextN_small (by simp only [mA]; omega) (by simp only [mA]; omega)]; simp only [mA]; omega, show nextN (mB p q n).nonce = n + 3 from by rw [nextN_small (by simp only [mB]; omega) (by simp only [mB]; omega)]; simp only [mB]; omega]
  have e1 : (takeE { mB p q n with nonce := n + 3 } (sayE { mA p q n with nonce := n + 3 }) (n + 1)).2 = mB p q (n + 1) := by
    rw [take_hears _ _ _ t0 (say_right hp (by simp only []; omega) (by simp only [mA]; omega) (by simp only [mA]; omega) (by simp only [mA]; omega)) ((acc_says (e := { mA p q n with nonce := n + 3 }) (f := newE p) rfl).2 hz2) (by simp only [mB]; split <;> decide) (fun h => h.2 ⟨rfl, rfl⟩)]
    unfold hearE
    rw [if_pos ⟨rfl, rfl, fresh_near (by simp only [sayE, mA]; omega) (by simp only [sayE, mA]; omega) (by simp only [sayE, mA]; omega) (by simp only []; omega)⟩]
    unfold mB
    rw [if_neg (show ¬ n + 1 = 0 by omega)]
    simp only [sayE, mA]
    congr 1
    · omega
    · congr 1; omega
  rw [e1]
  refine Prod.ext ?_ rfl
  show (takeE { mA p q n with nonce := n + 3 } (sayE (mB p q (n + 1))) (n + 1)).2 = mA p q (n + 1)
  rw [take_hears _ _ _ t0 (say_right hq (by simp only [mB]; omega) (by simp only [mB]; omega) (by simp only [mB]; omega) (by simp only [mB]; omega)) ((acc_says (e := mB p q (n + 1)) (f := newE q) rfl).2 hz) (by simp [mA]) (fun h => h.2 ⟨rfl, rfl⟩)]
  unfold hearE
  rw [if_pos ⟨rfl, rfl, fresh_near (by simp only [sayE, mB]; omega) (by simp only [sayE, mB]; omega) (by simp only [sayE, mB]; omega) (by simp only []; omega)⟩]
  unfold mA
  simp only [sayE, mB]
  congr 1
  omega
theorem meet_never (hp : portB p) (hq : portB q) (hz : ¬ accB p (sayE (newE q))) (n : Int) (h0 : -1 ≤ n) (h1 : n ≤ 100) : roundE (nA p n) (nA q n) (n + 1) = (nA p (n + 1), nA q (n + 1)) := by
  have hz2 : ¬ accB q (sayE (newE p)) := fun h => hz ((acc_both p q).2 h)
  have t0 : timeB (n + 1) := by unfold timeB; omega
  have pp := hp
  have qq := hq
  unfold portB at pp qq
  unfold roundE
  rw [tick_none (nA p n) (n + 1) t0 (fun h => h.1 rfl), tick_none (nA q n) (n + 1) t0 (fun h => h.1 rfl)]
  rw [show nextN (nA p n).nonce = n + 3 from by rw [nextN_small (by simp only [nA]; omega) (by simp only [nA]; omega)]; simp only [nA]; omega, show nextN (nA q n).nonce = n + 3 from by rw [nextN_small (by simp only [nA]; omega) (by simp only [nA]; omega)]; simp only [nA]; omega]
  have ea : ∀ r : PortT, ({ nA r n with nonce := n + 3 } : EndT) = nA r (n + 1) := fun r => by unfold nA; simp only []; congr 1; omega
  rw [ea p, ea q]
  have sr : ∀ r : PortT, portB r → lieR (sayE (nA r (n + 1))) = true := fun r hr => say_right hr (by simp only [nA]; omega) (by simp [nA, OtherT.zero]) (by simp [nA, OtherT.zero]) (by simp [nA, OtherT.zero])
  rw [take_refuses (nA q (n + 1)) _ _ t0 (sr p hp) (fun h => hz2 ((acc_says (e := nA p (n + 1)) (f := newE p) rfl).1 h)) (fun h => by have := h.1; simp only [nA, OtherT.zero, sayE] at this; omega)]
  rw [take_refuses (nA p (n + 1)) _ _ t0 (sr q hq) (fun h => hz ((acc_says (e := nA q (n + 1)) (f := newE q) rfl).1 h)) (fun h => by have := h.1; simp only [nA, OtherT.zero, sayE] at this; omega)]
theorem meet_step (hp : portB p) (hq : portB q) (hph : 2 ≤ p.hold) (hqh : 2 ≤ q.hold) {z : Bool} (hz : z = decide (accB p (sayE (newE q)))) (k : Nat) (hk : k ≤ 60) : roundE (Meet z p q k).1 (Meet z p q k).2 k = Meet z p q (k + 1) := by
  unfold Meet
  rw [if_neg (show ¬ k + 1 = 0 by omega)]
  by_cases ha : accB p (sayE (newE q))
  · rw [decide_eq_true ha] at hz
    subst hz
    simp only [if_true]
    by_cases h0 : k = 0
    · subst h0
      simp only [if_true]
      rw [show ((0 : Nat) : Int) = 0 from rfl, meet_zero hp hq hph hqh ha]
      rfl
    · rw [if_neg h0]
      have := meet_more hp hq hph hqh ha ((k : Int) - 1) (by omega) (by omega)
      rw [show (k : Int) - 1 + 1 = k by omega] at this
      rw [this]
      rw [show ((k + 1 : Nat) : Int) - 1 = k by omega]
  · rw [decide_eq_false ha] at hz
    subst hz
    simp only [Bool.false_eq_true, if_false]
    have := meet_never hp hq ha ((k : Int) - 1) (by omega) (by omega)
    rw [show (k : Int) - 1 + 1 = k by omega] at this
    by_cases h0 : k = 0
    · subst h0
      simp only [if_true]
      exact this
    · rw [if_neg h0, this]
      rw [show ((k + 1 : Nat) : Int) - 1 = k by omega]
theorem meet_inv (hp : portB p) (hq : portB q) (hph : 2 ≤ p.hold) (hqh : 2 ≤ q.hold) {z : Bool} (hz : z = decide (accB p (sayE (newE q)))) : ∀ k : Nat, k ≤ 61 → InvE (Meet z p q k).1 ∧ InvE (Meet z p q k).2
  | 0, _ => ⟨newE_inv hp, newE_inv hq⟩
  | k + 1, hk => by
    have h := meet_inv hp hq hph hqh hz k (by omega)
    rw [← meet_step hp hq hph hqh hz k (by omega)]
    exact roundE_inv h.1 h.2 _
end
theorem meet_s (p q : PortT) (z : Bool) (k : Nat) (hk : 2 ≤ k) : (Meet z p q k).1.s = (if z = true then 2 else 0) ∧ (Meet z p q k).2.s = (if z = true then 2 else 0) := by
  unfold Meet
  rw [if_neg (by omega)]
  cases z
  · simp [nA]
  · simp only [if_true, mA, mB]
    exact ⟨trivial, if_neg (by omega)⟩
theorem meet_end (p q : PortT) (hq : portB q) (z : Bool) (k : Nat) (hk : 2 ≤ k) (hk2 : k ≤ 60) : (tickE (Meet z p q k).1 ((k : Int) + q.hold)).2.s = 0 := by
  have qq := hq
  unfold portB at qq
  have t0 : timeB ((k : Int) + q.hold) := by unfold timeB; omega
  unfold Meet
  rw [if_neg (by omega)]
  unfold tickE
  rw [if_neg (by simpa using t0)]
  cases z
  · simp [nA]
  · simp only [if_true, mA]
    rw [if_pos ⟨by simp, by omega⟩]
    rfl
end Go.Proofs.Yticbfmbinopjcaa
