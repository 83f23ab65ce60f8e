/-
  GROUPS OF HEADS: the iterator hands out each group once, in order, each with whether it is the last one.
-/
import Derived.Test.YtjfnpciecgemeaaDIn
import Derived.Test.YtjfnpciecgemeaaTVals
import Derived.RangeFuncBox
import Derived.RangeFuncBound
import Derived.RangeFuncCalls
import Derived.Shelf.RegionOpen
import Derived.WalkKit
namespace Go.Proofs.Ytjfnpciecgemeaa.ti
set_option linter.unusedSimpArgs false
set_option linter.unusedVariables false
open Go.RowKit Go.Shelf
attribute [local go_sem] Oper.semAt_some
/-- What a loop's body leaves alone: two boxes. -/
def KeepG (B1 B2 : Nat) (W W' : World) : Prop := ∀ (k : Nat) (cs : Array Value) (T : TypeId) (fr : Nat × Nat), (k = B1 ∨ k = B2) → T ≠ 40 → W.heap[k]? = some (.cells cs T fr) → W'.heap[k]? = some (.cells cs T fr)
theorem KeepG.refl (B1 B2 : Nat) (W : World) : KeepG B1 B2 W W := fun _ _ _ _ _ _ h => h
theorem KeepG.trans {B1 B2 : Nat} {A B C : World} (h : KeepG B1 B2 A B) (k : KeepG B1 B2 B C) : KeepG B1 B2 A C := fun j cs T fr hj ht hh => k j cs T fr hj ht (h j cs T fr hj ht hh)
theorem KeepG.putObj {B1 B2 : Nat} (W : World) (l : Nat) (o o' : Obj) (h : W.heap[l]? = some o) (hc : o.isCells = false) : KeepG B1 B2 W (W.putObj l o') := fun k cs T fr _ _ hk => by
  have hne : l ≠ k := fun e => by rw [← e, h] at hk; cases hk; cases hc
  show (W.heap.setIfInBounds l o')[k]? = _
  rw [Array.getElem?_setIfInBounds_ne hne]
  exact hk
theorem KeepG.of_below {B1 B2 : Nat} {W W' : World} (h : Below W.heap.size W W') : KeepG B1 B2 W W' := fun k cs T fr _ _ hk => (h.block k (Array.getElem?_eq_some_iff.1 hk).1).trans hk
theorem KeepG.grown {B1 B2 : Nat} {W W' : World} {row : Option Nat} (h : W.grownBy W' row) (hr : ∀ r, row = some r → r ≠ B1 ∧ r ≠ B2) : KeepG B1 B2 W W' := fun k cs T fr hk _ hh => by
  rw [h.block k (Array.getElem?_eq_some_iff.1 hh).1 (fun e => by obtain ⟨h1, h2⟩ := hr k e.symm; rcases hk with rfl | rfl; exact h1 rfl; exact h2 rfl)]
  exact hh
/-- A group's place: so many heads behind the row's first one. -/
def addrG (rb : Option Nat) (q : Nat) : Option Addr := rb.map fun g => ⟨g, q * 6, none⟩
def encG (rb : Option Nat) (per len cap k : Nat) : Array Value := #[.slice (addrG rb (k * per)) (min per (len - k * per) : Nat) (cap - k * per), .bool (decide (len ≤ (k + 1) * per))]
theorem cntz {per : Nat} (hp : 0 < per) {len k : Nat} (hk : k < cntT per len) : k * per ≤ len ∧ (k = 0 ∨ k * per < len) := by
  cases k with
  | zero => simp
  | succ k => have := (cnt_step hp).1 hk; omega
set_option maxRecDepth 100000 in
set_option maxHeartbeats 4000000 in
theorem groups_in (n : Nat) (l B1 B2 : Nat) (rb : Option Nat) (per len cap c : Nat) (hp : 0 < per) (hp64 : per ≤ 64) (hc : c = cntT per len) (hlc : len ≤ cap) (hcm : cap ≤ maxLen) (hn : rb = none → len = 0 ∧ cap = 0) (J Jx : List (Fin c) → World → Prop)
    (hY : ∀ pre x W, J pre W → pre.length < c → YieldAt Fence.wide (n - 1) Try.prog l (encG rb per len cap x.val) W fun e W' =>
      (e = .returned (.bool true) ∧ J (pre ++ [x]) W' ∧ KeepG B1 B2 W W') ∨ (e = .returned (.bool false) ∧ Jx (pre ++ [x]) W'))
    (W : World) (hB1 : W.heap[B1]? = some (.cells #[.slice (addrG rb 0) len cap] 22 (0, 0))) (hB2 : W.heap[B2]? = some (.cells #[.int .i64 per] 3 (0, 0))) (h0 : J [] W) :
    CallsIn Fence.wide n Try.prog 35 #[.func (.yield l) #[] #[], .pointer (some ⟨B1, 0, none⟩), .pointer (some ⟨B2, 0, none⟩)] W fun e W' => (∃ v, e = .returned v) ∧
      ((∃ xs, xs.map Fin.val = List.range c ∧ J xs W') ∨ (∃ pre : List (Fin c), True ∧ Jx pre W')) := by
  refine callsIn_of_wp Try.func35 rfl trivial ?_ rfl
  simp only [Try.ntmps35, List.size_toArray, List.length_cons, List.length_nil, Nat.reduceAdd, Nat.reduceSub, Array.replicate_succ, Array.replicate_zero, List.push_toArray, List.append_toArray, List.nil_append, List.cons_append]
  have hc0 : 0 < c := by rw [hc]; exact cnt_pos hp len
  have HY := Lib.hid hY
  have HC := Lib.hid hc
  have b1 : W.cell? ⟨B1, 0, none⟩ = some (.slice (addrG rb 0) len cap) := by simp [World.cell?, hB1]
  have b2 : W.cell? ⟨B2, 0, none⟩ = some (.int .i64 per) := by simp [World.cell?, hB2]
  have HB2 := Lib.hid hB2
  have HN := Lib.hid hn
  have H0 := Lib.hid h0
  unfold maxLen at hcm
  obtain ⟨A0, hA0⟩ : ∃ A0, addrG rb 0 = A0 := ⟨_, rfl⟩
  rw [hA0] at b1 hB1
  have HA0 := Lib.hid hA0
  clear hY hc hB1 hB2 hn h0 hA0
  gi_wp2
  gi_loopw [4] (fun v wr => ∃ (k : Nat) (pre : List (Fin c)), k < c ∧ pre.map Fin.val = List.range k ∧ v = .slice (addrG rb (k * per)) (len - k * per : Nat) (cap - k * per) ∧ Hid (J pre wr) ∧ Hid (KeepG B1 B2 W wr)) (fun v _ => (match v with | .slice _ n _ => n | _ => 0))
  case atStart => exact ⟨0, [], hc0, rfl, by rw [Nat.zero_mul, HA0.out]; rfl, H0.out, KeepG.refl _ _ _⟩
  case round =>
    obtain ⟨k, pre, hk, hpre, rfl, HJ, HK⟩ := hrel
    have hlen : pre.length = k := by have := congrArg List.length hpre; simpa using this
    have hz := cntz hp (k := k) (len := len) (by rw [← HC.out]; exact hk)
    have q2 : wr.cell? ⟨B2, 0, none⟩ = some (.int .i64 per) := by simp [World.cell?, HK.out B2 _ _ _ (.inr rfl) (by decide) HB2.out]
    have hs1 : (k + 1) * per = k * per + per := by rw [Nat.add_mul, Nat.one_mul]
    have hst := cnt_step (per := per) (n := len) (k := k) hp
    rw [← HC.out, hs1] at hst
    have hyk := HY.out pre ⟨k, hk⟩ wr HJ.out (by omega)
    have hpre2 : ((pre ++ [(⟨k, hk⟩ : Fin c)]).map Fin.val) = List.range (k + 1) := by rw [List.map_append, hpre, List.range_succ]; rfl
    have HP2 := Lib.hid hpre2
    have HS := Lib.hid hs1
    unfold encG at hyk
    dsimp only at hyk
    rw [hs1] at hyk
    obtain ⟨q, hq⟩ : ∃ q, k * per = q := ⟨_, rfl⟩
    rw [hq] at hyk hz hst ⊢
    have HQ := Lib.hid hq
    have hg1 : ∀ g, rb = some g → addrG rb (q + per) = some ⟨g, q * 6 + per * 6, none⟩ := fun g e => by rw [e]; unfold addrG; simp only [Option.map_some]; rw [Nat.add_mul]
    clear hs1 hq hpre hpre2 b1 b2
    by_cases hm : q + per < len
    · have e1 : min per (len - q) = per := by omega
      have e2 : decide (len ≤ q + per) = false := decide_eq_false (by omega)
      rw [e1, e2] at hyk
      cases rb with
      | none => have := HN.out rfl; omega
      | some g =>
        have hg := hg1 g rfl
        have hst2 := hst.2 hm
        obtain ⟨L, hL⟩ : ∃ L, len - q = L := ⟨_, rfl⟩
        obtain ⟨C, hC⟩ : ∃ C, cap - q = C := ⟨_, rfl⟩
        unfold addrG at hyk ⊢
        simp only [Option.map_some] at hyk ⊢
        rw [hC] at hyk
        rw [hL, hC]
        have hLC : per < L ∧ L ≤ C ∧ C ≤ 9223372036854775807 := by omega
        obtain ⟨l1, l2, l3⟩ := hLC
        obtain ⟨fn, tmps, assign, body, hy, hR⟩ := hyk
        clear hst hm e1 e2 hg1 HY
        gi_wp2
        have t2 : ∀ W', KeepG B1 B2 wr W' → W'.cell? ⟨B2, 0, none⟩ = some (.int .i64 per) := fun W' h => by simp [World.cell?, (HK.out.trans h) B2 _ _ _ (.inr rfl) (by decide) HB2.out]
        refine ⟨fun h => (by cases h), ?_⟩
        refine hR.mono ?_
        rintro e W3 (⟨rfl, hJ3, hk3⟩ | ⟨rfl, hJx3⟩)
        · have q3 := t2 W3 hk3
          have HJ3 := Lib.hid hJ3
          have HK3 := Lib.hid (HK.out.trans hk3)
          clear t2 hJ3 hk3 q2
          gi_wp2
          go_roundw
          case rel => exact ⟨k + 1, pre ++ [⟨k, hk⟩], hst2, HP2.out, by rw [HS.out, HQ.out, Nat.add_mul, Nat.sub_add_eq, Nat.sub_add_eq, hL, hC], HJ3, HK3⟩
          case measure => simp; omega
        · gi_wp2
          refine bodyPost_ret (results_none rfl _ _ _) rfl ?_
          exact ⟨⟨_, rfl⟩, .inr ⟨_, trivial, hJx3⟩⟩
    · have e1 : min per (len - q) = len - q := by omega
      have e2 : decide (len ≤ q + per) = true := decide_eq_true (by omega)
      rw [e1, e2] at hyk
      have hlast : c = k + 1 := by omega
      have hLC : len - q ≤ per ∧ len - q ≤ 9223372036854775807 := by omega
      obtain ⟨A, hA⟩ : ∃ A, addrG rb q = A := ⟨_, rfl⟩
      obtain ⟨L, hL⟩ : ∃ L, len - q = L := ⟨_, rfl⟩
      obtain ⟨C, hC⟩ : ∃ C, cap - q = C := ⟨_, rfl⟩
      rw [hA, hL, hC] at hyk
      rw [hA, hL, hC]
      rw [hL] at hLC
      obtain ⟨l1, l2⟩ := hLC
      obtain ⟨fn, tmps, assign, body, hy, hR⟩ := hyk
      have HLA := Lib.hid hlast
      clear hst hm e1 e2 hg1 HY hlast
      gi_wp2
      refine ⟨fun h => (by cases h), ?_⟩
      refine hR.mono ?_
      rintro e W3 (⟨rfl, hJ3, hk3⟩ | ⟨rfl, hJx3⟩)
      · gi_wp2
        go_end0
        exact ⟨⟨_, rfl⟩, .inl ⟨_, by rw [HP2.out, ← HLA.out], hJ3⟩⟩
      · gi_wp2
        go_end0
        exact ⟨⟨_, rfl⟩, .inr ⟨_, trivial, hJx3⟩⟩
set_option maxHeartbeats 800000 in
set_option maxRecDepth 100000 in
theorem pgroups_any (a : Option Addr) (n c : Nat) (per : Int) (w : World) : Calls Try.prog 21 #[.slice a n c, .int .i64 per] w fun e w' => e = .returned (.func (.func 35) #[] #[.pointer (some ⟨w.heap.size, 0, none⟩), .pointer (some ⟨w.heap.size + 1, 0, none⟩)]) ∧ (w.alloc (.cells #[.slice a n c] 22)).alloc (.cells #[.int .i64 per] 3) = w' := by
  go_enter Try.func21, Try.ntmps21
  go_wp2
  go_ret
  exact ⟨rfl, rfl⟩
theorem groups_stops (n B1 B2 : Nat) (rb : Option Nat) (per len cap c : Nat) (hp : 0 < per) (hp64 : per ≤ 64) (hc : c = cntT per len) (hlc : len ≤ cap) (hcm : cap ≤ maxLen) (hn : rb = none → len = 0 ∧ cap = 0) (w : World)
    (hB1 : w.heap[B1]? = some (.cells #[.slice (addrG rb 0) len cap] 22 (0, 0))) (hB2 : w.heap[B2]? = some (.cells #[.int .i64 per] 3 (0, 0))) :
    SeqStopsK Fence.wide n Try.prog 35 #[.pointer (some ⟨B1, 0, none⟩), .pointer (some ⟨B2, 0, none⟩)] (fun x : Fin c => encG rb per len cap x.val) (KeepG B1 B2) (fun xs => xs.map Fin.val = List.range c) (fun _ => True) c w := fun l J Jx W hW _ _ hY h0 =>
  groups_in n l B1 B2 rb per len cap c hp hp64 hc hlc hcm hn J Jx hY W ((hW.block _ (Array.getElem?_eq_some_iff.1 hB1).1).trans hB1) ((hW.block _ (Array.getElem?_eq_some_iff.1 hB2).1).trans hB2) h0
end Go.Proofs.Ytjfnpciecgemeaa.ti
