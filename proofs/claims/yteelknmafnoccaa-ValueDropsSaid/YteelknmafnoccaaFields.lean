/-
  THE ITERATOR OF FIELDS: the function that the program ranges over yields just the fields of "fieldsFrom", each with the place behind it; a round may stop it.
-/
import Derived.Test.YteelknmafnoccaaFrame
namespace Go.Proofs.Yteelknmafnoccaa
open Go.RowKit Go.Shelf
attribute [local go_sem] Oper.semAt_some

/-- The fields that are not within others, from a place on: where each begins, and the place behind it. -/
def fieldsFrom (frm i : Nat) (d : Int) : List It → List (Nat × Nat)
  | [] => []
  | x :: l => if 0 < d + turn x then fieldsFrom frm (i + 1) (d + turn x) l else (frm, i + 1) :: fieldsFrom (i + 1) (i + 1) (d + turn x) l
def fieldsL (l : List It) : List (Nat × Nat) := fieldsFrom 0 0 0 l

theorem below_grown {W W' : World} (h : Below W.heap.size W W') : W.grownBy W' none := ⟨h.os, h.tape, h.output, h.size, fun k hk _ => h.block k hk⟩

/-- A field of a list of that length: where it begins, and the place behind it. -/
structure Fld (n : Nat) where
  fst : Nat
  snd : Nat
  lt : fst < snd
  le : snd ≤ n
def Fld.raw {n : Nat} (l : List (Fld n)) : List (Nat × Nat) := l.map fun x => (x.fst, x.snd)
theorem Fld.raw_snoc {n : Nat} (l : List (Fld n)) (x : Fld n) : Fld.raw (l ++ [x]) = Fld.raw l ++ [(x.fst, x.snd)] := by simp [Fld.raw]
def encF {n : Nat} (x : Fld n) : Array Value := #[.int .i64 (x.fst : Int), .int .i64 (x.snd : Int)]

set_option maxRecDepth 100000 in
set_option maxHeartbeats 2000000 in
theorem flds1_in (l Bs n₀ : Nat) (a : Option Addr) (cap : Nat) (its : List It) (hlen : its.length ≤ 140737488351232) (J Jx : List (Fld its.length) → World → Prop) (W : World) (hJ : AbidesFrom W.heap.size J)
    (hY : ∀ pre x W, J pre W → pre.length < its.length → YieldAt Fence.wide 1 Try.prog l (encF x) W fun e W' =>
      (e = .returned (.bool true) ∧ J (pre ++ [x]) W' ∧ Below n₀ W W') ∨ (e = .returned (.bool false) ∧ Jx (pre ++ [x]) W'))
    (hn₀ : n₀ ≤ W.heap.size) (hBs : W.cell? ⟨Bs, 0, none⟩ = some (.slice a its.length cap)) (hr : RdI n₀ W a its) (h0 : J [] W) :
    CallsIn Fence.wide 2 Try.prog 41 #[.func (.yield l) #[] #[], .pointer (some ⟨Bs, 0, none⟩)] W fun e W' => (∃ v, e = .returned v) ∧
      ((∃ ys, Fld.raw ys = fieldsL its ∧ J ys W') ∨ (∃ pre, Fld.raw pre <+: fieldsL its ∧ Jx pre W')) := by
  refine callsIn_of_wp Try.func41 rfl trivial ?_ rfl
  simp only [Try.ntmps41, List.size_toArray, List.length_cons, List.length_nil, Nat.reduceAdd, Nat.reduceSub, Array.replicate_succ, Array.replicate_zero, List.push_toArray, List.append_toArray, List.nil_append, List.cons_append]
  have HR := Lib.hid hr
  clear hr
  gi_wp2
  gi_loopw [3, 4, 9] (fun sf sd i wr => ∃ (k frm : Nat) (d : Int) (pre : List (Fld its.length)), k ≤ its.length ∧ frm ≤ k ∧ -(k : Int) ≤ d ∧ d ≤ k ∧ sf = .int .i64 frm ∧ sd = .int .i64 d ∧ i = .int .i64 k ∧ pre.length ≤ k ∧ Hid (fieldsL its = Fld.raw pre ++ fieldsFrom frm k d (its.drop k)) ∧ J pre wr ∧ Below n₀ W wr ∧ W.heap.size ≤ wr.heap.size)
    (fun _ _ i _ => its.length - (intOf i).toNat)
  case atStart => exact ⟨0, 0, 0, [], Nat.zero_le _, Nat.zero_le _, by omega, by omega, rfl, rfl, rfl, Nat.zero_le _, rfl, h0, Below.refl _ _, Nat.le_refl _⟩
  case round =>
    obtain ⟨k, frm, d, pre, hk, hfk, hd0, hd1, rfl, rfl, rfl, hpk, HS, hJs, hnx, hsz⟩ := hrel
    by_cases hlt : k < its.length
    · obtain ⟨b, off, rfl, hb, hc⟩ := HR.out (by omega)
      obtain ⟨x, hx⟩ : ∃ x, its[k]? = some x := ⟨_, List.getElem?_eq_getElem hlt⟩
      obtain ⟨c0, c1, c2, A, c, c3, hxc, hcm, _⟩ := hc k x hx
      have g0 := (hnx.cell (p := ⟨b, off + k * 4, none⟩) hb).trans c0
      have g1 := (hnx.cell (p := ⟨b, off + k * 4 + 1, none⟩) hb).trans c1
      have g2 := (hnx.cell (p := ⟨b, off + k * 4 + 2, none⟩) hb).trans c2
      have g3 := (hnx.cell (p := ⟨b, off + k * 4 + 3, none⟩) hb).trans c3
      have HNX := Lib.hid hnx
      have HJS := Lib.hid hJs
      have hdrop : its.drop k = x :: its.drop (k + 1) := by
        rw [List.drop_eq_getElem_cons hlt]
        rw [List.getElem?_eq_getElem hlt] at hx
        injection hx with hx
        rw [hx]
      obtain ⟨ht0, ht1⟩ := turn_range x
      have hdp := deeper_any x A c x.bs.length
      have HS2 := HS.out
      rw [hdrop, fieldsFrom] at HS2
      obtain ⟨t, htt⟩ : ∃ t, turn x = t := ⟨_, rfl⟩
      rw [htt] at hdp ht0 ht1 HS2
      clear hc c0 c1 c2 c3 hx hdrop htt HS hnx hJs
      by_cases hdd : 0 < d + t
      · rw [if_pos hdd] at HS2
        have HS3 := Lib.hid HS2
        clear HS2
        gi_wp2_with (refine ⟨trivial, ?_⟩; gi_at_call 26; refine (callsIn_wide.2 (hdp _)).mono ?_; rintro e w1 ⟨rfl, hb1⟩; have hb2 := ((Below.refl wr.heap.size wr).alloc (Nat.le_refl _) (.cells #[.int .i64 x.kind, .int .i64 x.id, .int .i64 x.n, .slice A x.bs.length c] 41)).trans (hb1.mono (by simp)); have HJ1 := Lib.hid (hJ pre wr w1 none HJS.out (below_grown hb2) (fun r e => by cases e)); have HN1 := Lib.hid (HNX.out.trans (hb2.mono (Nat.le_trans hn₀ hsz))); have hsz1 := hb2.size; clear hb1 hb2)
        go_roundw
        case rel => exact ⟨k + 1, frm, d + t, pre, by omega, by omega, by omega, by omega, rfl, rfl, by go_num, by omega, HS3, HJ1.out, HN1.out, by omega⟩
        case measure => simp [intOf]; omega
      · rw [if_neg hdd] at HS2
        have hfl : frm < k + 1 := by omega
        have hle : k + 1 ≤ its.length := by omega
        have HS3 : Hid (fieldsL its = Fld.raw (pre ++ [⟨frm, k + 1, hfl, hle⟩]) ++ fieldsFrom (k + 1) (k + 1) (d + t) (its.drop (k + 1))) := by rw [Hid, HS2, Fld.raw_snoc]; simp
        clear HS2
        gi_wp2_with (refine ⟨trivial, ?_⟩; gi_at_call 26; refine (callsIn_wide.2 (hdp _)).mono ?_; rintro e w1 ⟨rfl, hb1⟩; have hb2 := ((Below.refl wr.heap.size wr).alloc (Nat.le_refl _) (.cells #[.int .i64 x.kind, .int .i64 x.id, .int .i64 x.n, .slice A x.bs.length c] 41)).trans (hb1.mono (by simp)); have HJ1 := Lib.hid (hJ pre wr w1 none HJS.out (below_grown hb2) (fun r e => by cases e)); have HN1 := Lib.hid (HNX.out.trans (hb2.mono (Nat.le_trans hn₀ hsz))); have hsz1 := hb2.size; obtain ⟨fn, tmps, assign, body, hy, hR⟩ := hY pre ⟨frm, k + 1, hfl, hle⟩ w1 HJ1.out (by omega); have hy : (Instr.yield l #[.int .i64 (frm : Int), .int .i64 ((k : Int) + 1)]).run Try.prog w1 = .ok (.round l fn tmps assign body) w1 := hy; have HRR := Lib.hid hR; clear hb1 hb2 hR)
        refine HRR.out.mono ?_
        rintro e W3 (⟨rfl, hJ3, hk3⟩ | ⟨rfl, hJx3⟩)
        · gi_wp2
          go_roundw
          case rel => exact ⟨k + 1, k + 1, d + t, pre ++ [⟨frm, k + 1, hfl, hle⟩], by omega, by omega, by omega, by omega, by simp, rfl, by simp, by rw [List.length_append]; simp only [List.length_cons, List.length_nil]; omega, HS3, hJ3, HN1.out.trans hk3, by have := hk3.size; omega⟩
          case measure => simp [intOf]; omega
        · gi_wp2
          refine bodyPost_ret (results_none rfl _ _ _) rfl ?_
          exact ⟨⟨_, rfl⟩, .inr ⟨_, ⟨_, HS3.out.symm⟩, hJx3⟩⟩
    · obtain rfl : k = its.length := by omega
      gi_wp2
      go_end0
      exact ⟨⟨_, rfl⟩, .inl ⟨_, by rw [HS.out]; simp [fieldsFrom], hJs⟩⟩

/-- The iterator's maker: the slice is boxed; the function value captures the box. -/
theorem fields_any (a : Option Addr) (len cap : Nat) (w : World) :
    Calls Try.prog 31 #[.slice a len cap] w fun e w' => e = .returned (.func (.func 41) #[] #[.pointer (some ⟨w.heap.size, 0, none⟩)]) ∧ w.alloc (.cells #[.slice a len cap] 22) = w' := by
  go_enter Try.func31, Try.ntmps31
  go_wp2
  go_ret
  exact ⟨rfl, rfl⟩

/-- WHAT fields HANDS BACK STOPS: all fields, in order, or a part of them, a round having said 'no more'. -/
theorem flds_stops (Bs n₀ : Nat) (a : Option Addr) (cap : Nat) (its : List It) (hlen : its.length ≤ 140737488351232) (w : World) (hBl : Bs < w.heap.size) (hn₀ : n₀ ≤ w.heap.size)
    (hc : w.cell? ⟨Bs, 0, none⟩ = some (.slice a its.length cap)) (hr : RdI n₀ w a its) :
    SeqStopsK Fence.wide 2 Try.prog 41 #[.pointer (some ⟨Bs, 0, none⟩)] (encF (n := its.length)) (Below n₀) (fun ys => Fld.raw ys = fieldsL its) (fun pre => Fld.raw pre <+: fieldsL its) its.length w := fun l J Jx W hW hJ _ hY h0 =>
  flds1_in l Bs n₀ a cap its hlen J Jx W hJ hY (Nat.le_trans hn₀ hW.size) ((hW.cell (p := ⟨Bs, 0, none⟩) hBl).trans hc) (hr.below (hW.mono hn₀)) h0
end Go.Proofs.Yteelknmafnoccaa
