/-
  WHAT AN ENVELOPE's HEAD TELLS.
-/
import Derived.Test.YtmmocnokgcgmnaaDoorSBig
import Derived.StillTailTactics
namespace Go.Proofs.YtmmocnokgcgmnaaDoor
open Go.RowKit
theorem i64_or_nat (a b : Nat) (ha : a < 9223372036854775808) (hb : b < 9223372036854775808) : bits .or .i64 (a : Int) (b : Int) = ((a ||| b : Nat) : Int) := by
  have hx : a ||| b < 2 ^ 63 := Nat.or_lt_two_pow (by omega) (by omega)
  show IntKind.i64.wrap ((BitVec.ofInt 64 (a : Int) ||| BitVec.ofInt 64 (b : Int)).toNat : Int) = _
  rw [BitVec.toNat_or, ofInt_u64 a (by omega), ofInt_u64 b (by omega), IntKind.wrap_i64]
  omega
theorem or_byte64 {p x : Nat} (hp : p < 16777216) (hx : x < 256) : bits .or .i64 ((p : Int) * 256) (x : Int) = ((p * 256 + x : Nat) : Int) := by
  have h1 : p * 256 ||| x = p * 256 + x := by
    have := Nat.shiftLeft_add_eq_or_of_lt (i := 8) (b := x) (by simpa using hx) p
    rw [Nat.shiftLeft_eq] at this
    exact this.symm
  have h2 := i64_or_nat (p * 256) x (by omega) (by omega)
  rw [h1] at h2
  rw [← h2]
  congr 1
theorem word_take {l : List Nat} {k x : Nat} (h : l[k]? = some x) : word (l.take (k + 1)) = word (l.take k) * 256 + x := by
  rw [List.take_add_one, h, Option.toList_some, word_snoc]
set_option maxHeartbeats 1600000 in
set_option maxRecDepth 100000 in
theorem number_any (a : Option Addr) (c : Nat) (l : List Nat) (hb : ∀ x ∈ l, x < 256) (hl : l.length ≤ 4) (n : Nat) (hn : l.length = n) (w : World) (hr : RdN w.heap.size w a l) : Calls Tryd.prog 21 #[.slice a n c] w fun e w' => Tells e (word l) ∧ w' = w := by
  subst hn
  have HR := Lib.hid hr
  clear hr
  go_enter Tryd.func21, Tryd.ntmps21
  go_wp2
  go_loopw [3, 8] (fun nv iv wr => ∃ k : Nat, k ≤ l.length ∧ nv = .int .i64 (word (l.take k)) ∧ iv = .int .i64 k ∧ wr = w) (fun _ iv _ => l.length - (intOf iv).toNat)
  case atStart => exact ⟨0, by omega, rfl, rfl, rfl⟩
  case round =>
    obtain ⟨k, hk, rfl, rfl, rfl⟩ := hrel
    by_cases hlt : k < l.length
    · obtain ⟨x, hx⟩ : ∃ x, l[k]? = some x := ⟨_, List.getElem?_eq_getElem hlt⟩
      have hx8 := hb x (List.mem_of_getElem? hx)
      obtain ⟨b, off, e, _, hc⟩ := HR.out (by omega)
      subst e
      have hco := hc k x hx
      have HW := Lib.hid (word_take hx)
      have hp : word (l.take k) < 16777216 := by
        have h := word_lt (l.take k) fun y hy => hb y (List.mem_of_mem_take hy)
        have h2 : 256 ^ (l.take k).length ≤ 256 ^ 3 := Nat.pow_le_pow_right (by decide) (by rw [List.length_take]; omega)
        have e : (256 : Nat) ^ 3 = 16777216 := by decide
        omega
      have hor := or_byte64 hp hx8
      obtain ⟨P, hP⟩ : ∃ P, word (l.take k) = P := ⟨_, rfl⟩
      rw [hP] at hp hor HW ⊢
      clear hx hc hP
      go_wp2
      go_roundw
      case rel => exact ⟨k + 1, by omega, by rw [HW.out]; go_num, by go_num, by first | rfl | trivial⟩
      case measure => simp [intOf]; omega
    · obtain rfl : k = l.length := by omega
      rw [List.take_length]
      go_wp2
      go_ret
      exact ⟨rfl, by first | rfl | trivial⟩
set_option maxHeartbeats 1600000 in
set_option maxRecDepth 100000 in
theorem equal_any (a : Option Addr) (c : Nat) (l : List Nat) (n : Nat) (hn : l.length = n) (a2 : Option Addr) (c2 : Nat) (l2 : List Nat) (n2 : Nat) (hn2 : l2.length = n2) (w : World) (hr : RdN w.heap.size w a l) (hr2 : RdN w.heap.size w a2 l2) :
    Calls Tryd.prog 12 #[.slice a n c, .slice a2 n2 c2] w fun e w' => e = .returned (.bool ((strB l).toList == (strB l2).toList)) ∧ w' = w := by
  have v1 := conv_rdE hr hn c
  have v2 := conv_rdE hr2 hn2 c2
  obtain ⟨s1, hs1⟩ : ∃ s, strB l = s := ⟨_, rfl⟩
  obtain ⟨s2, hs2⟩ : ∃ s, strB l2 = s := ⟨_, rfl⟩
  rw [hs1] at v1 ⊢
  rw [hs2] at v2 ⊢
  go_enter Tryd.func12, Tryd.ntmps12
  go_wp2
  go_ret
  exact ⟨rfl, rfl⟩
set_option maxHeartbeats 1600000 in
set_option maxRecDepth 100000 in
theorem outerOf_any (a : Option Addr) (c : Nat) (l : List Nat) (hb : ∀ x ∈ l, x < 256) (hl : l.length = 11) (hc : 11 ≤ c) (w : World) (hr : RdN w.heap.size w a l) :
    Calls Tryd.prog 9 #[.slice a 11 c] w fun e w' => e = .returned (.agg #[.int .i64 (word ((l.drop 2).take 1)), .int .i64 (word ((l.drop 3).take 2)), .int .i64 (word ((l.drop 5).take 2)), .int .i64 (word ((l.drop 7).take 4))]) ∧ Below w.heap.size w w' := by
  obtain ⟨b, off, rfl, hbw, hcc⟩ := hr (by omega)
  have h1 := fun W (h : RdN (World.heap W).size W (some ⟨b, off + 2, none⟩) ((l.drop 2).take 1)) cc => number_any (some ⟨b, off + 2, none⟩) cc ((l.drop 2).take 1) (fun x hx => hb x (List.mem_of_mem_drop (List.mem_of_mem_take hx))) (by simp; omega) 1 (by simp; omega) W h
  have h2 := fun W (h : RdN (World.heap W).size W (some ⟨b, off + 3, none⟩) ((l.drop 3).take 2)) cc => number_any (some ⟨b, off + 3, none⟩) cc ((l.drop 3).take 2) (fun x hx => hb x (List.mem_of_mem_drop (List.mem_of_mem_take hx))) (by simp; omega) 2 (by simp; omega) W h
  have h3 := fun W (h : RdN (World.heap W).size W (some ⟨b, off + 5, none⟩) ((l.drop 5).take 2)) cc => number_any (some ⟨b, off + 5, none⟩) cc ((l.drop 5).take 2) (fun x hx => hb x (List.mem_of_mem_drop (List.mem_of_mem_take hx))) (by simp; omega) 2 (by simp; omega) W h
  have h4 := fun W (h : RdN (World.heap W).size W (some ⟨b, off + 7, none⟩) ((l.drop 7).take 4)) cc => number_any (some ⟨b, off + 7, none⟩) cc ((l.drop 7).take 4) (fun x hx => hb x (List.mem_of_mem_drop (List.mem_of_mem_take hx))) (by simp; omega) 4 (by simp; omega) W h
  have hrX : RdN (w.alloc (.cells #[.int .i64 0, .int .i64 0, .int .i64 0, .int .i64 0] 28)).heap.size (w.alloc (.cells #[.int .i64 0, .int .i64 0, .int .i64 0, .int .i64 0] 28)).drew (some ⟨b, off, none⟩) l :=
    (hr.below ((Below.refl w.heap.size w).alloc (Nat.le_refl _) (.cells #[.int .i64 0, .int .i64 0, .int .i64 0, .int .i64 0] 28)) (Nat.le_refl _)).mono (by simp)
  have n1 := h1 (w.alloc (.cells #[.int .i64 0, .int .i64 0, .int .i64 0, .int .i64 0] 28)).drew (hrX.part 2 1) (c - 2)
  have n2 := h2 (w.alloc (.cells #[.int .i64 0, .int .i64 0, .int .i64 0, .int .i64 0] 28)).drew (hrX.part 3 2) (c - 3)
  have n3 := h3 (w.alloc (.cells #[.int .i64 0, .int .i64 0, .int .i64 0, .int .i64 0] 28)).drew (hrX.part 5 2) (c - 5)
  have n4 := h4 (w.alloc (.cells #[.int .i64 0, .int .i64 0, .int .i64 0, .int .i64 0] 28)).drew (hrX.part 7 4) (c - 7)
  have k0 : ¬ c < 3 := by omega
  have k1 : ¬ c < 5 := by omega
  have k2 : ¬ c < 7 := by omega
  have k3 : ¬ c < 11 := by omega
  have kp3 : (3 : Int) ≤ (c : Int) := by omega
  have kp5 : (5 : Int) ≤ (c : Int) := by omega
  have kp7 : (7 : Int) ≤ (c : Int) := by omega
  have kp11 : (11 : Int) ≤ (c : Int) := by omega
  have m2 : ¬ c = 2 := by omega
  have m3 : ¬ c = 3 := by omega
  have m5 : ¬ c = 5 := by omega
  have m7 : ¬ c = 7 := by omega
  obtain ⟨A, hA⟩ : ∃ A, word ((l.drop 2).take 1) = A := ⟨_, rfl⟩
  obtain ⟨B, hB⟩ : ∃ B, word ((l.drop 3).take 2) = B := ⟨_, rfl⟩
  obtain ⟨C, hC⟩ : ∃ C, word ((l.drop 5).take 2) = C := ⟨_, rfl⟩
  obtain ⟨D, hD⟩ : ∃ D, word ((l.drop 7).take 4) = D := ⟨_, rfl⟩
  rw [hA] at n1 ⊢
  rw [hB] at n2 ⊢
  rw [hC] at n3 ⊢
  rw [hD] at n4 ⊢
  clear h1 h2 h3 h4 hA hB hC hD hrX hcc
  obtain ⟨o2, ho2⟩ : ∃ o, off + 2 = o := ⟨_, rfl⟩
  rw [ho2] at n1
  obtain ⟨o3, ho3⟩ : ∃ o, off + 3 = o := ⟨_, rfl⟩
  rw [ho3] at n2
  obtain ⟨o5, ho5⟩ : ∃ o, off + 5 = o := ⟨_, rfl⟩
  rw [ho5] at n3
  obtain ⟨o7, ho7⟩ : ∃ o, off + 7 = o := ⟨_, rfl⟩
  rw [ho7] at n4
  go_enter Tryd.func9, Tryd.ntmps9
  go_wp2
  have q1 := n1.mono fun e w' (h : Tells e A ∧ w' = _) => (show e = .returned (.int .i64 A) ∧ w' = _ from h)
  have q2 := n2.mono fun e w' (h : Tells e B ∧ w' = _) => (show e = .returned (.int .i64 B) ∧ w' = _ from h)
  have q3 := n3.mono fun e w' (h : Tells e C ∧ w' = _) => (show e = .returned (.int .i64 C) ∧ w' = _ from h)
  have q4 := n4.mono fun e w' (h : Tells e D ∧ w' = _) => (show e = .returned (.int .i64 D) ∧ w' = _ from h)
  clear n1 n2 n3 n4
  refine wp_region_still_tail 13 (by kernel_rfl) (by kernel_rfl) ?_
  simp only [List.take_succ_cons, List.take_zero, List.drop_succ_cons, List.drop_zero]
  still_step
  still_step
  still_call q1
  still_step
  still_step
  still_call q2
  still_step
  still_step
  still_call q3
  still_step
  still_step
  still_call q4
  still_step
  refine wpStill_nil ?_
  change wpList _ _ _ _ _ (w.alloc (.cells #[.int .i64 0, .int .i64 0, .int .i64 0, .int .i64 0] 28)).drew
  have AX : Arr (w.alloc (.cells #[.int .i64 0, .int .i64 0, .int .i64 0, .int .i64 0] 28)).drew w.heap.size 28 [.int .i64 0, .int .i64 0, .int .i64 0, .int .i64 0] := Arr.new w 28 [.int .i64 0, .int .i64 0, .int .i64 0, .int .i64 0]
  have BX := Lib.hid ((Below.refl w.heap.size w).alloc (Nat.le_refl _) (.cells #[.int .i64 0, .int .i64 0, .int .i64 0, .int .i64 0] 28)).drew
  generalize (w.alloc (.cells #[.int .i64 0, .int .i64 0, .int .i64 0, .int .i64 0] 28)).drew = w2 at AX BX ⊢
  have HAX := Lib.hid AX
  clear AX q1 q2 q3 q4
  go_wp2_with (refine wpList_store_arr rfl 28 (.tmp 2) (.tmp 15) rfl w.heap.size rfl (vs := [.int .i64 A, .int .i64 B, .int .i64 C, .int .i64 D]) rfl HAX.out sizeO rfl rfl (by simp [Value.oneCell']) ?_; intro W3 A3 B3 hsz3 O3)
  refine bodyPost_ret (results_arr rfl rfl A3.out Tryd.underlying28 rfl sizeO rfl) rfl ?_
  exact ⟨rfl, BX.out.trans B3.out⟩
end Go.Proofs.YtmmocnokgcgmnaaDoor
