/-
  THE DOCUMENT s Take: it adds up the groups of at most ten bytes, and asks whether these bytes are those of the sum: it returns just what the program s Take returns.
-/
import Derived.Test.YtgngcpbkopjjlaaDoorLists
import Derived.Deep.RegionHeld
import Derived.IntWalk
namespace Go.Proofs.YtgngcpbkopjjlaaDoor
open Go.RowKit

/-- The number that groups of seven bits are, the least first. -/
def val : List Int → Nat
  | [] => 0
  | x :: xs => (x % 128).toNat + 128 * val xs
theorem val_put (u : Nat) : val (putL u) = u := by
  induction u using Nat.strongRecOn with
  | ind u ih =>
    by_cases h : u < 128
    · rw [putL_lt h]; simp [val]; omega
    · rw [putL_ge (by omega)]
      simp only [val]
      rw [ih (u / 128) (by omega)]
      omega
theorem val_take (zs : List Int) : ∀ k, val (zs.take (k + 1)) = val (zs.take k) + (zs[k]?.getD 0 % 128).toNat * 128 ^ k := by
  induction zs with
  | nil => intro k; simp [val]
  | cons x xs ih =>
    intro k
    cases k with
    | zero => simp [val]
    | succ k =>
      have h := ih k
      simp only [List.take_succ_cons, val, List.getElem?_cons_succ] at h ⊢
      rw [h, Nat.mul_add, Nat.pow_succ, Nat.mul_comm (128 ^ k) 128, Nat.mul_left_comm]
      omega
theorem putL_last (n : Nat) : (putL n)[(putL n).length - 1]?.getD 0 < 128 := by
  induction n using Nat.strongRecOn with
  | ind n ih =>
    by_cases h : n < 128
    · rw [putL_lt h]; simp; omega
    · have hp := putL_pos (n / 128)
      rw [putL_ge (by omega)]
      have := ih (n / 128) (by omega)
      simp only [List.length_cons, Nat.add_sub_cancel]
      rw [show (putL (n / 128)).length = (putL (n / 128)).length - 1 + 1 by omega, List.getElem?_cons_succ]
      exact this

/-- Up to k all bytes say 'more'. -/
def More (zs : List Int) (k : Nat) : Prop := ∀ j, j < k → 128 ≤ zs[j]?.getD 0

/-- Where the first byte that says 'no more' stands at k, what is taken is the number up to there, if those are its bytes. -/
theorem take_at {zs : List Int} (hb : ∀ x ∈ zs, 0 ≤ x ∧ x ≤ 255) {k : Nat} (hk : k < zs.length) (hm : More zs k) (hx : zs[k]?.getD 0 < 128) :
    takeS zs = if putL (val (zs.take (k + 1)) % 18446744073709551616) = zs.take (k + 1) then (((val (zs.take (k + 1)) % 18446744073709551616 : Nat) : Int), ((k + 1 : Nat) : Int), 0) else (0, 0, 2) := by
  have hl : (zs.take (k + 1)).length = k + 1 := by rw [List.length_take]; omega
  by_cases he : putL (val (zs.take (k + 1)) % 18446744073709551616) = zs.take (k + 1)
  · rw [if_pos he]
    have h64 : val (zs.take (k + 1)) % 18446744073709551616 < 18446744073709551616 := Nat.mod_lt _ (by decide)
    have hs := scan_put0 h64 (zs.drop (k + 1))
    have hz : putL (val (zs.take (k + 1)) % 18446744073709551616) ++ zs.drop (k + 1) = zs := by
      rw [he]; exact List.take_append_drop _ _
    rw [hz] at hs
    unfold takeS
    rw [hs]
    have hlen : (putL (val (zs.take (k + 1)) % 18446744073709551616)).length = k + 1 := by rw [he, hl]
    have h10 := putL_len10 h64
    rw [hlen] at h10 ⊢
    simp only [Num.of_n h64, Num.of_k h10]
  · rw [if_neg he]
    rcases hsc : scan 0 0 zs with _ | ⟨q, qs⟩
    · unfold takeS; rw [hsc]
    · exfalso
      obtain ⟨h0, h1, h2, _⟩ := scan_first0 hb hsc
      have hql : (putL q.n).length = q.k := by rw [← h2, List.length_take]; omega
      have hkq : q.k = k + 1 := by
        rcases Nat.lt_trichotomy q.k (k + 1) with h | h | h
        · have h3 := hm (q.k - 1) (by omega)
          have h4 := putL_last q.n
          rw [hql, ← h2, List.getElem?_take, if_pos (by omega)] at h4
          omega
        · exact h
        · have h3 := putL_more q.n (k + 1) (by omega) (zs[k]?.getD 0) (by
            rw [← h2, List.take_take, Nat.min_eq_left (by omega)]
            refine List.mem_of_getElem? (i := k) ?_
            rw [List.getElem?_take, if_pos (by omega), List.getElem?_eq_getElem hk]
            rfl)
          omega
      have hv : val (zs.take (k + 1)) = q.n := by rw [← hkq, h2, val_put]
      apply he
      rw [hv, Nat.mod_eq_of_lt q.hn, ← h2, hkq]

theorem take_end {zs : List Int} (hb : ∀ x ∈ zs, 0 ≤ x ∧ x ≤ 255) {k : Nat} (hm : More zs k) (hk : zs.length ≤ k ∨ 10 ≤ k) : takeS zs = (0, 0, 2) := by
  rcases hsc : scan 0 0 zs with _ | ⟨q, qs⟩
  · unfold takeS; rw [hsc]
  · exfalso
    obtain ⟨h0, h1, h2, _⟩ := scan_first0 hb hsc
    have hql : (putL q.n).length = q.k := by rw [← h2, List.length_take]; omega
    have h10 := putL_len10 q.hn
    have h3 := hm (q.k - 1) (by omega)
    have h4 := putL_last q.n
    rw [hql, ← h2, List.getElem?_take, if_pos (by omega)] at h4
    omega

theorem str_inj {xs ys : List Int} (hx : ∀ x ∈ xs, 0 ≤ x ∧ x ≤ 255) (hy : ∀ y ∈ ys, 0 ≤ y ∧ y ≤ 255) (h : strOfNums xs = strOfNums ys) : xs = ys := by
  have h1 : xs.map (fun n => UInt8.ofNat n.toNat) = ys.map (fun n => UInt8.ofNat n.toNat) := by
    rw [← strOfNums_data, ← strOfNums_data, h]
  have key : ∀ (zs : List Int), (∀ x ∈ zs, 0 ≤ x ∧ x ≤ 255) → (zs.map (fun n => UInt8.ofNat n.toNat)).map (fun u => (u.toNat : Int)) = zs := by
    intro zs hz
    rw [List.map_map]
    refine (List.map_congr_left (fun n hn => ?_)).trans (List.map_id zs)
    have := hz n hn
    simp
    omega
  rw [← key xs hx, h1, key ys hy]

theorem conv_put {W : World} {base g n : Nat} {xs ys : List Int} {S : ByteArray} (he : xs = ys) (hS : strOfNums xs = S) (ho : W.ownsRow base 5 1 (.slice (some ⟨g, 0, none⟩) ys.length n) ys.length (ys.map (Value.int .u8))) :
    (convert 22 9 (.slice (some ⟨g, 0, none⟩) ys.length n)).run Tryd.prog W = .ok (.string S) W := by
  subst he hS
  exact conv_rd (Rd.of_own ho) n

set_option maxHeartbeats 4000000 in
set_option maxRecDepth 100000 in
theorem rtake_any (a : Option Addr) (cap : Nat) (zs : List Int) (hlen : zs.length ≤ 100000) (hcap : zs.length ≤ cap) (hb : ∀ x ∈ zs, 0 ≤ x ∧ x ≤ 255) (w : World) (hr : Rd .u8 w.heap.size w a zs) :
    Calls Tryd.prog 88 #[.slice a zs.length cap] w fun e w' => e = .returned (.tuple #[.int .u64 (takeS zs).1, .int .i64 (takeS zs).2.1, .int .i64 (takeS zs).2.2]) ∧ Below w.heap.size w w' := by
  have hbs := bytes_of hb
  have HR := Lib.hid hr
  have HS := Lib.hid hbs
  clear hr hbs
  go_enter Tryd.func88, Tryd.ntmps88
  go_wp2
  go_loop [5, 6] (fun n i => ∃ (k m : Nat), k ≤ zs.length ∧ k ≤ 10 ∧ m < 18446744073709551616 ∧ Hid (m = val (zs.take k) % 18446744073709551616) ∧ Hid (More zs k) ∧ n = .int .u64 m ∧ i = .int .i64 k) (fun _ i => zs.length - (intOf i).toNat)
  case atStart => exact ⟨0, 0, Nat.zero_le _, by omega, by omega, rfl, fun j hj => by omega, rfl, rfl⟩
  case round =>
    obtain ⟨k, m, hk, hk10, hm64, HM, HMo, rfl, rfl⟩ := hrel
    by_cases hlt : k < zs.length ∧ k < 10
    · obtain ⟨hlt, hlt10⟩ := hlt
      obtain ⟨b, off, rfl, hbb, hc⟩ := HR.out (by omega)
      have hc1 := hc k hlt
      have hx := HS.out k
      obtain ⟨x, hxe⟩ : ∃ x, zs[k]?.getD 0 = x := ⟨_, rfl⟩
      rw [hxe] at hc1 hx
      have HX := Lib.hid hxe
      clear hxe hc
      obtain ⟨y, hy⟩ : ∃ y : Nat, x % 128 = y := ⟨(x % 128).toNat, by omega⟩
      have hy128 : y < 128 := by omega
      go_wp2
      go_loop [7, 8] (fun s q => ∃ (j p : Nat), j ≤ k ∧ p < 18446744073709551616 ∧ Hid (p = y * 128 ^ j % 18446744073709551616) ∧ s = .int .u64 p ∧ q = .int .i64 j) (fun _ q => k - (intOf q).toNat)
      case atStart => exact ⟨0, y, Nat.zero_le _, by omega, by simp [Hid]; omega, rfl, rfl⟩
      case round =>
        obtain ⟨j, p, hj, hp, HP, rfl, rfl⟩ := hrel
        by_cases hjk : j < k
        · have hw : IntKind.u64.wrap ((p : Int) * 128) = ((p * 128 % 18446744073709551616 : Nat) : Int) := by rw [IntKind.wrap_u64]; omega
          go_wp2
          go_round
          case rel => exact ⟨j + 1, p * 128 % 18446744073709551616, by omega, Nat.mod_lt _ (by decide), by rw [Hid, HP.out, Nat.pow_succ, ← Nat.mul_assoc, Nat.mod_mul_mod], rfl, by go_num⟩
          case measure => simp [intOf]; omega
        · obtain rfl : j = k := by omega
          have hw : IntKind.u64.wrap ((m : Int) + (p : Int)) = (((m + p) % 18446744073709551616 : Nat) : Int) := by rw [IntKind.wrap_u64]; omega
          have HN : Hid ((m + p) % 18446744073709551616 = val (zs.take (j + 1)) % 18446744073709551616) := by
            have e := HX.out
            rw [Hid, HM.out, HP.out, val_take, e, hy, ← Nat.add_mod]
            rfl
          obtain ⟨N, hN⟩ : ∃ N, (m + p) % 18446744073709551616 = N := ⟨_, rfl⟩
          have hN64 : N < 18446744073709551616 := by rw [← hN]; exact Nat.mod_lt _ (by decide)
          rw [hN] at hw HN
          clear hN
          by_cases h128 : 128 ≤ x
          · have HMo2 : Hid (More zs (j + 1)) := fun i hi => by
              rcases Nat.lt_or_ge i j with h | h
              · exact HMo.out i h
              · obtain rfl : i = j := by omega
                rw [HX.out]; exact h128
            go_wp2
            go_round
            case rel => exact ⟨j + 1, N, by omega, by omega, hN64, HN, HMo2, rfl, by go_num⟩
            case measure => simp [intOf]; omega
          · have hta := take_at hb hlt HMo.out (by rw [HX.out]; omega)
            rw [← HN.out] at hta
            have HTA := Lib.hid hta
            have hN10 : N < 128 ^ (9 + 1) := Nat.lt_of_lt_of_le hN64 (by decide)
            have hput := rput_any 9 N
            have hjl : (zs.take (j + 1)).length = j + 1 := by rw [List.length_take]; omega
            have hjc : (j : Int) + 1 ≤ (cap : Int) := by omega
            have hcv : ∀ W : World, Below w.heap.size w W → (convert 22 9 (.slice (some ⟨b, off, none⟩) (j + 1) cap)).run Tryd.prog W = .ok (.string (strOfNums (zs.take (j + 1)))) W := fun W hW => by
              have h := conv_rd ((HR.out.below hW).take (j + 1)) cap
              rwa [hjl] at h
            have HCV := Lib.hid hcv
            clear hta hcv hjl
            obtain ⟨S1, hS1⟩ : ∃ S, strOfNums (zs.take (j + 1)) = S := ⟨_, rfl⟩
            rw [hS1] at HCV
            by_cases he : putL N = zs.take (j + 1)
            · have hta2 := HTA.out
              rw [if_pos he] at hta2
              have HTA2 := Lib.hid hta2
              clear hta2
              have HE := Lib.hid he
              have HS1 := Lib.hid hS1
              clear he hS1
              go_wp2_with fail
              have hw1 : IntKind.i64.wrap ((j : Int) + 1) = (j : Int) + 1 := IntWalk.i64_in _ (by omega)
              have h01 : (0 : Int) ≤ (j : Int) + 1 := by omega
              have htn : ((j : Int) + 1).toNat = j + 1 := by omega
              have hc0 := HCV.out w.drew (Below.refl _ _).drew
              go_region_held (fun _ => True) (trivial)
                (first
                  | (go_at_call 106; refine (hput _ hN10 hN64).mono ?_; rintro e W1 ⟨g, c, rfl, ho, hb1⟩; have hc2 := conv_put HE.out.symm HS1.out ho; have hc3 := HCV.out W1 ((Below.refl _ _).drew.trans hb1); have H1 := Lib.hid ((Below.refl w.heap.size w).drew.trans hb1); clear ho hb1))
              all_goals go_wp2
              all_goals go_ret3
              all_goals exact ⟨by rw [HTA2.out]; rfl, H1.out⟩
            · have hta2 := HTA.out
              rw [if_neg he] at hta2
              have HTA2 := Lib.hid hta2
              obtain ⟨S2, hS2⟩ : ∃ S, strOfNums (putL N) = S := ⟨_, rfl⟩
              have hne : S2 ≠ S1 := fun h => he (str_inj (putL_range N) (fun y hy => hb y (List.mem_of_mem_take hy)) (by rw [hS2, hS1, h]))
              have HS2 := Lib.hid hS2
              clear he hS1 hS2 hta2
              have hbq : (S2.toList == S1.toList) = false := by
                rw [ByteArray.toList_eq, ByteArray.toList_eq]
                exact beq_eq_false_iff_ne.2 (fun h => hne (Go.WideShapes.bytes_inj h))
              go_wp2_with fail
              have hw1 : IntKind.i64.wrap ((j : Int) + 1) = (j : Int) + 1 := IntWalk.i64_in _ (by omega)
              have h01 : (0 : Int) ≤ (j : Int) + 1 := by omega
              have htn : ((j : Int) + 1).toNat = j + 1 := by omega
              have hc0 := HCV.out w.drew (Below.refl _ _).drew
              go_region_held (fun _ => True) (trivial)
                (first
                  | (go_at_call 106; refine (hput _ hN10 hN64).mono ?_; rintro e W1 ⟨g, c, rfl, ho, hb1⟩; have hc2 := conv_put rfl HS2.out ho; have hc3 := HCV.out W1 ((Below.refl _ _).drew.trans hb1); have H1 := Lib.hid ((Below.refl w.heap.size w).drew.trans hb1); clear ho hb1))
              all_goals go_wp2
              all_goals go_ret3
              all_goals exact ⟨by rw [HTA2.out]; rfl, H1.out⟩
    · have hend : takeS zs = (0, 0, 2) := take_end hb HMo.out (by omega)
      have hdec : k = zs.length ∨ k < zs.length ∧ k = 10 := by omega
      rcases hdec with rfl | ⟨h1, rfl⟩
      · go_wp2
        go_ret3
        exact ⟨rfl, Below.refl _ _⟩
      · go_wp2
        go_ret3
        exact ⟨rfl, Below.refl _ _⟩
end Go.Proofs.YtgngcpbkopjjlaaDoor
