/-
  THE DOCUMENT s Take: it adds up the groups of at most ten bytes, and asks whether these bytes are those of the sum: it returns just what the program s Take returns.
-/
import Derived.Test.YthdlcpnmldhllaaDoorLists
import Derived.Deep.RegionHeld
import Derived.IntWalk
namespace Go.Proofs.YthdlcpnmldhllaaDoor
open Go.RowKit

/-- The number that groups of seven bits are, the least first. -/
def val : List Int → Nat
  | [] => 0
  | x :: xs => (x % 128).toNat + 128 * val xs
theorem val_put (u : Nat) : val (putL u) = u := by
  induction u using Nat.strongRecOn with
  | ind u ih =>
    by_cases h : u < 128
    · rw [putL_lt h]; simp [val]; omega
    · rw [putL_ge (by omega)]
      simp only [val]
      rw [ih (u / 128) (by omega)]
      omega
theorem val_take (zs : List Int) : ∀ k, val (zs.take (k + 1)) = val (zs.take k) + (zs[k]?.getD 0 % 128).toNat * 128 ^ k := by
  induction zs with
  | nil => intro k; simp [val]
  | cons x xs ih =>
    intro k
    cases k with
    | zero => simp [val]
    | succ k =>
      have h := ih k
      simp only [List.take_succ_cons, val, List.getElem?_cons_succ] at h ⊢
      rw [h, Nat.mul_add, Nat.pow_succ, Nat.mul_comm (128 ^ k) 128, Nat.mul_left_comm]
      omega
theorem putL_last (n : Nat) : (putL n)[(putL n).length - 1]?.getD 0 < 128 := by
  induction n using Nat.strongRecOn with
  | ind n ih =>
    by_cases h : n < 128
    · rw [putL_lt h]; simp; omega
    · have hp := putL_pos (n / 128)
      rw [putL_ge (by omega)]
      have := ih (n / 128) (by omega)
      simp only [List.length_cons, Nat.add_sub_cancel]
      rw [show (putL (n / 128)).length = (putL (n / 128)).length - 1 + 1 by omega, List.getElem?_cons_succ]
      exact this

/-- Up to k all bytes say 'more'. -/
def More (zs : List Int) (k : Nat) : Prop := ∀ j, j < k → 128 ≤ zs[j]?.getD 0

/-- Where the first byte that says 'no more' stands at k, what is taken is the number up to there, if those are its bytes. -/
theorem take_at {zs : List Int} (hb : ∀ x ∈ zs, 0 ≤ x ∧ x ≤ 255) {k : Nat} (hk : k < zs.length) (hm : More zs k) (hx : zs[k]?.getD 0 < 128) :
    takeS zs = if putL (val (zs.take (k + 1)) % 18446744073709551616) = zs.take (k + 1) then (((val (zs.take (k + 1)) % 18446744073709551616 : Nat) : Int), ((k + 1 : Nat) : Int), 0) else (0, 0, 2) := by
  have hl : (zs.take (k + 1)).length = k + 1 := by rw [List.length_take]; omega
  by_cases he : putL (val (zs.take (k + 1)) % 18446744073709551616) = zs.take (k + 1)
  · rw [if_pos he]
    have h64 : val (zs.take (k + 1)) % 18446744073709551616 < 18446744073709551616 := Nat.mod_lt _ (by decide)
    have hs := scan_put0 h64 (zs.drop (k + 1))
    have hz : putL (val (zs.take (k + 1)) % 18446744073709551616) ++ zs.drop (k + 1) = zs := by
      rw [he]; exact List.take_append_drop _ _
    rw [hz] at hs
    unfold takeS
    rw [hs]
    have hlen : (putL (val (zs.take (k + 1)) % 18446744073709551616)).length = k + 1 := by rw [he, hl]
    have h10 := putL_len10 h64
    rw [hlen] at h10 ⊢
    simp only [Num.of_n h64, Num.of_k h10]
  · rw [if_neg he]
    rcases hsc : scan 0 0 zs with _ | ⟨q, qs⟩
    · unfold takeS; rw [hsc]
    · exfalso
      obtain ⟨h0, h1, h2, _⟩ := scan_first0 hb hsc
      have hql : (putL q.n).length = q.k := by rw [← h2, List.length_take]; omega
      have hkq : q.k = k + 1 := by
        rcases Nat.lt_trichotomy q.k (k + 1) with h | h | h
        · have h3 := hm (q.k - 1) (by omega)
          have h4 := putL_last q.n
          rw [hql, ← h2, List.getElem?_take, if_pos (by omega)] at h4
          omega
        · exact h
        · have h3 := putL_more q.n (k + 1) (by omega) (zs[k]?.getD 0) (by
            rw [← h2, List.take_take, Nat.min_eq_left (by omega)]
            refine List.mem_of_getElem? (i := k) ?_
            rw [List.getElem?_take, if_pos (by omega), List.getElem?_eq_getElem hk]
            rfl)
          omega
      have hv : val (zs.take (k + 1)) = q.n := by rw [← hkq, h2, val_put]
      apply he
      rw [hv, Nat.mod_eq_of_lt q.hn, ← h2, hkq]

theorem take_end {zs : List Int} (hb : ∀ x ∈ zs, 0 ≤ x ∧ x ≤ 255) {k : Nat} (hm : More zs k) (hk : zs.length ≤ k ∨ 10 ≤ k) : takeS zs = (0, 0, 2) := by
  rcases hsc : scan 0 0 zs with _ | ⟨q, qs⟩
  · unfold takeS; rw [hsc]
  · exfalso
    obtain ⟨h0, h1, h2, _⟩ := scan_first0 hb hsc
    have hql : (putL q.n).length = q.k := by rw [← h2, List.length_take]; omega
    have h10 := putL_len10 q.hn
    have h3 := hm (q.k - 1) (by omega)
    have h4 := putL_last q.n
    rw [hql, ← h2, List.getElem?_take, if_pos (by omega)] at h4
    omega

theorem str_inj {xs ys : List Int} (hx : ∀ x ∈ xs, 0 ≤ x ∧ x ≤ 255) (hy : ∀ y ∈ ys, 0 ≤ y ∧ y ≤ 255) (h : strOfNums xs = strOfNums ys) : xs = ys := by
  have h1 : xs.map (fun n => UInt8.ofNat n.toNat) = ys.map (fun n => UInt8.ofNat n.toNat) := by
    rw [← strOfNums_data, ← strOfNums_data, h]
  have key : ∀ (zs : List Int), (∀ x ∈ zs, 0 ≤ x ∧ x ≤ 255) → (zs.map (fun n => UInt8.ofNat n.toNat)).map (fun u => (u.toNat : Int)) = zs := by
    intro zs hz
    rw [List.map_map]
    refine (List.map_congr_left (fun n hn => ?_)).trans (List.map_id zs)
    have := hz n hn
    simp
    omega
  rw [← key xs hx, h1, key ys hy]

theorem conv_put {W : World} {base g n : Nat} {xs ys : List Int} {S : ByteArray} (he : xs = ys) (hS : strOfNums xs = S) (ho : W.ownsRow base 5 1 (.slice (some ⟨g, 0, none⟩) ys.length n) ys.length (ys.map (Value.int .u8))) :
    (convert 35 9 (.slice (some ⟨g, 0, none⟩) ys.length n)).run Tryd.prog W = .ok (.string S) W := by
  subst he hS
  exact conv_rd (Rd.of_own ho) n

end Go.Proofs.YthdlcpnmldhllaaDoor
