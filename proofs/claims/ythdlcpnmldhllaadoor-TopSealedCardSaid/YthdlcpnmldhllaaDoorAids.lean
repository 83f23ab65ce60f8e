/-
  SMALL AIDS: a slice's part reads as the part of its numbers; Take at a length that is told apart; what a number's bytes, cut off, are: none.
-/
import Derived.Test.YthdlcpnmldhllaaDoorPack
import Derived.Test.YthdlcpnmldhllaaDoorNums
namespace Go.Proofs.YthdlcpnmldhllaaDoor
open Go.RowKit

theorem bytes_of {zs : List Int} (h : ∀ x ∈ zs, 0 ≤ x ∧ x ≤ 255) : Bytes zs := fun j => by
  rcases hz : zs[j]? with _ | x
  · simp
  · have := h x (List.mem_of_getElem? hz)
    simpa using this
theorem take_len {a : Option Addr} {len : Nat} (cap : Nat) (zs : List Int) (hl : zs.length = len) (hlen : len ≤ 140737488351232) (hbs : ∀ x ∈ zs, 0 ≤ x ∧ x ≤ 255) {w : World} (hr : Rd .u8 w.heap.size w a zs) {r1 r2 r3 : Int} (hres : takeS zs = (r1, r2, r3)) :
    Calls Tryd.prog 64 #[.slice a len cap] w fun e w' => e = .returned (.tuple #[.int .u64 r1, .int .i64 r2, .int .i64 r3]) ∧ Below w.heap.size w w' := by
  have h := take_any a cap zs (by omega) (bytes_of hbs) w hr
  rw [hl, hres] at h
  exact h

theorem own_le {w : World} {base : Nat} {e : TypeId} {size : Nat} {A : Option Addr} {n m cap : Nat} {xs : List Value} (h : w.ownsRow base e size (.slice A m cap) n xs) : m ≤ cap := by
  rcases h.2 with ⟨h, _⟩ | ⟨g, c, cur, h, _, _, hc, _⟩
  · injection h with _ h1 h2; omega
  · injection h with _ h1 h2; omega
theorem Rd.take {k : IntKind} {n₀ : Nat} {W : World} {a : Option Addr} {zs : List Int} (h : Rd k n₀ W a zs) (j : Nat) : Rd k n₀ W a (zs.take j) := fun hp => by
  rw [List.length_take] at hp
  obtain ⟨b, off, e, hb, hc⟩ := h (by omega)
  refine ⟨b, off, e, hb, fun i hi => ?_⟩
  rw [List.length_take] at hi
  rw [List.getElem?_take, if_pos (by omega)]
  exact hc i (by omega)
theorem putL_more (n : Nat) : ∀ (r : Nat), r < (putL n).length → ∀ x ∈ (putL n).take r, 128 ≤ x := by
  induction n using Nat.strongRecOn with
  | ind n ih =>
    intro r hr x hx
    by_cases hn : n < 128
    · rw [putL_lt hn] at hr hx
      obtain rfl : r = 0 := by simpa using hr
      simp at hx
    · rw [putL_ge (by omega)] at hr hx
      match r, hr, hx with
      | 0, _, hx => simp at hx
      | r + 1, hr, hx =>
        rw [List.take_succ_cons] at hx
        rcases List.mem_cons.1 hx with rfl | hx
        · omega
        · exact ih (n / 128) (by omega) r (by simpa using hr) x hx
theorem take_none {u r : Nat} (hr : r < (putL u).length) : takeS ((putL u).take r) = (0, 0, 2) := by
  unfold takeS
  rw [scan_more _ 0 0 (putL_more u r hr)]

end Go.Proofs.YthdlcpnmldhllaaDoor
