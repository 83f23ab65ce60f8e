/-
  THE PROGRAM s Pack: it returns the bytes of the numbers one behind the other ("packL"), in a row of its own, and leaves what was there as it was.
-/
import Derived.Test.YthdlcpnmldhllaaDoorAwake
namespace Go.Proofs.YthdlcpnmldhllaaDoor
open Go.RowKit

/-- The bytes of the numbers, one behind the other. -/
def packL (l : List Int) : List Int := l.flatMap fun n => putL (zigI n).toNat

theorem packL_snoc (l : List Int) (n : Int) : packL (l ++ [n]) = packL l ++ putL (zigI n).toNat := by simp [packL]

/-- The numbers of a slice are ints. -/
def Ints64 (zs : List Int) : Prop := ∀ j : Nat, -9223372036854775808 ≤ zs[j]?.getD 0 ∧ zs[j]?.getD 0 ≤ 9223372036854775807

theorem putZ_len (n : Int) (h0 : -9223372036854775808 ≤ n) (h1 : n ≤ 9223372036854775807) : (putL (zigI n).toNat).length ≤ 10 := by
  have := zig_range h0 h1
  exact putL_len10 (by omega)

theorem packL_len : ∀ (k : Nat) (zs : List Int), Ints64 zs → (packL (zs.take k)).length ≤ 10 * k := by
  intro k
  induction k with
  | zero => intro zs _; simp [packL]
  | succ k ih =>
    intro zs h
    rw [List.take_add_one]
    have := ih zs h
    rcases hz : zs[k]? with _ | x
    · simp; omega
    · have h1 := h k
      rw [hz] at h1
      simp only [Option.getD_some] at h1
      have h2 := putZ_len x h1.1 h1.2
      simp only [Option.toList_some, packL_snoc, List.length_append]
      omega

theorem own_form {w : World} {base : Nat} {e : TypeId} {size : Nat} {v : Value} {n : Nat} {xs : List Value} (h : w.ownsRow base e size v n xs) : ∃ A cap, v = .slice A n cap ∧ n ≤ cap := by
  rcases h.2 with ⟨rfl, rfl⟩ | ⟨g, cap, cur, rfl, _, _, hc, _⟩
  · exact ⟨none, 0, rfl, Nat.le_refl _⟩
  · exact ⟨_, cap, rfl, hc⟩

end Go.Proofs.YthdlcpnmldhllaaDoor
