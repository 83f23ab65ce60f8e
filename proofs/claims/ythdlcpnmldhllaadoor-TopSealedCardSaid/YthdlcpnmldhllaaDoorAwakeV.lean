/-
  BEHIND awake: Encode's three answers, each by itself; the first line of every law of value answers true and leaves all as it was.
-/
import Derived.Test.YthdlcpnmldhllaaDoorOwnI
namespace Go.Proofs.YthdlcpnmldhllaaDoor
open Go.RowKit

theorem Encoded.arg {l : List It} {w w' : World} {e : Ending} (h : Encoded l w e w') (hr : rightB l = false) : e = .returned (.tuple #[.slice none 0 0, .int .i64 1]) ∧ Below w.heap.size w w' := by
  unfold Encoded at h
  rw [if_pos hr] at h
  exact h
theorem Encoded.full {l : List It} {w w' : World} {e : Ending} (h : Encoded l w e w') (hr : rightB l = true) (hf : 4096 < (encL l).length) : e = .returned (.tuple #[.slice none 0 0, .int .i64 3]) ∧ Below w.heap.size w w' := by
  unfold Encoded at h
  rw [if_neg (by simp [hr]), if_pos hf] at h
  exact h
/-- What came out reads as these bytes. -/
def GotB (zs : List Int) (w : World) (e : Ending) (w' : World) : Prop :=
  ∃ A c, e = .returned (.tuple #[.slice A zs.length c, .int .i64 0]) ∧ zs.length ≤ c ∧ c ≤ maxLen ∧ Rd .u8 w'.heap.size w' A zs ∧ Below w.heap.size w w'
theorem own_cap {w : World} {base : Nat} {e : TypeId} {size : Nat} {A : Option Addr} {n m cap : Nat} {xs : List Value} (h : w.ownsRow base e size (.slice A m cap) n xs) : cap ≤ maxLen := by
  rcases h.2 with ⟨h, _⟩ | ⟨g, c, cur, h, _, _, _, hc, _⟩
  · injection h with _ h1 h2; omega
  · injection h with _ h1 h2; omega
theorem Encoded.ok {l : List It} {w w' : World} {e : Ending} (h : Encoded l w e w') (hr : rightB l = true) (hf : ¬ 4096 < (encL l).length) {zs : List Int} (hz : encL l = zs) : GotB zs w e w' := by
  subst hz
  unfold Encoded at h
  rw [if_neg (by simp [hr]), if_neg hf] at h
  obtain ⟨⟨v, rfl, ho⟩, hb⟩ := h
  obtain ⟨A, c, rfl, hc⟩ := own_form ho
  exact ⟨A, c, rfl, hc, own_cap ho, rd_of_row ho, hb⟩

theorem encL_len4 : encL [⟨1, 1, 5, []⟩] = [4, 10] := by
  simp [encL, itemL, zigI, putL_lt]

end Go.Proofs.YthdlcpnmldhllaaDoor
