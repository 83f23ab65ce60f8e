/-
  BEHIND awake: Encode's three answers, each by itself; the first line of every law of value answers true and leaves all as it was.
-/
import Derived.Test.YteelknmafnoccaaOwnI
namespace Go.Proofs.Yteelknmafnoccaa
open Go.RowKit

theorem Encoded.arg {l : List It} {w w' : World} {e : Ending} (h : Encoded l w e w') (hr : rightB l = false) : e = .returned (.tuple #[.slice none 0 0, .int .i64 1]) ∧ Below w.heap.size w w' := by
  unfold Encoded at h
  rw [if_pos hr] at h
  exact h
theorem Encoded.full {l : List It} {w w' : World} {e : Ending} (h : Encoded l w e w') (hr : rightB l = true) (hf : 4096 < (encL l).length) : e = .returned (.tuple #[.slice none 0 0, .int .i64 3]) ∧ Below w.heap.size w w' := by
  unfold Encoded at h
  rw [if_neg (by simp [hr]), if_pos hf] at h
  exact h
/-- What came out reads as these bytes. -/
def GotB (zs : List Int) (w : World) (e : Ending) (w' : World) : Prop :=
  ∃ A c, e = .returned (.tuple #[.slice A zs.length c, .int .i64 0]) ∧ zs.length ≤ c ∧ c ≤ maxLen ∧ Rd .u8 w'.heap.size w' A zs ∧ Below w.heap.size w w'
theorem own_cap {w : World} {base : Nat} {e : TypeId} {size : Nat} {A : Option Addr} {n m cap : Nat} {xs : List Value} (h : w.ownsRow base e size (.slice A m cap) n xs) : cap ≤ maxLen := by
  rcases h.2 with ⟨h, _⟩ | ⟨g, c, cur, h, _, _, _, hc, _⟩
  · injection h with _ h1 h2; omega
  · injection h with _ h1 h2; omega
theorem Encoded.ok {l : List It} {w w' : World} {e : Ending} (h : Encoded l w e w') (hr : rightB l = true) (hf : ¬ 4096 < (encL l).length) {zs : List Int} (hz : encL l = zs) : GotB zs w e w' := by
  subst hz
  unfold Encoded at h
  rw [if_neg (by simp [hr]), if_neg hf] at h
  obtain ⟨⟨v, rfl, ho⟩, hb⟩ := h
  obtain ⟨A, c, rfl, hc⟩ := own_form ho
  exact ⟨A, c, rfl, hc, own_cap ho, rd_of_row ho, hb⟩

theorem encL_len4 : encL [⟨1, 1, 5, []⟩] = [4, 10] := by
  simp [encL, itemL, zigI, putL_lt]

set_option maxHeartbeats 1600000 in
set_option maxRecDepth 100000 in
theorem awakev_any (w : World) : Calls Try.prog 10 #[] w fun e w' => e = .returned (.bool true) ∧ Below w.heap.size w w' := by
  have hE : ∀ W : World, Calls Try.prog 12 #[.slice (some ⟨W.heap.size, 0, none⟩) 1 1] (W.alloc (.cells #[.int .i64 1, .int .i64 1, .int .i64 5, .slice none 0 0] 41)) (GotB [4, 10] (W.alloc (.cells #[.int .i64 1, .int .i64 1, .int .i64 5, .slice none 0 0] 41))) := fun W =>
    (pencode_any (some ⟨W.heap.size, 0, none⟩) 1 [⟨1, 1, 5, []⟩] (by simp) (by simp) (by intro x hx; simp at hx; subst hx; exact ⟨by decide, by decide, by decide, by simp⟩) _ ((OwnI.one W ⟨1, 1, 5, []⟩ (A := none) (cap := 0) (Nat.le_refl _) (Nat.zero_le _) (fun hp => by simp at hp)).rd (by simp) (Nat.le_refl _))).mono fun e w' h => h.ok (by decide) (by rw [encL_len4]; simp) encL_len4
  have hR : ∀ W : World, Calls Try.prog 14 #[.slice (some ⟨W.heap.size, 0, none⟩) 2 2] (W.alloc (.cells #[.int .i64 3, .int .i64 2, .int .i64 0, .slice none 0 0, .int .i64 4, .int .i64 0, .int .i64 0, .slice none 0 0] 41)) (fun e w' => e = .returned (.bool true) ∧ Below (W.alloc (.cells #[.int .i64 3, .int .i64 2, .int .i64 0, .slice none 0 0, .int .i64 4, .int .i64 0, .int .i64 0, .slice none 0 0] 41)).heap.size (W.alloc (.cells #[.int .i64 3, .int .i64 2, .int .i64 0, .slice none 0 0, .int .i64 4, .int .i64 0, .int .i64 0, .slice none 0 0] 41)) w') := fun W =>
    pright_any (some ⟨W.heap.size, 0, none⟩) 2 [⟨3, 2, 0, []⟩, ⟨4, 0, 0, []⟩] (by simp) _ ((OwnI.two W ⟨3, 2, 0, []⟩ ⟨4, 0, 0, []⟩ (A := none) (B := none) (ca := 0) (cb := 0) (Nat.le_refl _) (Nat.zero_le _) (fun hp => by simp at hp) (Nat.le_refl _) (Nat.zero_le _) (fun hp => by simp at hp)).rd (by simp) (Nat.le_refl _))
  have HE := Lib.hid hE
  have HR := Lib.hid hR
  clear hE hR
  go_enter Try.func10, Try.ntmps10
  go_wp2_with (first
    | (go_at_call 12; (with_reducible refine (HE.out _).mono ?_); rintro e w1 ⟨A, c, rfl, hc1, hc2, hrd, hb⟩; have hcv : (convert 25 9 (.slice A 2 c)).run Try.prog w1 = .ok (.string ⟨#[4, 10]⟩) w1 := conv_rd hrd c; have hb' := Lib.hid (((Below.refl w.heap.size w).alloc (Nat.le_refl _) _).trans (hb.mono (by simp))); clear hb hrd)
    | (go_at_call 14; (with_reducible refine (HR.out _).mono ?_); rintro e w2 ⟨rfl, hb⟩; have hb2 := Lib.hid ((hb'.out.alloc hb'.out.size _).trans (hb.mono (by have := hb'.out.size; simp; omega))); clear hb))
  go_ret
  exact ⟨rfl, hb2.out⟩
end Go.Proofs.Yteelknmafnoccaa
