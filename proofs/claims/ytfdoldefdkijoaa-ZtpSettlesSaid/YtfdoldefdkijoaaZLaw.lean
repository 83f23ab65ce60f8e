/-
  WHAT THE LAWS SAY OF A NODE'S LEVEL: plain mathematics.
-/
import Derived.Test.YtfdoldefdkijoaaZMath
namespace Go.Proofs.Ytfdoldefdkijoaa
set_option linter.unusedSimpArgs false
set_option linter.unusedVariables false
def newN : ZtT := newZ (-1) false false
theorem newN_inv : InvZ newN := newZ_inv (by decide)
theorem offer_put (z : ZtT) {link level now : Int} (ha : offArg link level now) (hl : 1 ≤ level) (hr : (restZ z.L link).length < 64) : (offerZ z link level false now).2 = { z with L := restZ z.L link ++ [⟨link, level, now + 4⟩] } := by
  unfold offerZ
  rw [if_neg (by simpa using ha), if_neg (by simp; omega), if_neg (by omega)]
theorem offer_drop (z : ZtT) {link level now : Int} {none : Bool} (ha : offArg link level now) (hl : level < 1 ∨ none = true) : (offerZ z link level none now).2 = { z with L := restZ z.L link } := by
  unfold offerZ
  rw [if_neg (by simpa using ha), if_pos hl]
theorem tick_is (z : ZtT) {now : Int} (hm : momB now) : (tickZ z now).2 = { z with L := heldL z.L now, taken := (takeZ z.taken z.down z.till (bestL (heldL z.L now)) now).1, down := (takeZ z.taken z.down z.till (bestL (heldL z.L now)) now).2.1, till := (takeZ z.taken z.down z.till (bestL (heldL z.L now)) now).2.2 } := by
  unfold tickZ
  rw [if_neg (by simpa using hm)]
/-- What a node is stays so. -/
theorem offer_kind (z : ZtT) (link level : Int) (none : Bool) (now : Int) : (offerZ z link level none now).2.fixed = z.fixed ∧ (offerZ z link level none now).2.leaf = z.leaf ∧ (offerZ z link level none now).2.top = z.top := by
  unfold offerZ
  split
  · exact ⟨rfl, rfl, rfl⟩
  · split
    · exact ⟨rfl, rfl, rfl⟩
    · split <;> exact ⟨rfl, rfl, rfl⟩
theorem tick_kind (z : ZtT) (now : Int) : (tickZ z now).2.fixed = z.fixed ∧ (tickZ z now).2.leaf = z.leaf ∧ (tickZ z now).2.top = z.top := by
  unfold tickZ
  split <;> exact ⟨rfl, rfl, rfl⟩
theorem quiet_own {z : ZtT} (h : ownZ z = false) (link : Int) : quietZ z link = false := by
  unfold quietZ
  split
  · rw [h]; rfl
  · rfl
theorem level_kind {z y : ZtT} (h1 : y.fixed = z.fixed) (h2 : y.leaf = z.leaf) (h3 : y.top = z.top) (h : ownZ z = false) : levelZ y = levelZ z ∧ ownZ y = false := by
  unfold ownZ levelZ at *
  rw [h1, h2, h3]
  refine ⟨?_, h⟩
  by_cases f : 0 ≤ z.fixed
  · rw [if_pos f, if_pos f]
  · rw [if_neg f, if_neg f]
    have hf : decide (z.fixed < 0) = true := decide_eq_true (by omega)
    rw [hf] at h
    cases ht : z.top
    · cases hl : z.leaf
      · rw [ht, hl] at h; cases h
      · rfl
    · rfl
/-! ZtpNone. -/
theorem none_offer (link level : Int) (none : Bool) (now : Int) (h : level < 1 ∨ none = true) : (offerZ newN link level none now).2 = newN := by
  unfold offerZ
  split
  · rfl
  · simp [newN, newZ, restZ]
theorem none_tick (now : Int) : (tickZ newN now).2 = newN := by
  unfold tickZ
  split
  · rfl
  · simp [newN, newZ, heldL, bestL, takeZ, take1, take2]
theorem takeZ_up {taken till best now : Int} (h : taken < best) : takeZ taken false till best now = (best, false, till) := by
  unfold takeZ take1
  rw [if_pos ⟨h, rfl⟩]
  unfold take2
  rw [if_neg (fun q => by cases q.1)]
theorem takeZ_fall {taken till best now : Int} {down : Bool} (h : best < taken) : takeZ taken down till best now = (0, true, now + 3) := by
  unfold takeZ take1
  rw [if_neg (fun q => by have := q.1; omega), if_pos h]
  unfold take2
  rw [if_neg (fun q => by have := q.2; simp only at this; omega)]
theorem takeZ_same {taken till now : Int} : takeZ taken false till taken now = (taken, false, till) := by
  unfold takeZ take1
  rw [if_neg (fun q => by have := q.1; omega), if_neg (by omega)]
  unfold take2
  rw [if_neg (fun q => by cases q.1)]
theorem takeZ_down {taken till best now : Int} (h : taken ≤ best) (hn : now < till) : takeZ taken true till best now = (taken, true, till) := by
  unfold takeZ take1
  rw [if_neg (fun q => by cases q.2), if_neg (by omega)]
  unfold take2
  rw [if_neg (fun q => by have := q.2; simp only at this; omega)]
theorem takeZ_end {taken till best now : Int} (h : taken ≤ best) (hn : till ≤ now) : takeZ taken true till best now = (best, false, till) := by
  unfold takeZ take1
  rw [if_neg (fun q => by cases q.2), if_neg (by omega)]
  unfold take2
  rw [if_pos ⟨rfl, hn⟩]
/-! ZtpHolds. -/
section
variable {high low : Int}
def holdZ (low n : Int) : ZtT := ⟨-1, false, false, [⟨2, low, n + 4⟩], 0, true, 14⟩
theorem best2 {a b x y z w : Int} (h : 1 ≤ b ∧ b < a) : bestL [⟨x, a, y⟩, ⟨z, b, w⟩] = a := by
  simp only [bestL, List.foldl_cons, List.foldl_nil, bestF]; omega
theorem best2' {a b x y z w : Int} (h : 1 ≤ a ∧ a < b) : bestL [⟨x, a, y⟩, ⟨z, b, w⟩] = b := by
  simp only [bestL, List.foldl_cons, List.foldl_nil, bestF]; omega
theorem best1 {a x y : Int} (h : 1 ≤ a) : bestL [⟨x, a, y⟩] = a := by
  simp only [bestL, List.foldl_cons, List.foldl_nil, bestF]; omega
theorem holds1 (h : 1 ≤ low ∧ low < high ∧ high ≤ 24) : (tickZ (offerZ (offerZ newN 1 high false 10).2 2 low false 10).2 10).2 = ⟨-1, false, false, [⟨1, high, 14⟩, ⟨2, low, 14⟩], high, false, 0⟩ := by
  rw [offer_put newN (link := 1) (level := high) (now := 10) (by unfold offArg momB; omega) (by omega) (by simp [newN, newZ, restZ])]
  rw [offer_put _ (link := 2) (level := low) (now := 10) (by unfold offArg momB; omega) (by omega) (by simp [newN, newZ, restZ])]
  rw [tick_is _ (by unfold momB; omega)]
  have e : heldL (restZ (restZ newN.L 1 ++ [⟨1, high, 10 + 4⟩]) 2 ++ [⟨2, low, 10 + 4⟩]) 10 = [⟨1, high, 14⟩, ⟨2, low, 14⟩] := by simp [newN, newZ, restZ, heldL]
  simp only [e, best2 (show 1 ≤ low ∧ low < high from ⟨h.1, h.2.1⟩)]
  simp only [newN, newZ]
  rw [takeZ_up (by omega)]
theorem holds2 (h : 1 ≤ low ∧ low < high ∧ high ≤ 24) : (offerZ ⟨-1, false, false, [⟨1, high, 14⟩, ⟨2, low, 14⟩], high, false, 0⟩ 1 high true 11).2 = ⟨-1, false, false, [⟨2, low, 14⟩], high, false, 0⟩ := by
  rw [offer_drop _ (by unfold offArg momB; omega) (.inr rfl)]
  simp [restZ]
theorem holds3 (h : 1 ≤ low ∧ low < high ∧ high ≤ 24) : (tickZ (offerZ ⟨-1, false, false, [⟨2, low, 14⟩], high, false, 0⟩ 2 low false 11).2 11).2 = holdZ low 11 := by
  rw [offer_put _ (link := 2) (level := low) (now := 11) (by unfold offArg momB; omega) (by omega) (by simp [restZ])]
  rw [tick_is _ (by unfold momB; omega)]
  have e : heldL (restZ [⟨2, low, 14⟩] 2 ++ [⟨2, low, 11 + 4⟩]) 11 = [⟨2, low, 15⟩] := by simp [restZ, heldL]
  simp only [e, best1 h.1]
  rw [takeZ_fall h.2.1]
  simp [holdZ]
theorem holds4 (h : 1 ≤ low ∧ low < high ∧ high ≤ 24) (n : Int) (hn : 11 ≤ n ∧ n ≤ 12) : (tickZ (offerZ (holdZ low n) 2 low false (n + 1)).2 (n + 1)).2 = holdZ low (n + 1) := by
  rw [offer_put _ (link := 2) (level := low) (now := n + 1) (by unfold offArg momB; omega) (by omega) (by simp [restZ, holdZ])]
  rw [tick_is _ (by unfold momB; omega)]
  have e : heldL (restZ (holdZ low n).L 2 ++ [⟨2, low, n + 1 + 4⟩]) (n + 1) = [⟨2, low, n + 1 + 4⟩] := by simp [restZ, heldL, holdZ]; omega
  simp only [e, best1 h.1]
  simp only [holdZ]
  rw [takeZ_down (by omega) (by omega)]
theorem holds5 (h : 1 ≤ low ∧ low < high ∧ high ≤ 24) : (tickZ (offerZ (holdZ low 13) 2 low false 14).2 14).2 = ⟨-1, false, false, [⟨2, low, 18⟩], low, false, 14⟩ := by
  rw [offer_put _ (link := 2) (level := low) (now := 14) (by unfold offArg momB; omega) (by omega) (by simp [restZ, holdZ])]
  rw [tick_is _ (by unfold momB; omega)]
  have e : heldL (restZ (holdZ low 13).L 2 ++ [⟨2, low, 14 + 4⟩]) 14 = [⟨2, low, 18⟩] := by simp [restZ, heldL, holdZ]
  simp only [e, best1 h.1]
  simp only [holdZ]
  rw [takeZ_end (by omega) (by omega)]
end
/-! ZtpHigher. -/
section
variable {high low now : Int}
theorem higher1 (h : 1 ≤ low ∧ low < high ∧ high ≤ 24) (hn : 0 ≤ now ∧ now ≤ 549755813888) : (tickZ (offerZ newN 1 low false now).2 now).2 = ⟨-1, false, false, [⟨1, low, now + 4⟩], low, false, 0⟩ := by
  rw [offer_put newN (link := 1) (level := low) (now := now) (by unfold offArg momB; omega) (by omega) (by simp [newN, newZ, restZ])]
  rw [tick_is _ (by unfold momB; omega)]
  have e : heldL (restZ newN.L 1 ++ [⟨1, low, now + 4⟩]) now = [⟨1, low, now + 4⟩] := by simp [newN, newZ, restZ, heldL]; omega
  simp only [e, best1 h.1]
  simp only [newN, newZ]
  rw [takeZ_up (by omega)]
theorem higher2 (h : 1 ≤ low ∧ low < high ∧ high ≤ 24) (hn : 0 ≤ now ∧ now ≤ 549755813888) : (tickZ (offerZ ⟨-1, false, false, [⟨1, low, now + 4⟩], low, false, 0⟩ 2 high false now).2 (now + 1)).2 = ⟨-1, false, false, [⟨1, low, now + 4⟩, ⟨2, high, now + 4⟩], high, false, 0⟩ := by
  rw [offer_put _ (link := 2) (level := high) (now := now) (by unfold offArg momB; omega) (by omega) (by simp [restZ])]
  rw [tick_is _ (by unfold momB; omega)]
  have e : heldL (restZ [⟨1, low, now + 4⟩] 2 ++ [⟨2, high, now + 4⟩]) (now + 1) = [⟨1, low, now + 4⟩, ⟨2, high, now + 4⟩] := by simp [restZ, heldL]; try omega
  simp only [e, best2' (show 1 ≤ low ∧ low < high from ⟨h.1, h.2.1⟩)]
  rw [takeZ_up h.2.1]
theorem higher3 (h : 1 ≤ low ∧ low < high ∧ high ≤ 24) (hn : 0 ≤ now ∧ now ≤ 549755813888) : (tickZ (offerZ ⟨-1, false, false, [⟨1, low, now + 4⟩, ⟨2, high, now + 4⟩], high, false, 0⟩ 3 low false (now + 1)).2 (now + 2)).2 = ⟨-1, false, false, [⟨1, low, now + 4⟩, ⟨2, high, now + 4⟩, ⟨3, low, now + 5⟩], high, false, 0⟩ := by
  rw [offer_put _ (link := 3) (level := low) (now := now + 1) (by unfold offArg momB; omega) (by omega) (by simp [restZ])]
  rw [tick_is _ (by unfold momB; omega)]
  have e : heldL (restZ [⟨1, low, now + 4⟩, ⟨2, high, now + 4⟩] 3 ++ [⟨3, low, now + 1 + 4⟩]) (now + 2) = [⟨1, low, now + 4⟩, ⟨2, high, now + 4⟩, ⟨3, low, now + 5⟩] := by
    have : now + 1 + 4 = now + 5 := by omega
    rw [this]
    simp [restZ, heldL]; try omega
  have eb : bestL [⟨1, low, now + 4⟩, ⟨2, high, now + 4⟩, ⟨3, low, now + 5⟩] = high := by
    simp only [bestL, List.foldl_cons, List.foldl_nil, bestF]; omega
  simp only [e, eb]
  rw [takeZ_same]
end
end Go.Proofs.Ytfdoldefdkijoaa
