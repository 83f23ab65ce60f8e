/-
  A NODE'S LEVEL as data: offers, what a node does with them (the document's lists).
-/
import Derived.WalkKit
namespace Go.Proofs.Ytfdoldefdkijoaa
set_option linter.unusedSimpArgs false
set_option linter.unusedVariables false
structure OffT where
  link : Int
  level : Int
  till : Int
structure ZtT where
  fixed : Int
  leaf : Bool
  top : Bool
  L : List OffT
  taken : Int
  down : Bool
  till : Int
def momB (n : Int) : Prop := 0 ≤ n ∧ n ≤ 1099511627776
instance (n : Int) : Decidable (momB n) := by unfold momB; infer_instance
def kindB (fixed : Int) (leaf top : Bool) : Prop := -1 ≤ fixed ∧ fixed ≤ 24 ∧ (0 ≤ fixed → leaf = false ∧ top = false) ∧ (leaf = true → top = false)
instance (f : Int) (a b : Bool) : Decidable (kindB f a b) := by unfold kindB; infer_instance
def newZ (fixed : Int) (leaf top : Bool) : ZtT := ⟨fixed, leaf, top, [], 0, false, 0⟩
def restZ (L : List OffT) (link : Int) : List OffT := L.filter fun o => decide (o.link ≠ link)
def offArg (link level now : Int) : Prop := 0 ≤ link ∧ link ≤ 65535 ∧ -1 ≤ level ∧ level ≤ 24 ∧ momB now
instance (a b c : Int) : Decidable (offArg a b c) := by unfold offArg; infer_instance
def offerZ (z : ZtT) (link level : Int) (none : Bool) (now : Int) : Int × ZtT :=
  if ¬ offArg link level now then (1, z)
  else if level < 1 ∨ none = true then (0, { z with L := restZ z.L link })
  else if 64 ≤ (restZ z.L link).length then (3, z)
  else (0, { z with L := restZ z.L link ++ [⟨link, level, now + 4⟩] })
def bestF (n : Int) (o : OffT) : Int := max n o.level
def bestL (L : List OffT) : Int := L.foldl bestF 0
def heldL (L : List OffT) (now : Int) : List OffT := L.filter fun o => decide (now < o.till)
def take1 (taken : Int) (down : Bool) (till best now : Int) : Int × Bool × Int := if taken < best ∧ down = false then (best, down, till) else if best < taken then (0, true, now + 3) else (taken, down, till)
def take2 (best now : Int) (a : Int × Bool × Int) : Int × Bool × Int := if a.2.1 = true ∧ a.2.2 ≤ now then (best, false, a.2.2) else a
/-- What is taken, held down, until when: behind a tick with that best. -/
def takeZ (taken : Int) (down : Bool) (till best now : Int) : Int × Bool × Int := take2 best now (take1 taken down till best now)
def tickZ (z : ZtT) (now : Int) : Int × ZtT :=
  if ¬ momB now then (1, z)
  else (0, { z with L := heldL z.L now, taken := (takeZ z.taken z.down z.till (bestL (heldL z.L now)) now).1, down := (takeZ z.taken z.down z.till (bestL (heldL z.L now)) now).2.1, till := (takeZ z.taken z.down z.till (bestL (heldL z.L now)) now).2.2 })
def ownZ (z : ZtT) : Bool := decide (z.fixed < 0) && !z.leaf && !z.top
def levelZ (z : ZtT) : Int := if 0 ≤ z.fixed then z.fixed else if z.top = true then 24 else if z.leaf = true then 0 else z.taken - 1
def findL (L : List OffT) (link : Int) : Option OffT := L.find? fun o => decide (o.link = link)
def quietZ (z : ZtT) (link : Int) : Bool := match findL z.L link with
  | some o => ownZ z && decide (o.level = z.taken)
  | none => false
/-- What holds of a node: its offers' links are unlike, each is above 0; what is taken is in its bounds. -/
structure InvZ (z : ZtT) : Prop where
  nd : (z.L.map OffT.link).Nodup
  lv : ∀ o ∈ z.L, 1 ≤ o.level ∧ o.level ≤ 24 ∧ 0 ≤ o.link ∧ o.link ≤ 65535 ∧ 4 ≤ o.till ∧ o.till ≤ 1099511627780
  tk : 0 ≤ z.taken ∧ z.taken ≤ 24
  len : z.L.length ≤ 64
  till : 0 ≤ z.till ∧ z.till ≤ 1099511627779
  kind : kindB z.fixed z.leaf z.top
theorem foldl_ge : ∀ (L : List OffT) (n : Int), n ≤ L.foldl bestF n
  | [], n => Int.le_refl n
  | o :: L, n => by
    have := foldl_ge L (bestF n o)
    rw [List.foldl_cons]
    unfold bestF at this ⊢
    omega
theorem foldl_all : ∀ (L : List OffT) (n : Int), ∀ o ∈ L, o.level ≤ L.foldl bestF n
  | [], n, o, h => by cases h
  | x :: L, n, o, h => by
    rw [List.foldl_cons]
    rcases List.mem_cons.1 h with rfl | h
    · have := foldl_ge L (bestF n o)
      have h2 : o.level ≤ bestF n o := by unfold bestF; omega
      omega
    · exact foldl_all L _ o h
theorem foldl_in : ∀ (L : List OffT) (n : Int), L.foldl bestF n = n ∨ ∃ o ∈ L, o.level = L.foldl bestF n
  | [], n => .inl rfl
  | x :: L, n => by
    rw [List.foldl_cons]
    rcases foldl_in L (bestF n x) with h | ⟨o, ho, h⟩
    · rw [h]
      by_cases q : x.level ≤ n
      · left; unfold bestF; omega
      · right; exact ⟨x, by simp, by unfold bestF; omega⟩
    · exact .inr ⟨o, by simp [ho], h⟩
theorem best_ge0 (L : List OffT) : 0 ≤ bestL L := foldl_ge L 0
theorem best_all {L : List OffT} {o : OffT} (h : o ∈ L) : o.level ≤ bestL L := foldl_all L 0 o h
theorem best_in (L : List OffT) : bestL L = 0 ∨ ∃ o ∈ L, o.level = bestL L := foldl_in L 0
/-- The best is what is above all, and is there. -/
theorem best_eq {L : List OffT} {m : Int} (h0 : 0 ≤ m) (h1 : ∀ o ∈ L, o.level ≤ m) (h2 : m = 0 ∨ ∃ o ∈ L, o.level = m) : bestL L = m := by
  have a := best_ge0 L
  rcases best_in L with h | ⟨o, ho, h⟩
  · rcases h2 with h2 | ⟨x, hx, h2⟩
    · omega
    · have := best_all hx; omega
  · have b := h1 o ho
    rcases h2 with h2 | ⟨x, hx, h2⟩
    · omega
    · have := best_all hx; omega
theorem best_le {L : List OffT} {m : Int} (h0 : 0 ≤ m) (h1 : ∀ o ∈ L, o.level ≤ m) : bestL L ≤ m := by
  rcases best_in L with h | ⟨o, ho, h⟩
  · omega
  · have := h1 o ho; omega
theorem rest_mem {L : List OffT} {link : Int} {o : OffT} : o ∈ restZ L link ↔ o ∈ L ∧ o.link ≠ link := by unfold restZ; simp
theorem held_mem {L : List OffT} {now : Int} {o : OffT} : o ∈ heldL L now ↔ o ∈ L ∧ now < o.till := by unfold heldL; simp
theorem nd_filter {L : List OffT} (f : OffT → Bool) (h : (L.map OffT.link).Nodup) : ((L.filter f).map OffT.link).Nodup := h.sublist (List.Sublist.map _ List.filter_sublist)
theorem rest_len (L : List OffT) (link : Int) : (restZ L link).length ≤ L.length := List.length_filter_le _ _
theorem newZ_inv {f : Int} {a b : Bool} (h : kindB f a b) : InvZ (newZ f a b) := ⟨List.nodup_nil, by simp [newZ], by simp [newZ], by simp [newZ], by simp [newZ], h⟩
theorem offerZ_inv {z : ZtT} (h : InvZ z) (link level : Int) (none : Bool) (now : Int) : InvZ (offerZ z link level none now).2 := by
  unfold offerZ
  split
  · exact h
  · rename_i ha
    have ha : offArg link level now := by simpa using ha
    unfold offArg momB at ha
    split
    · exact ⟨nd_filter _ h.nd, fun o ho => h.lv o (rest_mem.1 ho).1, h.tk, Nat.le_trans (rest_len _ _) h.len, h.till, h.kind⟩
    · rename_i hl
      have hl : 1 ≤ level := by have : ¬ level < 1 := fun q => hl (.inl q); omega
      split
      · exact h
      · rename_i h6
        refine ⟨?_, fun o ho => ?_, h.tk, by simp; omega, h.till, h.kind⟩
        · rw [List.map_append, List.nodup_append]
          refine ⟨nd_filter _ h.nd, by simp, fun x hx y hy => ?_⟩
          obtain ⟨o, ho, rfl⟩ := List.mem_map.1 hx
          simp at hy
          subst hy
          exact (rest_mem.1 ho).2
        · rcases List.mem_append.1 ho with ho | ho
          · exact h.lv o (rest_mem.1 ho).1
          · simp at ho
            subst ho
            simp only
            omega
theorem takeZ_in {taken : Int} {down : Bool} {till best now : Int} (h1 : 0 ≤ taken ∧ taken ≤ 24) (h2 : 0 ≤ best ∧ best ≤ 24) (h3 : 0 ≤ till ∧ till ≤ 1099511627779) (h4 : momB now) : (0 ≤ (takeZ taken down till best now).1 ∧ (takeZ taken down till best now).1 ≤ 24) ∧ 0 ≤ (takeZ taken down till best now).2.2 ∧ (takeZ taken down till best now).2.2 ≤ 1099511627779 := by
  unfold momB at h4
  unfold takeZ take2 take1
  repeat' split
  all_goals (try simp only [])
  all_goals omega
theorem tickZ_inv {z : ZtT} (h : InvZ z) (now : Int) : InvZ (tickZ z now).2 := by
  unfold tickZ
  split
  · exact h
  · rename_i hm
    have hm : momB now := by simpa using hm
    have hb : 0 ≤ bestL (heldL z.L now) ∧ bestL (heldL z.L now) ≤ 24 := ⟨best_ge0 _, best_le (by omega) fun o ho => (h.lv o (held_mem.1 ho).1).2.1⟩
    have q := takeZ_in (down := z.down) h.tk hb h.till hm
    exact ⟨nd_filter _ h.nd, fun o ho => h.lv o (held_mem.1 ho).1, q.1, Nat.le_trans (List.length_filter_le _ _) h.len, q.2, h.kind⟩
end Go.Proofs.Ytfdoldefdkijoaa
