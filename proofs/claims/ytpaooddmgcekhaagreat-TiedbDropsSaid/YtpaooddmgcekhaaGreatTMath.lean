/-
  IDS AND HEADS as data: the order of ids, what is newer, what is behind an id, lists of heads as one.
-/
import Derived.WalkKit
namespace Go.Proofs.YtpaooddmgcekhaaGreat.ti
set_option linter.unusedSimpArgs false
set_option linter.unusedVariables false
structure TId where
  d : Int
  o : Int
  k : Int
  n : Int
structure THd where
  id : TId
  seq : Int
  life : Int
theorem TId.ext {a b : TId} (h1 : a.d = b.d) (h2 : a.o = b.o) (h3 : a.k = b.k) (h4 : a.n = b.n) : a = b := by cases a; cases b; simp_all
theorem TId.ext_iff {a b : TId} : a = b ↔ a.d = b.d ∧ a.o = b.o ∧ a.k = b.k ∧ a.n = b.n := ⟨fun h => by subst h; exact ⟨rfl, rfl, rfl, rfl⟩, fun h => TId.ext h.1 h.2.1 h.2.2.1 h.2.2.2⟩
instance : DecidableEq TId := fun a b => decidable_of_iff (a.d = b.d ∧ a.o = b.o ∧ a.k = b.k ∧ a.n = b.n) TId.ext_iff.symm
/-- Which of two is less. -/
def numT (a b : Int) : Int := if a < b then -1 else if b < a then 1 else 0
def cmpT (a b : TId) : Int := if a.d ≠ b.d then numT a.d b.d else if a.o ≠ b.o then numT a.o b.o else if a.k ≠ b.k then numT a.k b.k else numT a.n b.n
def lexT (a b : TId) : Prop := a.d < b.d ∨ a.d = b.d ∧ (a.o < b.o ∨ a.o = b.o ∧ (a.k < b.k ∨ a.k = b.k ∧ a.n < b.n))
instance (a b : TId) : Decidable (lexT a b) := by unfold lexT; infer_instance
theorem num_lex {a b : TId} {x y : Int} (e1 : lexT a b ↔ x < y) (e2 : lexT b a ↔ y < x) : numT x y = if lexT a b then -1 else if lexT b a then 1 else 0 := by
  unfold numT
  by_cases h : x < y
  · rw [if_pos h, if_pos (e1.2 h)]
  · rw [if_neg h, if_neg (fun q => h (e1.1 q))]
    by_cases k : y < x
    · rw [if_pos k, if_pos (e2.2 k)]
    · rw [if_neg k, if_neg (fun q => k (e2.1 q))]
theorem cmp_lex (a b : TId) : cmpT a b = if lexT a b then -1 else if lexT b a then 1 else 0 := by
  unfold cmpT
  by_cases h1 : a.d = b.d
  · rw [if_neg (by simpa using h1)]
    by_cases h2 : a.o = b.o
    · rw [if_neg (by simpa using h2)]
      by_cases h3 : a.k = b.k
      · rw [if_neg (by simpa using h3)]
        exact num_lex (by unfold lexT; omega) (by unfold lexT; omega)
      · rw [if_pos h3]
        exact num_lex (by unfold lexT; omega) (by unfold lexT; omega)
    · rw [if_pos h2]
      exact num_lex (by unfold lexT; omega) (by unfold lexT; omega)
  · rw [if_pos h1]
    exact num_lex (by unfold lexT; omega) (by unfold lexT; omega)
theorem lex_irr (a : TId) : ¬ lexT a a := by unfold lexT; omega
theorem lex_tr {a b c : TId} (h : lexT a b) (k : lexT b c) : lexT a c := by unfold lexT at *; omega
theorem lex_tot (a b : TId) : lexT a b ∨ a = b ∨ lexT b a := by rw [TId.ext_iff]; unfold lexT; omega
theorem lex_asym {a b : TId} (h : lexT a b) : ¬ lexT b a := fun k => lex_irr a (lex_tr h k)
theorem cmp_neg {a b : TId} : cmpT a b < 0 ↔ lexT a b := by
  rw [cmp_lex]
  by_cases h : lexT a b
  · simp [h]
  · by_cases k : lexT b a <;> simp [h, k]
theorem cmp_pos {a b : TId} : 0 < cmpT a b ↔ lexT b a := by
  rw [cmp_lex]
  by_cases h : lexT a b
  · simp [h, lex_asym h]
  · by_cases k : lexT b a <;> simp [h, k]
theorem cmp_zero {a b : TId} : cmpT a b = 0 ↔ a = b := by
  rw [cmp_lex]
  rcases lex_tot a b with h | h | h
  · simp [h]; rintro rfl; exact lex_irr _ h
  · subst h; simp [lex_irr]
  · simp [h, lex_asym h]; rintro rfl; exact lex_irr _ h
theorem cmp_turn (a b : TId) : cmpT a b = -cmpT b a := by
  rw [cmp_lex, cmp_lex]
  rcases lex_tot a b with h | h | h
  · simp [h, lex_asym h]
  · subst h; simp [lex_irr]
  · simp [h, lex_asym h]
theorem cmp_range (a b : TId) : -1 ≤ cmpT a b ∧ cmpT a b ≤ 1 := by rw [cmp_lex]; split; omega; split <;> omega
/-- A life far above another one. -/
def farT (a b : Int) : Prop := b + 300 < a
instance (a b : Int) : Decidable (farT a b) := by unfold farT; infer_instance
def newT (a b : THd) : Int := if a.seq ≠ b.seq then numT a.seq b.seq else if farT a.life b.life then 1 else if farT b.life a.life then -1 else 0
theorem new_eq {a b : THd} (h : a.seq = b.seq) : newT a b = if farT a.life b.life then 1 else if farT b.life a.life then -1 else 0 := by
  unfold newT
  rw [if_neg (fun q => q h)]
theorem new_ne {a b : THd} (h : a.seq ≠ b.seq) : newT a b = numT a.seq b.seq := by
  unfold newT
  rw [if_pos h]
theorem new_turn (a b : THd) : newT a b = -newT b a := by
  by_cases h : a.seq = b.seq
  · rw [new_eq h, new_eq h.symm]
    by_cases f : farT a.life b.life
    · rw [if_pos f, if_neg (by unfold farT at *; omega), if_pos f]; rfl
    · by_cases g : farT b.life a.life
      · rw [if_neg f, if_pos g, if_pos g]
      · rw [if_neg f, if_neg g, if_neg g, if_neg f]; rfl
  · rw [new_ne h, new_ne (fun q => h q.symm)]
    unfold numT
    by_cases f : a.seq < b.seq
    · rw [if_pos f, if_neg (by omega), if_pos f]
    · rw [if_neg f, if_pos (by omega), if_pos (by omega)]; rfl
theorem new_self (a : THd) : newT a a = 0 := by
  unfold newT
  rw [if_neg (by simp), if_neg (by unfold farT; omega), if_neg (by unfold farT; omega)]
theorem new_seq {a b : THd} (h : b.seq < a.seq) : newT a b = 1 := by
  unfold newT numT
  rw [if_pos (by omega), if_neg (by omega), if_pos h]
theorem new_pos_seq {a b : THd} (h : 0 < newT a b) : b.seq ≤ a.seq := by
  unfold newT numT at h
  split at h
  · split at h
    · omega
    · split at h <;> omega
  · rename_i q; simp at q; omega
theorem new_not_seq {a b : THd} (h : ¬ 0 < newT a b) : a.seq ≤ b.seq := by
  by_cases q : b.seq < a.seq
  · rw [new_seq q] at h; omega
  · omega
/-! Ids that may be; what is behind one. -/
def rightT (x : TId) : Prop := 1 ≤ x.d ∧ x.d ≤ 2 ∧ 1 ≤ x.o ∧ x.o ≤ 1000 ∧ 1 ≤ x.k ∧ x.k ≤ 4 ∧ 0 ≤ x.n ∧ x.n ≤ 65535
instance (x : TId) : Decidable (rightT x) := by unfold rightT; infer_instance
def zeroT : TId := ⟨0, 0, 0, 0⟩
def firstT : TId := ⟨1, 1, 1, 0⟩
def lastT : TId := ⟨2, 1000, 4, 65535⟩
def afterT (x : TId) : TId × Bool :=
  if ¬ rightT x then (zeroT, false)
  else if x.n < 65535 then (⟨x.d, x.o, x.k, x.n + 1⟩, true)
  else if x.k < 4 then (⟨x.d, x.o, x.k + 1, 0⟩, true)
  else if x.o < 1000 then (⟨x.d, x.o + 1, 1, 0⟩, true)
  else if x.d < 2 then (⟨x.d + 1, 1, 1, 0⟩, true)
  else (zeroT, false)
theorem after_is {x : TId} (h : rightT x) (hl : x ≠ lastT) : (afterT x).2 = true ∧ lexT x (afterT x).1 ∧ rightT (afterT x).1 ∧ ∀ b, lexT x b → lexT b (afterT x).1 → ¬ rightT b := by
  have hl : ¬ (x.d = 2 ∧ x.o = 1000 ∧ x.k = 4 ∧ x.n = 65535) := fun q => hl (TId.ext q.1 q.2.1 q.2.2.1 q.2.2.2)
  unfold afterT
  rw [if_neg (by simpa using h)]
  by_cases c1 : x.n < 65535
  · rw [if_pos c1]
    exact ⟨rfl, by unfold lexT; dsimp only; omega, by unfold rightT at *; dsimp only; omega, fun b h1 h2 h3 => by unfold rightT at *; unfold lexT at *; dsimp only at *; omega⟩
  · rw [if_neg c1]
    by_cases c2 : x.k < 4
    · rw [if_pos c2]
      exact ⟨rfl, by unfold lexT; dsimp only; omega, by unfold rightT at *; dsimp only; omega, fun b h1 h2 h3 => by unfold rightT at *; unfold lexT at *; dsimp only at *; omega⟩
    · rw [if_neg c2]
      by_cases c3 : x.o < 1000
      · rw [if_pos c3]
        exact ⟨rfl, by unfold lexT; dsimp only; omega, by unfold rightT at *; dsimp only; omega, fun b h1 h2 h3 => by unfold rightT at *; unfold lexT at *; dsimp only at *; omega⟩
      · rw [if_neg c3]
        by_cases c4 : x.d < 2
        · rw [if_pos c4]
          exact ⟨rfl, by unfold lexT; dsimp only; omega, by unfold rightT at *; dsimp only; omega, fun b h1 h2 h3 => by unfold rightT at *; unfold lexT at *; dsimp only at *; omega⟩
        · exfalso
          unfold rightT at h
          omega
theorem after_not {x : TId} (h : (afterT x).2 = false) : (afterT x).1 = zeroT ∧ (x = lastT ∨ ¬ rightT x) := by
  by_cases hr : rightT x
  · by_cases hl : x = lastT
    · subst hl; exact ⟨rfl, .inl rfl⟩
    · rw [(after_is hr hl).1] at h; cases h
  · unfold afterT
    rw [if_pos hr]
    exact ⟨rfl, .inr hr⟩
theorem after_last : afterT lastT = (zeroT, false) := rfl
theorem after_yes {x : TId} (h : (afterT x).2 = true) : rightT x ∧ x ≠ lastT := by
  constructor
  · by_cases hr : rightT x
    · exact hr
    · unfold afterT at h; rw [if_pos hr] at h; cases h
  · rintro rfl
    rw [after_last] at h; cases h
theorem right_span {x : TId} (h : rightT x) : ¬ lexT x firstT ∧ ¬ lexT lastT x := by
  unfold rightT at h
  unfold lexT firstT lastT
  simp only []
  omega
/-! Lists of heads as one. -/
def insT : List THd → THd → List THd
  | [], h => [h]
  | x :: r, h => if lexT x.id h.id then x :: insT r h else if x.id = h.id then (if 0 < newT h x then h :: r else x :: r) else h :: x :: r
def mergeT (l m : List THd) : List THd := (l ++ m).foldl insT []
def AscT (l : List THd) : Prop := l.Pairwise fun a b => lexT a.id b.id
theorem ins_mem {l : List THd} {h x : THd} (hx : x ∈ insT l h) : x = h ∨ x ∈ l := by
  induction l with
  | nil => simp [insT] at hx; exact .inl hx
  | cons y r ih =>
    unfold insT at hx
    split at hx
    · rcases List.mem_cons.1 hx with rfl | hx
      · exact .inr (by simp)
      · rcases ih hx with e | e
        · exact .inl e
        · exact .inr (List.mem_cons_of_mem _ e)
    · split at hx
      · split at hx
        · rcases List.mem_cons.1 hx with rfl | hx
          · exact .inl rfl
          · exact .inr (List.mem_cons_of_mem _ hx)
        · exact .inr hx
      · rcases List.mem_cons.1 hx with rfl | hx
        · exact .inl rfl
        · exact .inr hx
theorem ins_ids {l : List THd} {h : THd} {i : TId} (P : ∀ x ∈ l, lexT i x.id) (hi : lexT i h.id) : ∀ x ∈ insT l h, lexT i x.id := fun x hx => by
  rcases ins_mem hx with rfl | hx
  · exact hi
  · exact P x hx
theorem ins_asc {l : List THd} (h : AscT l) (x : THd) : AscT (insT l x) := by
  induction l with
  | nil => simp [insT, AscT]
  | cons y r ih =>
    obtain ⟨h1, h2⟩ := List.pairwise_cons.1 h
    unfold insT
    split
    · rename_i hl
      exact List.pairwise_cons.2 ⟨fun z hz => by rcases ins_mem hz with rfl | hz; exact hl; exact h1 z hz, ih h2⟩
    · rename_i hl
      split
      · rename_i he
        split
        · exact List.pairwise_cons.2 ⟨fun z hz => by rw [← he]; exact h1 z hz, h2⟩
        · exact h
      · rename_i he
        have hxy : lexT x.id y.id := by rcases lex_tot y.id x.id with q | q | q; exact absurd q hl; exact absurd q he; exact q
        exact List.pairwise_cons.2 ⟨fun z hz => by rcases List.mem_cons.1 hz with rfl | hz; exact hxy; exact lex_tr hxy (h1 z hz), h⟩
theorem fold_asc (m : List THd) : ∀ {l : List THd}, AscT l → AscT (m.foldl insT l) := by
  induction m with
  | nil => intro l h; exact h
  | cons x m ih => intro l h; exact ih (ins_asc h x)
theorem merge_asc (l m : List THd) : AscT (mergeT l m) := fold_asc _ List.Pairwise.nil
/-- What is behind all is laid at the end. -/
theorem ins_end {l : List THd} {x : THd} (h : ∀ y ∈ l, lexT y.id x.id) : insT l x = l ++ [x] := by
  induction l with
  | nil => rfl
  | cons y r ih =>
    unfold insT
    rw [if_pos (h y (by simp)), ih (fun z hz => h z (by simp [hz]))]
    rfl
theorem fold_end (m : List THd) : ∀ {l : List THd}, AscT (l ++ m) → m.foldl insT l = l ++ m := by
  induction m with
  | nil => intro l _; simp
  | cons x m ih =>
    intro l h
    rw [List.foldl_cons, ins_end (fun y hy => (List.pairwise_append.1 h).2.2 y hy x (by simp))]
    have := ih (l := l ++ [x]) (by simpa using h)
    rw [this]
    simp
theorem merge_none {l : List THd} (h : AscT l) : mergeT [] l = l := by
  unfold mergeT
  rw [List.nil_append]
  exact (fold_end l (l := []) (by simpa using h)).trans (List.nil_append _)
/-- What is there is not laid anew. -/
theorem ins_same {l : List THd} (h : AscT l) {x : THd} (hx : x ∈ l) : insT l x = l := by
  induction l with
  | nil => cases hx
  | cons y r ih =>
    obtain ⟨h1, h2⟩ := List.pairwise_cons.1 h
    unfold insT
    rcases List.mem_cons.1 hx with rfl | hx
    · rw [if_neg (lex_irr _), if_pos rfl, if_neg (by rw [new_self]; omega)]
    · rw [if_pos (h1 x hx), ih h2 hx]
theorem fold_same {l : List THd} (h : AscT l) (m : List THd) (hm : ∀ x ∈ m, x ∈ l) : m.foldl insT l = l := by
  induction m with
  | nil => rfl
  | cons x m ih =>
    rw [List.foldl_cons, ins_same h (hm x (by simp))]
    exact ih fun y hy => hm y (by simp [hy])
theorem merge_self {l : List THd} (h : AscT l) : mergeT l l = l := by
  unfold mergeT
  rw [List.foldl_append]
  have e : l.foldl insT [] = l := (fold_end l (l := []) (by simpa using h)).trans (List.nil_append _)
  rw [e]
  exact fold_same h l fun _ hx => hx
theorem ins_has (l : List THd) (x : THd) : ∃ y ∈ insT l x, y.id = x.id ∧ x.seq ≤ y.seq := by
  induction l with
  | nil => exact ⟨x, by simp [insT], rfl, Int.le_refl _⟩
  | cons z r ih =>
    unfold insT
    split
    · obtain ⟨y, hy, h1, h2⟩ := ih
      exact ⟨y, List.mem_cons_of_mem _ hy, h1, h2⟩
    · split
      · rename_i he
        split
        · exact ⟨x, by simp, rfl, Int.le_refl _⟩
        · rename_i hn
          exact ⟨z, by simp, he, new_not_seq hn⟩
      · exact ⟨x, by simp, rfl, Int.le_refl _⟩
theorem ins_keeps {l : List THd} {x z : THd} (hz : z ∈ l) : ∃ y ∈ insT l x, y.id = z.id ∧ z.seq ≤ y.seq := by
  induction l with
  | nil => cases hz
  | cons w r ih =>
    unfold insT
    split
    · rcases List.mem_cons.1 hz with rfl | hz
      · exact ⟨z, by simp, rfl, Int.le_refl _⟩
      · obtain ⟨y, hy, h1, h2⟩ := ih hz
        exact ⟨y, List.mem_cons_of_mem _ hy, h1, h2⟩
    · split
      · rename_i he
        split
        · rename_i hn
          rcases List.mem_cons.1 hz with rfl | hz
          · exact ⟨x, by simp, he.symm, new_pos_seq hn⟩
          · exact ⟨z, by simp [hz], rfl, Int.le_refl _⟩
        · exact ⟨z, hz, rfl, Int.le_refl _⟩
      · exact ⟨z, List.mem_cons_of_mem _ hz, rfl, Int.le_refl _⟩
theorem fold_has (m : List THd) : ∀ (l : List THd) (z : THd), (z ∈ l ∨ z ∈ m) → ∃ y ∈ m.foldl insT l, y.id = z.id ∧ z.seq ≤ y.seq := by
  induction m with
  | nil => intro l z hz; exact ⟨z, by simpa using hz, rfl, Int.le_refl _⟩
  | cons x m ih =>
    intro l z hz
    rw [List.foldl_cons]
    have key : ∃ y ∈ insT l x, y.id = z.id ∧ z.seq ≤ y.seq ∨ (z ∈ m ∧ y = y) := by
      rcases hz with hz | hz
      · obtain ⟨y, hy, h⟩ := ins_keeps (x := x) hz; exact ⟨y, hy, .inl h⟩
      · rcases List.mem_cons.1 hz with rfl | hz
        · obtain ⟨y, hy, h⟩ := ins_has l z; exact ⟨y, hy, .inl h⟩
        · obtain ⟨y, hy, h⟩ := ins_has l x; exact ⟨y, hy, .inr ⟨hz, rfl⟩⟩
    obtain ⟨y, hy, h | h⟩ := key
    · obtain ⟨u, hu, h1, h2⟩ := ih (insT l x) y (.inl hy)
      exact ⟨u, hu, h1.trans h.1, Int.le_trans h.2 h2⟩
    · exact ih (insT l x) z (.inr h.1)
theorem merge_has {l m : List THd} {z : THd} (hz : z ∈ l ++ m) : ∃ y ∈ mergeT l m, y.id = z.id ∧ z.seq ≤ y.seq := fold_has _ _ z (.inr hz)
theorem asc_one {l : List THd} (h : AscT l) {x y : THd} (hx : x ∈ l) (hy : y ∈ l) (e : x.id = y.id) : x = y := by
  induction l with
  | nil => cases hx
  | cons z r ih =>
    obtain ⟨h1, h2⟩ := List.pairwise_cons.1 h
    rcases List.mem_cons.1 hx with hx | hx
    · rcases List.mem_cons.1 hy with hy | hy
      · rw [hx, hy]
      · have := h1 y hy; rw [← hx, e] at this; exact absurd this (lex_irr _)
    · rcases List.mem_cons.1 hy with hy | hy
      · have := h1 x hx; rw [← hy, e] at this; exact absurd this (lex_irr _)
      · exact ih h2 hx hy
/-- Of each id there is one, as new as any (TieAlone). -/
theorem merge_all {l m : List THd} {z y : THd} (hz : z ∈ l ++ m) (hy : y ∈ mergeT l m) (e : y.id = z.id) : z.seq ≤ y.seq := by
  obtain ⟨u, hu, h1, h2⟩ := merge_has hz
  rw [asc_one (merge_asc l m) hy hu (e.trans h1.symm)]
  exact h2
theorem merge_two {a b : THd} (h : b.id = a.id) : mergeT [a] [b] = [if 0 < newT b a then b else a] := by
  simp only [mergeT, List.singleton_append, List.foldl_cons, List.foldl_nil, insT]
  rw [if_neg (by rw [h]; exact lex_irr _), if_pos h.symm]
  split <;> rfl
/-- TieWins. -/
theorem wins_pos {a b : THd} (h : b.id = a.id) (hn : 0 < newT a b) : mergeT [a] [b] = [a] ∧ mergeT [b] [a] = [a] := by
  have := new_turn a b
  rw [merge_two h, merge_two h.symm, if_neg (by omega), if_pos hn]
  exact ⟨rfl, rfl⟩
theorem wins_neg {a b : THd} (h : b.id = a.id) (hn : newT a b < 0) : mergeT [a] [b] = [b] ∧ mergeT [b] [a] = [b] := by
  have := new_turn a b
  rw [merge_two h, merge_two h.symm, if_pos (by omega), if_neg (by omega)]
  exact ⟨rfl, rfl⟩
theorem wins_zero {a b : THd} (h : b.id = a.id) (hn : newT a b = 0) : mergeT [a] [b] = [a] ∧ mergeT [b] [a] = [b] := by
  have := new_turn a b
  rw [merge_two h, merge_two h.symm, if_neg (by omega), if_neg (by omega)]
  exact ⟨rfl, rfl⟩
end Go.Proofs.YtpaooddmgcekhaaGreat.ti
