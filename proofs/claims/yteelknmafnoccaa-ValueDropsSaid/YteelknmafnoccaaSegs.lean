/-
  PLAIN MATHEMATICS: a record is its fields, one behind the other; what is left of it but for some fields is the others, one behind the other.
-/
import Derived.Test.YteelknmafnoccaaFMath
import Derived.Test.YteelknmafnoccaaJoinI
namespace Go.Proofs.Yteelknmafnoccaa

/-- One field, whole. -/
def IsF (s : List It) : Prop := s ≠ [] ∧ rightFrom 0 s = true ∧ ∀ (rest : List It) (i : Nat), endFrom 0 i (s ++ rest) = i + s.length
def hd (s : List It) : Int := match s with
  | [] => 0
  | x :: _ => x.id

theorem first_field : ∀ (l : List It) (d : Int), 0 ≤ d → rightFrom d l = true → l ≠ [] →
    ∃ s t, l = s ++ t ∧ s ≠ [] ∧ rightFrom d s = true ∧ rightFrom 0 t = true ∧ ∀ (rest : List It) (i : Nat), endFrom d i (s ++ rest) = i + s.length := by
  intro l
  induction l with
  | nil => intro d _ _ h; exact absurd rfl h
  | cons x l ih =>
    intro d hd h _
    rw [rightFrom, Bool.and_eq_true] at h
    obtain ⟨h1, h3⟩ := h
    have h2 := of_decide_eq_true (Bool.and_eq_true _ _ ▸ h1 : _ ∧ _).2
    by_cases h0 : step x d = 0
    · rw [h0] at h3
      refine ⟨[x], l, rfl, by simp, ?_, h3, fun rest i => ?_⟩
      · rw [rightFrom, h1, h0]; rfl
      · show endFrom d i (x :: rest) = _
        rw [endFrom, if_pos h0]
        rfl
    · have hl : l ≠ [] := by
        rintro rfl
        simp [rightFrom] at h3
        exact h0 h3
      obtain ⟨s, t, e, hs, hr, ht, he⟩ := ih (step x d) (by omega) h3 hl
      refine ⟨x :: s, t, by rw [e]; rfl, by simp, ?_, ht, fun rest i => ?_⟩
      · rw [rightFrom, h1, hr]; rfl
      · show endFrom d i (x :: (s ++ rest)) = _
        rw [endFrom, if_neg h0, he rest (i + 1), List.length_cons]
        omega
theorem split_fields : ∀ (n : Nat) (l : List It), l.length ≤ n → rightB l = true → ∃ ss : List (List It), (∀ s ∈ ss, IsF s) ∧ l = ss.flatten := by
  intro n
  induction n with
  | zero =>
    intro l hl _
    obtain rfl := List.eq_nil_of_length_eq_zero (by omega : l.length = 0)
    exact ⟨[], by simp, rfl⟩
  | succ n ih =>
    intro l hl hr
    by_cases h : l = []
    · subst h
      exact ⟨[], by simp, rfl⟩
    · obtain ⟨s, t, rfl, hs, hsr, ht, he⟩ := first_field l 0 (by omega) hr h
      have hsl : 0 < s.length := List.length_pos_iff.2 hs
      rw [List.length_append] at hl
      obtain ⟨ss, h1, rfl⟩ := ih t (by omega) ht
      refine ⟨s :: ss, fun u hu => ?_, rfl⟩
      rcases List.mem_cons.1 hu with rfl | hu
      · exact ⟨hs, hsr, he⟩
      · exact h1 u hu
theorem right_flat : ∀ (ss : List (List It)), (∀ s ∈ ss, IsF s) → rightB ss.flatten = true := by
  intro ss
  induction ss with
  | nil => intro _; rfl
  | cons s ss ih =>
    intro h
    rw [List.flatten_cons]
    exact right_both (h s (List.mem_cons_self ..)).2.1 (ih fun u hu => h u (List.mem_cons_of_mem _ hu))

/-- Where the fields lie. -/
def places : Nat → List (List It) → List (Nat × Nat)
  | _, [] => []
  | i, s :: ss => (i, i + s.length) :: places (i + s.length) ss
theorem fields_flat : ∀ (ss : List (List It)) (i : Nat), (∀ s ∈ ss, IsF s) → fieldsFrom i i 0 ss.flatten = places i ss := by
  intro ss
  induction ss with
  | nil => intro i _; rfl
  | cons s ss ih =>
    intro i h
    have hs := h s (List.mem_cons_self ..)
    have hr := right_flat (s :: ss) h
    have hne : (s :: ss).flatten ≠ [] := by
      rw [List.flatten_cons]
      intro e
      exact hs.1 (List.append_eq_nil_iff.1 e).1
    obtain ⟨a1, _, _⟩ := fields_step (s :: ss).flatten 0 i i (by omega) hr hne
    rw [a1]
    rw [List.flatten_cons, hs.2.2 ss.flatten i, show i + s.length - i = s.length by omega, List.drop_left, ih _ (fun u hu => h u (List.mem_cons_of_mem _ hu))]
    rfl

def keepB (zs : List Int) (s : List It) : Bool := askedB zs (hd s).toNat
theorem hd_get {pre s rest : List It} (hs : s ≠ []) : ((pre ++ (s ++ rest))[pre.length]?.map It.id).getD 0 = hd s := by
  cases s with
  | nil => exact absurd rfl hs
  | cons x s =>
    rw [List.getElem?_append_right (Nat.le_refl _), Nat.sub_self]
    rfl
theorem part_get {pre s rest : List It} : ((pre ++ (s ++ rest)).drop pre.length).take s.length = s := by
  rw [List.drop_left, List.take_left]
theorem kept_flat (zs : List Int) : ∀ (ss : List (List It)) (pre l : List It), (∀ s ∈ ss, IsF s) → l = pre ++ ss.flatten → (places pre.length ss).flatMap (keptF l zs) = (ss.filter (keepB zs)).flatten := by
  intro ss
  induction ss with
  | nil => intro pre l _ _; rfl
  | cons s ss ih =>
    intro pre l h e
    have hs := h s (List.mem_cons_self ..)
    rw [places, List.flatMap_cons]
    have hrec := ih (pre ++ s) l (fun u hu => h u (List.mem_cons_of_mem _ hu)) (by rw [e, List.flatten_cons, List.append_assoc])
    rw [List.length_append] at hrec
    rw [hrec]
    have hk : keptF l zs (pre.length, pre.length + s.length) = if keepB zs s = true then s else [] := by
      unfold keptF keepB
      simp only
      rw [e, List.flatten_cons, hd_get hs.1, show pre.length + s.length - pre.length = s.length by omega, part_get]
    rw [hk, List.filter_cons]
    cases keepB zs s <;> simp
theorem pdrop_flat {ss : List (List It)} (h : ∀ s ∈ ss, IsF s) (zs : List Int) : pdropS ss.flatten zs = (ss.filter (keepB zs)).flatten := by
  unfold pdropS
  rw [if_pos (right_flat ss h)]
  have e := fields_flat ss 0 h
  unfold fieldsL
  rw [e]
  exact kept_flat zs ss [] ss.flatten h rfl

/-- The first field of an Id: where it lies. -/
def firstS (id : Int) : Nat → List (List It) → Option (Nat × Nat)
  | _, [] => none
  | i, s :: ss => if hd s = id then some (i, i + s.length) else firstS id (i + s.length) ss
theorem find_flat (id : Int) : ∀ (ss : List (List It)) (pre l : List It), (∀ s ∈ ss, IsF s) → l = pre ++ ss.flatten → (places pre.length ss).find? (idAt l id) = firstS id pre.length ss := by
  intro ss
  induction ss with
  | nil => intro pre l _ _; rfl
  | cons s ss ih =>
    intro pre l h e
    have hs := h s (List.mem_cons_self ..)
    rw [places, List.find?_cons, firstS]
    have hrec := ih (pre ++ s) l (fun u hu => h u (List.mem_cons_of_mem _ hu)) (by rw [e, List.flatten_cons, List.append_assoc])
    rw [List.length_append] at hrec
    have hid : idAt l id (pre.length, pre.length + s.length) = (hd s == id) := by
      have hg := hd_get (pre := pre) (rest := ss.flatten) hs.1
      rw [← List.flatten_cons, ← e] at hg
      unfold idAt
      simp only
      have hlt : pre.length < l.length := by
        have := List.length_pos_iff.2 hs.1
        rw [e, List.flatten_cons, List.length_append, List.length_append]
        omega
      rw [List.getElem?_eq_getElem hlt] at hg ⊢
      simp only [Option.map_some, Option.getD_some] at hg
      simp only
      rw [hg]
    rw [hid]
    by_cases hh : hd s = id
    · rw [if_pos hh]
      have : (hd s == id) = true := by simpa using hh
      rw [this]
    · rw [if_neg hh]
      have : (hd s == id) = false := by simpa using hh
      rw [this]
      exact hrec
theorem pfind_flat {ss : List (List It)} (h : ∀ s ∈ ss, IsF s) (id : Int) : pfindS ss.flatten id = match firstS id 0 ss with
    | none => (0, 0, false)
    | some f => ((f.1 : Int), (f.2 : Int), true) := by
  unfold pfindS
  rw [if_pos (right_flat ss h)]
  have e := fields_flat ss 0 h
  unfold fieldsL
  rw [e]
  have e2 := find_flat id ss [] ss.flatten h rfl
  simp only [List.length_nil] at e2
  rw [e2]
  generalize firstS id 0 ss = o
  cases o <;> rfl
theorem first_some (id : Int) : ∀ (ss : List (List It)) (i : Nat) (p : Nat × Nat), firstS id i ss = some p → ∃ A s B, ss = A ++ s :: B ∧ (∀ u ∈ A, hd u ≠ id) ∧ hd s = id ∧ p = (i + A.flatten.length, i + A.flatten.length + s.length) := by
  intro ss
  induction ss with
  | nil => intro i p h; cases h
  | cons s ss ih =>
    intro i p h
    rw [firstS] at h
    by_cases hh : hd s = id
    · rw [if_pos hh] at h
      injection h with h
      exact ⟨[], s, ss, rfl, by simp, hh, by rw [← h]; simp⟩
    · rw [if_neg hh] at h
      obtain ⟨A, u, B, rfl, h1, h2, h3⟩ := ih _ p h
      refine ⟨s :: A, u, B, rfl, fun v hv => ?_, h2, ?_⟩
      · rcases List.mem_cons.1 hv with rfl | hv
        · exact hh
        · exact h1 v hv
      · rw [h3, List.flatten_cons, List.length_append, Nat.add_assoc]
theorem first_none (id : Int) : ∀ (ss : List (List It)) (i : Nat), (∀ u ∈ ss, hd u ≠ id) → firstS id i ss = none := by
  intro ss
  induction ss with
  | nil => intro i _; rfl
  | cons s ss ih =>
    intro i h
    rw [firstS, if_neg (h s (List.mem_cons_self ..))]
    exact ih _ fun u hu => h u (List.mem_cons_of_mem _ hu)
theorem none_first (id : Int) : ∀ (ss : List (List It)) (i : Nat), firstS id i ss = none → ∀ u ∈ ss, hd u ≠ id := by
  intro ss
  induction ss with
  | nil => intro i _ u hu; simp at hu
  | cons s ss ih =>
    intro i h u hu
    rw [firstS] at h
    by_cases hh : hd s = id
    · rw [if_pos hh] at h; cases h
    · rw [if_neg hh] at h
      rcases List.mem_cons.1 hu with rfl | hu
      · exact hh
      · exact ih _ h u hu
theorem first_at (id : Int) : ∀ (A B : List (List It)) (s : List It) (i : Nat), (∀ u ∈ A, hd u ≠ id) → hd s = id → firstS id i (A ++ s :: B) = some (i + A.flatten.length, i + A.flatten.length + s.length) := by
  intro A
  induction A with
  | nil => intro B s i _ h; simp [firstS, h]
  | cons u A ih =>
    intro B s i h hs
    rw [List.cons_append, firstS, if_neg (h u (List.mem_cons_self ..)), ih B s _ (fun v hv => h v (List.mem_cons_of_mem _ hv)) hs, List.flatten_cons, List.length_append, Nat.add_assoc]

theorem field_id {s : List It} (h : IsF s) : 1 ≤ hd s ∧ hd s ≤ 1000 := by
  obtain ⟨h0, h1, _⟩ := h
  cases s with
  | nil => exact absurd rfl h0
  | cons x s =>
    rw [rightFrom, Bool.and_eq_true, Bool.and_eq_true] at h1
    obtain ⟨⟨h1, h2⟩, _⟩ := h1
    have h2 := of_decide_eq_true h2
    show 1 ≤ x.id ∧ x.id ≤ 1000
    rcases shape_kinds h1 with ⟨_, i0, i1, _⟩ | ⟨_, i0, i1, _⟩ | ⟨_, i0, i1, _⟩ | ⟨k, _⟩
    · exact ⟨i0, i1⟩
    · exact ⟨i0, i1⟩
    · exact ⟨i0, i1⟩
    · unfold step at h2
      rw [if_neg (by omega), if_pos k] at h2
      omega
theorem keep_any {zs : List Int} {s : List It} (h : IsF s) : keepB zs s = zs.any fun z => z == hd s := by
  have := field_id h
  unfold keepB askedB
  rw [decide_eq_true (by omega), Bool.true_and, show (((hd s).toNat : Nat) : Int) = hd s by omega]

theorem filter_flat (f : List It → Bool) : ∀ ss : List (List It), (ss.filter f).flatten.length ≤ ss.flatten.length ∧ ∀ x ∈ (ss.filter f).flatten, x ∈ ss.flatten := by
  intro ss
  induction ss with
  | nil => exact ⟨Nat.le_refl _, fun x hx => hx⟩
  | cons s ss ih =>
    rw [List.filter_cons, List.flatten_cons]
    cases f s
    · refine ⟨by rw [List.length_append]; exact Nat.le_trans ih.1 (by omega), fun x hx => List.mem_append.2 (.inr (ih.2 x hx))⟩
    · simp only [if_true, List.flatten_cons]
      refine ⟨by rw [List.length_append, List.length_append]; have := ih.1; omega, fun x hx => ?_⟩
      rcases List.mem_append.1 hx with h | h
      · exact List.mem_append.2 (.inl h)
      · exact List.mem_append.2 (.inr (ih.2 x h))
/-- What is left of a record but for some fields. -/
theorem drop_facts {l : List It} (hr : rightB l = true) (zs : List Int) : rightB (pdropS l zs) = true ∧ pdropS (pdropS l zs) zs = pdropS l zs ∧ (pdropS l zs).length ≤ l.length ∧ (∀ x ∈ pdropS l zs, x ∈ l) := by
  obtain ⟨ss, hss, rfl⟩ := split_fields l.length l (Nat.le_refl _) hr
  rw [pdrop_flat hss]
  have hf : ∀ s ∈ ss.filter (keepB zs), IsF s := fun s hs => hss s (List.mem_filter.1 hs).1
  refine ⟨right_flat _ hf, ?_, ?_, ?_⟩
  · rw [pdrop_flat hf, List.filter_filter]
    simp
  · exact (filter_flat (keepB zs) ss).1
  · intro x hx
    exact (filter_flat (keepB zs) ss).2 x hx

/-- Where a field is found, in the record, and in what is left of it. -/
def FoundBoth (l m : List It) (is was any : Bool) (p q c d : Nat) : Prop :=
  was = (is && any) ∧ (was = true → p < q ∧ q ≤ l.length ∧ c < d ∧ d ≤ m.length ∧ (l.drop p).take (q - p) = (m.drop c).take (d - c))
theorem drop_find {l : List It} (hr : rightB l = true) (zs : List Int) (id : Int) :
    ∃ is was p q c d, pfindS l id = (((p : Nat) : Int), ((q : Nat) : Int), is) ∧ pfindS (pdropS l zs) id = (((c : Nat) : Int), ((d : Nat) : Int), was) ∧ FoundBoth l (pdropS l zs) is was (zs.any fun z => z == id) p q c d := by
  obtain ⟨ss, hss, rfl⟩ := split_fields l.length l (Nat.le_refl _) hr
  rw [pdrop_flat hss]
  have hf : ∀ s ∈ ss.filter (keepB zs), IsF s := fun s hs => hss s (List.mem_filter.1 hs).1
  rw [pfind_flat hss, pfind_flat hf]
  rcases h1 : firstS id 0 ss with _ | p
  · have h2 : firstS id 0 (ss.filter (keepB zs)) = none := first_none id _ 0 fun u hu => none_first id ss 0 h1 u (List.mem_filter.1 hu).1
    rw [h2]
    exact ⟨false, false, 0, 0, 0, 0, rfl, rfl, rfl, fun h => by cases h⟩
  · obtain ⟨A, s, B, rfl, hA, hs, rfl⟩ := first_some id ss 0 p h1
    have hIs := hss s (by simp)
    have hk := keep_any (zs := zs) hIs
    rw [hs] at hk
    rcases hany : (zs.any fun z => z == id) with _ | _
    · rw [hany] at hk
      have h2 : firstS id 0 ((A ++ s :: B).filter (keepB zs)) = none := first_none id _ 0 fun u hu => by
        obtain ⟨hu1, hu2⟩ := List.mem_filter.1 hu
        intro hid
        have := keep_any (zs := zs) (hss u hu1)
        rw [hid, hany, hu2] at this
        cases this
      rw [h2]
      exact ⟨true, false, _, _, 0, 0, rfl, rfl, rfl, fun h => by cases h⟩
    · rw [hany] at hk
      have e : (A ++ s :: B).filter (keepB zs) = A.filter (keepB zs) ++ s :: B.filter (keepB zs) := by
        rw [List.filter_append, List.filter_cons, if_pos hk]
      rw [e, first_at id _ _ s 0 (fun u hu => hA u (List.mem_filter.1 hu).1) hs]
      have hsl := List.length_pos_iff.2 hIs.1
      refine ⟨true, true, _, _, _, _, rfl, rfl, rfl, fun _ => ⟨by simp only; omega, ?_, by simp only; omega, ?_, ?_⟩⟩
      · simp only [List.flatten_append, List.flatten_cons, List.length_append]
        omega
      · simp only [List.flatten_append, List.flatten_cons, List.length_append]
        omega
      · simp only [Nat.zero_add, List.flatten_append, List.flatten_cons]
        rw [List.drop_left, List.drop_left, show A.flatten.length + s.length - A.flatten.length = s.length by omega, show (List.filter (keepB zs) A).flatten.length + s.length - (List.filter (keepB zs) A).flatten.length = s.length by omega, List.take_left, List.take_left]
end Go.Proofs.Yteelknmafnoccaa
