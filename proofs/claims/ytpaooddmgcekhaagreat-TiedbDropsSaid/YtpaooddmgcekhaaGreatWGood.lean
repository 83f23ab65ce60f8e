/-
  A PACKET's FIELDS are a record: balanced, no deeper than three, numbers that fit, no bytes.
-/
import Derived.Test.YtpaooddmgcekhaaGreatWMath
import Derived.Test.YtpaooddmgcekhaaGreatLB
namespace Go.Proofs.YtpaooddmgcekhaaGreat
open Go.RowKit
set_option linter.unusedVariables false

def Good (k : Int) (l : List It) : Prop := (∀ (d : Int) (rest : List It), 0 ≤ d → d + k ≤ 8 → rightFrom d (l ++ rest) = rightFrom d rest) ∧ ∀ x ∈ l, x.bs = [] ∧ x.ok
theorem good_nil (k : Int) : Good k [] := ⟨fun _ _ _ _ => rfl, fun x hx => by simp at hx⟩
theorem wf_of {n : Int} (h : -9223372036854775808 ≤ n ∧ n ≤ 9223372036854775807) : (Lit.int .i64 n).wf = true := by
  simp [Lit.wf, IntKind.min, IntKind.max, IntKind.signed, IntKind.bits]
  omega
theorem good_int {k : Int} {l : List It} (h : Good k l) (hk : 0 ≤ k) {id n : Int} (hi : 1 ≤ id ∧ id ≤ 1000) (hn : -9223372036854775808 ≤ n ∧ n ≤ 9223372036854775807) : Good k (intI id n :: l) := by
  refine ⟨fun d rest h0 h8 => ?_, fun x hx => ?_⟩
  · have hs : shapeB (intI id n) = true := by simp [shapeB, intI]; omega
    have ht : step (intI id n) d = d := by simp [step, intI]
    rw [List.cons_append, rightFrom, hs, ht, h.1 d rest h0 h8]
    simp
    intro _
    omega
  · rcases List.mem_cons.1 hx with rfl | hx
    · exact ⟨rfl, wf_of (n := 1) (by decide), wf_of (by show _ ≤ id ∧ id ≤ _; omega), wf_of hn, fun y hy => by simp [intI] at hy⟩
    · exact h.2 x hx
theorem good_app {k : Int} {l m : List It} (h : Good k l) (h' : Good k m) : Good k (l ++ m) := by
  refine ⟨fun d rest h0 h8 => ?_, fun x hx => ?_⟩
  · rw [List.append_assoc, h.1 d _ h0 h8, h'.1 d _ h0 h8]
  · rcases List.mem_append.1 hx with hx | hx
    · exact h.2 x hx
    · exact h'.2 x hx
theorem good_up {k k' : Int} {l : List It} (h : Good k l) (hk : k ≤ k') : Good k' l := ⟨fun d rest h0 h8 => h.1 d rest h0 (by omega), h.2⟩
theorem good_op {k : Int} {l : List It} (h : Good k l) (hk : 0 ≤ k) {id : Int} (hi : 1 ≤ id ∧ id ≤ 1000) : Good (k + 1) (opI id l) := by
  refine ⟨fun d rest h0 h8 => ?_, fun x hx => ?_⟩
  · have hs : shapeB ⟨3, id, 0, []⟩ = true := by simp [shapeB]; omega
    have ht : step ⟨3, id, 0, []⟩ d = d + 1 := by simp [step]
    have hs4 : shapeB ⟨4, 0, 0, []⟩ = true := by simp [shapeB]
    have ht4 : step ⟨4, 0, 0, []⟩ (d + 1) = d := by simp [step]
    unfold opI
    rw [List.cons_append, List.append_assoc, rightFrom, hs, ht, h.1 (d + 1) _ (by omega) (by omega), List.cons_append, rightFrom, hs4, ht4]
    have e1 : decide (0 ≤ d + 1 ∧ d + 1 ≤ 8) = true := decide_eq_true (by omega)
    have e2 : decide (0 ≤ d ∧ d ≤ 8) = true := decide_eq_true (by omega)
    rw [e1, e2]
    simp
  · unfold opI at hx
    rcases List.mem_cons.1 hx with rfl | hx
    · exact ⟨rfl, wf_of (n := 3) (by decide), wf_of (by show _ ≤ id ∧ id ≤ _; omega), wf_of (n := 0) (by decide), fun y hy => by simp at hy⟩
    · rcases List.mem_append.1 hx with hx | hx
      · exact h.2 x hx
      · simp at hx
        subst hx
        exact ⟨rfl, wf_of (by decide), wf_of (by decide), wf_of (by decide), fun y hy => by simp at hy⟩
theorem good_flat {E : Type} {k : Int} {f : E → List It} : ∀ (l : List E), (∀ x ∈ l, Good k (f x)) → Good k (l.flatMap f) := by
  intro l
  induction l with
  | nil => intro _; exact good_nil k
  | cons x l ih =>
    intro h
    rw [List.flatMap_cons]
    exact good_app (h x (by simp)) (ih fun y hy => h y (by simp [hy]))
theorem good_id {x : IdT} (h : idR x = true) : Good 0 (idI x) := by
  simp [idR, rgB] at h
  exact good_int (good_int (good_int (good_int (good_nil 0) (by omega) (by decide) (by omega)) (by omega) (by decide) (by omega)) (by omega) (by decide) (by omega)) (by omega) (by decide) (by omega)
theorem good_head {x : HeadT} (h : headR x = true) : Good 1 (headI x) := by
  simp only [headR, Bool.and_eq_true] at h
  obtain ⟨⟨h1, h2⟩, h3⟩ := h
  simp [rgB] at h2 h3
  exact good_app (good_op (good_id h1) (by omega) (by decide)) (good_int (good_int (good_nil 1) (by omega) (by decide) (by omega)) (by omega) (by decide) (by omega))
theorem bit_fits (b : Bool) : -9223372036854775808 ≤ bitI b ∧ bitI b ≤ 9223372036854775807 := by cases b <;> decide
theorem good_lie {x : LieT} (h : lieR x = true) : Good 0 (lieI x) := by
  simp [lieR, rgB] at h
  unfold lieI
  refine good_int (good_int (good_int (good_int (good_int (good_int (good_int (good_int (good_int (good_int (good_int (good_int (good_nil 0) ?_ ?_ ?_) ?_ ?_ ?_) ?_ ?_ ?_) ?_ ?_ ?_) ?_ ?_ ?_) ?_ ?_ ?_) ?_ ?_ ?_) ?_ ?_ ?_) ?_ ?_ ?_) ?_ ?_ ?_) ?_ ?_ ?_) ?_ ?_ ?_
  all_goals first
    | decide
    | exact bit_fits _
    | omega
theorem good_edge {x : EdgeT} (h : edgeR x = true) : Good 0 (edgeI x) := by
  simp [edgeR, rgB] at h
  exact good_int (good_int (good_int (good_nil 0) (by omega) (by decide) (by omega)) (by omega) (by decide) (by omega)) (by omega) (by decide) (by omega)
theorem good_reach {x : ReachT} (h : reachR x = true) : Good 0 (reachI x) := by
  simp [reachR, rgB] at h
  exact good_int (good_int (good_int (good_nil 0) (by omega) (by decide) (by omega)) (by omega) (by decide) (by omega)) (by omega) (by decide) (by omega)
theorem tie_level {x : TieT} (h : tieR x = true) : 0 ≤ x.level ∧ x.level ≤ 24 := by
  simp only [tieR, Bool.and_eq_true] at h
  have := h.2.1
  simp [rgB] at this
  split at this <;> omega
theorem good_tie {x : TieT} (h : tieR x = true) : Good 2 (tieI x) := by
  have hl := tie_level h
  simp only [tieR, Bool.and_eq_true, List.all_eq_true, decide_eq_true_eq] at h
  obtain ⟨h1, _, _, ⟨h4, _⟩, h5, _⟩ := h
  refine good_app (good_op (good_head h1) (by omega) (by decide)) (good_app (good_int (good_int (good_nil 2) (by omega) (by decide) (bit_fits _)) (by omega) (by decide) (by omega)) (good_app (good_flat _ fun y hy => ?_) (good_flat _ fun y hy => ?_)))
  · exact good_up (good_op (good_edge (h4 y hy)) (by omega) (by decide)) (by omega)
  · exact good_up (good_op (good_reach (h5 y hy)) (by omega) (by decide)) (by omega)
theorem good_heads {l : List HeadT} (h : headsR l = true) : Good 2 (l.flatMap fun x => opI 6 (headI x)) := by
  simp only [headsR, Bool.and_eq_true, List.all_eq_true] at h
  exact good_flat _ fun y hy => good_op (good_head (h.1 y hy)) (by omega) (by decide)
theorem good_pack {p : PackT} (h : packR p = true) : Good 3 (packI p) := by
  obtain ⟨kind, lie, tie, frm, to, heads⟩ := p
  unfold packI
  simp only
  by_cases h1 : kind = 1
  · subst h1
    simp [packR] at h
    simp only [if_true]
    exact good_int (good_up (good_op (good_lie h) (by omega) (by decide)) (by omega)) (by omega) (by decide) (by decide)
  by_cases h2 : kind = 2
  · subst h2
    simp [packR] at h
    simp only [if_neg h1, if_true]
    exact good_int (good_op (good_tie h) (by omega) (by decide)) (by omega) (by decide) (by decide)
  by_cases h3 : kind = 3
  · subst h3
    simp [packR] at h
    simp only [if_neg h1, if_neg h2, if_true]
    exact good_int (good_app (good_up (good_op (good_id h.1.1) (by omega) (by decide)) (by omega)) (good_app (good_up (good_op (good_id h.1.2) (by omega) (by decide)) (by omega)) (good_up (good_heads h.2) (by omega)))) (by omega) (by decide) (by decide)
  by_cases h4 : kind = 4
  · subst h4
    simp [packR] at h
    simp only [if_neg h1, if_neg h2, if_neg h3, if_true]
    exact good_int (good_up (good_heads h) (by omega)) (by omega) (by decide) (by decide)
  · simp [packR, h1, h2, h3, h4] at h
theorem right_pack {p : PackT} (h : packR p = true) : rightB (packI p) = true := by
  have := (good_pack h).1 0 [] (by omega) (by omega)
  rw [List.append_nil] at this
  unfold rightB
  rw [this]
  rfl

theorem flat_len {E : Type} {f : E → List It} {k : Nat} : ∀ (l : List E), (∀ x ∈ l, (f x).length ≤ k) → (l.flatMap f).length ≤ l.length * k := by
  intro l
  induction l with
  | nil => intro _; simp
  | cons x l ih =>
    intro h
    rw [List.flatMap_cons, List.length_append, List.length_cons, Nat.succ_mul]
    have h1 := h x (by simp)
    have h2 := ih fun y hy => h y (by simp [hy])
    omega
theorem len_heads {l : List HeadT} (h : headsR l = true) : (l.flatMap fun x => opI 6 (headI x)).length ≤ 640 := by
  simp only [headsR, Bool.and_eq_true, decide_eq_true_eq] at h
  have := flat_len (f := fun x : HeadT => opI 6 (headI x)) (k := 10) l (fun x _ => by simp [opI, headI, idI])
  omega
/-- A packet has not many fields. -/
theorem len_pack {p : PackT} (h : packR p = true) : (packI p).length ≤ 1000 := by
  obtain ⟨kind, lie, tie, frm, to, heads⟩ := p
  unfold packI
  simp only
  by_cases h1 : kind = 1
  · subst h1
    simp [opI, lieI]
  by_cases h2 : kind = 2
  · subst h2
    simp [packR] at h
    simp only [tieR, Bool.and_eq_true, List.all_eq_true, decide_eq_true_eq] at h
    obtain ⟨_, _, _, ⟨_, h4⟩, _, h5⟩ := h
    have e4 : tie.edges.length ≤ 64 := by split at h4 <;> omega
    have e5 : tie.reaches.length ≤ 64 := by split at h5 <;> omega
    have f4 := flat_len (f := fun x : EdgeT => opI 4 (edgeI x)) (k := 5) tie.edges (fun x _ => by simp [opI, edgeI])
    have f5 := flat_len (f := fun x : ReachT => opI 5 (reachI x)) (k := 5) tie.reaches (fun x _ => by simp [opI, reachI])
    simp only [if_neg h1, if_true, opI, tieI, headI, idI, List.length_cons, List.length_append, List.length_nil] at f4 f5 ⊢
    omega
  by_cases h3 : kind = 3
  · subst h3
    simp [packR] at h
    have := len_heads h.2
    simp only [if_neg h1, if_neg h2, if_true, opI, idI, headI, List.length_cons, List.length_append, List.length_nil] at this ⊢
    omega
  by_cases h4 : kind = 4
  · subst h4
    simp [packR] at h
    have := len_heads h
    simp only [if_neg h1, if_neg h2, if_neg h3, if_true, opI, idI, headI, List.length_cons] at this ⊢
    omega
  · simp [packR, h1, h2, h3, h4] at h
end Go.Proofs.YtpaooddmgcekhaaGreat
