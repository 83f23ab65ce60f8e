/-
  A BASE as data: what is dropped, and put again as it was told.
-/
import Derived.Test.YtpaooddmgcekhaaGreatVMath
namespace Go.Proofs.YtpaooddmgcekhaaGreat.ti
set_option linter.unusedSimpArgs false
set_option linter.unusedVariables false
def ExpK (K : List EnT) (now : Int) : Prop := ∀ y ∈ K, y.exp ≤ now + 604800
theorem right_toldL {y : EnT} {now : Int} (h : rightV y.t = true) (h1 : 0 ≤ y.exp - now) (h2 : y.exp - now ≤ 604800) : rightV (toldD y now) = true := by
  have e : leftD y now = y.exp - now := by unfold leftD; rw [if_neg (by omega)]
  unfold rightV at h ⊢
  unfold tieR headR at h ⊢
  rw [Bool.and_eq_true] at h ⊢
  refine ⟨?_, h.2⟩
  have h3 := h.1
  rw [Bool.and_eq_true] at h3 ⊢
  refine ⟨h3.1, ?_⟩
  show rgB 0 604800 (leftD y now) = true
  rw [e]
  unfold rgB
  simp
  omega
theorem ins_rest : ∀ {K : List EnT} (_ : AscD K) {y : EnT} (_ : findD K y.id = some y) {e : EnT} (_ : e.id = y.id), insD (restD K y.id) e = insD K e ∧ (insD K e).map (fun x => x.id) = K.map (fun x => x.id) ∧ ∀ f : EnT → THd, ∀ p : EnT → Bool, f e = f y → p e = p y → ((insD K e).filter p).map f = (K.filter p).map f
  | [], _, y, h, e, _ => by simp [findD] at h
  | x :: r, ha, y, h, e, he => by
    have hr : AscD r := (List.pairwise_cons.1 ha).2
    have hlt := (List.pairwise_cons.1 ha).1
    by_cases hx : x.id = y.id
    · have e1 : x = y := by
        unfold findD at h
        rw [List.find?_cons, decide_eq_true hx] at h
        exact Option.some.inj h
      subst e1
      have hn : restD (x :: r) x.id = r := by
        unfold restD
        rw [List.filter_cons, if_neg (by simp)]
        refine List.filter_eq_self.2 fun z hz => ?_
        have h3 := hlt z hz
        have : z.id ≠ x.id := fun q => by rw [q] at h3; exact lex_irr _ h3
        simpa using this
      have hi : insD (x :: r) e = e :: r := by
        unfold insD
        rw [if_neg (by rw [he]; exact lex_irr _), if_pos he.symm]
      rw [hn, hi]
      refine ⟨?_, by simp [he], fun f p hf hp => ?_⟩
      · cases r with
        | nil => rfl
        | cons z q =>
          have h3 := hlt z (List.mem_cons_self ..)
          have hzne : z.id ≠ e.id := fun q => by rw [q, he] at h3; exact lex_irr _ h3
          unfold insD
          rw [if_neg (fun q => by rw [he] at q; exact lex_asym h3 q), if_neg hzne]
      · rw [List.filter_cons, List.filter_cons, hp]
        split
        · rw [List.map_cons, List.map_cons, hf]
        · rfl
    · have h2 : findD r y.id = some y := by
        unfold findD at h ⊢
        rw [List.find?_cons, decide_eq_false hx] at h
        exact h
      have hy := findD_is h2
      have hxy : lexT x.id e.id := by rw [he]; exact hlt y hy.1
      obtain ⟨i1, i2, i3⟩ := ins_rest hr h2 he
      have hn : restD (x :: r) y.id = x :: restD r y.id := by
        unfold restD
        rw [List.filter_cons, if_pos (by simpa using hx)]
      have hi : insD (x :: r) e = x :: insD r e := by
        rw [insD, if_pos hxy]
      rw [hn, hi]
      refine ⟨?_, by simp [i2], fun f p hf hp => ?_⟩
      · rw [insD, if_pos hxy, i1]
      · rw [List.filter_cons, List.filter_cons]
        split
        · rw [List.map_cons, List.map_cons, i3 f p hf hp]
        · exact i3 f p hf hp
/-- Without an id. -/
theorem rest_alive : ∀ {K : List EnT} (_ : AscD K) {y : EnT} (_ : findD K y.id = some y) (p : EnT → Bool), ((restD K y.id).filter p).length = (K.filter p).length - (if p y then 1 else 0) ∧ (p y = false → (restD K y.id).filter p = K.filter p) ∧ (p y = true → 0 < (K.filter p).length) ∧ (restD K y.id).length + 1 = K.length
  | [], _, y, h, p => by simp [findD] at h
  | x :: r, ha, y, h, p => by
    have hr : AscD r := (List.pairwise_cons.1 ha).2
    have hlt := (List.pairwise_cons.1 ha).1
    by_cases hx : x.id = y.id
    · have e1 : x = y := by
        unfold findD at h
        rw [List.find?_cons, decide_eq_true hx] at h
        exact Option.some.inj h
      subst e1
      have hn : restD (x :: r) x.id = r := by
        unfold restD
        rw [List.filter_cons, if_neg (by simp)]
        refine List.filter_eq_self.2 fun z hz => ?_
        have h3 := hlt z hz
        have : z.id ≠ x.id := fun q => by rw [q] at h3; exact lex_irr _ h3
        simpa using this
      rw [hn, List.filter_cons]
      cases hp : p x <;> simp
    · have h2 : findD r y.id = some y := by
        unfold findD at h ⊢
        rw [List.find?_cons, decide_eq_false hx] at h
        exact h
      obtain ⟨i1, i2, i3, i4⟩ := rest_alive hr h2 p
      have hn : restD (x :: r) y.id = x :: restD r y.id := by
        unfold restD
        rw [List.filter_cons, if_pos (by simpa using hx)]
      rw [hn, List.filter_cons, List.filter_cons]
      refine ⟨?_, fun hp => ?_, fun hp => ?_, by simp [i4]⟩
      · cases hy : p y
        · cases hx2 : p x <;> simp [i1, hy]
        · have := i3 hy
          cases hx2 : p x
          · simp [i1, hy]
          · simp [i1, hy]; omega
      · rw [i2 hp]
      · have := i3 hp
        split
        · simp
        · exact this
theorem rest_find {K : List EnT} {i : TId} : findD (restD K i) i = none := findD_not fun x hx e => by
  unfold restD at hx
  have := (List.mem_filter.1 hx).2
  simp [e] at this
end Go.Proofs.YtpaooddmgcekhaaGreat.ti
