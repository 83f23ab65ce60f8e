/-
  A PACKET THAT CAME IN AS AN ARGUMENT, as data.
-/
import Derived.Test.YtjkibgnkkienbaaWCode
namespace Go.Proofs.Ytjkibgnkkienbaa
open Go.RowKit Go.ChangeShapes Go.WideShapes
set_option linter.unusedVariables false

section
variable {H : Type} {enc : TypeId × Value → H} {P : Program} {w : World} {held : Bool} {M : Nat}

/-- Some cells read at a type, and nothing in them is too heavy. -/
def Rdg (enc : TypeId × Value → H) (P : Program) (w : World) (held : Bool) (M : Nat) (t : TypeId) (cs : List Value) : Prop := ∃ fuel x, DataW.trod enc P w 0 (fun _ => true) held fuel t cs = some x ∧ ∀ n ∈ x.1.weights P t, n ≤ M
theorem rdg_int {t : TypeId} {k : IntKind} {cs : List Value} (ht : P.underlying t = some (.int k)) (h : Rdg enc P w held M t cs) : ∃ n, cs = [.int k n] ∧ (Lit.int k n).wf = true := by
  obtain ⟨fuel, x, hx, _⟩ := h
  obtain ⟨n, e, _, hw⟩ := DataW.trod_int ht hx
  exact ⟨n, e, hw⟩
theorem rdg_bool {t : TypeId} {cs : List Value} (ht : P.underlying t = some .bool) (h : Rdg enc P w held M t cs) : ∃ b, cs = [.bool b] := by
  obtain ⟨fuel, x, hx, _⟩ := h
  obtain ⟨b, e, _⟩ := DataW.trod_bool ht hx
  exact ⟨b, e⟩
theorem rdg_struct {t : TypeId} {fs : Array Field} {cs : List Value} (ht : P.underlying t = some (.struct fs)) (h : Rdg enc P w held M t cs) : cs.length = P.cellsOf t ∧ ∀ (i : Nat) (f : Field), fs[i]? = some f → Rdg enc P w held M f.type ((cs.drop f.offset).take (P.cellsOf f.type)) := by
  obtain ⟨fuel, x, hx, hM⟩ := h
  obtain ⟨xs, n, _, rfl, hl, hlen, hf⟩ := DataW.trod_struct ht hx
  refine ⟨hl, fun i f hif => ?_⟩
  have hi : i < xs.length := by
    rw [hlen]
    exact (Array.getElem?_eq_some_iff.1 hif).1
  refine ⟨n, xs[i], by rw [hf i f hif, List.getElem?_eq_getElem hi], fun k hk => hM k ?_⟩
  simp only [DataW.weights, ht]
  exact DataW.weights_mem_each (j := i) (by simp; exact ⟨f, hif, rfl⟩) (by simp [hi]) k hk
/-- A slice of structs. -/
theorem rdg_slice {E : Type} [Inhabited E] {sz : Nat} {en : E → List Value} {ok : E → Prop} {s t : TypeId} {v : Value} (hs : P.underlying s = some (.slice t)) (hsz : P.cellsOf t = sz) (hen : ∀ x, (en x).length = sz)
    (elem : ∀ cs, Rdg enc P w held M t cs → ∃ x, cs = en x ∧ ok x) (h : Rdg enc P w held M s [v]) (hp : 0 < sz) :
    ∃ (A : Option Addr) (l : List E) (cap : Nat), v = .slice A l.length cap ∧ l.length ≤ cap ∧ cap ≤ maxLen ∧ RdR sz en w.heap.size w A l ∧ (∀ y ∈ l, ok y) ∧ cap * P.bytesOf t ≤ M := by
  obtain ⟨fuel, x, hx, hM⟩ := h
  rcases Go.Deep.open_slice hs hx with ⟨hcs, _⟩ | ⟨a, len, cap, m, n, D, Pl, hcs, _, hl, hm, hmm, rfl, hall⟩
  · injection hcs with hcs
    exact ⟨none, [], 0, hcs, Nat.le_refl _, Nat.zero_le _, fun hp => by simp at hp, by simp, by simp⟩
  · injection hcs with hcs
    subst hcs
    simp only [if_true] at hmm
    subst hmm
    rw [hsz] at hall
    have hD : ∀ i', i' < m → ∀ n ∈ (D i').weights P t, n ≤ M := fun i' hi' n hn => hM n (by
      simp only [DataW.weights, hs, List.mem_cons, List.mem_append]
      rcases Nat.lt_or_ge i' len with hlt | hge
      · exact .inr (.inl (mem_weightsAll (List.mem_map.2 ⟨i', List.mem_range.2 hlt, rfl⟩) hn))
      · exact .inr (.inr (mem_weightsAll (List.mem_map.2 ⟨i' - len, List.mem_range.2 (by omega), by rw [show len + (i' - len) = i' by omega]⟩) hn)))
    have hcapM : m * P.bytesOf t ≤ M := by
      have := hM ((((List.range len).map D).length + ((List.range (m - len)).map fun j => D (len + j)).length) * P.bytesOf t) (by simp [DataW.weights, hs])
      simp only [List.length_map, List.length_range] at this
      rwa [show len + (m - len) = m by omega] at this
    have hall2 : ∀ i', i' < m → ∃ q : E, w.cells? 0 (a.add (i' * sz)) sz = some (en q) ∧ ok q := by
      intro i' hi'
      obtain ⟨cs, hcs, htr⟩ := hall i' hi'
      obtain ⟨y, e1, e2⟩ := elem cs ⟨_, _, htr, hD i' hi'⟩
      subst e1
      exact ⟨y, hcs, e2⟩
    obtain ⟨f, hf⟩ := Go.Deep.choose_lt hall2
    refine ⟨some a, (List.range len).map f, m, by simp, by simpa using hl, hm, fun hp' => ?_, ?_, hcapM⟩
    · have hlen : 0 < len := by simpa using hp'
      have cell : ∀ j, j < m → ∀ k, k < sz → w.cell? (a.add (j * sz + k)) = (en (f j))[k]? := fun j hj k hk => by
        have := (World.cells?_some (hf j hj).1).2.2 k hk
        rwa [Go.Deep.add_add] at this
      obtain ⟨b, off, spot⟩ := a
      have h0 := cell 0 (by omega) 0 hp
      have h00 : (en (f 0))[0]? = some ((en (f 0))[0]'(by rw [hen]; exact hp)) := List.getElem?_eq_getElem _
      have hspot : spot = none := by simpa [Addr.add] using World.cell?_spot (h0.trans h00)
      subst hspot
      have plain : ∀ k, (⟨b, off, none⟩ : Addr).add k = ⟨b, off + k, none⟩ := fun k => by unfold Addr.add; split <;> simp_all
      rw [plain] at h0
      refine ⟨b, off, rfl, World.block_lt_of_cell? w _ (h0.trans h00), fun j x hx k u hu => ?_⟩
      have hj : j < len := by
        rcases Nat.lt_or_ge j len with h1 | h1
        · exact h1
        · rw [List.getElem?_eq_none (by simpa using h1)] at hx; cases hx
      obtain rfl : f j = x := by simpa [hj] using hx
      have hk : k < sz := by
        have := (List.getElem?_eq_some_iff.1 hu).1
        rwa [hen] at this
      have g := cell j (by omega) k hk
      rw [plain] at g
      rw [show off + j * sz + k = off + (j * sz + k) by omega]
      exact g.trans hu
    · intro y hy
      obtain ⟨j, hj, rfl⟩ := List.mem_map.1 hy
      exact (hf j (by have := List.mem_range.1 hj; omega)).2
end
theorem cut (cs : List Value) (i n : Nat) : cs.drop i = (cs.drop i).take n ++ cs.drop (i + n) := by
  rw [← List.drop_drop, List.take_append_drop]
theorem list2 {α : Type} {cs : List α} (h : cs.length = 2) : ∃ c0 c1, cs = [c0, c1] := by
  match cs, h with
  | [c0, c1], _ => exact ⟨c0, c1, rfl⟩
theorem list3 {α : Type} {cs : List α} (h : cs.length = 3) : ∃ c0 c1 c2, cs = [c0, c1, c2] := by
  match cs, h with
  | [c0, c1, c2], _ => exact ⟨c0, c1, c2, rfl⟩
theorem list4 {α : Type} {cs : List α} (h : cs.length = 4) : ∃ c0 c1 c2 c3, cs = [c0, c1, c2, c3] := by
  match cs, h with
  | [c0, c1, c2, c3], _ => exact ⟨c0, c1, c2, c3, rfl⟩
theorem list6 {α : Type} {cs : List α} (h : cs.length = 6) : ∃ c0 c1 c2 c3 c4 c5, cs = [c0, c1, c2, c3, c4, c5] := by
  match cs, h with
  | [c0, c1, c2, c3, c4, c5], _ => exact ⟨c0, c1, c2, c3, c4, c5, rfl⟩
theorem list10 {α : Type} {cs : List α} (h : cs.length = 10) : ∃ c0 c1 c2 c3 c4 c5 c6 c7 c8 c9, cs = [c0, c1, c2, c3, c4, c5, c6, c7, c8, c9] := by
  match cs, h with
  | [c0, c1, c2, c3, c4, c5, c6, c7, c8, c9], _ => exact ⟨c0, c1, c2, c3, c4, c5, c6, c7, c8, c9, rfl⟩
theorem list12 {α : Type} {cs : List α} (h : cs.length = 12) : ∃ c0 c1 c2 c3 c4 c5 c6 c7 c8 c9 c10 c11, cs = [c0, c1, c2, c3, c4, c5, c6, c7, c8, c9, c10, c11] := by
  match cs, h with
  | [c0, c1, c2, c3, c4, c5, c6, c7, c8, c9, c10, c11], _ => exact ⟨c0, c1, c2, c3, c4, c5, c6, c7, c8, c9, c10, c11, rfl⟩
theorem list32 {α : Type} {cs : List α} (h : cs.length = 32) : ∃ c0 c1 c2 c3 c4 c5 c6 c7 c8 c9 c10 c11 c12 c13 c14 c15 c16 c17 c18 c19 c20 c21 c22 c23 c24 c25 c26 c27 c28 c29 c30 c31, cs = [c0, c1, c2, c3, c4, c5, c6, c7, c8, c9, c10, c11, c12, c13, c14, c15, c16, c17, c18, c19, c20, c21, c22, c23, c24, c25, c26, c27, c28, c29, c30, c31] := by
  match cs, h with
  | [c0, c1, c2, c3, c4, c5, c6, c7, c8, c9, c10, c11, c12, c13, c14, c15, c16, c17, c18, c19, c20, c21, c22, c23, c24, c25, c26, c27, c28, c29, c30, c31], _ => exact ⟨c0, c1, c2, c3, c4, c5, c6, c7, c8, c9, c10, c11, c12, c13, c14, c15, c16, c17, c18, c19, c20, c21, c22, c23, c24, c25, c26, c27, c28, c29, c30, c31, rfl⟩
theorem rd_id {H : Type} {enc : TypeId × Value → H} {w : World} {held : Bool} {cs : List Value} (h : Rdg enc Try.prog w held reachBytes 25 cs) : ∃ x, cs = encId x ∧ True := by
  obtain ⟨hl, hf⟩ := rdg_struct Try.underlying25 h
  obtain ⟨c0, c1, c2, c3, rfl⟩ := list4 (hl.trans (by kernel_rfl) : cs.length = 4)
  have h0 : Rdg enc Try.prog w held reachBytes 3 [c0] := by
    have this : Rdg enc Try.prog w held reachBytes 3 (List.take (Try.prog.cellsOf 3) (List.drop 0 [c0, c1, c2, c3])) := hf 0 _ rfl
    rw [show ∀ (a : List Value), a.take (Try.prog.cellsOf 3) = a.take 1 from fun a => by rw [show Try.prog.cellsOf 3 = 1 from by kernel_rfl]] at this
    exact this
  obtain ⟨n0, e0, _⟩ := rdg_int Try.underlying3 h0
  have h1 : Rdg enc Try.prog w held reachBytes 3 [c1] := by
    have this : Rdg enc Try.prog w held reachBytes 3 (List.take (Try.prog.cellsOf 3) (List.drop 1 [c0, c1, c2, c3])) := hf 1 _ rfl
    rw [show ∀ (a : List Value), a.take (Try.prog.cellsOf 3) = a.take 1 from fun a => by rw [show Try.prog.cellsOf 3 = 1 from by kernel_rfl]] at this
    exact this
  obtain ⟨n1, e1, _⟩ := rdg_int Try.underlying3 h1
  have h2 : Rdg enc Try.prog w held reachBytes 3 [c2] := by
    have this : Rdg enc Try.prog w held reachBytes 3 (List.take (Try.prog.cellsOf 3) (List.drop 2 [c0, c1, c2, c3])) := hf 2 _ rfl
    rw [show ∀ (a : List Value), a.take (Try.prog.cellsOf 3) = a.take 1 from fun a => by rw [show Try.prog.cellsOf 3 = 1 from by kernel_rfl]] at this
    exact this
  obtain ⟨n2, e2, _⟩ := rdg_int Try.underlying3 h2
  have h3 : Rdg enc Try.prog w held reachBytes 3 [c3] := by
    have this : Rdg enc Try.prog w held reachBytes 3 (List.take (Try.prog.cellsOf 3) (List.drop 3 [c0, c1, c2, c3])) := hf 3 _ rfl
    rw [show ∀ (a : List Value), a.take (Try.prog.cellsOf 3) = a.take 1 from fun a => by rw [show Try.prog.cellsOf 3 = 1 from by kernel_rfl]] at this
    exact this
  obtain ⟨n3, e3, _⟩ := rdg_int Try.underlying3 h3
  injection e0 with e0 _
  subst e0
  injection e1 with e1 _
  subst e1
  injection e2 with e2 _
  subst e2
  injection e3 with e3 _
  subst e3
  exact ⟨⟨n0, n1, n2, n3⟩, rfl, trivial⟩
theorem rd_edge {H : Type} {enc : TypeId × Value → H} {w : World} {held : Bool} {cs : List Value} (h : Rdg enc Try.prog w held reachBytes 76 cs) : ∃ x, cs = encEdge x ∧ True := by
  obtain ⟨hl, hf⟩ := rdg_struct Try.underlying76 h
  obtain ⟨c0, c1, c2, rfl⟩ := list3 (hl.trans (by kernel_rfl) : cs.length = 3)
  have h0 : Rdg enc Try.prog w held reachBytes 3 [c0] := by
    have this : Rdg enc Try.prog w held reachBytes 3 (List.take (Try.prog.cellsOf 3) (List.drop 0 [c0, c1, c2])) := hf 0 _ rfl
    rw [show ∀ (a : List Value), a.take (Try.prog.cellsOf 3) = a.take 1 from fun a => by rw [show Try.prog.cellsOf 3 = 1 from by kernel_rfl]] at this
    exact this
  obtain ⟨n0, e0, _⟩ := rdg_int Try.underlying3 h0
  have h1 : Rdg enc Try.prog w held reachBytes 3 [c1] := by
    have this : Rdg enc Try.prog w held reachBytes 3 (List.take (Try.prog.cellsOf 3) (List.drop 1 [c0, c1, c2])) := hf 1 _ rfl
    rw [show ∀ (a : List Value), a.take (Try.prog.cellsOf 3) = a.take 1 from fun a => by rw [show Try.prog.cellsOf 3 = 1 from by kernel_rfl]] at this
    exact this
  obtain ⟨n1, e1, _⟩ := rdg_int Try.underlying3 h1
  have h2 : Rdg enc Try.prog w held reachBytes 3 [c2] := by
    have this : Rdg enc Try.prog w held reachBytes 3 (List.take (Try.prog.cellsOf 3) (List.drop 2 [c0, c1, c2])) := hf 2 _ rfl
    rw [show ∀ (a : List Value), a.take (Try.prog.cellsOf 3) = a.take 1 from fun a => by rw [show Try.prog.cellsOf 3 = 1 from by kernel_rfl]] at this
    exact this
  obtain ⟨n2, e2, _⟩ := rdg_int Try.underlying3 h2
  injection e0 with e0 _
  subst e0
  injection e1 with e1 _
  subst e1
  injection e2 with e2 _
  subst e2
  exact ⟨⟨n0, n1, n2⟩, rfl, trivial⟩
theorem rd_lie {H : Type} {enc : TypeId × Value → H} {w : World} {held : Bool} {cs : List Value} (h : Rdg enc Try.prog w held reachBytes 23 cs) : ∃ x, cs = encLie x ∧ True := by
  obtain ⟨hl, hf⟩ := rdg_struct Try.underlying23 h
  obtain ⟨c0, c1, c2, c3, c4, c5, c6, c7, c8, c9, c10, c11, rfl⟩ := list12 (hl.trans (by kernel_rfl) : cs.length = 12)
  have h0 : Rdg enc Try.prog w held reachBytes 3 [c0] := by
    have this : Rdg enc Try.prog w held reachBytes 3 (List.take (Try.prog.cellsOf 3) (List.drop 0 [c0, c1, c2, c3, c4, c5, c6, c7, c8, c9, c10, c11])) := hf 0 _ rfl
    rw [show ∀ (a : List Value), a.take (Try.prog.cellsOf 3) = a.take 1 from fun a => by rw [show Try.prog.cellsOf 3 = 1 from by kernel_rfl]] at this
    exact this
  obtain ⟨n0, e0, _⟩ := rdg_int Try.underlying3 h0
  have h1 : Rdg enc Try.prog w held reachBytes 3 [c1] := by
    have this : Rdg enc Try.prog w held reachBytes 3 (List.take (Try.prog.cellsOf 3) (List.drop 1 [c0, c1, c2, c3, c4, c5, c6, c7, c8, c9, c10, c11])) := hf 1 _ rfl
    rw [show ∀ (a : List Value), a.take (Try.prog.cellsOf 3) = a.take 1 from fun a => by rw [show Try.prog.cellsOf 3 = 1 from by kernel_rfl]] at this
    exact this
  obtain ⟨n1, e1, _⟩ := rdg_int Try.underlying3 h1
  have h2 : Rdg enc Try.prog w held reachBytes 3 [c2] := by
    have this : Rdg enc Try.prog w held reachBytes 3 (List.take (Try.prog.cellsOf 3) (List.drop 2 [c0, c1, c2, c3, c4, c5, c6, c7, c8, c9, c10, c11])) := hf 2 _ rfl
    rw [show ∀ (a : List Value), a.take (Try.prog.cellsOf 3) = a.take 1 from fun a => by rw [show Try.prog.cellsOf 3 = 1 from by kernel_rfl]] at this
    exact this
  obtain ⟨n2, e2, _⟩ := rdg_int Try.underlying3 h2
  have h3 : Rdg enc Try.prog w held reachBytes 3 [c3] := by
    have this : Rdg enc Try.prog w held reachBytes 3 (List.take (Try.prog.cellsOf 3) (List.drop 3 [c0, c1, c2, c3, c4, c5, c6, c7, c8, c9, c10, c11])) := hf 3 _ rfl
    rw [show ∀ (a : List Value), a.take (Try.prog.cellsOf 3) = a.take 1 from fun a => by rw [show Try.prog.cellsOf 3 = 1 from by kernel_rfl]] at this
    exact this
  obtain ⟨n3, e3, _⟩ := rdg_int Try.underlying3 h3
  have h4 : Rdg enc Try.prog w held reachBytes 3 [c4] := by
    have this : Rdg enc Try.prog w held reachBytes 3 (List.take (Try.prog.cellsOf 3) (List.drop 4 [c0, c1, c2, c3, c4, c5, c6, c7, c8, c9, c10, c11])) := hf 4 _ rfl
    rw [show ∀ (a : List Value), a.take (Try.prog.cellsOf 3) = a.take 1 from fun a => by rw [show Try.prog.cellsOf 3 = 1 from by kernel_rfl]] at this
    exact this
  obtain ⟨n4, e4, _⟩ := rdg_int Try.underlying3 h4
  have h5 : Rdg enc Try.prog w held reachBytes 3 [c5] := by
    have this : Rdg enc Try.prog w held reachBytes 3 (List.take (Try.prog.cellsOf 3) (List.drop 5 [c0, c1, c2, c3, c4, c5, c6, c7, c8, c9, c10, c11])) := hf 5 _ rfl
    rw [show ∀ (a : List Value), a.take (Try.prog.cellsOf 3) = a.take 1 from fun a => by rw [show Try.prog.cellsOf 3 = 1 from by kernel_rfl]] at this
    exact this
  obtain ⟨n5, e5, _⟩ := rdg_int Try.underlying3 h5
  have h6 : Rdg enc Try.prog w held reachBytes 3 [c6] := by
    have this : Rdg enc Try.prog w held reachBytes 3 (List.take (Try.prog.cellsOf 3) (List.drop 6 [c0, c1, c2, c3, c4, c5, c6, c7, c8, c9, c10, c11])) := hf 6 _ rfl
    rw [show ∀ (a : List Value), a.take (Try.prog.cellsOf 3) = a.take 1 from fun a => by rw [show Try.prog.cellsOf 3 = 1 from by kernel_rfl]] at this
    exact this
  obtain ⟨n6, e6, _⟩ := rdg_int Try.underlying3 h6
  have h7 : Rdg enc Try.prog w held reachBytes 3 [c7] := by
    have this : Rdg enc Try.prog w held reachBytes 3 (List.take (Try.prog.cellsOf 3) (List.drop 7 [c0, c1, c2, c3, c4, c5, c6, c7, c8, c9, c10, c11])) := hf 7 _ rfl
    rw [show ∀ (a : List Value), a.take (Try.prog.cellsOf 3) = a.take 1 from fun a => by rw [show Try.prog.cellsOf 3 = 1 from by kernel_rfl]] at this
    exact this
  obtain ⟨n7, e7, _⟩ := rdg_int Try.underlying3 h7
  have h8 : Rdg enc Try.prog w held reachBytes 3 [c8] := by
    have this : Rdg enc Try.prog w held reachBytes 3 (List.take (Try.prog.cellsOf 3) (List.drop 8 [c0, c1, c2, c3, c4, c5, c6, c7, c8, c9, c10, c11])) := hf 8 _ rfl
    rw [show ∀ (a : List Value), a.take (Try.prog.cellsOf 3) = a.take 1 from fun a => by rw [show Try.prog.cellsOf 3 = 1 from by kernel_rfl]] at this
    exact this
  obtain ⟨n8, e8, _⟩ := rdg_int Try.underlying3 h8
  have h9 : Rdg enc Try.prog w held reachBytes 3 [c9] := by
    have this : Rdg enc Try.prog w held reachBytes 3 (List.take (Try.prog.cellsOf 3) (List.drop 9 [c0, c1, c2, c3, c4, c5, c6, c7, c8, c9, c10, c11])) := hf 9 _ rfl
    rw [show ∀ (a : List Value), a.take (Try.prog.cellsOf 3) = a.take 1 from fun a => by rw [show Try.prog.cellsOf 3 = 1 from by kernel_rfl]] at this
    exact this
  obtain ⟨n9, e9, _⟩ := rdg_int Try.underlying3 h9
  have h10 : Rdg enc Try.prog w held reachBytes 4 [c10] := by
    have this : Rdg enc Try.prog w held reachBytes 4 (List.take (Try.prog.cellsOf 4) (List.drop 10 [c0, c1, c2, c3, c4, c5, c6, c7, c8, c9, c10, c11])) := hf 10 _ rfl
    rw [show ∀ (a : List Value), a.take (Try.prog.cellsOf 4) = a.take 1 from fun a => by rw [show Try.prog.cellsOf 4 = 1 from by kernel_rfl]] at this
    exact this
  obtain ⟨n10, e10⟩ := rdg_bool Try.underlying4 h10
  have h11 : Rdg enc Try.prog w held reachBytes 4 [c11] := by
    have this : Rdg enc Try.prog w held reachBytes 4 (List.take (Try.prog.cellsOf 4) (List.drop 11 [c0, c1, c2, c3, c4, c5, c6, c7, c8, c9, c10, c11])) := hf 11 _ rfl
    rw [show ∀ (a : List Value), a.take (Try.prog.cellsOf 4) = a.take 1 from fun a => by rw [show Try.prog.cellsOf 4 = 1 from by kernel_rfl]] at this
    exact this
  obtain ⟨n11, e11⟩ := rdg_bool Try.underlying4 h11
  injection e0 with e0 _
  subst e0
  injection e1 with e1 _
  subst e1
  injection e2 with e2 _
  subst e2
  injection e3 with e3 _
  subst e3
  injection e4 with e4 _
  subst e4
  injection e5 with e5 _
  subst e5
  injection e6 with e6 _
  subst e6
  injection e7 with e7 _
  subst e7
  injection e8 with e8 _
  subst e8
  injection e9 with e9 _
  subst e9
  injection e10 with e10 _
  subst e10
  injection e11 with e11 _
  subst e11
  exact ⟨⟨n0, n1, n2, n3, n4, n5, n6, n7, n8, n9, n10, n11⟩, rfl, trivial⟩
theorem rd_head {H : Type} {enc : TypeId × Value → H} {w : World} {held : Bool} {cs : List Value} (h : Rdg enc Try.prog w held reachBytes 27 cs) : ∃ x, cs = encHead x ∧ True := by
  obtain ⟨hl, hf⟩ := rdg_struct Try.underlying27 h
  obtain ⟨c0, c1, c2, c3, c4, c5, rfl⟩ := list6 (hl.trans (by kernel_rfl) : cs.length = 6)
  have h0 : Rdg enc Try.prog w held reachBytes 25 [c0, c1, c2, c3] := by
    have this : Rdg enc Try.prog w held reachBytes 25 (List.take (Try.prog.cellsOf 25) (List.drop 0 [c0, c1, c2, c3, c4, c5])) := hf 0 _ rfl
    rw [show ∀ (a : List Value), a.take (Try.prog.cellsOf 25) = a.take 4 from fun a => by rw [show Try.prog.cellsOf 25 = 4 from by kernel_rfl]] at this
    exact this
  obtain ⟨⟨a, b, c, d⟩, e0, _⟩ := rd_id h0
  have h1 : Rdg enc Try.prog w held reachBytes 3 [c4] := by
    have this : Rdg enc Try.prog w held reachBytes 3 (List.take (Try.prog.cellsOf 3) (List.drop 4 [c0, c1, c2, c3, c4, c5])) := hf 1 _ rfl
    rw [show ∀ (a : List Value), a.take (Try.prog.cellsOf 3) = a.take 1 from fun a => by rw [show Try.prog.cellsOf 3 = 1 from by kernel_rfl]] at this
    exact this
  obtain ⟨n4, e4, _⟩ := rdg_int Try.underlying3 h1
  have h2 : Rdg enc Try.prog w held reachBytes 3 [c5] := by
    have this : Rdg enc Try.prog w held reachBytes 3 (List.take (Try.prog.cellsOf 3) (List.drop 5 [c0, c1, c2, c3, c4, c5])) := hf 2 _ rfl
    rw [show ∀ (a : List Value), a.take (Try.prog.cellsOf 3) = a.take 1 from fun a => by rw [show Try.prog.cellsOf 3 = 1 from by kernel_rfl]] at this
    exact this
  obtain ⟨n5, e5, _⟩ := rdg_int Try.underlying3 h2
  simp only [encId, List.cons.injEq, and_true] at e0
  obtain ⟨rfl, rfl, rfl, rfl⟩ := e0
  injection e4 with e4 _
  subst e4
  injection e5 with e5 _
  subst e5
  exact ⟨⟨⟨a, b, c, d⟩, n4, n5⟩, rfl, trivial⟩
theorem rd_prefix {H : Type} {enc : TypeId × Value → H} {w : World} {held : Bool} {cs : List Value} (h : Rdg enc Try.prog w held reachBytes 79 cs) : ∃ (n b : Int), cs = [.int .u32 n, .int .i64 b] ∧ (0 ≤ n ∧ n < 4294967296) := by
  obtain ⟨hl, hf⟩ := rdg_struct Try.underlying79 h
  obtain ⟨c0, c1, rfl⟩ := list2 (hl.trans (by kernel_rfl) : cs.length = 2)
  have h0 : Rdg enc Try.prog w held reachBytes 77 [c0] := by
    have this : Rdg enc Try.prog w held reachBytes 77 (List.take (Try.prog.cellsOf 77) (List.drop 0 [c0, c1])) := hf 0 _ rfl
    rw [show ∀ (a : List Value), a.take (Try.prog.cellsOf 77) = a.take 1 from fun a => by rw [show Try.prog.cellsOf 77 = 1 from by kernel_rfl]] at this
    exact this
  have h1 : Rdg enc Try.prog w held reachBytes 3 [c1] := by
    have this : Rdg enc Try.prog w held reachBytes 3 (List.take (Try.prog.cellsOf 3) (List.drop 1 [c0, c1])) := hf 1 _ rfl
    rw [show ∀ (a : List Value), a.take (Try.prog.cellsOf 3) = a.take 1 from fun a => by rw [show Try.prog.cellsOf 3 = 1 from by kernel_rfl]] at this
    exact this
  obtain ⟨n, e0, hw⟩ := rdg_int Try.underlying77 h0
  obtain ⟨b, e1, _⟩ := rdg_int Try.underlying3 h1
  injection e0 with e0 _
  injection e1 with e1 _
  subst e0 e1
  refine ⟨n, b, rfl, ?_⟩
  simp [Lit.wf, IntKind.min, IntKind.max, IntKind.signed, IntKind.bits] at hw
  omega
theorem rd_reach {H : Type} {enc : TypeId × Value → H} {w : World} {held : Bool} {cs : List Value} (h : Rdg enc Try.prog w held reachBytes 81 cs) : ∃ x, cs = encReach x ∧ (0 ≤ x.net ∧ x.net < 4294967296) := by
  obtain ⟨hl, hf⟩ := rdg_struct Try.underlying81 h
  obtain ⟨c0, c1, c2, rfl⟩ := list3 (hl.trans (by kernel_rfl) : cs.length = 3)
  have h0 : Rdg enc Try.prog w held reachBytes 79 [c0, c1] := by
    have this : Rdg enc Try.prog w held reachBytes 79 (List.take (Try.prog.cellsOf 79) (List.drop 0 [c0, c1, c2])) := hf 0 _ rfl
    rw [show ∀ (a : List Value), a.take (Try.prog.cellsOf 79) = a.take 2 from fun a => by rw [show Try.prog.cellsOf 79 = 2 from by kernel_rfl]] at this
    exact this
  obtain ⟨n, b, e0, hn⟩ := rd_prefix h0
  have h1 : Rdg enc Try.prog w held reachBytes 3 [c2] := by
    have this : Rdg enc Try.prog w held reachBytes 3 (List.take (Try.prog.cellsOf 3) (List.drop 2 [c0, c1, c2])) := hf 1 _ rfl
    rw [show ∀ (a : List Value), a.take (Try.prog.cellsOf 3) = a.take 1 from fun a => by rw [show Try.prog.cellsOf 3 = 1 from by kernel_rfl]] at this
    exact this
  obtain ⟨n2, e2, _⟩ := rdg_int Try.underlying3 h1
  simp only [List.cons.injEq, and_true] at e0
  obtain ⟨rfl, rfl⟩ := e0
  injection e2 with e2 _
  subst e2
  exact ⟨⟨n, b, n2⟩, rfl, hn⟩
instance : Inhabited HeadT := ⟨HeadT.zero⟩
instance : Inhabited EdgeT := ⟨EdgeT.zero⟩
instance : Inhabited ReachT := ⟨ReachT.zero⟩
theorem rd_tie {H : Type} {enc : TypeId × Value → H} {w : World} {held : Bool} {cs : List Value} (h : Rdg enc Try.prog w held reachBytes 31 cs) : ∃ (x : TieT) (a b : Option Addr × Nat), cs = encTie x (.slice a.1 x.edges.length a.2) (.slice b.1 x.reaches.length b.2) ∧
    (x.edges.length ≤ a.2 ∧ a.2 ≤ maxLen ∧ RdR 3 encEdge w.heap.size w a.1 x.edges ∧ a.2 * Try.prog.bytesOf 76 ≤ reachBytes) ∧ (x.reaches.length ≤ b.2 ∧ b.2 ≤ maxLen ∧ RdR 3 encReach w.heap.size w b.1 x.reaches ∧ b.2 * Try.prog.bytesOf 81 ≤ reachBytes) ∧ ∀ y ∈ x.reaches, 0 ≤ y.net ∧ y.net < 4294967296 := by
  obtain ⟨hl, hf⟩ := rdg_struct Try.underlying31 h
  obtain ⟨c0, c1, c2, c3, c4, c5, c6, c7, c8, c9, rfl⟩ := list10 (hl.trans (by kernel_rfl) : cs.length = 10)
  have h0 : Rdg enc Try.prog w held reachBytes 27 [c0, c1, c2, c3, c4, c5] := by
    have this : Rdg enc Try.prog w held reachBytes 27 (List.take (Try.prog.cellsOf 27) (List.drop 0 [c0, c1, c2, c3, c4, c5, c6, c7, c8, c9])) := hf 0 _ rfl
    rw [show ∀ (a : List Value), a.take (Try.prog.cellsOf 27) = a.take 6 from fun a => by rw [show Try.prog.cellsOf 27 = 6 from by kernel_rfl]] at this
    exact this
  have h1 : Rdg enc Try.prog w held reachBytes 3 [c6] := by
    have this : Rdg enc Try.prog w held reachBytes 3 (List.take (Try.prog.cellsOf 3) (List.drop 6 [c0, c1, c2, c3, c4, c5, c6, c7, c8, c9])) := hf 1 _ rfl
    rw [show ∀ (a : List Value), a.take (Try.prog.cellsOf 3) = a.take 1 from fun a => by rw [show Try.prog.cellsOf 3 = 1 from by kernel_rfl]] at this
    exact this
  have h2 : Rdg enc Try.prog w held reachBytes 4 [c7] := by
    have this : Rdg enc Try.prog w held reachBytes 4 (List.take (Try.prog.cellsOf 4) (List.drop 7 [c0, c1, c2, c3, c4, c5, c6, c7, c8, c9])) := hf 2 _ rfl
    rw [show ∀ (a : List Value), a.take (Try.prog.cellsOf 4) = a.take 1 from fun a => by rw [show Try.prog.cellsOf 4 = 1 from by kernel_rfl]] at this
    exact this
  have h3 : Rdg enc Try.prog w held reachBytes 28 [c8] := by
    have this : Rdg enc Try.prog w held reachBytes 28 (List.take (Try.prog.cellsOf 28) (List.drop 8 [c0, c1, c2, c3, c4, c5, c6, c7, c8, c9])) := hf 3 _ rfl
    rw [show ∀ (a : List Value), a.take (Try.prog.cellsOf 28) = a.take 1 from fun a => by rw [show Try.prog.cellsOf 28 = 1 from by kernel_rfl]] at this
    exact this
  have h4 : Rdg enc Try.prog w held reachBytes 29 [c9] := by
    have this : Rdg enc Try.prog w held reachBytes 29 (List.take (Try.prog.cellsOf 29) (List.drop 9 [c0, c1, c2, c3, c4, c5, c6, c7, c8, c9])) := hf 4 _ rfl
    rw [show ∀ (a : List Value), a.take (Try.prog.cellsOf 29) = a.take 1 from fun a => by rw [show Try.prog.cellsOf 29 = 1 from by kernel_rfl]] at this
    exact this
  obtain ⟨⟨⟨i0, i1, i2, i3⟩, i4, i5⟩, e0, _⟩ := rd_head h0
  obtain ⟨n1, e1, _⟩ := rdg_int Try.underlying3 h1
  obtain ⟨n2, e2⟩ := rdg_bool Try.underlying4 h2
  obtain ⟨le, c_le, e3, le1, le2, le3, le4, le5⟩ : ∃ (l : List EdgeT) (x : Option Addr × Nat), c8 = .slice x.1 l.length x.2 ∧ l.length ≤ x.2 ∧ x.2 ≤ maxLen ∧ RdR 3 encEdge w.heap.size w x.1 l ∧ (∀ y ∈ l, True) ∧ x.2 * Try.prog.bytesOf 76 ≤ reachBytes := by
    obtain ⟨A, l, cap, q1, q2, q3, q4, q5, q6⟩ := rdg_slice (en := encEdge) (sz := 3) Try.underlying28 (by kernel_rfl) (fun _ => rfl) (fun cs h => rd_edge h) h3 (by decide)
    exact ⟨l, (A, cap), q1, q2, q3, q4, q5, q6⟩
  obtain ⟨lr, c_lr, e4, lr1, lr2, lr3, lr4, lr5⟩ : ∃ (l : List ReachT) (x : Option Addr × Nat), c9 = .slice x.1 l.length x.2 ∧ l.length ≤ x.2 ∧ x.2 ≤ maxLen ∧ RdR 3 encReach w.heap.size w x.1 l ∧ (∀ y ∈ l, 0 ≤ y.net ∧ y.net < 4294967296) ∧ x.2 * Try.prog.bytesOf 81 ≤ reachBytes := by
    obtain ⟨A, l, cap, q1, q2, q3, q4, q5, q6⟩ := rdg_slice (en := encReach) (sz := 3) Try.underlying29 (by kernel_rfl) (fun _ => rfl) (fun cs h => rd_reach h) h4 (by decide)
    exact ⟨l, (A, cap), q1, q2, q3, q4, q5, q6⟩
  simp only [encHead, encId, List.cons_append, List.nil_append, List.cons.injEq, and_true] at e0 e1 e2
  obtain ⟨rfl, rfl, rfl, rfl, rfl, rfl⟩ := e0
  subst e1 e2 e3 e4
  exact ⟨⟨⟨⟨i0, i1, i2, i3⟩, i4, i5⟩, n1, n2, le, lr⟩, c_le, c_lr, rfl, ⟨le1, le2, le3, le5⟩, ⟨lr1, lr2, lr3, lr5⟩, lr4⟩
theorem rd_pack {H : Type} {enc : TypeId × Value → H} {w : World} {held : Bool} {cs : List Value} (h : Rdg enc Try.prog w held reachBytes 34 cs) : ∃ (p : PackT) (ae ar ah : Option Addr) (ce cr ch : Nat), cs = encPack p (.slice ae p.tie.edges.length ce) (.slice ar p.tie.reaches.length cr) (.slice ah p.heads.length ch) ∧ Pk w.heap.size w p ae ar ah ce cr ch := by
  obtain ⟨hl, hf⟩ := rdg_struct Try.underlying34 h
  obtain ⟨c0, c1, c2, c3, c4, c5, c6, c7, c8, c9, c10, c11, c12, c13, c14, c15, c16, c17, c18, c19, c20, c21, c22, c23, c24, c25, c26, c27, c28, c29, c30, c31, rfl⟩ := list32 (hl.trans (by kernel_rfl) : cs.length = 32)
  have h0 : Rdg enc Try.prog w held reachBytes 3 [c0] := by
    have this : Rdg enc Try.prog w held reachBytes 3 (List.take (Try.prog.cellsOf 3) (List.drop 0 [c0, c1, c2, c3, c4, c5, c6, c7, c8, c9, c10, c11, c12, c13, c14, c15, c16, c17, c18, c19, c20, c21, c22, c23, c24, c25, c26, c27, c28, c29, c30, c31])) := hf 0 _ rfl
    rw [show ∀ (a : List Value), a.take (Try.prog.cellsOf 3) = a.take 1 from fun a => by rw [show Try.prog.cellsOf 3 = 1 from by kernel_rfl]] at this
    exact this
  have h1 : Rdg enc Try.prog w held reachBytes 23 [c1, c2, c3, c4, c5, c6, c7, c8, c9, c10, c11, c12] := by
    have this : Rdg enc Try.prog w held reachBytes 23 (List.take (Try.prog.cellsOf 23) (List.drop 1 [c0, c1, c2, c3, c4, c5, c6, c7, c8, c9, c10, c11, c12, c13, c14, c15, c16, c17, c18, c19, c20, c21, c22, c23, c24, c25, c26, c27, c28, c29, c30, c31])) := hf 1 _ rfl
    rw [show ∀ (a : List Value), a.take (Try.prog.cellsOf 23) = a.take 12 from fun a => by rw [show Try.prog.cellsOf 23 = 12 from by kernel_rfl]] at this
    exact this
  have h2 : Rdg enc Try.prog w held reachBytes 31 [c13, c14, c15, c16, c17, c18, c19, c20, c21, c22] := by
    have this : Rdg enc Try.prog w held reachBytes 31 (List.take (Try.prog.cellsOf 31) (List.drop 13 [c0, c1, c2, c3, c4, c5, c6, c7, c8, c9, c10, c11, c12, c13, c14, c15, c16, c17, c18, c19, c20, c21, c22, c23, c24, c25, c26, c27, c28, c29, c30, c31])) := hf 2 _ rfl
    rw [show ∀ (a : List Value), a.take (Try.prog.cellsOf 31) = a.take 10 from fun a => by rw [show Try.prog.cellsOf 31 = 10 from by kernel_rfl]] at this
    exact this
  have h3 : Rdg enc Try.prog w held reachBytes 25 [c23, c24, c25, c26] := by
    have this : Rdg enc Try.prog w held reachBytes 25 (List.take (Try.prog.cellsOf 25) (List.drop 23 [c0, c1, c2, c3, c4, c5, c6, c7, c8, c9, c10, c11, c12, c13, c14, c15, c16, c17, c18, c19, c20, c21, c22, c23, c24, c25, c26, c27, c28, c29, c30, c31])) := hf 3 _ rfl
    rw [show ∀ (a : List Value), a.take (Try.prog.cellsOf 25) = a.take 4 from fun a => by rw [show Try.prog.cellsOf 25 = 4 from by kernel_rfl]] at this
    exact this
  have h4 : Rdg enc Try.prog w held reachBytes 25 [c27, c28, c29, c30] := by
    have this : Rdg enc Try.prog w held reachBytes 25 (List.take (Try.prog.cellsOf 25) (List.drop 27 [c0, c1, c2, c3, c4, c5, c6, c7, c8, c9, c10, c11, c12, c13, c14, c15, c16, c17, c18, c19, c20, c21, c22, c23, c24, c25, c26, c27, c28, c29, c30, c31])) := hf 4 _ rfl
    rw [show ∀ (a : List Value), a.take (Try.prog.cellsOf 25) = a.take 4 from fun a => by rw [show Try.prog.cellsOf 25 = 4 from by kernel_rfl]] at this
    exact this
  have h5 : Rdg enc Try.prog w held reachBytes 32 [c31] := by
    have this : Rdg enc Try.prog w held reachBytes 32 (List.take (Try.prog.cellsOf 32) (List.drop 31 [c0, c1, c2, c3, c4, c5, c6, c7, c8, c9, c10, c11, c12, c13, c14, c15, c16, c17, c18, c19, c20, c21, c22, c23, c24, c25, c26, c27, c28, c29, c30, c31])) := hf 5 _ rfl
    rw [show ∀ (a : List Value), a.take (Try.prog.cellsOf 32) = a.take 1 from fun a => by rw [show Try.prog.cellsOf 32 = 1 from by kernel_rfl]] at this
    exact this
  obtain ⟨k, e0, _⟩ := rdg_int Try.underlying3 h0
  obtain ⟨l, e1, _⟩ := rd_lie h1
  obtain ⟨x, a, b, e2, he, hr, hok⟩ := rd_tie h2
  obtain ⟨fr, e3, _⟩ := rd_id h3
  obtain ⟨to, e4, _⟩ := rd_id h4
  obtain ⟨lh, c_lh, e5, lh1, lh2, lh3, lh4, lh5⟩ : ∃ (l : List HeadT) (x : Option Addr × Nat), c31 = .slice x.1 l.length x.2 ∧ l.length ≤ x.2 ∧ x.2 ≤ maxLen ∧ RdR 6 encHead w.heap.size w x.1 l ∧ (∀ y ∈ l, True) ∧ x.2 * Try.prog.bytesOf 27 ≤ reachBytes := by
    obtain ⟨A, l, cap, q1, q2, q3, q4, q5, q6⟩ := rdg_slice (en := encHead) (sz := 6) Try.underlying32 (by kernel_rfl) (fun _ => rfl) (fun cs h => rd_head h) h5 (by decide)
    exact ⟨l, (A, cap), q1, q2, q3, q4, q5, q6⟩
  rw [show Try.prog.bytesOf 27 = 48 from by kernel_rfl, reachBytes] at lh5
  rw [show Try.prog.bytesOf 76 = 24 from by kernel_rfl, reachBytes] at he
  rw [show Try.prog.bytesOf 81 = 24 from by kernel_rfl, reachBytes] at hr
  have hc : [c0, c1, c2, c3, c4, c5, c6, c7, c8, c9, c10, c11, c12, c13, c14, c15, c16, c17, c18, c19, c20, c21, c22, c23, c24, c25, c26, c27, c28, c29, c30, c31] = [c0] ++ ([c1, c2, c3, c4, c5, c6, c7, c8, c9, c10, c11, c12] ++ ([c13, c14, c15, c16, c17, c18, c19, c20, c21, c22] ++ ([c23, c24, c25, c26] ++ ([c27, c28, c29, c30] ++ [c31])))) := rfl
  rw [hc, e0, e1, e2, e3, e4, e5]
  exact ⟨⟨k, l, x, fr, to, lh⟩, a.1, b.1, c_lh.1, a.2, b.2, c_lh.2, rfl, ⟨he.2.2.1, hr.2.2.1, lh3, ⟨by show x.edges.length ≤ _; omega, he.1, he.2.1⟩, ⟨by show x.reaches.length ≤ _; omega, hr.1, hr.2.1⟩, ⟨by show lh.length ≤ _; omega, lh1, lh2⟩, hok⟩⟩
theorem pk_of {H : Type} {enc : TypeId × Value → H} {W : World} {held : Bool} {cs : Array Value} {d : DataW H} {ps : List MemPlace} (h : DataW.Trod enc Try.prog W 0 (fun _ => true) held 34 (.agg cs) d ps)
    (hM : ∀ n ∈ d.weights Try.prog 34, n ≤ reachBytes) : ∃ (p : PackT) (ae ar ah : Option Addr) (ce cr ch : Nat), cs = (encPack p (.slice ae p.tie.edges.length ce) (.slice ar p.tie.reaches.length cr) (.slice ah p.heads.length ch)).toArray ∧ Pk W.heap.size W p ae ar ah ce cr ch := by
  obtain ⟨fuel, hf⟩ := h
  have hf' : DataW.trod enc Try.prog W 0 (fun _ => true) held fuel 34 cs.toList = some (d, ps) := hf
  obtain ⟨p, ae, ar, ah, ce, cr, ch, e, hp⟩ := rd_pack ⟨fuel, (d, ps), hf', hM⟩
  exact ⟨p, ae, ar, ah, ce, cr, ch, by rw [← e], hp⟩
end Go.Proofs.Ytjkibgnkkienbaa
