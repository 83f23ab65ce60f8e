/-
  WHAT CAME IN: ports, lies, steps.
-/
import Derived.Test.YticbfmbinopjcaaLTake
import Derived.ProofKit
import Derived.OpenShut
import Derived.ChangeOld
import Derived.Stop.Joined
import Derived.Deep.CondSized
import Derived.Deep.Slices
namespace Go.Proofs.Yticbfmbinopjcaa
set_option linter.unusedSimpArgs false
set_option linter.unusedVariables false
open Go.RowKit Go.ChangeShapes Go.WideShapes
def InI (m : Int) : Prop := -9223372036854775808 ≤ m ∧ m ≤ 9223372036854775807
theorem bounds64 {m : Int} (h : (Lit.int .i64 m).wf = true) : InI m := by
  unfold InI
  simpa [Lit.wf, IntKind.min, IntKind.max, IntKind.signed, IntKind.bits] using h
/-- Some cells read at a type. -/
def Rdf {H : Type} (enc : TypeId × Value → H) (P : Program) (w : World) (held : Bool) (t : TypeId) (cs : List Value) : Prop := ∃ fuel x, DataW.trod enc P w 0 (fun _ => true) held fuel t cs = some x
section
variable {H : Type} {enc : TypeId × Value → H} {P : Program} {w : World} {held : Bool}
theorem rdf_int {t : TypeId} {k : IntKind} {cs : List Value} (ht : P.underlying t = some (.int k)) (h : Rdf enc P w held t cs) : ∃ n, cs = [.int k n] ∧ (Lit.int k n).wf = true := by
  obtain ⟨fuel, x, hx⟩ := h
  obtain ⟨n, e, _, hw⟩ := DataW.trod_int ht hx
  exact ⟨n, e, hw⟩
theorem rdf_bool {t : TypeId} {cs : List Value} (ht : P.underlying t = some .bool) (h : Rdf enc P w held t cs) : ∃ b, cs = [.bool b] := by
  obtain ⟨fuel, x, hx⟩ := h
  obtain ⟨b, e, _⟩ := DataW.trod_bool ht hx
  exact ⟨b, e⟩
theorem rdf_struct {t : TypeId} {fs : Array Field} {cs : List Value} (ht : P.underlying t = some (.struct fs)) (h : Rdf enc P w held t cs) : cs.length = P.cellsOf t ∧ ∀ (i : Nat) (f : Field), fs[i]? = some f → Rdf enc P w held f.type ((cs.drop f.offset).take (P.cellsOf f.type)) := by
  obtain ⟨fuel, x, hx⟩ := h
  obtain ⟨xs, n, _, rfl, hl, hlen, hf⟩ := DataW.trod_struct ht hx
  refine ⟨hl, fun i f hif => ?_⟩
  have hi : i < xs.length := by
    rw [hlen]
    exact (Array.getElem?_eq_some_iff.1 hif).1
  exact ⟨n, xs[i], by rw [hf i f hif, List.getElem?_eq_getElem hi]⟩
/-- A slice of structs. -/
theorem rdf_slice {E : Type} [Inhabited E] {sz : Nat} {en : E → List Value} {ok : E → Prop} {s t : TypeId} {v : Value} (hs : P.underlying s = some (.slice t)) (hsz : P.cellsOf t = sz) (hen : ∀ x, (en x).length = sz)
    (elem : ∀ cs, Rdf enc P w held t cs → ∃ x, cs = en x ∧ ok x) (h : Rdf enc P w held s [v]) (hp : 0 < sz) :
    ∃ (A : Option Addr) (l : List E) (cap : Nat), v = .slice A l.length cap ∧ l.length ≤ cap ∧ cap ≤ maxLen ∧ RdR sz en w.heap.size w A l ∧ ∀ y ∈ l, ok y := by
  obtain ⟨fuel, x, hx⟩ := h
  rcases Go.Deep.open_slice hs hx with ⟨hcs, _⟩ | ⟨a, len, cap, m, n, D, Pl, hcs, _, hl, hm, hmm, rfl, hall⟩
  · injection hcs with hcs
    exact ⟨none, [], 0, hcs, Nat.le_refl _, Nat.zero_le _, fun hp => by simp at hp, by simp⟩
  · injection hcs with hcs
    subst hcs
    simp only [if_true] at hmm
    subst hmm
    rw [hsz] at hall
    have hall2 : ∀ i', i' < m → ∃ q : E, w.cells? 0 (a.add (i' * sz)) sz = some (en q) ∧ ok q := by
      intro i' hi'
      obtain ⟨cs, hcs, htr⟩ := hall i' hi'
      obtain ⟨y, e1, e2⟩ := elem cs ⟨_, _, htr⟩
      subst e1
      exact ⟨y, hcs, e2⟩
    obtain ⟨f, hf⟩ := Go.Deep.choose_lt hall2
    refine ⟨some a, (List.range len).map f, m, by simp, by simpa using hl, hm, fun hp' => ?_, ?_⟩
    · have hlen : 0 < len := by simpa using hp'
      have cell : ∀ j, j < m → ∀ k, k < sz → w.cell? (a.add (j * sz + k)) = (en (f j))[k]? := fun j hj k hk => by
        have := (World.cells?_some (hf j hj).1).2.2 k hk
        rwa [Go.Deep.add_add] at this
      obtain ⟨b, off, spot⟩ := a
      have h0 := cell 0 (by omega) 0 hp
      have h00 : (en (f 0))[0]? = some ((en (f 0))[0]'(by rw [hen]; exact hp)) := List.getElem?_eq_getElem _
      have hspot : spot = none := by simpa [Addr.add] using World.cell?_spot (h0.trans h00)
      subst hspot
      have plain : ∀ k, (⟨b, off, none⟩ : Addr).add k = ⟨b, off + k, none⟩ := fun k => by unfold Addr.add; split <;> simp_all
      rw [plain] at h0
      refine ⟨b, off, rfl, World.block_lt_of_cell? w _ (h0.trans h00), fun j x hx k u hu => ?_⟩
      have hj : j < len := by
        rcases Nat.lt_or_ge j len with h1 | h1
        · exact h1
        · rw [List.getElem?_eq_none (by simpa using h1)] at hx; cases hx
      obtain rfl : f j = x := by simpa [hj] using hx
      have hk : k < sz := by
        have := (List.getElem?_eq_some_iff.1 hu).1
        rwa [hen] at this
      have g := cell j (by omega) k hk
      rw [plain] at g
      rw [show off + j * sz + k = off + (j * sz + k) by omega]
      exact g.trans hu
    · intro y hy
      obtain ⟨j, hj, rfl⟩ := List.mem_map.1 hy
      exact (hf j (by have := List.mem_range.1 hj; omega)).2
end
theorem lst6 {α : Type} {cs : List α} (h : cs.length = 6) : ∃ c0 c1 c2 c3 c4 c5, cs = [c0, c1, c2, c3, c4, c5] := by
  match cs, h with
  | [c0, c1, c2, c3, c4, c5], _ => exact ⟨c0, c1, c2, c3, c4, c5, rfl⟩
theorem lst12 {α : Type} {cs : List α} (h : cs.length = 12) : ∃ c0 c1 c2 c3 c4 c5 c6 c7 c8 c9 c10 c11, cs = [c0, c1, c2, c3, c4, c5, c6, c7, c8, c9, c10, c11] := by
  match cs, h with
  | [c0, c1, c2, c3, c4, c5, c6, c7, c8, c9, c10, c11], _ => exact ⟨c0, c1, c2, c3, c4, c5, c6, c7, c8, c9, c10, c11, rfl⟩
theorem lst15 {α : Type} {cs : List α} (h : cs.length = 15) : ∃ c0 c1 c2 c3 c4 c5 c6 c7 c8 c9 c10 c11 c12 c13 c14, cs = [c0, c1, c2, c3, c4, c5, c6, c7, c8, c9, c10, c11, c12, c13, c14] := by
  match cs, h with
  | [c0, c1, c2, c3, c4, c5, c6, c7, c8, c9, c10, c11, c12, c13, c14], _ => exact ⟨c0, c1, c2, c3, c4, c5, c6, c7, c8, c9, c10, c11, c12, c13, c14, rfl⟩
def encPort (p : PortT) : List Value := [.int .i64 p.node, .int .i64 p.level, .int .i64 p.pod, .int .i64 p.mtu, .int .i64 p.link, .int .i64 p.hold]
def cellsLie (x : LieT) : List Value := [.int .i64 x.node, .int .i64 x.level, .int .i64 x.pod, .int .i64 x.mtu, .int .i64 x.link, .int .i64 x.nonce, .int .i64 x.seen, .int .i64 x.seenLink, .int .i64 x.seenNonce, .int .i64 x.hold, .bool x.rep, .bool x.noOffer]
/-- A step: what to do, when, with which number, with which lie. -/
structure StepT where
  d : Int
  now : Int
  n : Int
  x : LieT
instance : Inhabited StepT := ⟨⟨0, 0, 0, LieT.zero⟩⟩
def encStep (s : StepT) : List Value := .int .i64 s.d :: .int .i64 s.now :: .int .i64 s.n :: cellsLie s.x
set_option maxRecDepth 100000 in
theorem rdf_port {H : Type} {enc : TypeId × Value → H} {w : World} {held : Bool} {cs : List Value} (h : Rdf enc Try.prog w held 23 cs) : ∃ p : PortT, cs = encPort p ∧ InI p.level ∧ InI p.hold := by
  obtain ⟨hl, hf⟩ := rdf_struct Try.underlying23 h
  obtain ⟨c0, c1, c2, c3, c4, c5, rfl⟩ := lst6 (hl.trans (by kernel_rfl) : cs.length = 6)
  have h0 : Rdf enc Try.prog w held 3 [c0] := by
    have this : Rdf enc Try.prog w held 3 (List.take (Try.prog.cellsOf 3) (List.drop 0 [c0, c1, c2, c3, c4, c5])) := hf 0 _ rfl
    rw [show ∀ (a : List Value), a.take (Try.prog.cellsOf 3) = a.take 1 from fun a => by rw [show Try.prog.cellsOf 3 = 1 from by kernel_rfl]] at this
    exact this
  obtain ⟨n0, e0, w0⟩ := rdf_int Try.underlying3 h0
  injection e0 with e0 _
  subst e0
  have h1 : Rdf enc Try.prog w held 3 [c1] := by
    have this : Rdf enc Try.prog w held 3 (List.take (Try.prog.cellsOf 3) (List.drop 1 [.int .i64 n0, c1, c2, c3, c4, c5])) := hf 1 _ rfl
    rw [show ∀ (a : List Value), a.take (Try.prog.cellsOf 3) = a.take 1 from fun a => by rw [show Try.prog.cellsOf 3 = 1 from by kernel_rfl]] at this
    exact this
  obtain ⟨n1, e1, w1⟩ := rdf_int Try.underlying3 h1
  injection e1 with e1 _
  subst e1
  have h2 : Rdf enc Try.prog w held 3 [c2] := by
    have this : Rdf enc Try.prog w held 3 (List.take (Try.prog.cellsOf 3) (List.drop 2 [.int .i64 n0, .int .i64 n1, c2, c3, c4, c5])) := hf 2 _ rfl
    rw [show ∀ (a : List Value), a.take (Try.prog.cellsOf 3) = a.take 1 from fun a => by rw [show Try.prog.cellsOf 3 = 1 from by kernel_rfl]] at this
    exact this
  obtain ⟨n2, e2, w2⟩ := rdf_int Try.underlying3 h2
  injection e2 with e2 _
  subst e2
  have h3 : Rdf enc Try.prog w held 3 [c3] := by
    have this : Rdf enc Try.prog w held 3 (List.take (Try.prog.cellsOf 3) (List.drop 3 [.int .i64 n0, .int .i64 n1, .int .i64 n2, c3, c4, c5])) := hf 3 _ rfl
    rw [show ∀ (a : List Value), a.take (Try.prog.cellsOf 3) = a.take 1 from fun a => by rw [show Try.prog.cellsOf 3 = 1 from by kernel_rfl]] at this
    exact this
  obtain ⟨n3, e3, w3⟩ := rdf_int Try.underlying3 h3
  injection e3 with e3 _
  subst e3
  have h4 : Rdf enc Try.prog w held 3 [c4] := by
    have this : Rdf enc Try.prog w held 3 (List.take (Try.prog.cellsOf 3) (List.drop 4 [.int .i64 n0, .int .i64 n1, .int .i64 n2, .int .i64 n3, c4, c5])) := hf 4 _ rfl
    rw [show ∀ (a : List Value), a.take (Try.prog.cellsOf 3) = a.take 1 from fun a => by rw [show Try.prog.cellsOf 3 = 1 from by kernel_rfl]] at this
    exact this
  obtain ⟨n4, e4, w4⟩ := rdf_int Try.underlying3 h4
  injection e4 with e4 _
  subst e4
  have h5 : Rdf enc Try.prog w held 3 [c5] := by
    have this : Rdf enc Try.prog w held 3 (List.take (Try.prog.cellsOf 3) (List.drop 5 [.int .i64 n0, .int .i64 n1, .int .i64 n2, .int .i64 n3, .int .i64 n4, c5])) := hf 5 _ rfl
    rw [show ∀ (a : List Value), a.take (Try.prog.cellsOf 3) = a.take 1 from fun a => by rw [show Try.prog.cellsOf 3 = 1 from by kernel_rfl]] at this
    exact this
  obtain ⟨n5, e5, w5⟩ := rdf_int Try.underlying3 h5
  injection e5 with e5 _
  subst e5
  exact ⟨⟨n0, n1, n2, n3, n4, n5⟩, rfl, bounds64 w1, bounds64 w5⟩
set_option maxRecDepth 100000 in
theorem rdf_lie {H : Type} {enc : TypeId × Value → H} {w : World} {held : Bool} {cs : List Value} (h : Rdf enc Try.prog w held 25 cs) : ∃ x : LieT, cs = cellsLie x ∧ InI x.level := by
  obtain ⟨hl, hf⟩ := rdf_struct Try.underlying25 h
  obtain ⟨c0, c1, c2, c3, c4, c5, c6, c7, c8, c9, c10, c11, rfl⟩ := lst12 (hl.trans (by kernel_rfl) : cs.length = 12)
  have h0 : Rdf enc Try.prog w held 3 [c0] := by
    have this : Rdf enc Try.prog w held 3 (List.take (Try.prog.cellsOf 3) (List.drop 0 [c0, c1, c2, c3, c4, c5, c6, c7, c8, c9, c10, c11])) := hf 0 _ rfl
    rw [show ∀ (a : List Value), a.take (Try.prog.cellsOf 3) = a.take 1 from fun a => by rw [show Try.prog.cellsOf 3 = 1 from by kernel_rfl]] at this
    exact this
  obtain ⟨n0, e0, w0⟩ := rdf_int Try.underlying3 h0
  injection e0 with e0 _
  subst e0
  have h1 : Rdf enc Try.prog w held 3 [c1] := by
    have this : Rdf enc Try.prog w held 3 (List.take (Try.prog.cellsOf 3) (List.drop 1 [.int .i64 n0, c1, c2, c3, c4, c5, c6, c7, c8, c9, c10, c11])) := hf 1 _ rfl
    rw [show ∀ (a : List Value), a.take (Try.prog.cellsOf 3) = a.take 1 from fun a => by rw [show Try.prog.cellsOf 3 = 1 from by kernel_rfl]] at this
    exact this
  obtain ⟨n1, e1, w1⟩ := rdf_int Try.underlying3 h1
  injection e1 with e1 _
  subst e1
  have h2 : Rdf enc Try.prog w held 3 [c2] := by
    have this : Rdf enc Try.prog w held 3 (List.take (Try.prog.cellsOf 3) (List.drop 2 [.int .i64 n0, .int .i64 n1, c2, c3, c4, c5, c6, c7, c8, c9, c10, c11])) := hf 2 _ rfl
    rw [show ∀ (a : List Value), a.take (Try.prog.cellsOf 3) = a.take 1 from fun a => by rw [show Try.prog.cellsOf 3 = 1 from by kernel_rfl]] at this
    exact this
  obtain ⟨n2, e2, w2⟩ := rdf_int Try.underlying3 h2
  injection e2 with e2 _
  subst e2
  have h3 : Rdf enc Try.prog w held 3 [c3] := by
    have this : Rdf enc Try.prog w held 3 (List.take (Try.prog.cellsOf 3) (List.drop 3 [.int .i64 n0, .int .i64 n1, .int .i64 n2, c3, c4, c5, c6, c7, c8, c9, c10, c11])) := hf 3 _ rfl
    rw [show ∀ (a : List Value), a.take (Try.prog.cellsOf 3) = a.take 1 from fun a => by rw [show Try.prog.cellsOf 3 = 1 from by kernel_rfl]] at this
    exact this
  obtain ⟨n3, e3, w3⟩ := rdf_int Try.underlying3 h3
  injection e3 with e3 _
  subst e3
  have h4 : Rdf enc Try.prog w held 3 [c4] := by
    have this : Rdf enc Try.prog w held 3 (List.take (Try.prog.cellsOf 3) (List.drop 4 [.int .i64 n0, .int .i64 n1, .int .i64 n2, .int .i64 n3, c4, c5, c6, c7, c8, c9, c10, c11])) := hf 4 _ rfl
    rw [show ∀ (a : List Value), a.take (Try.prog.cellsOf 3) = a.take 1 from fun a => by rw [show Try.prog.cellsOf 3 = 1 from by kernel_rfl]] at this
    exact this
  obtain ⟨n4, e4, w4⟩ := rdf_int Try.underlying3 h4
  injection e4 with e4 _
  subst e4
  have h5 : Rdf enc Try.prog w held 3 [c5] := by
    have this : Rdf enc Try.prog w held 3 (List.take (Try.prog.cellsOf 3) (List.drop 5 [.int .i64 n0, .int .i64 n1, .int .i64 n2, .int .i64 n3, .int .i64 n4, c5, c6, c7, c8, c9, c10, c11])) := hf 5 _ rfl
    rw [show ∀ (a : List Value), a.take (Try.prog.cellsOf 3) = a.take 1 from fun a => by rw [show Try.prog.cellsOf 3 = 1 from by kernel_rfl]] at this
    exact this
  obtain ⟨n5, e5, w5⟩ := rdf_int Try.underlying3 h5
  injection e5 with e5 _
  subst e5
  have h6 : Rdf enc Try.prog w held 3 [c6] := by
    have this : Rdf enc Try.prog w held 3 (List.take (Try.prog.cellsOf 3) (List.drop 6 [.int .i64 n0, .int .i64 n1, .int .i64 n2, .int .i64 n3, .int .i64 n4, .int .i64 n5, c6, c7, c8, c9, c10, c11])) := hf 6 _ rfl
    rw [show ∀ (a : List Value), a.take (Try.prog.cellsOf 3) = a.take 1 from fun a => by rw [show Try.prog.cellsOf 3 = 1 from by kernel_rfl]] at this
    exact this
  obtain ⟨n6, e6, w6⟩ := rdf_int Try.underlying3 h6
  injection e6 with e6 _
  subst e6
  have h7 : Rdf enc Try.prog w held 3 [c7] := by
    have this : Rdf enc Try.prog w held 3 (List.take (Try.prog.cellsOf 3) (List.drop 7 [.int .i64 n0, .int .i64 n1, .int .i64 n2, .int .i64 n3, .int .i64 n4, .int .i64 n5, .int .i64 n6, c7, c8, c9, c10, c11])) := hf 7 _ rfl
    rw [show ∀ (a : List Value), a.take (Try.prog.cellsOf 3) = a.take 1 from fun a => by rw [show Try.prog.cellsOf 3 = 1 from by kernel_rfl]] at this
    exact this
  obtain ⟨n7, e7, w7⟩ := rdf_int Try.underlying3 h7
  injection e7 with e7 _
  subst e7
  have h8 : Rdf enc Try.prog w held 3 [c8] := by
    have this : Rdf enc Try.prog w held 3 (List.take (Try.prog.cellsOf 3) (List.drop 8 [.int .i64 n0, .int .i64 n1, .int .i64 n2, .int .i64 n3, .int .i64 n4, .int .i64 n5, .int .i64 n6, .int .i64 n7, c8, c9, c10, c11])) := hf 8 _ rfl
    rw [show ∀ (a : List Value), a.take (Try.prog.cellsOf 3) = a.take 1 from fun a => by rw [show Try.prog.cellsOf 3 = 1 from by kernel_rfl]] at this
    exact this
  obtain ⟨n8, e8, w8⟩ := rdf_int Try.underlying3 h8
  injection e8 with e8 _
  subst e8
  have h9 : Rdf enc Try.prog w held 3 [c9] := by
    have this : Rdf enc Try.prog w held 3 (List.take (Try.prog.cellsOf 3) (List.drop 9 [.int .i64 n0, .int .i64 n1, .int .i64 n2, .int .i64 n3, .int .i64 n4, .int .i64 n5, .int .i64 n6, .int .i64 n7, .int .i64 n8, c9, c10, c11])) := hf 9 _ rfl
    rw [show ∀ (a : List Value), a.take (Try.prog.cellsOf 3) = a.take 1 from fun a => by rw [show Try.prog.cellsOf 3 = 1 from by kernel_rfl]] at this
    exact this
  obtain ⟨n9, e9, w9⟩ := rdf_int Try.underlying3 h9
  injection e9 with e9 _
  subst e9
  have h10 : Rdf enc Try.prog w held 4 [c10] := by
    have this : Rdf enc Try.prog w held 4 (List.take (Try.prog.cellsOf 4) (List.drop 10 [.int .i64 n0, .int .i64 n1, .int .i64 n2, .int .i64 n3, .int .i64 n4, .int .i64 n5, .int .i64 n6, .int .i64 n7, .int .i64 n8, .int .i64 n9, c10, c11])) := hf 10 _ rfl
    rw [show ∀ (a : List Value), a.take (Try.prog.cellsOf 4) = a.take 1 from fun a => by rw [show Try.prog.cellsOf 4 = 1 from by kernel_rfl]] at this
    exact this
  obtain ⟨n10, e10⟩ := rdf_bool Try.underlying4 h10
  injection e10 with e10 _
  subst e10
  have h11 : Rdf enc Try.prog w held 4 [c11] := by
    have this : Rdf enc Try.prog w held 4 (List.take (Try.prog.cellsOf 4) (List.drop 11 [.int .i64 n0, .int .i64 n1, .int .i64 n2, .int .i64 n3, .int .i64 n4, .int .i64 n5, .int .i64 n6, .int .i64 n7, .int .i64 n8, .int .i64 n9, .bool n10, c11])) := hf 11 _ rfl
    rw [show ∀ (a : List Value), a.take (Try.prog.cellsOf 4) = a.take 1 from fun a => by rw [show Try.prog.cellsOf 4 = 1 from by kernel_rfl]] at this
    exact this
  obtain ⟨n11, e11⟩ := rdf_bool Try.underlying4 h11
  injection e11 with e11 _
  subst e11
  exact ⟨⟨n0, n1, n2, n3, n4, n5, n6, n7, n8, n9, n10, n11⟩, rfl, bounds64 w1⟩
set_option maxRecDepth 100000 in
theorem rdf_step {H : Type} {enc : TypeId × Value → H} {w : World} {held : Bool} {cs : List Value} (h : Rdf enc Try.prog w held 37 cs) : ∃ s : StepT, cs = encStep s ∧ InI s.now := by
  obtain ⟨hl, hf⟩ := rdf_struct Try.underlying37 h
  obtain ⟨c0, c1, c2, c3, c4, c5, c6, c7, c8, c9, c10, c11, c12, c13, c14, rfl⟩ := lst15 (hl.trans (by kernel_rfl) : cs.length = 15)
  have h0 : Rdf enc Try.prog w held 3 [c0] := by
    have this : Rdf enc Try.prog w held 3 (List.take (Try.prog.cellsOf 3) (List.drop 0 [c0, c1, c2, c3, c4, c5, c6, c7, c8, c9, c10, c11, c12, c13, c14])) := hf 0 _ rfl
    rw [show ∀ (a : List Value), a.take (Try.prog.cellsOf 3) = a.take 1 from fun a => by rw [show Try.prog.cellsOf 3 = 1 from by kernel_rfl]] at this
    exact this
  obtain ⟨n0, e0, w0⟩ := rdf_int Try.underlying3 h0
  injection e0 with e0 _
  subst e0
  have h1 : Rdf enc Try.prog w held 3 [c1] := by
    have this : Rdf enc Try.prog w held 3 (List.take (Try.prog.cellsOf 3) (List.drop 1 [.int .i64 n0, c1, c2, c3, c4, c5, c6, c7, c8, c9, c10, c11, c12, c13, c14])) := hf 1 _ rfl
    rw [show ∀ (a : List Value), a.take (Try.prog.cellsOf 3) = a.take 1 from fun a => by rw [show Try.prog.cellsOf 3 = 1 from by kernel_rfl]] at this
    exact this
  obtain ⟨n1, e1, w1⟩ := rdf_int Try.underlying3 h1
  injection e1 with e1 _
  subst e1
  have h2 : Rdf enc Try.prog w held 3 [c2] := by
    have this : Rdf enc Try.prog w held 3 (List.take (Try.prog.cellsOf 3) (List.drop 2 [.int .i64 n0, .int .i64 n1, c2, c3, c4, c5, c6, c7, c8, c9, c10, c11, c12, c13, c14])) := hf 2 _ rfl
    rw [show ∀ (a : List Value), a.take (Try.prog.cellsOf 3) = a.take 1 from fun a => by rw [show Try.prog.cellsOf 3 = 1 from by kernel_rfl]] at this
    exact this
  obtain ⟨n2, e2, w2⟩ := rdf_int Try.underlying3 h2
  injection e2 with e2 _
  subst e2
  have h3 : Rdf enc Try.prog w held 25 [c3, c4, c5, c6, c7, c8, c9, c10, c11, c12, c13, c14] := by
    have this : Rdf enc Try.prog w held 25 (List.take (Try.prog.cellsOf 25) (List.drop 3 [.int .i64 n0, .int .i64 n1, .int .i64 n2, c3, c4, c5, c6, c7, c8, c9, c10, c11, c12, c13, c14])) := hf 3 _ rfl
    rw [show ∀ (a : List Value), a.take (Try.prog.cellsOf 25) = a.take 12 from fun a => by rw [show Try.prog.cellsOf 25 = 12 from by kernel_rfl]] at this
    exact this
  obtain ⟨x, e3, _⟩ := rdf_lie h3
  exact ⟨⟨n0, n1, n2, x⟩, by unfold encStep; rw [← e3], bounds64 w1⟩
theorem port_of {H : Type} {enc : TypeId × Value → H} {W : World} {held : Bool} {cs : Array Value} {d : DataW H} {ps : List MemPlace} (h : DataW.Trod enc Try.prog W 0 (fun _ => true) held 23 (.agg cs) d ps) :
    ∃ p : PortT, cs = #[.int .i64 p.node, .int .i64 p.level, .int .i64 p.pod, .int .i64 p.mtu, .int .i64 p.link, .int .i64 p.hold] ∧ InI p.level ∧ InI p.hold := by
  obtain ⟨fuel, hf⟩ := h
  obtain ⟨p, hc, h1⟩ := rdf_port (cs := cs.toList) ⟨fuel, _, hf⟩
  exact ⟨p, by rw [← Array.toList_inj, hc]; rfl, h1⟩
theorem lie_of {H : Type} {enc : TypeId × Value → H} {W : World} {held : Bool} {cs : Array Value} {d : DataW H} {ps : List MemPlace} (h : DataW.Trod enc Try.prog W 0 (fun _ => true) held 25 (.agg cs) d ps) :
    ∃ x : LieT, cs = #[.int .i64 x.node, .int .i64 x.level, .int .i64 x.pod, .int .i64 x.mtu, .int .i64 x.link, .int .i64 x.nonce, .int .i64 x.seen, .int .i64 x.seenLink, .int .i64 x.seenNonce, .int .i64 x.hold, .bool x.rep, .bool x.noOffer] ∧ InI x.level := by
  obtain ⟨fuel, hf⟩ := h
  obtain ⟨x, hc, h1⟩ := rdf_lie (cs := cs.toList) ⟨fuel, _, hf⟩
  exact ⟨x, by rw [← Array.toList_inj, hc]; rfl, h1⟩
/-- A row of steps that came in. -/
def RdS (n₀ : Nat) (W : World) (a : Option Addr) (l : List StepT) : Prop := RdR 15 encStep n₀ W a l
theorem steps_of {H : Type} {enc : TypeId × Value → H} {W : World} {held : Bool} {a : Option Addr} {len cap : Nat} {d : DataW H} {ps : List MemPlace} (h : DataW.Trod enc Try.prog W 0 (fun _ => true) held 28 (.slice a len cap) d ps) :
    ∃ l : List StepT, l.length = len ∧ (l.length ≤ cap ∧ cap ≤ maxLen ∧ ∀ s ∈ l, InI s.now) ∧ RdS W.heap.size W a l := by
  obtain ⟨fuel, hf⟩ := h
  obtain ⟨A, l, c, hv, h1, h2, h3, h4⟩ := rdf_slice (en := encStep) (ok := fun s => InI s.now) Try.underlying28 (by kernel_rfl : Try.prog.cellsOf 37 = 15) (fun _ => rfl) (fun cs hcs => rdf_step hcs) (⟨fuel, _, hf⟩ : Rdf enc Try.prog W held 28 [.slice a len cap]) (by decide)
  injection hv with e1 e2 e3
  subst e1 e2 e3
  exact ⟨l, rfl, ⟨h1, h2, h4⟩, h3⟩
end Go.Proofs.Yticbfmbinopjcaa
