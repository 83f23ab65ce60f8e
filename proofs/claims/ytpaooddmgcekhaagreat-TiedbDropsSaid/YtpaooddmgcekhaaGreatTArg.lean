/-
  WHAT CAME IN: ids, heads, lists of heads, four numbers.
-/
import Derived.Test.YtpaooddmgcekhaaGreatTMem
import Derived.ProofKit
import Derived.OpenShut
import Derived.ChangeOld
import Derived.Stop.Joined
import Derived.Deep.CondSized
import Derived.Deep.Slices
namespace Go.Proofs.YtpaooddmgcekhaaGreat.ti
set_option linter.unusedSimpArgs false
set_option linter.unusedVariables false
open Go.RowKit Go.ChangeShapes Go.WideShapes
/-- A row of items that came in. -/
def RdR {E : Type} (sz : Nat) (enc : E → List Value) (n₀ : Nat) (w : World) (a : Option Addr) (l : List E) : Prop :=
  0 < l.length → ∃ b off, a = some ⟨b, off, none⟩ ∧ b < n₀ ∧ ∀ j x, l[j]? = some x → ∀ i v, (enc x)[i]? = some v → w.cell? ⟨b, off + j * sz + i, none⟩ = some v
theorem RdR.at {E : Type} {sz : Nat} {enc : E → List Value} {n₀ : Nat} {w W : World} {a : Option Addr} {l : List E} {k : Nat} {x : E} (h : RdR sz enc n₀ w a l) (hk : l[k]? = some x) (hb : Below n₀ w W) : ∃ b off, a = some ⟨b, off, none⟩ ∧ ∀ i v, (enc x)[i]? = some v → W.cell? ⟨b, off + k * sz + i, none⟩ = some v := by
  obtain ⟨b, off, e, hlt, hc⟩ := h (by have := (List.getElem?_eq_some_iff.1 hk).1; omega)
  exact ⟨b, off, e, fun i v hv => (hb.cell (p := ⟨b, _, none⟩) hlt).trans (hc k x hk i v hv)⟩
theorem bounds64 {m : Int} (h : (Lit.int .i64 m).wf = true) : In64 m := by
  unfold In64
  simpa [Lit.wf, IntKind.min, IntKind.max, IntKind.signed, IntKind.bits] using h
/-- Some cells read at a type. -/
def Rdf {H : Type} (enc : TypeId × Value → H) (P : Program) (w : World) (held : Bool) (t : TypeId) (cs : List Value) : Prop := ∃ fuel x, DataW.trod enc P w 0 (fun _ => true) held fuel t cs = some x
section
variable {H : Type} {enc : TypeId × Value → H} {P : Program} {w : World} {held : Bool}
theorem rdf_int {t : TypeId} {k : IntKind} {cs : List Value} (ht : P.underlying t = some (.int k)) (h : Rdf enc P w held t cs) : ∃ n, cs = [.int k n] ∧ (Lit.int k n).wf = true := by
  obtain ⟨fuel, x, hx⟩ := h
  obtain ⟨n, e, _, hw⟩ := DataW.trod_int ht hx
  exact ⟨n, e, hw⟩
theorem rdf_bool {t : TypeId} {cs : List Value} (ht : P.underlying t = some .bool) (h : Rdf enc P w held t cs) : ∃ b, cs = [.bool b] := by
  obtain ⟨fuel, x, hx⟩ := h
  obtain ⟨b, e, _⟩ := DataW.trod_bool ht hx
  exact ⟨b, e⟩
theorem rdf_struct {t : TypeId} {fs : Array Field} {cs : List Value} (ht : P.underlying t = some (.struct fs)) (h : Rdf enc P w held t cs) : cs.length = P.cellsOf t ∧ ∀ (i : Nat) (f : Field), fs[i]? = some f → Rdf enc P w held f.type ((cs.drop f.offset).take (P.cellsOf f.type)) := by
  obtain ⟨fuel, x, hx⟩ := h
  obtain ⟨xs, n, _, rfl, hl, hlen, hf⟩ := DataW.trod_struct ht hx
  refine ⟨hl, fun i f hif => ?_⟩
  have hi : i < xs.length := by
    rw [hlen]
    exact (Array.getElem?_eq_some_iff.1 hif).1
  exact ⟨n, xs[i], by rw [hf i f hif, List.getElem?_eq_getElem hi]⟩
/-- A slice of structs. -/
theorem rdf_slice {E : Type} [Inhabited E] {sz : Nat} {en : E → List Value} {ok : E → Prop} {s t : TypeId} {v : Value} (hs : P.underlying s = some (.slice t)) (hsz : P.cellsOf t = sz) (hen : ∀ x, (en x).length = sz)
    (elem : ∀ cs, Rdf enc P w held t cs → ∃ x, cs = en x ∧ ok x) (h : Rdf enc P w held s [v]) (hp : 0 < sz) :
    ∃ (A : Option Addr) (l : List E) (cap : Nat), v = .slice A l.length cap ∧ l.length ≤ cap ∧ cap ≤ maxLen ∧ RdR sz en w.heap.size w A l ∧ ∀ y ∈ l, ok y := by
  obtain ⟨fuel, x, hx⟩ := h
  rcases Go.Deep.open_slice hs hx with ⟨hcs, _⟩ | ⟨a, len, cap, m, n, D, Pl, hcs, _, hl, hm, hmm, rfl, hall⟩
  · injection hcs with hcs
    exact ⟨none, [], 0, hcs, Nat.le_refl _, Nat.zero_le _, fun hp => by simp at hp, by simp⟩
  · injection hcs with hcs
    subst hcs
    simp only [if_true] at hmm
    subst hmm
    rw [hsz] at hall
    have hall2 : ∀ i', i' < m → ∃ q : E, w.cells? 0 (a.add (i' * sz)) sz = some (en q) ∧ ok q := by
      intro i' hi'
      obtain ⟨cs, hcs, htr⟩ := hall i' hi'
      obtain ⟨y, e1, e2⟩ := elem cs ⟨_, _, htr⟩
      subst e1
      exact ⟨y, hcs, e2⟩
    obtain ⟨f, hf⟩ := Go.Deep.choose_lt hall2
    refine ⟨some a, (List.range len).map f, m, by simp, by simpa using hl, hm, fun hp' => ?_, ?_⟩
    · have hlen : 0 < len := by simpa using hp'
      have cell : ∀ j, j < m → ∀ k, k < sz → w.cell? (a.add (j * sz + k)) = (en (f j))[k]? := fun j hj k hk => by
        have := (World.cells?_some (hf j hj).1).2.2 k hk
        rwa [Go.Deep.add_add] at this
      obtain ⟨b, off, spot⟩ := a
      have h0 := cell 0 (by omega) 0 hp
      have h00 : (en (f 0))[0]? = some ((en (f 0))[0]'(by rw [hen]; exact hp)) := List.getElem?_eq_getElem _
      have hspot : spot = none := by simpa [Addr.add] using World.cell?_spot (h0.trans h00)
      subst hspot
      have plain : ∀ k, (⟨b, off, none⟩ : Addr).add k = ⟨b, off + k, none⟩ := fun k => by unfold Addr.add; split <;> simp_all
      rw [plain] at h0
      refine ⟨b, off, rfl, World.block_lt_of_cell? w _ (h0.trans h00), fun j x hx k u hu => ?_⟩
      have hj : j < len := by
        rcases Nat.lt_or_ge j len with h1 | h1
        · exact h1
        · rw [List.getElem?_eq_none (by simpa using h1)] at hx; cases hx
      obtain rfl : f j = x := by simpa [hj] using hx
      have hk : k < sz := by
        have := (List.getElem?_eq_some_iff.1 hu).1
        rwa [hen] at this
      have g := cell j (by omega) k hk
      rw [plain] at g
      rw [show off + j * sz + k = off + (j * sz + k) by omega]
      exact g.trans hu
    · intro y hy
      obtain ⟨j, hj, rfl⟩ := List.mem_map.1 hy
      exact (hf j (by have := List.mem_range.1 hj; omega)).2
end
theorem lst4 {α : Type} {cs : List α} (h : cs.length = 4) : ∃ c0 c1 c2 c3, cs = [c0, c1, c2, c3] := by
  match cs, h with
  | [c0, c1, c2, c3], _ => exact ⟨c0, c1, c2, c3, rfl⟩
theorem lst6 {α : Type} {cs : List α} (h : cs.length = 6) : ∃ c0 c1 c2 c3 c4 c5, cs = [c0, c1, c2, c3, c4, c5] := by
  match cs, h with
  | [c0, c1, c2, c3, c4, c5], _ => exact ⟨c0, c1, c2, c3, c4, c5, rfl⟩
instance : Inhabited TId := ⟨⟨0, 0, 0, 0⟩⟩
instance : Inhabited THd := ⟨⟨⟨0, 0, 0, 0⟩, 0, 0⟩⟩
def okI (x : TId) : Prop := In64 x.d ∧ In64 x.o ∧ In64 x.k ∧ In64 x.n
def okH (x : THd) : Prop := okI x.id ∧ In64 x.seq ∧ In64 x.life
set_option maxRecDepth 100000 in
theorem rdf_id {H : Type} {enc : TypeId × Value → H} {w : World} {held : Bool} {cs : List Value} (h : Rdf enc Tryz.prog w held 33 cs) : ∃ x : TId, cs = cellsI x ∧ okI x := by
  obtain ⟨hl, hf⟩ := rdf_struct Tryz.underlying33 h
  obtain ⟨c0, c1, c2, c3, rfl⟩ := lst4 (hl.trans (by kernel_rfl) : cs.length = 4)
  have h0 : Rdf enc Tryz.prog w held 3 [c0] := by
    have this : Rdf enc Tryz.prog w held 3 (List.take (Tryz.prog.cellsOf 3) (List.drop 0 [c0, c1, c2, c3])) := hf 0 _ rfl
    rw [show ∀ (a : List Value), a.take (Tryz.prog.cellsOf 3) = a.take 1 from fun a => by rw [show Tryz.prog.cellsOf 3 = 1 from by kernel_rfl]] at this
    exact this
  obtain ⟨n0, e0, w0⟩ := rdf_int Tryz.underlying3 h0
  injection e0 with e0 _
  subst e0
  have h1 : Rdf enc Tryz.prog w held 3 [c1] := by
    have this : Rdf enc Tryz.prog w held 3 (List.take (Tryz.prog.cellsOf 3) (List.drop 1 [.int .i64 n0, c1, c2, c3])) := hf 1 _ rfl
    rw [show ∀ (a : List Value), a.take (Tryz.prog.cellsOf 3) = a.take 1 from fun a => by rw [show Tryz.prog.cellsOf 3 = 1 from by kernel_rfl]] at this
    exact this
  obtain ⟨n1, e1, w1⟩ := rdf_int Tryz.underlying3 h1
  injection e1 with e1 _
  subst e1
  have h2 : Rdf enc Tryz.prog w held 3 [c2] := by
    have this : Rdf enc Tryz.prog w held 3 (List.take (Tryz.prog.cellsOf 3) (List.drop 2 [.int .i64 n0, .int .i64 n1, c2, c3])) := hf 2 _ rfl
    rw [show ∀ (a : List Value), a.take (Tryz.prog.cellsOf 3) = a.take 1 from fun a => by rw [show Tryz.prog.cellsOf 3 = 1 from by kernel_rfl]] at this
    exact this
  obtain ⟨n2, e2, w2⟩ := rdf_int Tryz.underlying3 h2
  injection e2 with e2 _
  subst e2
  have h3 : Rdf enc Tryz.prog w held 3 [c3] := by
    have this : Rdf enc Tryz.prog w held 3 (List.take (Tryz.prog.cellsOf 3) (List.drop 3 [.int .i64 n0, .int .i64 n1, .int .i64 n2, c3])) := hf 3 _ rfl
    rw [show ∀ (a : List Value), a.take (Tryz.prog.cellsOf 3) = a.take 1 from fun a => by rw [show Tryz.prog.cellsOf 3 = 1 from by kernel_rfl]] at this
    exact this
  obtain ⟨n3, e3, w3⟩ := rdf_int Tryz.underlying3 h3
  injection e3 with e3 _
  subst e3
  exact ⟨⟨n0, n1, n2, n3⟩, rfl, bounds64 w0, bounds64 w1, bounds64 w2, bounds64 w3⟩
set_option maxRecDepth 100000 in
theorem rdf_head {H : Type} {enc : TypeId × Value → H} {w : World} {held : Bool} {cs : List Value} (h : Rdf enc Tryz.prog w held 35 cs) : ∃ x : THd, cs = cellsT x ∧ okH x := by
  obtain ⟨hl, hf⟩ := rdf_struct Tryz.underlying35 h
  obtain ⟨c0, c1, c2, c3, c4, c5, rfl⟩ := lst6 (hl.trans (by kernel_rfl) : cs.length = 6)
  have h0 : Rdf enc Tryz.prog w held 33 [c0, c1, c2, c3] := by
    have this : Rdf enc Tryz.prog w held 33 (List.take (Tryz.prog.cellsOf 33) (List.drop 0 [c0, c1, c2, c3, c4, c5])) := hf 0 _ rfl
    rw [show ∀ (a : List Value), a.take (Tryz.prog.cellsOf 33) = a.take 4 from fun a => by rw [show Tryz.prog.cellsOf 33 = 4 from by kernel_rfl]] at this
    exact this
  obtain ⟨x, hx, hk⟩ := rdf_id h0
  have h4 : Rdf enc Tryz.prog w held 3 [c4] := by
    have this : Rdf enc Tryz.prog w held 3 (List.take (Tryz.prog.cellsOf 3) (List.drop 4 [c0, c1, c2, c3, c4, c5])) := hf 1 _ rfl
    rw [show ∀ (a : List Value), a.take (Tryz.prog.cellsOf 3) = a.take 1 from fun a => by rw [show Tryz.prog.cellsOf 3 = 1 from by kernel_rfl]] at this
    exact this
  obtain ⟨n4, e4, w4⟩ := rdf_int Tryz.underlying3 h4
  have h5 : Rdf enc Tryz.prog w held 3 [c5] := by
    have this : Rdf enc Tryz.prog w held 3 (List.take (Tryz.prog.cellsOf 3) (List.drop 5 [c0, c1, c2, c3, c4, c5])) := hf 2 _ rfl
    rw [show ∀ (a : List Value), a.take (Tryz.prog.cellsOf 3) = a.take 1 from fun a => by rw [show Tryz.prog.cellsOf 3 = 1 from by kernel_rfl]] at this
    exact this
  obtain ⟨n5, e5, w5⟩ := rdf_int Tryz.underlying3 h5
  simp [cellsI] at hx
  obtain ⟨rfl, rfl, rfl, rfl⟩ := hx
  injection e4 with e4 _
  injection e5 with e5 _
  subst e4 e5
  exact ⟨⟨x, n4, n5⟩, rfl, hk, bounds64 w4, bounds64 w5⟩
theorem id_of {H : Type} {enc : TypeId × Value → H} {W : World} {held : Bool} {cs : Array Value} {d : DataW H} {ps : List MemPlace} (h : DataW.Trod enc Tryz.prog W 0 (fun _ => true) held 33 (.agg cs) d ps) :
    ∃ x : TId, cs = #[.int .i64 x.d, .int .i64 x.o, .int .i64 x.k, .int .i64 x.n] ∧ okI x := by
  obtain ⟨fuel, hf⟩ := h
  obtain ⟨x, e, hk⟩ := rdf_id (cs := cs.toList) ⟨fuel, _, hf⟩
  exact ⟨x, by rw [← Array.toList_inj, e]; rfl, hk⟩
theorem head_of {H : Type} {enc : TypeId × Value → H} {W : World} {held : Bool} {cs : Array Value} {d : DataW H} {ps : List MemPlace} (h : DataW.Trod enc Tryz.prog W 0 (fun _ => true) held 35 (.agg cs) d ps) :
    ∃ x : THd, cs = #[.int .i64 x.id.d, .int .i64 x.id.o, .int .i64 x.id.k, .int .i64 x.id.n, .int .i64 x.seq, .int .i64 x.life] ∧ okH x := by
  obtain ⟨fuel, hf⟩ := h
  obtain ⟨x, e, hk⟩ := rdf_head (cs := cs.toList) ⟨fuel, _, hf⟩
  exact ⟨x, by rw [← Array.toList_inj, e]; rfl, hk⟩
theorem heads_of {H : Type} {enc : TypeId × Value → H} {W : World} {held : Bool} {a : Option Addr} {len cap : Nat} {d : DataW H} {ps : List MemPlace} (h : DataW.Trod enc Tryz.prog W 0 (fun _ => true) held 47 (.slice a len cap) d ps) :
    ∃ l : List THd, l.length = len ∧ (l.length ≤ cap ∧ cap ≤ maxLen ∧ ∀ s ∈ l, okH s) ∧ RdT W a l := by
  obtain ⟨fuel, hf⟩ := h
  obtain ⟨A, l, c, hv, h1, h2, h3, h4⟩ := rdf_slice (en := cellsT) (ok := okH) Tryz.underlying47 (by kernel_rfl : Tryz.prog.cellsOf 35 = 6) (fun _ => rfl) (fun cs hcs => rdf_head hcs) (⟨fuel, _, hf⟩ : Rdf enc Tryz.prog W held 47 [.slice a len cap]) (by decide)
  injection hv with e1 e2 e3
  subst e1 e2 e3
  exact ⟨l, rfl, ⟨h1, h2, h4⟩, fun j p hj => by
    obtain ⟨b, off, e, hlt, hc⟩ := h3 (by have := (List.getElem?_eq_some_iff.1 hj).1; omega)
    exact ⟨b, off, e, hlt, fun i v hv => hc j p hj i v hv⟩⟩
end Go.Proofs.YtpaooddmgcekhaaGreat.ti
