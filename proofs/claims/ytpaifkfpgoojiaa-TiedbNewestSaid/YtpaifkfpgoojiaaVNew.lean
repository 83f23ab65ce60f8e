/-
  TiedbNewest: what is newest, as a map; the walk.
-/
import Derived.Test.YtpaifkfpgoojiaaVHeads
import Derived.Test.YtpaifkfpgoojiaaVAwk
namespace Go.Proofs.Ytpaifkfpgoojiaa.ti
set_option linter.unusedSimpArgs false
set_option linter.unusedVariables false
open Go.RowKit
theorem mapKn : Try.prog.underlying 51 = some (.map 33 3) := by kernel_rfl
def nwV (x : EnT) : IdV := (x.id, .int .i64 x.t.hd.seq)
theorem find_nw {K : List EnT} (i : TId) : findV (K.map nwV) i = (findD K i).map nwV := by
  unfold findV findD
  rw [List.find?_map]
  rfl
theorem rest_nw (K : List EnT) (i : TId) : restV (K.map nwV) i = (restD K i).map nwV := by
  unfold restV restD
  rw [List.filter_map]
  rfl
theorem nw_put {K : List EnT} (h : AscD K) (e : EnT) : (restV (K.map nwV) e.id ++ [nwV e]).Perm ((insD K e).map nwV) := by
  rw [rest_nw]
  have := (insD_perm (e := e) h).map nwV
  rw [List.map_append] at this
  exact this.symm
theorem rest_back {K : List EnT} (h : AscD K) {x : EnT} (hx : x ∈ K) : (restD K x.id ++ [x]).Perm K := by
  refine perm_same ?_ (List.Pairwise.imp (fun {a b} q e => by rw [e] at q; exact lex_irr _ q) h) fun y => ?_
  · rw [List.nodup_append]
    refine ⟨(List.Pairwise.imp (fun {a b} q e => by rw [e] at q; exact lex_irr _ q) h : K.Nodup).filter _, by simp, fun a ha b hb => ?_⟩
    simp at hb
    subst hb
    rintro rfl
    exact (restD_mem.1 ha).2 rfl
  · rw [List.mem_append, restD_mem]
    constructor
    · rintro (q | q)
      · exact q.1
      · simp at q; subst q; exact hx
    · intro hy
      by_cases e : y.id = x.id
      · right
        have h1 := find_mem h hy
        rw [e, find_mem h hx] at h1
        simp [Option.some.inj h1]
      · exact .inl ⟨hy, e⟩
theorem nw_same {K : List EnT} (h : AscD K) {x : EnT} (hx : x ∈ K) : (restV (K.map nwV) x.id ++ [nwV x]).Perm (K.map nwV) := by
  rw [rest_nw]
  have := (rest_back h hx).map nwV
  rw [List.map_append] at this
  exact this
/-- The base under another map's turning. -/
theorem ProgD.other {W W' : World} {n0 pb mb nb : Nat} {room : Int} {K : List EnT} (h : ProgD W n0 pb mb room K) (ht : W.mapTurned W' nb) (hne : nb ≠ mb) : ProgD W' n0 pb mb room K := by
  obtain ⟨L, hL, hp, ho⟩ := h.has
  have k := KeepC.turned ht
  exact ⟨k _ _ _ _ h.base, ⟨L, hL.same (ht.grown.block mb hL.lt (fun e => hne (Option.some.inj e).symm)), hp, fun x hx => (ho x hx).same fun j cs T fr hj _ => k j cs T fr hj⟩, h.hp, h.hm, h.inv⟩
/-- Where the loop stands. -/
structure NewS (w : World) (n0 pb mb nb : Nat) (K : List EnT) (W : World) : Prop where
  p : ProgD W n0 pb mb 4096 K
  m : MapV W nb (K.map nwV)
  b : Below w.heap.size w W
  ne : nb ≠ mb
  h0 : w.heap.size ≤ n0
  h1 : w.heap.size ≤ nb
theorem NewS.below {w W W' : World} {n0 pb mb nb : Nat} {K : List EnT} (h : NewS w n0 pb mb nb K W) (k : Below W.heap.size W W') : NewS w n0 pb mb nb K W' := ⟨h.p.below k, h.m.same (k.block _ h.m.lt), h.b.trans (k.mono h.b.size), h.ne, h.h0, h.h1⟩
theorem NewS.put {w W W' : World} {n0 pb mb nb : Nat} {K K' : List EnT} (h : NewS w n0 pb mb nb K W) (hp : ProgD W' n0 pb mb 4096 K') (hg : W.grownBy W' (some mb)) : ProgD W' n0 pb mb 4096 K' ∧ MapV W' nb (K.map nwV) ∧ Below w.heap.size w W' := ⟨hp, h.m.same (hg.block nb h.m.lt (fun e => h.ne (Option.some.inj e))), below_map h.b hg (by have := h.p.hm; have := h.h0; omega) h.b.size⟩
/-- A number is entered. -/
theorem new_enter {W : World} {nb : Nat} {N : List IdV} (h : MapV W nb N) (hl : N.length ≤ 4096) {i : TId} (hi : okI i) (n : Int) : ∃ W', (Instr.mapUpdate 51 (.map (some nb)) (.agg #[.int .i64 i.d, .int .i64 i.o, .int .i64 i.k, .int .i64 i.n]) (.int .i64 n)).run Try.prog W = .ok () W' ∧ MapV W' nb (restV N i ++ [(i, .int .i64 n)]) ∧ W.mapTurned W' nb := h.put (by unfold maxLen; omega) mapKn hi (.int .i64 n)
theorem new_look {W : World} {nb : Nat} {K : List EnT} (h : MapV W nb (K.map nwV)) {i : TId} (hi : okI i) (W' : World) (hW : W'.heap[nb]? = W.heap[nb]?) : (Instr.lookup 51 (.map (some nb)) (.agg #[.int .i64 i.d, .int .i64 i.o, .int .i64 i.k, .int .i64 i.n]) true).run Try.prog W' = .ok (.tuple #[.int .i64 (((findD K i).map fun x => x.t.hd.seq).getD 0), .bool (findD K i).isSome]) W' := by
  have := h.look mapKn (z := .int .i64 0) hi W' (by go_simp) hW
  unfold lookV at this
  rw [find_nw] at this
  cases hf : findD K i with
  | none => rw [hf] at this; exact this
  | some x => rw [hf] at this; exact this
end Go.Proofs.Ytpaifkfpgoojiaa.ti
