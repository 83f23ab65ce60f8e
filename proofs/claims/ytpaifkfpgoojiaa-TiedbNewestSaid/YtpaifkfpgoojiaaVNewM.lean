/-
  TiedbNewest: heads against the map of what is newest.
-/
import Derived.Test.YtpaifkfpgoojiaaVNew
namespace Go.Proofs.Ytpaifkfpgoojiaa.ti
set_option linter.unusedSimpArgs false
set_option linter.unusedVariables false
open Go.RowKit
open Go.Maps
theorem MapV.look1 {W : World} {b : Nat} {L : List IdV} (h : MapV W b L) {mt et : TypeId} (hmt : Try.prog.underlying mt = some (.map 33 et)) {z : Value} {i : TId} (hi : okI i) (W' : World) (hz : (zeroValue et).run Try.prog W' = .ok z W') (hW : W'.heap[b]? = W.heap[b]?) :
    (Instr.lookup mt (.map (some b)) (aggI i) false).run Try.prog W' = .ok (lookV L i z) W' := by
  obtain ⟨es, ho, hp, hn, hL⟩ := h.same hW
  obtain ⟨v, ps, hrun, hR⟩ := ho.lookup KT hmt (z := z) hz (rfl : heldR z = some (.held z, [])) (keyT hi)
  rw [hrun]
  have hc := held_inv hR
  unfold lookV
  cases hf : findV L i with
  | none =>
    have h0 : has (.map es) (keyL i) = false := by rw [has_L hp hL hi, hf]; rfl
    rw [atKey_of_not_has h0] at hc
    rw [← DataW.held.inj hc]
    rfl
  | some o =>
    obtain ⟨hm, rfl⟩ := findV_is hf
    rw [at_L hp hn hL hm] at hc
    rw [← DataW.held.inj hc]
    rfl
theorem new_look1 {W : World} {nb : Nat} {K : List EnT} (h : MapV W nb (K.map nwV)) {i : TId} (hi : okI i) {x : EnT} (hf : findD K i = some x) (W' : World) (hW : W'.heap[nb]? = W.heap[nb]?) : (Instr.lookup 51 (.map (some nb)) (.agg #[.int .i64 i.d, .int .i64 i.o, .int .i64 i.k, .int .i64 i.n]) false).run Try.prog W' = .ok (.int .i64 x.t.hd.seq) W' := by
  have := h.look1 mapKn (z := .int .i64 0) hi W' (by go_simp) hW
  unfold lookV at this
  rw [find_nw, hf] at this
  exact this
theorem heads_at {K : List EnT} {now : Int} {room : Int} (h : InvD room K) {j : Nat} {y : THd} (hy : (headsD K now)[j]? = some y) : ∃ x, findD K y.id = some x ∧ x.t.hd.seq = y.seq ∧ okI y.id := by
  have hm := List.mem_of_getElem? hy
  unfold headsD at hm
  obtain ⟨x, hx, rfl⟩ := List.mem_map.1 hm
  unfold aliveD at hx
  have hx := (List.mem_filter.1 hx).1
  exact ⟨x, find_mem h.asc hx, rfl, right_okI (h.ok x hx).1⟩
theorem heads_asc {K : List EnT} {now : Int} (h : AscD K) {j : Nat} {y z : THd} (hy : (headsD K now)[j]? = some y) (hz : (headsD K now)[j + 1]? = some z) : cmpT y.id z.id < 0 := by
  unfold headsD at hy hz
  rw [List.getElem?_map] at hy hz
  obtain ⟨a, ha, rfl⟩ := Option.map_eq_some_iff.1 hy
  obtain ⟨b, hb, rfl⟩ := Option.map_eq_some_iff.1 hz
  have hs : AscD (aliveD K now) := asc_sub h List.filter_sublist
  obtain ⟨h1, e1⟩ := List.getElem?_eq_some_iff.1 ha
  obtain ⟨h2, e2⟩ := List.getElem?_eq_some_iff.1 hb
  have := List.pairwise_iff_getElem.1 hs j (j + 1) h1 h2 (by omega)
  rw [e1, e2] at this
  exact cmp_neg.2 this
/-- Where the second loop stands. -/
structure HdS (w : World) (n0 pb nb : Nat) (K : List EnT) (a : Option Addr) (now : Int) (W : World) : Prop where
  s : NewS w n0 pb n0 nb K W
  r : RdE 6 cellsT W a (headsD K now)
theorem HdS.below {w W W' : World} {n0 pb nb : Nat} {K : List EnT} {a : Option Addr} {now : Int} (h : HdS w n0 pb nb K a now W) (k : Below W.heap.size W W') : HdS w n0 pb nb K a now W' := ⟨h.s.below k, h.r.below k⟩
theorem HdS.drew {w W : World} {n0 pb nb : Nat} {K : List EnT} {a : Option Addr} {now : Int} (h : HdS w n0 pb nb K a now W) : HdS w n0 pb nb K a now W.drew := h.below (Below.refl _ _).drew
end Go.Proofs.Ytpaifkfpgoojiaa.ti
