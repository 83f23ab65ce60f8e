/-
  WHAT CAME IN: a neighbour, pieces, numbers; awake.
-/
import Derived.Test.YtbgilngpkogapaaGSame
namespace Go.Proofs.Ytbgilngpkogapaa.ti
set_option linter.unusedSimpArgs false
set_option linter.unusedVariables false
open Go.RowKit Go.ChangeShapes Go.WideShapes
instance : Inhabited TS := ⟨⟨TiV.nil, ⟨none, 0, none, 0⟩⟩⟩
theorem ties_of {H : Type} {enc : TypeId × Value → H} {W : World} {held : Bool} {a : Option Addr} {len cap : Nat} {d : DataW H} {ps : List MemPlace} (h : DataW.Trod enc Try.prog W 0 (fun _ => true) held 22 (.slice a len cap) d ps) :
    ∃ l : List TS, l.length = len ∧ RdE 10 encT W a l ∧ ∀ x ∈ l, In2 W x.t x.s := by
  obtain ⟨fuel, hf⟩ := h
  obtain ⟨A, l, c, hv, h1, h2, h3, h4, _⟩ := rdf_sliceN (en := encT) (ok := fun x => In2 W x.t x.s) Try.underlying22 (by kernel_rfl : Try.prog.cellsOf 35 = 10) (fun _ => rfl) (fun cs hcs => by obtain ⟨t, s, e, hk⟩ := rdf_tie hcs; exact ⟨⟨t, s⟩, e, hk⟩) (⟨fuel, _, hf⟩ : Rdf enc Try.prog W held 22 [.slice a len cap]) (by decide)
  injection hv with e1 e2 e3
  subst e1 e2 e3
  exact ⟨l, rfl, h3, h4⟩
theorem ints_of {H : Type} {enc : TypeId × Value → H} {W : World} {held : Bool} {a : Option Addr} {len cap : Nat} {d : DataW H} {ps : List MemPlace} (h : DataW.Trod enc Try.prog W 0 (fun _ => true) held 40 (.slice a len cap) d ps) :
    ∃ l : List Int, l.length = len ∧ RdE 1 (fun n : Int => [.int .i64 n]) W a l := by
  obtain ⟨fuel, hf⟩ := h
  obtain ⟨A, l, c, hv, h1, h2, h3, h4, _⟩ := rdf_sliceN (en := fun n : Int => [.int .i64 n]) (ok := fun _ => True) Try.underlying40 (by kernel_rfl : Try.prog.cellsOf 3 = 1) (fun _ => rfl) (fun cs hcs => by obtain ⟨n, e, _⟩ := rdf_int Try.underlying3 hcs; exact ⟨n, e, trivial⟩) (⟨fuel, _, hf⟩ : Rdf enc Try.prog W held 40 [.slice a len cap]) (by decide)
  injection hv with e1 e2 e3
  subst e1 e2 e3
  exact ⟨l, rfl, h3⟩
theorem lst7 {α : Type} {cs : List α} (h : cs.length = 7) : ∃ c0 c1 c2 c3 c4 c5 c6, cs = [c0, c1, c2, c3, c4, c5, c6] := by
  match cs, h with
  | [c0, c1, c2, c3, c4, c5, c6], _ => exact ⟨c0, c1, c2, c3, c4, c5, c6, rfl⟩
set_option maxRecDepth 100000 in
theorem rdf_other {H : Type} {enc : TypeId × Value → H} {w : World} {held : Bool} {cs : List Value} (h : Rdf enc Try.prog w held 24 cs) : ∃ (a b c d : Int), cs = [.int .i64 a, .int .i64 b, .int .i64 c, .int .i64 d] := by
  obtain ⟨hl, hf⟩ := rdf_struct Try.underlying24 h
  obtain ⟨c0, c1, c2, c3, rfl⟩ := lst4 (hl.trans (by kernel_rfl) : cs.length = 4)
  have h0 : Rdf enc Try.prog w held 3 [c0] := by
    have this : Rdf enc Try.prog w held 3 (List.take (Try.prog.cellsOf 3) (List.drop 0 [c0, c1, c2, c3])) := hf 0 _ rfl
    rw [show ∀ (a : List Value), a.take (Try.prog.cellsOf 3) = a.take 1 from fun a => by rw [show Try.prog.cellsOf 3 = 1 from by kernel_rfl]] at this
    exact this
  have h1 : Rdf enc Try.prog w held 3 [c1] := by
    have this : Rdf enc Try.prog w held 3 (List.take (Try.prog.cellsOf 3) (List.drop 1 [c0, c1, c2, c3])) := hf 1 _ rfl
    rw [show ∀ (a : List Value), a.take (Try.prog.cellsOf 3) = a.take 1 from fun a => by rw [show Try.prog.cellsOf 3 = 1 from by kernel_rfl]] at this
    exact this
  have h2 : Rdf enc Try.prog w held 3 [c2] := by
    have this : Rdf enc Try.prog w held 3 (List.take (Try.prog.cellsOf 3) (List.drop 2 [c0, c1, c2, c3])) := hf 2 _ rfl
    rw [show ∀ (a : List Value), a.take (Try.prog.cellsOf 3) = a.take 1 from fun a => by rw [show Try.prog.cellsOf 3 = 1 from by kernel_rfl]] at this
    exact this
  have h3 : Rdf enc Try.prog w held 3 [c3] := by
    have this : Rdf enc Try.prog w held 3 (List.take (Try.prog.cellsOf 3) (List.drop 3 [c0, c1, c2, c3])) := hf 3 _ rfl
    rw [show ∀ (a : List Value), a.take (Try.prog.cellsOf 3) = a.take 1 from fun a => by rw [show Try.prog.cellsOf 3 = 1 from by kernel_rfl]] at this
    exact this
  obtain ⟨n0, e0, _⟩ := rdf_int Try.underlying3 h0
  injection e0 with e0 _
  obtain ⟨n1, e1, _⟩ := rdf_int Try.underlying3 h1
  injection e1 with e1 _
  obtain ⟨n2, e2, _⟩ := rdf_int Try.underlying3 h2
  injection e2 with e2 _
  obtain ⟨n3, e3, _⟩ := rdf_int Try.underlying3 h3
  injection e3 with e3 _
  subst e0 e1 e2 e3
  exact ⟨n0, n1, n2, n3, rfl⟩
set_option maxRecDepth 100000 in
theorem rdf_scope {H : Type} {enc : TypeId × Value → H} {w : World} {held : Bool} {cs : List Value} (h : Rdf enc Try.prog w held 26 cs) : ∃ s : ScD, cs = cellsSc s := by
  obtain ⟨hl, hf⟩ := rdf_struct Try.underlying26 h
  obtain ⟨c0, c1, c2, c3, c4, c5, c6, rfl⟩ := lst7 (hl.trans (by kernel_rfl) : cs.length = 7)
  have h0 : Rdf enc Try.prog w held 3 [c0] := by
    have this : Rdf enc Try.prog w held 3 (List.take (Try.prog.cellsOf 3) (List.drop 0 [c0, c1, c2, c3, c4, c5, c6])) := hf 0 _ rfl
    rw [show ∀ (a : List Value), a.take (Try.prog.cellsOf 3) = a.take 1 from fun a => by rw [show Try.prog.cellsOf 3 = 1 from by kernel_rfl]] at this
    exact this
  have h1 : Rdf enc Try.prog w held 3 [c1] := by
    have this : Rdf enc Try.prog w held 3 (List.take (Try.prog.cellsOf 3) (List.drop 1 [c0, c1, c2, c3, c4, c5, c6])) := hf 1 _ rfl
    rw [show ∀ (a : List Value), a.take (Try.prog.cellsOf 3) = a.take 1 from fun a => by rw [show Try.prog.cellsOf 3 = 1 from by kernel_rfl]] at this
    exact this
  have h2 : Rdf enc Try.prog w held 4 [c2] := by
    have this : Rdf enc Try.prog w held 4 (List.take (Try.prog.cellsOf 4) (List.drop 2 [c0, c1, c2, c3, c4, c5, c6])) := hf 2 _ rfl
    rw [show ∀ (a : List Value), a.take (Try.prog.cellsOf 4) = a.take 1 from fun a => by rw [show Try.prog.cellsOf 4 = 1 from by kernel_rfl]] at this
    exact this
  have h3 : Rdf enc Try.prog w held 24 [c3, c4, c5, c6] := by
    have this : Rdf enc Try.prog w held 24 (List.take (Try.prog.cellsOf 24) (List.drop 3 [c0, c1, c2, c3, c4, c5, c6])) := hf 3 _ rfl
    rw [show ∀ (a : List Value), a.take (Try.prog.cellsOf 24) = a.take 4 from fun a => by rw [show Try.prog.cellsOf 24 = 4 from by kernel_rfl]] at this
    exact this
  obtain ⟨n0, e0, _⟩ := rdf_int Try.underlying3 h0
  injection e0 with e0 _
  obtain ⟨n1, e1, _⟩ := rdf_int Try.underlying3 h1
  injection e1 with e1 _
  obtain ⟨b2, e2⟩ := rdf_bool Try.underlying4 h2
  injection e2 with e2 _
  obtain ⟨a, b, c, d, e3⟩ := rdf_other h3
  injection e3 with f0 e3
  injection e3 with f1 e3
  injection e3 with f2 e3
  injection e3 with f3 _
  subst e0 e1 e2 f0 f1 f2 f3
  exact ⟨⟨n0, n1, b2, a, b, c, d⟩, rfl⟩
theorem scope_of {H : Type} {enc : TypeId × Value → H} {W : World} {held : Bool} {cs : Array Value} {d : DataW H} {ps : List MemPlace} (h : DataW.Trod enc Try.prog W 0 (fun _ => true) held 26 (.agg cs) d ps) : ∃ s : ScD, (.agg cs : Value) = aggSc s := by
  obtain ⟨fuel, hf⟩ := h
  obtain ⟨s, e⟩ := rdf_scope (cs := cs.toList) ⟨fuel, _, hf⟩
  refine ⟨s, ?_⟩
  have : cs = (cellsSc s).toArray := by rw [← Array.toList_inj, e]
  rw [this]
  rfl
theorem sizeSc : (Try.prog.info? 26).map (·.size) = some 7 := by kernel_rfl
def awT : TiV := ⟨⟨⟨2, 7, 1, 0⟩, 0, 0⟩, 0, false, [], []⟩
def awS : ScD := ⟨1, 0, false, 2, 0, 1, 0⟩
def awS0 : ScD := ⟨0, 0, false, 0, 0, 0, 0⟩
theorem aw_goes : goesG awT awS = true := by decide
theorem aw_not : goT awS0 [⟨awT, ⟨none, 0, none, 0⟩⟩] = [] := by decide
theorem aw_rd (W : World) : Rd2 W awT ⟨none, 0, none, 0⟩ := ⟨RdE.nil _ _, RdE.nil _ _, ⟨by decide, by decide, by decide⟩, ⟨by decide, by decide, by decide⟩, fun _ => rfl, fun _ => rfl, fun y hy => by simp [awT] at hy⟩
set_option maxHeartbeats 3200000 in
set_option maxRecDepth 100000 in
theorem awake_any (w : World) : Calls Try.prog 7 #[] w fun e w' => e = .returned (.bool true) ∧ Below w.heap.size w w' := by
  have HG : Hid (∀ W, Calls Try.prog 8 #[.agg #[.int .i64 2, .int .i64 7, .int .i64 1, .int .i64 0, .int .i64 0, .int .i64 0, .int .i64 0, .bool false, .slice none 0 0, .slice none 0 0], .agg #[.int .i64 1, .int .i64 0, .bool false, .int .i64 2, .int .i64 0, .int .i64 1, .int .i64 0]] W fun e w' => e = .returned (.bool true) ∧ Below W.heap.size W w') := fun W => by
    have := pgoes_any awT ⟨none, 0, none, 0⟩ awS W
    rw [aw_goes] at this
    exact this
  have HS : Hid (∀ W, Calls Try.prog 11 #[.slice (some ⟨W.heap.size, 0, none⟩) 1 1, .agg #[.int .i64 0, .int .i64 0, .bool false, .int .i64 0, .int .i64 0, .int .i64 0, .int .i64 0]] (W.alloc (.cells #[.int .i64 2, .int .i64 7, .int .i64 1, .int .i64 0, .int .i64 0, .int .i64 0, .int .i64 0, .bool false, .slice none 0 0, .slice none 0 0] 35)) fun e w' => ∃ A c, e = .returned (.slice A 0 c) ∧ Below W.heap.size W w') := fun W => by
    have := psome_any awS0 (some ⟨W.heap.size, 0, none⟩) 1 [⟨awT, ⟨none, 0, none, 0⟩⟩] (by decide) _ ⟨rd_oneE kindP W ⟨awT, ⟨none, 0, none, 0⟩⟩, fun x hx => by simp at hx; subst hx; exact aw_rd _⟩
    refine this.mono ?_
    rintro e w' ⟨A, c, out, rfl, _, _, hv, hb⟩
    rw [aw_not] at hv
    have : out = [] := List.map_eq_nil_iff.1 hv
    subst this
    exact ⟨A, c, rfl, (below_box _ _).trans (hb.mono (by simp))⟩
  have B0 := Lib.hid (below_box w (.cells #[.int .i64 2, .int .i64 7, .int .i64 1, .int .i64 0, .int .i64 0, .int .i64 0, .int .i64 0, .bool false, .slice none 0 0, .slice none 0 0] 35))
  have A0 : Hid (Arr (w.alloc (.cells #[.int .i64 2, .int .i64 7, .int .i64 1, .int .i64 0, .int .i64 0, .int .i64 0, .int .i64 0, .bool false, .slice none 0 0, .slice none 0 0] 35)) w.heap.size 35 [.int .i64 2, .int .i64 7, .int .i64 1, .int .i64 0, .int .i64 0, .int .i64 0, .int .i64 0, .bool false, .slice none 0 0, .slice none 0 0]) := Arr.new _ _ _
  go_enter Try.func7, Try.ntmps7
  go_wp2_with (first
    | (go_at_call 8; refine (HG.out _).mono ?_; rintro e w1 ⟨rfl, hb⟩; have B1 := Lib.hid (B0.out.trans (hb.mono B0.out.size)); have A1 := Lib.hid (A0.out.below hb A0.out.lt); clear hb)
    | (refine wpList_load_g 35 (.tmp 1) rfl w.heap.size rfl A1.out Try.underlying35 rfl sizeV rfl ?_)
    | (go_at_call 11; refine (HS.out _).mono ?_; rintro e w2 ⟨A, c, rfl, hb⟩; have B2 := Lib.hid (B1.out.trans (hb.mono B1.out.size)); clear hb))
  go_ret
  exact ⟨rfl, B2.out⟩
end Go.Proofs.Ytbgilngpkogapaa.ti
