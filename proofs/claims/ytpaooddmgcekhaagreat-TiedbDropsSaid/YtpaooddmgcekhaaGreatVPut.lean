/-
  THE PROGRAM'S keep; what a look gives.
-/
import Derived.Test.YtpaooddmgcekhaaGreatVAt
import Derived.Deep.RegionHeld
namespace Go.Proofs.YtpaooddmgcekhaaGreat.ti
set_option linter.unusedSimpArgs false
set_option linter.unusedVariables false
open Go.RowKit
/-- All rows are as they were. -/
def KeepC (W W' : World) : Prop := ∀ (k : Nat) (cs : Array Value) (T : TypeId) (fr : Nat × Nat), W.heap[k]? = some (.cells cs T fr) → W'.heap[k]? = some (.cells cs T fr)
theorem KeepC.refl (W : World) : KeepC W W := fun _ _ _ _ h => h
theorem KeepC.trans {a b c : World} (h : KeepC a b) (k : KeepC b c) : KeepC a c := fun _ _ _ _ q => k _ _ _ _ (h _ _ _ _ q)
theorem KeepC.below {W W' : World} (h : Below W.heap.size W W') : KeepC W W' := fun k cs T fr hk => (h.block k (Array.getElem?_eq_some_iff.1 hk).1).trans hk
theorem KeepC.turned {W W' : World} {b : Nat} (h : W.mapTurned W' b) : KeepC W W' := fun k cs T fr hk => by
  obtain ⟨es, clock, _, _, hb, _⟩ := id h
  have hne : k ≠ b := fun e => by rw [e, hb] at hk; cases hk
  rw [h.grown.block k (Array.getElem?_eq_some_iff.1 hk).1 (fun e => hne (Option.some.inj e))]
  exact hk
theorem KeepC.arr {W W' : World} (h : KeepC W W') {g : Nat} {t : TypeId} {vs : List Value} (a : Arr W g t vs) : Arr W' g t vs := h _ _ _ _ a
theorem wrapI {n : Int} (h : -9223372036854775808 ≤ n ∧ n ≤ 9223372036854775807) : IntKind.i64.wrap n = n := by
  simp only [IntKind.wrap_i64]
  omega
theorem mapKd : Tryz.prog.underlying 59 = some (.map 33 78) := by kernel_rfl
def restK (L : List EnK) (i : TId) : List EnK := L.filter fun x => !decide (x.e.id = i)
theorem restV_map (L : List EnK) (i : TId) : restV (L.map entK) i = (restK L i).map entK := by
  unfold restV restK
  rw [List.filter_map]
  rfl
theorem restK_e (L : List EnK) (i : TId) : (restK L i).map EnK.e = restD (L.map EnK.e) i := by
  unfold restD restK
  rw [List.filter_map]
  rfl
theorem restD_perm {A B : List EnT} (h : A.Perm B) (i : TId) : (restD A i).Perm (restD B i) := h.filter _
def zeroK : Value := .agg #[.int .i64 0, .int .i64 0, .int .i64 0, .int .i64 0, .int .i64 0, .int .i64 0, .int .i64 0, .bool false, .slice none 0 0, .slice none 0 0, .int .i64 0]
theorem ids_of {L : List EnK} {K : List EnT} (hp : (L.map EnK.e).Perm K) : ((L.map entK).map Prod.fst).Perm (K.map EnT.id) := by
  have := hp.map EnT.id
  rw [List.map_map] at this ⊢
  exact this
/-- What a look at an id gives. -/
theorem ProgD.look {W : World} {n0 pb mb : Nat} {room : Int} {K : List EnT} (h : ProgD W n0 pb mb room K) {i : TId} (hi : okI i) :
    ∃ x : Option EnK, (∀ W' : World, W'.heap[mb]? = W.heap[mb]? → (Instr.lookup 59 (.map (some mb)) (.agg #[.int .i64 i.d, .int .i64 i.o, .int .i64 i.k, .int .i64 i.n]) true).run Tryz.prog W' = .ok (.tuple #[(x.map aggK).getD zeroK, .bool x.isSome]) W') ∧
      x.map EnK.e = findD K i ∧ ∀ y, x = some y → Own2 W n0 y.e.t y.s ∧ y.e ∈ K := by
  obtain ⟨L, hL, hp, ho⟩ := h.has
  have hnd : ((L.map entK).map Prod.fst).Nodup := by obtain ⟨_, _, _, q, _⟩ := hL; exact q
  have hlook : ∀ W' : World, W'.heap[mb]? = W.heap[mb]? → (Instr.lookup 59 (.map (some mb)) (aggI i) true).run Tryz.prog W' = .ok (.tuple #[lookV (L.map entK) i zeroK, .bool (findV (L.map entK) i).isSome]) W' := fun W' hW' => hL.look mapKd (z := zeroK) hi W' (by go_simp; rfl) hW'
  cases hf : findD K i with
  | some x =>
    obtain ⟨hx, rfl⟩ := findD_is hf
    obtain ⟨y, hy, rfl⟩ := List.mem_map.1 (hp.mem_iff.2 hx)
    have h2 := findV_mem hnd (x := entK y) (List.mem_map.2 ⟨y, hy, rfl⟩)
    refine ⟨some y, fun W' hW' => ?_, rfl, fun z hz => by cases hz; exact ⟨ho y hy, hx⟩⟩
    have h3 := hlook W' hW'
    unfold lookV at h3
    rw [show findV (L.map entK) y.e.id = some (entK y) from h2] at h3
    exact h3
  | none =>
    have h2 : findV (L.map entK) i = none := findV_none fun z hz => by
      obtain ⟨y, hy, rfl⟩ := List.mem_map.1 hz
      exact findD_none hf y.e (hp.mem_iff.1 (List.mem_map.2 ⟨y, hy, rfl⟩))
    refine ⟨none, fun W' hW' => ?_, rfl, fun z hz => by cases hz⟩
    have h3 := hlook W' hW'
    unfold lookV at h3
    rw [h2] at h3
    exact h3
theorem ProgD.okI {W : World} {n0 pb mb : Nat} {room : Int} {K : List EnT} (h : ProgD W n0 pb mb room K) : ∀ x ∈ K, okI x.id := fun x hx => by
  have := right_head (h.inv.ok x hx).1
  unfold rightT at this
  unfold ti.okI In64 EnT.id
  omega
theorem right_okI {t : TiV} (h : rightV t = true) : ti.okI t.hd.id := by
  have := right_head h
  unfold rightT at this
  unfold ti.okI In64
  omega
/-- A piece is entered. -/
theorem ProgD.enter {W V : World} {n0 pb mb : Nat} {room : Int} {K : List EnT} (h : ProgD W n0 pb mb room K) (hb : Below W.heap.size W V) {t : TiV} {s : Sl2} {now : Int} (hr : rightV t = true) (hm : momD now) (hi : InvD room (insD K (enD t now))) (hroom : room ≤ 4096) (ho : Own2 V W.heap.size t s) :
    ∃ V', (Instr.mapUpdate 59 (.map (some mb)) (.agg #[.int .i64 t.hd.id.d, .int .i64 t.hd.id.o, .int .i64 t.hd.id.k, .int .i64 t.hd.id.n]) (.agg #[.int .i64 t.hd.id.d, .int .i64 t.hd.id.o, .int .i64 t.hd.id.k, .int .i64 t.hd.id.n, .int .i64 t.hd.seq, .int .i64 t.hd.life, .int .i64 t.level, .bool t.over, .slice s.ea t.es.length s.ec, .slice s.ra t.rs.length s.rc, .int .i64 (now + t.hd.life)])).run Tryz.prog V = .ok () V' ∧
      ProgD V' n0 pb mb room (insD K (enD t now)) ∧ V.mapTurned V' mb := by
  have hV := h.below hb
  obtain ⟨L, hL, hp, hO⟩ := hV.has
  have hlen : (L.map entK).length < maxLen := by
    have h1 := hp.length_eq
    have h2 := h.inv.room
    rw [List.length_map] at h1 ⊢
    rw [h1]
    unfold maxLen
    omega
  obtain ⟨V', h1, h2, h3⟩ := hL.put hlen mapKd (right_okI hr) (aggK ⟨enD t now, s⟩)
  refine ⟨V', h1, ?_, h3⟩
  have e1 : restV (L.map entK) t.hd.id ++ [(t.hd.id, aggK ⟨enD t now, s⟩)] = (restK L t.hd.id ++ [(⟨enD t now, s⟩ : EnK)]).map entK := by
    rw [List.map_append, ← restV_map]
    rfl
  rw [e1] at h2
  refine hV.turn h3 hi _ h2 ?_ fun x hx => ?_
  · rw [List.map_append, restK_e]
    exact ((restD_perm hp t.hd.id).append_right [enD t now]).trans (insD_perm (e := enD t now) h.inv.asc).symm
  · rcases List.mem_append.1 hx with hx | hx
    · exact hO x (List.mem_filter.1 hx).1
    · simp at hx
      subst hx
      have hp2 := h.lt.1
      have hp3 := h.hp
      exact ⟨ho.e.mono (by omega), ho.r.mono (by omega)⟩
set_option maxHeartbeats 3200000 in
set_option maxRecDepth 100000 in
theorem dkeep_any {w : World} {n0 pb mb : Nat} {room : Int} {K : List EnT} (h : ProgD w n0 pb mb room K) (t : TiV) (s : Sl2) (now : Int) (hs : Rd2 w t s) (hr : rightV t = true) (hm : momD now) (hi : InvD room (insD K (enD t now))) (hroom : room ≤ 4096) :
    Calls Tryz.prog 36 #[.pointer (some ⟨pb, 0, none⟩), aggV t s, .int .i64 now] w fun e w' => e = .returned (.tuple #[]) ∧ ProgD w' n0 pb mb room (insD K (enD t now)) ∧ w.grownBy w' (some mb) := by
  have hb := right_head hr
  have e1 : -9223372036854775808 ≤ now + t.hd.life ∧ now + t.hd.life ≤ 9223372036854775807 := by unfold momD at hm; omega
  have HO : Hid (∀ W, Below w.heap.size w W → Calls Tryz.prog 29 #[aggV t s] W fun e w' => ∃ s', e = .returned (aggV t s') ∧ Own2 w' W.heap.size t s' ∧ Below W.heap.size W w') := fun W hW => down_any t s W (hs.below hW)
  have HE : Hid (∀ V s', Below w.heap.size w V → Own2 V w.heap.size t s' → ∃ V', (Instr.mapUpdate 59 (.map (some mb)) (.agg #[.int .i64 t.hd.id.d, .int .i64 t.hd.id.o, .int .i64 t.hd.id.k, .int .i64 t.hd.id.n]) (.agg #[.int .i64 t.hd.id.d, .int .i64 t.hd.id.o, .int .i64 t.hd.id.k, .int .i64 t.hd.id.n, .int .i64 t.hd.seq, .int .i64 t.hd.life, .int .i64 t.level, .bool t.over, .slice s'.ea t.es.length s'.ec, .slice s'.ra t.rs.length s'.rc, .int .i64 (now + t.hd.life)])).run Tryz.prog V = .ok () V' ∧ ProgD V' n0 pb mb room (insD K (enD t now)) ∧ V.mapTurned V' mb) := fun V s' hV ho => h.enter hV hr hm hi hroom ho
  have hlt := h.lt
  have A0 : Arr (w.alloc (.cells #[.int .i64 t.hd.id.d, .int .i64 t.hd.id.o, .int .i64 t.hd.id.k, .int .i64 t.hd.id.n, .int .i64 t.hd.seq, .int .i64 t.hd.life, .int .i64 t.level, .bool t.over, .slice s.ea t.es.length s.ec, .slice s.ra t.rs.length s.rc] 39)) w.heap.size 39 (cellsV t s) := Arr.new w _ (cellsV t s)
  have B0 : Below w.heap.size w (w.alloc (.cells #[.int .i64 t.hd.id.d, .int .i64 t.hd.id.o, .int .i64 t.hd.id.k, .int .i64 t.hd.id.n, .int .i64 t.hd.seq, .int .i64 t.hd.life, .int .i64 t.level, .bool t.over, .slice s.ea t.es.length s.ec, .slice s.ra t.rs.length s.rc] 39)) := (Below.refl _ _).alloc (Nat.le_refl _) _
  have HP := Lib.hid h
  have EW : Hid (IntKind.i64.wrap (now + t.hd.life) = now + t.hd.life) := wrapI e1
  clear h hs hr hm hi hroom hb
  unfold aggV at *
  obtain ⟨w0, hw0⟩ : ∃ w0, (w.alloc (.cells #[.int .i64 t.hd.id.d, .int .i64 t.hd.id.o, .int .i64 t.hd.id.k, .int .i64 t.hd.id.n, .int .i64 t.hd.seq, .int .i64 t.hd.life, .int .i64 t.level, .bool t.over, .slice s.ea t.es.length s.ec, .slice s.ra t.rs.length s.rc] 39)) = w0 := ⟨_, rfl⟩
  have hsz : w0.heap.size = w.heap.size + 1 := by rw [← hw0]; simp
  rw [hw0] at A0 B0
  have SF : Hid (∀ W : World, KeepC w0 W → W.cell? ⟨pb, 1, none⟩ = some (.map (some mb)) ∧ W.cell? ⟨w.heap.size, 0, none⟩ = some (.int .i64 t.hd.id.d) ∧ W.cell? ⟨w.heap.size, 1, none⟩ = some (.int .i64 t.hd.id.o) ∧ W.cell? ⟨w.heap.size, 2, none⟩ = some (.int .i64 t.hd.id.k) ∧ W.cell? ⟨w.heap.size, 3, none⟩ = some (.int .i64 t.hd.id.n) ∧ W.cell? ⟨w.heap.size, 4, none⟩ = some (.int .i64 t.hd.seq) ∧ W.cell? ⟨w.heap.size, 5, none⟩ = some (.int .i64 t.hd.life) ∧ W.cell? ⟨w.heap.size, 6, none⟩ = some (.int .i64 t.level) ∧ W.cell? ⟨w.heap.size, 7, none⟩ = some (.bool t.over) ∧ W.cell? ⟨w.heap.size, 8, none⟩ = some (.slice s.ea t.es.length s.ec) ∧ W.cell? ⟨w.heap.size, 9, none⟩ = some (.slice s.ra t.rs.length s.rc)) := fun W hW => by
    have a : Arr W w.heap.size 39 (cellsV t s) := hW _ _ _ _ A0
    have b := hW _ _ _ _ ((B0.block pb hlt.1).trans HP.out.base)
    exact ⟨by simp [World.cell?, b], a.cell 0, a.cell 1, a.cell 2, a.cell 3, a.cell 4, a.cell 5, a.cell 6, a.cell 7, a.cell 8, a.cell 9⟩
  have HB0 := Lib.hid B0
  have HSZ := Lib.hid hsz
  have SF0 := SF.out w0.drew (fun _ _ _ _ q => q)
  clear A0 B0 hsz
  go_enter Tryz.func36, Tryz.ntmps36
  go_wp2
  go_region_held (fun W => W.cell? ⟨pb, 1, none⟩ = some (.map (some mb)) ∧ W.cell? ⟨w.heap.size, 0, none⟩ = some (.int .i64 t.hd.id.d) ∧ W.cell? ⟨w.heap.size, 1, none⟩ = some (.int .i64 t.hd.id.o) ∧ W.cell? ⟨w.heap.size, 2, none⟩ = some (.int .i64 t.hd.id.k) ∧ W.cell? ⟨w.heap.size, 3, none⟩ = some (.int .i64 t.hd.id.n) ∧ W.cell? ⟨w.heap.size, 4, none⟩ = some (.int .i64 t.hd.seq) ∧ W.cell? ⟨w.heap.size, 5, none⟩ = some (.int .i64 t.hd.life) ∧ W.cell? ⟨w.heap.size, 6, none⟩ = some (.int .i64 t.level) ∧ W.cell? ⟨w.heap.size, 7, none⟩ = some (.bool t.over) ∧ W.cell? ⟨w.heap.size, 8, none⟩ = some (.slice s.ea t.es.length s.ec) ∧ W.cell? ⟨w.heap.size, 9, none⟩ = some (.slice s.ra t.rs.length s.rc)) (assumption) ((first
    | (go_at_call 29; refine (HO.out _ HB0.out.drew).mono ?_; rintro e w2 ⟨s', rfl, ho, hb⟩; have HB2 : Below w.heap.size w w2 := HB0.out.drew.trans (hb.mono (by have := HSZ.out; show w.heap.size ≤ w0.heap.size; omega)); obtain ⟨w3, hput, hpd, htn⟩ := HE.out w2 s' HB2 ⟨ho.e.mono (by have := HSZ.out; show w.heap.size ≤ w0.heap.size; omega), ho.r.mono (by have := HSZ.out; show w.heap.size ≤ w0.heap.size; omega)⟩; rw [← EW.out] at hput; have kk : KeepC w0 w2 := (fun k cs T fr q => KeepC.below hb k cs T fr q); have SF2 := SF.out w2 kk; have SF3 := SF.out w3 (kk.trans (KeepC.turned htn)); have HPD := Lib.hid hpd; have HTN := Lib.hid (World.grownBy.andThen (row := some mb) ⟨HB2.os, HB2.tape, HB2.output, HB2.size, fun k hk _ => HB2.block k hk⟩ htn.grown (fun j e => .inr e)); clear ho hb HB2 hpd htn kk)))
  go_end0
  exact ⟨rfl, HPD.out, HTN.out⟩
end Go.Proofs.YtpaooddmgcekhaaGreat.ti
