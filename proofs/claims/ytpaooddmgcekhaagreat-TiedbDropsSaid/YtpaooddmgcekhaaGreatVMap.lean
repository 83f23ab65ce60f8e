/-
  A MAP BY THE IDS OF PIECES, that the call itself made, of any values: as a list of ids and values; a look, a store, a removal, its size; a range over it.
-/
import Derived.Test.YtpaooddmgcekhaaGreatTArg
import Derived.Maps.OwnSet
import Derived.Maps.RangeWalk
import Derived.Maps.OwnIn
import Derived.DeepKeys4
namespace Go.Proofs.YtpaooddmgcekhaaGreat.ti
set_option linter.unusedSimpArgs false
set_option linter.unusedVariables false
open Go.ChangeMaps Go.MapKept Go.WideElems Go.Maps Go.RowKit
theorem KT : Keyed Tryz.prog 33 := Keyed.of_law (deep_law (m := 2) (by omega) (by kernel_rfl) (by kernel_rfl) (by kernel_rfl))
def aggI (x : TId) : Value := .agg #[.int .i64 x.d, .int .i64 x.o, .int .i64 x.k, .int .i64 x.n]
theorem aggI_inj {x y : TId} (h : aggI x = aggI y) : x = y := by
  unfold aggI at h
  simp at h
  exact TId.ext h.1 h.2.1 h.2.2.1 h.2.2.2
theorem wfI {k : Int} (h : In64 k) : (Lit.int .i64 k).wf = true := by
  unfold In64 at h
  simp [Lit.wf, IntKind.min, IntKind.max, IntKind.signed, IntKind.bits]
  omega
theorem lits_int (d : Nat) {a : Int} (h : In64 a) : Tryz.prog.keyLits (d + 1) 3 [.int .i64 a] = some [.int .i64 a] := by
  unfold Program.keyLits
  rw [show Tryz.prog.underlying 3 = some (.int .i64) from by kernel_rfl]
  simp [wfI h]
def keyL (x : TId) : Lit := .string (keyBytes [.int .i64 x.d, .int .i64 x.o, .int .i64 x.k, .int .i64 x.n])
theorem keyT {x : TId} (h : okI x) : keyOf Tryz.prog 33 (aggI x) = some (keyL x) := by
  obtain ⟨m, hm⟩ : ∃ m, Tryz.prog.types.size = m + 1 := ⟨Tryz.prog.types.size - 1, by have : decide (0 < Tryz.prog.types.size) = true := (by kernel_rfl); have := of_decide_eq_true this; omega⟩
  have h1 : (Tryz.prog.keyType 33 && (aggI x).formed Tryz.prog 33) = true := by kernel_rfl
  have c1 : Tryz.prog.cellsOf 3 = 1 := by kernel_rfl
  have c4 : Tryz.prog.cellsOf 33 = 4 := by kernel_rfl
  unfold keyOf
  simp only [Tryz.underlying33]
  rw [if_pos h1, hm]
  unfold Program.keyLits
  simp only [Tryz.underlying33, aggI, Value.cells, c4]
  rw [if_pos ⟨rfl, by kernel_rfl⟩]
  simp only [List.mapM_cons, List.mapM_nil, c1, List.drop, List.take, lits_int m h.1, lits_int m h.2.1, lits_int m h.2.2.1, lits_int m h.2.2.2]
  rfl
theorem keyL_inj {x y : TId} (hx : okI x) (hy : okI y) (h : keyL x = keyL y) : x = y := by
  have h1 := keyT hx
  rw [h] at h1
  exact aggI_inj (KT.inj h1 (keyT hy))
theorem keyL_same {x y : TId} (hx : okI x) (hy : okI y) : (keyL x).sameKey (keyL y) = decide (x = y) := by
  by_cases h : x = y
  · rw [decide_eq_true h, h]
    exact WideAt.sameKey_self trivial
  · rw [decide_eq_false h]
    exact sameKey_ne fun e => h (keyL_inj hx hy e)
/-! Values by ids. -/
abbrev IdV := TId × Value
def findV (L : List IdV) (i : TId) : Option IdV := L.find? fun x => decide (x.1 = i)
def restV (L : List IdV) (i : TId) : List IdV := L.filter fun x => !decide (x.1 = i)
theorem findV_is {L : List IdV} {i : TId} {x : IdV} (h : findV L i = some x) : x ∈ L ∧ x.1 = i := by
  unfold findV at h
  have h2 := List.find?_some h
  exact ⟨List.mem_of_find?_eq_some h, of_decide_eq_true h2⟩
theorem restV_mem {L : List IdV} {i : TId} {x : IdV} : x ∈ restV L i ↔ x ∈ L ∧ x.1 ≠ i := by
  unfold restV
  simp
theorem findV_mem {L : List IdV} (h : (L.map Prod.fst).Nodup) {x : IdV} (hx : x ∈ L) : findV L x.1 = some x := by
  induction L with
  | nil => cases hx
  | cons a L ih =>
    rw [List.map_cons, List.nodup_cons] at h
    rcases List.mem_cons.1 hx with rfl | hx
    · unfold findV; simp
    · have hne : ¬ a.1 = x.1 := fun e => h.1 (List.mem_map.2 ⟨x, hx, e.symm⟩)
      have : findV (a :: L) x.1 = findV L x.1 := by unfold findV; simp [hne]
      rw [this]
      exact ih h.2 hx
theorem findV_none {L : List IdV} {i : TId} (h : ∀ x ∈ L, x.1 ≠ i) : findV L i = none := by
  unfold findV
  exact List.find?_eq_none.2 fun x hx => by simpa using h x hx
/-! The map. -/
def heldR (v : Value) : Option (DataW Value × List MemPlace) := some (.held v, [])
def entV (x : IdV) : Lit × DataW Value := (keyL x.1, .held x.2)
/-- Block b is a map that holds just these values. -/
def MapV (W : World) (b : Nat) (L : List IdV) : Prop := ∃ es, W.ownsMap Tryz.prog 33 heldR b L.length (.map es) ∧ es.Perm (L.map entV) ∧ (L.map Prod.fst).Nodup ∧ ∀ x ∈ L, okI x.1
/-- A loop over it. -/
def RangeV (W : World) (b r n : Nat) (L : List IdV) (left : Lit → Bool) (cnt : Nat) : Prop := ∃ es, W.ranges Tryz.prog 33 heldR b r n (.map es) left cnt ∧ es.Perm (L.map entV) ∧ (L.map Prod.fst).Nodup ∧ ∀ x ∈ L, okI x.1
theorem tight {W : World} {b n : Nat} {es : List (Lit × DataW Value)} (h : W.ownsMap Tryz.prog 33 heldR b n (.map es)) : W.ownsMap Tryz.prog 33 heldR b es.length (.map es) := by
  obtain ⟨cs, clock, hb, F, _, hD⟩ := h
  refine ⟨cs, clock, hb, F, ?_, hD⟩
  injection hD with hD
  rw [hD, length_sorted]
  simp
theorem MapV.perm {W : World} {b : Nat} {L M : List IdV} (h : MapV W b L) (p : L.Perm M) : MapV W b M := by
  obtain ⟨es, ho, hp, hn, hk⟩ := h
  exact ⟨es, by rw [← p.length_eq]; exact ho, hp.trans (p.map _), (p.map _).nodup_iff.1 hn, fun x hx => hk x (p.mem_iff.2 hx)⟩
theorem perm_del {es : List (Lit × DataW Value)} {L : List IdV} (h : es.Perm (L.map entV)) (hL : ∀ x ∈ L, okI x.1) {i : TId} (hi : okI i) : (es.filter fun p => !p.1.sameKey (keyL i)).Perm ((restV L i).map entV) := by
  have q := h.filter fun p => !p.1.sameKey (keyL i)
  have e : (L.map entV).filter (fun p => !p.1.sameKey (keyL i)) = (restV L i).map entV := by
    unfold restV
    rw [List.filter_map]
    congr 1
    apply List.filter_congr
    intro x hx
    show (!(keyL x.1).sameKey (keyL i)) = _
    rw [keyL_same (hL x hx) hi]
  rw [e] at q
  exact q
theorem MapV.lt {W : World} {b : Nat} {L : List IdV} (h : MapV W b L) : b < W.heap.size := by
  obtain ⟨es, h, _⟩ := h
  exact h.lt
theorem MapV.isMap {W : World} {b : Nat} {L : List IdV} (h : MapV W b L) : ∃ es c, W.heap[b]? = some (.map es c) := by
  obtain ⟨_, ⟨cs, c, hb, r⟩, q⟩ := h
  exact ⟨cs, c, hb⟩
theorem MapV.same {W W' : World} {b : Nat} {L : List IdV} (h : MapV W b L) (k : W'.heap[b]? = W.heap[b]?) : MapV W' b L := by
  obtain ⟨es, ⟨cs, c, hb, r⟩, q⟩ := h
  exact ⟨es, ⟨cs, c, k.trans hb, r⟩, q⟩
theorem MapV.made (W : World) : MapV (W.alloc (.map #[] 0)) W.heap.size [] := ⟨[], World.ownsMap_made W _ _ _, List.Perm.nil, List.nodup_nil, by simp⟩
theorem apart_of {L : List IdV} {es : List (Lit × DataW Value)} (hp : es.Perm (L.map entV)) (hn : (L.map Prod.fst).Nodup) (hL : ∀ x ∈ L, okI x.1) : es.Pairwise (fun p q => p.1 ≠ q.1) := by
  refine (hp.pairwise_iff (fun {_ _} hne => Ne.symm hne)).2 ?_
  rw [List.pairwise_map]
  have h2 := List.pairwise_map.1 (show List.Pairwise (· ≠ ·) (L.map Prod.fst) from hn)
  exact List.Pairwise.imp_of_mem (fun {x y} hx hy hne e => hne (keyL_inj (hL x hx) (hL y hy) e)) h2
theorem has_L {L : List IdV} {es : List (Lit × DataW Value)} (hp : es.Perm (L.map entV)) (hL : ∀ x ∈ L, okI x.1) {i : TId} (hi : okI i) : has (.map es) (keyL i) = (findV L i).isSome := by
  rw [has_eq]
  have e1 : es.any (fun p => p.1.sameKey (keyL i)) = (L.map entV).any (fun p => p.1.sameKey (keyL i)) := by
    rw [Bool.eq_iff_iff, List.any_eq_true, List.any_eq_true]
    constructor <;> rintro ⟨p, hm, h⟩
    · exact ⟨p, hp.mem_iff.1 hm, h⟩
    · exact ⟨p, hp.mem_iff.2 hm, h⟩
  rw [e1, List.any_map]
  unfold findV
  rw [Bool.eq_iff_iff, List.any_eq_true, List.find?_isSome]
  constructor
  · rintro ⟨x, hx, h⟩
    exact ⟨x, hx, by rw [← keyL_same (hL x hx) hi]; exact h⟩
  · rintro ⟨x, hx, h⟩
    exact ⟨x, hx, by rw [← keyL_same (hL x hx) hi] at h; exact h⟩
theorem at_L {L : List IdV} {es : List (Lit × DataW Value)} (hp : es.Perm (L.map entV)) (hn : (L.map Prod.fst).Nodup) (hL : ∀ x ∈ L, okI x.1) {x : IdV} (hx : x ∈ L) (z : DataW Value) : (DataW.map es).atKey (keyL x.1) z = .held x.2 :=
  WideAt.atKey_mem z trivial (apart_of hp hn hL) (hp.mem_iff.2 (List.mem_map.2 ⟨x, hx, rfl⟩))
theorem held_inv {v : Value} {d : DataW Value} {ps : List MemPlace} (h : heldR v = some (d, ps)) : d = .held v := by
  unfold heldR at h
  injection h with h
  exact (Prod.mk.inj h).1.symm
/-- What a look at an id gives. -/
def lookV (L : List IdV) (i : TId) (z : Value) : Value := ((findV L i).map Prod.snd).getD z
theorem MapV.look {W : World} {b : Nat} {L : List IdV} (h : MapV W b L) {mt et : TypeId} (hmt : Tryz.prog.underlying mt = some (.map 33 et)) {z : Value} {i : TId} (hi : okI i) (W' : World) (hz : (zeroValue et).run Tryz.prog W' = .ok z W') (hW : W'.heap[b]? = W.heap[b]?) :
    (Instr.lookup mt (.map (some b)) (aggI i) true).run Tryz.prog W' = .ok (.tuple #[lookV L i z, .bool (findV L i).isSome]) W' := by
  obtain ⟨es, ho, hp, hn, hL⟩ := h.same hW
  obtain ⟨v, ps, hrun, hR⟩ := ho.look_ok KT hmt (z := z) hz (rfl : heldR z = some (.held z, [])) (keyT hi)
  rw [hrun, has_L hp hL hi]
  have hc := held_inv hR
  unfold lookV
  cases hf : findV L i with
  | none =>
    have h0 : has (.map es) (keyL i) = false := by rw [has_L hp hL hi, hf]; rfl
    rw [atKey_of_not_has h0] at hc
    rw [← DataW.held.inj hc]
    rfl
  | some o =>
    obtain ⟨hm, rfl⟩ := findV_is hf
    rw [at_L hp hn hL hm] at hc
    rw [← DataW.held.inj hc]
    rfl
theorem MapV.len {W : World} {b : Nat} {L : List IdV} (h : MapV W b L) {mt et : TypeId} (hmt : Tryz.prog.underlying mt = some (.map 33 et)) (ty : TypeId) (W' : World) (hW : W'.heap[b]? = W.heap[b]?) : (Builtin.len_ #[mt] ty #[.map (some b)]).run Tryz.prog W' = .ok (.int .i64 L.length) W' := by
  obtain ⟨es, ho, hp, hn, hi⟩ := h.same hW
  rw [ho.len hmt ty, size_eq, hp.length_eq, List.length_map]
theorem nd_filter {L : List IdV} (p : IdV → Bool) (h : (L.map Prod.fst).Nodup) : ((L.filter p).map Prod.fst).Nodup := List.Nodup.sublist (List.Sublist.map _ List.filter_sublist) h
theorem MapV.drop {W : World} {b : Nat} {L : List IdV} (h : MapV W b L) {mt et : TypeId} (hmt : Tryz.prog.underlying mt = some (.map 33 et)) {i : TId} (hi : okI i) (ty : TypeId) :
    ∃ W', (Builtin.delete_ #[mt, 33] ty #[.map (some b), aggI i]).run Tryz.prog W = .ok (.tuple #[]) W' ∧ MapV W' b (restV L i) ∧ W.mapTurned W' b := by
  obtain ⟨es, ho, hp, hn, hL⟩ := h
  obtain ⟨W', hrun, ho', ht⟩ := ho.drop KT hmt (keyT hi) ty
  have q := perm_del hp hL hi
  refine ⟨W', hrun, ⟨_, ?_, q, nd_filter _ hn, fun o h => hL o (restV_mem.1 h).1⟩, ht⟩
  have t := tight ho'
  rw [show (restV L i).length = (es.filter fun p => !p.1.sameKey (keyL i)).length by rw [q.length_eq, List.length_map]]
  exact t
theorem MapV.put {W : World} {b : Nat} {L : List IdV} (h : MapV W b L) (hl : L.length < maxLen) {mt et : TypeId} (hmt : Tryz.prog.underlying mt = some (.map 33 et)) {i : TId} (hi : okI i) (v : Value) :
    ∃ W', (Instr.mapUpdate mt (.map (some b)) (aggI i) v).run Tryz.prog W = .ok () W' ∧ MapV W' b (restV L i ++ [(i, v)]) ∧ W.mapTurned W' b := by
  obtain ⟨es, ho, hp, hn, hL⟩ := h
  obtain ⟨W', hrun, ho', ht⟩ := ho.store KT hmt hl (keyT hi) (rfl : heldR v = some (.held v, []))
  have q : (DataW.insert (keyL i, (.held v : DataW Value)) (es.filter fun p => !p.1.sameKey (keyL i))).Perm ((restV L i ++ [(i, v)]).map entV) := by
    refine (Go.WideShapes.insert_perm _ _).trans ?_
    rw [List.map_append]
    refine (List.Perm.cons _ (perm_del hp hL hi)).trans ?_
    exact (List.perm_append_comm (l₁ := [entV (i, v)]) (l₂ := (restV L i).map entV))
  refine ⟨W', hrun, ⟨_, ?_, q, ?_, fun o h => ?_⟩, ht⟩
  · have t2 := tight ho'
    rw [show (restV L i ++ [(i, v)]).length = (DataW.insert (keyL i, (.held v : DataW Value)) (es.filter fun p => !p.1.sameKey (keyL i))).length by rw [q.length_eq, List.length_map]]
    exact t2
  · rw [List.map_append, List.nodup_append]
    refine ⟨nd_filter _ hn, by simp, fun y hy z hz => ?_⟩
    obtain ⟨o, ho, rfl⟩ := List.mem_map.1 hy
    simp at hz
    subst hz
    exact (restV_mem.1 ho).2
  · rcases List.mem_append.1 h with h | h
    · exact hL o (restV_mem.1 h).1
    · simp at h
      subst h
      exact hi
theorem RangeV.map {W : World} {b r n cnt : Nat} {L : List IdV} {left : Lit → Bool} (h : RangeV W b r n L left cnt) : MapV W b L := by
  obtain ⟨es, hr, hp, q⟩ := h
  have t := tight hr.owns
  rw [hp.length_eq, List.length_map] at t
  exact ⟨es, t, hp, q⟩
theorem RangeV.left_eq {W : World} {b r n cnt : Nat} {L : List IdV} {left : Lit → Bool} (h : RangeV W b r n L left cnt) : W.rangeLeft b r = cnt := by
  obtain ⟨es, hr, _⟩ := h
  exact hr.left_eq
theorem RangeV.kept {W W' : World} {b r n cnt : Nat} {L : List IdV} {left : Lit → Bool} {row : Option Nat} (h : RangeV W b r n L left cnt) (hg : W.grownBy W' row) (hb : some b ≠ row) (hr : some r ≠ row) : RangeV W' b r n L left cnt := by
  obtain ⟨es, q, p⟩ := h
  exact ⟨es, q.kept hg hb hr, p⟩
theorem ndV_eq {L : List IdV} (h : (L.map Prod.fst).Nodup) {x y : IdV} (hx : x ∈ L) (hy : y ∈ L) (e : x.1 = y.1) : x = y := by
  have h1 := findV_mem h hx
  rw [e, findV_mem h hy] at h1
  exact (Option.some.inj h1).symm
section
variable (w : World) {ops : Array Oper} {rest : List Oper} {o : Oper} {a : Act} {Q : Exit → Act → World → Prop} {mt et : TypeId}
theorem wpList_range_V (hmt : Tryz.prog.underlying mt = some (.map 33 et)) (hg : o.guard = none) (m : Operand) (hop : o.op = Op.range mt m) (b : Nat) (L : List IdV) (hm : a.eval m = .map (some b)) (h : MapV w b L)
    (hK : ∀ w' left cnt, RangeV w' b w.heap.size L.length L left cnt → (∀ x ∈ L, left (keyL x.1) = true) → w.grownBy w' none → w'.heap.size = w.heap.size + 1 → wpList Tryz.prog ops Q rest (a.put o.dst (.pointer (some ⟨w.heap.size, 0, none⟩))) w') :
    wpList Tryz.prog ops Q (o :: rest) a w := by
  obtain ⟨es, ho, hp, hn, hi⟩ := h
  refine wpList_range_own w hg m mt hop 33 et KT hmt heldR b L.length (.map es) hm ho fun w' hr hgr hs => ?_
  refine hK w' _ _ ⟨es, hr, hp, hn, hi⟩ (fun x hx => ?_) hgr hs
  rw [has_L hp hi (hi x hx), findV_mem hn hx]
  rfl
theorem wpList_next_V (hg : o.guard = none) (it : Operand) (hop : o.op = Op.next it false) (b r n : Nat) (L : List IdV) (left : Lit → Bool) (cnt : Nat) (hit : a.eval it = .pointer (some ⟨r, 0, none⟩)) (h : RangeV w b r n L left cnt)
    (hDone : (∀ kl, left kl = false) → wpList Tryz.prog ops Q rest (a.put o.dst (.tuple #[.bool false])) w)
    (hMore : ∀ (x : IdV) (w' : World) (cnt' : Nat), x ∈ L → left (keyL x.1) = true → RangeV w' b r n L (fun z => left z && !z.sameKey (keyL x.1)) cnt' → cnt' < cnt → w.grownBy w' (some r) → w'.heap.size = w.heap.size →
      (Instr.entry (.pointer (some ⟨r, 0, none⟩))).run Tryz.prog w' = .ok (.tuple #[aggI x.1, x.2]) w' →
      wpList Tryz.prog ops Q rest (a.put o.dst (.tuple #[.bool true, aggI x.1, x.2])) w') :
    wpList Tryz.prog ops Q (o :: rest) a w := by
  obtain ⟨es, hr, hp, hn, hi⟩ := h
  refine wpList_next_ranges w hg it hop 33 KT heldR (fun v : Value => v) (fun v : Value => v) (fun key kl hkey => ⟨key, rfl⟩) (fun v y hv => ⟨v, rfl⟩)
    b r n (.map es) left cnt hit hr (fun _ hl => hDone hl) (fun x c kl y w' cnt' hkey hlk hv hat hrg hlt hgr hsz hen => ?_)
  have hv' : y = (.held c, []) := by
    have : heldR c = some (.held c, []) := rfl
    rw [this] at hv
    exact (Option.some.inj hv).symm
  have hin : has (.map es) kl = true := by
    cases hh : has (.map es) kl with
    | true => rfl
    | false =>
      have h1 := hat .nil
      rw [atKey_of_not_has hh, hv'] at h1
      cases h1
  rw [has_eq, List.any_eq_true] at hin
  obtain ⟨p, hpm, hpk⟩ := hin
  obtain ⟨q, hq, rfl⟩ := List.mem_map.1 (hp.mem_iff.1 hpm)
  have hk2 : keyL q.1 = kl := WideAt.sameKey_eq hpk
  subst hk2
  have h1 := hat .nil
  rw [at_L hp hn hi hq, hv'] at h1
  have h1 := DataW.held.inj h1
  subst h1
  have hx : x = aggI q.1 := KT.inj hkey (keyT (hi q hq))
  subst hx
  exact hMore q w' cnt' hq hlk ⟨es, hrg, hp, hn, hi⟩ hlt hgr hsz hen
theorem wpList_delete_R (hmt : Tryz.prog.underlying mt = some (.map 33 et)) (hg : o.guard = none) (m x : Operand) (hop : o.op = Op.call { callee := Callee.builtin Builtin.delete, args := #[m, x], argTypes := #[mt, 33] })
    (b r n : Nat) (L : List IdV) (left : Lit → Bool) (cnt : Nat) (hm : a.eval m = .map (some b)) (h : RangeV w b r n L left cnt) (i : TId) (hi : okI i) (hx : a.eval x = aggI i)
    (hK : ∀ w' cnt', RangeV w' b r n (restV L i) (fun z => left z && !z.sameKey (keyL i)) cnt' → cnt' ≤ cnt → w.mapTurned w' b → wpList Tryz.prog ops Q rest (a.put o.dst (.tuple #[])) w') :
    wpList Tryz.prog ops Q (o :: rest) a w := by
  obtain ⟨es, hr, hp, hn, hL⟩ := h
  refine wpList_delete_ranges w hg m x mt 33 hop et KT hmt heldR b r n (.map es) left cnt hm hr _ _ hx (keyT hi) fun w' cnt' hr' hle ht => ?_
  exact hK w' cnt' ⟨_, hr', perm_del hp hL hi, nd_filter _ hn, fun o h => hL o (restV_mem.1 h).1⟩ hle ht
end
end Go.Proofs.YtpaooddmgcekhaaGreat.ti
