/-
  A MAP OF HEADS by their ids: as a list of heads; a look, a store; a range over it.
-/
import Derived.Test.YtjfnpciecgemeaaTIns
import Derived.Test.YtjfnpciecgemeaaTArg
import Derived.Maps.OwnSet
import Derived.Maps.RangeWalk
import Derived.DeepKeys4
namespace Go.Proofs.Ytjfnpciecgemeaa.ti
set_option linter.unusedSimpArgs false
set_option linter.unusedVariables false
open Go.ChangeMaps Go.MapKept Go.WideElems Go.Maps Go.RowKit
theorem mapK : Try.prog.underlying 64 = some (.map 24 34) := by kernel_rfl
theorem KT : Keyed Try.prog 24 := Keyed.of_law (deep_law (m := 2) (by omega) (by kernel_rfl) (by kernel_rfl) (by kernel_rfl))
def aggI (x : TId) : Value := .agg #[.int .i64 x.d, .int .i64 x.o, .int .i64 x.k, .int .i64 x.n]
def aggH (x : THd) : Value := .agg #[.int .i64 x.id.d, .int .i64 x.id.o, .int .i64 x.id.k, .int .i64 x.id.n, .int .i64 x.seq, .int .i64 x.life]
theorem wfI {k : Int} (h : In64 k) : (Lit.int .i64 k).wf = true := by
  unfold In64 at h
  simp [Lit.wf, IntKind.min, IntKind.max, IntKind.signed, IntKind.bits]
  omega
theorem lits_int (d : Nat) {a : Int} (h : In64 a) : Try.prog.keyLits (d + 1) 3 [.int .i64 a] = some [.int .i64 a] := by
  unfold Program.keyLits
  rw [show Try.prog.underlying 3 = some (.int .i64) from by kernel_rfl]
  simp [wfI h]
def keyL (x : TId) : Lit := .string (keyBytes [.int .i64 x.d, .int .i64 x.o, .int .i64 x.k, .int .i64 x.n])
theorem keyT {x : TId} (h : okI x) : keyOf Try.prog 24 (aggI x) = some (keyL x) := by
  obtain ⟨m, hm⟩ : ∃ m, Try.prog.types.size = m + 1 := ⟨Try.prog.types.size - 1, by have : decide (0 < Try.prog.types.size) = true := (by kernel_rfl); have := of_decide_eq_true this; omega⟩
  have h1 : (Try.prog.keyType 24 && (aggI x).formed Try.prog 24) = true := by kernel_rfl
  have c1 : Try.prog.cellsOf 3 = 1 := by kernel_rfl
  have c4 : Try.prog.cellsOf 24 = 4 := by kernel_rfl
  unfold keyOf
  simp only [Try.underlying24]
  rw [if_pos h1, hm]
  unfold Program.keyLits
  simp only [Try.underlying24, aggI, Value.cells, c4]
  rw [if_pos ⟨rfl, by kernel_rfl⟩]
  simp only [List.mapM_cons, List.mapM_nil, c1, List.drop, List.take, lits_int m h.1, lits_int m h.2.1, lits_int m h.2.2.1, lits_int m h.2.2.2]
  rfl
theorem keyL_inj {x y : TId} (hx : okI x) (hy : okI y) (h : keyL x = keyL y) : x = y := by
  have h1 := keyT hx
  rw [h] at h1
  have := KT.inj h1 (keyT hy)
  unfold aggI at this
  simp at this
  exact TId.ext this.1 this.2.1 this.2.2.1 this.2.2.2
theorem keyL_same {x y : TId} (hx : okI x) (hy : okI y) : (keyL x).sameKey (keyL y) = decide (x = y) := by
  by_cases h : x = y
  · rw [decide_eq_true h, h]
    exact WideAt.sameKey_self trivial
  · rw [decide_eq_false h]
    exact sameKey_ne fun e => h (keyL_inj hx hy e)
/-! Heads by ids. -/
def findT (L : List THd) (i : TId) : Option THd := L.find? fun x => decide (x.id = i)
def restT (L : List THd) (i : TId) : List THd := L.filter fun x => !decide (x.id = i)
theorem findT_is {L : List THd} {i : TId} {x : THd} (h : findT L i = some x) : x ∈ L ∧ x.id = i := by
  unfold findT at h
  have h2 := List.find?_some h
  exact ⟨List.mem_of_find?_eq_some h, of_decide_eq_true h2⟩
theorem restT_mem {L : List THd} {i : TId} {x : THd} : x ∈ restT L i ↔ x ∈ L ∧ x.id ≠ i := by
  unfold restT
  simp
theorem restT_asc {L : List THd} {i : TId} (h : ∀ x ∈ L, lexT i x.id) : restT L i = L := by
  unfold restT
  refine List.filter_eq_self.2 fun x hx => ?_
  have : x.id ≠ i := fun e => lex_irr i (by have := h x hx; rwa [e] at this)
  simp [this]
/-- What is laid anew, or behind all. -/
theorem ins_rest : ∀ {A : List THd} {h : THd}, AscT A → (∀ x, findT A h.id = some x → 0 < newT h x) → (insT A h).Perm (restT A h.id ++ [h])
  | [], h, _, _ => by simp [insT, restT]
  | y :: r, h, ha, hf => by
    obtain ⟨h1, h2⟩ := List.pairwise_cons.1 ha
    unfold insT
    by_cases c1 : lexT y.id h.id
    · rw [if_pos c1]
      have hne : ¬ y.id = h.id := fun e => lex_irr y.id (by rw [e] at c1 ⊢; exact c1)
      have e1 : restT (y :: r) h.id = y :: restT r h.id := by unfold restT; simp [hne]
      have e2 : findT (y :: r) h.id = findT r h.id := by unfold findT; simp [hne]
      rw [e1]
      exact (ins_rest h2 (fun x hx => hf x (by rw [e2]; exact hx))).cons y
    · rw [if_neg c1]
      by_cases c2 : y.id = h.id
      · rw [if_pos c2]
        have e2 : findT (y :: r) h.id = some y := by unfold findT; simp [c2]
        rw [if_pos (hf y e2)]
        have e1 : restT (y :: r) h.id = r := by
          have : restT (y :: r) h.id = restT r h.id := by unfold restT; simp [c2]
          rw [this, ← c2]
          exact restT_asc h1
        rw [e1]
        exact List.perm_append_comm (l₁ := [h]) (l₂ := r)
      · rw [if_neg c2]
        have hl : lexT h.id y.id := by rcases lex_tot y.id h.id with q | q | q; exact absurd q c1; exact absurd q c2; exact q
        have e1 : restT (y :: r) h.id = y :: r := restT_asc fun x hx => by rcases List.mem_cons.1 hx with rfl | hx; exact hl; exact lex_tr hl (h1 x hx)
        rw [e1]
        exact List.perm_append_comm (l₁ := [h]) (l₂ := y :: r)
theorem ins_stays : ∀ {A : List THd} {h x : THd}, AscT A → findT A h.id = some x → ¬ 0 < newT h x → insT A h = A
  | [], h, x, _, hf, _ => by simp [findT] at hf
  | y :: r, h, x, ha, hf, hn => by
    obtain ⟨h1, h2⟩ := List.pairwise_cons.1 ha
    unfold insT
    by_cases c2 : y.id = h.id
    · have e2 : findT (y :: r) h.id = some y := by unfold findT; simp [c2]
      rw [e2] at hf
      cases hf
      rw [if_neg (by rw [c2]; exact lex_irr _), if_pos c2, if_neg hn]
    · have e2 : findT (y :: r) h.id = findT r h.id := by unfold findT; simp [c2]
      rw [e2] at hf
      obtain ⟨hm, hi⟩ := findT_is hf
      rw [if_pos (by rw [← hi]; exact h1 x hm), ins_stays h2 hf hn]
/-! The map. -/
def headD (x : THd) : DataW Unit := .agg [.lit (.int .i64 x.id.d), .lit (.int .i64 x.id.o), .lit (.int .i64 x.id.k), .lit (.int .i64 x.id.n), .lit (.int .i64 x.seq), .lit (.int .i64 x.life)]
def headR (v : Value) : Option (DataW Unit × List MemPlace) := match v with
  | .agg cs => match cs.toList with
    | [.int .i64 a, .int .i64 b, .int .i64 c, .int .i64 d, .int .i64 e, .int .i64 f] => some (headD ⟨⟨a, b, c, d⟩, e, f⟩, [])
    | _ => none
  | _ => none
theorem headR_mk (x : THd) : headR (aggH x) = some (headD x, []) := rfl
theorem headR_inv {v : Value} {z : DataW Unit × List MemPlace} (h : headR v = some z) : ∃ x, v = aggH x ∧ z = (headD x, []) := by
  unfold headR at h
  split at h
  · rename_i cs
    split at h
    · rename_i a b c d e f he
      injection h with h
      exact ⟨⟨⟨a, b, c, d⟩, e, f⟩, by unfold aggH; rw [← Array.toArray_toList (xs := cs), he], h.symm⟩
    · cases h
  · cases h
theorem headD_inj {x y : THd} (h : headD x = headD y) : x = y := by
  unfold headD at h
  simp at h
  exact THd.ext_iff.2 ⟨TId.ext h.1 h.2.1 h.2.2.1 h.2.2.2.1, h.2.2.2.2.1, h.2.2.2.2.2⟩
def entT (x : THd) : Lit × DataW Unit := (keyL x.id, headD x)
/-- Block b is a map that holds just these heads. -/
def MapT (W : World) (b : Nat) (L : List THd) : Prop := ∃ es, W.ownsMap Try.prog 24 headR b L.length (.map es) ∧ es.Perm (L.map entT) ∧ (L.map THd.id).Nodup ∧ ∀ x ∈ L, okH x
/-- A loop over it. -/
def RangeT (W : World) (b r : Nat) (L : List THd) (left : Lit → Bool) (cnt : Nat) : Prop := ∃ es, W.ranges Try.prog 24 headR b r L.length (.map es) left cnt ∧ es.Perm (L.map entT) ∧ (L.map THd.id).Nodup ∧ ∀ x ∈ L, okH x
theorem tight {W : World} {b n : Nat} {es : List (Lit × DataW Unit)} (h : W.ownsMap Try.prog 24 headR b n (.map es)) : W.ownsMap Try.prog 24 headR b es.length (.map es) := by
  obtain ⟨cs, clock, hb, F, _, hD⟩ := h
  refine ⟨cs, clock, hb, F, ?_, hD⟩
  injection hD with hD
  rw [hD, length_sorted]
  simp
theorem MapT.perm {W : World} {b : Nat} {L M : List THd} (h : MapT W b L) (p : L.Perm M) : MapT W b M := by
  obtain ⟨es, ho, hp, hn, hk⟩ := h
  exact ⟨es, by rw [← p.length_eq]; exact ho, hp.trans (p.map _), (p.map _).nodup_iff.1 hn, fun x hx => hk x (p.mem_iff.2 hx)⟩
theorem perm_del {es : List (Lit × DataW Unit)} {L : List THd} (h : es.Perm (L.map entT)) (hL : ∀ x ∈ L, okH x) {i : TId} (hi : okI i) : (es.filter fun p => !p.1.sameKey (keyL i)).Perm ((restT L i).map entT) := by
  have q := h.filter fun p => !p.1.sameKey (keyL i)
  have e : (L.map entT).filter (fun p => !p.1.sameKey (keyL i)) = (restT L i).map entT := by
    unfold restT
    rw [List.filter_map]
    congr 1
    apply List.filter_congr
    intro x hx
    show (!(keyL x.id).sameKey (keyL i)) = _
    rw [keyL_same (hL x hx).1 hi]
  rw [e] at q
  exact q
theorem MapT.lt {W : World} {b : Nat} {L : List THd} (h : MapT W b L) : b < W.heap.size := by
  obtain ⟨es, h, _⟩ := h
  exact h.lt
theorem MapT.same {W W' : World} {b : Nat} {L : List THd} (h : MapT W b L) (k : W'.heap[b]? = W.heap[b]?) : MapT W' b L := by
  obtain ⟨es, ⟨cs, c, hb, r⟩, q⟩ := h
  exact ⟨es, ⟨cs, c, k.trans hb, r⟩, q⟩
theorem MapT.made (W : World) : MapT (W.alloc (.map #[] 0)) W.heap.size [] := ⟨[], World.ownsMap_made W _ _ _, List.Perm.nil, List.nodup_nil, by simp⟩
theorem apart_of {L : List THd} {es : List (Lit × DataW Unit)} (hp : es.Perm (L.map entT)) (hn : (L.map THd.id).Nodup) (hL : ∀ x ∈ L, okH x) : es.Pairwise (fun p q => p.1 ≠ q.1) := by
  refine (hp.pairwise_iff (fun {_ _} hne => Ne.symm hne)).2 ?_
  rw [List.pairwise_map]
  have h2 := List.pairwise_map.1 (show List.Pairwise (· ≠ ·) (L.map THd.id) from hn)
  exact List.Pairwise.imp_of_mem (fun {x y} hx hy hne e => hne (keyL_inj (hL x hx).1 (hL y hy).1 e)) h2
theorem has_L {L : List THd} {es : List (Lit × DataW Unit)} (hp : es.Perm (L.map entT)) (hL : ∀ x ∈ L, okH x) {i : TId} (hi : okI i) : has (.map es) (keyL i) = (findT L i).isSome := by
  rw [has_eq]
  have e1 : es.any (fun p => p.1.sameKey (keyL i)) = (L.map entT).any (fun p => p.1.sameKey (keyL i)) := by
    rw [Bool.eq_iff_iff, List.any_eq_true, List.any_eq_true]
    constructor <;> rintro ⟨p, hm, h⟩
    · exact ⟨p, hp.mem_iff.1 hm, h⟩
    · exact ⟨p, hp.mem_iff.2 hm, h⟩
  rw [e1, List.any_map]
  unfold findT
  rw [Bool.eq_iff_iff, List.any_eq_true, List.find?_isSome]
  constructor
  · rintro ⟨x, hx, h⟩
    exact ⟨x, hx, by rw [← keyL_same (hL x hx).1 hi]; exact h⟩
  · rintro ⟨x, hx, h⟩
    exact ⟨x, hx, by rw [← keyL_same (hL x hx).1 hi] at h; exact h⟩
theorem at_L {L : List THd} {es : List (Lit × DataW Unit)} (hp : es.Perm (L.map entT)) (hn : (L.map THd.id).Nodup) (hL : ∀ x ∈ L, okH x) {x : THd} (hx : x ∈ L) (z : DataW Unit) : (DataW.map es).atKey (keyL x.id) z = headD x :=
  WideAt.atKey_mem z trivial (apart_of hp hn hL) (hp.mem_iff.2 (List.mem_map.2 ⟨x, hx, rfl⟩))
def zeroH : THd := ⟨⟨0, 0, 0, 0⟩, 0, 0⟩
set_option maxRecDepth 100000 in
theorem MapT.look {W : World} {b : Nat} {L : List THd} (h : MapT W b L) {i : TId} (hi : okI i) :
    (Instr.lookup 64 (.map (some b)) (aggI i) true).run Try.prog W = .ok (.tuple #[aggH ((findT L i).getD zeroH), .bool (findT L i).isSome]) W := by
  obtain ⟨es, ho, hp, hn, hL⟩ := h
  obtain ⟨v, ps, hrun, hR⟩ := ho.look_ok KT mapK (z := aggH zeroH) (by go_simp; rfl) (headR_mk zeroH) (keyT hi)
  rw [hrun, has_L hp hL hi]
  obtain ⟨x, rfl, hc⟩ := headR_inv hR
  injection hc with hc _
  cases hf : findT L i with
  | none =>
    have h0 : has (.map es) (keyL i) = false := by rw [has_L hp hL hi, hf]; rfl
    rw [atKey_of_not_has h0] at hc
    rw [← headD_inj hc]
    rfl
  | some o =>
    obtain ⟨hm, rfl⟩ := findT_is hf
    rw [at_L hp hn hL hm] at hc
    rw [← headD_inj hc]
    rfl
theorem nd_filter {L : List THd} (p : THd → Bool) (h : (L.map THd.id).Nodup) : ((L.filter p).map THd.id).Nodup := List.Nodup.sublist (List.Sublist.map _ List.filter_sublist) h
theorem MapT.put {W : World} {b : Nat} {L : List THd} (h : MapT W b L) (hl : L.length < maxLen) {x : THd} (hx : okH x) :
    ∃ W', (Instr.mapUpdate 64 (.map (some b)) (aggI x.id) (aggH x)).run Try.prog W = .ok () W' ∧ MapT W' b (restT L x.id ++ [x]) ∧ W.mapTurned W' b := by
  obtain ⟨es, ho, hp, hn, hL⟩ := h
  obtain ⟨W', hrun, ho', ht⟩ := ho.store KT mapK hl (keyT hx.1) (headR_mk x)
  have q : (DataW.insert (keyL x.id, headD x) (es.filter fun p => !p.1.sameKey (keyL x.id))).Perm ((restT L x.id ++ [x]).map entT) := by
    refine (Go.WideShapes.insert_perm _ _).trans ?_
    rw [List.map_append]
    refine (List.Perm.cons _ (perm_del hp hL hx.1)).trans ?_
    exact (List.perm_append_comm (l₁ := [entT x]) (l₂ := (restT L x.id).map entT))
  refine ⟨W', hrun, ⟨_, ?_, q, ?_, fun o h => ?_⟩, ht⟩
  · have t2 := tight ho'
    rw [show (restT L x.id ++ [x]).length = (DataW.insert (keyL x.id, headD x) (es.filter fun p => !p.1.sameKey (keyL x.id))).length by rw [q.length_eq, List.length_map]]
    exact t2
  · rw [List.map_append, List.nodup_append]
    refine ⟨nd_filter _ hn, by simp, fun y hy z hz => ?_⟩
    obtain ⟨o, ho, rfl⟩ := List.mem_map.1 hy
    simp at hz
    subst hz
    exact (restT_mem.1 ho).2
  · rcases List.mem_append.1 h with h | h
    · exact hL o (restT_mem.1 h).1
    · simp at h
      subst h
      exact hx
theorem RangeT.map {W : World} {b r cnt : Nat} {L : List THd} {left : Lit → Bool} (h : RangeT W b r L left cnt) : MapT W b L := by
  obtain ⟨es, hr, hp, q⟩ := h
  have t := tight hr.owns
  rw [hp.length_eq, List.length_map] at t
  exact ⟨es, t, hp, q⟩
theorem RangeT.left_eq {W : World} {b r cnt : Nat} {L : List THd} {left : Lit → Bool} (h : RangeT W b r L left cnt) : W.rangeLeft b r = cnt := by
  obtain ⟨es, hr, _⟩ := h
  exact hr.left_eq
end Go.Proofs.Ytjfnpciecgemeaa.ti
