/-
  A MAP OF OFFERS by links, that the call itself made: as a list of offers; a look, a store, a removal; a range over it.
-/
import Derived.Test.YtfdoldefdkijoaaZMem
import Derived.Test.YtfdoldefdkijoaaZArg
import Derived.Maps.OwnSet
import Derived.Maps.RangeWalk
namespace Go.Proofs.Ytfdoldefdkijoaa
set_option linter.unusedSimpArgs false
set_option linter.unusedVariables false
open Go.ChangeMaps Go.MapKept Go.WideElems Go.Maps Go.RowKit
theorem intK : Try.prog.underlying 3 = some (.int .i64) := by kernel_rfl
theorem mapK : Try.prog.underlying 44 = some (.map 3 51) := by kernel_rfl
theorem wfI {k : Int} (h : InI k) : (Lit.int .i64 k).wf = true := by
  unfold InI at h
  simp [Lit.wf, IntKind.min, IntKind.max, IntKind.signed, IntKind.bits]
  omega
theorem keyI {k : Int} (h : InI k) : keyOf Try.prog 3 (.int .i64 k) = some (.int .i64 k) := keyOf_int_mk intK (wfI h)
theorem KI : Keyed Try.prog 3 := int_keyed intK
def offD (a b : Int) : DataW Unit := .agg [.lit (.int .i64 a), .lit (.int .i64 b)]
def offR (v : Value) : Option (DataW Unit × List MemPlace) := match v with
  | .agg cs => match cs.toList with
    | [.int .i64 a, .int .i64 b] => some (.agg [.lit (.int .i64 a), .lit (.int .i64 b)], [])
    | _ => none
  | _ => none
theorem offR_mk (a b : Int) : offR (.agg #[.int .i64 a, .int .i64 b]) = some (offD a b, []) := rfl
theorem offR_inv {v : Value} {z : DataW Unit × List MemPlace} (h : offR v = some z) : ∃ a b, v = .agg #[.int .i64 a, .int .i64 b] ∧ z = (offD a b, []) := by
  unfold offR at h
  split at h
  · rename_i cs
    split at h
    · rename_i a b e
      injection h with h
      exact ⟨a, b, by rw [← Array.toArray_toList (xs := cs), e], h.symm⟩
    · cases h
  · cases h
def entO (o : OffT) : Lit × DataW Unit := (.int .i64 o.link, offD o.level o.till)
theorem ent_key {o : OffT} {k : Int} : (entO o).1.sameKey (.int .i64 k) = decide (o.link = k) := by
  unfold entO Lit.sameKey
  by_cases h : o.link = k <;> simp [h]
/-- Block b is a map that holds just these offers. -/
def MapZ (W : World) (b : Nat) (L : List OffT) : Prop := ∃ es, W.ownsMap Try.prog 3 offR b L.length (.map es) ∧ es.Perm (L.map entO) ∧ (L.map OffT.link).Nodup ∧ ∀ o ∈ L, InI o.link
/-- A loop over it. -/
def RangeZ (W : World) (b r n : Nat) (L : List OffT) (left : Lit → Bool) (cnt : Nat) : Prop := ∃ es, W.ranges Try.prog 3 offR b r n (.map es) left cnt ∧ es.Perm (L.map entO) ∧ (L.map OffT.link).Nodup ∧ ∀ o ∈ L, InI o.link
theorem tight {W : World} {b n : Nat} {es : List (Lit × DataW Unit)} (h : W.ownsMap Try.prog 3 offR b n (.map es)) : W.ownsMap Try.prog 3 offR b es.length (.map es) := by
  obtain ⟨cs, clock, hb, F, _, hD⟩ := h
  refine ⟨cs, clock, hb, F, ?_, hD⟩
  injection hD with hD
  rw [hD, length_sorted]
  simp
theorem perm_del {es : List (Lit × DataW Unit)} {L : List OffT} (h : es.Perm (L.map entO)) (k : Int) : (es.filter fun p => !p.1.sameKey (.int .i64 k)).Perm ((restZ L k).map entO) := by
  have q := h.filter fun p => !p.1.sameKey (.int .i64 k)
  have e : (L.map entO).filter (fun p => !p.1.sameKey (.int .i64 k)) = (restZ L k).map entO := by
    unfold restZ
    rw [List.filter_map]
    congr 1
    apply List.filter_congr
    intro o _
    show (!(entO o).1.sameKey (.int .i64 k)) = _
    rw [ent_key]
    by_cases h : o.link = k <;> simp [h]
  rw [e] at q
  exact q
theorem MapZ.lt {W : World} {b : Nat} {L : List OffT} (h : MapZ W b L) : b < W.heap.size := by
  obtain ⟨es, h, _⟩ := h
  exact h.lt
theorem MapZ.same {W W' : World} {b : Nat} {L : List OffT} (h : MapZ W b L) (k : W'.heap[b]? = W.heap[b]?) : MapZ W' b L := by
  obtain ⟨es, ⟨cs, c, hb, r⟩, q⟩ := h
  exact ⟨es, ⟨cs, c, k.trans hb, r⟩, q⟩
theorem MapZ.made (W : World) : MapZ (W.alloc (.map #[] 0)) W.heap.size [] := ⟨[], World.ownsMap_made W _ _ _, List.Perm.nil, List.nodup_nil, by simp⟩
theorem MapZ.isMap {W : World} {b : Nat} {L : List OffT} (h : MapZ W b L) : ∃ es c, W.heap[b]? = some (.map es c) := by
  obtain ⟨_, ⟨cs, c, hb, r⟩, q⟩ := h
  exact ⟨cs, c, hb⟩
theorem find_is {L : List OffT} {k : Int} {o : OffT} (h : findL L k = some o) : o ∈ L ∧ o.link = k := by
  unfold findL at h
  have h1 := List.mem_of_find?_eq_some h
  have h2 := List.find?_some h
  exact ⟨h1, of_decide_eq_true h2⟩
theorem apart_of {L : List OffT} {es : List (Lit × DataW Unit)} (hp : es.Perm (L.map entO)) (hn : (L.map OffT.link).Nodup) : es.Pairwise (fun p q => p.1 ≠ q.1) := by
  refine (hp.pairwise_iff (fun {_ _} hne => Ne.symm hne)).2 ?_
  rw [List.pairwise_map]
  have h2 := List.pairwise_map.1 (show List.Pairwise (· ≠ ·) (L.map OffT.link) from hn)
  refine h2.imp fun {x y} hne e => hne ?_
  unfold entO at e
  injection e
theorem has_L {L : List OffT} {es : List (Lit × DataW Unit)} (hp : es.Perm (L.map entO)) (k : Int) : has (.map es) (.int .i64 k) = (findL L k).isSome := by
  rw [has_eq]
  have e1 : es.any (fun p => p.1.sameKey (.int .i64 k)) = (L.map entO).any (fun p => p.1.sameKey (.int .i64 k)) := by
    rw [Bool.eq_iff_iff, List.any_eq_true, List.any_eq_true]
    constructor <;> rintro ⟨p, hm, h⟩
    · exact ⟨p, hp.mem_iff.1 hm, h⟩
    · exact ⟨p, hp.mem_iff.2 hm, h⟩
  rw [e1, List.any_map]
  unfold findL
  rw [Bool.eq_iff_iff, List.any_eq_true, List.find?_isSome]
  constructor
  · rintro ⟨o, ho, h⟩
    exact ⟨o, ho, by rw [← ent_key]; exact h⟩
  · rintro ⟨o, ho, h⟩
    exact ⟨o, ho, by rw [← ent_key] at h; exact h⟩
theorem at_L {L : List OffT} {es : List (Lit × DataW Unit)} (hp : es.Perm (L.map entO)) (hn : (L.map OffT.link).Nodup) {o : OffT} (ho : o ∈ L) (z : DataW Unit) : (DataW.map es).atKey (.int .i64 o.link) z = offD o.level o.till :=
  WideAt.atKey_mem z trivial (apart_of hp hn) (hp.mem_iff.2 (List.mem_map.2 ⟨o, ho, rfl⟩))
theorem MapZ.look {W : World} {b : Nat} {L : List OffT} (h : MapZ W b L) {k : Int} (hk : InI k) (W' : World) (hW : W'.heap[b]? = W.heap[b]?) :
    (Instr.lookup 44 (.map (some b)) (.int .i64 k) true).run Try.prog W' = .ok (.tuple #[.agg #[.int .i64 ((findL L k).elim 0 OffT.level), .int .i64 ((findL L k).elim 0 OffT.till)], .bool (findL L k).isSome]) W' := by
  obtain ⟨es, ho, hp, hn, hi⟩ := h.same hW
  obtain ⟨v, ps, hrun, hR⟩ := ho.look_ok KI mapK (z := .agg #[.int .i64 0, .int .i64 0]) (by go_simp) (offR_mk 0 0) (keyI hk)
  rw [hrun, has_L hp]
  obtain ⟨a, b, rfl, hc⟩ := offR_inv hR
  injection hc with hc _
  cases hf : findL L k with
  | none =>
    have h0 : has (.map es) (.int .i64 k) = false := by rw [has_L hp, hf]; rfl
    rw [atKey_of_not_has h0] at hc
    unfold offD at hc
    injection hc with hc
    injection hc with h1 hc
    injection hc with h2 _
    injection h1 with h1
    injection h1 with _ h1
    injection h2 with h2
    injection h2 with _ h2
    rw [← h1, ← h2]
    rfl
  | some o =>
    obtain ⟨hm, rfl⟩ := find_is hf
    rw [at_L hp hn hm] at hc
    unfold offD at hc
    injection hc with hc
    injection hc with h1 hc
    injection hc with h2 _
    injection h1 with h1
    injection h1 with _ h1
    injection h2 with h2
    injection h2 with _ h2
    rw [← h1, ← h2]
    rfl
theorem MapZ.len {W : World} {b : Nat} {L : List OffT} (h : MapZ W b L) (ty : TypeId) (W' : World) (hW : W'.heap[b]? = W.heap[b]?) : (Builtin.len_ #[44] ty #[.map (some b)]).run Try.prog W' = .ok (.int .i64 L.length) W' := by
  obtain ⟨es, ho, hp, hn, hi⟩ := h.same hW
  rw [ho.len mapK ty, size_eq, hp.length_eq, List.length_map]
theorem MapZ.drop {W : World} {b : Nat} {L : List OffT} (h : MapZ W b L) {k : Int} (hk : InI k) (ty : TypeId) :
    ∃ W', (Builtin.delete_ #[44, 3] ty #[.map (some b), .int .i64 k]).run Try.prog W = .ok (.tuple #[]) W' ∧ MapZ W' b (restZ L k) ∧ W.mapTurned W' b := by
  obtain ⟨es, ho, hp, hn, hi⟩ := h
  obtain ⟨W', hrun, ho', ht⟩ := ho.drop KI mapK (keyI hk) ty
  have q := perm_del hp k
  refine ⟨W', hrun, ⟨_, ?_, q, nd_filter _ hn, fun o h => hi o (rest_mem.1 h).1⟩, ht⟩
  have t := tight ho'
  rw [show (restZ L k).length = (es.filter fun p => !p.1.sameKey (.int .i64 k)).length by rw [q.length_eq, List.length_map]]
  exact t
theorem MapZ.put {W : World} {b : Nat} {L : List OffT} (h : MapZ W b L) (hl : L.length < maxLen) {k : Int} (hk : InI k) (a t : Int) :
    ∃ W', (Instr.mapUpdate 44 (.map (some b)) (.int .i64 k) (.agg #[.int .i64 a, .int .i64 t])).run Try.prog W = .ok () W' ∧ MapZ W' b (restZ L k ++ [⟨k, a, t⟩]) ∧ W.mapTurned W' b := by
  obtain ⟨es, ho, hp, hn, hi⟩ := h
  obtain ⟨W', hrun, ho', ht⟩ := ho.store KI mapK hl (keyI hk) (offR_mk a t)
  have q : (DataW.insert (.int .i64 k, offD a t) (es.filter fun p => !p.1.sameKey (.int .i64 k))).Perm ((restZ L k ++ [(⟨k, a, t⟩ : OffT)]).map entO) := by
    refine (Go.WideShapes.insert_perm _ _).trans ?_
    rw [List.map_append]
    refine (List.Perm.cons _ (perm_del hp k)).trans ?_
    exact (List.perm_append_comm (l₁ := [entO (⟨k, a, t⟩ : OffT)]) (l₂ := (restZ L k).map entO))
  refine ⟨W', hrun, ⟨_, ?_, q, ?_, fun o h => ?_⟩, ht⟩
  · have t2 := tight ho'
    rw [show (restZ L k ++ [(⟨k, a, t⟩ : OffT)]).length = (DataW.insert (.int .i64 k, offD a t) (es.filter fun p => !p.1.sameKey (.int .i64 k))).length by rw [q.length_eq, List.length_map]]
    exact t2
  · rw [List.map_append, List.nodup_append]
    refine ⟨nd_filter _ hn, by simp, fun x hx y hy => ?_⟩
    obtain ⟨o, ho, rfl⟩ := List.mem_map.1 hx
    simp at hy
    subst hy
    exact (rest_mem.1 ho).2
  · rcases List.mem_append.1 h with h | h
    · exact hi o (rest_mem.1 h).1
    · simp at h
      subst h
      exact hk
theorem RangeZ.map {W : World} {b r n cnt : Nat} {L : List OffT} {left : Lit → Bool} (h : RangeZ W b r n L left cnt) : MapZ W b L := by
  obtain ⟨es, hr, hp, q⟩ := h
  have t := tight hr.owns
  rw [hp.length_eq, List.length_map] at t
  exact ⟨es, t, hp, q⟩
theorem RangeZ.left_eq {W : World} {b r n cnt : Nat} {L : List OffT} {left : Lit → Bool} (h : RangeZ W b r n L left cnt) : W.rangeLeft b r = cnt := by
  obtain ⟨es, hr, _⟩ := h
  exact hr.left_eq
theorem RangeZ.kept {W W' : World} {b r n cnt : Nat} {L : List OffT} {left : Lit → Bool} {row : Option Nat} (h : RangeZ W b r n L left cnt) (hg : W.grownBy W' row) (hb : some b ≠ row) (hr : some r ≠ row) : RangeZ W' b r n L left cnt := by
  obtain ⟨es, q, p⟩ := h
  exact ⟨es, q.kept hg hb hr, p⟩
theorem nd_eq {L : List OffT} (h : (L.map OffT.link).Nodup) {x y : OffT} (hx : x ∈ L) (hy : y ∈ L) (e : x.link = y.link) : x = y := by
  induction L with
  | nil => cases hx
  | cons a L ih =>
    rw [List.map_cons, List.nodup_cons] at h
    rcases List.mem_cons.1 hx with hx | hx
    · rcases List.mem_cons.1 hy with hy | hy
      · rw [hx, hy]
      · exact absurd (List.mem_map.2 ⟨y, hy, by rw [← hx]; exact e.symm⟩) h.1
    · rcases List.mem_cons.1 hy with hy | hy
      · exact absurd (List.mem_map.2 ⟨x, hx, by rw [← hy]; exact e⟩) h.1
      · exact ih h.2 hx hy
section
variable {P : Program} (w : World) {ops : Array Oper} {rest : List Oper} {o : Oper} {a : Act} {Q : Exit → Act → World → Prop}
theorem wpList_range_Z (hg : o.guard = none) (m : Operand) (hop : o.op = Op.range 44 m) (b : Nat) (L : List OffT) (hm : a.eval m = .map (some b)) (h : MapZ w b L)
    (hK : ∀ w' left cnt, RangeZ w' b w.heap.size L.length L left cnt → (∀ x ∈ L, left (.int .i64 x.link) = true) → w.grownBy w' none → w'.heap.size = w.heap.size + 1 → wpList Try.prog ops Q rest (a.put o.dst (.pointer (some ⟨w.heap.size, 0, none⟩))) w') :
    wpList Try.prog ops Q (o :: rest) a w := by
  obtain ⟨es, ho, hp, hn, hi⟩ := h
  refine wpList_range_own w hg m 44 hop 3 51 KI mapK offR b L.length (.map es) hm ho fun w' hr hgr hs => ?_
  refine hK w' _ _ ⟨es, hr, hp, hn, hi⟩ (fun x hx => ?_) hgr hs
  rw [has_L hp]
  cases hf : findL L x.link with
  | some _ => rfl
  | none =>
    unfold findL at hf
    have := List.find?_eq_none.1 hf x hx
    simp at this
theorem wpList_next_Z (hg : o.guard = none) (it : Operand) (hop : o.op = Op.next it false) (b r n : Nat) (L : List OffT) (left : Lit → Bool) (cnt : Nat) (hit : a.eval it = .pointer (some ⟨r, 0, none⟩)) (h : RangeZ w b r n L left cnt)
    (hDone : (∀ kl, left kl = false) → wpList Try.prog ops Q rest (a.put o.dst (.tuple #[.bool false])) w)
    (hMore : ∀ (x : OffT) (w' : World) (cnt' : Nat), x ∈ L → left (.int .i64 x.link) = true → RangeZ w' b r n L (fun z => left z && !z.sameKey (.int .i64 x.link)) cnt' → cnt' < cnt → w.grownBy w' (some r) → w'.heap.size = w.heap.size →
      (Instr.entry (.pointer (some ⟨r, 0, none⟩))).run Try.prog w' = .ok (.tuple #[.int .i64 x.link, .agg #[.int .i64 x.level, .int .i64 x.till]]) w' →
      wpList Try.prog ops Q rest (a.put o.dst (.tuple #[.bool true, .int .i64 x.link, .agg #[.int .i64 x.level, .int .i64 x.till]])) w') :
    wpList Try.prog ops Q (o :: rest) a w := by
  obtain ⟨es, hr, hp, hn, hi⟩ := h
  refine wpList_next_ranges w hg it hop 3 KI offR (Value.int .i64) (fun p : Int × Int => .agg #[.int .i64 p.1, .int .i64 p.2]) (fun key kl hkey => by obtain ⟨x, rfl, _⟩ := Maps.keyOf_int_inv intK hkey; exact ⟨x, rfl⟩) (fun v y hv => by obtain ⟨a, b, rfl, _⟩ := offR_inv hv; exact ⟨(a, b), rfl⟩)
    b r n (.map es) left cnt hit hr (fun _ hl => hDone hl) (fun x c kl y w' cnt' hkey hlk hv hat hrg hlt hgr hsz hen => ?_)
  obtain ⟨x', ex, rfl, hwx⟩ := Maps.keyOf_int_inv intK hkey
  cases ex
  have hin : has (.map es) (.int .i64 x) = true := by
    cases hh : has (.map es) (.int .i64 x) with
    | true => rfl
    | false =>
      have h1 := hat (.lit (.int .i64 0))
      rw [atKey_of_not_has hh] at h1
      obtain ⟨_, _, _, hy⟩ := offR_inv hv
      rw [hy] at h1
      unfold offD at h1
      cases h1
  rw [has_L hp] at hin
  obtain ⟨q, hq⟩ := Option.isSome_iff_exists.1 hin
  obtain ⟨hm, rfl⟩ := find_is hq
  obtain ⟨c1, c2⟩ := c
  have e : c1 = q.level ∧ c2 = q.till := by
    have h1 := hat .nil
    rw [at_L hp hn hm] at h1
    rw [offR_mk] at hv
    injection hv with hv
    rw [← hv] at h1
    unfold offD at h1
    injection h1 with hc
    injection hc with h1 hc
    injection hc with h2 _
    injection h1 with h1
    injection h1 with _ h1
    injection h2 with h2
    injection h2 with _ h2
    exact ⟨h1.symm, h2.symm⟩
  obtain ⟨rfl, rfl⟩ := e
  exact hMore q w' cnt' hm hlk ⟨es, hrg, hp, hn, hi⟩ hlt hgr hsz hen
theorem wpList_delete_Z (hg : o.guard = none) (m x : Operand) (hop : o.op = Op.call { callee := Callee.builtin Builtin.delete, args := #[m, x], argTypes := #[44, 3] })
    (b r n : Nat) (L : List OffT) (left : Lit → Bool) (cnt : Nat) (hm : a.eval m = .map (some b)) (h : RangeZ w b r n L left cnt) (k : Int) (hk : InI k) (hx : a.eval x = .int .i64 k)
    (hK : ∀ w' cnt', RangeZ w' b r n (restZ L k) (fun z => left z && !z.sameKey (.int .i64 k)) cnt' → cnt' ≤ cnt → w.mapTurned w' b → wpList Try.prog ops Q rest (a.put o.dst (.tuple #[])) w') :
    wpList Try.prog ops Q (o :: rest) a w := by
  obtain ⟨es, hr, hp, hn, hi⟩ := h
  refine wpList_delete_ranges w hg m x 44 3 hop 51 KI mapK offR b r n (.map es) left cnt hm hr _ _ hx (keyI hk) fun w' cnt' hr' hle ht => ?_
  exact hK w' cnt' ⟨_, hr', perm_del hp k, nd_filter _ hn, fun o h => hi o (rest_mem.1 h).1⟩ hle ht
end
end Go.Proofs.Ytfdoldefdkijoaa
