/-
  A MAP OF INTS TO INTS that the call itself made: as a function; an entry's stamp, and the store by it.
-/
import Derived.Test.YtaaaefoanjggcaaQMath
import Derived.Test.YtaaaefoanjggcaaProg
import Derived.Maps.OwnSet
import Derived.WideKeyEntry
namespace Go.Proofs.Ytaaaefoanjggcaa
set_option linter.unusedSimpArgs false
set_option linter.unusedVariables false
open Go.ChangeMaps Go.MapKept Go.WideElems Go.Maps
theorem intK : Try.prog.underlying 3 = some (.int .i64) := by kernel_rfl
theorem mapK : Try.prog.underlying 43 = some (.map 3 3) := by kernel_rfl
def InI (k : Int) : Prop := -9223372036854775808 ≤ k ∧ k ≤ 9223372036854775807
theorem wfI {k : Int} (h : InI k) : (Lit.int .i64 k).wf = true := by
  unfold InI at h
  simp [Lit.wf, IntKind.min, IntKind.max, IntKind.signed, IntKind.bits]
  omega
theorem keyI {k : Int} (h : InI k) : keyOf Try.prog 3 (.int .i64 k) = some (.int .i64 k) := keyOf_int_mk intK (wfI h)
theorem KI : Keyed Try.prog 3 := int_keyed intK
/-- Block b is a map that, as a function, is f. -/
def MapF (W : World) (b n : Nat) (f : Int → Option Int) : Prop := ∃ D : DataW Unit, W.ownsMap Try.prog 3 (plainElem Try.prog 3) b n D ∧
  ∀ k, InI k → (∀ v, f k = some v → InI v ∧ has D (.int .i64 k) = true ∧ ∀ z, D.atKey (.int .i64 k) z = .lit (.int .i64 v)) ∧ (f k = none → has D (.int .i64 k) = false)
theorem MapF.lt {W : World} {b n : Nat} {f : Int → Option Int} (h : MapF W b n f) : b < W.heap.size := by
  obtain ⟨D, h, _⟩ := h
  exact h.lt
theorem MapF.mono {W : World} {b n m : Nat} {f : Int → Option Int} (h : MapF W b n f) (hm : n ≤ m) : MapF W b m f := by
  obtain ⟨D, h, k⟩ := h
  exact ⟨D, h.mono hm, k⟩
theorem MapF.same {W W' : World} {b n : Nat} {f : Int → Option Int} (h : MapF W b n f) (k : W'.heap[b]? = W.heap[b]?) : MapF W' b n f := by
  obtain ⟨D, ⟨es, c, hb, r⟩, q⟩ := h
  exact ⟨D, ⟨es, c, k.trans hb, r⟩, q⟩
theorem MapF.made (W : World) : MapF (W.alloc (.map #[] 0)) W.heap.size 0 (fun _ => none) :=
  ⟨_, World.ownsMap_made W _ _ _, fun k _ => ⟨fun v h => by (cases h), fun _ => rfl⟩⟩
theorem MapF.isMap {W : World} {b n : Nat} {f : Int → Option Int} (h : MapF W b n f) : ∃ es c, W.heap[b]? = some (.map es c) := by
  obtain ⟨D, ⟨es, c, hb, r⟩, q⟩ := h
  exact ⟨es, c, hb⟩
theorem MapF.look {W : World} {b n : Nat} {f : Int → Option Int} (h : MapF W b n f) {k : Int} (hk : InI k) (W' : World) (hW : W'.heap[b]? = W.heap[b]?) :
    (Instr.lookup 43 (.map (some b)) (.int .i64 k) true).run Try.prog W' = .ok (.tuple #[.int .i64 ((f k).getD 0), .bool (f k).isSome]) W' := by
  obtain ⟨D, ho, hf⟩ := h.same hW
  obtain ⟨v, ps, hrun, hR⟩ := ho.look_ok KI mapK (z := .int .i64 0) (by go_simp) (plainElem_int intK (by decide)) (keyI hk)
  rw [hrun]
  obtain ⟨h1, h2⟩ := hf k hk
  obtain ⟨c, rfl, hc, hwc⟩ := plainElem_int_inv intK hR
  injection hc with hc _
  cases hfk : f k with
  | none =>
    have := h2 hfk
    rw [atKey_of_not_has this] at hc
    injection hc with hc
    injection hc with _ hc
    rw [this, ← hc]
    rfl
  | some x =>
    obtain ⟨_, h3, h4⟩ := h1 x hfk
    rw [h4] at hc
    injection hc with hc
    injection hc with _ hc
    rw [h3, ← hc]
    rfl
theorem put_fun {D : DataW Unit} {f : Int → Option Int} (hD : IsMap D) (hf : ∀ k, InI k → (∀ v, f k = some v → InI v ∧ has D (.int .i64 k) = true ∧ ∀ z, D.atKey (.int .i64 k) z = .lit (.int .i64 v)) ∧ (f k = none → has D (.int .i64 k) = false)) {k x : Int} (hx : InI x) :
    ∀ m, InI m → (∀ v, updF f k (some x) m = some v → InI v ∧ has (D.put (.int .i64 k) (.lit (.int .i64 x))) (.int .i64 m) = true ∧ ∀ z, (D.put (.int .i64 k) (.lit (.int .i64 x))).atKey (.int .i64 m) z = .lit (.int .i64 v)) ∧ (updF f k (some x) m = none → has (D.put (.int .i64 k) (.lit (.int .i64 x))) (.int .i64 m) = false) := by
  intro m hm
  by_cases e : m = k
  · subst e
    rw [updF_same]
    refine ⟨fun v hv => ?_, fun h => by cases h⟩
    injection hv with hv
    subst hv
    exact ⟨hx, has_put_same hD (k := .int .i64 m) (by trivial) _, fun z => atKey_put_same hD (k := .int .i64 m) (by trivial) _ z⟩
  · rw [updF_other _ _ e]
    have hne : (Lit.int .i64 m) ≠ (Lit.int .i64 k) := fun h => by injection h with _ h; exact e h
    obtain ⟨h1, h2⟩ := hf m hm
    refine ⟨fun v hv => ?_, fun h => by rw [has_put_other hne]; exact h2 h⟩
    obtain ⟨a, b, c⟩ := h1 v hv
    exact ⟨a, by rw [has_put_other hne]; exact b, fun z => by rw [atKey_put_other hne]; exact c z⟩
/-- 'm[k] = x'. -/
theorem MapF.put {W : World} {b n : Nat} {f : Int → Option Int} (h : MapF W b n f) (hn : n < maxLen) {k x : Int} (hk : InI k) (hx : InI x) :
    ∃ W', (Instr.mapUpdate 43 (.map (some b)) (.int .i64 k) (.int .i64 x)).run Try.prog W = .ok () W' ∧ MapF W' b (n + 1) (updF f k (some x)) ∧ W.mapTurned W' b := by
  obtain ⟨D, ho, hf⟩ := h
  obtain ⟨W', hrun, ho', ht⟩ := ho.store KI mapK hn (keyI hk) (plainElem_int intK (wfI hx))
  exact ⟨W', hrun, ⟨_, ho', put_fun ho.isMap hf hx⟩, ht⟩
/-- 'delete(m, k)'. -/
theorem MapF.drop {W : World} {b n : Nat} {f : Int → Option Int} (h : MapF W b n f) {k : Int} (hk : InI k) (ty : TypeId) :
    ∃ W', (Builtin.delete_ #[43, 3] ty #[.map (some b), .int .i64 k]).run Try.prog W = .ok (.tuple #[]) W' ∧ MapF W' b n (updF f k none) ∧ W.mapTurned W' b := by
  obtain ⟨D, ho, hf⟩ := h
  obtain ⟨W', hrun, ho', ht⟩ := ho.drop KI mapK (keyI hk) ty
  refine ⟨W', hrun, ⟨_, ho', fun m hm => ?_⟩, ht⟩
  by_cases e : m = k
  · subst e
    rw [updF_same]
    exact ⟨fun v h => by (cases h), fun _ => has_del_same⟩
  · rw [updF_other _ _ e]
    have hne : (Lit.int .i64 m) ≠ (Lit.int .i64 k) := fun h => by injection h with _ h; exact e h
    obtain ⟨h1, h2⟩ := hf m hm
    refine ⟨fun v hv => ?_, fun h => by rw [has_del_other hne]; exact h2 h⟩
    obtain ⟨a, b, c⟩ := h1 v hv
    exact ⟨a, by rw [has_del_other hne]; exact b, fun z => by rw [atKey_del_other hne]; exact c z⟩
/-- An entry's stamp. -/
def Stamp (W : World) (b : Nat) (k : Int) (s : Nat) : Prop := ∃ (es : Array MapEntry) (c j : Nat) (e : MapEntry), W.heap[b]? = some (.map es c) ∧ es.toList[j]? = some e ∧ e.key = .int .i64 k ∧ e.born = s
theorem Stamp.same {W W' : World} {b s : Nat} {k : Int} (h : Stamp W b k s) (q : W'.heap[b]? = W.heap[b]?) : Stamp W' b k s := by
  obtain ⟨es, c, j, e, hb, r⟩ := h
  exact ⟨es, c, j, e, q.trans hb, r⟩
theorem find_key {es : Array MapEntry} {clock : Nat} (F : Fit (H := Unit) Try.prog 3 (plainElem Try.prog 3) es clock) {k : Int} (hk : InI k) (W : World) (D : DataW Unit) (hD : D = .map ((es.toList.map (rg Try.prog 3 (plainElem Try.prog 3))).foldr DataW.insert [])) (hh : has D (.int .i64 k) = true) {b : Nat} (hb : W.heap[b]? = some (.map es clock)) :
    ∃ j e, (Instr.findKey 3 (.int .i64 k) es.toList).run Try.prog W = .ok (some (j, e.val)) W ∧ es.toList[j]? = some e ∧ e.key = .int .i64 k := by
  rcases KI.find W (keyI hk) es.toList F.keys with ⟨h1, h2⟩ | ⟨j, e, h1, h2, h3⟩
  · exfalso
    rcases Maps.fit_look (w := W) (z := .int .i64 0) true KI mapK (by go_simp) hb F (keyI hk) with ⟨_, _, hat⟩ | ⟨e0, y, he, hke, _⟩
    · have := Maps.has_false_of_atKey hat
      rw [← hD] at this
      rw [hh] at this
      cases this
    · exact h2 e0 he hke
  · exact ⟨j, e, h1, h2, h3⟩
theorem nodup_idx {α β : Type} {g : α → β} {l : List α} (h : (l.map g).Nodup) {i j : Nat} {a b : α} (hi : l[i]? = some a) (hj : l[j]? = some b) (e : g a = g b) : i = j := by
  obtain ⟨hil, hi⟩ := List.getElem?_eq_some_iff.1 hi
  obtain ⟨hjl, hj⟩ := List.getElem?_eq_some_iff.1 hj
  have hp := List.pairwise_iff_getElem.1 h
  rcases Nat.lt_trichotomy i j with h1 | h1 | h1
  · have := hp i j (by simpa using hil) (by simpa using hjl) h1
    rw [List.getElem_map, List.getElem_map, hi, hj] at this
    exact absurd e this
  · exact h1
  · have := hp j i (by simpa using hjl) (by simpa using hil) h1
    rw [List.getElem_map, List.getElem_map, hi, hj] at this
    exact absurd e.symm this
/-- The entry of a key that is there: the world stays as it is. -/
theorem MapF.entry {W : World} {b n : Nat} {f : Int → Option Int} (h : MapF W b n f) {k v : Int} (hk : InI k) (hv : f k = some v) :
    ∃ s, Stamp W b k s ∧ ∀ W' : World, W'.heap[b]? = W.heap[b]? → ∃ u, (Instr.mapEntry 43 (.map (some b)) (.int .i64 k)).run Try.prog W' = .ok (.tuple #[u, .int .i64 s]) W' := by
  obtain ⟨D, ⟨es, clock, hb, F, hs, hD⟩, hf⟩ := h
  obtain ⟨_, hh, _⟩ := (hf k hk).1 v hv
  obtain ⟨j, e, h1, h2, h3⟩ := find_key F hk W D hD hh hb
  refine ⟨e.born, ⟨es, clock, j, e, hb, h2, h3, rfl⟩, fun W' hW => ⟨e.val, ?_⟩⟩
  obtain ⟨j', e', h1', h2', h3'⟩ := find_key F hk W' D hD hh (hW.trans hb)
  have hjj : j' = j := nodup_idx F.stamped.2.2 h2' h2 (h3'.trans h3.symm)
  subst hjj
  rw [h2] at h2'
  injection h2' with h2'
  subst h2'
  have hsame : es.modify j' (fun x => { x with key := .int .i64 k }) = es := by
    apply Array.ext'
    rw [Array.toList_modify, modify_eq_set _ _ _ _ h2, show ({ e with key := .int .i64 k } : MapEntry) = e from by rw [← h3']]
    exact WideElems.set_self _ _ _ h2
  have hj : es[j']? = some e := by simpa using h2
  have hset : W'.heap.setIfInBounds b (.map es clock) = W'.heap := by
    apply Array.ext_getElem?
    intro i
    by_cases hi : i = b
    · subst hi
      exact (heap_setBlock_same (w := W') (hW.trans hb) _).trans (hW.trans hb).symm
    · exact heap_setBlock_other (w := W') (hW.trans hb) _ hi
  simp [Instr.mapEntry, run_underlying mapK, MapKept.run_getObj_map (hW.trans hb), KI.check W' false (keyI hk), h1', hj, h3', KI.stays W' (keyI hk), hsame, MapKept.run_setObj_map _ (hW.trans hb), Result.andThen, goInt, hset]
theorem map_inj {X : World} {b : Nat} (hb : b < X.heap.size) {es es' : Array MapEntry} {c c' : Nat} (h : setBlock X b (.map es c) = setBlock X b (.map es' c')) : es = es' ∧ c = c' := by
  have h1 : (setBlock X b (.map es c)).heap[b]? = (setBlock X b (.map es' c')).heap[b]? := by rw [h]
  unfold setBlock at h1
  simp [hb] at h1
  exact h1
/-- The store by a stamp. -/
theorem MapF.entryPut {W : World} {b n : Nat} {f : Int → Option Int} (h : MapF W b n f) (hn : n < maxLen) {k v x : Int} {s : Nat} (hs : Stamp W b k s) (hk : InI k) (hv : f k = some v) (hx : InI x) :
    ∃ W', (Instr.entryStore 43 (.map (some b)) (.int .i64 s) (.int .i64 x)).run Try.prog W = .ok () W' ∧ MapF W' b n (updF f k (some x)) ∧ W.mapTurned W' b ∧ ∀ m t, Stamp W b m t → Stamp W' b m t := by
  obtain ⟨D, ⟨es, clock, hb, F, hsz, hD⟩, hf⟩ := h
  obtain ⟨_, hh, _⟩ := (hf k hk).1 v hv
  obtain ⟨j, e, h1, h2, h3⟩ := find_key F hk W D hD hh hb
  obtain ⟨es0, c0, j0, e0, hb0, hj0, hk0, rfl⟩ := hs
  rw [hb] at hb0
  injection hb0 with hb0
  injection hb0 with e1 e2
  subst e1 e2
  obtain rfl : j0 = j := nodup_idx F.stamped.2.2 hj0 h2 (hk0.trans h3.symm)
  rw [h2] at hj0
  injection hj0 with hj0
  subst hj0
  obtain ⟨es', clock', hrun, F', hput, _⟩ := Maps.fit_store (R' := (plainElem Try.prog 3)) KI mapK hb F (Nat.lt_of_le_of_lt hsz hn) (fun _ _ _ _ hz => hz) (keyI hk) (plainElem_int intK (wfI hx))
  have hj : es[j0]? = some e := by simpa using h2
  have hrun2 : (Instr.mapUpdate 43 (.map (some b)) (.int .i64 k) (.int .i64 x)).run Try.prog W = .ok () (setBlock W b (.map (es.modify j0 (fun e' => { e' with key := .int .i64 k, val := .int .i64 x })) clock)) := by
    simp [Instr.mapUpdate, run_underlying mapK, MapKept.run_getObj_map hb, KI.check W false (keyI hk), h1, hj, h3, KI.stays W (keyI hk), MapKept.run_setObj_map _ hb, Result.andThen, setBlock]
  rw [hrun2] at hrun
  injection hrun with _ hrun
  obtain ⟨rfl, rfl⟩ := map_inj (Array.getElem?_eq_some_iff.1 hb).1 hrun
  have hmod : es.modify j0 (fun e => { e with val := .int .i64 x }) = es.modify j0 (fun e' => { e' with key := .int .i64 k, val := .int .i64 x }) := by
    apply Array.ext'
    rw [Array.toList_modify, Array.toList_modify, modify_eq_set _ _ _ _ h2, modify_eq_set _ _ _ _ h2, ← h3]
  have hidx : es.findIdx? (fun x => ((x.born : Nat) : Int) == ((e.born : Nat) : Int)) = some j0 := by
    rw [findIdx_arr]
    exact findIdx_born F.stamped.2.1 h2
  refine ⟨setBlock W b (.map (es.modify j0 (fun e' => { e' with key := .int .i64 k, val := .int .i64 x })) clock), ?_, ⟨D.put (.int .i64 k) (.lit (.int .i64 x)), ⟨_, clock, heap_setBlock_same hb _, F', ?_, ?_⟩, put_fun ⟨_, hD⟩ hf hx⟩, ⟨es, clock, _, clock, hb, rfl⟩, ?_⟩
  · simp [Instr.entryStore, MapKept.run_getObj_map hb, asInt, asIntOf, goInt, hidx, hmod, MapKept.run_setObj_map _ hb, Result.andThen, setBlock]
  · rw [Array.size_modify]; exact hsz
  · rw [hD, DataW.put_eq, hput]
  · rintro m t ⟨es2, c2, j2, e2, hb2, hj2, hk2, rfl⟩
    rw [hb] at hb2
    injection hb2 with hb2
    injection hb2 with q1 q2
    subst q1 q2
    by_cases hjj : j2 = j0
    · subst hjj
      rw [h2] at hj2
      injection hj2 with hj2
      subst hj2
      refine ⟨_, clock, j2, { e with key := .int .i64 k, val := .int .i64 x }, heap_setBlock_same hb _, ?_, ?_, rfl⟩
      · rw [Array.toList_modify, modify_eq_set _ _ _ _ h2, List.getElem?_set_self (List.getElem?_eq_some_iff.1 h2).1]
      · rw [← hk2, h3]
    · refine ⟨_, clock, j2, e2, heap_setBlock_same hb _, ?_, hk2, rfl⟩
      rw [Array.toList_modify, modify_eq_set _ _ _ _ h2, List.getElem?_set_ne (fun h => hjj h.symm)]
      exact hj2
end Go.Proofs.Ytaaaefoanjggcaa
