/-
  TideMeets: where one node answers the packets of another one, asks for what it says, and sends what it says, both know, of each id, the newest. No condition.
-/
import Derived.Test.YtjfnpciecgemeaaDLw
import Derived.Test.YtjfnpciecgemeaaTVals
import Derived.Deep.RegionHeld
import Derived.Test.YtjfnpciecgemeaaChecked
import Derived.Test.YtjfnpciecgemeaaRows

/-
  THE LAW TideMeets as data: what both know behind the answers, id by id.
-/
namespace Go.Proofs.Ytjfnpciecgemeaa.ti
set_option linter.unusedSimpArgs false
set_option linter.unusedVariables false
open Go.RowKit
/-- What one of two heads is left. -/
def putO (x : Option THd) (y : Option THd) : Option THd := match x, y with
  | some x, some y => if 0 < newT x y then some x else some y
  | some x, none => some x
  | none, y => y
theorem find_ins2 {A : List THd} (h : AscT A) (x : THd) (i : TId) : findT (insT A x) i = if x.id = i then putO (some x) (findT A i) else findT A i := by
  rw [find_ins h]
  by_cases e : x.id = i
  · rw [if_pos e, if_pos e]
    unfold putO
    cases findT A i <;> rfl
  · rw [if_neg e, if_neg e]
theorem findT_cons (x : THd) (r : List THd) (i : TId) : findT (x :: r) i = if x.id = i then some x else findT r i := by
  unfold findT
  rw [List.find?_cons]
  by_cases e : x.id = i <;> simp [e]
theorem find_fold : ∀ (m : List THd) {A : List THd}, AscT A → AscT m → ∀ i, findT (m.foldl insT A) i = putO (findT m i) (findT A i)
  | [], A, _, _, i => by
    show findT A i = putO none _
    rfl
  | x :: m, A, hA, hm, i => by
    obtain ⟨h1, h2⟩ := List.pairwise_cons.1 hm
    rw [List.foldl_cons, find_fold m (ins_asc hA x) h2 i, find_ins2 hA, findT_cons]
    by_cases e : x.id = i
    · rw [if_pos e, if_pos e]
      have : findT m i = none := findT_none.2 fun y hy q => by
        have := h1 y hy
        rw [q, e] at this
        exact lex_irr _ this
      rw [this]
      rfl
    · rw [if_neg e, if_neg e]
theorem merge_find {A m : List THd} (hA : AscT A) (hm : AscT m) (i : TId) : findT (mergeT A m) i = putO (findT m i) (findT A i) := by
  unfold mergeT
  rw [List.foldl_append, show A.foldl insT [] = A from by have := merge_nil hA; unfold mergeT at this; rwa [List.append_nil] at this]
  exact find_fold m hA hm i
/-- What is asked for of an id. -/
def askO (a b : Option THd) : Option THd := match a, b with
  | some t, none => some t
  | some t, some m => if newT m t < 0 then some t else none
  | none, _ => none
theorem ask_mem {mine told : List THd} {h x : THd} (hx : x ∈ askF mine told h) : findT told h.id = some x ∧ x.id = h.id ∧ askO (findT told h.id) (findT mine h.id) = some x := by
  unfold askF at hx
  cases em : findT mine h.id with
  | none =>
    cases et : findT told h.id with
    | none => rw [em, et] at hx; simp at hx
    | some t =>
      rw [em, et] at hx
      simp at hx
      subst hx
      exact ⟨rfl, (findT_is et).2, rfl⟩
  | some m =>
    cases et : findT told h.id with
    | none => rw [em, et] at hx; simp at hx
    | some t =>
      rw [em, et] at hx
      dsimp only at hx
      split at hx
      · rename_i hn
        simp at hx
        subst hx
        exact ⟨rfl, (findT_is et).2, by unfold askO; exact if_pos hn⟩
      · simp at hx
theorem ask_asc {mine told l : List THd} (h : AscT l) : AscT (l.flatMap (askF mine told)) := by
  induction l with
  | nil => exact List.Pairwise.nil
  | cons x l ih =>
    obtain ⟨h1, h2⟩ := List.pairwise_cons.1 h
    rw [List.flatMap_cons]
    refine List.pairwise_append.2 ⟨?_, ih h2, fun y hy z hz => ?_⟩
    · have := ask_len mine told x
      match hq : askF mine told x, this with
      | [], _ => exact List.Pairwise.nil
      | [y], _ => exact List.pairwise_singleton _ _
    · obtain ⟨u, hu, hzu⟩ := List.mem_flatMap.1 hz
      rw [(ask_mem hy).2.1, (ask_mem hzu).2.1]
      exact h1 u hu
theorem ask_find {mine told : List THd} (i : TId) : findT ((mergeT mine told).flatMap (askF mine told)) i = askO (findT told i) (findT mine i) := by
  have ha := ask_asc (mine := mine) (told := told) (merge_asc mine told)
  cases hf : findT ((mergeT mine told).flatMap (askF mine told)) i with
  | some x =>
    obtain ⟨hx, e⟩ := findT_is hf
    obtain ⟨h, hh, hxh⟩ := List.mem_flatMap.1 hx
    obtain ⟨q1, q2, q3⟩ := ask_mem hxh
    rw [← e, q2, q3]
  | none =>
    cases hq : askO (findT told i) (findT mine i) with
    | none => rfl
    | some t =>
      exfalso
      have ht : findT told i = some t := by
        unfold askO at hq
        split at hq
        · rename_i h1 h2; rw [h1]; exact hq
        · rename_i h1 h2
          split at hq
          · rw [h1]; exact hq
          · cases hq
        · cases hq
      obtain ⟨tm, te⟩ := findT_is ht
      obtain ⟨y, hy, ye, _⟩ := merge_has (l := mine) (m := told) (z := t) (List.mem_append_right _ tm)
      have hyi : y.id = i := ye.trans te
      have : t ∈ askF mine told y := by
        unfold askF
        rw [hyi, ht]
        rw [ht] at hq
        unfold askO at hq
        cases em : findT mine i with
        | none => simp
        | some m =>
          rw [em] at hq
          dsimp only at hq
          split at hq
          · rename_i hn; simp [hn]
          · cases hq
      exact findT_none.1 hf t (List.mem_flatMap.2 ⟨y, hy, this⟩) te
/-- Whether an id is sent. -/
def sendO (a b : Option THd) : Bool := match b, a with
  | some m, some t => decide (0 < newT m t)
  | some _, none => true
  | none, _ => false
theorem send_mem {mine told : List THd} {i : TId} : i ∈ (mergeT mine told).flatMap (sendF true mine told) ↔ sendO (findT told i) (findT mine i) = true := by
  constructor
  · intro hi
    obtain ⟨h, hh, hs⟩ := List.mem_flatMap.1 hi
    have e := send_id hs
    subst e
    unfold sendF at hs
    unfold sendO
    cases em : findT mine h.id with
    | none => rw [em] at hs; simp at hs
    | some m =>
      cases et : findT told h.id with
      | none => rfl
      | some t =>
        rw [em, et] at hs
        dsimp only at hs ⊢
        split at hs
        · rename_i hn; exact decide_eq_true hn
        · simp at hs
  · intro hs
    unfold sendO at hs
    cases em : findT mine i with
    | none => rw [em] at hs; cases hs
    | some m =>
      obtain ⟨mm, me⟩ := findT_is em
      obtain ⟨y, hy, ye, _⟩ := merge_has (l := mine) (m := told) (z := m) (List.mem_append_left _ mm)
      have hyi : y.id = i := ye.trans me
      refine List.mem_flatMap.2 ⟨y, hy, ?_⟩
      unfold sendF
      rw [hyi, em]
      rw [em] at hs
      cases et : findT told i with
      | none => simp [hyi]
      | some t =>
        rw [et] at hs
        dsimp only at hs ⊢
        rw [if_pos (of_decide_eq_true hs)]
        simp
/-- An id's head is laid among others. -/
def layI (B : List THd) (d : List THd) (i : TId) : List THd := (B.filter fun x => decide (x.id = i)).foldl insT d
theorem lay_asc {B d : List THd} (h : AscT d) (i : TId) : AscT (layI B d i) := fold_asc _ h
theorem lay_find {B d : List THd} (hB : AscT B) (h : AscT d) (i j : TId) : findT (layI B d i) j = if j = i then putO (findT B j) (findT d j) else findT d j := by
  unfold layI
  rw [find_fold _ h (filter_asc _ hB), findT_filter (fun k => decide (k = i))]
  by_cases e : j = i
  · subst e; simp
  · simp [e]; rfl
theorem lays_asc (B : List THd) : ∀ (s : List TId) {d : List THd}, AscT d → AscT (s.foldl (layI B) d)
  | [], _, h => h
  | i :: s, _, h => lays_asc B s (lay_asc h i)
theorem putO_twice (x y : Option THd) : putO x (putO x y) = putO x y := by
  unfold putO
  cases x with
  | none => rfl
  | some x =>
    cases y with
    | none => simp [new_self]
    | some y =>
      dsimp only
      by_cases h : 0 < newT x y
      · rw [if_pos h]; simp [new_self]
      · rw [if_neg h]; simp [h]
theorem lays_find {B : List THd} (hB : AscT B) (j : TId) : ∀ (s : List TId) {d : List THd}, AscT d → findT (s.foldl (layI B) d) j = if j ∈ s then putO (findT B j) (findT d j) else findT d j
  | [], d, h => by simp
  | i :: s, d, h => by
    rw [List.foldl_cons, lays_find hB j s (lay_asc h i), lay_find hB h]
    by_cases e : j = i
    · subst e
      rw [if_pos rfl, if_pos (List.mem_cons_self ..)]
      split
      · exact putO_twice _ _
      · rfl
    · rw [if_neg e]
      simp [e]
/-! Behind so many packets. -/
def cK (pr : Nat) (A B : List THd) : Nat → List THd
  | 0 => B
  | k + 1 => mergeT (cK pr A B k) (ansA B (dpT pr A k))
def dK (pr : Nat) (A B : List THd) : Nat → List THd
  | 0 => A
  | k + 1 => (ansS B (dpT pr A k)).foldl (layI B) (dK pr A B k)
def cF (a b : Option THd) : Option THd := putO (askO a b) b
def dF (a b : Option THd) : Option THd := if sendO a b = true then putO b a else a
theorem filt_find {per : Nat} {all L : List THd} (k : Nat) (j : TId) : findT (L.filter fun x => inB (frmT per all k) (toT per all k) x.id) j = if inB (frmT per all k) (toT per all k) j = true then findT L j else none := findT_filter (fun i => inB (frmT per all k) (toT per all k) i) j
theorem meets_inv {pr : Nat} (hp : 0 < pr) {A B : List THd} (HA : AllR A) (HB : AscT B) : ∀ k, k ≤ cntT pr A.length → AscT (cK pr A B k) ∧ AscT (dK pr A B k) ∧ (∀ j, rightT j → findT (cK pr A B k) j = (if spnT pr A j k = 0 then findT B j else cF (findT A j) (findT B j)) ∧ findT (dK pr A B k) j = (if spnT pr A j k = 0 then findT A j else dF (findT A j) (findT B j)))
  | 0, _ => ⟨HB, HA.1, fun j _ => ⟨rfl, rfl⟩⟩
  | k + 1, hk => by
    obtain ⟨h1, h2, h3⟩ := meets_inv hp HA HB k (by omega)
    have em : ansM B (dpT pr A k) = B.filter fun x => inB (frmT pr A k) (toT pr A k) x.id := by rw [ansM_eq, merge_nil HB]
    have et : ansT (dpT pr A k) = A.filter fun x => inB (frmT pr A k) (toT pr A k) x.id := by rw [ansT_eq hp HA (by omega), span_grp hp HA (by omega)]
    refine ⟨merge_asc _ _, lays_asc _ _ h2, fun j hj => ?_⟩
    obtain ⟨q1, q2⟩ := h3 j hj
    have hsp := spn_next pr A j k
    have hs0 := spn_at hp HA hj (k := k) (by omega)
    have fc : findT (cK pr A B (k + 1)) j = putO (askO (if inB (frmT pr A k) (toT pr A k) j = true then findT A j else none) (if inB (frmT pr A k) (toT pr A k) j = true then findT B j else none)) (findT (cK pr A B k) j) := by
      show findT (mergeT (cK pr A B k) (ansA B (dpT pr A k))) j = _
      rw [merge_find h1 (show AscT (ansA B (dpT pr A k)) from ask_asc (merge_asc _ _))]
      congr 1
      unfold ansA
      rw [ask_find, em, et, filt_find, filt_find]
    have fd : findT (dK pr A B (k + 1)) j = if sendO (if inB (frmT pr A k) (toT pr A k) j = true then findT A j else none) (if inB (frmT pr A k) (toT pr A k) j = true then findT B j else none) = true then putO (findT B j) (findT (dK pr A B k) j) else findT (dK pr A B k) j := by
      show findT ((ansS B (dpT pr A k)).foldl (layI B) (dK pr A B k)) j = _
      rw [lays_find HB j _ h2]
      have hm : j ∈ ansS B (dpT pr A k) ↔ sendO (if inB (frmT pr A k) (toT pr A k) j = true then findT A j else none) (if inB (frmT pr A k) (toT pr A k) j = true then findT B j else none) = true := by
        unfold ansS
        rw [send_mem, em, et, filt_find, filt_find]
      by_cases hq : j ∈ ansS B (dpT pr A k)
      · rw [if_pos hq, if_pos (hm.1 hq)]
      · rw [if_neg hq, if_neg (fun h => hq (hm.2 h))]
    by_cases hin : inB (frmT pr A k) (toT pr A k) j = true
    · rw [if_pos hin] at hsp
      have hz : spnT pr A j k = 0 := by rw [hs0, if_neg (inB_is.1 hin).1]
      rw [if_pos hin, if_pos hin, q1, if_pos hz] at fc
      rw [if_pos hin, if_pos hin, q2, if_pos hz] at fd
      rw [if_neg (by omega), if_neg (by omega)]
      exact ⟨fc, fd⟩
    · rw [if_neg hin] at hsp
      rw [if_neg hin, if_neg hin] at fc
      rw [if_neg hin, if_neg hin] at fd
      rw [hsp, Nat.add_zero, fc, fd]
      exact ⟨q1, q2⟩
theorem meets_non {pr : Nat} (hp : 0 < pr) {A B : List THd} (HA : AllR A) (HB : AscT B) {j : TId} (ha : findT A j = none) (hb : findT B j = none) : ∀ k, k ≤ cntT pr A.length → findT (cK pr A B k) j = none ∧ findT (dK pr A B k) j = none
  | 0, _ => ⟨hb, ha⟩
  | k + 1, hk => by
    obtain ⟨q1, q2⟩ := meets_non hp HA HB ha hb k (by omega)
    obtain ⟨h1, h2, _⟩ := meets_inv hp HA HB k (by omega)
    have em : ansM B (dpT pr A k) = B.filter fun x => inB (frmT pr A k) (toT pr A k) x.id := by rw [ansM_eq, merge_nil HB]
    have et : ansT (dpT pr A k) = A.filter fun x => inB (frmT pr A k) (toT pr A k) x.id := by rw [ansT_eq hp HA (by omega), span_grp hp HA (by omega)]
    constructor
    · show findT (mergeT (cK pr A B k) (ansA B (dpT pr A k))) j = none
      rw [merge_find h1 (show AscT (ansA B (dpT pr A k)) from ask_asc (merge_asc _ _)), q1]
      unfold ansA
      rw [ask_find, em, et, filt_find, filt_find, ha, hb]
      simp only [ite_self]
      rfl
    · show findT ((ansS B (dpT pr A k)).foldl (layI B) (dK pr A B k)) j = none
      rw [lays_find HB j _ h2, q2, hb]
      split <;> rfl
def agreeO (u v : Option THd) : Prop := match u, v with
  | some x, some y => x.id = y.id ∧ newT x y = 0
  | none, none => True
  | _, _ => False
theorem cd_agree {A B : List THd} (j : TId) : agreeO (cF (findT A j) (findT B j)) (dF (findT A j) (findT B j)) := by
  cases ha : findT A j with
  | none =>
    cases hb : findT B j with
    | none => trivial
    | some y => exact ⟨rfl, new_self y⟩
  | some x =>
    have ex := (findT_is ha).2
    cases hb : findT B j with
    | none => exact ⟨rfl, new_self x⟩
    | some y =>
      have ey := (findT_is hb).2
      have ht := new_turn x y
      unfold cF dF askO sendO putO
      dsimp only
      rcases Int.lt_trichotomy (newT y x) 0 with q | q | q
      · rw [if_pos q]
        have h1 : 0 < newT x y := by omega
        have h2 : ¬ 0 < newT y x := by omega
        simp only [h1, h2, if_true, decide_false, Bool.false_eq_true, if_false]
        exact ⟨rfl, new_self x⟩
      · have h1 : ¬ newT y x < 0 := by omega
        have h2 : ¬ 0 < newT y x := by omega
        simp only [h1, h2, if_false, decide_false, Bool.false_eq_true]
        exact ⟨ey.trans ex.symm, q⟩
      · have h1 : ¬ newT y x < 0 := by omega
        simp only [h1, q, if_false, decide_true, if_true]
        exact ⟨rfl, new_self y⟩
theorem meets_end {pr : Nat} (hp : 0 < pr) {A B : List THd} (HA : AllR A) (HB : AllR B) (j : TId) : agreeO (findT (cK pr A B (cntT pr A.length)) j) (findT (dK pr A B (cntT pr A.length)) j) := by
  by_cases hj : rightT j
  · obtain ⟨h1, h2⟩ := (meets_inv hp HA HB.1 _ (Nat.le_refl _)).2.2 j hj
    rw [spn_all hp HA hj] at h1 h2
    rw [h1, h2, if_neg (by omega), if_neg (by omega)]
    exact cd_agree j
  · have ha : findT A j = none := findT_none.2 fun x hx e => hj (by rw [← e]; exact HA.2 x hx)
    have hb : findT B j = none := findT_none.2 fun x hx e => hj (by rw [← e]; exact HB.2 x hx)
    obtain ⟨h1, h2⟩ := meets_non hp HA HB.1 ha hb _ (Nat.le_refl _)
    rw [h1, h2]
    trivial
end Go.Proofs.Ytjfnpciecgemeaa.ti

/-
  THE LAW TideMeets: bounds; the rows' ids; the helper newest.
-/
namespace Go.Proofs.Ytjfnpciecgemeaa.ti
set_option linter.unusedSimpArgs false
set_option linter.unusedVariables false
open Go.RowKit
theorem merge_ins {d : List THd} (h : AscT d) (x : THd) : mergeT d [x] = insT d x := by
  unfold mergeT
  rw [List.foldl_append, show d.foldl insT [] = d from by have := merge_nil h; unfold mergeT at this; rwa [List.append_nil] at this]
  rfl
theorem ans_lens (B : List THd) (p : Dp) : (ansA B p).length ≤ B.length + p.hs.length ∧ (ansS B p).length ≤ B.length + p.hs.length := by
  have h := flat_len (tide := true) (mine := ansM B p) (told := ansT p) (mergeT (ansM B p) (ansT p))
  have h1 := merge_len (ansM B p) (ansT p)
  have h2 : (ansM B p).length ≤ B.length := by
    have := merge_len (B.filter fun x => cntB 3 p.frm p.to x.id) []
    have := List.length_filter_le (fun x : THd => cntB 3 p.frm p.to x.id) B
    unfold ansM; simp at *; omega
  have h3 : (ansT p).length ≤ p.hs.length := by
    have := merge_len (p.hs.filter fun x => cntB 3 p.frm p.to x.id) []
    have := List.length_filter_le (fun x : THd => cntB 3 p.frm p.to x.id) p.hs
    unfold ansT; simp at *; omega
  unfold ansA ansS
  omega
theorem lay_len (B d : List THd) (i : TId) : (layI B d i).length ≤ d.length + B.length := by
  unfold layI
  have := fold_len (B.filter fun x => decide (x.id = i)) d
  have := List.length_filter_le (fun x : THd => decide (x.id = i)) B
  omega
theorem lays_len (B : List THd) : ∀ (s : List TId) (d : List THd), (s.foldl (layI B) d).length ≤ d.length + s.length * B.length
  | [], d => by simp
  | i :: s, d => by
    rw [List.foldl_cons]
    have := lays_len B s (layI B d i)
    have := lay_len B d i
    rw [List.length_cons, Nat.add_mul, Nat.one_mul]
    omega
theorem cd_len {pr : Nat} {A B : List THd} (hb : B.length ≤ 100) (ha : A.length ≤ 100) (hp : pr ≤ 64) : ∀ k, (cK pr A B k).length ≤ 100 + k * 200 ∧ (dK pr A B k).length ≤ 100 + k * 20000
  | 0 => by unfold cK dK; omega
  | k + 1 => by
    obtain ⟨h1, h2⟩ := cd_len hb ha hp k
    obtain ⟨l1, l2⟩ := ans_lens B (dpT pr A k)
    have hg := grp_len pr A k
    have e : (dpT pr A k).hs.length ≤ 64 := by show (grpT pr A k).length ≤ 64; omega
    have m1 := merge_len (cK pr A B k) (ansA B (dpT pr A k))
    have m2 := lays_len B (ansS B (dpT pr A k)) (dK pr A B k)
    have m3 : (ansS B (dpT pr A k)).length * B.length ≤ 164 * 100 := Nat.mul_le_mul (by omega) hb
    unfold cK dK
    omega
theorem cd_all {P : THd → Prop} {pr : Nat} {A B : List THd} (ha : ∀ x ∈ A, P x) (hb : ∀ x ∈ B, P x) : ∀ k, (∀ x ∈ cK pr A B k, P x) ∧ (∀ x ∈ dK pr A B k, P x)
  | 0 => ⟨hb, ha⟩
  | k + 1 => by
    obtain ⟨h1, h2⟩ := cd_all ha hb k
    constructor
    · show ∀ x ∈ mergeT (cK pr A B k) (ansA B (dpT pr A k)), P x
      refine fold_all (P := P) _ (by simp) (fun x hx => ?_)
      rcases List.mem_append.1 hx with q | q
      · exact h1 x q
      · unfold ansA at q
        obtain ⟨h, hh, hs⟩ := List.mem_flatMap.1 q
        have ht := (findT_is (ask_mem hs).1).1
        unfold ansT at ht
        refine fold_all (P := P) _ (by simp) (fun y hy => ?_) x ht
        rw [List.append_nil] at hy
        exact ha y (grp_mem (List.mem_filter.1 hy).1)
    · show ∀ x ∈ (ansS B (dpT pr A k)).foldl (layI B) (dK pr A B k), P x
      have key : ∀ (s : List TId) (d : List THd), (∀ x ∈ d, P x) → ∀ x ∈ s.foldl (layI B) d, P x := fun s => by
        induction s with
        | nil => intro d hd; exact hd
        | cons i s ih => intro d hd; exact ih _ (fold_all (P := P) _ hd (fun x hx => hb x (List.mem_filter.1 hx).1))
      exact key _ _ h2
theorem lays_all {P : THd → Prop} {B : List THd} (hb : ∀ x ∈ B, P x) : ∀ (s : List TId) (d : List THd), (∀ x ∈ d, P x) → ∀ x ∈ s.foldl (layI B) d, P x
  | [], d, hd => hd
  | i :: s, d, hd => lays_all hb s _ (fold_all (P := P) _ hd (fun x hx => hb x (List.mem_filter.1 hx).1))
/-- What both know agrees, place by place. -/
theorem rows_agree {c d : List THd} (hc : AscT c) (hd : AscT d) (h : ∀ j, agreeO (findT c j) (findT d j)) : c.length = d.length ∧ ∀ (i : Nat) (x y : THd), c[i]? = some x → d[i]? = some y → x.id = y.id ∧ newT x y = 0 := by
  let N := fun x : THd => (⟨x.id, 0, 0⟩ : THd)
  have an : ∀ {l : List THd}, AscT l → AscT (l.map N) := fun {l} hl => List.pairwise_map.2 hl
  have mem : ∀ {l m : List THd}, AscT l → (∀ j, agreeO (findT l j) (findT m j)) → ∀ x, x ∈ l.map N → x ∈ m.map N := fun {l m} hl hh x hx => by
    obtain ⟨y, hy, rfl⟩ := List.mem_map.1 hx
    have := hh y.id
    rw [findT_some hl hy] at this
    cases hf : findT m y.id with
    | none => rw [hf] at this; exact this.elim
    | some z =>
      obtain ⟨h1, h2⟩ := findT_is hf
      exact List.mem_map.2 ⟨z, h1, by show (⟨z.id, 0, 0⟩ : THd) = ⟨y.id, 0, 0⟩; rw [h2]⟩
  have hsym : ∀ j, agreeO (findT d j) (findT c j) := fun j => by
    have := h j
    unfold agreeO at this ⊢
    cases h1 : findT c j with
    | none => cases h2 : findT d j with
      | none => trivial
      | some y => rw [h1, h2] at this; exact this.elim
    | some x => cases h2 : findT d j with
      | none => rw [h1, h2] at this; exact this.elim
      | some y =>
        rw [h1, h2] at this
        exact ⟨this.1.symm, by rw [new_turn, this.2]; rfl⟩
  have nd : ∀ {l : List THd}, AscT l → l.Nodup := fun {l} hl => nd_of_ids (asc_nodup hl)
  have e : c.map N = d.map N := asc_unique (an hc) (an hd) (perm_of_same (nd (an hc)) (nd (an hd)) fun x => ⟨mem hc h x, mem hd hsym x⟩)
  have hl : c.length = d.length := by have := congrArg List.length e; simpa using this
  refine ⟨hl, fun i x y hx hy => ?_⟩
  have e1 : (c.map N)[i]? = some (N x) := by rw [List.getElem?_map, hx]; rfl
  rw [e, List.getElem?_map, hy] at e1
  have e2 : y.id = x.id := by have := Option.some.inj e1; exact (congrArg THd.id this : (N y).id = (N x).id)
  have := h x.id
  rw [findT_some hc (List.mem_of_getElem? hx), ← e2, findT_some hd (List.mem_of_getElem? hy)] at this
  exact ⟨e2.symm, this.2⟩
set_option maxHeartbeats 1600000 in
set_option maxRecDepth 100000 in
theorem newest_any (l m : List THd) (a b : Option Addr) (la lb ca cb : Nat) (w : World) (ha : RdT w a l) (hb : RdT w b m) (hla : la = l.length) (hlb : lb = m.length) (hl : l.length + m.length ≤ 10000000) (hca : la ≤ ca) (hcb : lb ≤ cb) (hok : ∀ x ∈ l ++ m, okH x) :
    Calls Try.prog 14 #[.slice a la ca, .slice b lb cb] w fun e w' => (∃ A n c, e = .returned (.slice A n c) ∧ n = (mergeT l m).length ∧ n ≤ c ∧ RdT w' A (mergeT l m)) ∧ Below w.heap.size w w' := by
  have hm := pmergeB_any l m a b ca cb w ha hb (by omega) (by have := merge_len l m; omega) (by omega) (by omega) hok
  rw [← hla, ← hlb] at hm
  have HM := Lib.hid hm
  clear hm ha hb hla hlb hok hl
  go_enter Try.func14, Try.ntmps14
  go_wp2_with (first
    | (go_at_call 12; refine HM.out.mono ?_; rintro e w1 ⟨v, rfl, ho, hb⟩; obtain ⟨A, n, c, rfl, h1, h2⟩ := own_formN ho; have H1 := Lib.hid h1; have H2 := Lib.hid h2; have R := Lib.hid ho.rd; have B1 := Lib.hid hb; clear ho hb h1 h2))
  go_ret
  exact ⟨⟨A, n, c, rfl, H1.out, H2.out, R.out⟩, B1.out⟩
end Go.Proofs.Ytjfnpciecgemeaa.ti

/-
  THE LAW TideMeets: its walk.
-/
namespace Go.Proofs.Ytjfnpciecgemeaa.ti
set_option linter.unusedSimpArgs false
set_option linter.unusedVariables false
open Go.RowKit
section
attribute [local go_sem high] eq_id
set_option maxHeartbeats 32000000 in
set_option maxRecDepth 100000 in
theorem tmeets_walk (l : List THd) (a : Option Addr) (ca : Nat) (hca : l.length ≤ ca) (hcm : ca ≤ maxLen) (hok : ∀ x ∈ l, okH x) (m : List THd) (b : Option Addr) (cb : Nat) (hcb : m.length ≤ cb) (hcbm : cb ≤ maxLen) (hokm : ∀ x ∈ m, okH x) (per : Int) (w : World) (ha : RdT w a l) (hb : RdT w b m) : Calls Try.prog 4 #[.slice a l.length ca, .slice b m.length cb, .int .i64 per] w fun e w' => e = .returned (.bool true) ∧ Below w.heap.size w w' := by
  have hl63 : l.length ≤ 9223372036854775807 := by unfold maxLen at hcm; omega
  have hm63 : m.length ≤ 9223372036854775807 := by unfold maxLen at hcbm; omega
  have HAW := Lib.hid awake_any
  have hD := fun W (hw : Below w.heap.size w W) => describe_any l a ca l.length per W (ha.below hw) hl63 rfl hca hok
  have hE := fun W (hw : Below w.heap.size w W) => describe_any m b cb m.length per W (hb.below hw) hm63 rfl hcb hokm
  have T1 : True := trivial
  have hgen : ∀ (l : List THd) (per : Int) (W : World) (e : Ending) (w' : World), DescE l per W e w' → (∃ A n c er, e = .returned (.tuple #[.slice A n c, .int .i64 er]) ∧ (mayD l per ↔ er = 0)) ∧ Below W.heap.size W w' := fun l per W e w' h => by
    refine ⟨?_, h.2.2⟩
    by_cases q : mayD l per
    · obtain ⟨A, n, c, he, _⟩ := h.1 q
      exact ⟨A, n, c, 0, he, by simp [q]⟩
    · exact ⟨none, 0, 0, 1, h.2.1 q, by simp [q]⟩
  by_cases hgo : (mayD l per ∧ mayD m per) ∧ l.length ≤ 100 ∧ m.length ≤ 100
  · obtain ⟨⟨hm, hm2⟩, h100, h101⟩ := hgo
    have hper1 := hm.1.1
    have hper2 := hm.1.2
    obtain ⟨pr, hpr⟩ : ∃ pr : Nat, per = pr := ⟨per.toNat, by omega⟩
    obtain ⟨HR, HRG⟩ := may_all hm
    obtain ⟨HRB, HRBG⟩ := may_all hm2
    have hpos : 0 < pr := by omega
    have hp64 : pr ≤ 64 := by omega
    have hD2 : ∀ W, Below w.heap.size w W → Calls Try.prog 8 #[.slice a l.length ca, .int .i64 per] W fun e w' => (∃ A n c, e = .returned (.tuple #[.slice A n c, .int .i64 0]) ∧ n = (descT per.toNat (mergeT l [])).length ∧ n ≤ c ∧ RdDs w' A (descT per.toNat (mergeT l []))) ∧ Below W.heap.size W w' := fun W hw => Calls.mono (hD W hw) fun e w' h => ⟨h.1 hm, h.2.2⟩
    have hE2 : ∀ W, Below w.heap.size w W → Calls Try.prog 8 #[.slice b m.length cb, .int .i64 per] W fun e w' => (∃ A n c, e = .returned (.tuple #[.slice A n c, .int .i64 0])) ∧ Below W.heap.size W w' := fun W hw => Calls.mono (hE W hw) fun e w' h => by
      obtain ⟨A, n, c, he, _⟩ := h.1 hm2
      exact ⟨⟨A, n, c, he⟩, h.2.2⟩
    have hdo := fun (k : Nat) (p : Dp) (hp : (descT per.toNat (mergeT l []))[k]? = some p) => desc_ok hm hp
    obtain ⟨A, hA⟩ : ∃ A, mergeT l [] = A := ⟨_, rfl⟩
    obtain ⟨B, hB⟩ : ∃ B, mergeT m [] = B := ⟨_, rfl⟩
    have hAl : A.length ≤ 100 := by have := merge_len l []; rw [hA] at this; simp at this; omega
    have hBl : B.length ≤ 100 := by have := merge_len m []; rw [hB] at this; simp at this; omega
    rw [hpr, Int.toNat_natCast, hA] at hdo
    rw [hpr, Int.toNat_natCast, hA] at hD2
    rw [← hpr] at hD2
    rw [hA] at HR HRG
    rw [hB] at HRB HRBG
    have okA : ∀ x ∈ A, okH x := fun x hx => rgtH_ok (HRG x hx)
    have okB : ∀ x ∈ B, okH x := fun x hx => rgtH_ok (HRBG x hx)
    have HMA : Hid (∀ W, Below w.heap.size w W → Calls Try.prog 12 #[.slice a l.length ca, .slice none 0 0] W fun e w' => (∃ X n c, e = .returned (.slice X n c) ∧ n = A.length ∧ n ≤ c ∧ RdT w' X A) ∧ Below W.heap.size W w') := fun W hw => by
      have := pmergeB_any l [] a none ca 0 W (ha.below hw) (fun j p h => by simp at h) (by simpa using hl63) (by rw [hA]; omega) hca (Nat.le_refl _) (by simpa using hok)
      rw [hA] at this
      refine this.mono ?_
      rintro e w' ⟨v, rfl, ho, hw⟩
      obtain ⟨X, n, c, rfl, h1, h2⟩ := own_formN ho
      exact ⟨⟨X, n, c, rfl, h1, h2, ho.rd⟩, hw⟩
    have HMB : Hid (∀ W, Below w.heap.size w W → Calls Try.prog 12 #[.slice b m.length cb, .slice none 0 0] W fun e w' => (∃ X n c, e = .returned (.slice X n c) ∧ n = B.length ∧ n ≤ c ∧ RdT w' X B) ∧ Below W.heap.size W w') := fun W hw => by
      have := pmergeB_any m [] b none cb 0 W (hb.below hw) (fun j p h => by simp at h) (by simpa using hm63) (by rw [hB]; omega) hcb (Nat.le_refl _) (by simpa using hokm)
      rw [hB] at this
      refine this.mono ?_
      rintro e w' ⟨v, rfl, ho, hw⟩
      obtain ⟨X, n, c, rfl, h1, h2⟩ := own_formN ho
      exact ⟨⟨X, n, c, rfl, h1, h2, ho.rd⟩, hw⟩
    obtain ⟨nl, hnl⟩ : ∃ nl, l.length = nl := ⟨_, rfl⟩
    obtain ⟨nm, hnm⟩ : ∃ nm, m.length = nm := ⟨_, rfl⟩
    rw [hnl] at hD2 h100 HMA ⊢
    rw [hnm] at hE2 h101 HMB ⊢
    have d1 : decide (100 < (nl : Int)) = false := decide_eq_false (by omega)
    have d2 : decide (100 < (nm : Int)) = false := decide_eq_false (by omega)
    have HD := Lib.hid hD2
    have HE := Lib.hid hE2
    have HDO := Lib.hid hdo
    have HHR := Lib.hid HR
    have HHB := Lib.hid HRB
    have OKA := Lib.hid okA
    have OKB := Lib.hid okB
    have LA := Lib.hid hAl
    have LB := Lib.hid hBl
    have TM : True := trivial
    clear hD hE hD2 hE2 hgen ha hb hnl hnm hok hokm hm hm2 hA hB hdo HR HRB HRG HRBG okA okB hpr hAl hBl
    go_enter Try.func4, Try.ntmps4
    go_wp2_with (first
      | (go_at_call 7; refine (HAW.out _).mono ?_; rintro e w1 ⟨rfl, hw⟩; have B1 := Lib.hid hw; clear hw)
      | (go_at_call 8; have _t := T1; clear T1 _t; refine (HD.out _ B1.out).mono ?_; rintro e w2 ⟨⟨X2, cn, c2, rfl, hcn, -, hrd⟩, hw⟩; have B2 := Lib.hid (B1.out.trans (hw.mono B1.out.size)); have HCN := Lib.hid hcn; have HRD2 := Lib.hid hrd; clear hw hcn hrd)
      | (go_at_call 8; refine (HE.out _ B2.out).mono ?_; rintro e w3 ⟨⟨X3, n3, c3, rfl⟩, hw⟩; have B3 := Lib.hid (B2.out.trans (hw.mono B2.out.size)); have HRD3 := Lib.hid (HRD2.out.below hw); clear hw)
      | (go_at_call 12; have _t := TM; clear TM _t; refine (HMA.out _ B3.out).mono ?_; rintro e w5 ⟨⟨X5, n5, c5, rfl, h5, h55, hr5⟩, hw⟩; have B5 := Lib.hid (B3.out.trans (hw.mono B3.out.size)); have HRD5 := Lib.hid (HRD3.out.below hw); have H5 := Lib.hid h5; have H55 := Lib.hid h55; have R5 := Lib.hid hr5; clear hw h5 h55 hr5)
      | (go_at_call 12; refine (HMB.out _ B5.out).mono ?_; rintro e w6 ⟨⟨X6, n6, c6, rfl, h6, h66, hr6⟩, hw⟩; have B6 := Lib.hid (B5.out.trans (hw.mono B5.out.size)); have HRD := Lib.hid (HRD5.out.below hw); have H6 := Lib.hid h6; have H66 := Lib.hid h66; have R6 := Lib.hid hr6; have R5b := Lib.hid (R5.out.below hw); clear hw h6 h66 hr6))
    have hcnt : Hid (cn = cntT pr A.length) := HCN.out.trans (desc_len _ _)
    have hcn1 : cn ≤ 101 := by rw [hcnt.out]; have := cnt_le hpos A.length; have := LA.out; omega
    have hc0 : 0 < cn := by rw [hcnt.out]; exact cnt_pos hpos _
    have hn6 : n6 ≤ 100 := by rw [H6.out]; exact LB.out
    obtain ⟨g, o, pa0, pc0, rfl, _⟩ := HRD.out 0 _ (List.getElem?_eq_getElem (by rw [← HCN.out]; exact hc0))
    go_loopw [14, 15, 16] (fun u t v wr => ∃ k : Nat, k ≤ cn ∧ v = .int .i64 k ∧ (∃ X n c, u = .slice X n c ∧ n = (cK pr A B k).length ∧ n ≤ c ∧ Hid (RdT wr X (cK pr A B k))) ∧ (∃ Y n c, t = .slice Y n c ∧ n = (dK pr A B k).length ∧ n ≤ c ∧ Hid (RdT wr Y (dK pr A B k))) ∧ Hid (Below w6.heap.size w6 wr)) (fun _ _ v _ => cn - (intOf v).toNat)
    case atStart => exact ⟨0, Nat.zero_le _, rfl, ⟨X6, n6, c6, rfl, H6.out, H66.out, R6.out⟩, ⟨X5, n5, c5, rfl, H5.out, H55.out, R5b.out⟩, Below.refl _ _⟩
    case round =>
      obtain ⟨k, hk, rfl, ⟨X, nx, cx, rfl, hnx, hcx, RX⟩, ⟨Y, ny, cy, rfl, hny, hcy, RY⟩, HB⟩ := hrel
      obtain ⟨W0, rfl⟩ : ∃ W0, W0 = wr := ⟨_, rfl⟩
      have BW : Hid (Below w.heap.size w W0) := B6.out.trans (HB.out.mono B6.out.size)
      by_cases hlt : k < cn
      · obtain ⟨p, hp⟩ : ∃ p, (descT pr A)[k]? = some p := ⟨_, List.getElem?_eq_getElem (by rw [← HCN.out]; exact hlt)⟩
        obtain ⟨hok, hkc, hpe⟩ := HDO.out k p hp
        obtain ⟨g', o', pa, pc, e, hg, hcell, hhs, hc1, hc2⟩ := (HRD.out.below HB.out) k p hp
        cases e
        obtain ⟨pn, hpn⟩ : ∃ pn, p.hs.length = pn := ⟨_, rfl⟩
        have hlens := cd_len (pr := pr) LB.out LA.out hp64 k
        have hal := ans_lens B p
        have hpl := hok.len
        have okk := cd_all (P := okH) (pr := pr) OKA.out OKB.out k
        unfold encD at hcell
        rw [hpn] at hcell hc1 hpl hal
        dsimp only at hcell
        have hAn : Calls Try.prog 13 #[.slice X6 n6 c6, .agg #[.int .i64 3, .int .i64 0, .int .i64 0, .int .i64 0, .int .i64 0, .int .i64 0, .int .i64 0, .int .i64 0, .int .i64 0, .int .i64 0, .int .i64 0, .bool false, .bool false, .int .i64 0, .int .i64 0, .int .i64 0, .int .i64 0, .int .i64 0, .int .i64 0, .int .i64 0, .bool false, .slice none 0 0, .slice none 0 0, .int .i64 p.frm.d, .int .i64 p.frm.o, .int .i64 p.frm.k, .int .i64 p.frm.n, .int .i64 p.to.d, .int .i64 p.to.o, .int .i64 p.to.k, .int .i64 p.to.n, .slice pa pn pc]] W0 (AnsE B p W0) := answerD_any B X6 c6 n6 p pa pc pn W0 (R6.out.below HB.out) (by have := LB.out; omega) H6.out H66.out OKB.out hok hhs hpn.symm hc1 hc2
        have okaA : ∀ x ∈ ansA B p, okH x := fun x hx => by
          have : x ∈ (cK pr A B (k + 1)) ∨ okH x := by
            right
            unfold ansA at hx
            obtain ⟨h, hh, hs⟩ := List.mem_flatMap.1 hx
            have ht := (findT_is (ask_mem hs).1).1
            unfold ansT at ht
            refine fold_all (P := okH) _ (by simp) (fun y hy => ?_) x ht
            rw [List.append_nil] at hy
            have hy2 := (List.mem_filter.1 hy).1
            rw [hpe] at hy2
            exact OKA.out y (grp_mem hy2)
          rcases this with q | q
          · exact (cd_all (P := okH) (pr := pr) OKA.out OKB.out (k + 1)).1 x q
          · exact q
        have HAN := Lib.hid hAn
        have HCE := Lib.hid hcell
        have HPE := Lib.hid hpe
        have HLE := Lib.hid hlens
        have HAL := Lib.hid hal
        have HPN64 := Lib.hid hpl
        have OKK := Lib.hid okk
        have OAA := Lib.hid okaA
        have HNX := Lib.hid hnx
        have HNY := Lib.hid hny
        have k0 : (0 : Int) ≤ (k : Int) := Int.natCast_nonneg _
        have k1 : (k : Int) < (cn : Int) := by omega
        have T3 : True := trivial
        clear hcell hp hok hkc hpe hhs hpn hAn hlens hal okk hpl hnx hny okaA hg hc1
        go_wp2_with (first
          | (refine wpList_load_mid rfl 40 (.tmp 73) rfl g (o + k * 32) rfl [.int .i64 3, .int .i64 0, .int .i64 0, .int .i64 0, .int .i64 0, .int .i64 0, .int .i64 0, .int .i64 0, .int .i64 0, .int .i64 0, .int .i64 0, .bool false, .bool false, .int .i64 0, .int .i64 0, .int .i64 0, .int .i64 0, .int .i64 0, .int .i64 0, .int .i64 0, .bool false, .slice none 0 0, .slice none 0 0, .int .i64 p.frm.d, .int .i64 p.frm.o, .int .i64 p.frm.k, .int .i64 p.frm.n, .int .i64 p.to.d, .int .i64 p.to.o, .int .i64 p.to.k, .int .i64 p.to.n, .slice pa pn pc] _ HCE.out Try.underlying40 rfl (by kernel_rfl) ?_)
          | (go_at_call 13; refine HAN.out.mono ?_; rintro e w7 ⟨⟨A1, n1, c1, A2, n2, c2, A3, n3, c3, rfl, ⟨q1, q11, r1⟩, ⟨q2, q22, r2⟩, q3⟩, hw⟩; have Q1 := Lib.hid q1; have Q11 := Lib.hid q11; have R1 := Lib.hid r1; have Q2 := Lib.hid q2; have R2 := Lib.hid r2; have B7 := Lib.hid hw; clear q1 q11 r1 q2 q22 r2 q3 hw)
          | (go_at_call 14; refine (newest_any (cK pr A B k) (ansA B p) X A1 nx n1 cx c1 _ (RX.out.below B7.out) R1.out HNX.out Q1.out (by have := HLE.out.1; have := HAL.out.1; have := LB.out; have := HPN64.out; omega) hcx Q11.out (fun x hx => by rcases List.mem_append.1 hx with q | q; exact OKK.out.1 x q; exact OAA.out x q)).mono ?_; rintro e w8 ⟨⟨X8, n8, c8, rfl, h8, h88, r8⟩, hw⟩; have H8 := Lib.hid h8; have H88 := Lib.hid h88; have R8 := Lib.hid r8; have B8 := Lib.hid (B7.out.trans (hw.mono B7.out.size)); have R2b := Lib.hid (R2.out.below hw); have RY8 := Lib.hid ((RY.out.below B7.out).below hw); clear h8 h88 r8 hw))
        have hn2 : n2 ≤ 164 := by have := HAL.out.2; have := Q2.out; have := LB.out; have := HPN64.out; omega
        obtain ⟨SS, hSS⟩ : ∃ SS, ansS B p = SS := ⟨_, rfl⟩
        obtain ⟨D0, hD0⟩ : ∃ D0, dK pr A B k = D0 := ⟨_, rfl⟩
        have hnext : dK pr A B (k + 1) = SS.foldl (layI B) D0 := by rw [← hSS, ← hD0, HPE.out]; rfl
        have hnextc : cK pr A B (k + 1) = mergeT (cK pr A B k) (ansA B p) := by rw [HPE.out]; rfl
        have haD : AscT D0 := by rw [← hD0]; exact (meets_inv hpos HHR.out HHB.out.1 k (by rw [← hcnt.out]; exact hk)).2.1
        have okD : ∀ x ∈ D0, okH x := by rw [← hD0]; exact OKK.out.2
        have hlD : D0.length ≤ 2020100 := by rw [← hD0]; have := HLE.out.2; omega
        rw [hSS] at Q2 R2b
        rw [hD0] at HNY RY8
        have NXT := Lib.hid hnext
        have NXC := Lib.hid hnextc
        have HAD := Lib.hid haD
        have OKD := Lib.hid okD
        have HLD := Lib.hid hlD
        clear hnext hnextc haD okD hlD hSS hD0
        go_loopw [15, 20] (fun t v wz => ∃ s : Nat, s ≤ n2 ∧ v = .int .i64 s ∧ (∃ Y n c, t = .slice Y n c ∧ n = ((SS.take s).foldl (layI B) D0).length ∧ n ≤ c ∧ Hid (RdT wz Y ((SS.take s).foldl (layI B) D0))) ∧ Hid (Below w8.heap.size w8 wz)) (fun _ v _ => n2 - (intOf v).toNat)
        case atStart => exact ⟨0, Nat.zero_le _, rfl, ⟨Y, ny, cy, rfl, HNY.out, hcy, RY8.out⟩, Below.refl _ _⟩
        case round =>
          obtain ⟨s, hs, rfl, ⟨Y1, n1', c1', rfl, hn1', hc1', RY1⟩, HZ⟩ := hrel
          obtain ⟨W1, rfl⟩ : ∃ W1, W1 = wr := ⟨_, rfl⟩
          by_cases hsl : s < n2
          · obtain ⟨i, hi⟩ : ∃ i, SS[s]? = some i := ⟨_, List.getElem?_eq_getElem (by rw [← Q2.out]; exact hsl)⟩
            obtain ⟨Ds, hDs⟩ : ∃ Ds, (SS.take s).foldl (layI B) D0 = Ds := ⟨_, rfl⟩
            have hnx : (SS.take (s + 1)).foldl (layI B) D0 = layI B Ds i := by rw [List.take_add_one, hi, List.foldl_append, hDs]; rfl
            have haDs : AscT Ds := by rw [← hDs]; exact lays_asc _ _ HAD.out
            have okDs : ∀ x ∈ Ds, okH x := by rw [← hDs]; exact lays_all OKB.out _ _ OKD.out
            have hlDs : Ds.length ≤ 2040000 := by
              rw [← hDs]
              have h1 := lays_len B (SS.take s) D0
              have h2 := List.length_take_le s SS
              have h3 : (SS.take s).length * B.length ≤ 164 * 100 := Nat.mul_le_mul (by omega) LB.out
              have := HLD.out
              omega
            rw [hDs] at hn1' RY1
            have NX1 := Lib.hid hnx
            have HADs := Lib.hid haDs
            have OKDs := Lib.hid okDs
            have HLDs := Lib.hid hlDs
            have HN1 := Lib.hid hn1'
            have HI : Hid (∀ W, Below w8.heap.size w8 W → ∃ gs os, A2 = some ⟨gs, os, none⟩ ∧ W.cell? ⟨gs, os + s * 4, none⟩ = some (.int .i64 i.d) ∧ W.cell? ⟨gs, os + s * 4 + 1, none⟩ = some (.int .i64 i.o) ∧ W.cell? ⟨gs, os + s * 4 + 2, none⟩ = some (.int .i64 i.k) ∧ W.cell? ⟨gs, os + s * 4 + 3, none⟩ = some (.int .i64 i.n)) := fun W hw => by
              obtain ⟨gs, os, e, hlt, hc⟩ := (R2b.out.below hw) s i hi
              exact ⟨gs, os, e, hc 0 _ rfl, hc 1 _ rfl, hc 2 _ rfl, hc 3 _ rfl⟩
            have s0 : (0 : Int) ≤ (s : Int) := Int.natCast_nonneg _
            have s1 : (s : Int) < (n2 : Int) := by omega
            clear hnx haDs okDs hlDs hn1' hi hDs
            go_wp2
            go_loopw [15, 21] (fun t v wz => ∃ j : Nat, j ≤ n6 ∧ v = .int .i64 j ∧ (∃ Y n c, t = .slice Y n c ∧ n = (((B.take j).filter fun x => decide (x.id = i)).foldl insT Ds).length ∧ n ≤ c ∧ Hid (RdT wz Y (((B.take j).filter fun x => decide (x.id = i)).foldl insT Ds))) ∧ Hid (Below w8.heap.size w8 wz)) (fun _ v _ => n6 - (intOf v).toNat)
            case atStart => exact ⟨0, Nat.zero_le _, rfl, ⟨Y1, n1', c1', rfl, HN1.out, hc1', RY1.out⟩, HZ.out⟩
            case round =>
              obtain ⟨j, hj, rfl, ⟨Y2, n2', c2', rfl, hn2', hc2', RY2⟩, HV⟩ := hrel
              by_cases hjl : j < n6
              · obtain ⟨x, hx⟩ : ∃ x, B[j]? = some x := ⟨_, List.getElem?_eq_getElem (by rw [← H6.out]; exact hjl)⟩
                obtain ⟨Dj, hDj⟩ : ∃ Dj, ((B.take j).filter fun x => decide (x.id = i)).foldl insT Ds = Dj := ⟨_, rfl⟩
                have hnx2 : ((B.take (j + 1)).filter fun x => decide (x.id = i)).foldl insT Ds = if x.id = i then insT Dj x else Dj := by
                  rw [List.take_add_one, hx, List.filter_append, List.foldl_append, hDj]
                  by_cases q : x.id = i <;> simp [q]
                have haDj : AscT Dj := by rw [← hDj]; exact fold_asc _ HADs.out
                have okDj : ∀ y ∈ Dj, okH y := by rw [← hDj]; exact fold_all (P := okH) _ OKDs.out (fun y hy => OKB.out y (List.mem_of_mem_take (List.mem_filter.1 hy).1))
                have hlDj : Dj.length ≤ 2040100 := by
                  rw [← hDj]
                  have h1 := fold_len ((B.take j).filter fun x => decide (x.id = i)) Ds
                  have h2 := List.length_filter_le (fun x : THd => decide (x.id = i)) (B.take j)
                  have h3 := List.length_take_le j B
                  have := HLDs.out
                  omega
                rw [hDj] at hn2' RY2
                have BV : Hid (Below w6.heap.size w6 wr) := (HB.out.trans (B8.out.mono HB.out.size)).trans (HV.out.mono (by have := HB.out.size; have := B8.out.size; omega))
                obtain ⟨gb, ob, e6, hgb, hrb, hrbi⟩ := (R6.out.below BV.out).at hx
                subst e6
                obtain ⟨gs, os, e2, i0, i1, i2, i3⟩ := HI.out wr HV.out
                subst e2
                have x0 := mid_cell0 hrb rfl
                have x1 := mid_cell hrb 1 rfl
                have x2 := mid_cell hrb 2 rfl
                have x3 := mid_cell hrb 3 rfl
                have x4 := mid_cell hrb 4 rfl
                have x5 := mid_cell hrb 5 rfl
                have j0 : (0 : Int) ≤ (j : Int) := Int.natCast_nonneg _
                have j1 : (j : Int) < (n6 : Int) := by omega
                have OKX := Lib.hid (OKB.out x (List.mem_of_getElem? hx))
                have HN2 := Lib.hid hn2'
                have HADj := Lib.hid haDj
                have OKDj := Lib.hid okDj
                have HLDj := Lib.hid hlDj
                clear hx hDj haDj okDj hlDj hn2' hrb hrbi
                by_cases q : x.id = i
                · have hd : decide (x.id = i) = true := decide_eq_true q
                  rw [if_pos q] at hnx2
                  have NX2 := Lib.hid hnx2
                  clear q hnx2
                  go_wp2
                  go_quiet (fail)
                  obtain ⟨U, hU⟩ : ∃ U, wr.drewN nq = U := ⟨_, rfl⟩
                  have bU : Below wr.heap.size wr U := by rw [← hU]; exact ⟨rfl, rfl, rfl, Nat.le_refl _, fun _ _ => rfl⟩
                  rw [hU]
                  have z0 := (bU.cell (p := ⟨gb, _, none⟩) hgb).trans x0
                  have z1 := (bU.cell (p := ⟨gb, _, none⟩) hgb).trans x1
                  have z2 := (bU.cell (p := ⟨gb, _, none⟩) hgb).trans x2
                  have z3 := (bU.cell (p := ⟨gb, _, none⟩) hgb).trans x3
                  have z4 := (bU.cell (p := ⟨gb, _, none⟩) hgb).trans x4
                  have z5 := (bU.cell (p := ⟨gb, _, none⟩) hgb).trans x5
                  have RYU := Lib.hid (RY2.out.below bU)
                  have BU := Lib.hid bU
                  clear hU bU x0 x1 x2 x3 x4 x5
                  go_wp2_with (first
                    | (go_at_call 14; refine (newest_any Dj [x] Y2 _ n2' 1 c2' 1 _ (RYU.out.below ((Below.refl _ _).alloc (Nat.le_refl _) _)) (RdT.made (h := x) (Below.refl _ _)) HN2.out rfl (by have := HLDj.out; simp; omega) hc2' (Nat.le_refl _) (fun y hy => by rcases List.mem_append.1 hy with q | q; exact OKDj.out y q; (simp at q; subst q; exact OKX.out))).mono ?_; rintro e w9 ⟨⟨X9, n9, c9, rfl, h9, h99, r9⟩, hw⟩; rw [merge_ins HADj.out] at h9 r9; have H9 := Lib.hid h9; have H99 := Lib.hid h99; have R9 := Lib.hid r9; have B9 := Lib.hid hw; clear h9 h99 r9 hw))
                  go_roundw
                  case rel => exact ⟨j + 1, by omega, by go_num, ⟨X9, n9, c9, rfl, by rw [NX2.out]; exact H9.out, H99.out, by unfold Hid; rw [NX2.out]; exact R9.out⟩, HV.out.trans (((BU.out.alloc BU.out.size _).trans (B9.out.mono (by have := BU.out.size; simp; omega))).mono HV.out.size)⟩
                  case measure => simp [intOf]; omega
                · have hd : decide (x.id = i) = false := decide_eq_false q
                  rw [if_neg q] at hnx2
                  have NX2 := Lib.hid hnx2
                  clear q hnx2
                  go_wp2
                  go_quiet (fail)
                  go_wp2
                  go_roundw
                  case rel => exact ⟨j + 1, by omega, by go_num, ⟨Y2, n2', c2', rfl, by rw [NX2.out]; exact HN2.out, hc2', by unfold Hid; rw [NX2.out]; exact RY2.out.below ⟨rfl, rfl, rfl, Nat.le_refl _, fun _ _ => rfl⟩⟩, HV.out.trans ⟨rfl, rfl, rfl, Nat.le_refl _, fun _ _ => rfl⟩⟩
                  case measure => simp [intOf]; omega
              · obtain rfl : j = n6 := by omega
                have htk : (B.take j) = B := List.take_of_length_le (by rw [← H6.out]; exact Nat.le_refl _)
                rw [htk, show (B.filter fun x => decide (x.id = i)).foldl insT Ds = layI B Ds i from rfl] at hn2' RY2
                have HN2 := Lib.hid hn2'
                clear htk hn2' hjl
                go_wp2
                go_roundw
                case rel => exact ⟨s + 1, by omega, by go_num, ⟨Y2, n2', c2', rfl, by rw [NX1.out]; exact HN2.out, hc2', by unfold Hid; rw [NX1.out]; exact RY2.out⟩, HV.out⟩
                case measure => simp [intOf]; omega
          · obtain rfl : s = n2 := by omega
            have htk : SS.take s = SS := List.take_of_length_le (by rw [← Q2.out]; exact Nat.le_refl _)
            rw [htk, ← NXT.out] at hn1' RY1
            have HN1 := Lib.hid hn1'
            clear htk hn1' hsl
            go_wp2
            go_roundw
            case rel => exact ⟨k + 1, by omega, by go_num, ⟨X8, n8, c8, rfl, by rw [NXC.out]; exact H8.out, H88.out, by unfold Hid; rw [NXC.out]; exact R8.out.below HZ.out⟩, ⟨Y1, n1', c1', rfl, HN1.out, hc1', RY1.out⟩, HB.out.trans ((B8.out.trans (HZ.out.mono B8.out.size)).mono HB.out.size)⟩
            case measure => simp [intOf]; omega
      · obtain rfl : k = cn := by omega
        have hinv := meets_inv hpos HHR.out HHB.out.1 k (by rw [← hcnt.out]; exact Nat.le_refl _)
        have hag : ∀ j, agreeO (findT (cK pr A B k) j) (findT (dK pr A B k) j) := by rw [hcnt.out]; exact meets_end hpos HHR.out HHB.out
        obtain ⟨hle, hpt⟩ := rows_agree hinv.1 hinv.2.1 hag
        have okk := cd_all (P := okH) (pr := pr) OKA.out OKB.out k
        have hlens := cd_len (pr := pr) LB.out LA.out hp64 k
        obtain ⟨C, hC⟩ : ∃ C, cK pr A B k = C := ⟨_, rfl⟩
        obtain ⟨D, hD⟩ : ∃ D, dK pr A B k = D := ⟨_, rfl⟩
        rw [hC] at hnx RX hle hpt okk hlens
        rw [hD] at hny RY hle hpt okk
        have hyx : ny = nx := by omega
        subst hyx
        have hny6 : ny ≤ 30000 := by have := hlens.1; omega
        have HPT := Lib.hid hpt
        have HNX := Lib.hid hnx
        have HNY := Lib.hid hny
        have OKK := Lib.hid okk
        clear hinv hag hle hpt okk hlens hC hD hnx hny hlt
        go_wp2
        go_loopw [22] (fun v wz => ∃ q : Nat, q ≤ ny ∧ v = .int .i64 q ∧ Hid (Below W0.heap.size W0 wz)) (fun v _ => ny - (intOf v).toNat)
        case atStart => exact ⟨0, Nat.zero_le _, rfl, Below.refl _ _⟩
        case round =>
          obtain ⟨q, hq, rfl, HZ⟩ := hrel
          by_cases hql : q < ny
          · obtain ⟨x, hx⟩ : ∃ x, C[q]? = some x := ⟨_, List.getElem?_eq_getElem (by rw [← HNX.out]; exact hql)⟩
            obtain ⟨y, hy⟩ : ∃ y, D[q]? = some y := ⟨_, List.getElem?_eq_getElem (by rw [← HNY.out]; exact hql)⟩
            obtain ⟨eid, enw⟩ := HPT.out q x y hx hy
            obtain ⟨gx, ox, e1, hgx, hrx, -⟩ := (RX.out.below (HZ.out.drew)).at hx
            subst e1
            obtain ⟨gy, oy, e2, hgy, hry, -⟩ := (RY.out.below (HZ.out.drew)).at hy
            subst e2
            have x0 := mid_cell0 hrx rfl
            have x1 := mid_cell hrx 1 rfl
            have x2 := mid_cell hrx 2 rfl
            have x3 := mid_cell hrx 3 rfl
            have x4 := mid_cell hrx 4 rfl
            have x5 := mid_cell hrx 5 rfl
            have y0 := mid_cell0 hry rfl
            have y1 := mid_cell hry 1 rfl
            have y2 := mid_cell hry 2 rfl
            have y3 := mid_cell hry 3 rfl
            have y4 := mid_cell hry 4 rfl
            have y5 := mid_cell hry 5 rfl
            have q0 : (0 : Int) ≤ (q : Int) := Int.natCast_nonneg _
            have q1 : (q : Int) < (ny : Int) := by omega
            have hd : decide (x.id = y.id) = true := decide_eq_true eid
            have hnw := fun W => pnewer_any x y (OKK.out.1 x (List.mem_of_getElem? hx)).2.2 (OKK.out.2 y (List.mem_of_getElem? hy)).2.2 W
            rw [enw] at hnw
            have HNW := Lib.hid hnw
            clear hx hy eid enw hrx hry hnw
            go_wp2
            go_region_held (fun W => W.cell? ⟨gx, ox + q * 6, none⟩ = some (.int .i64 x.id.d) ∧ W.cell? ⟨gx, ox + q * 6 + 1, none⟩ = some (.int .i64 x.id.o) ∧ W.cell? ⟨gx, ox + q * 6 + 2, none⟩ = some (.int .i64 x.id.k) ∧ W.cell? ⟨gx, ox + q * 6 + 3, none⟩ = some (.int .i64 x.id.n) ∧ W.cell? ⟨gx, ox + q * 6 + 4, none⟩ = some (.int .i64 x.seq) ∧ W.cell? ⟨gx, ox + q * 6 + 5, none⟩ = some (.int .i64 x.life) ∧ W.cell? ⟨gy, oy + q * 6, none⟩ = some (.int .i64 y.id.d) ∧ W.cell? ⟨gy, oy + q * 6 + 1, none⟩ = some (.int .i64 y.id.o) ∧ W.cell? ⟨gy, oy + q * 6 + 2, none⟩ = some (.int .i64 y.id.k) ∧ W.cell? ⟨gy, oy + q * 6 + 3, none⟩ = some (.int .i64 y.id.n) ∧ W.cell? ⟨gy, oy + q * 6 + 4, none⟩ = some (.int .i64 y.seq) ∧ W.cell? ⟨gy, oy + q * 6 + 5, none⟩ = some (.int .i64 y.life)) (first | exact ⟨x0, x1, x2, x3, x4, x5, y0, y1, y2, y3, y4, y5⟩ | exact ⟨by assumption, by assumption, by assumption, by assumption, by assumption, by assumption, by assumption, by assumption, by assumption, by assumption, by assumption, by assumption⟩) (first | (go_at_call 15; (with_reducible refine (HNW.out _).mono ?_); rintro e w9 ⟨rfl, hf⟩; have hw := hf.bel; have cx0 := (hw.cell (p := ⟨gx, ox + q * 6, none⟩) hgx).trans x0; have cx1 := (hw.cell (p := ⟨gx, ox + q * 6 + 1, none⟩) hgx).trans x1; have cx2 := (hw.cell (p := ⟨gx, ox + q * 6 + 2, none⟩) hgx).trans x2; have cx3 := (hw.cell (p := ⟨gx, ox + q * 6 + 3, none⟩) hgx).trans x3; have cx4 := (hw.cell (p := ⟨gx, ox + q * 6 + 4, none⟩) hgx).trans x4; have cx5 := (hw.cell (p := ⟨gx, ox + q * 6 + 5, none⟩) hgx).trans x5; have cy0 := (hw.cell (p := ⟨gy, oy + q * 6, none⟩) hgy).trans y0; have cy1 := (hw.cell (p := ⟨gy, oy + q * 6 + 1, none⟩) hgy).trans y1; have cy2 := (hw.cell (p := ⟨gy, oy + q * 6 + 2, none⟩) hgy).trans y2; have cy3 := (hw.cell (p := ⟨gy, oy + q * 6 + 3, none⟩) hgy).trans y3; have cy4 := (hw.cell (p := ⟨gy, oy + q * 6 + 4, none⟩) hgy).trans y4; have cy5 := (hw.cell (p := ⟨gy, oy + q * 6 + 5, none⟩) hgy).trans y5; have B9 := Lib.hid (HZ.out.drew.trans (hw.mono HZ.out.size)); clear hf hw))
            go_wp2
            go_roundw
            case rel => exact ⟨q + 1, by omega, by go_num, B9.out⟩
            case measure => simp [intOf]; omega
          · obtain rfl : q = ny := by omega
            clear hql
            go_wp2
            go_ret
            exact ⟨rfl, BW.out.trans (HZ.out.mono BW.out.size)⟩
  · obtain ⟨nl, hnl⟩ : ∃ nl, l.length = nl := ⟨_, rfl⟩
    obtain ⟨nm, hnm⟩ : ∃ nm, m.length = nm := ⟨_, rfl⟩
    have hD2 : ∀ W, Below w.heap.size w W → Calls Try.prog 8 #[.slice a l.length ca, .int .i64 per] W fun e w' => (∃ A n c er, e = .returned (.tuple #[.slice A n c, .int .i64 er]) ∧ (mayD l per ↔ er = 0)) ∧ Below W.heap.size W w' := fun W hw => Calls.mono (hD W hw) (fun e w' h => hgen l per W e w' h)
    have hE2 : ∀ W, Below w.heap.size w W → Calls Try.prog 8 #[.slice b m.length cb, .int .i64 per] W fun e w' => (∃ A n c er, e = .returned (.tuple #[.slice A n c, .int .i64 er]) ∧ (mayD m per ↔ er = 0)) ∧ Below W.heap.size W w' := fun W hw => Calls.mono (hE W hw) (fun e w' h => hgen m per W e w' h)
    rw [hnl] at hD2 hgo ⊢
    rw [hnm] at hE2 hgo ⊢
    have HD := Lib.hid hD2
    have HE := Lib.hid hE2
    have HGO := Lib.hid hgo
    clear hD hE hD2 hE2 hgen ha hb hgo hnl hnm hok hokm
    go_enter Try.func4, Try.ntmps4
    go_wp2_with (first
      | (go_at_call 7; refine (HAW.out _).mono ?_; rintro e w1 ⟨rfl, hw⟩; have B1 := Lib.hid hw; clear hw)
      | (go_at_call 8; have _t := T1; clear T1 _t; refine (HD.out _ B1.out).mono ?_; rintro e w2 ⟨⟨A, n, c, er, rfl, h1⟩, hw⟩; have B2 := Lib.hid (B1.out.trans (hw.mono B1.out.size)); have H1 := Lib.hid h1; clear hw h1)
      | (go_at_call 8; refine (HE.out _ B2.out).mono ?_; rintro e w3 ⟨⟨A', n', c', er', rfl, h2⟩, hw⟩; have B3 := Lib.hid (B2.out.trans (hw.mono B2.out.size)); have H2 := Lib.hid h2; clear hw h2))
    all_goals first
      | (exfalso; exact HGO.out ⟨⟨H1.out.2 (by assumption), H2.out.2 (by assumption)⟩, by omega, by omega⟩)
      | (go_ret; exact ⟨by simp, B3.out⟩)
end
end Go.Proofs.Ytjfnpciecgemeaa.ti

namespace Go.Proofs.Ytjfnpciecgemeaa.tideMeets
open Go.ChangeShapes Go.WideShapes Go.ChangeAt Go.RowKit Go.Proofs.Ytjfnpciecgemeaa.ti
set_option linter.unusedVariables false
theorem okWide_array {P : Program} {w : World} {r : Reach} {base : Nat} {t e : TypeId} {n : Nat} {v : Value} (ht : P.underlying t = some (.array n e)) (h : Value.okWide P w r base t v) : ∃ cs, v = .agg cs ∧ cs.size = P.cellsOf t := by
  simp only [Value.okWide, ht] at h
  obtain ⟨cs, h1, h2, _⟩ := h
  exact ⟨cs, h1, h2⟩
theorem own : ownKnob Try.prog.godebug = none := by kernel_rfl
theorem laidOut : laidOutB Try.prog = true := by kernel_rfl
set_option maxRecDepth 100000 in
theorem lifted (os : Os) (started : os.Started) (H : Type) (enc : TypeId × Value → H) :
    ReturnsInHanded {} Try.checked os 4 .any (Rows.tideMeetsSpec.pre6 enc Try.prog Try.f4 Rows.tideMeetsRow.domain false) (Rows.tideMeetsSpec.post enc Try.prog Try.f4 false true false false) := by
  refine returnsInHanded_of_change_sized (C := Try.checked) own started (by kernel_rfl) Try.func4
    (ChangeSpec.witness6 (enc := enc) (C := Try.checked) false ⟨#[], #[.slice none 0 0, .slice none 0 0, .int .i64 0], []⟩ 8 (by kernel_rfl) (by kernel_rfl) (by kernel_rfl) (by kernel_rfl)) ?_
  intro W base args ds gs before hval0 hW hcnd hsz0 _
  have hval : ∀ (j : Nat) t v, Try.f4.params[j]? = some t → args[j]? = some v → Value.okWide Try.prog W .any base t v := hval0
  have hW' := hW
  obtain ⟨p, q, hA0, hV, rfl, hfz, hnd⟩ := hW
  have hA : DataW.TrodAll enc Try.prog W 0 (fun _ => true) true Try.f4.params.toList args.toList ds p := hA0
  rw [Try.params4] at hA hval
  obtain ⟨v0, vs0, d0, ds0, p0, q0, hargs, rfl, rfl, h0, r0⟩ := trodAll_cons hA
  obtain ⟨v1, vs1, d1, ds1, p1, q1, rfl, rfl, rfl, h1, r1⟩ := trodAll_cons r0
  obtain ⟨v2, vs2, d2, ds2, p2, q2, rfl, rfl, rfl, h2, r2⟩ := trodAll_cons r1
  obtain ⟨rfl, rfl, rfl⟩ := trodAll_nil r2
  obtain rfl : args = #[v0, v1, v2] := by cases args; simp_all
  obtain ⟨rfl, rfl⟩ := trodVars_none hV
  obtain ⟨a0, len0, cap0, rfl⟩ := okWide_slice Try.underlying22 (hval 0 22 v0 rfl rfl)
  have k0 := h0
  have lt0 : ∀ x ∈ p0, x.block < W.heap.size := by obtain ⟨m, hm⟩ := k0; exact DataW.trod_lt m _ _ _ hm
  obtain ⟨z0, zl0, zn0, w0⟩ := heads_of h0
  obtain rfl := zl0
  obtain ⟨a1, len1, cap1, rfl⟩ := okWide_slice Try.underlying22 (hval 1 22 v1 rfl rfl)
  have k1 := h1
  have lt1 : ∀ x ∈ p1, x.block < W.heap.size := by obtain ⟨m, hm⟩ := k1; exact DataW.trod_lt m _ _ _ hm
  obtain ⟨z1, zl1, zn1, w1⟩ := heads_of h1
  obtain rfl := zl1
  obtain ⟨a2, rfl, rfl, rfl, w2⟩ := open_int Try.underlying3 (hval 2 3 v2 rfl rfl) h2
  clear hA0 hval0
  refine (tmeets_walk z0 a0 cap0 zn0.1 zn0.2.1 zn0.2.2 z1 a1 cap1 zn1.1 zn1.2.1 zn1.2.2 a2 W w0 w1).mono fun e W' ⟨he, bel⟩ => ?_
  subst he
  exact ⟨_, rfl, _, _, _, [], _, [], hW', trodAll_mk1 (shut_bool Try.underlying4 _), (trodAll_cons_mk (Below.trod laidOut (by kernel_rfl) (of_decide_eq_true (by kernel_rfl)) k0 bel lt0) (trodAll_cons_mk (Below.trod laidOut (by kernel_rfl) (of_decide_eq_true (by kernel_rfl)) k1 bel lt1) (trodAll_cons_mk (shut_int Try.underlying3 w2) trodAll_mk0))), rfl, bel.frame _, fun h => by cases h⟩
theorem over : Rows.tideMeetsRow.holds Try.pinned (OpenSpec.ofChange Rows.tideMeetsSpec) :=
  OpenClaim.holds_of_wide 4 Try.f4 rfl rfl rfl rfl rfl rfl rfl ⟨rfl, rfl, rfl, rfl, rfl⟩ rfl rfl rfl rfl rfl (by kernel_rfl) Try.func4 (by kernel_rfl)
    (of_decide_eq_true (by kernel_rfl)) (by unfold Func.isWrapper; first | (rw [if_pos (by decide +kernel)]; kernel_rfl) | (rw [if_neg (by decide +kernel)]; exact ⟨rfl, rfl⟩))
    (fun os started H enc _ => lifted os started H enc)
theorem proved : Rows.TideMeetsSaid := over
#print axioms proved
end Go.Proofs.Ytjfnpciecgemeaa.tideMeets
