/-
  THE PROGRAM's Decode of packets.
-/
import Derived.Test.YthdlcpnmldhllaaDoorWGood
import Derived.Test.YthdlcpnmldhllaaDoorEnc
import Derived.Test.YthdlcpnmldhllaaDoorRefTake
import Derived.Test.YthdlcpnmldhllaaDoorFrame
import Derived.Test.YthdlcpnmldhllaaDoorTie
import Derived.LaidMore
import Derived.OpenShut
import Derived.Deep.QuietTactic
import Derived.Deep.AppendLies
import Derived.BigQuiet
import Derived.Test.YthdlcpnmldhllaaDoorWRdr

/-
  WHAT THE SCHEMA KNOWS OF A RECORD: plain mathematics. A stack of places is carried along, the innermost one first.
-/
namespace Go.Proofs.YthdlcpnmldhllaaDoor
set_option linter.unusedVariables false

/-- The places' table, a row for each place, thirteen numbers a row. -/
def flatT : List Int :=
  [0, 0, 0, 0, 0, 0, 0, 0, 0, 0, 0, 0, 0,
   0, 0, 0, 0, 0, 0, 0, 0, 0, 0, 0, 0, 0,
   0, 1, 3, 6, 4, 4, 5, 0, 0, 0, 0, 0, 0,
   0, 1, 1, 1, 1, 1, 1, 1, 1, 1, 1, 1, 1,
   0, 1, 1, 1, 1, 0, 0, 0, 0, 0, 0, 0, 0,
   0, 4, 1, 1, 0, 0, 0, 0, 0, 0, 0, 0, 0,
   0, 5, 1, 1, 7, 8, 0, 0, 0, 0, 0, 0, 0,
   0, 1, 1, 1, 0, 0, 0, 0, 0, 0, 0, 0, 0,
   0, 1, 1, 1, 0, 0, 0, 0, 0, 0, 0, 0, 0]
def tabZ (p id : Int) : Int := flatT[p.toNat * 13 + id.toNat]?.getD 0
/-- The place within a field of that Id in that place. -/
def inZ (p id : Int) : Int := if p = 1 then 1 else if 13 ≤ id then 0 else tabZ p id
theorem flat_range : ∀ n ∈ flatT, 0 ≤ n ∧ n ≤ 8 := by decide
theorem inZ_range (p id : Int) : 0 ≤ inZ p id ∧ inZ p id ≤ 8 := by
  unfold inZ tabZ
  split
  · omega
  split
  · omega
  · rcases h : flatT[p.toNat * 13 + id.toNat]? with _ | n
    · simp
    · simpa using flat_range n (List.mem_of_getElem? h)
theorem inZ_zero (id : Int) (h : 0 ≤ id) : inZ 0 id = 0 := by
  unfold inZ tabZ
  rw [if_neg (by decide)]
  split
  · rfl
  · have : id.toNat < 13 := by omega
    generalize id.toNat = k at this
    revert k
    decide
def knownS : List Int → List It → List It
  | _, [] => []
  | [], _ :: _ => []
  | p :: t, x :: l =>
    if x.kind = 3 then (if inZ p x.id = 0 then [] else [x]) ++ knownS (inZ p x.id :: p :: t) l
    else if x.kind = 4 then (if p = 0 then [] else [x]) ++ knownS t l
    else (if inZ p x.id = 0 then [] else [x]) ++ knownS (p :: t) l
def knownP (l : List It) : List It := if rightB l = true then knownS [2] l else []

theorem knownS_nil (st : List Int) : knownS st [] = [] := by cases st <;> rfl
theorem knownS_cons (p : Int) (t : List Int) (x : It) (l : List It) : knownS (p :: t) (x :: l) =
    if x.kind = 3 then (if inZ p x.id = 0 then [] else [x]) ++ knownS (inZ p x.id :: p :: t) l
    else if x.kind = 4 then (if p = 0 then [] else [x]) ++ knownS t l
    else (if inZ p x.id = 0 then [] else [x]) ++ knownS (p :: t) l := rfl
theorem right_step {d : Int} {x : It} {l : List It} (h : rightFrom d (x :: l) = true) : shapeB x = true ∧ 0 ≤ step x d ∧ step x d ≤ 8 ∧ rightFrom (step x d) l = true := by
  simp only [rightFrom, Bool.and_eq_true, decide_eq_true_eq] at h
  exact ⟨h.1.1, h.1.2.1, h.1.2.2, h.2⟩
/-- What is known of a piece that ends at the depth 0, and then of the rest. -/
theorem known_app : ∀ (a : List It) (d : Nat) (st : List Int) (rest : List It), d < st.length → rightFrom d a = true → knownS st (a ++ rest) = knownS st a ++ knownS (st.drop d) rest := by
  intro a
  induction a with
  | nil =>
    intro d st rest hd h
    have : d = 0 := by simpa [rightFrom] using h
    subst this
    rw [knownS_nil]
    rfl
  | cons x a ih =>
    intro d st rest hd h
    obtain ⟨_, h0, h8, h1⟩ := right_step h
    cases st with
    | nil => simp at hd
    | cons p t =>
      rw [List.cons_append, knownS_cons, knownS_cons]
      by_cases h3 : x.kind = 3
      · rw [if_pos h3, if_pos h3]
        have e : step x d = ((d + 1 : Nat) : Int) := by unfold step; rw [if_pos h3]; omega
        rw [e] at h1
        rw [ih (d + 1) (inZ p x.id :: p :: t) rest (by simpa using hd) h1, List.append_assoc]
        rfl
      rw [if_neg h3, if_neg h3]
      by_cases h4 : x.kind = 4
      · rw [if_pos h4, if_pos h4]
        have e0 : step x d = (d : Int) - 1 := by unfold step; rw [if_neg h3, if_pos h4]
        obtain ⟨k, rfl⟩ : ∃ k, d = k + 1 := ⟨d - 1, by omega⟩
        have e : step x (k + 1 : Nat) = ((k : Nat) : Int) := by rw [e0]; omega
        rw [e] at h1
        rw [ih k t rest (by simpa using hd) h1, List.append_assoc]
        rfl
      · rw [if_neg h4, if_neg h4]
        have e : step x d = (d : Int) := by unfold step; rw [if_neg h3, if_neg h4]
        rw [e] at h1
        rw [ih d (p :: t) rest hd h1, List.append_assoc]
theorem known_cat {a rest : List It} (p : Int) (t : List Int) (h : rightB a = true) : knownS (p :: t) (a ++ rest) = knownS (p :: t) a ++ knownS (p :: t) rest :=
  known_app a 0 (p :: t) rest (by simp) h

/-- All of these fields are known in that place. -/
def Kn (p : Int) (l : List It) : Prop := ∀ t rest, knownS (p :: t) (l ++ rest) = l ++ knownS (p :: t) rest
theorem kn_nil (p : Int) : Kn p [] := fun _ _ => rfl
theorem kn_app {p : Int} {l m : List It} (h : Kn p l) (k : Kn p m) : Kn p (l ++ m) := fun t rest => by rw [List.append_assoc, h, k, List.append_assoc]
theorem kn_int {p id : Int} (h : inZ p id ≠ 0) (n : Int) {l : List It} (k : Kn p l) : Kn p (intI id n :: l) := fun t rest => by
  rw [List.cons_append, knownS_cons, if_neg (by simp [intI]), if_neg (by simp [intI]), if_neg (by simpa [intI] using h), k]
  rfl
theorem kn_op {p id q : Int} (hq : inZ p id = q) (h : q ≠ 0) {l : List It} (k : Kn q l) : Kn p (opI id l) := fun t rest => by
  have e : opI id l ++ rest = (⟨3, id, 0, []⟩ : It) :: (l ++ ((⟨4, 0, 0, []⟩ : It) :: rest)) := by simp [opI]
  rw [e, knownS_cons]
  simp only [if_true]
  rw [hq, if_neg h, k, knownS_cons]
  rw [if_neg (by decide), if_pos rfl, if_neg h]
  simp [opI]
theorem kn_flat {E : Type} {p : Int} {f : E → List It} : ∀ (l : List E), (∀ x, Kn p (f x)) → Kn p (l.flatMap f) := by
  intro l h
  induction l with
  | nil => exact kn_nil p
  | cons x l ih => rw [List.flatMap_cons]; exact kn_app (h x) ih
theorem kn_id (x : IdT) : Kn 4 (idI x) := kn_int (by decide) _ (kn_int (by decide) _ (kn_int (by decide) _ (kn_int (by decide) _ (kn_nil _))))
theorem kn_head (x : HeadT) : Kn 5 (headI x) := kn_app (kn_op (q := 4) (by decide) (by decide) (kn_id _)) (kn_int (by decide) _ (kn_int (by decide) _ (kn_nil _)))
theorem kn_edge (x : EdgeT) : Kn 7 (edgeI x) := kn_int (by decide) _ (kn_int (by decide) _ (kn_int (by decide) _ (kn_nil _)))
theorem kn_reach (x : ReachT) : Kn 8 (reachI x) := kn_int (by decide) _ (kn_int (by decide) _ (kn_int (by decide) _ (kn_nil _)))
theorem kn_lie (x : LieT) : Kn 3 (lieI x) := by
  unfold lieI
  iterate 12 refine kn_int (by decide) _ ?_
  exact kn_nil _
theorem kn_tie (x : TieT) : Kn 6 (tieI x) :=
  kn_app (kn_op (q := 5) (by decide) (by decide) (kn_head _)) (kn_app (kn_int (by decide) _ (kn_int (by decide) _ (kn_nil _)))
    (kn_app (kn_flat _ fun e => kn_op (q := 7) (by decide) (by decide) (kn_edge e)) (kn_flat _ fun e => kn_op (q := 8) (by decide) (by decide) (kn_reach e))))
theorem kn_pack (p : PackT) : Kn 2 (packI p) := by
  unfold packI
  refine kn_int (by decide) _ ?_
  split
  · exact kn_op (q := 3) (by decide) (by decide) (kn_lie _)
  split
  · exact kn_op (q := 6) (by decide) (by decide) (kn_tie _)
  split
  · exact kn_app (kn_op (q := 4) (by decide) (by decide) (kn_id _)) (kn_app (kn_op (q := 4) (by decide) (by decide) (kn_id _)) (kn_flat _ fun e => kn_op (q := 5) (by decide) (by decide) (kn_head e)))
  split
  · exact kn_flat _ fun e => kn_op (q := 5) (by decide) (by decide) (kn_head e)
  · exact kn_nil _
/-- ALL OF A PACKET's FIELDS ARE KNOWN. -/
theorem known_pack {p : PackT} (h : packR p = true) : knownP (packI p) = packI p := by
  have := kn_pack p [] []
  rw [List.append_nil, knownS_nil, List.append_nil] at this
  unfold knownP
  rw [if_pos (right_pack h), this]
/-- Fields ahead, and behind, of which none is known. -/
theorem known_amid {p : PackT} (h : packR p = true) {a b : List It} (ha : rightB a = true) (hb : rightB b = true) (ka : knownP a = []) (kb : knownP b = []) : knownS [2] ((a ++ packI p) ++ b) = packI p := by
  unfold knownP at ka kb
  rw [if_pos ha] at ka
  rw [if_pos hb] at kb
  rw [List.append_assoc, known_cat _ _ ha, ka, List.nil_append, kn_pack, kb, List.append_nil]

/-- What is known is some of what is there, in order. -/
theorem known_sub : ∀ (l : List It) (st : List Int), (knownS st l).Sublist l := by
  intro l
  induction l with
  | nil => intro st; rw [knownS_nil]; exact List.Sublist.refl _
  | cons x l ih =>
    intro st
    cases st with
    | nil => exact List.nil_sublist _
    | cons p t =>
      have one : ∀ (c : Prop) [Decidable c] (m : List It), m.Sublist l → ((if c then [] else [x]) ++ m).Sublist (x :: l) := fun c _ m hm => by
        split
        · exact (hm.trans (List.sublist_cons_self _ _))
        · exact List.Sublist.cons_cons x hm
      rw [knownS_cons]
      split
      · exact one _ _ (ih _)
      split
      · exact one _ _ (ih _)
      · exact one _ _ (ih _)
theorem knownP_sub (l : List It) : (knownP l).Sublist l := by
  unfold knownP
  split
  · exact known_sub _ _
  · exact List.nil_sublist _

/-- The places but those that are nowhere. -/
def some0 (st : List Int) : List Int := st.filter fun p => decide (p ≠ 0)
/-- What is known is a record, and all of it is known. -/
theorem known_twice : ∀ (l : List It) (d z : Nat) (s : List Int), d < z + s.length → (∀ p ∈ s, p ≠ 0) → s ≠ [] → rightFrom d l = true →
    rightFrom ((d - z : Nat) : Int) (knownS (List.replicate z 0 ++ s) l) = true ∧ knownS s (knownS (List.replicate z 0 ++ s) l) = knownS (List.replicate z 0 ++ s) l := by
  intro l
  induction l with
  | nil =>
    intro d z s hd hs hn h
    have : d = 0 := by simpa [rightFrom] using h
    subst this
    rw [knownS_nil, knownS_nil]
    exact ⟨by simp [rightFrom], rfl⟩
  | cons x l ih =>
    intro d z s hd hs hn h
    obtain ⟨hsh, h0, h8, h1⟩ := right_step h
    have hid : 0 ≤ x.id := by rcases shape_kinds hsh with ⟨_, _, _, _⟩ | ⟨_, _, _, _⟩ | ⟨_, _, _, _⟩ | ⟨_, _, _⟩ <;> omega
    cases z with
    | zero =>
      cases s with
      | nil => exact absurd rfl hn
      | cons p t =>
        simp only [List.replicate_zero, List.nil_append]
        have hp : p ≠ 0 := hs p (by simp)
        rw [knownS_cons]
        by_cases h3 : x.kind = 3
        · have e : step x d = ((d + 1 : Nat) : Int) := by unfold step; rw [if_pos h3]; omega
          rw [e] at h1 h8
          rw [if_pos h3]
          by_cases hq : inZ p x.id = 0
          · have := ih (d + 1) 1 (p :: t) (by simp at hd ⊢; omega) hs (by simp) h1
            simp only [List.replicate_one, List.cons_append, List.nil_append] at this
            rw [hq, if_pos rfl, List.nil_append]
            exact ⟨by simpa using this.1, this.2⟩
          · have := ih (d + 1) 0 (inZ p x.id :: p :: t) (by simp at hd ⊢; omega) (fun q hm => (List.mem_cons.1 hm).elim (fun e => e ▸ hq) (fun hm => hs q hm)) (by simp) h1
            simp only [List.replicate_zero, List.nil_append] at this
            rw [if_neg hq]
            refine ⟨?_, ?_⟩
            · simp only [List.cons_append, List.nil_append, rightFrom, Bool.and_eq_true, decide_eq_true_eq]
              have e2 : step x ((d - 0 : Nat) : Int) = ((d + 1 : Nat) : Int) := by unfold step; rw [if_pos h3]; omega
              rw [e2]
              exact ⟨⟨hsh, by omega, h8⟩, by simpa using this.1⟩
            · rw [List.cons_append, List.nil_append, knownS_cons, if_pos h3, if_neg hq, this.2]
              rfl
        rw [if_neg h3]
        by_cases h4 : x.kind = 4
        · have e0 : step x d = (d : Int) - 1 := by unfold step; rw [if_neg h3, if_pos h4]
          obtain ⟨k, rfl⟩ : ∃ k, d = k + 1 := ⟨d - 1, by omega⟩
          have e : step x (k + 1 : Nat) = ((k : Nat) : Int) := by rw [e0]; omega
          rw [e] at h1 h8
          rw [if_pos h4, if_neg hp]
          have := ih k 0 t (by simp at hd ⊢; omega) (fun q h => hs q (List.mem_cons_of_mem _ h)) (by rintro rfl; simp at hd) h1
          simp only [List.replicate_zero, List.nil_append] at this
          refine ⟨?_, ?_⟩
          · simp only [List.cons_append, List.nil_append, rightFrom, Bool.and_eq_true, decide_eq_true_eq]
            have e2 : step x ((k + 1 - 0 : Nat) : Int) = ((k : Nat) : Int) := by unfold step; rw [if_neg h3, if_pos h4]; omega
            rw [e2]
            exact ⟨⟨hsh, by omega, h8⟩, by simpa using this.1⟩
          · rw [List.cons_append, List.nil_append, knownS_cons, if_neg h3, if_pos h4, if_neg hp, this.2]
            rfl
        · have e : step x d = (d : Int) := by unfold step; rw [if_neg h3, if_neg h4]
          rw [e] at h1 h8
          rw [if_neg h4]
          have := ih d 0 (p :: t) hd hs hn h1
          simp only [List.replicate_zero, List.nil_append] at this
          by_cases hq : inZ p x.id = 0
          · rw [if_pos hq, List.nil_append]
            exact this
          · rw [if_neg hq]
            refine ⟨?_, ?_⟩
            · simp only [List.cons_append, List.nil_append, rightFrom, Bool.and_eq_true, decide_eq_true_eq]
              have e2 : step x ((d - 0 : Nat) : Int) = ((d : Nat) : Int) := by unfold step; rw [if_neg h3, if_neg h4]; omega
              rw [e2]
              exact ⟨⟨hsh, by omega, h8⟩, by simpa using this.1⟩
            · rw [List.cons_append, List.nil_append, knownS_cons, if_neg h3, if_neg h4, if_neg hq, this.2]
              rfl
    | succ z =>
      rw [List.replicate_succ, List.cons_append, knownS_cons, inZ_zero _ hid]
      simp only [if_true, List.nil_append]
      by_cases h3 : x.kind = 3
      · have e : step x d = ((d + 1 : Nat) : Int) := by unfold step; rw [if_pos h3]; omega
        rw [e] at h1
        rw [if_pos h3]
        have := ih (d + 1) (z + 2) s (by omega) hs hn h1
        rw [show d + 1 - (z + 2) = d - (z + 1) by omega, List.replicate_succ, List.replicate_succ] at this
        exact this
      rw [if_neg h3]
      by_cases h4 : x.kind = 4
      · have e0 : step x d = (d : Int) - 1 := by unfold step; rw [if_neg h3, if_pos h4]
        obtain ⟨k, rfl⟩ : ∃ k, d = k + 1 := ⟨d - 1, by omega⟩
        have e : step x (k + 1 : Nat) = ((k : Nat) : Int) := by rw [e0]; omega
        rw [e] at h1
        rw [if_pos h4]
        have := ih k z s (by omega) hs hn h1
        rw [show k + 1 - (z + 1) = k - z by omega]
        exact this
      · have e : step x d = (d : Int) := by unfold step; rw [if_neg h3, if_neg h4]
        rw [e] at h1
        rw [if_neg h4]
        have := ih d (z + 1) s hd hs hn h1
        rw [List.replicate_succ] at this
        exact this
theorem known_right {l : List It} (h : rightB l = true) : rightB (knownP l) = true ∧ knownP (knownP l) = knownP l := by
  have := known_twice l 0 0 [2] (by decide) (by decide) (by decide) h
  simp only [List.replicate_zero, List.nil_append] at this
  have h1 : rightB (knownS [2] l) = true := this.1
  have e : knownP l = knownS [2] l := by unfold knownP; rw [if_pos h]
  rw [e]
  refine ⟨h1, ?_⟩
  unfold knownP
  rw [if_pos h1]
  exact this.2
end Go.Proofs.YthdlcpnmldhllaaDoor

/-
  THE DOCUMENT's item, in part: where there is no item (no number, or one too great); what a box of four cells is behind four stores.
-/
namespace Go.Proofs.YthdlcpnmldhllaaDoor
open Go.RowKit

theorem Box.frozen {W : World} {B : Nat} {cs : Array Value} (h : Box W B cs) (i : Nat) : W.frozen? ⟨B, i, none⟩ = false := by
  unfold Box at h
  simp [World.frozen?, h]
theorem Box.alloc {W : World} {B : Nat} {cs : Array Value} (h : Box W B cs) (o : Obj) : Box (W.alloc o) B cs := (Below.heap_alloc W o B h.lt).trans h
theorem Rd.drop {k : IntKind} {n₀ : Nat} {W : World} {b off : Nat} {zs : List Int} (h : Rd k n₀ W (some ⟨b, off, none⟩) zs) (j : Nat) : Rd k n₀ W (some ⟨b, off + j, none⟩) (zs.drop j) := fun hp => by
  rw [List.length_drop] at hp
  obtain ⟨b', off', e, hb, hc⟩ := h (by omega)
  injection e with e
  injection e with e1 e2
  subst e1 e2
  refine ⟨b, off + j, rfl, hb, fun i hi => ?_⟩
  rw [List.length_drop] at hi
  rw [List.getElem?_drop, Nat.add_assoc]
  exact hc (j + i) (by omega)
theorem Box.set_ {W : World} {B : Nat} {cs : Array Value} (h : Box W B cs) (i : Nat) (u : Value) : Box (W.setCell ⟨B, i, none⟩ u) B (cs.setIfInBounds i u) := by
  unfold Box at h ⊢
  simp [World.setCell, Array.getElem?_modify, h]
theorem Box.four {W : World} {B : Nat} {a b c d : Value} (h : Box W B #[a, b, c, d]) (v0 v1 v2 v3 : Value) :
    Box ((((W.setCell ⟨B, 0, none⟩ v0).setCell ⟨B, 1, none⟩ v1).setCell ⟨B, 2, none⟩ v2).setCell ⟨B, 3, none⟩ v3) B #[v0, v1, v2, v3] ∧
    Below B W ((((W.setCell ⟨B, 0, none⟩ v0).setCell ⟨B, 1, none⟩ v1).setCell ⟨B, 2, none⟩ v2).setCell ⟨B, 3, none⟩ v3) := by
  refine ⟨by simpa using (((h.set_ 0 v0).set_ 1 v1).set_ 2 v2).set_ 3 v3, ?_⟩
  exact ((((Below.refl B W).setCell (p := ⟨B, 0, none⟩) (Nat.le_refl _) _).setCell (p := ⟨B, 1, none⟩) (Nat.le_refl _) _).setCell (p := ⟨B, 2, none⟩) (Nat.le_refl _) _).setCell (p := ⟨B, 3, none⟩) (Nat.le_refl _) _

/-- The item that some bytes begin with, and the rest. -/
def itemS (zs : List Int) : Option (It × List Int) := match scan 0 0 zs with
  | [] => none
  | q :: _ => if 4003 < q.n then none
    else if q.n % 4 = 2 ∨ q.n % 4 = 3 then some (⟨(q.n % 4 : Nat) + 1, (q.n / 4 : Nat), 0, []⟩, zs.drop q.k)
    else match scan 0 0 (zs.drop q.k) with
      | [] => none
      | p :: _ => if q.n % 4 = 0 then some (⟨1, (q.n / 4 : Nat), zagI p.n, []⟩, (zs.drop q.k).drop p.k)
        else if ((zs.drop q.k).drop p.k).length < p.n then none
        else some (⟨2, (q.n / 4 : Nat), 0, ((zs.drop q.k).drop p.k).take p.n⟩, ((zs.drop q.k).drop p.k).drop p.n)

def NoItem (w : World) (e : Ending) (w' : World) : Prop :=
  e = .returned (.tuple #[.agg #[.int .i64 0, .int .i64 0, .int .i64 0, .slice none 0 0], .slice none 0 0, .bool false]) ∧ Below w.heap.size w w'
def AnItem (x : It) (rest : List Int) (w : World) (e : Ending) (w' : World) : Prop :=
  ∃ A c R cr, e = .returned (.tuple #[.agg #[.int .i64 x.kind, .int .i64 x.id, .int .i64 x.n, .slice A x.bs.length c], .slice R rest.length cr, .bool true]) ∧
    x.bs.length ≤ c ∧ c ≤ maxLen ∧ Rd .u8 w'.heap.size w' A x.bs ∧ rest.length ≤ cr ∧ cr ≤ 9223372036854775807 ∧ Rd .u8 w.heap.size w R rest ∧ Below w.heap.size w w'

end Go.Proofs.YthdlcpnmldhllaaDoor

/-
  THE PROGRAM's copyOf and take: the item that some bytes begin with, and how many bytes it has.
-/
namespace Go.Proofs.YthdlcpnmldhllaaDoor
open Go.RowKit
set_option linter.unusedVariables false

/-- The same bytes in memory of one's own. -/
def Copied (zs : List Int) (w : World) (e : Ending) (w' : World) : Prop :=
  ∃ A c, e = .returned (.slice A zs.length c) ∧ w'.ownsRow w.heap.size 5 1 (.slice A zs.length c) zs.length (zs.map (Value.int .u8)) ∧ Below w.heap.size w w'

set_option maxHeartbeats 800000 in
set_option maxRecDepth 100000 in
theorem copy_any {a : Option Addr} {n cap : Nat} {zs : List Int} (hn : n = zs.length) (hlen : zs.length ≤ 1000000) {w : World} {n₀ : Nat} (hr : Rd .u8 n₀ w a zs) :
    Calls Tryd.prog 66 #[.slice a n cap] w (Copied zs w) := by
  subst hn
  obtain ⟨i0, hi, hz0, hz1, hz2⟩ := info_parts Tryd.info5
  have HR := Lib.hid hr
  clear hr
  cases a with
  | none =>
    have hz : zs.length = 0 := by
      rcases Nat.eq_zero_or_pos zs.length with h | h
      · exact h
      · obtain ⟨_, _, h', _⟩ := HR.out h; cases h'
    obtain rfl := List.eq_nil_of_length_eq_zero hz
    clear hz
    go_enter Tryd.func66, Tryd.ntmps66
    go_wp2_with (at_builtin; refine wpList_append_nilc rfl _ _ 35 rfl w.heap.size 5 i0 1 Tryd.underlying35 hi _ _ _ rfl (World.ownsRow_nil _ _ _ _) 0 cap rfl rfl ?_)
    go_ret
    exact ⟨none, 0, rfl, World.ownsRow_nil _ _ _ _, Below.refl _ _⟩
  | some ad =>
    go_enter Tryd.func66, Tryd.ntmps66
    go_wp2_with (at_builtin; refine wpList_append_own _ rfl _ _ 35 rfl w.heap.size 5 i0 (.int .u8 0) 1 1 Tryd.underlying35 hi hz0 hz1 hz2 rfl (by decide) (.slice none 0 0) 0 _ rfl (World.ownsRow_nil _ _ _ _) ad zs.length cap (zs.map (Value.int .u8)) rfl (by simp) HR.out.news (one_u8 _) (by unfold maxLen; omega) (by omega) (Nat.le_refl _) ?_; intro v1 X1 ho hg hn; rw [Nat.zero_add, List.nil_append] at ho; obtain ⟨V1, m1, rfl, _⟩ := own_form ho; have O1 := Lib.hid ho; have H1 := Lib.hid ((Below.refl w.heap.size w).grown hg (Nat.le_refl _) (fun j hj => by simp [Value.ownBlock] at hj)); clear ho hg hn)
    go_ret
    exact ⟨V1, m1, rfl, O1.out, H1.out⟩

/-- No item: what take returns then. -/
def NoPart (w : World) (e : Ending) (w' : World) : Prop :=
  e = .returned (.tuple #[.agg #[.int .i64 0, .int .i64 0, .int .i64 0, .slice none 0 0], .int .i64 0, .int .i64 2]) ∧ Below w.heap.size w w'
/-- An item, its bytes in memory of their own. -/
def APart (x : It) (k : Nat) (w : World) (e : Ending) (w' : World) : Prop :=
  ∃ A c, e = .returned (.tuple #[.agg #[.int .i64 x.kind, .int .i64 x.id, .int .i64 x.n, .slice A x.bs.length c], .int .i64 k, .int .i64 0]) ∧
    w'.ownsRow w.heap.size 5 1 (.slice A x.bs.length c) x.bs.length (x.bs.map (Value.int .u8)) ∧ Below w.heap.size w w'

set_option maxHeartbeats 4000000 in
set_option maxRecDepth 100000 in
theorem part_none1 (a : Option Addr) (cap : Nat) (zs : List Int) (hlen : zs.length ≤ 100000) (hb : ∀ x ∈ zs, 0 ≤ x ∧ x ≤ 255) (w : World) (hr : Rd .u8 w.heap.size w a zs) (hs : scan 0 0 zs = []) :
    Calls Tryd.prog 40 #[.slice a zs.length cap] w (NoPart w) := by
  have hres : takeS zs = (0, 0, 2) := by unfold takeS; rw [hs]
  have htk := take_len cap zs rfl (by omega) hb (w := w.alloc (.cells #[.int .i64 0, .int .i64 0, .int .i64 0, .slice none 0 0] 84)) ((hr.below ((Below.refl _ w).alloc (Nat.le_refl _) _)).mono (by simp)) hres
  clear hres hs
  go_enter Tryd.func40, Tryd.ntmps40
  go_wp2_with (go_at_call 64; refine htk.mono ?_; rintro e w1 ⟨rfl, hb1⟩; have BX := Lib.hid (Box.below (heap_alloc_new w (.cells #[.int .i64 0, .int .i64 0, .int .i64 0, .slice none 0 0] 84)) hb1 (by simp)); have H1 := Lib.hid (((Below.refl w.heap.size w).alloc (Nat.le_refl _) (.cells #[.int .i64 0, .int .i64 0, .int .i64 0, .slice none 0 0] 84)).trans (hb1.mono (by simp))); clear hb1; have c0 := BX.out.cell 0; have c1 := BX.out.cell 1; have c2 := BX.out.cell 2; have c3 := BX.out.cell 3; have fz : ∀ i, w1.frozen? ⟨w.heap.size, i, none⟩ = false := fun i => by have h := BX.out; unfold Box at h; simp [World.frozen?, h])
  obtain ⟨B4, L4⟩ := BX.out.four (.int .i64 0) (.int .i64 0) (.int .i64 0) (.slice none 0 0)
  have e0 := B4.cell 0
  have e1 := B4.cell 1
  have e2 := B4.cell 2
  have e3 := B4.cell 3
  simp only [List.getElem?_toArray, List.getElem?_cons_zero, List.getElem?_cons_succ] at e0 e1 e2 e3
  refine bodyPost_ret (v := .tuple #[.agg #[.int .i64 0, .int .i64 0, .int .i64 0, .slice none 0 0], .int .i64 0, .int .i64 2]) (by simp [results, go_sem, e0, e1, e2, e3]) rfl ⟨rfl, H1.out.trans L4⟩

set_option maxHeartbeats 4000000 in
set_option maxRecDepth 100000 in
theorem part_group (a : Option Addr) (cap : Nat) (zs : List Int) (hlen : zs.length ≤ 100000) (hb : ∀ x ∈ zs, 0 ≤ x ∧ x ≤ 255) (w : World) (hr : Rd .u8 w.heap.size w a zs) (q : Num) (qs : List Num) (hs : scan 0 0 zs = q :: qs) (m : Nat) (hm : q.n % 4 = m) (hm2 : m = 2 ∨ m = 3) :
    Calls Tryd.prog 40 #[.slice a zs.length cap] w (APart ⟨(m : Int) + 1, (q.n / 4 : Nat), 0, []⟩ q.k w) := by
  have hres : takeS zs = ((q.n : Int), (q.k : Int), 0) := by unfold takeS; rw [hs]
  have htk := take_len cap zs rfl (by omega) hb (w := w.alloc (.cells #[.int .i64 0, .int .i64 0, .int .i64 0, .slice none 0 0] 84)) ((hr.below ((Below.refl _ w).alloc (Nat.le_refl _) _)).mono (by simp)) hres
  have hqn := q.hn
  have hmod : (q.n : Int) % 4 = (m : Int) := by omega
  clear hres hs hm hr
  rcases hm2 with rfl | rfl
  · go_enter Tryd.func40, Tryd.ntmps40
    go_wp2_with (go_at_call 64; refine htk.mono ?_; rintro e w1 ⟨rfl, hb1⟩; have BX := Lib.hid (Box.below (heap_alloc_new w (.cells #[.int .i64 0, .int .i64 0, .int .i64 0, .slice none 0 0] 84)) hb1 (by simp)); have H1 := Lib.hid (((Below.refl w.heap.size w).alloc (Nat.le_refl _) (.cells #[.int .i64 0, .int .i64 0, .int .i64 0, .slice none 0 0] 84)).trans (hb1.mono (by simp))); clear hb1; have hlt := BX.out.lt; have c0 : w1.cell? ⟨w.heap.size, 0, none⟩ = some (.int .i64 0) := BX.out.cell 0; have c1 : w1.cell? ⟨w.heap.size, 1, none⟩ = some (.int .i64 0) := BX.out.cell 1; have c2 : w1.cell? ⟨w.heap.size, 2, none⟩ = some (.int .i64 0) := BX.out.cell 2; have c3 : w1.cell? ⟨w.heap.size, 3, none⟩ = some (.slice none 0 0) := BX.out.cell 3; have f0 := BX.out.frozen 0; have f1 := BX.out.frozen 1; have f2 := BX.out.frozen 2; have f3 := BX.out.frozen 3)
    obtain ⟨B0, L4⟩ := BX.out.four (.int .i64 3) (.int .i64 ((q.n : Int) / 4)) (.int .i64 0) (.slice none 0 0)
    have B4 := B0.alloc (.cells #[.int .i64 3, .int .i64 ((q.n : Int) / 4), .int .i64 0, .slice none 0 0] 84)
    have e0 := B4.cell 0
    have e1 := B4.cell 1
    have e2 := B4.cell 2
    have e3 := B4.cell 3
    simp only [List.getElem?_toArray, List.getElem?_cons_zero, List.getElem?_cons_succ] at e0 e1 e2 e3
    refine bodyPost_ret (v := .tuple #[.agg #[.int .i64 3, .int .i64 ((q.n : Int) / 4), .int .i64 0, .slice none 0 0], .int .i64 q.k, .int .i64 0]) (by simp [results, go_sem, e0, e1, e2, e3]) rfl ?_
    exact ⟨none, 0, rfl, World.ownsRow_nil _ _ _ _, (H1.out.trans L4).alloc (H1.out.trans L4).size _⟩
  · go_enter Tryd.func40, Tryd.ntmps40
    go_wp2_with (go_at_call 64; refine htk.mono ?_; rintro e w1 ⟨rfl, hb1⟩; have BX := Lib.hid (Box.below (heap_alloc_new w (.cells #[.int .i64 0, .int .i64 0, .int .i64 0, .slice none 0 0] 84)) hb1 (by simp)); have H1 := Lib.hid (((Below.refl w.heap.size w).alloc (Nat.le_refl _) (.cells #[.int .i64 0, .int .i64 0, .int .i64 0, .slice none 0 0] 84)).trans (hb1.mono (by simp))); clear hb1; have hlt := BX.out.lt; have c0 : w1.cell? ⟨w.heap.size, 0, none⟩ = some (.int .i64 0) := BX.out.cell 0; have c1 : w1.cell? ⟨w.heap.size, 1, none⟩ = some (.int .i64 0) := BX.out.cell 1; have c2 : w1.cell? ⟨w.heap.size, 2, none⟩ = some (.int .i64 0) := BX.out.cell 2; have c3 : w1.cell? ⟨w.heap.size, 3, none⟩ = some (.slice none 0 0) := BX.out.cell 3; have f0 := BX.out.frozen 0; have f1 := BX.out.frozen 1; have f2 := BX.out.frozen 2; have f3 := BX.out.frozen 3)
    obtain ⟨B0, L4⟩ := BX.out.four (.int .i64 4) (.int .i64 ((q.n : Int) / 4)) (.int .i64 0) (.slice none 0 0)
    have B4 := B0.alloc (.cells #[.int .i64 4, .int .i64 ((q.n : Int) / 4), .int .i64 0, .slice none 0 0] 84)
    have e0 := B4.cell 0
    have e1 := B4.cell 1
    have e2 := B4.cell 2
    have e3 := B4.cell 3
    simp only [List.getElem?_toArray, List.getElem?_cons_zero, List.getElem?_cons_succ] at e0 e1 e2 e3
    refine bodyPost_ret (v := .tuple #[.agg #[.int .i64 4, .int .i64 ((q.n : Int) / 4), .int .i64 0, .slice none 0 0], .int .i64 q.k, .int .i64 0]) (by simp [results, go_sem, e0, e1, e2, e3]) rfl ?_
    exact ⟨none, 0, rfl, World.ownsRow_nil _ _ _ _, (H1.out.trans L4).alloc (H1.out.trans L4).size _⟩

theorem own_far {w : World} {base : Nat} {e : TypeId} {size n : Nat} {v : Value} {xs : List Value} (h : w.ownsRow base e size v n xs) {b i : Nat} (hb : b < base) (u : Value) : (w.setCell ⟨b, i, none⟩ u).ownsRow base e size v n xs :=
  ⟨h.1, h.2.imp id fun ⟨g, cap, cur, hv, hg, hh, rest⟩ => ⟨g, cap, cur, hv, hg, (Below.heap_setCell w ⟨b, i, none⟩ u g (by show g ≠ b; omega)).trans hh, rest⟩⟩
theorem Box.far {W : World} {B B' : Nat} {cs : Array Value} (h : Box W B cs) (hne : B ≠ B') (i : Nat) (u : Value) : Box (W.setCell ⟨B', i, none⟩ u) B cs := (Below.heap_setCell W ⟨B', i, none⟩ u B hne).trans h

set_option maxHeartbeats 8000000 in
set_option maxRecDepth 100000 in
theorem part_int (a : Option Addr) (cap : Nat) (zs : List Int) (hlen : zs.length ≤ 100000) (hcap : zs.length ≤ cap) (hcm : cap ≤ 9223372036854775807) (hb : ∀ x ∈ zs, 0 ≤ x ∧ x ≤ 255) (w : World) (hr : Rd .u8 w.heap.size w a zs) (q : Num) (qs : List Num) (hs : scan 0 0 zs = q :: qs) (hm : q.n % 4 = 0) (p : Num) (ps : List Num) (hs2 : scan 0 0 (zs.drop q.k) = p :: ps) :
    Calls Tryd.prog 40 #[.slice a zs.length cap] w (APart ⟨1, (q.n / 4 : Nat), zagI p.n, []⟩ (q.k + p.k) w) := by
  have hres : takeS zs = ((q.n : Int), (q.k : Int), 0) := by unfold takeS; rw [hs]
  have hres2 : takeS (zs.drop q.k) = ((p.n : Int), (p.k : Int), 0) := by unfold takeS; rw [hs2]
  have htk := take_len cap zs rfl (by omega) hb (w := w.alloc (.cells #[.int .i64 0, .int .i64 0, .int .i64 0, .slice none 0 0] 84)) ((hr.below ((Below.refl _ w).alloc (Nat.le_refl _) _)).mono (by simp)) hres
  obtain ⟨hq0, hql, _, _⟩ := scan_first0 hb hs
  have hb2 : ∀ x ∈ zs.drop q.k, 0 ≤ x ∧ x ≤ 255 := fun x hx => hb x (List.mem_of_mem_drop hx)
  obtain ⟨hp0, hpl, _, _⟩ := scan_first0 hb2 hs2
  rw [List.length_drop] at hpl
  have hpn := p.hn
  have hne : ¬ cap = q.k := by omega
  obtain ⟨b, off, rfl, hbb, _⟩ := hr (by omega)
  have hqn := q.hn
  have hmod : (q.n : Int) % 4 = 0 := by omega
  have HRr := Lib.hid hr
  have hzag := zag_any p.n hpn
  have htk2 : ∀ W, Below w.heap.size w W → Calls Tryd.prog 64 #[.slice (some ⟨b, off + q.k, none⟩) (zs.length - q.k) (cap - q.k)] W fun e w' => e = .returned (.tuple #[.int .u64 p.n, .int .i64 p.k, .int .i64 0]) ∧ Below W.heap.size W w' := fun W hW =>
    take_len (cap - q.k) (zs.drop q.k) (List.length_drop ..) (by omega) hb2 (((HRr.out.drop q.k).below hW).mono hW.size) hres2
  have HT2 := Lib.hid htk2
  have T1 : True := trivial
  have T2 : True := trivial
  clear hres hres2 hs hs2 hm hr htk2
  go_enter Tryd.func40, Tryd.ntmps40
  go_wp2_with (first
    | (go_at_call 64; have _t1 := T1; (with_reducible refine htk.mono ?_); rintro e w1 ⟨rfl, hb1⟩; have BX := Lib.hid (Box.below (heap_alloc_new w (.cells #[.int .i64 0, .int .i64 0, .int .i64 0, .slice none 0 0] 84)) hb1 (by simp)); have H1 := Lib.hid (((Below.refl w.heap.size w).alloc (Nat.le_refl _) (.cells #[.int .i64 0, .int .i64 0, .int .i64 0, .slice none 0 0] 84)).trans (hb1.mono (by simp))); have hlt := BX.out.lt; clear hb1 T1)
    | (go_at_call 64; have _t2 := T2; (with_reducible refine (HT2.out _ (H1.out.alloc H1.out.size _)).mono ?_); rintro e w3 ⟨rfl, hb3⟩; have B2 := Lib.hid (Box.below (heap_alloc_new w1 (.cells #[.int .i64 1, .int .i64 ((q.n : Int) / 4), .int .i64 0, .slice none 0 0] 84)) hb3 (by simp)); have B0 := Lib.hid (Box.below (BX.out.alloc (.cells #[.int .i64 1, .int .i64 ((q.n : Int) / 4), .int .i64 0, .slice none 0 0] 84)) hb3 (by simp; omega)); have H3 := Lib.hid ((H1.out.alloc H1.out.size (.cells #[.int .i64 1, .int .i64 ((q.n : Int) / 4), .int .i64 0, .slice none 0 0] 84)).trans (hb3.mono (by have := H1.out.size; simp; omega))); have S3 := Lib.hid (Nat.lt_of_lt_of_le (show w1.heap.size < (w1.alloc (.cells #[.int .i64 1, .int .i64 ((q.n : Int) / 4), .int .i64 0, .slice none 0 0] 84)).heap.size by simp) hb3.size); have x0 : w3.cell? ⟨w1.heap.size, 0, none⟩ = some (.int .i64 1) := B2.out.cell 0; have x1 : w3.cell? ⟨w1.heap.size, 1, none⟩ = some (.int .i64 ((q.n : Int) / 4)) := B2.out.cell 1; have x2 : w3.cell? ⟨w1.heap.size, 2, none⟩ = some (.int .i64 0) := B2.out.cell 2; have x3 : w3.cell? ⟨w1.heap.size, 3, none⟩ = some (.slice none 0 0) := B2.out.cell 3; have y0 : w3.cell? ⟨w.heap.size, 0, none⟩ = some (.int .i64 0) := B0.out.cell 0; have y1 : w3.cell? ⟨w.heap.size, 1, none⟩ = some (.int .i64 0) := B0.out.cell 1; have y2 : w3.cell? ⟨w.heap.size, 2, none⟩ = some (.int .i64 0) := B0.out.cell 2; have y3 : w3.cell? ⟨w.heap.size, 3, none⟩ = some (.slice none 0 0) := B0.out.cell 3; have f2 := B2.out.frozen 2; have z0 := B0.out.frozen 0; have z1 := B0.out.frozen 1; have z2 := B0.out.frozen 2; have z3 := B0.out.frozen 3; clear hb3 T2)
    | (go_at_call 65; refine (hzag _).mono ?_; rintro e w' ⟨rfl, rfl⟩))
  obtain ⟨B4, L4⟩ := (B0.out.far (B' := w1.heap.size) (by omega) 2 (.int .i64 (zagI p.n))).four (.int .i64 1) (.int .i64 ((q.n : Int) / 4)) (.int .i64 (zagI p.n)) (.slice none 0 0)
  have e0 := B4.cell 0
  have e1 := B4.cell 1
  have e2 := B4.cell 2
  have e3 := B4.cell 3
  simp only [List.getElem?_toArray, List.getElem?_cons_zero, List.getElem?_cons_succ] at e0 e1 e2 e3
  refine bodyPost_ret (v := .tuple #[.agg #[.int .i64 1, .int .i64 ((q.n : Int) / 4), .int .i64 (zagI p.n), .slice none 0 0], .int .i64 ((q.k : Int) + p.k), .int .i64 0]) (by simp [results, go_sem, e0, e1, e2, e3]) rfl ?_
  exact ⟨none, 0, by rw [Int.natCast_add]; rfl, World.ownsRow_nil _ _ _ _, (H3.out.setCell (by have := H1.out.size; simp; omega) _).trans L4⟩

set_option maxHeartbeats 8000000 in
set_option maxRecDepth 100000 in
theorem part_none2_0eq (a : Option Addr) (cap : Nat) (zs : List Int) (hlen : zs.length ≤ 100000) (hcap : zs.length ≤ cap) (hcm : cap ≤ 9223372036854775807) (hb : ∀ x ∈ zs, 0 ≤ x ∧ x ≤ 255) (w : World) (hr : Rd .u8 w.heap.size w a zs) (q : Num) (qs : List Num) (hs : scan 0 0 zs = q :: qs) (hm : q.n % 4 = 0) (hs2 : scan 0 0 (zs.drop q.k) = []) (hc : cap = q.k) :
    Calls Tryd.prog 40 #[.slice a zs.length cap] w (NoPart w) := by
  have hres : takeS zs = ((q.n : Int), (q.k : Int), 0) := by unfold takeS; rw [hs]
  have hres2 : takeS (zs.drop q.k) = (0, 0, 2) := by unfold takeS; rw [hs2]
  have htk := take_len cap zs rfl (by omega) hb (w := w.alloc (.cells #[.int .i64 0, .int .i64 0, .int .i64 0, .slice none 0 0] 84)) ((hr.below ((Below.refl _ w).alloc (Nat.le_refl _) _)).mono (by simp)) hres
  obtain ⟨hq0, hql, _, _⟩ := scan_first0 hb hs
  have hb2 : ∀ x ∈ zs.drop q.k, 0 ≤ x ∧ x ≤ 255 := fun x hx => hb x (List.mem_of_mem_drop hx)
  obtain rfl : cap = q.k := hc
  obtain ⟨b, off, rfl, hbb, _⟩ := hr (by omega)
  have hqn := q.hn
  have hmod : (q.n : Int) % 4 = 0 := by omega
  have HRr := Lib.hid hr
  have htk2 : ∀ W, Below w.heap.size w W → Calls Tryd.prog 64 #[.slice (some ⟨b, off, none⟩) 0 0] W fun e w' => e = .returned (.tuple #[.int .u64 0, .int .i64 0, .int .i64 2]) ∧ Below W.heap.size W w' := fun W hW =>
    take_len 0 (zs.drop q.k) (by rw [List.length_drop]; omega) (by omega) hb2 (fun hp => by rw [List.length_drop] at hp; omega) hres2
  have HT2 := Lib.hid htk2
  have T1 : True := trivial
  have T2 : True := trivial
  clear hres hres2 hs hs2 hm hr htk2
  go_enter Tryd.func40, Tryd.ntmps40
  go_wp2_with (first
    | (go_at_call 64; have _t1 := T1; (with_reducible refine htk.mono ?_); rintro e w1 ⟨rfl, hb1⟩; have BX := Lib.hid (Box.below (heap_alloc_new w (.cells #[.int .i64 0, .int .i64 0, .int .i64 0, .slice none 0 0] 84)) hb1 (by simp)); have H1 := Lib.hid (((Below.refl w.heap.size w).alloc (Nat.le_refl _) (.cells #[.int .i64 0, .int .i64 0, .int .i64 0, .slice none 0 0] 84)).trans (hb1.mono (by simp))); have hlt := BX.out.lt; clear hb1 T1)
    | (go_at_call 64; have _t2 := T2; (with_reducible refine (HT2.out _ (H1.out.alloc H1.out.size _)).mono ?_); rintro e w3 ⟨rfl, hb3⟩; have B2 := Lib.hid (Box.below (heap_alloc_new w1 (.cells #[.int .i64 1, .int .i64 ((q.n : Int) / 4), .int .i64 0, .slice none 0 0] 84)) hb3 (by simp)); have B0 := Lib.hid (Box.below (BX.out.alloc (.cells #[.int .i64 1, .int .i64 ((q.n : Int) / 4), .int .i64 0, .slice none 0 0] 84)) hb3 (by simp; omega)); have H3 := Lib.hid ((H1.out.alloc H1.out.size (.cells #[.int .i64 1, .int .i64 ((q.n : Int) / 4), .int .i64 0, .slice none 0 0] 84)).trans (hb3.mono (by have := H1.out.size; simp; omega))); have S3 := Lib.hid (Nat.lt_of_lt_of_le (show w1.heap.size < (w1.alloc (.cells #[.int .i64 1, .int .i64 ((q.n : Int) / 4), .int .i64 0, .slice none 0 0] 84)).heap.size by simp) hb3.size); have x0 : w3.cell? ⟨w1.heap.size, 0, none⟩ = some (.int .i64 1) := B2.out.cell 0; have x1 : w3.cell? ⟨w1.heap.size, 1, none⟩ = some (.int .i64 ((q.n : Int) / 4)) := B2.out.cell 1; have x2 : w3.cell? ⟨w1.heap.size, 2, none⟩ = some (.int .i64 0) := B2.out.cell 2; have x3 : w3.cell? ⟨w1.heap.size, 3, none⟩ = some (.slice none 0 0) := B2.out.cell 3; have y0 : w3.cell? ⟨w.heap.size, 0, none⟩ = some (.int .i64 0) := B0.out.cell 0; have y1 : w3.cell? ⟨w.heap.size, 1, none⟩ = some (.int .i64 0) := B0.out.cell 1; have y2 : w3.cell? ⟨w.heap.size, 2, none⟩ = some (.int .i64 0) := B0.out.cell 2; have y3 : w3.cell? ⟨w.heap.size, 3, none⟩ = some (.slice none 0 0) := B0.out.cell 3; have f2 := B2.out.frozen 2; have z0 := B0.out.frozen 0; have z1 := B0.out.frozen 1; have z2 := B0.out.frozen 2; have z3 := B0.out.frozen 3; clear hb3 T2))
  obtain ⟨B4, L4⟩ := B0.out.four (.int .i64 0) (.int .i64 0) (.int .i64 0) (.slice none 0 0)
  have e0 := B4.cell 0
  have e1 := B4.cell 1
  have e2 := B4.cell 2
  have e3 := B4.cell 3
  simp only [List.getElem?_toArray, List.getElem?_cons_zero, List.getElem?_cons_succ] at e0 e1 e2 e3
  refine bodyPost_ret (v := .tuple #[.agg #[.int .i64 0, .int .i64 0, .int .i64 0, .slice none 0 0], .int .i64 0, .int .i64 2]) (by simp [results, go_sem, e0, e1, e2, e3]) rfl ?_
  exact ⟨rfl, H3.out.trans L4⟩

set_option maxHeartbeats 8000000 in
set_option maxRecDepth 100000 in
theorem part_none2_0ne (a : Option Addr) (cap : Nat) (zs : List Int) (hlen : zs.length ≤ 100000) (hcap : zs.length ≤ cap) (hcm : cap ≤ 9223372036854775807) (hb : ∀ x ∈ zs, 0 ≤ x ∧ x ≤ 255) (w : World) (hr : Rd .u8 w.heap.size w a zs) (q : Num) (qs : List Num) (hs : scan 0 0 zs = q :: qs) (hm : q.n % 4 = 0) (hs2 : scan 0 0 (zs.drop q.k) = []) (hc : ¬ cap = q.k) :
    Calls Tryd.prog 40 #[.slice a zs.length cap] w (NoPart w) := by
  have hres : takeS zs = ((q.n : Int), (q.k : Int), 0) := by unfold takeS; rw [hs]
  have hres2 : takeS (zs.drop q.k) = (0, 0, 2) := by unfold takeS; rw [hs2]
  have htk := take_len cap zs rfl (by omega) hb (w := w.alloc (.cells #[.int .i64 0, .int .i64 0, .int .i64 0, .slice none 0 0] 84)) ((hr.below ((Below.refl _ w).alloc (Nat.le_refl _) _)).mono (by simp)) hres
  obtain ⟨hq0, hql, _, _⟩ := scan_first0 hb hs
  have hb2 : ∀ x ∈ zs.drop q.k, 0 ≤ x ∧ x ≤ 255 := fun x hx => hb x (List.mem_of_mem_drop hx)
  have hne : ¬ cap = q.k := hc
  obtain ⟨b, off, rfl, hbb, _⟩ := hr (by omega)
  have hqn := q.hn
  have hmod : (q.n : Int) % 4 = 0 := by omega
  have HRr := Lib.hid hr
  have htk2 : ∀ W, Below w.heap.size w W → Calls Tryd.prog 64 #[.slice (some ⟨b, off + q.k, none⟩) (zs.length - q.k) (cap - q.k)] W fun e w' => e = .returned (.tuple #[.int .u64 0, .int .i64 0, .int .i64 2]) ∧ Below W.heap.size W w' := fun W hW =>
    take_len (cap - q.k) (zs.drop q.k) (List.length_drop ..) (by omega) hb2 (((HRr.out.drop q.k).below hW).mono hW.size) hres2
  have HT2 := Lib.hid htk2
  have T1 : True := trivial
  have T2 : True := trivial
  clear hres hres2 hs hs2 hm hr htk2
  go_enter Tryd.func40, Tryd.ntmps40
  go_wp2_with (first
    | (go_at_call 64; have _t1 := T1; (with_reducible refine htk.mono ?_); rintro e w1 ⟨rfl, hb1⟩; have BX := Lib.hid (Box.below (heap_alloc_new w (.cells #[.int .i64 0, .int .i64 0, .int .i64 0, .slice none 0 0] 84)) hb1 (by simp)); have H1 := Lib.hid (((Below.refl w.heap.size w).alloc (Nat.le_refl _) (.cells #[.int .i64 0, .int .i64 0, .int .i64 0, .slice none 0 0] 84)).trans (hb1.mono (by simp))); have hlt := BX.out.lt; clear hb1 T1)
    | (go_at_call 64; have _t2 := T2; (with_reducible refine (HT2.out _ (H1.out.alloc H1.out.size _)).mono ?_); rintro e w3 ⟨rfl, hb3⟩; have B2 := Lib.hid (Box.below (heap_alloc_new w1 (.cells #[.int .i64 1, .int .i64 ((q.n : Int) / 4), .int .i64 0, .slice none 0 0] 84)) hb3 (by simp)); have B0 := Lib.hid (Box.below (BX.out.alloc (.cells #[.int .i64 1, .int .i64 ((q.n : Int) / 4), .int .i64 0, .slice none 0 0] 84)) hb3 (by simp; omega)); have H3 := Lib.hid ((H1.out.alloc H1.out.size (.cells #[.int .i64 1, .int .i64 ((q.n : Int) / 4), .int .i64 0, .slice none 0 0] 84)).trans (hb3.mono (by have := H1.out.size; simp; omega))); have S3 := Lib.hid (Nat.lt_of_lt_of_le (show w1.heap.size < (w1.alloc (.cells #[.int .i64 1, .int .i64 ((q.n : Int) / 4), .int .i64 0, .slice none 0 0] 84)).heap.size by simp) hb3.size); have x0 : w3.cell? ⟨w1.heap.size, 0, none⟩ = some (.int .i64 1) := B2.out.cell 0; have x1 : w3.cell? ⟨w1.heap.size, 1, none⟩ = some (.int .i64 ((q.n : Int) / 4)) := B2.out.cell 1; have x2 : w3.cell? ⟨w1.heap.size, 2, none⟩ = some (.int .i64 0) := B2.out.cell 2; have x3 : w3.cell? ⟨w1.heap.size, 3, none⟩ = some (.slice none 0 0) := B2.out.cell 3; have y0 : w3.cell? ⟨w.heap.size, 0, none⟩ = some (.int .i64 0) := B0.out.cell 0; have y1 : w3.cell? ⟨w.heap.size, 1, none⟩ = some (.int .i64 0) := B0.out.cell 1; have y2 : w3.cell? ⟨w.heap.size, 2, none⟩ = some (.int .i64 0) := B0.out.cell 2; have y3 : w3.cell? ⟨w.heap.size, 3, none⟩ = some (.slice none 0 0) := B0.out.cell 3; have f2 := B2.out.frozen 2; have z0 := B0.out.frozen 0; have z1 := B0.out.frozen 1; have z2 := B0.out.frozen 2; have z3 := B0.out.frozen 3; clear hb3 T2))
  obtain ⟨B4, L4⟩ := B0.out.four (.int .i64 0) (.int .i64 0) (.int .i64 0) (.slice none 0 0)
  have e0 := B4.cell 0
  have e1 := B4.cell 1
  have e2 := B4.cell 2
  have e3 := B4.cell 3
  simp only [List.getElem?_toArray, List.getElem?_cons_zero, List.getElem?_cons_succ] at e0 e1 e2 e3
  refine bodyPost_ret (v := .tuple #[.agg #[.int .i64 0, .int .i64 0, .int .i64 0, .slice none 0 0], .int .i64 0, .int .i64 2]) (by simp [results, go_sem, e0, e1, e2, e3]) rfl ?_
  exact ⟨rfl, H3.out.trans L4⟩

set_option maxHeartbeats 8000000 in
set_option maxRecDepth 100000 in
theorem part_none2_1eq (a : Option Addr) (cap : Nat) (zs : List Int) (hlen : zs.length ≤ 100000) (hcap : zs.length ≤ cap) (hcm : cap ≤ 9223372036854775807) (hb : ∀ x ∈ zs, 0 ≤ x ∧ x ≤ 255) (w : World) (hr : Rd .u8 w.heap.size w a zs) (q : Num) (qs : List Num) (hs : scan 0 0 zs = q :: qs) (hm : q.n % 4 = 1) (hs2 : scan 0 0 (zs.drop q.k) = []) (hc : cap = q.k) :
    Calls Tryd.prog 40 #[.slice a zs.length cap] w (NoPart w) := by
  have hres : takeS zs = ((q.n : Int), (q.k : Int), 0) := by unfold takeS; rw [hs]
  have hres2 : takeS (zs.drop q.k) = (0, 0, 2) := by unfold takeS; rw [hs2]
  have htk := take_len cap zs rfl (by omega) hb (w := w.alloc (.cells #[.int .i64 0, .int .i64 0, .int .i64 0, .slice none 0 0] 84)) ((hr.below ((Below.refl _ w).alloc (Nat.le_refl _) _)).mono (by simp)) hres
  obtain ⟨hq0, hql, _, _⟩ := scan_first0 hb hs
  have hb2 : ∀ x ∈ zs.drop q.k, 0 ≤ x ∧ x ≤ 255 := fun x hx => hb x (List.mem_of_mem_drop hx)
  obtain rfl : cap = q.k := hc
  obtain ⟨b, off, rfl, hbb, _⟩ := hr (by omega)
  have hqn := q.hn
  have hmod : (q.n : Int) % 4 = 1 := by omega
  have HRr := Lib.hid hr
  have htk2 : ∀ W, Below w.heap.size w W → Calls Tryd.prog 64 #[.slice (some ⟨b, off, none⟩) 0 0] W fun e w' => e = .returned (.tuple #[.int .u64 0, .int .i64 0, .int .i64 2]) ∧ Below W.heap.size W w' := fun W hW =>
    take_len 0 (zs.drop q.k) (by rw [List.length_drop]; omega) (by omega) hb2 (fun hp => by rw [List.length_drop] at hp; omega) hres2
  have HT2 := Lib.hid htk2
  have T1 : True := trivial
  have T2 : True := trivial
  clear hres hres2 hs hs2 hm hr htk2
  go_enter Tryd.func40, Tryd.ntmps40
  go_wp2_with (first
    | (go_at_call 64; have _t1 := T1; (with_reducible refine htk.mono ?_); rintro e w1 ⟨rfl, hb1⟩; have BX := Lib.hid (Box.below (heap_alloc_new w (.cells #[.int .i64 0, .int .i64 0, .int .i64 0, .slice none 0 0] 84)) hb1 (by simp)); have H1 := Lib.hid (((Below.refl w.heap.size w).alloc (Nat.le_refl _) (.cells #[.int .i64 0, .int .i64 0, .int .i64 0, .slice none 0 0] 84)).trans (hb1.mono (by simp))); have hlt := BX.out.lt; clear hb1 T1)
    | (go_at_call 64; have _t2 := T2; (with_reducible refine (HT2.out _ (H1.out.alloc H1.out.size _)).mono ?_); rintro e w3 ⟨rfl, hb3⟩; have B2 := Lib.hid (Box.below (heap_alloc_new w1 (.cells #[.int .i64 2, .int .i64 ((q.n : Int) / 4), .int .i64 0, .slice none 0 0] 84)) hb3 (by simp)); have B0 := Lib.hid (Box.below (BX.out.alloc (.cells #[.int .i64 2, .int .i64 ((q.n : Int) / 4), .int .i64 0, .slice none 0 0] 84)) hb3 (by simp; omega)); have H3 := Lib.hid ((H1.out.alloc H1.out.size (.cells #[.int .i64 2, .int .i64 ((q.n : Int) / 4), .int .i64 0, .slice none 0 0] 84)).trans (hb3.mono (by have := H1.out.size; simp; omega))); have S3 := Lib.hid (Nat.lt_of_lt_of_le (show w1.heap.size < (w1.alloc (.cells #[.int .i64 2, .int .i64 ((q.n : Int) / 4), .int .i64 0, .slice none 0 0] 84)).heap.size by simp) hb3.size); have x0 : w3.cell? ⟨w1.heap.size, 0, none⟩ = some (.int .i64 2) := B2.out.cell 0; have x1 : w3.cell? ⟨w1.heap.size, 1, none⟩ = some (.int .i64 ((q.n : Int) / 4)) := B2.out.cell 1; have x2 : w3.cell? ⟨w1.heap.size, 2, none⟩ = some (.int .i64 0) := B2.out.cell 2; have x3 : w3.cell? ⟨w1.heap.size, 3, none⟩ = some (.slice none 0 0) := B2.out.cell 3; have y0 : w3.cell? ⟨w.heap.size, 0, none⟩ = some (.int .i64 0) := B0.out.cell 0; have y1 : w3.cell? ⟨w.heap.size, 1, none⟩ = some (.int .i64 0) := B0.out.cell 1; have y2 : w3.cell? ⟨w.heap.size, 2, none⟩ = some (.int .i64 0) := B0.out.cell 2; have y3 : w3.cell? ⟨w.heap.size, 3, none⟩ = some (.slice none 0 0) := B0.out.cell 3; have f2 := B2.out.frozen 2; have z0 := B0.out.frozen 0; have z1 := B0.out.frozen 1; have z2 := B0.out.frozen 2; have z3 := B0.out.frozen 3; clear hb3 T2))
  obtain ⟨B4, L4⟩ := B0.out.four (.int .i64 0) (.int .i64 0) (.int .i64 0) (.slice none 0 0)
  have e0 := B4.cell 0
  have e1 := B4.cell 1
  have e2 := B4.cell 2
  have e3 := B4.cell 3
  simp only [List.getElem?_toArray, List.getElem?_cons_zero, List.getElem?_cons_succ] at e0 e1 e2 e3
  refine bodyPost_ret (v := .tuple #[.agg #[.int .i64 0, .int .i64 0, .int .i64 0, .slice none 0 0], .int .i64 0, .int .i64 2]) (by simp [results, go_sem, e0, e1, e2, e3]) rfl ?_
  exact ⟨rfl, H3.out.trans L4⟩

set_option maxHeartbeats 8000000 in
set_option maxRecDepth 100000 in
theorem part_none2_1ne (a : Option Addr) (cap : Nat) (zs : List Int) (hlen : zs.length ≤ 100000) (hcap : zs.length ≤ cap) (hcm : cap ≤ 9223372036854775807) (hb : ∀ x ∈ zs, 0 ≤ x ∧ x ≤ 255) (w : World) (hr : Rd .u8 w.heap.size w a zs) (q : Num) (qs : List Num) (hs : scan 0 0 zs = q :: qs) (hm : q.n % 4 = 1) (hs2 : scan 0 0 (zs.drop q.k) = []) (hc : ¬ cap = q.k) :
    Calls Tryd.prog 40 #[.slice a zs.length cap] w (NoPart w) := by
  have hres : takeS zs = ((q.n : Int), (q.k : Int), 0) := by unfold takeS; rw [hs]
  have hres2 : takeS (zs.drop q.k) = (0, 0, 2) := by unfold takeS; rw [hs2]
  have htk := take_len cap zs rfl (by omega) hb (w := w.alloc (.cells #[.int .i64 0, .int .i64 0, .int .i64 0, .slice none 0 0] 84)) ((hr.below ((Below.refl _ w).alloc (Nat.le_refl _) _)).mono (by simp)) hres
  obtain ⟨hq0, hql, _, _⟩ := scan_first0 hb hs
  have hb2 : ∀ x ∈ zs.drop q.k, 0 ≤ x ∧ x ≤ 255 := fun x hx => hb x (List.mem_of_mem_drop hx)
  have hne : ¬ cap = q.k := hc
  obtain ⟨b, off, rfl, hbb, _⟩ := hr (by omega)
  have hqn := q.hn
  have hmod : (q.n : Int) % 4 = 1 := by omega
  have HRr := Lib.hid hr
  have htk2 : ∀ W, Below w.heap.size w W → Calls Tryd.prog 64 #[.slice (some ⟨b, off + q.k, none⟩) (zs.length - q.k) (cap - q.k)] W fun e w' => e = .returned (.tuple #[.int .u64 0, .int .i64 0, .int .i64 2]) ∧ Below W.heap.size W w' := fun W hW =>
    take_len (cap - q.k) (zs.drop q.k) (List.length_drop ..) (by omega) hb2 (((HRr.out.drop q.k).below hW).mono hW.size) hres2
  have HT2 := Lib.hid htk2
  have T1 : True := trivial
  have T2 : True := trivial
  clear hres hres2 hs hs2 hm hr htk2
  go_enter Tryd.func40, Tryd.ntmps40
  go_wp2_with (first
    | (go_at_call 64; have _t1 := T1; (with_reducible refine htk.mono ?_); rintro e w1 ⟨rfl, hb1⟩; have BX := Lib.hid (Box.below (heap_alloc_new w (.cells #[.int .i64 0, .int .i64 0, .int .i64 0, .slice none 0 0] 84)) hb1 (by simp)); have H1 := Lib.hid (((Below.refl w.heap.size w).alloc (Nat.le_refl _) (.cells #[.int .i64 0, .int .i64 0, .int .i64 0, .slice none 0 0] 84)).trans (hb1.mono (by simp))); have hlt := BX.out.lt; clear hb1 T1)
    | (go_at_call 64; have _t2 := T2; (with_reducible refine (HT2.out _ (H1.out.alloc H1.out.size _)).mono ?_); rintro e w3 ⟨rfl, hb3⟩; have B2 := Lib.hid (Box.below (heap_alloc_new w1 (.cells #[.int .i64 2, .int .i64 ((q.n : Int) / 4), .int .i64 0, .slice none 0 0] 84)) hb3 (by simp)); have B0 := Lib.hid (Box.below (BX.out.alloc (.cells #[.int .i64 2, .int .i64 ((q.n : Int) / 4), .int .i64 0, .slice none 0 0] 84)) hb3 (by simp; omega)); have H3 := Lib.hid ((H1.out.alloc H1.out.size (.cells #[.int .i64 2, .int .i64 ((q.n : Int) / 4), .int .i64 0, .slice none 0 0] 84)).trans (hb3.mono (by have := H1.out.size; simp; omega))); have S3 := Lib.hid (Nat.lt_of_lt_of_le (show w1.heap.size < (w1.alloc (.cells #[.int .i64 2, .int .i64 ((q.n : Int) / 4), .int .i64 0, .slice none 0 0] 84)).heap.size by simp) hb3.size); have x0 : w3.cell? ⟨w1.heap.size, 0, none⟩ = some (.int .i64 2) := B2.out.cell 0; have x1 : w3.cell? ⟨w1.heap.size, 1, none⟩ = some (.int .i64 ((q.n : Int) / 4)) := B2.out.cell 1; have x2 : w3.cell? ⟨w1.heap.size, 2, none⟩ = some (.int .i64 0) := B2.out.cell 2; have x3 : w3.cell? ⟨w1.heap.size, 3, none⟩ = some (.slice none 0 0) := B2.out.cell 3; have y0 : w3.cell? ⟨w.heap.size, 0, none⟩ = some (.int .i64 0) := B0.out.cell 0; have y1 : w3.cell? ⟨w.heap.size, 1, none⟩ = some (.int .i64 0) := B0.out.cell 1; have y2 : w3.cell? ⟨w.heap.size, 2, none⟩ = some (.int .i64 0) := B0.out.cell 2; have y3 : w3.cell? ⟨w.heap.size, 3, none⟩ = some (.slice none 0 0) := B0.out.cell 3; have f2 := B2.out.frozen 2; have z0 := B0.out.frozen 0; have z1 := B0.out.frozen 1; have z2 := B0.out.frozen 2; have z3 := B0.out.frozen 3; clear hb3 T2))
  obtain ⟨B4, L4⟩ := B0.out.four (.int .i64 0) (.int .i64 0) (.int .i64 0) (.slice none 0 0)
  have e0 := B4.cell 0
  have e1 := B4.cell 1
  have e2 := B4.cell 2
  have e3 := B4.cell 3
  simp only [List.getElem?_toArray, List.getElem?_cons_zero, List.getElem?_cons_succ] at e0 e1 e2 e3
  refine bodyPost_ret (v := .tuple #[.agg #[.int .i64 0, .int .i64 0, .int .i64 0, .slice none 0 0], .int .i64 0, .int .i64 2]) (by simp [results, go_sem, e0, e1, e2, e3]) rfl ?_
  exact ⟨rfl, H3.out.trans L4⟩

set_option maxHeartbeats 8000000 in
set_option maxRecDepth 100000 in
theorem part_long (a : Option Addr) (cap : Nat) (zs : List Int) (hlen : zs.length ≤ 100000) (hcap : zs.length ≤ cap) (hcm : cap ≤ 9223372036854775807) (hb : ∀ x ∈ zs, 0 ≤ x ∧ x ≤ 255) (w : World) (hr : Rd .u8 w.heap.size w a zs) (q : Num) (qs : List Num) (hs : scan 0 0 zs = q :: qs) (hm : q.n % 4 = 1) (p : Num) (ps : List Num) (hs2 : scan 0 0 (zs.drop q.k) = p :: ps) (hlong : zs.length - q.k - p.k < p.n) :
    Calls Tryd.prog 40 #[.slice a zs.length cap] w (NoPart w) := by
  have hres : takeS zs = ((q.n : Int), (q.k : Int), 0) := by unfold takeS; rw [hs]
  have hres2 : takeS (zs.drop q.k) = ((p.n : Int), (p.k : Int), 0) := by unfold takeS; rw [hs2]
  have htk := take_len cap zs rfl (by omega) hb (w := w.alloc (.cells #[.int .i64 0, .int .i64 0, .int .i64 0, .slice none 0 0] 84)) ((hr.below ((Below.refl _ w).alloc (Nat.le_refl _) _)).mono (by simp)) hres
  obtain ⟨hq0, hql, _, _⟩ := scan_first0 hb hs
  have hb2 : ∀ x ∈ zs.drop q.k, 0 ≤ x ∧ x ≤ 255 := fun x hx => hb x (List.mem_of_mem_drop hx)
  obtain ⟨hp0, hpl, _, _⟩ := scan_first0 hb2 hs2
  rw [List.length_drop] at hpl
  have hpn := p.hn
  have hne : ¬ cap = q.k := by omega
  obtain ⟨b, off, rfl, hbb, _⟩ := hr (by omega)
  have hqn := q.hn
  have hmod : (q.n : Int) % 4 = 1 := by omega
  have HRr := Lib.hid hr
  have htk2 : ∀ W, Below w.heap.size w W → Calls Tryd.prog 64 #[.slice (some ⟨b, off + q.k, none⟩) (zs.length - q.k) (cap - q.k)] W fun e w' => e = .returned (.tuple #[.int .u64 p.n, .int .i64 p.k, .int .i64 0]) ∧ Below W.heap.size W w' := fun W hW =>
    take_len (cap - q.k) (zs.drop q.k) (List.length_drop ..) (by omega) hb2 (((HRr.out.drop q.k).below hW).mono hW.size) hres2
  have HT2 := Lib.hid htk2
  have T1 : True := trivial
  have T2 : True := trivial
  clear hres hres2 hs hs2 hm hr htk2
  go_enter Tryd.func40, Tryd.ntmps40
  go_wp2_with (first
    | (go_at_call 64; have _t1 := T1; (with_reducible refine htk.mono ?_); rintro e w1 ⟨rfl, hb1⟩; have BX := Lib.hid (Box.below (heap_alloc_new w (.cells #[.int .i64 0, .int .i64 0, .int .i64 0, .slice none 0 0] 84)) hb1 (by simp)); have H1 := Lib.hid (((Below.refl w.heap.size w).alloc (Nat.le_refl _) (.cells #[.int .i64 0, .int .i64 0, .int .i64 0, .slice none 0 0] 84)).trans (hb1.mono (by simp))); have hlt := BX.out.lt; clear hb1 T1)
    | (go_at_call 64; have _t2 := T2; (with_reducible refine (HT2.out _ (H1.out.alloc H1.out.size _)).mono ?_); rintro e w3 ⟨rfl, hb3⟩; have B2 := Lib.hid (Box.below (heap_alloc_new w1 (.cells #[.int .i64 2, .int .i64 ((q.n : Int) / 4), .int .i64 0, .slice none 0 0] 84)) hb3 (by simp)); have B0 := Lib.hid (Box.below (BX.out.alloc (.cells #[.int .i64 2, .int .i64 ((q.n : Int) / 4), .int .i64 0, .slice none 0 0] 84)) hb3 (by simp; omega)); have H3 := Lib.hid ((H1.out.alloc H1.out.size (.cells #[.int .i64 2, .int .i64 ((q.n : Int) / 4), .int .i64 0, .slice none 0 0] 84)).trans (hb3.mono (by have := H1.out.size; simp; omega))); have S3 := Lib.hid (Nat.lt_of_lt_of_le (show w1.heap.size < (w1.alloc (.cells #[.int .i64 2, .int .i64 ((q.n : Int) / 4), .int .i64 0, .slice none 0 0] 84)).heap.size by simp) hb3.size); have x0 : w3.cell? ⟨w1.heap.size, 0, none⟩ = some (.int .i64 2) := B2.out.cell 0; have x1 : w3.cell? ⟨w1.heap.size, 1, none⟩ = some (.int .i64 ((q.n : Int) / 4)) := B2.out.cell 1; have x2 : w3.cell? ⟨w1.heap.size, 2, none⟩ = some (.int .i64 0) := B2.out.cell 2; have x3 : w3.cell? ⟨w1.heap.size, 3, none⟩ = some (.slice none 0 0) := B2.out.cell 3; have y0 : w3.cell? ⟨w.heap.size, 0, none⟩ = some (.int .i64 0) := B0.out.cell 0; have y1 : w3.cell? ⟨w.heap.size, 1, none⟩ = some (.int .i64 0) := B0.out.cell 1; have y2 : w3.cell? ⟨w.heap.size, 2, none⟩ = some (.int .i64 0) := B0.out.cell 2; have y3 : w3.cell? ⟨w.heap.size, 3, none⟩ = some (.slice none 0 0) := B0.out.cell 3; have f2 := B2.out.frozen 2; have z0 := B0.out.frozen 0; have z1 := B0.out.frozen 1; have z2 := B0.out.frozen 2; have z3 := B0.out.frozen 3; clear hb3 T2))
  obtain ⟨B4, L4⟩ := B0.out.four (.int .i64 0) (.int .i64 0) (.int .i64 0) (.slice none 0 0)
  have e0 := B4.cell 0
  have e1 := B4.cell 1
  have e2 := B4.cell 2
  have e3 := B4.cell 3
  simp only [List.getElem?_toArray, List.getElem?_cons_zero, List.getElem?_cons_succ] at e0 e1 e2 e3
  refine bodyPost_ret (v := .tuple #[.agg #[.int .i64 0, .int .i64 0, .int .i64 0, .slice none 0 0], .int .i64 0, .int .i64 2]) (by simp [results, go_sem, e0, e1, e2, e3]) rfl ?_
  exact ⟨rfl, H3.out.trans L4⟩

set_option maxHeartbeats 8000000 in
set_option maxRecDepth 100000 in
theorem part_bytes_eq (a : Option Addr) (cap : Nat) (zs : List Int) (hlen : zs.length ≤ 100000) (hcap : zs.length ≤ cap) (hcm : cap ≤ 9223372036854775807) (hb : ∀ x ∈ zs, 0 ≤ x ∧ x ≤ 255) (w : World) (hr : Rd .u8 w.heap.size w a zs) (q : Num) (qs : List Num) (hs : scan 0 0 zs = q :: qs) (hm : q.n % 4 = 1) (p : Num) (ps : List Num) (hs2 : scan 0 0 (zs.drop q.k) = p :: ps) (hfit : p.n ≤ zs.length - q.k - p.k) (bs : List Int) (hbs : ((zs.drop q.k).drop p.k).take p.n = bs) (hc : cap = q.k + p.k) :
    Calls Tryd.prog 40 #[.slice a zs.length cap] w (APart ⟨2, (q.n / 4 : Nat), 0, bs⟩ (q.k + p.k + p.n) w) := by
  have hres : takeS zs = ((q.n : Int), (q.k : Int), 0) := by unfold takeS; rw [hs]
  have hres2 : takeS (zs.drop q.k) = ((p.n : Int), (p.k : Int), 0) := by unfold takeS; rw [hs2]
  have htk := take_len cap zs rfl (by omega) hb (w := w.alloc (.cells #[.int .i64 0, .int .i64 0, .int .i64 0, .slice none 0 0] 84)) ((hr.below ((Below.refl _ w).alloc (Nat.le_refl _) _)).mono (by simp)) hres
  obtain ⟨hq0, hql, _, _⟩ := scan_first0 hb hs
  have hb2 : ∀ x ∈ zs.drop q.k, 0 ≤ x ∧ x ≤ 255 := fun x hx => hb x (List.mem_of_mem_drop hx)
  obtain ⟨hp0, hpl, _, _⟩ := scan_first0 hb2 hs2
  rw [List.length_drop] at hpl
  have hpn := p.hn
  obtain rfl : cap = q.k + p.k := hc
  have hne : ¬ q.k + p.k = q.k := by omega
  obtain ⟨b, off, rfl, hbb, _⟩ := hr (by omega)
  have hqn := q.hn
  have hmod : (q.n : Int) % 4 = 1 := by omega
  have HRr := Lib.hid hr
  have hbl : bs.length = p.n := by rw [← hbs, List.length_take, List.length_drop, List.length_drop]; omega
  have RD0 : Rd .u8 w.heap.size w (some ⟨b, off, none⟩) bs := fun hp => by omega
  have RD := Lib.hid RD0
  have hcp : ∀ (W : World) (n c n₀ : Nat) (_ : n₀ ≤ W.heap.size) (_ : n = p.n) (_ : Rd .u8 n₀ W (some ⟨b, off, none⟩) bs), Calls Tryd.prog 66 #[.slice (some ⟨b, off, none⟩) n c] W (Copied bs W) := fun W n c n₀ h0 h1 h2 => copy_any (by omega) (by omega) h2
  have HCP := Lib.hid hcp
  have HBL := Lib.hid hbl
  clear RD0 hcp hbs hbl
  have htk2 : ∀ W, Below w.heap.size w W → Calls Tryd.prog 64 #[.slice (some ⟨b, off + q.k, none⟩) (zs.length - q.k) p.k] W fun e w' => e = .returned (.tuple #[.int .u64 p.n, .int .i64 p.k, .int .i64 0]) ∧ Below W.heap.size W w' := fun W hW =>
    take_len p.k (zs.drop q.k) (List.length_drop ..) (by omega) hb2 (((HRr.out.drop q.k).below hW).mono hW.size) hres2
  have HT2 := Lib.hid htk2
  have T1 : True := trivial
  have T2 : True := trivial
  clear hres hres2 hs hs2 hm hr htk2
  go_enter Tryd.func40, Tryd.ntmps40
  go_wp2_with (first
    | (go_at_call 64; have _t1 := T1; (with_reducible refine htk.mono ?_); rintro e w1 ⟨rfl, hb1⟩; have BX := Lib.hid (Box.below (heap_alloc_new w (.cells #[.int .i64 0, .int .i64 0, .int .i64 0, .slice none 0 0] 84)) hb1 (by simp)); have H1 := Lib.hid (((Below.refl w.heap.size w).alloc (Nat.le_refl _) (.cells #[.int .i64 0, .int .i64 0, .int .i64 0, .slice none 0 0] 84)).trans (hb1.mono (by simp))); have hlt := BX.out.lt; clear hb1 T1)
    | (go_at_call 64; have _t2 := T2; (with_reducible refine (HT2.out _ (H1.out.alloc H1.out.size _)).mono ?_); rintro e w3 ⟨rfl, hb3⟩; have B2 := Lib.hid (Box.below (heap_alloc_new w1 (.cells #[.int .i64 2, .int .i64 ((q.n : Int) / 4), .int .i64 0, .slice none 0 0] 84)) hb3 (by simp)); have B0 := Lib.hid (Box.below (BX.out.alloc (.cells #[.int .i64 2, .int .i64 ((q.n : Int) / 4), .int .i64 0, .slice none 0 0] 84)) hb3 (by simp; omega)); have H3 := Lib.hid ((H1.out.alloc H1.out.size (.cells #[.int .i64 2, .int .i64 ((q.n : Int) / 4), .int .i64 0, .slice none 0 0] 84)).trans (hb3.mono (by have := H1.out.size; simp; omega))); have S3 := Lib.hid (Nat.lt_of_lt_of_le (show w1.heap.size < (w1.alloc (.cells #[.int .i64 2, .int .i64 ((q.n : Int) / 4), .int .i64 0, .slice none 0 0] 84)).heap.size by simp) hb3.size); have x0 : w3.cell? ⟨w1.heap.size, 0, none⟩ = some (.int .i64 2) := B2.out.cell 0; have x1 : w3.cell? ⟨w1.heap.size, 1, none⟩ = some (.int .i64 ((q.n : Int) / 4)) := B2.out.cell 1; have x2 : w3.cell? ⟨w1.heap.size, 2, none⟩ = some (.int .i64 0) := B2.out.cell 2; have x3 : w3.cell? ⟨w1.heap.size, 3, none⟩ = some (.slice none 0 0) := B2.out.cell 3; have y0 : w3.cell? ⟨w.heap.size, 0, none⟩ = some (.int .i64 0) := B0.out.cell 0; have y1 : w3.cell? ⟨w.heap.size, 1, none⟩ = some (.int .i64 0) := B0.out.cell 1; have y2 : w3.cell? ⟨w.heap.size, 2, none⟩ = some (.int .i64 0) := B0.out.cell 2; have y3 : w3.cell? ⟨w.heap.size, 3, none⟩ = some (.slice none 0 0) := B0.out.cell 3; have f2 := B2.out.frozen 2; have z0 := B0.out.frozen 0; have z1 := B0.out.frozen 1; have z2 := B0.out.frozen 2; have z3 := B0.out.frozen 3; clear hb3 T2)
    | (go_at_call 66; (with_reducible refine (HCP.out _ _ _ _ (Below.size H3.out) (by omega) (RD.out.below H3.out)).mono ?_); rintro e w4 ⟨V, vc, rfl, ho, hb4⟩; have B4' := Lib.hid (Box.below B2.out hb4 S3.out); have B0' := Lib.hid (Box.below B0.out hb4 B0.out.lt); clear x0 x1 x2 x3 y0 y1 y2 y3 f2 z0 z1 z2 z3; have x0 : w4.cell? ⟨w1.heap.size, 0, none⟩ = some (.int .i64 2) := B4'.out.cell 0; have x1 : w4.cell? ⟨w1.heap.size, 1, none⟩ = some (.int .i64 ((q.n : Int) / 4)) := B4'.out.cell 1; have x2 : w4.cell? ⟨w1.heap.size, 2, none⟩ = some (.int .i64 0) := B4'.out.cell 2; have x3 : w4.cell? ⟨w1.heap.size, 3, none⟩ = some (.slice none 0 0) := B4'.out.cell 3; have y0 : w4.cell? ⟨w.heap.size, 0, none⟩ = some (.int .i64 0) := B0'.out.cell 0; have y1 : w4.cell? ⟨w.heap.size, 1, none⟩ = some (.int .i64 0) := B0'.out.cell 1; have y2 : w4.cell? ⟨w.heap.size, 2, none⟩ = some (.int .i64 0) := B0'.out.cell 2; have y3 : w4.cell? ⟨w.heap.size, 3, none⟩ = some (.slice none 0 0) := B0'.out.cell 3; have f3 := B4'.out.frozen 3; have z0 := B0'.out.frozen 0; have z1 := B0'.out.frozen 1; have z2 := B0'.out.frozen 2; have z3 := B0'.out.frozen 3; have O4 := Lib.hid ho; have H4 := Lib.hid (H3.out.trans (hb4.mono H3.out.size)); clear ho hb4))
  obtain ⟨B4, L4⟩ := (B0'.out.far (B' := w1.heap.size) (by omega) 3 (.slice V bs.length vc)).four (.int .i64 2) (.int .i64 ((q.n : Int) / 4)) (.int .i64 0) (.slice V bs.length vc)
  have e0 := B4.cell 0
  have e1 := B4.cell 1
  have e2 := B4.cell 2
  have e3 := B4.cell 3
  simp only [List.getElem?_toArray, List.getElem?_cons_zero, List.getElem?_cons_succ] at e0 e1 e2 e3
  refine bodyPost_ret (v := .tuple #[.agg #[.int .i64 2, .int .i64 ((q.n : Int) / 4), .int .i64 0, .slice V bs.length vc], .int .i64 ((q.k : Int) + p.k + p.n), .int .i64 0]) (by simp [results, go_sem, e0, e1, e2, e3]) rfl ?_
  have s3 : w1.heap.size < w3.heap.size := S3.out
  have s1 : w.heap.size ≤ w1.heap.size := H1.out.size
  exact ⟨V, vc, by rw [Int.natCast_add, Int.natCast_add]; rfl, own_mono (own_far (own_far (own_far (own_far (own_far O4.out s3 _) (by omega) _) (by omega) _) (by omega) _) (by omega) _) (by omega), (H4.out.setCell (by simp; omega) _).trans L4⟩

set_option maxHeartbeats 8000000 in
set_option maxRecDepth 100000 in
theorem part_bytes_ne (a : Option Addr) (cap : Nat) (zs : List Int) (hlen : zs.length ≤ 100000) (hcap : zs.length ≤ cap) (hcm : cap ≤ 9223372036854775807) (hb : ∀ x ∈ zs, 0 ≤ x ∧ x ≤ 255) (w : World) (hr : Rd .u8 w.heap.size w a zs) (q : Num) (qs : List Num) (hs : scan 0 0 zs = q :: qs) (hm : q.n % 4 = 1) (p : Num) (ps : List Num) (hs2 : scan 0 0 (zs.drop q.k) = p :: ps) (hfit : p.n ≤ zs.length - q.k - p.k) (bs : List Int) (hbs : ((zs.drop q.k).drop p.k).take p.n = bs) (hc : ¬ cap = q.k + p.k) :
    Calls Tryd.prog 40 #[.slice a zs.length cap] w (APart ⟨2, (q.n / 4 : Nat), 0, bs⟩ (q.k + p.k + p.n) w) := by
  have hres : takeS zs = ((q.n : Int), (q.k : Int), 0) := by unfold takeS; rw [hs]
  have hres2 : takeS (zs.drop q.k) = ((p.n : Int), (p.k : Int), 0) := by unfold takeS; rw [hs2]
  have htk := take_len cap zs rfl (by omega) hb (w := w.alloc (.cells #[.int .i64 0, .int .i64 0, .int .i64 0, .slice none 0 0] 84)) ((hr.below ((Below.refl _ w).alloc (Nat.le_refl _) _)).mono (by simp)) hres
  obtain ⟨hq0, hql, _, _⟩ := scan_first0 hb hs
  have hb2 : ∀ x ∈ zs.drop q.k, 0 ≤ x ∧ x ≤ 255 := fun x hx => hb x (List.mem_of_mem_drop hx)
  obtain ⟨hp0, hpl, _, _⟩ := scan_first0 hb2 hs2
  rw [List.length_drop] at hpl
  have hpn := p.hn
  have hne : ¬ cap = q.k := by omega
  obtain ⟨b, off, rfl, hbb, _⟩ := hr (by omega)
  have hqn := q.hn
  have hmod : (q.n : Int) % 4 = 1 := by omega
  have HRr := Lib.hid hr
  have hbl : bs.length = p.n := by rw [← hbs, List.length_take, List.length_drop, List.length_drop]; omega
  have RD0 : Rd .u8 w.heap.size w (some ⟨b, off + (q.k + p.k), none⟩) bs := by
    have h := ((HRr.out.drop q.k).drop p.k).take p.n
    rwa [hbs, Nat.add_assoc] at h
  have RD := Lib.hid RD0
  have hcp : ∀ (W : World) (n c n₀ : Nat) (_ : n₀ ≤ W.heap.size) (_ : n = p.n) (_ : Rd .u8 n₀ W (some ⟨b, off + (q.k + p.k), none⟩) bs), Calls Tryd.prog 66 #[.slice (some ⟨b, off + (q.k + p.k), none⟩) n c] W (Copied bs W) := fun W n c n₀ h0 h1 h2 => copy_any (by omega) (by omega) h2
  have HCP := Lib.hid hcp
  have HBL := Lib.hid hbl
  clear RD0 hcp hbs hbl
  have htk2 : ∀ W, Below w.heap.size w W → Calls Tryd.prog 64 #[.slice (some ⟨b, off + q.k, none⟩) (zs.length - q.k) (cap - q.k)] W fun e w' => e = .returned (.tuple #[.int .u64 p.n, .int .i64 p.k, .int .i64 0]) ∧ Below W.heap.size W w' := fun W hW =>
    take_len (cap - q.k) (zs.drop q.k) (List.length_drop ..) (by omega) hb2 (((HRr.out.drop q.k).below hW).mono hW.size) hres2
  have HT2 := Lib.hid htk2
  have T1 : True := trivial
  have T2 : True := trivial
  clear hres hres2 hs hs2 hm hr htk2
  go_enter Tryd.func40, Tryd.ntmps40
  go_wp2_with (first
    | (go_at_call 64; have _t1 := T1; (with_reducible refine htk.mono ?_); rintro e w1 ⟨rfl, hb1⟩; have BX := Lib.hid (Box.below (heap_alloc_new w (.cells #[.int .i64 0, .int .i64 0, .int .i64 0, .slice none 0 0] 84)) hb1 (by simp)); have H1 := Lib.hid (((Below.refl w.heap.size w).alloc (Nat.le_refl _) (.cells #[.int .i64 0, .int .i64 0, .int .i64 0, .slice none 0 0] 84)).trans (hb1.mono (by simp))); have hlt := BX.out.lt; clear hb1 T1)
    | (go_at_call 64; have _t2 := T2; (with_reducible refine (HT2.out _ (H1.out.alloc H1.out.size _)).mono ?_); rintro e w3 ⟨rfl, hb3⟩; have B2 := Lib.hid (Box.below (heap_alloc_new w1 (.cells #[.int .i64 2, .int .i64 ((q.n : Int) / 4), .int .i64 0, .slice none 0 0] 84)) hb3 (by simp)); have B0 := Lib.hid (Box.below (BX.out.alloc (.cells #[.int .i64 2, .int .i64 ((q.n : Int) / 4), .int .i64 0, .slice none 0 0] 84)) hb3 (by simp; omega)); have H3 := Lib.hid ((H1.out.alloc H1.out.size (.cells #[.int .i64 2, .int .i64 ((q.n : Int) / 4), .int .i64 0, .slice none 0 0] 84)).trans (hb3.mono (by have := H1.out.size; simp; omega))); have S3 := Lib.hid (Nat.lt_of_lt_of_le (show w1.heap.size < (w1.alloc (.cells #[.int .i64 2, .int .i64 ((q.n : Int) / 4), .int .i64 0, .slice none 0 0] 84)).heap.size by simp) hb3.size); have x0 : w3.cell? ⟨w1.heap.size, 0, none⟩ = some (.int .i64 2) := B2.out.cell 0; have x1 : w3.cell? ⟨w1.heap.size, 1, none⟩ = some (.int .i64 ((q.n : Int) / 4)) := B2.out.cell 1; have x2 : w3.cell? ⟨w1.heap.size, 2, none⟩ = some (.int .i64 0) := B2.out.cell 2; have x3 : w3.cell? ⟨w1.heap.size, 3, none⟩ = some (.slice none 0 0) := B2.out.cell 3; have y0 : w3.cell? ⟨w.heap.size, 0, none⟩ = some (.int .i64 0) := B0.out.cell 0; have y1 : w3.cell? ⟨w.heap.size, 1, none⟩ = some (.int .i64 0) := B0.out.cell 1; have y2 : w3.cell? ⟨w.heap.size, 2, none⟩ = some (.int .i64 0) := B0.out.cell 2; have y3 : w3.cell? ⟨w.heap.size, 3, none⟩ = some (.slice none 0 0) := B0.out.cell 3; have f2 := B2.out.frozen 2; have z0 := B0.out.frozen 0; have z1 := B0.out.frozen 1; have z2 := B0.out.frozen 2; have z3 := B0.out.frozen 3; clear hb3 T2)
    | (go_at_call 66; (with_reducible refine (HCP.out _ _ _ _ (Below.size H3.out) (by omega) (RD.out.below H3.out)).mono ?_); rintro e w4 ⟨V, vc, rfl, ho, hb4⟩; have B4' := Lib.hid (Box.below B2.out hb4 S3.out); have B0' := Lib.hid (Box.below B0.out hb4 B0.out.lt); clear x0 x1 x2 x3 y0 y1 y2 y3 f2 z0 z1 z2 z3; have x0 : w4.cell? ⟨w1.heap.size, 0, none⟩ = some (.int .i64 2) := B4'.out.cell 0; have x1 : w4.cell? ⟨w1.heap.size, 1, none⟩ = some (.int .i64 ((q.n : Int) / 4)) := B4'.out.cell 1; have x2 : w4.cell? ⟨w1.heap.size, 2, none⟩ = some (.int .i64 0) := B4'.out.cell 2; have x3 : w4.cell? ⟨w1.heap.size, 3, none⟩ = some (.slice none 0 0) := B4'.out.cell 3; have y0 : w4.cell? ⟨w.heap.size, 0, none⟩ = some (.int .i64 0) := B0'.out.cell 0; have y1 : w4.cell? ⟨w.heap.size, 1, none⟩ = some (.int .i64 0) := B0'.out.cell 1; have y2 : w4.cell? ⟨w.heap.size, 2, none⟩ = some (.int .i64 0) := B0'.out.cell 2; have y3 : w4.cell? ⟨w.heap.size, 3, none⟩ = some (.slice none 0 0) := B0'.out.cell 3; have f3 := B4'.out.frozen 3; have z0 := B0'.out.frozen 0; have z1 := B0'.out.frozen 1; have z2 := B0'.out.frozen 2; have z3 := B0'.out.frozen 3; have O4 := Lib.hid ho; have H4 := Lib.hid (H3.out.trans (hb4.mono H3.out.size)); clear ho hb4))
  obtain ⟨B4, L4⟩ := (B0'.out.far (B' := w1.heap.size) (by omega) 3 (.slice V bs.length vc)).four (.int .i64 2) (.int .i64 ((q.n : Int) / 4)) (.int .i64 0) (.slice V bs.length vc)
  have e0 := B4.cell 0
  have e1 := B4.cell 1
  have e2 := B4.cell 2
  have e3 := B4.cell 3
  simp only [List.getElem?_toArray, List.getElem?_cons_zero, List.getElem?_cons_succ] at e0 e1 e2 e3
  refine bodyPost_ret (v := .tuple #[.agg #[.int .i64 2, .int .i64 ((q.n : Int) / 4), .int .i64 0, .slice V bs.length vc], .int .i64 ((q.k : Int) + p.k + p.n), .int .i64 0]) (by simp [results, go_sem, e0, e1, e2, e3]) rfl ?_
  have s3 : w1.heap.size < w3.heap.size := S3.out
  have s1 : w.heap.size ≤ w1.heap.size := H1.out.size
  exact ⟨V, vc, by rw [Int.natCast_add, Int.natCast_add]; rfl, own_mono (own_far (own_far (own_far (own_far (own_far O4.out s3 _) (by omega) _) (by omega) _) (by omega) _) (by omega) _) (by omega), (H4.out.setCell (by simp; omega) _).trans L4⟩

/-- The item that some bytes begin with, and how many bytes it has. -/
def partS (zs : List Int) : Option (It × Nat) := match scan 0 0 zs with
  | [] => none
  | q :: _ => if q.n % 4 = 2 ∨ q.n % 4 = 3 then some (⟨((q.n % 4 : Nat) : Int) + 1, (q.n / 4 : Nat), 0, []⟩, q.k)
    else match scan 0 0 (zs.drop q.k) with
      | [] => none
      | p :: _ => if q.n % 4 = 0 then some (⟨1, (q.n / 4 : Nat), zagI p.n, []⟩, q.k + p.k)
        else if zs.length - q.k - p.k < p.n then none
        else some (⟨2, (q.n / 4 : Nat), 0, ((zs.drop q.k).drop p.k).take p.n⟩, q.k + p.k + p.n)
theorem part_some {a : Option Addr} {cap : Nat} {zs : List Int} (hlen : zs.length ≤ 100000) (hcap : zs.length ≤ cap) (hcm : cap ≤ 9223372036854775807) (hb : ∀ x ∈ zs, 0 ≤ x ∧ x ≤ 255) {w : World} (hr : Rd .u8 w.heap.size w a zs) {x : It} {k : Nat} (h : partS zs = some (x, k)) :
    Calls Tryd.prog 40 #[.slice a zs.length cap] w (APart x k w) := by
  unfold partS at h
  rcases hs : scan 0 0 zs with _ | ⟨q, qs⟩
  · rw [hs] at h; cases h
  · rw [hs] at h
    simp only at h
    by_cases hm : q.n % 4 = 2 ∨ q.n % 4 = 3
    · rw [if_pos hm] at h
      injection h with h
      injection h with h1 h2
      subst h1 h2
      exact part_group a cap zs hlen hb w hr q qs hs _ rfl hm
    · rw [if_neg hm] at h
      rcases hs2 : scan 0 0 (zs.drop q.k) with _ | ⟨p, ps⟩
      · rw [hs2] at h; cases h
      · rw [hs2] at h
        simp only at h
        by_cases h0 : q.n % 4 = 0
        · rw [if_pos h0] at h
          injection h with h
          injection h with h1 h2
          subst h1 h2
          exact part_int a cap zs hlen hcap hcm hb w hr q qs hs h0 p ps hs2
        · rw [if_neg h0] at h
          by_cases hl : zs.length - q.k - p.k < p.n
          · rw [if_pos hl] at h; cases h
          · rw [if_neg hl] at h
            injection h with h
            injection h with h1 h2
            subst h1 h2
            by_cases hc : cap = q.k + p.k
            · exact part_bytes_eq a cap zs hlen hcap hcm hb w hr q qs hs (by omega) p ps hs2 (by omega) _ rfl hc
            · exact part_bytes_ne a cap zs hlen hcap hcm hb w hr q qs hs (by omega) p ps hs2 (by omega) _ rfl hc
theorem part_none {a : Option Addr} {cap : Nat} {zs : List Int} (hlen : zs.length ≤ 100000) (hcap : zs.length ≤ cap) (hcm : cap ≤ 9223372036854775807) (hb : ∀ x ∈ zs, 0 ≤ x ∧ x ≤ 255) {w : World} (hr : Rd .u8 w.heap.size w a zs) (h : partS zs = none) :
    Calls Tryd.prog 40 #[.slice a zs.length cap] w (NoPart w) := by
  unfold partS at h
  rcases hs : scan 0 0 zs with _ | ⟨q, qs⟩
  · exact part_none1 a cap zs hlen hb w hr hs
  · rw [hs] at h
    simp only at h
    by_cases hm : q.n % 4 = 2 ∨ q.n % 4 = 3
    · rw [if_pos hm] at h; cases h
    · rw [if_neg hm] at h
      rcases hs2 : scan 0 0 (zs.drop q.k) with _ | ⟨p, ps⟩
      · by_cases h0 : q.n % 4 = 0
        · by_cases hc : cap = q.k
          · exact part_none2_0eq a cap zs hlen hcap hcm hb w hr q qs hs h0 hs2 hc
          · exact part_none2_0ne a cap zs hlen hcap hcm hb w hr q qs hs h0 hs2 hc
        · by_cases hc : cap = q.k
          · exact part_none2_1eq a cap zs hlen hcap hcm hb w hr q qs hs (by omega) hs2 hc
          · exact part_none2_1ne a cap zs hlen hcap hcm hb w hr q qs hs (by omega) hs2 hc
      · rw [hs2] at h
        simp only at h
        by_cases h0 : q.n % 4 = 0
        · rw [if_pos h0] at h; cases h
        · rw [if_neg h0] at h
          by_cases hl : zs.length - q.k - p.k < p.n
          · exact part_long a cap zs hlen hcap hcm hb w hr q qs hs (by omega) p ps hs2 hl
          · rw [if_neg hl] at h; cases h
end Go.Proofs.YthdlcpnmldhllaaDoor

/-
  PLAIN MATHEMATICS: the items of some bytes, one behind the other; they are inverse to the bytes of a record.
-/
namespace Go.Proofs.YthdlcpnmldhllaaDoor

theorem part_props {zs : List Int} (hb : ∀ x ∈ zs, 0 ≤ x ∧ x ≤ 255) {x : It} {k : Nat} (h : partS zs = some (x, k)) :
    0 < k ∧ k ≤ zs.length ∧ x.ok ∧ x.bs.length ≤ zs.length ∧ itemL x = zs.take k := by
  unfold partS at h
  rcases hs : scan 0 0 zs with _ | ⟨q, qs⟩
  · rw [hs] at h; cases h
  · rw [hs] at h
    simp only at h
    obtain ⟨q0, q1, q2, q3⟩ := scan_first0 hb hs
    have hqn := q.hn
    have wfi : ∀ n : Int, -9223372036854775808 ≤ n → n ≤ 9223372036854775807 → (Lit.int .i64 n).wf = true := fun n h0 h1 => by
      simp [Lit.wf, IntKind.min, IntKind.max, IntKind.signed, IntKind.bits]; omega
    have wfb : ∀ n : Int, 0 ≤ n ∧ n ≤ 255 → (Lit.int .u8 n).wf = true := fun n h => by
      simp [Lit.wf, IntKind.min, IntKind.max, IntKind.signed, IntKind.bits]; omega
    by_cases hm : q.n % 4 = 2 ∨ q.n % 4 = 3
    · rw [if_pos hm] at h
      injection h with h
      injection h with h1 h2
      subst h1 h2
      refine ⟨q0, q1, ⟨wfi _ (by simp only; omega) (by simp only; omega), wfi _ (by simp only; omega) (by simp only; omega), wfi _ (by simp) (by simp), by simp⟩, by simp, ?_⟩
      unfold itemL
      rw [q2, if_neg (by simp only; omega), if_neg (by simp only; omega), List.append_nil]
      congr 1
      simp only
      omega
    · rw [if_neg hm] at h
      rcases hs2 : scan 0 0 (zs.drop q.k) with _ | ⟨p, ps⟩
      · rw [hs2] at h; cases h
      · rw [hs2] at h
        simp only at h
        have hb2 : ∀ x ∈ zs.drop q.k, 0 ≤ x ∧ x ≤ 255 := fun x hx => hb x (List.mem_of_mem_drop hx)
        obtain ⟨p0, p1, p2, p3⟩ := scan_first0 hb2 hs2
        have hpn := p.hn
        rw [List.length_drop] at p1
        by_cases h0 : q.n % 4 = 0
        · rw [if_pos h0] at h
          injection h with h
          injection h with h1 h2
          subst h1 h2
          have hz := zag_range (u := (p.n : Int)) (by omega) (by omega)
          refine ⟨by omega, by omega, ⟨wfi _ (by simp) (by simp), wfi _ (by simp only; omega) (by simp only; omega), wfi _ hz.1 hz.2, by simp⟩, by simp, ?_⟩
          unfold itemL
          rw [if_pos rfl, List.take_add, q2, p2]
          simp only
          rw [zig_zag (by omega)]
          congr 2
          omega
        · rw [if_neg h0] at h
          by_cases hl : zs.length - q.k - p.k < p.n
          · rw [if_pos hl] at h; cases h
          · rw [if_neg hl] at h
            injection h with h
            injection h with h1 h2
            subst h1 h2
            have hbl : (((zs.drop q.k).drop p.k).take p.n).length = p.n := by rw [List.length_take, List.length_drop, List.length_drop]; omega
            refine ⟨by omega, by omega, ⟨wfi _ (by simp) (by simp), wfi _ (by simp only; omega) (by simp only; omega), wfi _ (by simp) (by simp), ?_⟩, by simp only; omega, ?_⟩
            · intro y hy
              exact wfb y (hb y (List.mem_of_mem_drop (List.mem_of_mem_drop (List.mem_of_mem_take hy))))
            · unfold itemL
              rw [if_neg (by simp), if_pos rfl, List.take_add, List.take_add, q2, p2]
              simp only
              rw [hbl, List.append_assoc, List.drop_drop]
              congr 2
              omega

/-- The items of some bytes. -/
def decS : Nat → List Int → Option (List It)
  | _, [] => some []
  | 0, _ :: _ => none
  | f + 1, z :: zs => match partS (z :: zs) with
    | none => none
    | some (x, k) => (decS f ((z :: zs).drop k)).map (x :: ·)
/-- The record of some bytes. -/
def decB (zs : List Int) : Option (List It) :=
  if 4096 < zs.length then none else match decS zs.length zs with
    | none => none
    | some l => if rightB l = true then some l else none

theorem decS_props : ∀ (f : Nat) (zs : List Int) (l : List It), (∀ x ∈ zs, 0 ≤ x ∧ x ≤ 255) → decS f zs = some l → encL l = zs ∧ (∀ x ∈ l, x.ok ∧ x.bs.length ≤ zs.length) ∧ l.length ≤ zs.length := by
  intro f
  induction f with
  | zero =>
    intro zs l hb h
    cases zs with
    | nil => simp only [decS, Option.some.injEq] at h; subst h; exact ⟨rfl, by simp, Nat.le_refl _⟩
    | cons z zs => cases h
  | succ f ih =>
    intro zs l hb h
    cases zs with
    | nil => simp only [decS, Option.some.injEq] at h; subst h; exact ⟨rfl, by simp, Nat.le_refl _⟩
    | cons z zs =>
      rw [decS] at h
      rcases hp : partS (z :: zs) with _ | ⟨x, k⟩
      · rw [hp] at h; cases h
      · rw [hp] at h
        simp only at h
        obtain ⟨m, hm, rfl⟩ := Option.map_eq_some_iff.1 h
        obtain ⟨k0, k1, k2, k3, k4⟩ := part_props hb hp
        obtain ⟨i1, i2, i3⟩ := ih _ m (fun x hx => hb x (List.mem_of_mem_drop hx)) hm
        rw [List.length_drop] at i2 i3
        refine ⟨?_, ?_, ?_⟩
        · have e : encL (x :: m) = itemL x ++ encL m := by simp [encL]
          rw [e, i1, k4, List.take_append_drop]
        · intro y hy
          rcases List.mem_cons.1 hy with rfl | hy
          · exact ⟨k2, k3⟩
          · have := i2 y hy
            exact ⟨this.1, by omega⟩
        · rw [List.length_cons (a := x)]
          omega

theorem part_item {x : It} (hs : shapeB x = true) (hok : x.ok) (hlen : x.bs.length < 9223372036854775808) (rest : List Int) : partS (itemL x ++ rest) = some (x, (itemL x).length) := by
  have bn := wf_i64 hok.2.2.1
  have hz := zig_range bn.1 bn.2
  obtain ⟨kd, id, n, bs⟩ := x
  simp only at bn hz
  rcases shape_kinds hs with ⟨k, i0, i1, d⟩ | ⟨k, i0, i1, d⟩ | ⟨k, i0, i1, d, d2⟩ | ⟨k, i0, d, d2⟩
  · simp only at k i0 i1 d
    subst k
    obtain rfl := List.eq_nil_of_length_eq_zero d
    have e : itemL ⟨1, id, n, []⟩ = putL (id * 4 + 1 - 1).toNat ++ putL (zigI n).toNat := by unfold itemL; rw [if_pos rfl]
    rw [e]
    unfold partS
    rw [List.append_assoc, scan_put0 (by omega)]
    simp only
    rw [Num.of_n (by omega), Num.of_k (putL_len10 (by omega)), if_neg (by omega), List.drop_left, scan_put0 (by omega)]
    simp only
    rw [if_pos (by omega), Num.of_n (by omega), Num.of_k (putL_len10 (by omega)), List.length_append]
    rw [show ((zigI n).toNat : Int) = zigI n by omega, zag_zig]
    congr 3
    omega
  · simp only at k i0 i1 d hlen
    subst k d
    have e : itemL ⟨2, id, 0, bs⟩ = putL (id * 4 + 2 - 1).toNat ++ (putL bs.length ++ bs) := by unfold itemL; rw [if_neg (by simp), if_pos rfl]
    rw [e]
    unfold partS
    rw [List.append_assoc, scan_put0 (by omega)]
    simp only
    rw [Num.of_n (by omega), Num.of_k (putL_len10 (by omega)), if_neg (by omega), List.drop_left, List.append_assoc, scan_put0 (by omega)]
    simp only
    rw [if_neg (by omega), Num.of_n (by omega), Num.of_k (putL_len10 (by omega)), if_neg (by simp only [List.length_append]; omega), List.drop_left, List.take_left]
    simp only [List.length_append]
    rw [show ((((id * 4 + 2 - 1).toNat / 4 : Nat)) : Int) = id by omega, Nat.add_assoc]
  · simp only at k i0 i1 d d2
    subst k d
    obtain rfl := List.eq_nil_of_length_eq_zero d2
    have e : itemL ⟨3, id, 0, []⟩ = putL (id * 4 + 3 - 1).toNat := by unfold itemL; rw [if_neg (by simp), if_neg (by simp), List.append_nil]
    rw [e]
    unfold partS
    rw [scan_put0 (by omega)]
    simp only
    rw [Num.of_n (by omega), Num.of_k (putL_len10 (by omega)), if_pos (by omega)]
    congr 3 <;> omega
  · simp only at k i0 d d2
    subst k i0 d
    obtain rfl := List.eq_nil_of_length_eq_zero d2
    have e : itemL ⟨4, 0, 0, []⟩ = putL 3 := by unfold itemL; rw [if_neg (by simp), if_neg (by simp), List.append_nil]; rfl
    rw [e]
    unfold partS
    rw [scan_put0 (by omega)]
    simp only
    rw [Num.of_n (by omega), Num.of_k (putL_len10 (by omega)), if_pos (by omega)]
    rfl

theorem itemL_pos (x : It) : 0 < (itemL x).length := by
  unfold itemL
  rw [List.length_append]
  have := putL_pos (x.id * 4 + x.kind - 1).toNat
  omega
theorem dec_enc : ∀ (l : List It), (∀ x ∈ l, shapeB x = true ∧ x.ok ∧ x.bs.length < 9223372036854775808) → ∀ f, (encL l).length ≤ f → decS f (encL l) = some l := by
  intro l
  induction l with
  | nil => intro _ f _; cases f <;> rfl
  | cons x l ih =>
    intro h f hf
    have e : encL (x :: l) = itemL x ++ encL l := by simp [encL]
    have hp := itemL_pos x
    have hx := h x (by simp)
    have hpart := part_item hx.1 hx.2.1 hx.2.2 (encL l)
    rw [e] at hf ⊢
    rw [List.length_append] at hf
    obtain ⟨f, rfl⟩ : ∃ g, f = g + 1 := ⟨f - 1, by omega⟩
    have hd : decS f (encL l) = some l := ih (fun y hy => h y (by simp [hy])) f (by omega)
    rcases hz : itemL x ++ encL l with _ | ⟨z, zs⟩
    · have := congrArg List.length hz
      rw [List.length_append, List.length_nil] at this
      omega
    · rw [hz] at hpart
      rw [decS, hpart]
      simp only
      rw [← hz, List.drop_left, hd]
      rfl
theorem decB_enc {l : List It} (hr : rightB l = true) (hok : ∀ x ∈ l, x.ok) (hbl : ∀ x ∈ l, x.bs.length ≤ 1000000) (hlen : ¬ 4096 < (encL l).length) : decB (encL l) = some l := by
  unfold decB
  rw [if_neg hlen, dec_enc l (fun x hx => ⟨right_shape l 0 hr x hx, hok x hx, by have := hbl x hx; omega⟩) _ (Nat.le_refl _)]
  simp only
  rw [if_pos hr]
theorem decB_props {zs : List Int} {l : List It} (hb : ∀ x ∈ zs, 0 ≤ x ∧ x ≤ 255) (h : decB zs = some l) : rightB l = true ∧ encL l = zs ∧ (∀ x ∈ l, x.ok ∧ x.bs.length ≤ 4096) ∧ l.length ≤ 4096 ∧ zs.length ≤ 4096 := by
  unfold decB at h
  by_cases hl : 4096 < zs.length
  · rw [if_pos hl] at h; cases h
  · rw [if_neg hl] at h
    rcases hd : decS zs.length zs with _ | m
    · rw [hd] at h; cases h
    · rw [hd] at h
      simp only at h
      by_cases hr : rightB m = true
      · rw [if_pos hr] at h
        injection h with h
        subst h
        obtain ⟨h1, h2, h3⟩ := decS_props _ zs m hb hd
        exact ⟨hr, h1, fun x hx => ⟨(h2 x hx).1, by have := (h2 x hx).2; omega⟩, by omega, by omega⟩
      · rw [if_neg hr] at h; cases h
end Go.Proofs.YthdlcpnmldhllaaDoor

/-
  THE PROGRAM's Decode: the record whose bytes these are, in memory of its own; or ErrForm.
-/
namespace Go.Proofs.YthdlcpnmldhllaaDoor
open Go.RowKit
set_option linter.unusedVariables false

/-- Cells that describe items, whose bytes lie in rows of their own. -/
def CellsD (base : Nat) (w : World) (l : List It) (xs : List Value) : Prop :=
  xs.length = l.length * 4 ∧ ∀ j x, l[j]? = some x → xs[j * 4]? = some (.int .i64 x.kind) ∧ xs[j * 4 + 1]? = some (.int .i64 x.id) ∧ xs[j * 4 + 2]? = some (.int .i64 x.n) ∧
    ∃ A cap, xs[j * 4 + 3]? = some (.slice A x.bs.length cap) ∧ w.ownsRow base 5 1 (.slice A x.bs.length cap) x.bs.length (x.bs.map (Value.int .u8))
/-- A list of items in memory of one's own, its bytes too. -/
def OwnD (w : World) (base : Nat) (v : Value) (l : List It) : Prop := ∃ xs, w.ownsRow base 84 4 v l.length xs ∧ CellsD base w l xs

theorem own_grown {w w' : World} {base : Nat} {e : TypeId} {size n : Nat} {v : Value} {xs : List Value} {row : Option Nat} (h : w.ownsRow base e size v n xs) (hg : w.grownBy w' row) (hne : ∀ g, v.ownBlock = some g → some g ≠ row) : w'.ownsRow base e size v n xs := by
  refine ⟨h.1, ?_⟩
  rcases h.2 with h0 | ⟨g, cap, cur, rfl, hb, hh, rest⟩
  · exact .inl h0
  · exact .inr ⟨g, cap, cur, rfl, hb, (hg.block g (Array.getElem?_eq_some_iff.1 hh).1 (hne g rfl)).trans hh, rest⟩
theorem own_types {w : World} {b1 b2 : Nat} {s1 s2 n1 n2 : Nat} {v1 v2 : Value} {xs ys : List Value} (h : w.ownsRow b1 5 s1 v1 n1 xs) (k : w.ownsRow b2 84 s2 v2 n2 ys) : ∀ g, v1.ownBlock = some g → some g ≠ v2.ownBlock := by
  intro g hg he
  rcases h.2 with ⟨rfl, _⟩ | ⟨g1, _, _, rfl, _, hh, _⟩
  · simp [Value.ownBlock] at hg
  · rcases k.2 with ⟨rfl, _⟩ | ⟨g2, _, _, rfl, _, kk, _⟩
    · simp [Value.ownBlock] at he
    · have e1 : g1 = g := by simpa [Value.ownBlock] using hg
      have e2 : g = g2 := by simpa [Value.ownBlock] using he
      subst e1 e2
      rw [hh] at kk
      injection kk with kk
      injection kk with _ ht
      exact absurd ht (by decide)
theorem OwnD.nil (w : World) (base : Nat) : OwnD w base (.slice none 0 0) [] := ⟨[], World.ownsRow_nil _ _ _ _, rfl, fun j x hx => by simp at hx⟩
theorem OwnD.below {w w' : World} {base : Nat} {v : Value} {l : List It} (h : OwnD w base v l) (hb : Below w.heap.size w w') : OwnD w' base v l := by
  obtain ⟨xs, ho, hl, hc⟩ := h
  refine ⟨xs, own_below ho hb (fun k hk => (ho.lt k hk).2), hl, fun j x hx => ?_⟩
  obtain ⟨c0, c1, c2, A, cap, c3, h5⟩ := hc j x hx
  exact ⟨c0, c1, c2, A, cap, c3, own_below h5 hb (fun k hk => (h5.lt k hk).2)⟩
theorem OwnD.form_n {w : World} {base : Nat} {v : Value} {l : List It} (h : OwnD w base v l) : ∃ A n cap, v = .slice A n cap ∧ n = l.length ∧ n ≤ cap ∧ cap ≤ maxLen := by
  obtain ⟨xs, ho, _⟩ := h
  obtain ⟨A, cap, rfl, hc⟩ := own_form ho
  exact ⟨A, _, cap, rfl, rfl, hc, own_cap ho⟩
theorem OwnD.rd {w : World} {base : Nat} {A : Option Addr} {n c : Nat} {l : List It} (h : OwnD w base (.slice A n c) l) : RdI w.heap.size w A l := fun hp => by
  obtain ⟨xs, ho, _, hc⟩ := h
  obtain ⟨g, cap, e, hb, hg⟩ := ho.form hp
  injection e with e1 e2 e3
  subst e1 e2 e3
  have hadd : ∀ k, (⟨g, 0, none⟩ : Addr).add k = ⟨g, 0 + k, none⟩ := fun k => by unfold Addr.add; split <;> simp_all
  refine ⟨g, 0, rfl, hg, fun j x hx => ?_⟩
  obtain ⟨c0, c1, c2, S, cap, c3, h5⟩ := hc j x hx
  have g0 := ho.cells (g := g) rfl _ _ c0
  have g1 := ho.cells (g := g) rfl _ _ c1
  have g2 := ho.cells (g := g) rfl _ _ c2
  have g3 := ho.cells (g := g) rfl _ _ c3
  rw [hadd] at g0 g1 g2 g3
  exact ⟨g0, g1, g2, S, cap, g3, own_le h5, own_cap h5, rd_of_row h5⟩

/-- One item more. -/
theorem wpList_append_part {w : World} {ops : Array Oper} {rest : List Oper} {o : Oper} {a : Act} {Q : Exit → Act → World → Prop} (hgd : o.guard = Option.none) (s x : Operand)
    (ho : o.op = .call { callee := .builtin .append, args := #[s, x], argTypes := #[52, 52] }) (base : Nat) (v : Value) (l : List It) (hs : a.eval s = v) (hown : OwnD w base v l)
    (y : It) (A : Option Addr) (cap : Nat) (h5 : w.ownsRow base 5 1 (.slice A y.bs.length cap) y.bs.length (y.bs.map (Value.int .u8))) (ad : Addr) (c : Nat) (hx : a.eval x = .slice (some ad) 1 c)
    (hcell : ∀ j u, [Value.int .i64 y.kind, .int .i64 y.id, .int .i64 y.n, .slice A y.bs.length cap][j]? = some u → w.cell? (ad.add j) = some u) (hlen : l.length ≤ 1000000) (hbase : base ≤ w.heap.size)
    (h : ∀ v' w', OwnD w' base v' (l ++ [y]) → Below base w w' → w.grownBy w' v.ownBlock → wpList Tryd.prog ops Q rest (a.put o.dst v') w') : wpList Tryd.prog ops Q (o :: rest) a w := by
  obtain ⟨i0, hi, hz0, hz1, hz2⟩ := info_parts Tryd.info84
  obtain ⟨xs, hrow, hl, hc⟩ := hown
  refine wpList_append_own w hgd s x 52 ho base 84 i0 _ 4 48 Tryd.underlying52 hi hz0 hz1 hz2 rfl (by decide) v l.length xs hs hrow ad 1 c _ hx rfl hcell (by intro u hu; simp at hu; rcases hu with rfl | rfl | rfl | rfl <;> rfl) (by unfold maxLen; omega) (by omega) hbase ?_
  intro v' w' h1 h2 _
  refine h v' w' ⟨_, by rw [List.length_append]; exact h1, by rw [List.length_append, List.length_append, hl]; simp only [List.length_cons, List.length_nil]; omega, fun j z hz => ?_⟩ ((Below.refl base w).grown h2 hbase (fun j hj => (hrow.lt j hj).1)) h2
  rcases Nat.lt_or_ge j l.length with hj | hj
  · rw [List.getElem?_append_left hj] at hz
    obtain ⟨c0, c1, c2, B, cb, c3, k5⟩ := hc j z hz
    exact ⟨by rw [List.getElem?_append_left (by omega)]; exact c0, by rw [List.getElem?_append_left (by omega)]; exact c1, by rw [List.getElem?_append_left (by omega)]; exact c2, B, cb, by rw [List.getElem?_append_left (by omega)]; exact c3, own_grown k5 h2 (own_types k5 hrow)⟩
  · rw [List.getElem?_append_right hj] at hz
    obtain ⟨i, hi'⟩ : ∃ i, j - l.length = i := ⟨_, rfl⟩
    rw [hi'] at hz
    cases i with
    | succ i => simp at hz
    | zero =>
      simp only [List.getElem?_cons_zero, Option.some.injEq] at hz
      subst hz
      obtain rfl : j = l.length := by omega
      refine ⟨?_, ?_, ?_, A, cap, ?_, own_grown h5 h2 (own_types h5 hrow)⟩
      · rw [List.getElem?_append_right (by omega), show l.length * 4 - xs.length = 0 by omega]; rfl
      · rw [List.getElem?_append_right (by omega), show l.length * 4 + 1 - xs.length = 1 by omega]; rfl
      · rw [List.getElem?_append_right (by omega), show l.length * 4 + 2 - xs.length = 2 by omega]; rfl
      · rw [List.getElem?_append_right (by omega), show l.length * 4 + 3 - xs.length = 3 by omega]; rfl
end Go.Proofs.YthdlcpnmldhllaaDoor

/-
  THE PLACES' TABLE IN MEMORY, and the program's inner: which place a field's own fields stand in.
-/
namespace Go.Proofs.YthdlcpnmldhllaaDoor
open Go.RowKit
set_option linter.unusedVariables false

/-- The table lies where the program's text lays it. -/
def Tab (w : World) : Prop := ∀ i n, flatT[i]? = some n → w.cell? ⟨0, i, none⟩ = some (.int .i64 n)
theorem Tab.pos {w : World} (h : Tab w) : 0 < w.heap.size := by
  have h0 := h 0 0 rfl
  rcases Nat.eq_zero_or_pos w.heap.size with e | e
  · unfold World.cell? at h0
    simp [Array.getElem?_eq_none (by omega : w.heap.size ≤ 0)] at h0
  · exact e
theorem Tab.below {n : Nat} {w w' : World} (h : Tab w) (hb : Below n w w') (hn : 0 < n) : Tab w' := fun i k hi => (hb.cell (p := ⟨0, i, none⟩) hn).trans (h i k hi)

set_option maxHeartbeats 2000000 in
theorem inner_any (p id : Int) (hp : 0 ≤ p ∧ p ≤ 8) (hid : 0 ≤ id ∧ id ≤ 1000) (w : World) (hT : Tab w) :
    Calls Tryd.prog 45 #[.int .i64 p, .int .i64 id] w fun e w' => e = .returned (.int .i64 (inZ p id)) ∧ w' = w := by
  obtain ⟨p', rfl⟩ : ∃ n : Nat, p = n := ⟨p.toNat, by omega⟩
  obtain ⟨i', rfl⟩ : ∃ n : Nat, id = n := ⟨id.toNat, by omega⟩
  by_cases h1 : p' = 1
  · subst h1
    have e : Hid (inZ ((1 : Nat) : Int) i' = 1) := Lib.hid rfl
    go_enter Tryd.func45, Tryd.ntmps45
    go_wp2
    go_ret
    exact ⟨congrArg (fun z => Ending.returned (.int .i64 z)) e.out.symm, rfl⟩
  by_cases h13 : 13 ≤ i'
  · have e : Hid (inZ (p' : Int) i' = 0) := Lib.hid (by unfold inZ; rw [if_neg (by omega), if_pos (by omega)])
    go_enter Tryd.func45, Tryd.ntmps45
    go_wp2
    go_ret
    exact ⟨congrArg (fun z => Ending.returned (.int .i64 z)) e.out.symm, rfl⟩
  · have hlen : flatT.length = 117 := rfl
    obtain ⟨n, hn⟩ : ∃ n, flatT[p' * 13 + i']? = some n := ⟨_, List.getElem?_eq_getElem (by omega)⟩
    have e : Hid (inZ (p' : Int) i' = n) := Lib.hid (by unfold inZ tabZ; rw [if_neg (by omega), if_neg (by omega), Int.toNat_natCast, Int.toNat_natCast, hn]; rfl)
    have c0 := hT _ _ hn
    clear hT hn hlen
    go_enter Tryd.func45, Tryd.ntmps45
    go_wp2
    go_ret
    exact ⟨congrArg (fun z => Ending.returned (.int .i64 z)) e.out.symm, rfl⟩
end Go.Proofs.YthdlcpnmldhllaaDoor

/-
  THE PLACES' TABLE, as the program's text lays it, read in memory.
-/
namespace Go.Proofs.YthdlcpnmldhllaaDoor
open Go.RowKit Go.ChangeShapes Go.WideShapes
set_option linter.unusedVariables false

section
variable {H : Type} {enc : TypeId × Value → H} {P : Program} {w : World} {sp : Nat → Bool} {held : Bool} {fuel : Nat}
/-- An array of numbers, by its datum. -/
theorem arr_ints {t e : TypeId} {k : IntKind} {n : Nat} {cs : List Value} {d : DataW H} {p : List MemPlace} (ht : P.underlying t = some (.array n e)) (he : P.underlying e = some (.int k)) (hc : P.cellsOf e = 1)
    (h : DataW.trod enc P w 0 sp held fuel t cs = some (d, p)) (zs : List Int) (hx : d = DataW.agg (zs.map fun z => DataW.lit (Lit.int k z))) : ∀ (i : Nat) (z : Int), zs[i]? = some z → cs[i]? = some (Value.int k z) := by
  obtain ⟨xs, m, rfl, hx1, hlen, hn, hel⟩ := DataW.trod_array ht h
  injection hx1 with hx1 _
  rw [hx] at hx1
  injection hx1 with hx1
  have hzl : zs.length = n := by have := congrArg List.length hx1; simpa [hn] using this
  intro i z hz
  have hi : i < n := by rw [← hzl]; exact (List.getElem?_eq_some_iff.1 hz).1
  have h0 := hel i hi
  rw [hc, Nat.mul_one] at h0
  obtain ⟨y, hy⟩ : ∃ y, xs[i]? = some y := ⟨_, List.getElem?_eq_getElem (by omega)⟩
  rw [hy] at h0
  obtain ⟨q, e1, e2, _⟩ := DataW.trod_int he h0
  have e3 : (zs.map fun z => (DataW.lit (.int k z) : DataW H))[i]? = some y.1 := by rw [hx1, List.getElem?_map, hy]; rfl
  rw [List.getElem?_map, hz, e2] at e3
  simp only [Option.map_some, Option.some.injEq, DataW.lit.injEq, Lit.int.injEq, true_and] at e3
  subst e3
  have e4 : ((cs.drop i).take 1)[0]? = some (.int k z) := by rw [e1]; rfl
  rw [List.getElem?_take, if_pos (by decide), List.getElem?_drop, Nat.add_zero] at e4
  exact e4
/-- An array of arrays of numbers. -/
theorem arr_rows {t u e : TypeId} {k : IntKind} {n m : Nat} {cs : List Value} {d : DataW H} {p : List MemPlace} (ht : P.underlying t = some (.array n u)) (hu : P.underlying u = some (.array m e)) (hc2 : P.cellsOf u = m) (he : P.underlying e = some (.int k)) (hc : P.cellsOf e = 1)
    (h : DataW.trod enc P w 0 sp held fuel t cs = some (d, p)) (zss : List (List Int)) (hx : d = DataW.agg (zss.map fun zs => DataW.agg (zs.map fun z => DataW.lit (Lit.int k z)))) : ∀ (i : Nat) (zs : List Int), zss[i]? = some zs → ∀ (j : Nat) (z : Int), zs[j]? = some z → j < m → cs[i * m + j]? = some (Value.int k z) := by
  obtain ⟨xs, f, rfl, hx1, hlen, hn, hel⟩ := DataW.trod_array ht h
  injection hx1 with hx1 _
  rw [hx] at hx1
  injection hx1 with hx1
  have hzl : zss.length = n := by have := congrArg List.length hx1; simpa [hn] using this
  intro i zs hz j z hj hjm
  have hi : i < n := by rw [← hzl]; exact (List.getElem?_eq_some_iff.1 hz).1
  have h0 := hel i hi
  rw [hc2] at h0
  obtain ⟨y, hy⟩ : ∃ y, xs[i]? = some y := ⟨_, List.getElem?_eq_getElem (by omega)⟩
  rw [hy] at h0
  have e3 : (zss.map fun zs => (DataW.agg (zs.map fun z => DataW.lit (Lit.int k z)) : DataW H))[i]? = some y.1 := by rw [hx1, List.getElem?_map, hy]; rfl
  rw [List.getElem?_map, hz] at e3
  simp only [Option.map_some, Option.some.injEq] at e3
  obtain ⟨y1, y2⟩ := y
  have e4 := arr_ints hu he hc h0 zs e3.symm j z hj
  rw [List.getElem?_take, if_pos hjm, List.getElem?_drop] at e4
  exact e4
end

def rowsT : List (List Int) := [[0, 0, 0, 0, 0, 0, 0, 0, 0, 0, 0, 0, 0], [0, 0, 0, 0, 0, 0, 0, 0, 0, 0, 0, 0, 0], [0, 1, 3, 6, 4, 4, 5, 0, 0, 0, 0, 0, 0], [0, 1, 1, 1, 1, 1, 1, 1, 1, 1, 1, 1, 1], [0, 1, 1, 1, 1, 0, 0, 0, 0, 0, 0, 0, 0], [0, 4, 1, 1, 0, 0, 0, 0, 0, 0, 0, 0, 0], [0, 5, 1, 1, 7, 8, 0, 0, 0, 0, 0, 0, 0], [0, 1, 1, 1, 0, 0, 0, 0, 0, 0, 0, 0, 0], [0, 1, 1, 1, 0, 0, 0, 0, 0, 0, 0, 0, 0]]
theorem rows_flat : ∀ i < 117, flatT[i]? = (rowsT[i / 13]?.bind fun zs => zs[i % 13]?) := by decide
theorem gPlaces : Tryd.prog.globalNamed "selvage/wire.places" = some 0 := by kernel_rfl
theorem tPlaces : (Tryd.prog.globals[0]?).map (·.type) = some 136 := by kernel_rfl
theorem tab_of {W : World} (h : laidMetH Tryd.prog [("selvage/sha.start", Rows.laid_selvage_sha_start), ("selvage/sha.k", Rows.laid_selvage_sha_k), ("selvage/wire.places", Rows.laid_selvage_wire_places)] W) : Tab W := by
  rw [MakeChecks.laidMetH_plain _ _ _ (by kernel_rfl)] at h
  obtain ⟨ps, ⟨_, _, _, _, _, _, _, _, _, _, hre0⟩, _⟩ := h
  obtain ⟨⟨_, _, _, _, _, _, _, _, _, _, hre1⟩, _⟩ := hre0
  obtain ⟨⟨g0, t0, cs0, f0, p0, q0, hg0, ht0, hv0, hd0, _⟩, _⟩ := hre1
  obtain rfl := Option.some.inj (gPlaces.symm.trans hg0)
  obtain rfl := Option.some.inj (tPlaces.symm.trans ht0)
  have hrow := arr_rows Tryd.underlying136 Tryd.underlying135 (by kernel_rfl) Tryd.underlying3 (by kernel_rfl) hd0 rowsT rfl
  intro i n hi
  have hlt : i < 117 := by
    have := (List.getElem?_eq_some_iff.1 hi).1
    simpa [flatT] using this
  rw [rows_flat i hlt] at hi
  rcases hz : rowsT[i / 13]? with _ | zs
  · rw [hz] at hi; cases hi
  · rw [hz] at hi
    have := hrow (i / 13) zs hz (i % 13) n hi (by omega)
    rw [show i / 13 * 13 + i % 13 = i by omega] at this
    rw [World.var?_cell hg0 hv0 i]
    simpa using this
theorem door_met (os : Os) (args : Array Value) : laidMetH Tryd.prog [("selvage/sha.start", Rows.laid_selvage_sha_start), ("selvage/sha.k", Rows.laid_selvage_sha_k), ("selvage/wire.places", Rows.laid_selvage_wire_places)] ((World.doorLaid Tryd.prog 400 os).forCall (fun _ _ => 0) ⟨#[], args, []⟩).memory :=
  laidMetH_of_parts3 (fuel := 8) (laidMet_of_run' 8 (by kernel_rfl) (by kernel_rfl)) (by kernel_rfl) (by kernel_rfl)
end Go.Proofs.YthdlcpnmldhllaaDoor

/-
  THE ITERATOR OF FIELDS: the function that the program ranges over yields just the fields of "fieldsFrom", each with the place behind it; a round may stop it.
-/
namespace Go.Proofs.YthdlcpnmldhllaaDoor
open Go.RowKit Go.Shelf
attribute [local go_sem] Oper.semAt_some

/-- The fields that are not within others, from a place on: where each begins, and the place behind it. -/
def fieldsFrom (frm i : Nat) (d : Int) : List It → List (Nat × Nat)
  | [] => []
  | x :: l => if 0 < d + turn x then fieldsFrom frm (i + 1) (d + turn x) l else (frm, i + 1) :: fieldsFrom (i + 1) (i + 1) (d + turn x) l
def fieldsL (l : List It) : List (Nat × Nat) := fieldsFrom 0 0 0 l

theorem below_grown {W W' : World} (h : Below W.heap.size W W') : W.grownBy W' none := ⟨h.os, h.tape, h.output, h.size, fun k hk _ => h.block k hk⟩

/-- A field of a list of that length: where it begins, and the place behind it. -/
structure Fld (n : Nat) where
  fst : Nat
  snd : Nat
  lt : fst < snd
  le : snd ≤ n
def Fld.raw {n : Nat} (l : List (Fld n)) : List (Nat × Nat) := l.map fun x => (x.fst, x.snd)
theorem Fld.raw_snoc {n : Nat} (l : List (Fld n)) (x : Fld n) : Fld.raw (l ++ [x]) = Fld.raw l ++ [(x.fst, x.snd)] := by simp [Fld.raw]
def encF {n : Nat} (x : Fld n) : Array Value := #[.int .i64 (x.fst : Int), .int .i64 (x.snd : Int)]

end Go.Proofs.YthdlcpnmldhllaaDoor

/-
  THE PROGRAM's Find, walked: the first field of an Id that is not within another one.
-/
namespace Go.Proofs.YthdlcpnmldhllaaDoor
open Go.RowKit Go.Shelf
attribute [local go_sem] Oper.semAt_some
set_option linter.unusedVariables false

/-- Has the item at a place that Id? -/
def idAt (l : List It) (id : Int) (f : Nat × Nat) : Bool := match l[f.1]? with
  | none => false
  | some x => x.id == id
/-- The first field of that Id. -/
def pfindS (l : List It) (id : Int) : Int × Int × Bool :=
  if rightB l = true then match (fieldsL l).find? (idAt l id) with
    | none => (0, 0, false)
    | some f => (f.1, f.2, true)
  else (0, 0, false)

theorem boxed_below {W W' : World} {B n₀ : Nat} {t : TypeId} {v : Value} (h : Boxed W B t v) (hb : Below n₀ W W') (hB : B < n₀) : Boxed W' B t v := (hb.block B hB).trans h

/-- The five boxes of a call of Find: the list, the Id, and the three results. -/
structure FB (w : World) (sl : Value) (id : Int) (r1 r2 : Int) (r3 : Bool) (W : World) : Prop where
  b0 : Boxed W w.heap.size 52 sl
  b1 : Boxed W (w.heap.size + 1) 3 (.int .i64 id)
  b2 : Boxed W (w.heap.size + 1 + 1) 3 (.int .i64 r1)
  b3 : Boxed W (w.heap.size + 1 + 1 + 1) 3 (.int .i64 r2)
  b4 : Boxed W (w.heap.size + 1 + 1 + 1 + 1) 4 (.bool r3)
  bel : Below w.heap.size w W
  size : w.heap.size + 5 ≤ W.heap.size
theorem FB.start (w : World) (sl : Value) (id : Int) : FB w sl id 0 0 false (((((w.alloc (.cells #[sl] 52)).alloc (.cells #[.int .i64 id] 3)).alloc (.cells #[.int .i64 0] 3)).alloc (.cells #[.int .i64 0] 3)).alloc (.cells #[.bool false] 4)) where
  b0 := ((((Boxed.new w 52 sl).alloc _).alloc _).alloc _).alloc _
  b1 := by
    have h := (((Boxed.new (w.alloc (.cells #[sl] 52)) 3 (.int .i64 id)).alloc (.cells #[.int .i64 0] 3)).alloc (.cells #[.int .i64 0] 3)).alloc (.cells #[.bool false] 4)
    simpa using h
  b2 := by
    have h := ((Boxed.new ((w.alloc (.cells #[sl] 52)).alloc (.cells #[.int .i64 id] 3)) 3 (.int .i64 0)).alloc (.cells #[.int .i64 0] 3)).alloc (.cells #[.bool false] 4)
    simpa using h
  b3 := by
    have h := (Boxed.new (((w.alloc (.cells #[sl] 52)).alloc (.cells #[.int .i64 id] 3)).alloc (.cells #[.int .i64 0] 3)) 3 (.int .i64 0)).alloc (.cells #[.bool false] 4)
    simpa using h
  b4 := by
    have h := Boxed.new ((((w.alloc (.cells #[sl] 52)).alloc (.cells #[.int .i64 id] 3)).alloc (.cells #[.int .i64 0] 3)).alloc (.cells #[.int .i64 0] 3)) 4 (.bool false)
    simpa using h
  bel := ((((((Below.refl _ w).alloc (Nat.le_refl _) _).alloc (by simp) _).alloc (by simp; omega) _).alloc (by simp; omega) _).alloc (by simp; omega) _)
  size := by simp
theorem FB.below {w : World} {sl : Value} {id r1 r2 : Int} {r3 : Bool} {W W' : World} (h : FB w sl id r1 r2 r3 W) (hb : Below W.heap.size W W') : FB w sl id r1 r2 r3 W' where
  b0 := boxed_below h.b0 hb h.b0.lt
  b1 := boxed_below h.b1 hb h.b1.lt
  b2 := boxed_below h.b2 hb h.b2.lt
  b3 := boxed_below h.b3 hb h.b3.lt
  b4 := boxed_below h.b4 hb h.b4.lt
  bel := h.bel.trans (hb.mono (by have := h.size; omega))
  size := Nat.le_trans h.size hb.size

theorem FB.own {w : World} {sl : Value} {id r1 r2 : Int} {r3 : Bool} {W W' : World} {row : Option Nat} (h : FB w sl id r1 r2 r3 W) (hg : W.grownBy W' row) (hr : ∀ r, row = some r → w.heap.size ≤ r ∧ ∃ o : Obj, W.heap[r]? = some o ∧ o.isCells = false) : FB w sl id r1 r2 r3 W' := by
  have ne : ∀ {B : Nat} {t : TypeId} {v : Value}, Boxed W B t v → some B ≠ row := fun {B t v} hb e => by
    obtain ⟨_, o, ho, hc⟩ := hr B e.symm
    rw [show W.heap[B]? = _ from hb] at ho
    injection ho with ho
    subst ho
    cases hc
  exact ⟨h.b0.kept hg (ne h.b0), h.b1.kept hg (ne h.b1), h.b2.kept hg (ne h.b2), h.b3.kept hg (ne h.b3), h.b4.kept hg (ne h.b4), h.bel.grown hg h.bel.size (fun j hj => (hr j hj).1), Nat.le_trans h.size hg.size⟩
theorem FB.drew {w : World} {sl : Value} {id r1 r2 : Int} {r3 : Bool} {W : World} (h : FB w sl id r1 r2 r3 W) : FB w sl id r1 r2 r3 W.drew := ⟨h.b0, h.b1, h.b2, h.b3, h.b4, h.bel.drew, h.size⟩
theorem find_none {n : Nat} {l : List It} {id : Int} {ys : List (Fld n)} (hy : Fld.raw ys = fieldsL l) (h : ∀ f ∈ ys, idAt l id (f.fst, f.snd) = false) : (fieldsL l).find? (idAt l id) = none := by
  rw [← hy, List.find?_eq_none]
  intro f hf
  obtain ⟨g, hg, rfl⟩ := List.mem_map.1 hf
  simp [h g hg]
theorem find_some {n : Nat} {l : List It} {id : Int} {pre : List (Fld n)} {x : Fld n} (hy : Fld.raw (pre ++ [x]) <+: fieldsL l) (h : ∀ f ∈ pre, idAt l id (f.fst, f.snd) = false) (hx : idAt l id (x.fst, x.snd) = true) : (fieldsL l).find? (idAt l id) = some (x.fst, x.snd) := by
  obtain ⟨t, ht⟩ := hy
  rw [← ht, Fld.raw_snoc, List.append_assoc, List.find?_append]
  have h0 : (Fld.raw pre).find? (idAt l id) = none := by
    rw [List.find?_eq_none]
    intro f hf
    obtain ⟨g, hg, rfl⟩ := List.mem_map.1 hf
    simp [h g hg]
  rw [h0]
  simp [hx]
/-- A field of that Id was found, its places stored. -/
def FoundF (w : World) (l : List It) (id : Int) (c : Code) (xs : List (Fld l.length)) (W : World) : Prop :=
  c = .ret ∧ ∃ pre x, xs = pre ++ [x] ∧ (∀ f ∈ pre, idAt l id (f.fst, f.snd) = false) ∧ idAt l id (x.fst, x.snd) = true ∧
    W.cell? ⟨w.heap.size + 1 + 1, 0, none⟩ = some (.int .i64 (x.fst : Nat)) ∧ W.cell? ⟨w.heap.size + 1 + 1 + 1, 0, none⟩ = some (.int .i64 (x.snd : Nat)) ∧ W.cell? ⟨w.heap.size + 1 + 1 + 1 + 1, 0, none⟩ = some (.bool true) ∧ Below w.heap.size w W

end Go.Proofs.YthdlcpnmldhllaaDoor

/-
  THE PROGRAM's requested: a function value that captures a table of the Ids that are asked for; what it answers.
-/
namespace Go.Proofs.YthdlcpnmldhllaaDoor
open Go.RowKit
set_option linter.unusedVariables false

/-- Which Ids are asked for: of those that may be. -/
def askedB (zs : List Int) (i : Nat) : Bool := decide (1 ≤ i) && zs.any fun z => z == (i : Int)

theorem ask_out {z : Int} (h : z < 1 ∨ 1000 < z) {i : Nat} (hi : i < 1001) : (decide (1 ≤ i) && (z == (i : Int))) = false := by
  by_cases h1 : 1 ≤ i
  · have h2 : (z == (i : Int)) = false := by simp; omega
    rw [h2, Bool.and_false]
  · simp [h1]
theorem ask_in {m i : Nat} (hm : 1 ≤ m) : (decide (1 ≤ i) && ((m : Int) == (i : Int))) = (i == m) := by
  rw [Bool.eq_iff_iff]
  simp
  omega

end Go.Proofs.YthdlcpnmldhllaaDoor

/-
  RECORDS BESIDE AND WITHIN ONE ANOTHER, AS DATA; the contracts of Right and Encode at a length that is told apart.
-/
namespace Go.Proofs.YthdlcpnmldhllaaDoor
open Go.RowKit

def total (l : List It) : Int := l.foldr (fun x s => turn x + s) 0
theorem right_total : ∀ (l : List It) (d : Int), rightFrom d l = true → d + total l = 0 := by
  intro l
  induction l with
  | nil => intro d h; simp [rightFrom] at h; simp [total, h]
  | cons x l ih =>
    intro d h
    rw [rightFrom, Bool.and_eq_true] at h
    have := ih _ h.2
    rw [step_turn] at this
    have e : total (x :: l) = turn x + total l := rfl
    omega
theorem right_join : ∀ (l m : List It) (d : Int), rightFrom d l = true → rightFrom d (l ++ m) = rightFrom 0 m := by
  intro l
  induction l with
  | nil => intro m d h; simp [rightFrom] at h; subst h; rfl
  | cons x l ih =>
    intro m d h
    rw [rightFrom, Bool.and_eq_true] at h
    rw [List.cons_append, rightFrom, h.1, Bool.true_and]
    exact ih m _ h.2
theorem right_both {l m : List It} (hl : rightB l = true) (hm : rightB m = true) : rightB (l ++ m) = true := (right_join l m 0 hl).trans hm
theorem right_open {l : List It} (hl : rightB l = true) : rightB ([⟨3, 1, 0, []⟩] ++ l) = false := by
  rcases Bool.eq_false_or_eq_true (rightB ([⟨3, 1, 0, []⟩] ++ l)) with h | h
  · have h1 := right_total _ _ hl
    have h2 := right_total _ _ h
    have e : total ([⟨3, 1, 0, []⟩] ++ l) = 1 + total l := rfl
    omega
  · exact h
theorem right_closed {l : List It} (hl : rightB l = true) : rightB (l ++ [⟨4, 0, 0, []⟩]) = false := (right_join l _ 0 hl).trans (by decide)

theorem encL_join (l m : List It) : encL (l ++ m) = encL l ++ encL m := List.flatMap_append

theorem OwnI.form_n {w : World} {base : Nat} {v : Value} {l : List It} (h : OwnI w base v l) : ∃ A n cap, v = .slice A n cap ∧ n = l.length ∧ n ≤ cap := by
  obtain ⟨A, cap, h1, h2⟩ := h.form
  exact ⟨A, _, cap, h1, rfl, h2⟩
/-- A slice that is built of one item without bytes. -/
theorem SrcI.one (n₀ : Nat) (w : World) (k i n : Int) : SrcI n₀ (w.alloc (.cells #[.int .i64 k, .int .i64 i, .int .i64 n, .slice none 0 0] 84)) (some ⟨w.heap.size, 0, none⟩) [⟨k, i, n, []⟩] := by
  refine ⟨_, CellsI.one (x := ⟨k, i, n, []⟩) (A := none) (cap := 0) (Nat.le_refl _) (Nat.zero_le _) (fun hp => by simp at hp), ?_⟩
  intro j u hu
  have e := cell_of_row (w.alloc (.cells #[.int .i64 k, .int .i64 i, .int .i64 n, .slice none 0 0] 84)) w.heap.size (0 + j) _ 84 (0, 0) (heap_alloc_new w _)
  have hadd : (⟨w.heap.size, 0, none⟩ : Addr).add j = ⟨w.heap.size, 0 + j, none⟩ := by unfold Addr.add; split <;> simp_all
  rw [hadd, e, Nat.zero_add]
  simpa using hu

theorem pright_n {a : Option Addr} {n cap : Nat} {l : List It} (hn : n = l.length) (hlen : l.length ≤ 140737488351232) {w : World} (hr : RdI w.heap.size w a l) {R : Bool} (hR : rightB l = R) :
    Calls Tryd.prog 31 #[.slice a n cap] w fun e w' => e = .returned (.bool R) ∧ Below w.heap.size w w' := by
  subst hn hR
  exact pright_any a cap l hlen w hr
end Go.Proofs.YthdlcpnmldhllaaDoor

/-
  THE PROGRAM's Decode, walked.
-/
namespace Go.Proofs.YthdlcpnmldhllaaDoor
open Go.RowKit
set_option linter.unusedVariables false

def finD : Option (List It) → Option (List It)
  | none => none
  | some l => if rightB l = true then some l else none
theorem decB_fin {zs : List Int} (h : ¬ 4096 < zs.length) : decB zs = finD (decS zs.length zs) := by
  unfold decB
  rw [if_neg h]
  generalize decS zs.length zs = D
  cases D <;> rfl
/-- What Decode returns: a record in memory of its own, or ErrForm. -/
def Decoded (r : Option (List It)) (w : World) (e : Ending) (w' : World) : Prop := match r with
  | none => e = .returned (.tuple #[.slice none 0 0, .int .i64 2]) ∧ Below w.heap.size w w'
  | some l => ∃ A n c, e = .returned (.tuple #[.slice A n c, .int .i64 0]) ∧ n = l.length ∧ n ≤ c ∧ c ≤ maxLen ∧ RdI w'.heap.size w' A l ∧ Below w.heap.size w w'
theorem Decoded.none {r : Option (List It)} (h : r = Option.none) {w w' : World} (hb : Below w.heap.size w w') : Decoded r w (.returned (.tuple #[.slice Option.none 0 0, .int .i64 2])) w' := by
  subst h
  exact ⟨rfl, hb⟩
theorem Decoded.some {r : Option (List It)} {l : List It} (h : r = Option.some l) {w w' : World} {A : Option Addr} {n c : Nat} (hn : n = l.length) (hc : n ≤ c) (hm : c ≤ maxLen) (hr : RdI w'.heap.size w' A l) (hb : Below w.heap.size w w') : Decoded r w (.returned (.tuple #[.slice A n c, .int .i64 0])) w' := by
  subst h
  exact ⟨A, n, c, rfl, hn, hc, hm, hr, hb⟩
theorem cells_built (W : World) (x0 x1 x2 x3 : Value) : ∀ j u, [x0, x1, x2, x3][j]? = some u → (W.alloc (.cells #[x0, x1, x2, x3] 84)).cell? ((⟨W.heap.size, 0, Option.none⟩ : Addr).add j) = some u := by
  intro j u hu
  have e := cell_of_row (W.alloc (.cells #[x0, x1, x2, x3] 84)) W.heap.size (0 + j) _ 84 (0, 0) (heap_alloc_new W _)
  have hadd : (⟨W.heap.size, 0, Option.none⟩ : Addr).add j = ⟨W.heap.size, 0 + j, Option.none⟩ := by unfold Addr.add; split <;> simp_all
  rw [hadd, e, Nat.zero_add]
  simpa using hu
def lenOf : Value → Nat
  | .slice _ n _ => n
  | _ => 0

/-- How the loop stands: the rest of the bytes, the items so far. -/
def DecRel (zs : List Int) (D : Option (List It)) (w : World) (bv lv : Value) (wr : World) : Prop :=
  ∃ (f : Nat) (ys : List Int) (pre : List It) (A : Option Addr) (n c : Nat), bv = .slice A n c ∧ n = ys.length ∧ ys.length ≤ f ∧ pre.length + ys.length ≤ 4096 ∧ ys.length ≤ c ∧ c ≤ 9223372036854775807 ∧
    Rd .u8 w.heap.size w A ys ∧ (∀ x ∈ ys, 0 ≤ x ∧ x ≤ 255) ∧ OwnD wr w.heap.size lv pre ∧ D = (decS f ys).map (pre ++ ·) ∧ Below w.heap.size w wr

set_option maxHeartbeats 8000000 in
set_option maxRecDepth 100000 in
theorem pdecode_any (a : Option Addr) (cap : Nat) (zs : List Int) (hlen : zs.length ≤ 9223372036854775807) (hcap : zs.length ≤ cap) (hcm : cap ≤ 9223372036854775807) (hb : ∀ x ∈ zs, 0 ≤ x ∧ x ≤ 255) (w : World) (hr : Rd .u8 w.heap.size w a zs) :
    Calls Tryd.prog 20 #[.slice a zs.length cap] w (Decoded (decB zs) w) := by
  by_cases hbig : 4096 < zs.length
  · have hd : decB zs = none := by unfold decB; rw [if_pos hbig]
    have HD := Lib.hid hd
    clear hr hd hb
    go_enter Tryd.func20, Tryd.ntmps20
    go_wp2
    go_ret2
    exact Decoded.none HD.out (Below.refl _ _)
  · have HD := Lib.hid (decB_fin hbig)
    obtain ⟨D, hD⟩ : ∃ D, decS zs.length zs = D := ⟨_, rfl⟩
    rw [hD] at HD
    have HR := Lib.hid hr
    have HB := Lib.hid hb
    have HD0 : Hid (D = (decS zs.length zs).map ([] ++ ·)) := by
      unfold Hid
      rw [hD]
      cases D <;> rfl
    clear hr hb hD
    go_enter Tryd.func20, Tryd.ntmps20
    go_wp2
    go_loopw [0, 4] (fun bv lv wr => DecRel zs D w bv lv wr) (fun bv _ _ => lenOf bv)
    case atStart => exact ⟨zs.length, zs, [], a, _, cap, rfl, rfl, Nat.le_refl _, by simp; omega, hcap, hcm, HR.out, HB.out, OwnD.nil _ _, HD0.out, Below.refl _ _⟩
    case round =>
      obtain ⟨f, ys, pre, A, n, c, rfl, hn, hf, hpl, hyc, hcm', hrd, hby, hown, hdd, hbel⟩ := hrel
      have HRD := Lib.hid hrd
      have HBY := Lib.hid hby
      have HO := Lib.hid hown
      have HDD := Lib.hid hdd
      have HBE := Lib.hid hbel
      clear hrd hby hown hdd hbel
      cases ys with
      | nil =>
        obtain rfl : n = 0 := hn
        have hd : D = some pre := by
          have h := HDD.out
          cases f <;> simpa [decS] using h
        have HDP := Lib.hid hd
        clear hd
        obtain ⟨L, ln, lc, rfl, hln, hlc, hlm⟩ := HO.out.form_n
        have HLN := Lib.hid hln
        clear hln
        have hrt : ∀ R, rightB pre = R → Calls Tryd.prog 31 #[.slice L ln lc] wr fun e w' => e = .returned (.bool R) ∧ Below wr.heap.size wr w' := fun R hR => pright_n HLN.out (by simp at hpl; omega) HO.out.rd hR
        rcases Bool.eq_false_or_eq_true (rightB pre) with hR | hR
        · have h1 := hrt true hR
          have HF : Hid (decB zs = some pre) := Lib.hid (by rw [HD.out, HDP.out, finD, if_pos hR])
          clear hrt hR
          go_wp2_with (go_at_call 31; refine h1.mono ?_; rintro e w1 ⟨rfl, hb1⟩; have H1 := Lib.hid (HBE.out.trans (hb1.mono HBE.out.size)); have R1 := Lib.hid ((HO.out.rd.below hb1).mono hb1.size); clear hb1)
          go_ret2
          exact Decoded.some HF.out HLN.out hlc hlm R1.out H1.out
        · have h1 := hrt false hR
          have HF : Hid (decB zs = none) := Lib.hid (by rw [HD.out, HDP.out, finD, if_neg (by simp [hR])])
          clear hrt hR
          go_wp2_with (go_at_call 31; refine h1.mono ?_; rintro e w1 ⟨rfl, hb1⟩; have H1 := Lib.hid (HBE.out.trans (hb1.mono HBE.out.size)); clear hb1)
          go_ret2
          exact Decoded.none HF.out H1.out
      | cons z zt =>
        obtain ⟨f, rfl⟩ : ∃ g, f = g + 1 := ⟨f - 1, by simp at hf; omega⟩
        obtain ⟨ys, hys⟩ : ∃ ys, z :: zt = ys := ⟨_, rfl⟩
        have hDD := HDD.out
        rw [decS] at hDD
        rw [hys] at hn hf hpl hyc HRD HBY hDD
        have hpos : 0 < ys.length := by rw [← hys]; simp
        clear hys HDD
        obtain ⟨b, off, rfl, hbb, _⟩ := HRD.out hpos
        have hpart : ∀ W, Below w.heap.size w W → Calls Tryd.prog 40 #[.slice (some ⟨b, off, none⟩) n c] W fun e w' => match partS ys with
            | none => NoPart W e w'
            | some (x, k) => APart x k W e w' := fun W hW => by
          rw [hn]
          rcases hp : partS ys with _ | ⟨x, k⟩
          · exact part_none (by omega) hyc hcm' HBY.out ((HRD.out.below hW).mono hW.size) hp
          · exact part_some (by omega) hyc hcm' HBY.out ((HRD.out.below hW).mono hW.size) hp
        rcases hp : partS ys with _ | ⟨x, k⟩
        · rw [hp] at hDD hpart
          simp only [Option.map_none] at hDD
          have HF : Hid (decB zs = none) := Lib.hid (by rw [HD.out, hDD]; rfl)
          have h1 := hpart wr HBE.out
          have HN := Lib.hid hn
          have hn0 : 0 < n := by omega
          clear hpart hDD hp hn
          go_wp2_with (go_at_call 40; refine h1.mono ?_; rintro e w1 ⟨rfl, hb1⟩; have H1 := Lib.hid (HBE.out.trans (hb1.mono HBE.out.size)); clear hb1)
          go_ret2
          exact Decoded.none HF.out ((H1.out.alloc H1.out.size _))
        · rw [hp] at hDD hpart
          obtain ⟨k0, k1, kok, kbs, _⟩ := part_props HBY.out hp
          simp only at hDD hpart
          have h1 := hpart wr HBE.out
          have HDN : Hid (D = (decS f (ys.drop k)).map ((pre ++ [x]) ++ ·)) := Lib.hid (by rw [hDD, Option.map_map]; congr 1; funext m; simp)
          have HN := Lib.hid hn
          have hn0 : 0 < n := by omega
          have hkn : k ≤ n := by omega
          have hnc : n ≤ c := by omega
          clear hpart hDD hp hn kok
          have hyl : (ys.drop k).length = n - k := by rw [List.length_drop, HN.out]
          have HYL := Lib.hid hyl
          clear hyl
          by_cases hck : c = k
          · subst hck
            go_wp2_with (first
              | (go_at_call 40; refine h1.mono ?_; rintro e w1 ⟨A5, c5, rfl, ho5, hb1⟩; have H1 := Lib.hid (HBE.out.trans (hb1.mono HBE.out.size)); have O1 := Lib.hid (HO.out.below hb1); have O5 := Lib.hid (own_mono ho5 HBE.out.size); clear hb1 ho5)
              | (at_builtin; refine wpList_append_part rfl _ _ rfl w.heap.size _ pre rfl ((O1.out.below ((Below.refl _ _).alloc (Nat.le_refl _) _)).below ((Below.refl _ _).alloc (Nat.le_refl _) _)) x A5 c5 (own_below O5.out (((Below.refl w1.heap.size w1).alloc (Nat.le_refl _) _).alloc (by simp) _) (fun j hj => (O5.out.lt j hj).2)) ⟨w1.heap.size + 1, 0, none⟩ 1 rfl ?hcell (by omega) ?hbase ?_; (case hcell => (have hc4 := cells_built (w1.alloc (.cells #[.int .i64 x.kind, .int .i64 x.id, .int .i64 x.n, .slice A5 x.bs.length c5] 84)) (.int .i64 x.kind) (.int .i64 x.id) (.int .i64 x.n) (.slice A5 x.bs.length c5); rw [show (w1.alloc (.cells #[.int .i64 x.kind, .int .i64 x.id, .int .i64 x.n, .slice A5 x.bs.length c5] 84)).heap.size = w1.heap.size + 1 by simp] at hc4; exact hc4)); (case hbase => (have := H1.out.size; simp; omega)); intro v1 X1 ho hb _; have OX := Lib.hid ho; have HX := Lib.hid (((H1.out.alloc H1.out.size _).alloc (by have := H1.out.size; simp; omega) _).trans hb); clear ho hb))
            exact ⟨⟨f, ys.drop c, pre ++ [x], some ⟨b, off, none⟩, 0, 0, rfl, by rw [HYL.out]; omega, by rw [HYL.out]; have := HN.out; omega, by rw [HYL.out, List.length_append]; have := HN.out; simp; omega, by rw [HYL.out]; omega, by omega, (fun hp => by rw [HYL.out] at hp; omega), (fun y hy => HBY.out y (List.mem_of_mem_drop hy)), OX.out, HDN.out, HX.out⟩, by show _ < n; simp only [lenOf]; omega⟩
          · go_wp2_with (first
              | (go_at_call 40; refine h1.mono ?_; rintro e w1 ⟨A5, c5, rfl, ho5, hb1⟩; have H1 := Lib.hid (HBE.out.trans (hb1.mono HBE.out.size)); have O1 := Lib.hid (HO.out.below hb1); have O5 := Lib.hid (own_mono ho5 HBE.out.size); clear hb1 ho5)
              | (at_builtin; refine wpList_append_part rfl _ _ rfl w.heap.size _ pre rfl ((O1.out.below ((Below.refl _ _).alloc (Nat.le_refl _) _)).below ((Below.refl _ _).alloc (Nat.le_refl _) _)) x A5 c5 (own_below O5.out (((Below.refl w1.heap.size w1).alloc (Nat.le_refl _) _).alloc (by simp) _) (fun j hj => (O5.out.lt j hj).2)) ⟨w1.heap.size + 1, 0, none⟩ 1 rfl ?hcell (by omega) ?hbase ?_; (case hcell => (have hc4 := cells_built (w1.alloc (.cells #[.int .i64 x.kind, .int .i64 x.id, .int .i64 x.n, .slice A5 x.bs.length c5] 84)) (.int .i64 x.kind) (.int .i64 x.id) (.int .i64 x.n) (.slice A5 x.bs.length c5); rw [show (w1.alloc (.cells #[.int .i64 x.kind, .int .i64 x.id, .int .i64 x.n, .slice A5 x.bs.length c5] 84)).heap.size = w1.heap.size + 1 by simp] at hc4; exact hc4)); (case hbase => (have := H1.out.size; simp; omega)); intro v1 X1 ho hb _; have OX := Lib.hid ho; have HX := Lib.hid (((H1.out.alloc H1.out.size _).alloc (by have := H1.out.size; simp; omega) _).trans hb); clear ho hb))
            exact ⟨⟨f, ys.drop k, pre ++ [x], some ⟨b, off + k, none⟩, n - k, c - k, rfl, HYL.out.symm, by rw [HYL.out]; have := HN.out; omega, by rw [HYL.out, List.length_append]; have := HN.out; simp; omega, by rw [HYL.out]; omega, by omega, HRD.out.drop k, (fun y hy => HBY.out y (List.mem_of_mem_drop hy)), OX.out, HDN.out, HX.out⟩, by show _ < n; simp only [lenOf]; omega⟩
end Go.Proofs.YthdlcpnmldhllaaDoor

/-
  THE PROGRAM's Drop: how memory stands while fields are collected.
-/
namespace Go.Proofs.YthdlcpnmldhllaaDoor
open Go.RowKit Go.Shelf
attribute [local go_sem] Oper.semAt_some
set_option linter.unusedVariables false

/-- One item more, inside a fence. -/
theorem wpListIn_append_part {F : Fence} {n : Nat} {w : World} {ops : Array Oper} {rest : List Oper} {o : Oper} {a : Act} {Q : Exit → Act → World → Prop} (hgd : o.guard = Option.none) (s x : Operand)
    (ho : o.op = .call { callee := .builtin .append, args := #[s, x], argTypes := #[52, 52] }) (base : Nat) (v : Value) (l : List It) (hs : a.eval s = v) (hown : OwnD w base v l)
    (y : It) (A : Option Addr) (cap : Nat) (h5 : w.ownsRow base 5 1 (.slice A y.bs.length cap) y.bs.length (y.bs.map (Value.int .u8))) (ad : Addr) (c : Nat) (hx : a.eval x = .slice (some ad) 1 c)
    (hcell : ∀ j u, [Value.int .i64 y.kind, .int .i64 y.id, .int .i64 y.n, .slice A y.bs.length cap][j]? = some u → w.cell? (ad.add j) = some u) (hlen : l.length ≤ 1000000) (hbase : base ≤ w.heap.size)
    (h : ∀ v' w', OwnD w' base v' (l ++ [y]) → Below base w w' → w.grownBy w' v.ownBlock → wpListIn F n Tryd.prog ops Q rest (a.put o.dst v') w') : wpListIn F n Tryd.prog ops Q (o :: rest) a w := by
  obtain ⟨i0, hi, hz0, hz1, hz2⟩ := info_parts Tryd.info84
  obtain ⟨xs, hrow, hl, hc⟩ := hown
  refine wpListIn_append_own w hgd s x 52 ho base 84 i0 _ 4 48 Tryd.underlying52 hi hz0 hz1 hz2 rfl (by decide) v l.length xs hs hrow ad 1 c _ hx rfl hcell (by intro u hu; simp at hu; rcases hu with rfl | rfl | rfl | rfl <;> rfl) (by unfold maxLen; omega) (by omega) hbase ?_
  intro v' w' h1 h2 _
  refine h v' w' ⟨_, by rw [List.length_append]; exact h1, by rw [List.length_append, List.length_append, hl]; simp only [List.length_cons, List.length_nil]; omega, fun j z hz => ?_⟩ ((Below.refl base w).grown h2 hbase (fun j hj => (hrow.lt j hj).1)) h2
  rcases Nat.lt_or_ge j l.length with hj | hj
  · rw [List.getElem?_append_left hj] at hz
    obtain ⟨c0, c1, c2, B, cb, c3, k5⟩ := hc j z hz
    exact ⟨by rw [List.getElem?_append_left (by omega)]; exact c0, by rw [List.getElem?_append_left (by omega)]; exact c1, by rw [List.getElem?_append_left (by omega)]; exact c2, B, cb, by rw [List.getElem?_append_left (by omega)]; exact c3, own_grown k5 h2 (own_types k5 hrow)⟩
  · rw [List.getElem?_append_right hj] at hz
    obtain ⟨i, hi'⟩ : ∃ i, j - l.length = i := ⟨_, rfl⟩
    rw [hi'] at hz
    cases i with
    | succ i => simp at hz
    | zero =>
      simp only [List.getElem?_cons_zero, Option.some.injEq] at hz
      subst hz
      obtain rfl : j = l.length := by omega
      refine ⟨?_, ?_, ?_, A, cap, ?_, own_grown h5 h2 (own_types h5 hrow)⟩
      · rw [List.getElem?_append_right (by omega), show l.length * 4 - xs.length = 0 by omega]; rfl
      · rw [List.getElem?_append_right (by omega), show l.length * 4 + 1 - xs.length = 1 by omega]; rfl
      · rw [List.getElem?_append_right (by omega), show l.length * 4 + 2 - xs.length = 2 by omega]; rfl
      · rw [List.getElem?_append_right (by omega), show l.length * 4 + 3 - xs.length = 3 by omega]; rfl

/-- A row of items stays where another block is turned. -/
theorem OwnD.kept {w w' : World} {base : Nat} {v : Value} {l : List It} {row : Option Nat} (h : OwnD w base v l) (hg : w.grownBy w' row) (hne : ∀ r cs t z, row = some r → w.heap[r]? = some (.cells cs t z) → t ≠ 84 ∧ t ≠ 5) : OwnD w' base v l := by
  obtain ⟨xs, ho, hl, hc⟩ := h
  have ne : ∀ {b s n : Nat} {e : TypeId} {u : Value} {ys : List Value}, (e = 84 ∨ e = 5) → w.ownsRow b e s u n ys → ∀ g, u.ownBlock = some g → some g ≠ row := fun he k g hg' e' => by
    rcases k.2 with ⟨rfl, _⟩ | ⟨g1, _, cur, rfl, _, hh, _⟩
    · simp [Value.ownBlock] at hg'
    · have e1 : g1 = g := by simpa [Value.ownBlock] using hg'
      subst e1
      obtain ⟨n1, n2⟩ := hne g1 cur _ _ e'.symm hh
      rcases he with he | he
      · exact n1 he
      · exact n2 he
  refine ⟨xs, own_grown ho hg (ne (.inl rfl) ho), hl, fun j x hx => ?_⟩
  obtain ⟨c0, c1, c2, A, cap, c3, h5⟩ := hc j x hx
  exact ⟨c0, c1, c2, A, cap, c3, own_grown h5 hg (ne (.inr rfl) h5)⟩
theorem OwnD.block {w : World} {base : Nat} {v : Value} {l : List It} (h : OwnD w base v l) : ∀ g, v.ownBlock = some g → base ≤ g ∧ ∃ cs, w.heap[g]? = some (.cells cs 84 (0, 0)) := by
  obtain ⟨xs, ho, _⟩ := h
  intro g hg
  refine ⟨(ho.lt g hg).1, ?_⟩
  rcases ho.2 with ⟨rfl, _⟩ | ⟨g1, _, cur, rfl, _, hh, _⟩
  · simp [Value.ownBlock] at hg
  · have e1 : g1 = g := by simpa [Value.ownBlock] using hg
    subst e1
    exact ⟨cur, hh⟩

theorem run_store_funcv {P : Program} {w : World} {a : Addr} {m : Mode} (f : Fn) (x y : Array Value) : (store a (.func f x y) m).run P w = stored P w a (.func f x y) m := run_store P w a _ m rfl
attribute [local go_sem] run_store_funcv
theorem cutG {A G : Prop} (h : G → A) (g : G) : A := h g
theorem RdI.part {n₀ : Nat} {w : World} {b off : Nat} {l : List It} (h : RdI n₀ w (some ⟨b, off, none⟩) l) (j m : Nat) : RdI n₀ w (some ⟨b, off + j * 4, none⟩) ((l.drop j).take m) := fun hp => by
  rw [List.length_take, List.length_drop] at hp
  obtain ⟨b', off', e, hb, hc⟩ := h (by omega)
  injection e with e
  injection e with e1 e2
  subst e1 e2
  refine ⟨b, off + j * 4, rfl, hb, fun i x hx => ?_⟩
  have hi : i < m := by
    rcases Nat.lt_or_ge i m with h1 | h1
    · exact h1
    · rw [List.getElem?_eq_none (by rw [List.length_take]; omega)] at hx; cases hx
  rw [List.getElem?_take, if_pos hi, List.getElem?_drop] at hx
  obtain ⟨c0, c1, c2, A, cap, c3, h1, h2, hr⟩ := hc (j + i) x hx
  rw [show off + (j + i) * 4 = off + j * 4 + i * 4 by omega] at c0 c1 c2 c3
  exact ⟨c0, c1, c2, A, cap, c3, h1, h2, hr⟩
theorem right_ids {l : List It} (h : rightB l = true) {j : Nat} {x : It} (hx : l[j]? = some x) : 0 ≤ x.id ∧ x.id ≤ 1000 := by
  rcases shape_kinds (right_shape l 0 h x (List.mem_of_getElem? hx)) with ⟨_, _, _, _⟩ | ⟨_, _, _, _⟩ | ⟨_, _, _, _⟩ | ⟨_, _, _⟩ <;> omega

theorem keeps_below {W W' : World} (h : Below W.heap.size W W') : KeepsOthers W W' := ⟨h.size, fun k o hk _ => (h.block k (Array.getElem?_eq_some_iff.1 hk).1).trans hk⟩
theorem keeps_grown {W W' : World} {row : Option Nat} (h : W.grownBy W' row) (hr : ∀ r, row = some r → ∃ cs t z, W.heap[r]? = some (.cells cs t z)) : KeepsOthers W W' := ⟨h.size, fun k o hk ho => by
  refine (h.block k (Array.getElem?_eq_some_iff.1 hk).1 (fun e => ?_)).trans hk
  obtain ⟨cs, t, z, hc⟩ := hr k e.symm
  rw [hk] at hc
  injection hc with hc
  subst hc
  cases ho⟩
theorem ownD_ne {W : World} {base : Nat} {v : Value} {l : List It} (h : OwnD W base v l) {B : Nat} {cs : Array Value} {t : TypeId} {z : Nat × Nat} (hb : W.heap[B]? = some (.cells cs t z)) (ht : t ≠ 84) : some B ≠ v.ownBlock := fun e => by
  obtain ⟨_, cs', hc⟩ := h.block B e.symm
  rw [hb] at hc
  injection hc with hc
  injection hc with _ h2
  exact ht h2
/-- The fields whose Ids are asked for. -/
def keptF (l : List It) (zs : List Int) (f : Nat × Nat) : List It := if askedB zs ((l[f.1]?.map It.id).getD 0).toNat = true then (l.drop f.1).take (f.2 - f.1) else []
def pdropS (l : List It) (zs : List Int) : List It := if rightB l = true then (fieldsL l).flatMap (keptF l zs) else []
def keptL {n : Nat} (l : List It) (zs : List Int) (fs : List (Fld n)) : List It := (Fld.raw fs).flatMap (keptF l zs)
theorem keptL_snoc {n : Nat} (l : List It) (zs : List Int) (fs : List (Fld n)) (x : Fld n) : keptL l zs (fs ++ [x]) = keptL l zs fs ++ keptF l zs (x.fst, x.snd) := by
  unfold keptL
  rw [Fld.raw_snoc, List.flatMap_append]
  simp

/-- What Drop returns: items in memory of their own. -/
def GotD (m : List It) (w : World) (e : Ending) (w' : World) : Prop :=
  ∃ A n c, e = .returned (.slice A n c) ∧ n = m.length ∧ n ≤ c ∧ c ≤ maxLen ∧ RdI w'.heap.size w' A m ∧ Below w.heap.size w w'
end Go.Proofs.YthdlcpnmldhllaaDoor

/-
  THE PROGRAM's Known: a record without the fields that the schema does not list, in memory of its own.
-/
namespace Go.Proofs.YthdlcpnmldhllaaDoor
open Go.RowKit
set_option linter.unusedVariables false

/-- Blocks of some types stay as they were. -/
def Stay (T : TypeId → Prop) (w w' : World) : Prop := w.heap.size ≤ w'.heap.size ∧ ∀ (k : Nat) (cs : Array Value) (t : TypeId) (z : Nat × Nat), w.heap[k]? = some (.cells cs t z) → T t → w'.heap[k]? = some (.cells cs t z)
theorem Stay.trans {T : TypeId → Prop} {a b c : World} (h : Stay T a b) (k : Stay T b c) : Stay T a c := ⟨Nat.le_trans h.1 k.1, fun i cs t z hi ht => k.2 i cs t z (h.2 i cs t z hi ht) ht⟩
theorem Stay.below {T : TypeId → Prop} {w w' : World} (h : Below w.heap.size w w') : Stay T w w' := ⟨h.size, fun k cs t z hk _ => (h.block k (Array.getElem?_eq_some_iff.1 hk).1).trans hk⟩
theorem Stay.grown {T : TypeId → Prop} {w w' : World} {row : Option Nat} (h : w.grownBy w' row) (hr : ∀ r cs t z, row = some r → w.heap[r]? = some (.cells cs t z) → ¬ T t) : Stay T w w' := ⟨h.size, fun k cs t z hk ht => by
  refine (h.block k (Array.getElem?_eq_some_iff.1 hk).1 (fun e => ?_)).trans hk
  exact hr k cs t z e.symm hk ht⟩
theorem Stay.set {T : TypeId → Prop} {w w' : World} (h : Stay T w w') {B : Nat} (hB : w.heap.size ≤ B) (j : Nat) (v : Value) : Stay T w (w'.setCell ⟨B, j, none⟩ v) := ⟨by simpa [World.setCell] using h.1, fun k cs t z hk ht => by
  rw [Below.heap_setCell _ _ _ _ (by have := (Array.getElem?_eq_some_iff.1 hk).1; show k ≠ B; omega)]
  exact h.2 k cs t z hk ht⟩
theorem Stay.turn {T : TypeId → Prop} {w : World} {B : Nat} {cs : Array Value} {t : TypeId} {z : Nat × Nat} (hb : w.heap[B]? = some (.cells cs t z)) (ht : ¬ T t) (j : Nat) (v : Value) : Stay T w (w.setCell ⟨B, j, none⟩ v) := ⟨by simp [World.setCell], fun k c1 t1 z1 hk ht1 => by
  rw [Below.heap_setCell _ _ _ _ (fun e => ?_)]
  · exact hk
  · simp only at e
    subst e
    rw [hb] at hk
    injection hk with hk
    injection hk with _ h2
    subst h2
    exact ht ht1⟩
theorem Stay.own {T : TypeId → Prop} {w w' : World} {b : Nat} {e : TypeId} {s n : Nat} {v : Value} {xs : List Value} (h : Stay T w w') (he : T e) (ho : w.ownsRow b e s v n xs) : w'.ownsRow b e s v n xs := by
  obtain ⟨h1, h2⟩ := ho
  refine ⟨h1, ?_⟩
  rcases h2 with h2 | ⟨g, cap, cur, hv, hg, hh, r⟩
  · exact .inl h2
  · exact .inr ⟨g, cap, cur, hv, hg, h.2 g cur e _ hh he, r⟩
def isRow (t : TypeId) : Prop := t = 84 ∨ t = 5
def isNum (t : TypeId) : Prop := t = 3
theorem Stay.ownD {w w' : World} {b : Nat} {v : Value} {l : List It} (h : Stay isRow w w') (ho : OwnD w b v l) : OwnD w' b v l := by
  obtain ⟨xs, h1, h2, h3⟩ := ho
  refine ⟨xs, h.own (.inl rfl) h1, h2, fun j x hx => ?_⟩
  obtain ⟨c0, c1, c2, A, cap, c3, h5⟩ := h3 j x hx
  exact ⟨c0, c1, c2, A, cap, c3, h.own (.inr rfl) h5⟩
theorem num_row : ¬ isRow 3 := by unfold isRow; decide
theorem item_num' : ¬ isNum 84 := by unfold isNum; decide
theorem own_typ {w : World} {b : Nat} {e : TypeId} {s n : Nat} {v : Value} {xs : List Value} (ho : w.ownsRow b e s v n xs) (T : TypeId → Prop) (hT : ¬ T e) : ∀ r cs t z, v.ownBlock = some r → w.heap[r]? = some (.cells cs t z) → ¬ T t := by
  intro r cs t z hr hh
  rcases ho.2 with ⟨rfl, _⟩ | ⟨g1, _, cur, rfl, _, h1, _⟩
  · simp [Value.ownBlock] at hr
  · have e1 : g1 = r := by simpa [Value.ownBlock] using hr
    subst e1
    rw [h1] at hh
    injection hh with hh
    injection hh with _ h2
    subst h2
    exact hT

/-- Bytes appended to none: a copy. -/
theorem wpList_append_copy {w : World} {ops : Array Oper} {rest : List Oper} {o : Oper} {a : Act} {Q : Exit → Act → World → Prop} (hgd : o.guard = Option.none) (s x : Operand)
    (ho : o.op = .call { callee := .builtin .append, args := #[s, x], argTypes := #[35, 35] }) (hs : a.eval s = .slice none 0 0) (A : Option Addr) (n c : Nat) (zs : List Int) (hx : a.eval x = .slice A n c) (hn : n = zs.length) (hlen : zs.length ≤ 1000000) {n₀ : Nat} (hr : Rd .u8 n₀ w A zs)
    (h : ∀ A' c' w', w'.ownsRow w.heap.size 5 1 (.slice A' zs.length c') zs.length (zs.map (Value.int .u8)) → Below w.heap.size w w' → wpList Tryd.prog ops Q rest (a.put o.dst (.slice A' zs.length c')) w') : wpList Tryd.prog ops Q (o :: rest) a w := by
  obtain ⟨i0, hi, hz0, hz1, hz2⟩ := info_parts Tryd.info5
  subst hn
  cases A with
  | none =>
    have hz : zs.length = 0 := by
      rcases Nat.eq_zero_or_pos zs.length with h | h
      · exact h
      · obtain ⟨_, _, h', _⟩ := hr h; cases h'
    obtain rfl := List.eq_nil_of_length_eq_zero hz
    refine wpList_append_nilc hgd s x 35 ho w.heap.size 5 i0 1 Tryd.underlying35 hi _ _ _ hs (World.ownsRow_nil _ _ _ _) 0 c hx rfl ?_
    exact h none 0 w (World.ownsRow_nil _ _ _ _) (Below.refl _ _)
  | some ad =>
    refine wpList_append_own _ hgd s x 35 ho w.heap.size 5 i0 (.int .u8 0) 1 1 Tryd.underlying35 hi hz0 hz1 hz2 rfl (by decide) (.slice none 0 0) 0 _ hs (World.ownsRow_nil _ _ _ _) ad zs.length c (zs.map (Value.int .u8)) hx (by simp) hr.news (one_u8 _) (by unfold maxLen; omega) (by omega) (Nat.le_refl _) ?_
    intro v1 X1 ho hg hn
    rw [Nat.zero_add, List.nil_append] at ho
    obtain ⟨V1, m1, rfl, _⟩ := own_form ho
    exact h V1 m1 X1 ho ((Below.refl w.heap.size w).grown hg (Nat.le_refl _) (fun j hj => by simp [Value.ownBlock] at hj))

/-- How the loop stands. -/
def KRel (l : List It) (w : World) (kv av iv : Value) (wr : World) : Prop :=
  ∃ (i : Nat) (q : Int) (t : List Int) (pre : List It), i ≤ l.length ∧ pre.length ≤ i ∧ iv = .int .i64 i ∧ (∀ y ∈ q :: t, 0 ≤ y ∧ y ≤ 8) ∧ t.length ≤ 8 ∧ OwnD wr w.heap.size kv pre ∧
    wr.ownsRow w.heap.size 3 1 av (t.length + 1) ((q :: t).reverse.map (Value.int .i64)) ∧ knownP l = pre ++ knownS (q :: t) (l.drop i) ∧ rightFrom t.length (l.drop i) = true ∧ Below w.heap.size w wr
theorem own_short {w : World} {b : Nat} {e : TypeId} {A : Option Addr} {n c : Nat} {xs : List Value} (h : w.ownsRow b e 1 (.slice A (n + 1) c) (n + 1) xs) : w.ownsRow b e 1 (.slice A n c) n (xs.take n) := by
  obtain ⟨h1, h2⟩ := h
  refine ⟨by rw [List.length_take]; omega, ?_⟩
  rcases h2 with ⟨_, h0⟩ | ⟨g, cap, cur, hv, hg, hh, hc, hm, hs, hx⟩
  · omega
  · injection hv with e1 _ e3
    subst e1 e3
    refine .inr ⟨g, c, cur, rfl, hg, hh, by omega, hm, hs, ?_⟩
    rw [← hx, List.take_take]
    congr 1
    omega
theorem own_top {w : World} {b : Nat} {e : TypeId} {v : Value} {n : Nat} {q : Int} {t : List Int} (hn : n = t.length) (h : w.ownsRow b e 1 v (n + 1) ((q :: t).reverse.map (Value.int .i64))) : ∃ g c, v = .slice (some ⟨g, 0, none⟩) (n + 1) c ∧ n + 1 ≤ c ∧ c ≤ maxLen ∧ w.cell? ⟨g, n, none⟩ = some (.int .i64 q) := by
  rcases h.2 with ⟨_, h0⟩ | ⟨g, cap, cur, rfl, hg, hh, hc, hm, hs, hx⟩
  · omega
  · refine ⟨g, cap, rfl, hc, hm, ?_⟩
    rw [cell_of_row w g n cur e (0, 0) hh]
    have : (cur.toList.take ((n + 1) * 1))[n]? = some (.int .i64 q) := by
      rw [hx, List.getElem?_map, List.reverse_cons, List.getElem?_append_right (by simp; omega)]
      simp [hn]
    rw [List.getElem?_take, if_pos (by omega)] at this
    simpa using this
theorem Tab.alloc {w : World} (h : Tab w) (o : Obj) : Tab (w.alloc o) := h.below ((Below.refl _ _).alloc (Nat.le_refl _) o) h.pos
theorem Tab.drewN {w : World} (h : Tab w) (n : Nat) : Tab (w.drewN n) := h
theorem inner_q (p id : Int) (q : Int) (hq : inZ p id = q) (hp : 0 ≤ p ∧ p ≤ 8) (hid : 0 ≤ id ∧ id ≤ 1000) (w : World) (hT : Tab w) : Calls Tryd.prog 45 #[.int .i64 p, .int .i64 id] w fun e w' => e = .returned (.int .i64 q) ∧ w' = w := hq ▸ inner_any p id hp hid w hT
theorem one_int (n : Int) : ∀ u ∈ [Value.int .i64 n], u.oneCell' = true := by intro u hu; simp at hu; subst hu; rfl

/-- How memory stands within a round: the places' stack, the item's box; what was there is as it was. -/
structure KS (w wr W : World) (av : Value) (n : Nat) (xs : List Value) (vals : Array Value) : Prop where
  low : Below w.heap.size wr W
  row : Stay isRow wr W
  num : W.ownsRow w.heap.size 3 1 av n xs
  box : Box W wr.heap.size vals
theorem KS.start {w wr : World} {av : Value} {n : Nat} {xs : List Value} (hbs : w.heap.size ≤ wr.heap.size) (ha : wr.ownsRow w.heap.size 3 1 av n xs) (vals : Array Value) (m : Nat) : KS w wr ((wr.alloc (.cells vals 84)).drewN m) av n xs vals :=
  have hb : Below wr.heap.size wr ((wr.alloc (.cells vals 84)).drewN m) := below_drewN ((Below.refl _ _).alloc (Nat.le_refl _) _) m
  ⟨hb.mono hbs, Stay.below hb, (Stay.below (T := isNum) hb).own rfl ha, heap_alloc_new wr _⟩
theorem KS.below {w wr W W' : World} {av : Value} {n : Nat} {xs : List Value} {vals : Array Value} (h : KS w wr W av n xs vals) (hb : Below W.heap.size W W') (hbs : w.heap.size ≤ wr.heap.size) : KS w wr W' av n xs vals :=
  ⟨h.low.trans (hb.mono (by have := h.low.size; omega)), h.row.trans (Stay.below hb), (Stay.below (T := isNum) hb).own rfl h.num, h.box.below hb h.box.lt⟩
theorem KS.grow {w wr W w7 : World} {av av' : Value} {n n' : Nat} {xs xs' : List Value} {vals : Array Value} (h : KS w wr W av n xs vals) (hbs : w.heap.size ≤ wr.heap.size) (hg : W.grownBy w7 av.ownBlock) (ho : w7.ownsRow w.heap.size 3 1 av' n' xs') : KS w wr w7 av' n' xs' vals :=
  ⟨h.low.grown hg (by have := h.low.size; omega) (fun j hj => (h.num.lt j hj).1), h.row.trans (Stay.grown hg (own_typ h.num isRow num_row)), ho,
    Box.grown h.box hg h.box.lt (fun e => own_typ h.num (fun t => t = 84) (by decide) _ _ _ _ e.symm h.box rfl)⟩
theorem KS.put {w wr W : World} {av : Value} {n : Nat} {xs : List Value} {a b c d : Value} (h : KS w wr W av n xs #[a, b, c, d]) (hbs : w.heap.size ≤ wr.heap.size) (v : Value) : KS w wr (W.setCell ⟨wr.heap.size, 3, none⟩ v) av n xs #[a, b, c, v] :=
  ⟨h.low.setCell (p := ⟨wr.heap.size, 3, none⟩) hbs v, h.row.set (Nat.le_refl _) 3 v, (Stay.turn (T := isNum) h.box item_num' 3 v).own rfl h.num, by simpa using Box.set_ h.box 3 v⟩
theorem KS.bytes {w wr W : World} {av : Value} {n : Nat} {xs : List Value} {vals : Array Value} (h : KS w wr W av n xs vals) {b k : Nat} {u : Value} {ys : List Value} (ho : W.ownsRow b 5 1 u k ys) (v : Value) : (W.setCell ⟨wr.heap.size, 3, none⟩ v).ownsRow b 5 1 u k ys :=
  (Stay.turn (T := fun t => t = 5) h.box (by decide) 3 v).own rfl ho
theorem KS.short {w wr W : World} {A : Option Addr} {n c : Nat} {xs : List Value} {vals : Array Value} (h : KS w wr W (.slice A (n + 1) c) (n + 1) xs vals) : KS w wr W (.slice A n c) n (xs.take n) vals := ⟨h.low, h.row, own_short h.num, h.box⟩
/-- An item was kept. -/
theorem KS.kept {w wr W X : World} {av kv : Value} {n : Nat} {xs : List Value} {vals : Array Value} {pre : List It} (h : KS w wr W av n xs vals) (ho : OwnD W w.heap.size kv pre) (hg : W.grownBy X kv.ownBlock) : X.ownsRow w.heap.size 3 1 av n xs := by
  obtain ⟨ys, h1, _⟩ := ho
  exact (Stay.grown (T := isNum) hg (own_typ h1 isNum item_num')).own rfl h.num
theorem rev_take {q : Int} {t : List Int} {n : Nat} (hn : n = t.length) : ((q :: t).reverse.map (Value.int .i64)).take n = t.reverse.map (Value.int .i64) := by
  rw [List.reverse_cons, List.map_append, List.take_left' (by simp [hn])]
theorem rev_cons (p q : Int) (t : List Int) : (q :: t).reverse.map (Value.int .i64) ++ [Value.int .i64 p] = (p :: q :: t).reverse.map (Value.int .i64) := by simp

set_option maxHeartbeats 16000000 in
set_option maxRecDepth 100000 in
theorem wknown_yes (a : Option Addr) (cap : Nat) (l : List It) (hlen : l.length ≤ 100000) (hbl : ∀ x ∈ l, x.bs.length ≤ 1000000) (w : World) (hr : RdI w.heap.size w a l) (hT : Tab w) (hR : rightB l = true) :
    Calls Tryd.prog 22 #[.slice a l.length cap] w (GotD (knownP l) w) := by
  have hright := pright_any a cap l (by omega) w hr
  rw [hR] at hright
  obtain ⟨i3, hi, hz0, hz1, hz2⟩ := info_parts Tryd.info3
  have hsh := Lib.hid (right_shape l 0 hR)
  have HRR := Lib.hid hR
  have HR := Lib.hid hr
  have HT := Lib.hid hT
  have hT0 := hT.pos
  clear hr hT hR
  go_enter Tryd.func22, Tryd.ntmps22
  go_wp2_with (go_at_call 31; refine hright.mono ?_; rintro e w1 ⟨rfl, hb1⟩; have H1 := Lib.hid hb1; clear hb1)
  go_loopw [3, 4, 15] (fun kv av iv wr => KRel l w kv av iv wr) (fun _ _ iv _ => l.length - (intOf iv).toNat)
  case atStart => exact ⟨0, 2, [], [], Nat.zero_le _, Nat.le_refl _, rfl, by simp, Nat.zero_le _, OwnD.nil _ _, ⟨rfl, .inr ⟨_, 1, #[.int .i64 2], rfl, H1.out.size, World.alloc_heap_new w1 _, Nat.le_refl _, by unfold maxLen; omega, rfl, rfl⟩⟩, by rw [List.nil_append]; unfold knownP; rw [if_pos HRR.out]; rfl, HRR.out, H1.out.alloc H1.out.size _⟩
  case round =>
    obtain ⟨i, q, t, pre, hil, hpi, rfl, hqs, ht8, hown, har, hkn, hrf, hbel⟩ := hrel
    have hbs := hbel.size
    have HO := Lib.hid hown
    have HB := Lib.hid hbel
    obtain ⟨n, hn⟩ : ∃ n, n = t.length := ⟨_, rfl⟩
    rw [← hn] at har ht8 hrf
    obtain ⟨g, c, rfl, hgc, hcm, hq0⟩ := own_top hn har
    have HA := Lib.hid har
    have HN := Lib.hid hn
    have hg0 := har.lt g rfl
    unfold maxLen at hcm
    clear hown hbel har hn
    by_cases hlt : i < l.length
    · obtain ⟨b, off, rfl, hb, hc⟩ := HR.out (by omega)
      obtain ⟨x, hx⟩ : ∃ x, l[i]? = some x := ⟨_, List.getElem?_eq_getElem hlt⟩
      obtain ⟨c0, c1, c2, A, cx, c3, hxc, hxm, hrb⟩ := hc i x hx
      have g0 := (HB.out.cell (p := ⟨b, off + i * 4, none⟩) hb).trans c0
      have g1 := (HB.out.cell (p := ⟨b, off + i * 4 + 1, none⟩) hb).trans c1
      have g2 := (HB.out.cell (p := ⟨b, off + i * 4 + 2, none⟩) hb).trans c2
      have g3 := (HB.out.cell (p := ⟨b, off + i * 4 + 3, none⟩) hb).trans c3
      have hdr : l.drop i = x :: l.drop (i + 1) := by rw [List.drop_eq_getElem_cons hlt]; congr 1; rw [List.getElem?_eq_getElem hlt] at hx; exact Option.some.inj hx
      rw [hdr] at hkn hrf
      obtain ⟨hsx, h0, h8, hrf1⟩ := right_step hrf
      have hbx := hbl x (List.mem_of_getElem? hx)
      have hid : 0 ≤ x.id ∧ x.id ≤ 1000 := by rcases shape_kinds hsx with ⟨_, _, _, _⟩ | ⟨_, _, _, _⟩ | ⟨_, _, _, _⟩ | ⟨_, _, _⟩ <;> omega
      have hkd := shape_kinds hsx
      rw [knownS_cons] at hkn
      obtain ⟨pl, hpl⟩ : ∃ pl, inZ q x.id = pl := ⟨_, rfl⟩
      rw [hpl] at hkn
      have hplr : 0 ≤ pl ∧ pl ≤ 8 := by rw [← hpl]; exact inZ_range q x.id
      have hin := fun W (hW : Tab W) => inner_q q x.id pl hpl (hqs q (by simp)) hid W hW
      have HIN := Lib.hid hin
      have HTW := Lib.hid (HT.out.below HB.out hT0)
      have RB := Lib.hid (hrb.below HB.out)
      have HQ := Lib.hid hqs
      obtain ⟨k, id, nn, bs⟩ := x
      simp only at *
      have j0 : (0 : Int) ≤ (n : Int) := Int.natCast_nonneg _
      have j1 : (n : Int) < ((n : Nat) : Int) + 1 := by omega
      have hcn : ¬ c = n := by omega
      clear hc c0 c1 c2 c3 hx hdr hrf hsx hin hpl hrb hqs hbl
      have hk4 : k = 1 ∨ k = 2 ∨ k = 3 ∨ k = 4 := by rcases hkd with ⟨h, _⟩ | ⟨h, _⟩ | ⟨h, _⟩ | ⟨h, _⟩ <;> omega
      clear hkd
      obtain rfl | rfl | rfl | rfl := hk4
      · have hst : step (⟨1, id, nn, bs⟩ : It) (n : Int) = (n : Int) := rfl
        rw [hst] at hrf1
        have HRF := Lib.hid hrf1
        rw [if_neg (by decide), if_neg (by decide)] at hkn
        clear hst hrf1
        by_cases hp0 : pl = 0
        · rw [if_pos hp0, List.nil_append] at hkn
          have HKN : Hid (knownP l = pre ++ knownS (q :: t) (l.drop (i + 1))) := Lib.hid hkn
          have hpb : (pl != 0) = false := by simpa using hp0
          clear hkn hp0
          go_wp2
          go_quiet ((go_at_call 45; exact Calls.quiet_of_same (HIN.out _ (Tab.drewN (Tab.alloc HTW.out _) _))))
          have K2 := Lib.hid (KS.start hbs HA.out #[.int .i64 1, .int .i64 id, .int .i64 nn, .slice A bs.length cx] nq)
          go_wp2
          go_roundw
          case rel => exact ⟨i + 1, q, t, pre, by omega, by omega, by go_num, HQ.out, by rw [← HN.out]; exact ht8, K2.out.row.ownD HO.out, by rw [← HN.out]; exact K2.out.num, HKN.out, by rw [← HN.out]; exact HRF.out, HB.out.trans K2.out.low⟩
          case measure => simp [intOf]; omega
        · rw [if_neg hp0] at hkn
          have HKN : Hid (knownP l = (pre ++ [⟨1, id, nn, bs⟩]) ++ knownS (q :: t) (l.drop (i + 1))) := Lib.hid (by rw [hkn, List.append_assoc])
          have hpb : (pl != 0) = true := by simpa using hp0
          clear hkn hp0
          go_wp2
          go_quiet ((go_at_call 45; exact Calls.quiet_of_same (HIN.out _ (Tab.drewN (Tab.alloc HTW.out _) _))))
          have K2 := Lib.hid (KS.start hbs HA.out #[.int .i64 1, .int .i64 id, .int .i64 nn, .slice A bs.length cx] nq)
          go_wp2_with (first
          | (at_builtin; refine wpList_append_copy rfl _ _ rfl rfl A bs.length cx bs rfl rfl (by omega) (RB.out.below K2.out.low) ?_; intro A8 c8 w8 ho8 hb8; have K8 := Lib.hid (K2.out.below hb8 hbs); have e0 := K8.out.box.cell 0; have e1 := K8.out.box.cell 1; have e2 := K8.out.box.cell 2; have e3 := K8.out.box.cell 3; have ef := K8.out.box.frozen 3; have K9 := Lib.hid (K8.out.put hbs (.slice A8 bs.length c8)); have O9 := Lib.hid (show (w8.setCell ⟨wr.heap.size, 3, none⟩ (.slice A8 bs.length c8)).ownsRow w.heap.size 5 1 (.slice A8 bs.length c8) bs.length (bs.map (Value.int .u8)) from own_mono (K8.out.bytes ho8 (.slice A8 bs.length c8)) (by have := K2.out.low.size; omega)); have z9 := K9.out.box.lt; simp only [List.getElem?_toArray] at e0 e1 e2 e3; clear ho8 hb8)
          | (at_builtin; refine wpList_append_part rfl _ _ rfl w.heap.size _ pre rfl ((K9.out.row.trans (Stay.below ((Below.refl _ _).alloc (Nat.le_refl _) (.cells #[.int .i64 1, .int .i64 id, .int .i64 nn, .slice A8 bs.length c8] 84)))).ownD HO.out) ⟨1, id, nn, bs⟩ A8 c8 (own_below O9.out ((Below.refl _ _).alloc (Nat.le_refl _) (.cells #[.int .i64 1, .int .i64 id, .int .i64 nn, .slice A8 bs.length c8] 84)) (fun j hj => (O9.out.lt j hj).2)) ⟨w8.heap.size, 0, none⟩ 1 rfl ?hcell1 (by omega) ?hbase1 ?_; (case hcell1 => (have hc4 := cells_built (w8.setCell ⟨wr.heap.size, 3, none⟩ (.slice A8 bs.length c8)) (.int .i64 1) (.int .i64 id) (.int .i64 nn) (.slice A8 bs.length c8); rw [show (w8.setCell ⟨wr.heap.size, 3, none⟩ (.slice A8 bs.length c8)).heap.size = w8.heap.size by simp [World.setCell]] at hc4; exact hc4)); (case hbase1 => (have h5 := K9.out.low.size; simp [World.setCell] at h5 ⊢; omega)); intro v1 X1 ho1 hb1 hg1; have N1 := Lib.hid ((K9.out.below ((Below.refl _ _).alloc (Nat.le_refl _) (.cells #[.int .i64 1, .int .i64 id, .int .i64 nn, .slice A8 bs.length c8] 84)) hbs).kept ((K9.out.row.trans (Stay.below ((Below.refl _ _).alloc (Nat.le_refl _) (.cells #[.int .i64 1, .int .i64 id, .int .i64 nn, .slice A8 bs.length c8] 84)))).ownD HO.out) hg1); have L1 := Lib.hid (HB.out.trans ((K9.out.below ((Below.refl _ _).alloc (Nat.le_refl _) (.cells #[.int .i64 1, .int .i64 id, .int .i64 nn, .slice A8 bs.length c8] 84)) hbs).low.trans hb1)); have O1 := Lib.hid ho1; clear ho1 hb1 hg1))
          go_roundw
          case rel => exact ⟨i + 1, q, t, (pre ++ [⟨1, id, nn, bs⟩]), by omega, by rw [List.length_append, List.length_singleton]; omega, by go_num, HQ.out, by rw [← HN.out]; exact ht8, O1.out, by rw [← HN.out]; exact N1.out, HKN.out, by rw [← HN.out]; exact HRF.out, L1.out⟩
          case measure => simp [intOf]; omega
      · have hst : step (⟨2, id, nn, bs⟩ : It) (n : Int) = (n : Int) := rfl
        rw [hst] at hrf1
        have HRF := Lib.hid hrf1
        rw [if_neg (by decide), if_neg (by decide)] at hkn
        clear hst hrf1
        by_cases hp0 : pl = 0
        · rw [if_pos hp0, List.nil_append] at hkn
          have HKN : Hid (knownP l = pre ++ knownS (q :: t) (l.drop (i + 1))) := Lib.hid hkn
          have hpb : (pl != 0) = false := by simpa using hp0
          clear hkn hp0
          go_wp2
          go_quiet ((go_at_call 45; exact Calls.quiet_of_same (HIN.out _ (Tab.drewN (Tab.alloc HTW.out _) _))))
          have K2 := Lib.hid (KS.start hbs HA.out #[.int .i64 2, .int .i64 id, .int .i64 nn, .slice A bs.length cx] nq)
          go_wp2
          go_roundw
          case rel => exact ⟨i + 1, q, t, pre, by omega, by omega, by go_num, HQ.out, by rw [← HN.out]; exact ht8, K2.out.row.ownD HO.out, by rw [← HN.out]; exact K2.out.num, HKN.out, by rw [← HN.out]; exact HRF.out, HB.out.trans K2.out.low⟩
          case measure => simp [intOf]; omega
        · rw [if_neg hp0] at hkn
          have HKN : Hid (knownP l = (pre ++ [⟨2, id, nn, bs⟩]) ++ knownS (q :: t) (l.drop (i + 1))) := Lib.hid (by rw [hkn, List.append_assoc])
          have hpb : (pl != 0) = true := by simpa using hp0
          clear hkn hp0
          go_wp2
          go_quiet ((go_at_call 45; exact Calls.quiet_of_same (HIN.out _ (Tab.drewN (Tab.alloc HTW.out _) _))))
          have K2 := Lib.hid (KS.start hbs HA.out #[.int .i64 2, .int .i64 id, .int .i64 nn, .slice A bs.length cx] nq)
          go_wp2_with (first
          | (at_builtin; refine wpList_append_copy rfl _ _ rfl rfl A bs.length cx bs rfl rfl (by omega) (RB.out.below K2.out.low) ?_; intro A8 c8 w8 ho8 hb8; have K8 := Lib.hid (K2.out.below hb8 hbs); have e0 := K8.out.box.cell 0; have e1 := K8.out.box.cell 1; have e2 := K8.out.box.cell 2; have e3 := K8.out.box.cell 3; have ef := K8.out.box.frozen 3; have K9 := Lib.hid (K8.out.put hbs (.slice A8 bs.length c8)); have O9 := Lib.hid (show (w8.setCell ⟨wr.heap.size, 3, none⟩ (.slice A8 bs.length c8)).ownsRow w.heap.size 5 1 (.slice A8 bs.length c8) bs.length (bs.map (Value.int .u8)) from own_mono (K8.out.bytes ho8 (.slice A8 bs.length c8)) (by have := K2.out.low.size; omega)); have z9 := K9.out.box.lt; simp only [List.getElem?_toArray] at e0 e1 e2 e3; clear ho8 hb8)
          | (at_builtin; refine wpList_append_part rfl _ _ rfl w.heap.size _ pre rfl ((K9.out.row.trans (Stay.below ((Below.refl _ _).alloc (Nat.le_refl _) (.cells #[.int .i64 2, .int .i64 id, .int .i64 nn, .slice A8 bs.length c8] 84)))).ownD HO.out) ⟨2, id, nn, bs⟩ A8 c8 (own_below O9.out ((Below.refl _ _).alloc (Nat.le_refl _) (.cells #[.int .i64 2, .int .i64 id, .int .i64 nn, .slice A8 bs.length c8] 84)) (fun j hj => (O9.out.lt j hj).2)) ⟨w8.heap.size, 0, none⟩ 1 rfl ?hcell2 (by omega) ?hbase2 ?_; (case hcell2 => (have hc4 := cells_built (w8.setCell ⟨wr.heap.size, 3, none⟩ (.slice A8 bs.length c8)) (.int .i64 2) (.int .i64 id) (.int .i64 nn) (.slice A8 bs.length c8); rw [show (w8.setCell ⟨wr.heap.size, 3, none⟩ (.slice A8 bs.length c8)).heap.size = w8.heap.size by simp [World.setCell]] at hc4; exact hc4)); (case hbase2 => (have h5 := K9.out.low.size; simp [World.setCell] at h5 ⊢; omega)); intro v1 X1 ho1 hb1 hg1; have N1 := Lib.hid ((K9.out.below ((Below.refl _ _).alloc (Nat.le_refl _) (.cells #[.int .i64 2, .int .i64 id, .int .i64 nn, .slice A8 bs.length c8] 84)) hbs).kept ((K9.out.row.trans (Stay.below ((Below.refl _ _).alloc (Nat.le_refl _) (.cells #[.int .i64 2, .int .i64 id, .int .i64 nn, .slice A8 bs.length c8] 84)))).ownD HO.out) hg1); have L1 := Lib.hid (HB.out.trans ((K9.out.below ((Below.refl _ _).alloc (Nat.le_refl _) (.cells #[.int .i64 2, .int .i64 id, .int .i64 nn, .slice A8 bs.length c8] 84)) hbs).low.trans hb1)); have O1 := Lib.hid ho1; clear ho1 hb1 hg1))
          go_roundw
          case rel => exact ⟨i + 1, q, t, (pre ++ [⟨2, id, nn, bs⟩]), by omega, by rw [List.length_append, List.length_singleton]; omega, by go_num, HQ.out, by rw [← HN.out]; exact ht8, O1.out, by rw [← HN.out]; exact N1.out, HKN.out, by rw [← HN.out]; exact HRF.out, L1.out⟩
          case measure => simp [intOf]; omega
      · have hst : step (⟨3, id, nn, bs⟩ : It) (n : Int) = ((n + 1 : Nat) : Int) := by unfold step; simp
        rw [hst] at hrf1 h8
        have HRF := Lib.hid hrf1
        rw [if_pos rfl] at hkn
        clear hst hrf1
        by_cases hp0 : pl = 0
        · rw [if_pos hp0, List.nil_append] at hkn
          have HKN : Hid (knownP l = pre ++ knownS (pl :: q :: t) (l.drop (i + 1))) := Lib.hid hkn
          have hpb : (pl != 0) = false := by simpa using hp0
          clear hkn hp0
          go_wp2
          go_quiet ((go_at_call 45; exact Calls.quiet_of_same (HIN.out _ (Tab.drewN (Tab.alloc HTW.out _) _))))
          have K2 := Lib.hid (KS.start hbs HA.out #[.int .i64 3, .int .i64 id, .int .i64 nn, .slice A bs.length cx] nq)
          go_wp2_with (first
          | (at_builtin; refine wpList_append_lies _ rfl _ _ 98 rfl w.heap.size 3 i3 (.int .i64 0) 1 8 Tryd.underlying98 hi hz0 hz1 hz2 rfl (by decide) _ (n + 1) _ rfl (K2.out.below ((Below.refl _ _).alloc (Nat.le_refl _) (.cells #[.int .i64 pl] 3)) hbs).num ⟨wr.heap.size + 1, 0, none⟩ 1 1 [.int .i64 pl] rfl rfl (World.news_of_block (by have h0 := World.alloc_heap_new ((wr.alloc (.cells #[.int .i64 3, .int .i64 id, .int .i64 nn, .slice A bs.length cx] 84)).drewN nq) (.cells #[.int .i64 pl] 3); simpa using h0)) (one_int _) (by decide) (by unfold maxLen; omega) (by omega) (by simp; omega) _ rfl ?_; intro g7 c7 w7 ho7 hg7 _ _; have K3 := Lib.hid ((K2.out.below ((Below.refl _ _).alloc (Nat.le_refl _) (.cells #[.int .i64 pl] 3)) hbs).grow hbs hg7 ho7); have d3 := K3.out.box.cell 3; simp only [List.getElem?_toArray] at d3; clear ho7 hg7))
          go_roundw
          case rel => exact ⟨i + 1, pl, (q :: t), pre, by omega, by omega, by go_num, fun y hy => (List.mem_cons.1 hy).elim (fun e => by rw [e]; exact hplr) (fun hy => HQ.out y hy), by have := HN.out; simp only [List.length_cons]; omega, K3.out.row.ownD HO.out, by have h := HN.out; rw [← rev_cons, List.length_cons, ← h]; exact K3.out.num, HKN.out, by have h := HRF.out; have h2 := HN.out; rw [List.length_cons, ← h2]; exact h, HB.out.trans K3.out.low⟩
          case measure => simp [intOf]; omega
        · rw [if_neg hp0] at hkn
          have HKN : Hid (knownP l = (pre ++ [⟨3, id, nn, bs⟩]) ++ knownS (pl :: q :: t) (l.drop (i + 1))) := Lib.hid (by rw [hkn, List.append_assoc])
          have hpb : (pl != 0) = true := by simpa using hp0
          clear hkn hp0
          go_wp2
          go_quiet ((go_at_call 45; exact Calls.quiet_of_same (HIN.out _ (Tab.drewN (Tab.alloc HTW.out _) _))))
          have K2 := Lib.hid (KS.start hbs HA.out #[.int .i64 3, .int .i64 id, .int .i64 nn, .slice A bs.length cx] nq)
          go_wp2_with (first
          | (at_builtin; refine wpList_append_lies _ rfl _ _ 98 rfl w.heap.size 3 i3 (.int .i64 0) 1 8 Tryd.underlying98 hi hz0 hz1 hz2 rfl (by decide) _ (n + 1) _ rfl (K2.out.below ((Below.refl _ _).alloc (Nat.le_refl _) (.cells #[.int .i64 pl] 3)) hbs).num ⟨wr.heap.size + 1, 0, none⟩ 1 1 [.int .i64 pl] rfl rfl (World.news_of_block (by have h0 := World.alloc_heap_new ((wr.alloc (.cells #[.int .i64 3, .int .i64 id, .int .i64 nn, .slice A bs.length cx] 84)).drewN nq) (.cells #[.int .i64 pl] 3); simpa using h0)) (one_int _) (by decide) (by unfold maxLen; omega) (by omega) (by simp; omega) _ rfl ?_; intro g7 c7 w7 ho7 hg7 _ _; have K3 := Lib.hid ((K2.out.below ((Below.refl _ _).alloc (Nat.le_refl _) (.cells #[.int .i64 pl] 3)) hbs).grow hbs hg7 ho7); have d3 := K3.out.box.cell 3; simp only [List.getElem?_toArray] at d3; clear ho7 hg7)
          | (at_builtin; refine wpList_append_copy rfl _ _ rfl rfl A bs.length cx bs rfl rfl (by omega) (RB.out.below K3.out.low) ?_; intro A8 c8 w8 ho8 hb8; have K8 := Lib.hid (K3.out.below hb8 hbs); have e0 := K8.out.box.cell 0; have e1 := K8.out.box.cell 1; have e2 := K8.out.box.cell 2; have e3 := K8.out.box.cell 3; have ef := K8.out.box.frozen 3; have K9 := Lib.hid (K8.out.put hbs (.slice A8 bs.length c8)); have O9 := Lib.hid (show (w8.setCell ⟨wr.heap.size, 3, none⟩ (.slice A8 bs.length c8)).ownsRow w.heap.size 5 1 (.slice A8 bs.length c8) bs.length (bs.map (Value.int .u8)) from own_mono (K8.out.bytes ho8 (.slice A8 bs.length c8)) (by have := K3.out.low.size; omega)); have z9 := K9.out.box.lt; simp only [List.getElem?_toArray] at e0 e1 e2 e3; clear ho8 hb8)
          | (at_builtin; refine wpList_append_part rfl _ _ rfl w.heap.size _ pre rfl ((K9.out.row.trans (Stay.below ((Below.refl _ _).alloc (Nat.le_refl _) (.cells #[.int .i64 3, .int .i64 id, .int .i64 nn, .slice A8 bs.length c8] 84)))).ownD HO.out) ⟨3, id, nn, bs⟩ A8 c8 (own_below O9.out ((Below.refl _ _).alloc (Nat.le_refl _) (.cells #[.int .i64 3, .int .i64 id, .int .i64 nn, .slice A8 bs.length c8] 84)) (fun j hj => (O9.out.lt j hj).2)) ⟨w8.heap.size, 0, none⟩ 1 rfl ?hcell3 (by omega) ?hbase3 ?_; (case hcell3 => (have hc4 := cells_built (w8.setCell ⟨wr.heap.size, 3, none⟩ (.slice A8 bs.length c8)) (.int .i64 3) (.int .i64 id) (.int .i64 nn) (.slice A8 bs.length c8); rw [show (w8.setCell ⟨wr.heap.size, 3, none⟩ (.slice A8 bs.length c8)).heap.size = w8.heap.size by simp [World.setCell]] at hc4; exact hc4)); (case hbase3 => (have h5 := K9.out.low.size; simp [World.setCell] at h5 ⊢; omega)); intro v1 X1 ho1 hb1 hg1; have N1 := Lib.hid ((K9.out.below ((Below.refl _ _).alloc (Nat.le_refl _) (.cells #[.int .i64 3, .int .i64 id, .int .i64 nn, .slice A8 bs.length c8] 84)) hbs).kept ((K9.out.row.trans (Stay.below ((Below.refl _ _).alloc (Nat.le_refl _) (.cells #[.int .i64 3, .int .i64 id, .int .i64 nn, .slice A8 bs.length c8] 84)))).ownD HO.out) hg1); have L1 := Lib.hid (HB.out.trans ((K9.out.below ((Below.refl _ _).alloc (Nat.le_refl _) (.cells #[.int .i64 3, .int .i64 id, .int .i64 nn, .slice A8 bs.length c8] 84)) hbs).low.trans hb1)); have O1 := Lib.hid ho1; clear ho1 hb1 hg1))
          go_roundw
          case rel => exact ⟨i + 1, pl, (q :: t), (pre ++ [⟨3, id, nn, bs⟩]), by omega, by rw [List.length_append, List.length_singleton]; omega, by go_num, fun y hy => (List.mem_cons.1 hy).elim (fun e => by rw [e]; exact hplr) (fun hy => HQ.out y hy), by have := HN.out; simp only [List.length_cons]; omega, O1.out, by have h := HN.out; rw [← rev_cons, List.length_cons, ← h]; exact N1.out, HKN.out, by have h := HRF.out; have h2 := HN.out; rw [List.length_cons, ← h2]; exact h, L1.out⟩
          case measure => simp [intOf]; omega
      · have hst : step (⟨4, id, nn, bs⟩ : It) (n : Int) = (n : Int) - 1 := by unfold step; simp
        rw [hst] at hrf1 h0
        obtain ⟨q2, t2, rfl⟩ : ∃ q2 t2, t = q2 :: t2 := by
          cases t with
          | nil => have := HN.out; simp at this; omega
          | cons q2 t2 => exact ⟨q2, t2, rfl⟩
        have HRF := Lib.hid hrf1
        rw [if_neg (by decide), if_pos rfl] at hkn
        clear hst hrf1
        by_cases hp0 : q = 0
        · rw [if_pos hp0, List.nil_append] at hkn
          have HKN : Hid (knownP l = pre ++ knownS (q2 :: t2) (l.drop (i + 1))) := Lib.hid hkn
          have hpb : (q != 0) = false := by simpa using hp0
          clear hkn hp0
          go_wp2
          go_quiet ((go_at_call 45; exact Calls.quiet_of_same (HIN.out _ (Tab.drewN (Tab.alloc HTW.out _) _))))
          have K2 := Lib.hid (KS.start hbs HA.out #[.int .i64 4, .int .i64 id, .int .i64 nn, .slice A bs.length cx] nq)
          have K3 := Lib.hid K2.out.short
          go_wp2
          go_roundw
          case rel => exact ⟨i + 1, q2, t2, pre, by omega, by omega, by go_num, fun y hy => HQ.out y (List.mem_cons_of_mem _ hy), by have := HN.out; simp only [List.length_cons] at this; omega, K3.out.row.ownD HO.out, by have h := K3.out.num; rw [rev_take HN.out] at h; have h2 := HN.out; simp only [List.length_cons] at h2; rw [← h2]; exact h, HKN.out, by have h := HRF.out; have h2 := HN.out; rw [show ((t2.length : Nat) : Int) = (n : Int) - 1 by simp only [List.length_cons] at h2; omega]; exact h, HB.out.trans K3.out.low⟩
          case measure => simp [intOf]; omega
        · rw [if_neg hp0] at hkn
          have HKN : Hid (knownP l = (pre ++ [⟨4, id, nn, bs⟩]) ++ knownS (q2 :: t2) (l.drop (i + 1))) := Lib.hid (by rw [hkn, List.append_assoc])
          have hpb : (q != 0) = true := by simpa using hp0
          clear hkn hp0
          go_wp2
          go_quiet ((go_at_call 45; exact Calls.quiet_of_same (HIN.out _ (Tab.drewN (Tab.alloc HTW.out _) _))))
          have K2 := Lib.hid (KS.start hbs HA.out #[.int .i64 4, .int .i64 id, .int .i64 nn, .slice A bs.length cx] nq)
          have K3 := Lib.hid K2.out.short
          go_wp2_with (first
          | (at_builtin; refine wpList_append_copy rfl _ _ rfl rfl A bs.length cx bs rfl rfl (by omega) (RB.out.below K3.out.low) ?_; intro A8 c8 w8 ho8 hb8; have K8 := Lib.hid (K3.out.below hb8 hbs); have e0 := K8.out.box.cell 0; have e1 := K8.out.box.cell 1; have e2 := K8.out.box.cell 2; have e3 := K8.out.box.cell 3; have ef := K8.out.box.frozen 3; have K9 := Lib.hid (K8.out.put hbs (.slice A8 bs.length c8)); have O9 := Lib.hid (show (w8.setCell ⟨wr.heap.size, 3, none⟩ (.slice A8 bs.length c8)).ownsRow w.heap.size 5 1 (.slice A8 bs.length c8) bs.length (bs.map (Value.int .u8)) from own_mono (K8.out.bytes ho8 (.slice A8 bs.length c8)) (by have := K3.out.low.size; omega)); have z9 := K9.out.box.lt; simp only [List.getElem?_toArray] at e0 e1 e2 e3; clear ho8 hb8)
          | (at_builtin; refine wpList_append_part rfl _ _ rfl w.heap.size _ pre rfl ((K9.out.row.trans (Stay.below ((Below.refl _ _).alloc (Nat.le_refl _) (.cells #[.int .i64 4, .int .i64 id, .int .i64 nn, .slice A8 bs.length c8] 84)))).ownD HO.out) ⟨4, id, nn, bs⟩ A8 c8 (own_below O9.out ((Below.refl _ _).alloc (Nat.le_refl _) (.cells #[.int .i64 4, .int .i64 id, .int .i64 nn, .slice A8 bs.length c8] 84)) (fun j hj => (O9.out.lt j hj).2)) ⟨w8.heap.size, 0, none⟩ 1 rfl ?hcell4 (by omega) ?hbase4 ?_; (case hcell4 => (have hc4 := cells_built (w8.setCell ⟨wr.heap.size, 3, none⟩ (.slice A8 bs.length c8)) (.int .i64 4) (.int .i64 id) (.int .i64 nn) (.slice A8 bs.length c8); rw [show (w8.setCell ⟨wr.heap.size, 3, none⟩ (.slice A8 bs.length c8)).heap.size = w8.heap.size by simp [World.setCell]] at hc4; exact hc4)); (case hbase4 => (have h5 := K9.out.low.size; simp [World.setCell] at h5 ⊢; omega)); intro v1 X1 ho1 hb1 hg1; have N1 := Lib.hid ((K9.out.below ((Below.refl _ _).alloc (Nat.le_refl _) (.cells #[.int .i64 4, .int .i64 id, .int .i64 nn, .slice A8 bs.length c8] 84)) hbs).kept ((K9.out.row.trans (Stay.below ((Below.refl _ _).alloc (Nat.le_refl _) (.cells #[.int .i64 4, .int .i64 id, .int .i64 nn, .slice A8 bs.length c8] 84)))).ownD HO.out) hg1); have L1 := Lib.hid (HB.out.trans ((K9.out.below ((Below.refl _ _).alloc (Nat.le_refl _) (.cells #[.int .i64 4, .int .i64 id, .int .i64 nn, .slice A8 bs.length c8] 84)) hbs).low.trans hb1)); have O1 := Lib.hid ho1; clear ho1 hb1 hg1))
          go_roundw
          case rel => exact ⟨i + 1, q2, t2, (pre ++ [⟨4, id, nn, bs⟩]), by omega, by rw [List.length_append, List.length_singleton]; omega, by go_num, fun y hy => HQ.out y (List.mem_cons_of_mem _ hy), by have := HN.out; simp only [List.length_cons] at this; omega, O1.out, by have h := N1.out; rw [rev_take HN.out] at h; have h2 := HN.out; simp only [List.length_cons] at h2; rw [← h2]; exact h, HKN.out, by have h := HRF.out; have h2 := HN.out; rw [show ((t2.length : Nat) : Int) = (n : Int) - 1 by simp only [List.length_cons] at h2; omega]; exact h, L1.out⟩
          case measure => simp [intOf]; omega
    · obtain rfl : i = l.length := by omega
      have hk : knownP l = pre := by rw [hkn, List.drop_length, knownS_nil, List.append_nil]
      have HK := Lib.hid hk
      clear hkn hk
      go_wp2
      go_ret
      obtain ⟨A, m, c2, rfl, e1, e2, e3⟩ := HO.out.form_n
      rw [HK.out]
      exact ⟨A, m, c2, rfl, e1, e2, e3, HO.out.rd, HB.out⟩
theorem wknown_no (a : Option Addr) (cap : Nat) (l : List It) (hlen : l.length ≤ 100000) (w : World) (hr : RdI w.heap.size w a l) (hR : rightB l = false) :
    Calls Tryd.prog 22 #[.slice a l.length cap] w (GotD (knownP l) w) := by
  have hright := pright_any a cap l (by omega) w hr
  rw [hR] at hright
  have HK := Lib.hid (show knownP l = [] by unfold knownP; rw [if_neg (by simp [hR])])
  clear hr hR
  go_enter Tryd.func22, Tryd.ntmps22
  go_wp2_with (go_at_call 31; refine hright.mono ?_; rintro e w1 ⟨rfl, hb1⟩; have H1 := Lib.hid hb1; clear hb1)
  go_ret
  rw [HK.out]
  exact ⟨none, 0, 0, rfl, rfl, Nat.le_refl _, Nat.zero_le _, fun hp => by simp at hp, H1.out⟩
/-- KNOWN, of any items. -/
theorem wknown_any {a : Option Addr} {n cap : Nat} {l : List It} (hn : n = l.length) (hlen : l.length ≤ 100000) (hbl : ∀ x ∈ l, x.bs.length ≤ 1000000) {w : World} (hr : RdI w.heap.size w a l) (hT : Tab w) :
    Calls Tryd.prog 22 #[.slice a n cap] w (GotD (knownP l) w) := by
  subst hn
  rcases Bool.eq_false_or_eq_true (rightB l) with hR | hR
  · exact wknown_yes a cap l hlen hbl w hr hT hR
  · exact wknown_no a cap l hlen w hr hR
end Go.Proofs.YthdlcpnmldhllaaDoor

namespace Go.Proofs.YthdlcpnmldhllaaDoor
open Go.RowKit Go.Shelf
set_option linter.unusedVariables false

/-- The packet of some bytes. -/
def decW (zs : List Int) : Option PackT := match decB zs with
  | none => none
  | some l => if (readS (knownP l)).2 = true then some (readS (knownP l)).1 else none
/-- What Decode returns. -/
def DecOut (r : Option PackT) (w : World) (e : Ending) (w' : World) : Prop := match r with
  | none => e = .returned (.tuple #[.agg #[.int .i64 0, .int .i64 0, .int .i64 0, .int .i64 0, .int .i64 0, .int .i64 0, .int .i64 0, .int .i64 0, .int .i64 0, .int .i64 0, .int .i64 0, .bool false, .bool false, .int .i64 0, .int .i64 0, .int .i64 0, .int .i64 0, .int .i64 0, .int .i64 0, .int .i64 0, .bool false, .slice none 0 0, .slice none 0 0, .int .i64 0, .int .i64 0, .int .i64 0, .int .i64 0, .int .i64 0, .int .i64 0, .int .i64 0, .int .i64 0, .slice none 0 0], .int .i64 2]) ∧ Below w.heap.size w w'
  | some q => ∃ (Ae Ar Ah : Option Addr) (Ce Cr Ch : Nat), e = .returned (.tuple #[.agg #[.int .i64 q.kind, .int .i64 q.lie.node, .int .i64 q.lie.level, .int .i64 q.lie.pod, .int .i64 q.lie.mtu, .int .i64 q.lie.link, .int .i64 q.lie.nonce, .int .i64 q.lie.seen, .int .i64 q.lie.seenLink, .int .i64 q.lie.seenNonce, .int .i64 q.lie.hold, .bool q.lie.rep, .bool q.lie.noOffer, .int .i64 q.tie.head.id.dir, .int .i64 q.tie.head.id.orig, .int .i64 q.tie.head.id.kind, .int .i64 q.tie.head.id.nr, .int .i64 q.tie.head.seq, .int .i64 q.tie.head.life, .int .i64 q.tie.level, .bool q.tie.over, .slice Ae q.tie.edges.length Ce, .slice Ar q.tie.reaches.length Cr, .int .i64 q.frm.dir, .int .i64 q.frm.orig, .int .i64 q.frm.kind, .int .i64 q.frm.nr, .int .i64 q.to.dir, .int .i64 q.to.orig, .int .i64 q.to.kind, .int .i64 q.to.nr, .slice Ah q.heads.length Ch], .int .i64 0]) ∧ Pk w'.heap.size w' q Ae Ar Ah Ce Cr Ch ∧ Below w.heap.size w w'
theorem DecOut.none_ {r : Option PackT} (h : r = none) {w w' : World} (hb : Below w.heap.size w w') : DecOut r w (.returned (.tuple #[.agg #[.int .i64 0, .int .i64 0, .int .i64 0, .int .i64 0, .int .i64 0, .int .i64 0, .int .i64 0, .int .i64 0, .int .i64 0, .int .i64 0, .int .i64 0, .bool false, .bool false, .int .i64 0, .int .i64 0, .int .i64 0, .int .i64 0, .int .i64 0, .int .i64 0, .int .i64 0, .bool false, .slice none 0 0, .slice none 0 0, .int .i64 0, .int .i64 0, .int .i64 0, .int .i64 0, .int .i64 0, .int .i64 0, .int .i64 0, .int .i64 0, .slice none 0 0], .int .i64 2])) w' := by
  subst h
  exact ⟨rfl, hb⟩
theorem DecOut.some_ {r : Option PackT} {q : PackT} (h : r = some q) {w w' : World} {Ae Ar Ah : Option Addr} {Ce Cr Ch : Nat} (hp : Pk w'.heap.size w' q Ae Ar Ah Ce Cr Ch) (hb : Below w.heap.size w w') : DecOut r w (.returned (.tuple #[.agg #[.int .i64 q.kind, .int .i64 q.lie.node, .int .i64 q.lie.level, .int .i64 q.lie.pod, .int .i64 q.lie.mtu, .int .i64 q.lie.link, .int .i64 q.lie.nonce, .int .i64 q.lie.seen, .int .i64 q.lie.seenLink, .int .i64 q.lie.seenNonce, .int .i64 q.lie.hold, .bool q.lie.rep, .bool q.lie.noOffer, .int .i64 q.tie.head.id.dir, .int .i64 q.tie.head.id.orig, .int .i64 q.tie.head.id.kind, .int .i64 q.tie.head.id.nr, .int .i64 q.tie.head.seq, .int .i64 q.tie.head.life, .int .i64 q.tie.level, .bool q.tie.over, .slice Ae q.tie.edges.length Ce, .slice Ar q.tie.reaches.length Cr, .int .i64 q.frm.dir, .int .i64 q.frm.orig, .int .i64 q.frm.kind, .int .i64 q.frm.nr, .int .i64 q.to.dir, .int .i64 q.to.orig, .int .i64 q.to.kind, .int .i64 q.to.nr, .slice Ah q.heads.length Ch], .int .i64 0])) w' := by
  subst h
  exact ⟨Ae, Ar, Ah, Ce, Cr, Ch, rfl, hp, hb⟩
theorem there_keep {W W' : World} {b n : Nat} {cs : Array Value} {t : TypeId} (h : W.heap[b]? = some (.cells cs t (0, 0))) (hn : n ≤ cs.size) {n₀ : Nat} (hb : Below n₀ W W') (hlt : b < n₀) : W'.there b 0 n := there_of ((hb.block b hlt).trans h) hn
theorem dec_bs {zs : List Int} {l : List It} (hz : ∀ x ∈ zs, 0 ≤ x ∧ x ≤ 255) (h : decB zs = some l) : rightB l = true ∧ encL l = zs ∧ (∀ x ∈ l, x.ok ∧ x.bs.length ≤ zs.length) ∧ l.length ≤ zs.length ∧ zs.length ≤ 4096 := by
  unfold decB at h
  by_cases h4 : 4096 < zs.length
  · rw [if_pos h4] at h; cases h
  rw [if_neg h4] at h
  rcases hd : decS zs.length zs with _ | m
  · rw [hd] at h; cases h
  · rw [hd] at h
    simp only at h
    by_cases hr : rightB m = true
    · rw [if_pos hr] at h
      injection h with h
      subst h
      obtain ⟨e1, e2, e3⟩ := decS_props _ _ _ hz hd
      exact ⟨hr, e1, e2, e3, by omega⟩
    · rw [if_neg hr] at h; cases h
set_option maxRecDepth 100000 in
set_option maxHeartbeats 8000000 in
theorem wdec_form (a : Option Addr) (cap : Nat) (zs : List Int) (hlen : zs.length ≤ 9223372036854775807) (hcap : zs.length ≤ cap) (hcm : cap ≤ 9223372036854775807) (hz : ∀ x ∈ zs, 0 ≤ x ∧ x ≤ 255) (w : World) (hr : Rd .u8 w.heap.size w a zs) (hd : decB zs = none) :
    Calls Tryd.prog 8 #[.slice a zs.length cap] w (DecOut (decW zs) w) := by
  have hB0 := (Below.refl w.heap.size w).alloc (Nat.le_refl _) (.cells #[.int .i64 0, .int .i64 0, .int .i64 0, .int .i64 0, .int .i64 0, .int .i64 0, .int .i64 0, .int .i64 0, .int .i64 0, .int .i64 0, .int .i64 0, .bool false, .bool false, .int .i64 0, .int .i64 0, .int .i64 0, .int .i64 0, .int .i64 0, .int .i64 0, .int .i64 0, .bool false, .slice none 0 0, .slice none 0 0, .int .i64 0, .int .i64 0, .int .i64 0, .int .i64 0, .int .i64 0, .int .i64 0, .int .i64 0, .int .i64 0, .slice none 0 0] 34)
  have hbk : (w.alloc (.cells #[.int .i64 0, .int .i64 0, .int .i64 0, .int .i64 0, .int .i64 0, .int .i64 0, .int .i64 0, .int .i64 0, .int .i64 0, .int .i64 0, .int .i64 0, .bool false, .bool false, .int .i64 0, .int .i64 0, .int .i64 0, .int .i64 0, .int .i64 0, .int .i64 0, .int .i64 0, .bool false, .slice none 0 0, .slice none 0 0, .int .i64 0, .int .i64 0, .int .i64 0, .int .i64 0, .int .i64 0, .int .i64 0, .int .i64 0, .int .i64 0, .slice none 0 0] 34)).heap[w.heap.size]? = some (.cells #[.int .i64 0, .int .i64 0, .int .i64 0, .int .i64 0, .int .i64 0, .int .i64 0, .int .i64 0, .int .i64 0, .int .i64 0, .int .i64 0, .int .i64 0, .bool false, .bool false, .int .i64 0, .int .i64 0, .int .i64 0, .int .i64 0, .int .i64 0, .int .i64 0, .int .i64 0, .bool false, .slice none 0 0, .slice none 0 0, .int .i64 0, .int .i64 0, .int .i64 0, .int .i64 0, .int .i64 0, .int .i64 0, .int .i64 0, .int .i64 0, .slice none 0 0] 34 (0, 0)) := World.alloc_heap_new w _
  have hdec := pdecode_any a cap zs hlen hcap hcm hz (w.alloc (.cells #[.int .i64 0, .int .i64 0, .int .i64 0, .int .i64 0, .int .i64 0, .int .i64 0, .int .i64 0, .int .i64 0, .int .i64 0, .int .i64 0, .int .i64 0, .bool false, .bool false, .int .i64 0, .int .i64 0, .int .i64 0, .int .i64 0, .int .i64 0, .int .i64 0, .int .i64 0, .bool false, .slice none 0 0, .slice none 0 0, .int .i64 0, .int .i64 0, .int .i64 0, .int .i64 0, .int .i64 0, .int .i64 0, .int .i64 0, .int .i64 0, .slice none 0 0] 34)) ((hr.below hB0).mono (by simp))
  rw [hd] at hdec
  have HD := Lib.hid (show decW zs = none by unfold decW; rw [hd])
  have HDEC := Lib.hid hdec
  have HB0 := Lib.hid hB0
  have HK := Lib.hid hbk
  clear hr hd hdec hB0 hbk hz
  go_enter Tryd.func8, Tryd.ntmps8
  go_wp2_with (first
    | (go_at_call 20; refine HDEC.out.mono ?_; rintro e w1 ⟨rfl, hb⟩; have BX := Lib.hid hb; clear hb)
    | (refine wpList_store_mid rfl 34 (.tmp 2) _ rfl w.heap.size 0 #[.int .i64 0, .int .i64 0, .int .i64 0, .int .i64 0, .int .i64 0, .int .i64 0, .int .i64 0, .int .i64 0, .int .i64 0, .int .i64 0, .int .i64 0, .bool false, .bool false, .int .i64 0, .int .i64 0, .int .i64 0, .int .i64 0, .int .i64 0, .int .i64 0, .int .i64 0, .bool false, .slice none 0 0, .slice none 0 0, .int .i64 0, .int .i64 0, .int .i64 0, .int .i64 0, .int .i64 0, .int .i64 0, .int .i64 0, .int .i64 0, .slice none 0 0] rfl rfl (there_keep (n := 32) HK.out (Nat.le_refl _) BX.out (by simp)) (by kernel_rfl) (by simp [Value.oneCell']) ?_; obtain ⟨W5, hW5⟩ : ∃ W5, World.setCells w1 w.heap.size 0 [.int .i64 0, .int .i64 0, .int .i64 0, .int .i64 0, .int .i64 0, .int .i64 0, .int .i64 0, .int .i64 0, .int .i64 0, .int .i64 0, .int .i64 0, .bool false, .bool false, .int .i64 0, .int .i64 0, .int .i64 0, .int .i64 0, .int .i64 0, .int .i64 0, .int .i64 0, .bool false, .slice none 0 0, .slice none 0 0, .int .i64 0, .int .i64 0, .int .i64 0, .int .i64 0, .int .i64 0, .int .i64 0, .int .i64 0, .int .i64 0, .slice none 0 0] = W5 := ⟨_, rfl⟩; rw [hW5]; have HW5 := Lib.hid hW5; clear hW5))
  refine bodyPost_ret (results_cell2 rfl rfl (b := w.heap.size) (o := 0) (cs := [.int .i64 0, .int .i64 0, .int .i64 0, .int .i64 0, .int .i64 0, .int .i64 0, .int .i64 0, .int .i64 0, .int .i64 0, .int .i64 0, .int .i64 0, .bool false, .bool false, .int .i64 0, .int .i64 0, .int .i64 0, .int .i64 0, .int .i64 0, .int .i64 0, .int .i64 0, .bool false, .slice none 0 0, .slice none 0 0, .int .i64 0, .int .i64 0, .int .i64 0, .int .i64 0, .int .i64 0, .int .i64 0, .int .i64 0, .int .i64 0, .slice none 0 0]) (by rw [← HW5.out]; exact World.rangeAt_setCells_same _ _ _ _ (there_keep (n := 32) HK.out (Nat.le_refl _) BX.out (by simp))) Tryd.underlying34 rfl (by kernel_rfl)) rfl ?_
  exact DecOut.none_ HD.out (by rw [← HW5.out]; exact below_cells (HB0.out.trans (BX.out.mono (by simp))) (Nat.le_refl _) _ _)
set_option maxRecDepth 100000 in
set_option maxHeartbeats 8000000 in
theorem wdec_bad (a : Option Addr) (cap : Nat) (zs : List Int) (hlen : zs.length ≤ 9223372036854775807) (hcap : zs.length ≤ cap) (hcm : cap ≤ 9223372036854775807) (hz : ∀ x ∈ zs, 0 ≤ x ∧ x ≤ 255) (w : World) (hr : Rd .u8 w.heap.size w a zs) (hT : Tab w) (l : List It) (hd : decB zs = some l) (hro : (readS (knownP l)).2 = false) :
    Calls Tryd.prog 8 #[.slice a zs.length cap] w (DecOut (decW zs) w) := by
  have hB0 := (Below.refl w.heap.size w).alloc (Nat.le_refl _) (.cells #[.int .i64 0, .int .i64 0, .int .i64 0, .int .i64 0, .int .i64 0, .int .i64 0, .int .i64 0, .int .i64 0, .int .i64 0, .int .i64 0, .int .i64 0, .bool false, .bool false, .int .i64 0, .int .i64 0, .int .i64 0, .int .i64 0, .int .i64 0, .int .i64 0, .int .i64 0, .bool false, .slice none 0 0, .slice none 0 0, .int .i64 0, .int .i64 0, .int .i64 0, .int .i64 0, .int .i64 0, .int .i64 0, .int .i64 0, .int .i64 0, .slice none 0 0] 34)
  have hbk : (w.alloc (.cells #[.int .i64 0, .int .i64 0, .int .i64 0, .int .i64 0, .int .i64 0, .int .i64 0, .int .i64 0, .int .i64 0, .int .i64 0, .int .i64 0, .int .i64 0, .bool false, .bool false, .int .i64 0, .int .i64 0, .int .i64 0, .int .i64 0, .int .i64 0, .int .i64 0, .int .i64 0, .bool false, .slice none 0 0, .slice none 0 0, .int .i64 0, .int .i64 0, .int .i64 0, .int .i64 0, .int .i64 0, .int .i64 0, .int .i64 0, .int .i64 0, .slice none 0 0] 34)).heap[w.heap.size]? = some (.cells #[.int .i64 0, .int .i64 0, .int .i64 0, .int .i64 0, .int .i64 0, .int .i64 0, .int .i64 0, .int .i64 0, .int .i64 0, .int .i64 0, .int .i64 0, .bool false, .bool false, .int .i64 0, .int .i64 0, .int .i64 0, .int .i64 0, .int .i64 0, .int .i64 0, .int .i64 0, .bool false, .slice none 0 0, .slice none 0 0, .int .i64 0, .int .i64 0, .int .i64 0, .int .i64 0, .int .i64 0, .int .i64 0, .int .i64 0, .int .i64 0, .slice none 0 0] 34 (0, 0)) := World.alloc_heap_new w _
  have hdec := pdecode_any a cap zs hlen hcap hcm hz (w.alloc (.cells #[.int .i64 0, .int .i64 0, .int .i64 0, .int .i64 0, .int .i64 0, .int .i64 0, .int .i64 0, .int .i64 0, .int .i64 0, .int .i64 0, .int .i64 0, .bool false, .bool false, .int .i64 0, .int .i64 0, .int .i64 0, .int .i64 0, .int .i64 0, .int .i64 0, .int .i64 0, .bool false, .slice none 0 0, .slice none 0 0, .int .i64 0, .int .i64 0, .int .i64 0, .int .i64 0, .int .i64 0, .int .i64 0, .int .i64 0, .int .i64 0, .slice none 0 0] 34)) ((hr.below hB0).mono (by simp))
  rw [hd] at hdec
  obtain ⟨e1, e2, e3, e4, e5⟩ := dec_bs hz hd
  obtain ⟨q, hq⟩ : ∃ q, (readS (knownP l)).1 = q := ⟨_, rfl⟩
  have HD := Lib.hid (show decW zs = none by unfold decW; rw [hd]; simp only; rw [if_neg (by simp [hro])])
  have hrd := fun (a : Option Addr) (n c : Nat) (hn : n = (knownP l).length) (hc : n ≤ c) (hm : c ≤ maxLen) (W : World) (hr : RdI W.heap.size W a (knownP l)) => read_any a n c (knownP l) hn hc hm W hr
  rw [hro, hq] at hrd
  have hkn := fun (a : Option Addr) (n c : Nat) (hn : n = l.length) (W : World) (hr : RdI W.heap.size W a l) (hT : Tab W) => wknown_any (a := a) (cap := c) hn (by omega) (fun x hx => by have := (e3 x hx).2; omega) hr hT
  have HDEC := Lib.hid hdec
  have HRD := Lib.hid hrd
  have HKN := Lib.hid hkn
  have HT0 := Lib.hid (hT.below hB0 hT.pos)
  have hpos := hT.pos
  have HB0 := Lib.hid hB0
  have HK := Lib.hid hbk
  clear hr hd hdec hB0 hbk hz hrd hkn hro hq e1 e2 e3 e4 e5 hT
  go_enter Tryd.func8, Tryd.ntmps8
  go_wp2_with (first
    | (go_at_call 20; refine HDEC.out.mono ?_; rintro e w1 ⟨A1, n1, c1, rfl, hn1, hc1, hm1, hr1, hb1⟩; have B1 := Lib.hid hb1; have N1 := Lib.hid hn1; have R1 := Lib.hid hr1; have T1 := Lib.hid (HT0.out.below hb1 (by simp)); clear hb1 hn1 hr1)
    | (go_at_call 22; refine (HKN.out A1 n1 c1 N1.out _ R1.out T1.out).mono ?_; rintro e w2 ⟨A2, n2, c2, rfl, hn2, hc2, hm2, hr2, hb2⟩; have B2 := Lib.hid (B1.out.trans (hb2.mono B1.out.size)); have N2 := Lib.hid hn2; have R2 := Lib.hid hr2; clear hb2 hn2 hr2)
    | (go_at_call 21; refine (HRD.out A2 n2 c2 N2.out hc2 hm2 _ R2.out).mono ?_; rintro e w3 ⟨Ae, Ar, Ah, Ce, Cr, Ch, rfl, hpk, hfar, hb3⟩; have TH4 := Lib.hid (there_of (n := 32) (World.alloc_heap_new w3 (.cells #[.int .i64 0, .int .i64 0, .int .i64 0, .int .i64 0, .int .i64 0, .int .i64 0, .int .i64 0, .int .i64 0, .int .i64 0, .int .i64 0, .int .i64 0, .bool false, .bool false, .int .i64 0, .int .i64 0, .int .i64 0, .int .i64 0, .int .i64 0, .int .i64 0, .int .i64 0, .bool false, .slice none 0 0, .slice none 0 0, .int .i64 0, .int .i64 0, .int .i64 0, .int .i64 0, .int .i64 0, .int .i64 0, .int .i64 0, .int .i64 0, .slice none 0 0] 34)) (Nat.le_refl _)); have RG0 : RowKit.Hid (((w3.alloc (.cells #[.int .i64 0, .int .i64 0, .int .i64 0, .int .i64 0, .int .i64 0, .int .i64 0, .int .i64 0, .int .i64 0, .int .i64 0, .int .i64 0, .int .i64 0, .bool false, .bool false, .int .i64 0, .int .i64 0, .int .i64 0, .int .i64 0, .int .i64 0, .int .i64 0, .int .i64 0, .bool false, .slice none 0 0, .slice none 0 0, .int .i64 0, .int .i64 0, .int .i64 0, .int .i64 0, .int .i64 0, .int .i64 0, .int .i64 0, .int .i64 0, .slice none 0 0] 34)).setCells w3.heap.size 0 [.int .i64 q.kind, .int .i64 q.lie.node, .int .i64 q.lie.level, .int .i64 q.lie.pod, .int .i64 q.lie.mtu, .int .i64 q.lie.link, .int .i64 q.lie.nonce, .int .i64 q.lie.seen, .int .i64 q.lie.seenLink, .int .i64 q.lie.seenNonce, .int .i64 q.lie.hold, .bool q.lie.rep, .bool q.lie.noOffer, .int .i64 q.tie.head.id.dir, .int .i64 q.tie.head.id.orig, .int .i64 q.tie.head.id.kind, .int .i64 q.tie.head.id.nr, .int .i64 q.tie.head.seq, .int .i64 q.tie.head.life, .int .i64 q.tie.level, .bool q.tie.over, .slice Ae q.tie.edges.length Ce, .slice Ar q.tie.reaches.length Cr, .int .i64 q.frm.dir, .int .i64 q.frm.orig, .int .i64 q.frm.kind, .int .i64 q.frm.nr, .int .i64 q.to.dir, .int .i64 q.to.orig, .int .i64 q.to.kind, .int .i64 q.to.nr, .slice Ah q.heads.length Ch]).rangeAt w3.heap.size 0 [.int .i64 q.kind, .int .i64 q.lie.node, .int .i64 q.lie.level, .int .i64 q.lie.pod, .int .i64 q.lie.mtu, .int .i64 q.lie.link, .int .i64 q.lie.nonce, .int .i64 q.lie.seen, .int .i64 q.lie.seenLink, .int .i64 q.lie.seenNonce, .int .i64 q.lie.hold, .bool q.lie.rep, .bool q.lie.noOffer, .int .i64 q.tie.head.id.dir, .int .i64 q.tie.head.id.orig, .int .i64 q.tie.head.id.kind, .int .i64 q.tie.head.id.nr, .int .i64 q.tie.head.seq, .int .i64 q.tie.head.life, .int .i64 q.tie.level, .bool q.tie.over, .slice Ae q.tie.edges.length Ce, .slice Ar q.tie.reaches.length Cr, .int .i64 q.frm.dir, .int .i64 q.frm.orig, .int .i64 q.frm.kind, .int .i64 q.frm.nr, .int .i64 q.to.dir, .int .i64 q.to.orig, .int .i64 q.to.kind, .int .i64 q.to.nr, .slice Ah q.heads.length Ch]) := World.rangeAt_setCells_same _ _ _ _ TH4.out; have BX0 := Lib.hid (below_cells ((B2.out.trans (hb3.mono B2.out.size)).alloc (by have := B2.out.size; have := hb3.size; omega) (.cells #[.int .i64 0, .int .i64 0, .int .i64 0, .int .i64 0, .int .i64 0, .int .i64 0, .int .i64 0, .int .i64 0, .int .i64 0, .int .i64 0, .int .i64 0, .bool false, .bool false, .int .i64 0, .int .i64 0, .int .i64 0, .int .i64 0, .int .i64 0, .int .i64 0, .int .i64 0, .bool false, .slice none 0 0, .slice none 0 0, .int .i64 0, .int .i64 0, .int .i64 0, .int .i64 0, .int .i64 0, .int .i64 0, .int .i64 0, .int .i64 0, .slice none 0 0] 34)) (b := w3.heap.size) (by have := B2.out.size; have := hb3.size; omega) [.int .i64 q.kind, .int .i64 q.lie.node, .int .i64 q.lie.level, .int .i64 q.lie.pod, .int .i64 q.lie.mtu, .int .i64 q.lie.link, .int .i64 q.lie.nonce, .int .i64 q.lie.seen, .int .i64 q.lie.seenLink, .int .i64 q.lie.seenNonce, .int .i64 q.lie.hold, .bool q.lie.rep, .bool q.lie.noOffer, .int .i64 q.tie.head.id.dir, .int .i64 q.tie.head.id.orig, .int .i64 q.tie.head.id.kind, .int .i64 q.tie.head.id.nr, .int .i64 q.tie.head.seq, .int .i64 q.tie.head.life, .int .i64 q.tie.level, .bool q.tie.over, .slice Ae q.tie.edges.length Ce, .slice Ar q.tie.reaches.length Cr, .int .i64 q.frm.dir, .int .i64 q.frm.orig, .int .i64 q.frm.kind, .int .i64 q.frm.nr, .int .i64 q.to.dir, .int .i64 q.to.orig, .int .i64 q.to.kind, .int .i64 q.to.nr, .slice Ah q.heads.length Ch] 0); have PK0 := Lib.hid ((hpk.below (below_cells ((Below.refl _ _).alloc (Nat.le_refl _) (.cells #[.int .i64 0, .int .i64 0, .int .i64 0, .int .i64 0, .int .i64 0, .int .i64 0, .int .i64 0, .int .i64 0, .int .i64 0, .int .i64 0, .int .i64 0, .bool false, .bool false, .int .i64 0, .int .i64 0, .int .i64 0, .int .i64 0, .int .i64 0, .int .i64 0, .int .i64 0, .bool false, .slice none 0 0, .slice none 0 0, .int .i64 0, .int .i64 0, .int .i64 0, .int .i64 0, .int .i64 0, .int .i64 0, .int .i64 0, .int .i64 0, .slice none 0 0] 34)) (b := w3.heap.size) (Nat.le_refl _) [.int .i64 q.kind, .int .i64 q.lie.node, .int .i64 q.lie.level, .int .i64 q.lie.pod, .int .i64 q.lie.mtu, .int .i64 q.lie.link, .int .i64 q.lie.nonce, .int .i64 q.lie.seen, .int .i64 q.lie.seenLink, .int .i64 q.lie.seenNonce, .int .i64 q.lie.hold, .bool q.lie.rep, .bool q.lie.noOffer, .int .i64 q.tie.head.id.dir, .int .i64 q.tie.head.id.orig, .int .i64 q.tie.head.id.kind, .int .i64 q.tie.head.id.nr, .int .i64 q.tie.head.seq, .int .i64 q.tie.head.life, .int .i64 q.tie.level, .bool q.tie.over, .slice Ae q.tie.edges.length Ce, .slice Ar q.tie.reaches.length Cr, .int .i64 q.frm.dir, .int .i64 q.frm.orig, .int .i64 q.frm.kind, .int .i64 q.frm.nr, .int .i64 q.to.dir, .int .i64 q.to.orig, .int .i64 q.to.kind, .int .i64 q.to.nr, .slice Ah q.heads.length Ch] 0)).mono (by rw [size_cells]; simp : w3.heap.size ≤ ((w3.alloc (.cells #[.int .i64 0, .int .i64 0, .int .i64 0, .int .i64 0, .int .i64 0, .int .i64 0, .int .i64 0, .int .i64 0, .int .i64 0, .int .i64 0, .int .i64 0, .bool false, .bool false, .int .i64 0, .int .i64 0, .int .i64 0, .int .i64 0, .int .i64 0, .int .i64 0, .int .i64 0, .bool false, .slice none 0 0, .slice none 0 0, .int .i64 0, .int .i64 0, .int .i64 0, .int .i64 0, .int .i64 0, .int .i64 0, .int .i64 0, .int .i64 0, .slice none 0 0] 34)).setCells w3.heap.size 0 [.int .i64 q.kind, .int .i64 q.lie.node, .int .i64 q.lie.level, .int .i64 q.lie.pod, .int .i64 q.lie.mtu, .int .i64 q.lie.link, .int .i64 q.lie.nonce, .int .i64 q.lie.seen, .int .i64 q.lie.seenLink, .int .i64 q.lie.seenNonce, .int .i64 q.lie.hold, .bool q.lie.rep, .bool q.lie.noOffer, .int .i64 q.tie.head.id.dir, .int .i64 q.tie.head.id.orig, .int .i64 q.tie.head.id.kind, .int .i64 q.tie.head.id.nr, .int .i64 q.tie.head.seq, .int .i64 q.tie.head.life, .int .i64 q.tie.level, .bool q.tie.over, .slice Ae q.tie.edges.length Ce, .slice Ar q.tie.reaches.length Cr, .int .i64 q.frm.dir, .int .i64 q.frm.orig, .int .i64 q.frm.kind, .int .i64 q.frm.nr, .int .i64 q.to.dir, .int .i64 q.to.orig, .int .i64 q.to.kind, .int .i64 q.to.nr, .slice Ah q.heads.length Ch]).heap.size)); have FA := Lib.hid (hfar.mono B2.out.size); clear hb3 hpk hfar)
    | (refine wpList_store_mid rfl 34 (.tmp 6) (.tmp 20) rfl w3.heap.size 0 #[.int .i64 q.kind, .int .i64 q.lie.node, .int .i64 q.lie.level, .int .i64 q.lie.pod, .int .i64 q.lie.mtu, .int .i64 q.lie.link, .int .i64 q.lie.nonce, .int .i64 q.lie.seen, .int .i64 q.lie.seenLink, .int .i64 q.lie.seenNonce, .int .i64 q.lie.hold, .bool q.lie.rep, .bool q.lie.noOffer, .int .i64 q.tie.head.id.dir, .int .i64 q.tie.head.id.orig, .int .i64 q.tie.head.id.kind, .int .i64 q.tie.head.id.nr, .int .i64 q.tie.head.seq, .int .i64 q.tie.head.life, .int .i64 q.tie.level, .bool q.tie.over, .slice Ae q.tie.edges.length Ce, .slice Ar q.tie.reaches.length Cr, .int .i64 q.frm.dir, .int .i64 q.frm.orig, .int .i64 q.frm.kind, .int .i64 q.frm.nr, .int .i64 q.to.dir, .int .i64 q.to.orig, .int .i64 q.to.kind, .int .i64 q.to.nr, .slice Ah q.heads.length Ch] rfl rfl TH4.out (by kernel_rfl) (by simp [Value.oneCell']) ?_; obtain ⟨W4, hW4⟩ : ∃ W4, ((w3.alloc (.cells #[.int .i64 0, .int .i64 0, .int .i64 0, .int .i64 0, .int .i64 0, .int .i64 0, .int .i64 0, .int .i64 0, .int .i64 0, .int .i64 0, .int .i64 0, .bool false, .bool false, .int .i64 0, .int .i64 0, .int .i64 0, .int .i64 0, .int .i64 0, .int .i64 0, .int .i64 0, .bool false, .slice none 0 0, .slice none 0 0, .int .i64 0, .int .i64 0, .int .i64 0, .int .i64 0, .int .i64 0, .int .i64 0, .int .i64 0, .int .i64 0, .slice none 0 0] 34)).setCells w3.heap.size 0 [.int .i64 q.kind, .int .i64 q.lie.node, .int .i64 q.lie.level, .int .i64 q.lie.pod, .int .i64 q.lie.mtu, .int .i64 q.lie.link, .int .i64 q.lie.nonce, .int .i64 q.lie.seen, .int .i64 q.lie.seenLink, .int .i64 q.lie.seenNonce, .int .i64 q.lie.hold, .bool q.lie.rep, .bool q.lie.noOffer, .int .i64 q.tie.head.id.dir, .int .i64 q.tie.head.id.orig, .int .i64 q.tie.head.id.kind, .int .i64 q.tie.head.id.nr, .int .i64 q.tie.head.seq, .int .i64 q.tie.head.life, .int .i64 q.tie.level, .bool q.tie.over, .slice Ae q.tie.edges.length Ce, .slice Ar q.tie.reaches.length Cr, .int .i64 q.frm.dir, .int .i64 q.frm.orig, .int .i64 q.frm.kind, .int .i64 q.frm.nr, .int .i64 q.to.dir, .int .i64 q.to.orig, .int .i64 q.to.kind, .int .i64 q.to.nr, .slice Ah q.heads.length Ch]) = W4 := ⟨_, rfl⟩; rw [hW4] at BX0 PK0 RG0 ⊢; have BX := Lib.hid BX0.out; have PK := Lib.hid PK0.out; have RG := Lib.hid RG0.out; clear hW4 BX0 PK0 RG0)
    | (refine wpList_load_mid rfl 34 (.tmp 6) rfl _ _ rfl _ _ RG.out Tryd.underlying34 rfl (by kernel_rfl) ?_)
    | (refine wpList_store_mid rfl 34 (.tmp 2) _ rfl w.heap.size 0 #[.int .i64 0, .int .i64 0, .int .i64 0, .int .i64 0, .int .i64 0, .int .i64 0, .int .i64 0, .int .i64 0, .int .i64 0, .int .i64 0, .int .i64 0, .bool false, .bool false, .int .i64 0, .int .i64 0, .int .i64 0, .int .i64 0, .int .i64 0, .int .i64 0, .int .i64 0, .bool false, .slice none 0 0, .slice none 0 0, .int .i64 0, .int .i64 0, .int .i64 0, .int .i64 0, .int .i64 0, .int .i64 0, .int .i64 0, .int .i64 0, .slice none 0 0] rfl rfl (there_keep (n := 32) HK.out (Nat.le_refl _) BX.out (by simp)) (by kernel_rfl) (by simp [Value.oneCell']) ?_; obtain ⟨W5, hW5⟩ : ∃ W5, World.setCells W4 w.heap.size 0 [.int .i64 0, .int .i64 0, .int .i64 0, .int .i64 0, .int .i64 0, .int .i64 0, .int .i64 0, .int .i64 0, .int .i64 0, .int .i64 0, .int .i64 0, .bool false, .bool false, .int .i64 0, .int .i64 0, .int .i64 0, .int .i64 0, .int .i64 0, .int .i64 0, .int .i64 0, .bool false, .slice none 0 0, .slice none 0 0, .int .i64 0, .int .i64 0, .int .i64 0, .int .i64 0, .int .i64 0, .int .i64 0, .int .i64 0, .int .i64 0, .slice none 0 0] = W5 := ⟨_, rfl⟩; rw [hW5]; have HW5 := Lib.hid hW5; clear hW5))
  refine bodyPost_ret (results_cell2 rfl rfl (b := w.heap.size) (o := 0) (cs := [.int .i64 0, .int .i64 0, .int .i64 0, .int .i64 0, .int .i64 0, .int .i64 0, .int .i64 0, .int .i64 0, .int .i64 0, .int .i64 0, .int .i64 0, .bool false, .bool false, .int .i64 0, .int .i64 0, .int .i64 0, .int .i64 0, .int .i64 0, .int .i64 0, .int .i64 0, .bool false, .slice none 0 0, .slice none 0 0, .int .i64 0, .int .i64 0, .int .i64 0, .int .i64 0, .int .i64 0, .int .i64 0, .int .i64 0, .int .i64 0, .slice none 0 0]) (by rw [← HW5.out]; exact World.rangeAt_setCells_same _ _ _ _ (there_keep (n := 32) HK.out (Nat.le_refl _) BX.out (by simp))) Tryd.underlying34 rfl (by kernel_rfl)) rfl ?_
  exact DecOut.none_ HD.out (by rw [← HW5.out]; exact below_cells (HB0.out.trans (BX.out.mono (by simp))) (Nat.le_refl _) _ _)
set_option maxRecDepth 100000 in
set_option maxHeartbeats 8000000 in
theorem wdec_ok (a : Option Addr) (cap : Nat) (zs : List Int) (hlen : zs.length ≤ 9223372036854775807) (hcap : zs.length ≤ cap) (hcm : cap ≤ 9223372036854775807) (hz : ∀ x ∈ zs, 0 ≤ x ∧ x ≤ 255) (w : World) (hr : Rd .u8 w.heap.size w a zs) (hT : Tab w) (l : List It) (hd : decB zs = some l) (hro : (readS (knownP l)).2 = true) :
    Calls Tryd.prog 8 #[.slice a zs.length cap] w (DecOut (decW zs) w) := by
  have hB0 := (Below.refl w.heap.size w).alloc (Nat.le_refl _) (.cells #[.int .i64 0, .int .i64 0, .int .i64 0, .int .i64 0, .int .i64 0, .int .i64 0, .int .i64 0, .int .i64 0, .int .i64 0, .int .i64 0, .int .i64 0, .bool false, .bool false, .int .i64 0, .int .i64 0, .int .i64 0, .int .i64 0, .int .i64 0, .int .i64 0, .int .i64 0, .bool false, .slice none 0 0, .slice none 0 0, .int .i64 0, .int .i64 0, .int .i64 0, .int .i64 0, .int .i64 0, .int .i64 0, .int .i64 0, .int .i64 0, .slice none 0 0] 34)
  have hbk : (w.alloc (.cells #[.int .i64 0, .int .i64 0, .int .i64 0, .int .i64 0, .int .i64 0, .int .i64 0, .int .i64 0, .int .i64 0, .int .i64 0, .int .i64 0, .int .i64 0, .bool false, .bool false, .int .i64 0, .int .i64 0, .int .i64 0, .int .i64 0, .int .i64 0, .int .i64 0, .int .i64 0, .bool false, .slice none 0 0, .slice none 0 0, .int .i64 0, .int .i64 0, .int .i64 0, .int .i64 0, .int .i64 0, .int .i64 0, .int .i64 0, .int .i64 0, .slice none 0 0] 34)).heap[w.heap.size]? = some (.cells #[.int .i64 0, .int .i64 0, .int .i64 0, .int .i64 0, .int .i64 0, .int .i64 0, .int .i64 0, .int .i64 0, .int .i64 0, .int .i64 0, .int .i64 0, .bool false, .bool false, .int .i64 0, .int .i64 0, .int .i64 0, .int .i64 0, .int .i64 0, .int .i64 0, .int .i64 0, .bool false, .slice none 0 0, .slice none 0 0, .int .i64 0, .int .i64 0, .int .i64 0, .int .i64 0, .int .i64 0, .int .i64 0, .int .i64 0, .int .i64 0, .slice none 0 0] 34 (0, 0)) := World.alloc_heap_new w _
  have hdec := pdecode_any a cap zs hlen hcap hcm hz (w.alloc (.cells #[.int .i64 0, .int .i64 0, .int .i64 0, .int .i64 0, .int .i64 0, .int .i64 0, .int .i64 0, .int .i64 0, .int .i64 0, .int .i64 0, .int .i64 0, .bool false, .bool false, .int .i64 0, .int .i64 0, .int .i64 0, .int .i64 0, .int .i64 0, .int .i64 0, .int .i64 0, .bool false, .slice none 0 0, .slice none 0 0, .int .i64 0, .int .i64 0, .int .i64 0, .int .i64 0, .int .i64 0, .int .i64 0, .int .i64 0, .int .i64 0, .slice none 0 0] 34)) ((hr.below hB0).mono (by simp))
  rw [hd] at hdec
  obtain ⟨e1, e2, e3, e4, e5⟩ := dec_bs hz hd
  obtain ⟨q, hq⟩ : ∃ q, (readS (knownP l)).1 = q := ⟨_, rfl⟩
  have HD := Lib.hid (show decW zs = some q by unfold decW; rw [hd]; simp only; rw [if_pos hro, hq])
  have hrd := fun (a : Option Addr) (n c : Nat) (hn : n = (knownP l).length) (hc : n ≤ c) (hm : c ≤ maxLen) (W : World) (hr : RdI W.heap.size W a (knownP l)) => read_any a n c (knownP l) hn hc hm W hr
  rw [hro, hq] at hrd
  have hkn := fun (a : Option Addr) (n c : Nat) (hn : n = l.length) (W : World) (hr : RdI W.heap.size W a l) (hT : Tab W) => wknown_any (a := a) (cap := c) hn (by omega) (fun x hx => by have := (e3 x hx).2; omega) hr hT
  have HDEC := Lib.hid hdec
  have HRD := Lib.hid hrd
  have HKN := Lib.hid hkn
  have HT0 := Lib.hid (hT.below hB0 hT.pos)
  have hpos := hT.pos
  have HB0 := Lib.hid hB0
  have HK := Lib.hid hbk
  clear hr hd hdec hB0 hbk hz hrd hkn hro hq e1 e2 e3 e4 e5 hT
  go_enter Tryd.func8, Tryd.ntmps8
  go_wp2_with (first
    | (go_at_call 20; refine HDEC.out.mono ?_; rintro e w1 ⟨A1, n1, c1, rfl, hn1, hc1, hm1, hr1, hb1⟩; have B1 := Lib.hid hb1; have N1 := Lib.hid hn1; have R1 := Lib.hid hr1; have T1 := Lib.hid (HT0.out.below hb1 (by simp)); clear hb1 hn1 hr1)
    | (go_at_call 22; refine (HKN.out A1 n1 c1 N1.out _ R1.out T1.out).mono ?_; rintro e w2 ⟨A2, n2, c2, rfl, hn2, hc2, hm2, hr2, hb2⟩; have B2 := Lib.hid (B1.out.trans (hb2.mono B1.out.size)); have N2 := Lib.hid hn2; have R2 := Lib.hid hr2; clear hb2 hn2 hr2)
    | (go_at_call 21; refine (HRD.out A2 n2 c2 N2.out hc2 hm2 _ R2.out).mono ?_; rintro e w3 ⟨Ae, Ar, Ah, Ce, Cr, Ch, rfl, hpk, hfar, hb3⟩; have TH4 := Lib.hid (there_of (n := 32) (World.alloc_heap_new w3 (.cells #[.int .i64 0, .int .i64 0, .int .i64 0, .int .i64 0, .int .i64 0, .int .i64 0, .int .i64 0, .int .i64 0, .int .i64 0, .int .i64 0, .int .i64 0, .bool false, .bool false, .int .i64 0, .int .i64 0, .int .i64 0, .int .i64 0, .int .i64 0, .int .i64 0, .int .i64 0, .bool false, .slice none 0 0, .slice none 0 0, .int .i64 0, .int .i64 0, .int .i64 0, .int .i64 0, .int .i64 0, .int .i64 0, .int .i64 0, .int .i64 0, .slice none 0 0] 34)) (Nat.le_refl _)); have RG0 : RowKit.Hid (((w3.alloc (.cells #[.int .i64 0, .int .i64 0, .int .i64 0, .int .i64 0, .int .i64 0, .int .i64 0, .int .i64 0, .int .i64 0, .int .i64 0, .int .i64 0, .int .i64 0, .bool false, .bool false, .int .i64 0, .int .i64 0, .int .i64 0, .int .i64 0, .int .i64 0, .int .i64 0, .int .i64 0, .bool false, .slice none 0 0, .slice none 0 0, .int .i64 0, .int .i64 0, .int .i64 0, .int .i64 0, .int .i64 0, .int .i64 0, .int .i64 0, .int .i64 0, .slice none 0 0] 34)).setCells w3.heap.size 0 [.int .i64 q.kind, .int .i64 q.lie.node, .int .i64 q.lie.level, .int .i64 q.lie.pod, .int .i64 q.lie.mtu, .int .i64 q.lie.link, .int .i64 q.lie.nonce, .int .i64 q.lie.seen, .int .i64 q.lie.seenLink, .int .i64 q.lie.seenNonce, .int .i64 q.lie.hold, .bool q.lie.rep, .bool q.lie.noOffer, .int .i64 q.tie.head.id.dir, .int .i64 q.tie.head.id.orig, .int .i64 q.tie.head.id.kind, .int .i64 q.tie.head.id.nr, .int .i64 q.tie.head.seq, .int .i64 q.tie.head.life, .int .i64 q.tie.level, .bool q.tie.over, .slice Ae q.tie.edges.length Ce, .slice Ar q.tie.reaches.length Cr, .int .i64 q.frm.dir, .int .i64 q.frm.orig, .int .i64 q.frm.kind, .int .i64 q.frm.nr, .int .i64 q.to.dir, .int .i64 q.to.orig, .int .i64 q.to.kind, .int .i64 q.to.nr, .slice Ah q.heads.length Ch]).rangeAt w3.heap.size 0 [.int .i64 q.kind, .int .i64 q.lie.node, .int .i64 q.lie.level, .int .i64 q.lie.pod, .int .i64 q.lie.mtu, .int .i64 q.lie.link, .int .i64 q.lie.nonce, .int .i64 q.lie.seen, .int .i64 q.lie.seenLink, .int .i64 q.lie.seenNonce, .int .i64 q.lie.hold, .bool q.lie.rep, .bool q.lie.noOffer, .int .i64 q.tie.head.id.dir, .int .i64 q.tie.head.id.orig, .int .i64 q.tie.head.id.kind, .int .i64 q.tie.head.id.nr, .int .i64 q.tie.head.seq, .int .i64 q.tie.head.life, .int .i64 q.tie.level, .bool q.tie.over, .slice Ae q.tie.edges.length Ce, .slice Ar q.tie.reaches.length Cr, .int .i64 q.frm.dir, .int .i64 q.frm.orig, .int .i64 q.frm.kind, .int .i64 q.frm.nr, .int .i64 q.to.dir, .int .i64 q.to.orig, .int .i64 q.to.kind, .int .i64 q.to.nr, .slice Ah q.heads.length Ch]) := World.rangeAt_setCells_same _ _ _ _ TH4.out; have BX0 := Lib.hid (below_cells ((B2.out.trans (hb3.mono B2.out.size)).alloc (by have := B2.out.size; have := hb3.size; omega) (.cells #[.int .i64 0, .int .i64 0, .int .i64 0, .int .i64 0, .int .i64 0, .int .i64 0, .int .i64 0, .int .i64 0, .int .i64 0, .int .i64 0, .int .i64 0, .bool false, .bool false, .int .i64 0, .int .i64 0, .int .i64 0, .int .i64 0, .int .i64 0, .int .i64 0, .int .i64 0, .bool false, .slice none 0 0, .slice none 0 0, .int .i64 0, .int .i64 0, .int .i64 0, .int .i64 0, .int .i64 0, .int .i64 0, .int .i64 0, .int .i64 0, .slice none 0 0] 34)) (b := w3.heap.size) (by have := B2.out.size; have := hb3.size; omega) [.int .i64 q.kind, .int .i64 q.lie.node, .int .i64 q.lie.level, .int .i64 q.lie.pod, .int .i64 q.lie.mtu, .int .i64 q.lie.link, .int .i64 q.lie.nonce, .int .i64 q.lie.seen, .int .i64 q.lie.seenLink, .int .i64 q.lie.seenNonce, .int .i64 q.lie.hold, .bool q.lie.rep, .bool q.lie.noOffer, .int .i64 q.tie.head.id.dir, .int .i64 q.tie.head.id.orig, .int .i64 q.tie.head.id.kind, .int .i64 q.tie.head.id.nr, .int .i64 q.tie.head.seq, .int .i64 q.tie.head.life, .int .i64 q.tie.level, .bool q.tie.over, .slice Ae q.tie.edges.length Ce, .slice Ar q.tie.reaches.length Cr, .int .i64 q.frm.dir, .int .i64 q.frm.orig, .int .i64 q.frm.kind, .int .i64 q.frm.nr, .int .i64 q.to.dir, .int .i64 q.to.orig, .int .i64 q.to.kind, .int .i64 q.to.nr, .slice Ah q.heads.length Ch] 0); have PK0 := Lib.hid ((hpk.below (below_cells ((Below.refl _ _).alloc (Nat.le_refl _) (.cells #[.int .i64 0, .int .i64 0, .int .i64 0, .int .i64 0, .int .i64 0, .int .i64 0, .int .i64 0, .int .i64 0, .int .i64 0, .int .i64 0, .int .i64 0, .bool false, .bool false, .int .i64 0, .int .i64 0, .int .i64 0, .int .i64 0, .int .i64 0, .int .i64 0, .int .i64 0, .bool false, .slice none 0 0, .slice none 0 0, .int .i64 0, .int .i64 0, .int .i64 0, .int .i64 0, .int .i64 0, .int .i64 0, .int .i64 0, .int .i64 0, .slice none 0 0] 34)) (b := w3.heap.size) (Nat.le_refl _) [.int .i64 q.kind, .int .i64 q.lie.node, .int .i64 q.lie.level, .int .i64 q.lie.pod, .int .i64 q.lie.mtu, .int .i64 q.lie.link, .int .i64 q.lie.nonce, .int .i64 q.lie.seen, .int .i64 q.lie.seenLink, .int .i64 q.lie.seenNonce, .int .i64 q.lie.hold, .bool q.lie.rep, .bool q.lie.noOffer, .int .i64 q.tie.head.id.dir, .int .i64 q.tie.head.id.orig, .int .i64 q.tie.head.id.kind, .int .i64 q.tie.head.id.nr, .int .i64 q.tie.head.seq, .int .i64 q.tie.head.life, .int .i64 q.tie.level, .bool q.tie.over, .slice Ae q.tie.edges.length Ce, .slice Ar q.tie.reaches.length Cr, .int .i64 q.frm.dir, .int .i64 q.frm.orig, .int .i64 q.frm.kind, .int .i64 q.frm.nr, .int .i64 q.to.dir, .int .i64 q.to.orig, .int .i64 q.to.kind, .int .i64 q.to.nr, .slice Ah q.heads.length Ch] 0)).mono (by rw [size_cells]; simp : w3.heap.size ≤ ((w3.alloc (.cells #[.int .i64 0, .int .i64 0, .int .i64 0, .int .i64 0, .int .i64 0, .int .i64 0, .int .i64 0, .int .i64 0, .int .i64 0, .int .i64 0, .int .i64 0, .bool false, .bool false, .int .i64 0, .int .i64 0, .int .i64 0, .int .i64 0, .int .i64 0, .int .i64 0, .int .i64 0, .bool false, .slice none 0 0, .slice none 0 0, .int .i64 0, .int .i64 0, .int .i64 0, .int .i64 0, .int .i64 0, .int .i64 0, .int .i64 0, .int .i64 0, .slice none 0 0] 34)).setCells w3.heap.size 0 [.int .i64 q.kind, .int .i64 q.lie.node, .int .i64 q.lie.level, .int .i64 q.lie.pod, .int .i64 q.lie.mtu, .int .i64 q.lie.link, .int .i64 q.lie.nonce, .int .i64 q.lie.seen, .int .i64 q.lie.seenLink, .int .i64 q.lie.seenNonce, .int .i64 q.lie.hold, .bool q.lie.rep, .bool q.lie.noOffer, .int .i64 q.tie.head.id.dir, .int .i64 q.tie.head.id.orig, .int .i64 q.tie.head.id.kind, .int .i64 q.tie.head.id.nr, .int .i64 q.tie.head.seq, .int .i64 q.tie.head.life, .int .i64 q.tie.level, .bool q.tie.over, .slice Ae q.tie.edges.length Ce, .slice Ar q.tie.reaches.length Cr, .int .i64 q.frm.dir, .int .i64 q.frm.orig, .int .i64 q.frm.kind, .int .i64 q.frm.nr, .int .i64 q.to.dir, .int .i64 q.to.orig, .int .i64 q.to.kind, .int .i64 q.to.nr, .slice Ah q.heads.length Ch]).heap.size)); have FA := Lib.hid (hfar.mono B2.out.size); clear hb3 hpk hfar)
    | (refine wpList_store_mid rfl 34 (.tmp 6) (.tmp 20) rfl w3.heap.size 0 #[.int .i64 q.kind, .int .i64 q.lie.node, .int .i64 q.lie.level, .int .i64 q.lie.pod, .int .i64 q.lie.mtu, .int .i64 q.lie.link, .int .i64 q.lie.nonce, .int .i64 q.lie.seen, .int .i64 q.lie.seenLink, .int .i64 q.lie.seenNonce, .int .i64 q.lie.hold, .bool q.lie.rep, .bool q.lie.noOffer, .int .i64 q.tie.head.id.dir, .int .i64 q.tie.head.id.orig, .int .i64 q.tie.head.id.kind, .int .i64 q.tie.head.id.nr, .int .i64 q.tie.head.seq, .int .i64 q.tie.head.life, .int .i64 q.tie.level, .bool q.tie.over, .slice Ae q.tie.edges.length Ce, .slice Ar q.tie.reaches.length Cr, .int .i64 q.frm.dir, .int .i64 q.frm.orig, .int .i64 q.frm.kind, .int .i64 q.frm.nr, .int .i64 q.to.dir, .int .i64 q.to.orig, .int .i64 q.to.kind, .int .i64 q.to.nr, .slice Ah q.heads.length Ch] rfl rfl TH4.out (by kernel_rfl) (by simp [Value.oneCell']) ?_; obtain ⟨W4, hW4⟩ : ∃ W4, ((w3.alloc (.cells #[.int .i64 0, .int .i64 0, .int .i64 0, .int .i64 0, .int .i64 0, .int .i64 0, .int .i64 0, .int .i64 0, .int .i64 0, .int .i64 0, .int .i64 0, .bool false, .bool false, .int .i64 0, .int .i64 0, .int .i64 0, .int .i64 0, .int .i64 0, .int .i64 0, .int .i64 0, .bool false, .slice none 0 0, .slice none 0 0, .int .i64 0, .int .i64 0, .int .i64 0, .int .i64 0, .int .i64 0, .int .i64 0, .int .i64 0, .int .i64 0, .slice none 0 0] 34)).setCells w3.heap.size 0 [.int .i64 q.kind, .int .i64 q.lie.node, .int .i64 q.lie.level, .int .i64 q.lie.pod, .int .i64 q.lie.mtu, .int .i64 q.lie.link, .int .i64 q.lie.nonce, .int .i64 q.lie.seen, .int .i64 q.lie.seenLink, .int .i64 q.lie.seenNonce, .int .i64 q.lie.hold, .bool q.lie.rep, .bool q.lie.noOffer, .int .i64 q.tie.head.id.dir, .int .i64 q.tie.head.id.orig, .int .i64 q.tie.head.id.kind, .int .i64 q.tie.head.id.nr, .int .i64 q.tie.head.seq, .int .i64 q.tie.head.life, .int .i64 q.tie.level, .bool q.tie.over, .slice Ae q.tie.edges.length Ce, .slice Ar q.tie.reaches.length Cr, .int .i64 q.frm.dir, .int .i64 q.frm.orig, .int .i64 q.frm.kind, .int .i64 q.frm.nr, .int .i64 q.to.dir, .int .i64 q.to.orig, .int .i64 q.to.kind, .int .i64 q.to.nr, .slice Ah q.heads.length Ch]) = W4 := ⟨_, rfl⟩; rw [hW4] at BX0 PK0 RG0 ⊢; have BX := Lib.hid BX0.out; have PK := Lib.hid PK0.out; have RG := Lib.hid RG0.out; clear hW4 BX0 PK0 RG0)
    | (refine wpList_load_mid rfl 34 (.tmp 6) rfl _ _ rfl _ _ RG.out Tryd.underlying34 rfl (by kernel_rfl) ?_)
    | (refine wpList_store_mid rfl 34 (.tmp 2) _ rfl w.heap.size 0 #[.int .i64 q.kind, .int .i64 q.lie.node, .int .i64 q.lie.level, .int .i64 q.lie.pod, .int .i64 q.lie.mtu, .int .i64 q.lie.link, .int .i64 q.lie.nonce, .int .i64 q.lie.seen, .int .i64 q.lie.seenLink, .int .i64 q.lie.seenNonce, .int .i64 q.lie.hold, .bool q.lie.rep, .bool q.lie.noOffer, .int .i64 q.tie.head.id.dir, .int .i64 q.tie.head.id.orig, .int .i64 q.tie.head.id.kind, .int .i64 q.tie.head.id.nr, .int .i64 q.tie.head.seq, .int .i64 q.tie.head.life, .int .i64 q.tie.level, .bool q.tie.over, .slice Ae q.tie.edges.length Ce, .slice Ar q.tie.reaches.length Cr, .int .i64 q.frm.dir, .int .i64 q.frm.orig, .int .i64 q.frm.kind, .int .i64 q.frm.nr, .int .i64 q.to.dir, .int .i64 q.to.orig, .int .i64 q.to.kind, .int .i64 q.to.nr, .slice Ah q.heads.length Ch] rfl rfl (there_keep (n := 32) HK.out (Nat.le_refl _) BX.out (by simp)) (by kernel_rfl) (by simp [Value.oneCell']) ?_; obtain ⟨W5, hW5⟩ : ∃ W5, World.setCells W4 w.heap.size 0 [.int .i64 q.kind, .int .i64 q.lie.node, .int .i64 q.lie.level, .int .i64 q.lie.pod, .int .i64 q.lie.mtu, .int .i64 q.lie.link, .int .i64 q.lie.nonce, .int .i64 q.lie.seen, .int .i64 q.lie.seenLink, .int .i64 q.lie.seenNonce, .int .i64 q.lie.hold, .bool q.lie.rep, .bool q.lie.noOffer, .int .i64 q.tie.head.id.dir, .int .i64 q.tie.head.id.orig, .int .i64 q.tie.head.id.kind, .int .i64 q.tie.head.id.nr, .int .i64 q.tie.head.seq, .int .i64 q.tie.head.life, .int .i64 q.tie.level, .bool q.tie.over, .slice Ae q.tie.edges.length Ce, .slice Ar q.tie.reaches.length Cr, .int .i64 q.frm.dir, .int .i64 q.frm.orig, .int .i64 q.frm.kind, .int .i64 q.frm.nr, .int .i64 q.to.dir, .int .i64 q.to.orig, .int .i64 q.to.kind, .int .i64 q.to.nr, .slice Ah q.heads.length Ch] = W5 := ⟨_, rfl⟩; rw [hW5]; have HW5 := Lib.hid hW5; clear hW5))
  refine bodyPost_ret (results_cell2 rfl rfl (b := w.heap.size) (o := 0) (cs := [.int .i64 q.kind, .int .i64 q.lie.node, .int .i64 q.lie.level, .int .i64 q.lie.pod, .int .i64 q.lie.mtu, .int .i64 q.lie.link, .int .i64 q.lie.nonce, .int .i64 q.lie.seen, .int .i64 q.lie.seenLink, .int .i64 q.lie.seenNonce, .int .i64 q.lie.hold, .bool q.lie.rep, .bool q.lie.noOffer, .int .i64 q.tie.head.id.dir, .int .i64 q.tie.head.id.orig, .int .i64 q.tie.head.id.kind, .int .i64 q.tie.head.id.nr, .int .i64 q.tie.head.seq, .int .i64 q.tie.head.life, .int .i64 q.tie.level, .bool q.tie.over, .slice Ae q.tie.edges.length Ce, .slice Ar q.tie.reaches.length Cr, .int .i64 q.frm.dir, .int .i64 q.frm.orig, .int .i64 q.frm.kind, .int .i64 q.frm.nr, .int .i64 q.to.dir, .int .i64 q.to.orig, .int .i64 q.to.kind, .int .i64 q.to.nr, .slice Ah q.heads.length Ch]) (by rw [← HW5.out]; exact World.rangeAt_setCells_same _ _ _ _ (there_keep (n := 32) HK.out (Nat.le_refl _) BX.out (by simp))) Tryd.underlying34 rfl (by kernel_rfl)) rfl ?_
  exact DecOut.some_ HD.out (by have h5 := PK.out.apart (B := w.heap.size) FA.out (by simp) 0 [.int .i64 q.kind, .int .i64 q.lie.node, .int .i64 q.lie.level, .int .i64 q.lie.pod, .int .i64 q.lie.mtu, .int .i64 q.lie.link, .int .i64 q.lie.nonce, .int .i64 q.lie.seen, .int .i64 q.lie.seenLink, .int .i64 q.lie.seenNonce, .int .i64 q.lie.hold, .bool q.lie.rep, .bool q.lie.noOffer, .int .i64 q.tie.head.id.dir, .int .i64 q.tie.head.id.orig, .int .i64 q.tie.head.id.kind, .int .i64 q.tie.head.id.nr, .int .i64 q.tie.head.seq, .int .i64 q.tie.head.life, .int .i64 q.tie.level, .bool q.tie.over, .slice Ae q.tie.edges.length Ce, .slice Ar q.tie.reaches.length Cr, .int .i64 q.frm.dir, .int .i64 q.frm.orig, .int .i64 q.frm.kind, .int .i64 q.frm.nr, .int .i64 q.to.dir, .int .i64 q.to.orig, .int .i64 q.to.kind, .int .i64 q.to.nr, .slice Ah q.heads.length Ch]; rw [← HW5.out, size_cells]; exact h5) (by rw [← HW5.out]; exact below_cells (HB0.out.trans (BX.out.mono (by simp))) (Nat.le_refl _) _ _)
/-- DECODE, of any bytes. -/
theorem wdec_any (a : Option Addr) (cap : Nat) (zs : List Int) (hlen : zs.length ≤ 9223372036854775807) (hcap : zs.length ≤ cap) (hcm : cap ≤ 9223372036854775807) (hz : ∀ x ∈ zs, 0 ≤ x ∧ x ≤ 255) (w : World) (hr : Rd .u8 w.heap.size w a zs) (hT : Tab w) :
    Calls Tryd.prog 8 #[.slice a zs.length cap] w (DecOut (decW zs) w) := by
  rcases hd : decB zs with _ | l
  · exact wdec_form a cap zs hlen hcap hcm hz w hr hd
  rcases Bool.eq_false_or_eq_true (readS (knownP l)).2 with hro | hro
  · exact wdec_ok a cap zs hlen hcap hcm hz w hr hT l hd hro
  · exact wdec_bad a cap zs hlen hcap hcm hz w hr hT l hd hro
end Go.Proofs.YthdlcpnmldhllaaDoor
