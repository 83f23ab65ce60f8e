/-
  THE DOCUMENT's QUEUE in memory: a row of jobs; the place of a key; its At.
-/
import Derived.Test.YtaaaefoanjggcaaQLaw
import Derived.Laws.AppendOwnNone
namespace Go.Proofs.Ytaaaefoanjggcaa
set_option linter.unusedSimpArgs false
set_option linter.unusedVariables false
open Go.RowKit
def NotT (ts : List TypeId) : Obj → Prop
  | .cells _ T _ => T ∉ ts
  | _ => True
/-- All is as it was but cells of some types. -/
def KeepO (ts : List TypeId) (W W' : World) : Prop := W.heap.size ≤ W'.heap.size ∧ ∀ (i : Nat) (o : Obj), NotT ts o → W.heap[i]? = some o → W'.heap[i]? = some o
theorem KeepO.refl (ts : List TypeId) (W : World) : KeepO ts W W := ⟨Nat.le_refl _, fun _ _ _ h => h⟩
theorem KeepO.trans {ts : List TypeId} {X Y Z : World} (h : KeepO ts X Y) (k : KeepO ts Y Z) : KeepO ts X Z := ⟨Nat.le_trans h.1 k.1, fun i o hs hc => k.2 i o hs (h.2 i o hs hc)⟩
theorem KeepO.below {ts : List TypeId} {X Y : World} (h : Below X.heap.size X Y) : KeepO ts X Y := ⟨h.size, fun i _ _ hc => (h.block i (Array.getElem?_eq_some_iff.1 hc).1).trans hc⟩
theorem KeepO.setCell {ts : List TypeId} {X : World} {b i : Nat} {cs : Array Value} {T : TypeId} {fr : Nat × Nat} (hb : X.heap[b]? = some (.cells cs T fr)) (hT : T ∈ ts) (v : Value) : KeepO ts X (X.setCell ⟨b, i, none⟩ v) :=
  ⟨by simp, fun k o hs hc => by
    have hne : k ≠ b := fun e => by rw [e, hb] at hc; cases hc; exact hs hT
    rw [heap_setCell_other _ _ _ _ hne]; exact hc⟩
theorem KeepO.more {ts us : List TypeId} {X Y : World} (h : KeepO ts X Y) (hs : ∀ t ∈ ts, t ∈ us) : KeepO us X Y := ⟨h.1, fun i o ho hc => h.2 i o (by
  cases o with
  | cells c T f => exact fun hT => ho (hs _ hT)
  | _ => trivial) hc⟩
theorem KeepO.cells {ts : List TypeId} {X Y : World} (h : KeepO ts X Y) {i : Nat} {cs : Array Value} {T : TypeId} {fr : Nat × Nat} (hT : T ∉ ts) (hc : X.heap[i]? = some (.cells cs T fr)) : Y.heap[i]? = some (.cells cs T fr) := h.2 i _ hT hc
/-- The document's queue. -/
structure RQ (W : World) (base rb : Nat) (R : List Job) (v : Value) : Prop where
  box : W.heap[rb]? = some (.cells #[v] 41 (0, 0))
  own : OwnJ 30 W base v R
  le : base ≤ rb
  nd : Nd R
  len : R.length ≤ 1000
  base : base ≤ W.heap.size
  keys : ∀ y ∈ R, InI y.k
def RefP (W : World) (base rb : Nat) (R : List Job) : Prop := ∃ v, RQ W base rb R v
section
variable {W W' w : World} {base rb : Nat} {R : List Job} {v : Value}
theorem RQ.same (h : RQ W base rb R v) (hs : W.heap.size ≤ W'.heap.size) (k : ∀ (i : Nat) (cs : Array Value) (T : TypeId) (fr : Nat × Nat), (T = 41 ∨ T = 30) → W.heap[i]? = some (Obj.cells cs T fr) → W'.heap[i]? = some (Obj.cells cs T fr)) : RQ W' base rb R v := by
  refine ⟨k _ _ _ _ (.inl rfl) h.box, ?_, h.le, h.nd, h.len, Nat.le_trans h.base hs, h.keys⟩
  refine ⟨h.own.1, ?_⟩
  rcases h.own.2 with h2 | ⟨g, cap, cur, e, hg, hh, r⟩
  · exact .inl h2
  · exact .inr ⟨g, cap, cur, e, hg, k _ _ _ _ (.inr rfl) hh, r⟩
theorem RQ.below (h : RQ W base rb R v) (k : Below W.heap.size W W') : RQ W' base rb R v := h.same k.size fun i cs T fr _ hc => (k.block i (Array.getElem?_eq_some_iff.1 hc).1).trans hc
theorem RefP.below (h : RefP W base rb R) (k : Below W.heap.size W W') : RefP W' base rb R := by
  obtain ⟨v, h⟩ := h
  exact ⟨v, h.below k⟩
theorem RefP.keepQ (h : RefP W base rb R) (k : KQ W W') : RefP W' base rb R := by
  obtain ⟨v, h⟩ := h
  refine ⟨v, h.same k.1 fun i cs T fr hT hc => k.2 i cs T fr ?_ ?_ hc⟩
  · rintro rfl
    rcases hT with e | e
    · revert e; decide
    · revert e; decide
  · rintro rfl
    rcases hT with e | e
    · revert e; decide
    · revert e; decide
theorem RQ.cells (h : RQ W base rb R v) : W.cell? ⟨rb, 0, none⟩ = some v ∧ W.frozen? ⟨rb, 0, none⟩ = false ∧ rb < W.heap.size := by
  have hb := h.box
  exact ⟨by simp [World.cell?, hb], by simp [World.frozen?, hb], (Array.getElem?_eq_some_iff.1 hb).1⟩
theorem Newed.keepO {u : World} {n B : Nat} {ts : List TypeId} (h : Newed u n R W) (k : KeepO ts W W') (h1 : 51 ∉ ts) (h2 : 54 ∉ ts) (hb : Below B W W') (hB : u.heap.size ≤ B) : Newed u n R W' := by
  obtain ⟨g, ⟨l, ⟨⟨f, a, v, q⟩, c⟩, d⟩, b⟩ := h
  refine ⟨g, ⟨l, ⟨⟨f, a, v, q.same fun i hi hs => ?_⟩, c⟩, d⟩, b.trans (hb.mono hB)⟩
  rcases hs with rfl | rfl | hs
  · rw [q.box]; exact k.2 _ _ h1 q.box
  · obtain ⟨es, c, hm⟩ := q.map.isMap
    rw [hm]; exact k.2 _ _ trivial hm
  · have hr := q.row
    rw [← hs] at hr
    rcases q.own.2 with ⟨e2, _⟩ | ⟨g2, cap, cur, e2, _, hh, _⟩
    · rw [e2] at hr; cases hr
    · rw [e2] at hr
      injection hr with hr
      have hr : g2 = i := hr
      subst hr
      rw [hh]; exact k.2 _ _ h2 hh
end
/-- Where the first job of a key stands. -/
def plc (R : List Job) (key : Int) : Nat := (R.takeWhile fun y => decide (y.k ≠ key)).length
theorem plc_spec {R : List Job} {key : Int} : (∀ a, getR R key = some a → plc R key < R.length ∧ at' R (plc R key) = ⟨key, a⟩) ∧ (getR R key = none → plc R key = R.length) ∧ ∀ j, j < plc R key → (at' R j).k ≠ key := by
  induction R with
  | nil => exact ⟨fun a h => by simp [getR] at h, fun _ => rfl, fun j h => by simp [plc] at h⟩
  | cons y R ih =>
    obtain ⟨i1, i2, i3⟩ := ih
    by_cases e : y.k = key
    · have ep : plc (y :: R) key = 0 := by unfold plc; rw [List.takeWhile_cons]; simp [e]
      have eg : getR (y :: R) key = some y.a := by unfold getR; rw [List.find?_cons]; simp [e]
      rw [ep, eg]
      refine ⟨fun a h => ?_, fun h => (by cases h), fun j h => (by omega)⟩
      injection h with h
      subst h
      refine ⟨by simp, ?_⟩
      rw [← e]
      rfl
    · have ep : plc (y :: R) key = plc R key + 1 := by unfold plc; rw [List.takeWhile_cons]; simp [e]
      have eg : getR (y :: R) key = getR R key := by unfold getR; rw [List.find?_cons, decide_eq_false e]
      rw [ep, eg]
      have hat : ∀ j, at' (y :: R) (j + 1) = at' R j := fun j => by unfold at'; simp
      refine ⟨fun a h => ?_, fun h => ?_, fun j h => ?_⟩
      · obtain ⟨a1, a2⟩ := i1 a h
        exact ⟨by simpa using a1, by rw [hat]; exact a2⟩
      · rw [i2 h]; rfl
      · cases j with
        | zero => exact e
        | succ j => rw [hat]; exact i3 j (by omega)
def plcV (R : List Job) (key : Int) : Int := if plc R key < R.length then (plc R key : Int) else -1
theorem plcV_some {R : List Job} {key a : Int} (h : getR R key = some a) : plcV R key = (plc R key : Int) := if_pos (plc_spec.1 a h).1
theorem plcV_none {R : List Job} {key : Int} (h : getR R key = none) : plcV R key = -1 := if_neg (by have := plc_spec.2.1 h; omega)
set_option maxHeartbeats 1000000 in
theorem rplace_any {base rb : Nat} {R : List Job} (w : World) (h : RefP w base rb R) (key : Int) :
    Calls Try.prog 23 #[.pointer (some ⟨rb, 0, none⟩), .int .i64 key] w fun e w' => e = .returned (.int .i64 (plcV R key)) ∧ w = w' := by
  obtain ⟨v, h⟩ := h
  obtain ⟨c0, f0, hrb⟩ := h.cells
  obtain ⟨a, c, rfl⟩ := h.own.shape
  have hspec := (plc_spec (R := R) (key := key)).2.2
  obtain ⟨hp, hpe⟩ : ∃ p, plc R key = p := ⟨_, rfl⟩
  have hle : hp ≤ R.length := by rw [← hpe]; unfold plc; exact (List.takeWhile_prefix _).length_le
  have hstop : hp < R.length → (at' R hp).k = key := fun hlt => by
    cases hg : getR R key with
    | none => have := plc_spec.2.1 hg; omega
    | some a => rw [← hpe, (plc_spec.1 a hg).2]
  have hv : plcV R key = if hp < R.length then (hp : Int) else -1 := by unfold plcV; rw [hpe]
  rw [hpe] at hspec
  rw [hv]
  have hlen := h.len
  have hcell : ∀ j, j < R.length → ∃ b, a = some ⟨b, 0, none⟩ ∧ R.length ≤ c ∧ w.cell? ⟨b, j * 2, none⟩ = some (.int .i64 (at' R j).k) := fun j hj => by
    have ho := h.own
    rcases h.own.form with ⟨_, e⟩ | ⟨b, cap, e, _, _, hcap, _⟩
    · rw [e] at hj; simp at hj
    · injection e with e1 e2 e3
      subst e1 e3
      exact ⟨b, rfl, hcap, (ho.cell (at_some hj)).1⟩
  obtain ⟨len, hl⟩ : ∃ len, R.length = len := ⟨_, rfl⟩
  rw [hl] at c0 hle hstop hlen hcell ⊢
  have HS := Lib.hid hspec
  have HT := Lib.hid hstop
  have HC := Lib.hid hcell
  clear h hspec hstop hcell hv hpe hl
  go_enter Try.func23, Try.ntmps23
  go_wp2
  go_loop [5] (fun i => ∃ k : Nat, i = .int .i64 k ∧ k ≤ hp) (fun i => len - (intOf i).toNat)
  case atStart => exact ⟨0, rfl, Nat.zero_le _⟩
  case round =>
    obtain ⟨k, rfl, hk⟩ := hrel
    by_cases hlt : k < len
    · obtain ⟨b, rfl, hcap, x0⟩ := HC.out k hlt
      by_cases e : k = hp
      · subst e
        have hkk := HT.out hlt
        rw [hkk] at x0
        go_wp2
        go_ret
        exact ⟨rfl, rfl⟩
      · have hne : ((at' R k).k == key) = false := by simpa using HS.out k (by omega)
        generalize (at' R k).k = kk at *
        go_wp2
        go_round
        case rel => exact ⟨k + 1, by go_num, by omega⟩
        case measure => simp [intOf]; omega
    · obtain rfl : k = len := by omega
      obtain rfl : k = hp := by omega
      go_wp2
      go_ret
      exact ⟨rfl, rfl⟩
set_option maxHeartbeats 1000000 in
theorem rat_any {base rb : Nat} {R : List Job} (w : World) (h : RefP w base rb R) (key : Int) :
    Calls Try.prog 18 #[.pointer (some ⟨rb, 0, none⟩), .int .i64 key] w fun e w' => e = .returned (.tuple #[.int .i64 ((getR R key).getD 0), .bool (getR R key).isSome]) ∧ w = w' := by
  have hpl := rplace_any w h key
  obtain ⟨v, h⟩ := h
  obtain ⟨c0, f0, hrb⟩ := h.cells
  obtain ⟨a, c, rfl⟩ := h.own.shape
  cases hg : getR R key with
  | none =>
    rw [plcV_none hg] at hpl
    simp only [Option.getD_none, Option.isSome_none]
    clear h hg
    go_enter Try.func18, Try.ntmps18
    go_wp2_with (go_at_call 23; refine hpl.mono ?_; rintro e w1 ⟨rfl, rfl⟩)
    go_ret2
    exact ⟨rfl, rfl⟩
  | some x =>
    rw [plcV_some hg] at hpl
    obtain ⟨h1, h2⟩ := plc_spec.1 x hg
    have hlen := h.len
    have ho := h.own
    obtain ⟨b, rfl, hcap, x0⟩ : ∃ b, a = some ⟨b, 0, none⟩ ∧ R.length ≤ c ∧ w.cell? ⟨b, plc R key * 2 + 1, none⟩ = some (.int .i64 x) := by
      rcases h.own.form with ⟨_, e⟩ | ⟨b, cap, e, _, _, hcap, _⟩
      · rw [e] at h1; simp at h1
      · injection e with e1 e2 e3
        subst e1 e3
        have := (ho.cell (at_some h1)).2
        rw [h2] at this
        exact ⟨b, rfl, hcap, this⟩
    simp only [Option.getD_some, Option.isSome_some]
    generalize plc R key = p at *
    generalize R.length = len at *
    clear h hg ho
    go_enter Try.func18, Try.ntmps18
    go_wp2_with (go_at_call 23; refine hpl.mono ?_; rintro e w1 ⟨rfl, rfl⟩)
    go_ret2
    exact ⟨rfl, rfl⟩
end Go.Proofs.Ytaaaefoanjggcaa
